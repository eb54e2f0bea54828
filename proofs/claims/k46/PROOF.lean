import PyProof.Rows.All
import Wide.All
import OpenK.AllK
import Wide.FinOn
import Lean
import PyProof.EqAt
import PyProof.EqKinds
import PyProof.TupleCall
import PyProof.Rows.BitMore
import KE.IntBitsLaws
import KE.KRevIter
import KE.KTryMore
import PyProof.StrLawsRepr
import KE.KIsAll
import KE.RegKIsAll
import KE.RegKTryMore
import PyProof.StrCalls2
import PyProof.StrLawsTight
import PyProof.StrLawsChain
import PyProof.Rows.StrItems
import PyProof.Rows.StrWeight2
import PyProof.EnumMake
import PyProof.EnumStmt
import PyProof.Rows.EnumRows
import PyProof.Rows.ZipGen
import PyProof.Rows.FactsT2
import PyProof.IsiH_list
import PyProof.AttrMiss
import KE.KDictOf
import PyProof.IsiH_tuple
import PyProof.Rows.EqDataRows
import PyProof.P3Eq
import PyProof.Rows.SortRev
import KE.KSortTup
import PyProof.StrWalks
import KE.KIntText
import KE.IntTextLaws
import PyProof.CallStr
import KE.KDictSum
import PyProof.SumWalk
import PyProof.Rows.InDataRows
import KE.KDictList
import KE.KEqDict
import PyProof.Rows.SetFrom
import PySem.Challenge.RW_manymakes_k46_kinds_by_bodies
set_option Elab.async false
set_option maxRecDepth 100000
set_option linter.all false
set_option maxHeartbeats 4000000
section
open PySem PySem.Spec PyProof.Rows PySem.W
theorem cT:0<=sizeLine:=by decide
theorem ij:1<=sizeLine:=by decide
theorem bg:2<=sizeLine:=by decide
theorem gL:3<=sizeLine:=by decide
theorem oY:4<=sizeLine:=by decide
theorem sS:5<=sizeLine:=by decide
theorem Qa:type_of% @wpAny_bind:=@wpAny_bind
theorem Qb:type_of% @List.getElem?_eq_getElem:=@List.getElem?_eq_getElem
theorem Qc{α:Type _}{l:List α}{i:Nat}{a:α}(h:l[i]?=some a):∃h:i<l.length,l[i]=a:=List.getElem?_eq_some_iff.mp h
theorem Qd:type_of% @List.getD_eq_getElem?_getD:=@List.getD_eq_getElem?_getD
theorem Qe:type_of% @wpAny_pure:=@wpAny_pure
theorem Qf:type_of% @Heap.get?_push_of_some:=@Heap.get?_push_of_some
theorem Qg:type_of% @List.length_map:=@List.length_map
theorem Qh:type_of% @Nat.le_refl:=@Nat.le_refl
theorem Qi:type_of% @List.length_append:=@List.length_append
theorem Qj{α:Type _}{a b:α}(h:a∈[b]):a=b:=List.mem_singleton.mp h
theorem Qk:type_of% @decide_eq_false:=@decide_eq_false
theorem Ql:type_of% @List.getElem?_append_left:=@List.getElem?_append_left
theorem Qm:type_of% @Heap.get?_push_size:=@Heap.get?_push_size
theorem Qn:type_of% @decide_eq_true:=@decide_eq_true
theorem Qo:type_of% @List.take_succ_eq_append_getElem:=@List.take_succ_eq_append_getElem
theorem Qp:type_of% @List.size_toArray:=@List.size_toArray
theorem Qq:type_of% @List.mem_of_getElem?:=@List.mem_of_getElem?
theorem Qr:type_of% @List.getElem?_map:=@List.getElem?_map
theorem Qs:type_of% @Option.some.inj:=@Option.some.inj
theorem Qt:type_of% @Heap.lt_size:=@Heap.lt_size
theorem Qu:type_of% @List.mem_append_right:=@List.mem_append_right
theorem Qv{α:Type _}{l r:List α}{a:α}(h:a∈l++r):a∈l∨a∈r:=List.mem_append.mp h
theorem Qw:type_of% @List.getElem?_append_right:=@List.getElem?_append_right
theorem Qx{α:Type _}{l:List α}{a b:α}(h:a∈b::l):a=b∨a∈l:=List.mem_cons.mp h
theorem Qy:type_of% @Nat.zero_le:=@Nat.zero_le
theorem Qz:type_of% @Bool.false_ne_true:=@Bool.false_ne_true
theorem QA:type_of% @List.append_nil:=@List.append_nil
theorem QB:type_of% @Nat.ne_of_lt:=@Nat.ne_of_lt
theorem QC:type_of% @List.take_of_length_le:=@List.take_of_length_le
theorem QD:type_of% @List.map_append:=@List.map_append
theorem QE:type_of% @Nat.lt_of_le_of_lt:=@Nat.lt_of_le_of_lt
theorem QF:type_of% @Int.toNat_natCast:=@Int.toNat_natCast
theorem QG:type_of% @List.mem_cons_of_mem:=@List.mem_cons_of_mem
theorem QH:type_of% @List.length_take:=@List.length_take
theorem QI:type_of% @Nat.lt_of_lt_of_le:=@Nat.lt_of_lt_of_le
theorem QJ{α β:Type _}{f:α->β}{l:List α}{b:β}(h:b∈l.map f):∃a,a∈l∧f a=b:=List.mem_map.mp h
theorem QK:type_of% @List.mem_cons_self:=@List.mem_cons_self
theorem QL:type_of% @Bool.and_eq_true:=@Bool.and_eq_true
theorem QM:type_of% @Array.length_toList:=@Array.length_toList
theorem QN:type_of% @List.getElem_mem:=@List.getElem_mem
theorem QO:type_of% @of_decide_eq_true:=@of_decide_eq_true
theorem QP:type_of% @List.length_singleton:=@List.length_singleton
theorem QQ:type_of% @List.mem_append_left:=@List.mem_append_left
theorem QR:type_of% @Nat.le_trans:=@Nat.le_trans
theorem QS:type_of% @Bool.false_eq_true:=@Bool.false_eq_true
theorem QT:type_of% @Nat.le_of_lt:=@Nat.le_of_lt
theorem QU:type_of% @List.length_cons:=@List.length_cons
theorem QV:type_of% @wpAny_mono:=@wpAny_mono
theorem QW:type_of% @Heap.get?_update_ne:=@Heap.get?_update_ne
theorem QX:type_of% @List.append_assoc:=@List.append_assoc
theorem QY:type_of% @List.map_map:=@List.map_map
end
section
open PySem PySem.W
noncomputable def Mm.hdTr{α:Type}(_:α):Prop:=True
noncomputable def Mm.hdPk{α:Type}(s:α)(_:Mm.hdTr s):α:=s
theorem Mm.hdOf{α:Type}{a s:α}(_:a=s):Mm.hdTr s:=trivial
abbrev K46.g(i:Nat):Stmt:=PySem.Challenge.pw_manymakes_k46_kinds_by_bodies.main.body.getD i (Stmt.Pass ⟨0,0,0,0⟩)
namespace K46
open Mm
noncomputable def t0:Stmt:=hdPk (Stmt.Assign _ _ _) (hdOf (a:=g 0) rfl)
noncomputable def t1:Stmt:=hdPk (Stmt.FunctionDef _ _ _ _ _ _ _ _ _ _) (hdOf (a:=g 1) rfl)
noncomputable def t2:Stmt:=hdPk (Stmt.FunctionDef _ _ _ _ _ _ _ _ _ _) (hdOf (a:=g 2) rfl)
noncomputable def t3:Stmt:=hdPk (Stmt.FunctionDef _ _ _ _ _ _ _ _ _ _) (hdOf (a:=g 3) rfl)
noncomputable def t4:Stmt:=hdPk (Stmt.FunctionDef _ _ _ _ _ _ _ _ _ _) (hdOf (a:=g 4) rfl)
noncomputable def t5:Stmt:=hdPk (Stmt.FunctionDef _ _ _ _ _ _ _ _ _ _) (hdOf (a:=g 5) rfl)
noncomputable def t6:Stmt:=hdPk (Stmt.FunctionDef _ _ _ _ _ _ _ _ _ _) (hdOf (a:=g 6) rfl)
noncomputable def t7:Stmt:=hdPk (Stmt.Assign _ _ _) (hdOf (a:=g 7) rfl)
noncomputable def t8:Stmt:=hdPk (Stmt.FunctionDef _ _ _ _ _ _ _ _ _ _) (hdOf (a:=g 8) rfl)
noncomputable def t9:Stmt:=hdPk (Stmt.FunctionDef _ _ _ _ _ _ _ _ _ _) (hdOf (a:=g 9) rfl)
noncomputable def t10:Stmt:=hdPk (Stmt.FunctionDef _ _ _ _ _ _ _ _ _ _) (hdOf (a:=g 10) rfl)
noncomputable def t11:Stmt:=hdPk (Stmt.FunctionDef _ _ _ _ _ _ _ _ _ _) (hdOf (a:=g 11) rfl)
noncomputable def t12:Stmt:=hdPk (Stmt.FunctionDef _ _ _ _ _ _ _ _ _ _) (hdOf (a:=g 12) rfl)
noncomputable def t13:Stmt:=hdPk (Stmt.FunctionDef _ _ _ _ _ _ _ _ _ _) (hdOf (a:=g 13) rfl)
noncomputable def t14:Stmt:=hdPk (Stmt.Assign _ _ _) (hdOf (a:=g 14) rfl)
noncomputable def t15:Stmt:=hdPk (Stmt.Assign _ _ _) (hdOf (a:=g 15) rfl)
noncomputable def t16:Stmt:=hdPk (Stmt.FunctionDef _ _ _ _ _ _ _ _ _ _) (hdOf (a:=g 16) rfl)
noncomputable def t17:Stmt:=hdPk (Stmt.FunctionDef _ _ _ _ _ _ _ _ _ _) (hdOf (a:=g 17) rfl)
noncomputable def t18:Stmt:=hdPk (Stmt.FunctionDef _ _ _ _ _ _ _ _ _ _) (hdOf (a:=g 18) rfl)
noncomputable def t19:Stmt:=hdPk (Stmt.FunctionDef _ _ _ _ _ _ _ _ _ _) (hdOf (a:=g 19) rfl)
noncomputable def t20:Stmt:=hdPk (Stmt.Assign _ _ _) (hdOf (a:=g 20) rfl)
noncomputable def t21:Stmt:=hdPk (Stmt.Assign _ _ _) (hdOf (a:=g 21) rfl)
noncomputable def t22:Stmt:=hdPk (Stmt.Assign _ _ _) (hdOf (a:=g 22) rfl)
noncomputable def t23:Stmt:=hdPk (Stmt.ClassDef _ _ _ _ _ _ _ _ _ _ _) (hdOf (a:=g 23) rfl)
noncomputable def t24:Stmt:=hdPk (Stmt.FunctionDef _ _ _ _ _ _ _ _ _ _) (hdOf (a:=g 24) rfl)
noncomputable def t25:Stmt:=hdPk (Stmt.FunctionDef _ _ _ _ _ _ _ _ _ _) (hdOf (a:=g 25) rfl)
noncomputable def t26:Stmt:=hdPk (Stmt.FunctionDef _ _ _ _ _ _ _ _ _ _) (hdOf (a:=g 26) rfl)
noncomputable def t27:Stmt:=hdPk (Stmt.FunctionDef _ _ _ _ _ _ _ _ _ _) (hdOf (a:=g 27) rfl)
noncomputable def t28:Stmt:=hdPk (Stmt.FunctionDef _ _ _ _ _ _ _ _ _ _) (hdOf (a:=g 28) rfl)
noncomputable def t29:Stmt:=hdPk (Stmt.Assign _ _ _) (hdOf (a:=g 29) rfl)
noncomputable def t30:Stmt:=hdPk (Stmt.FunctionDef _ _ _ _ _ _ _ _ _ _) (hdOf (a:=g 30) rfl)
noncomputable def t31:Stmt:=hdPk (Stmt.FunctionDef _ _ _ _ _ _ _ _ _ _) (hdOf (a:=g 31) rfl)
noncomputable def t32:Stmt:=hdPk (Stmt.FunctionDef _ _ _ _ _ _ _ _ _ _) (hdOf (a:=g 32) rfl)
noncomputable def t33:Stmt:=hdPk (Stmt.FunctionDef _ _ _ _ _ _ _ _ _ _) (hdOf (a:=g 33) rfl)
noncomputable def t34:Stmt:=hdPk (Stmt.FunctionDef _ _ _ _ _ _ _ _ _ _) (hdOf (a:=g 34) rfl)
noncomputable def t35:Stmt:=hdPk (Stmt.FunctionDef _ _ _ _ _ _ _ _ _ _) (hdOf (a:=g 35) rfl)
noncomputable def t36:Stmt:=hdPk (Stmt.FunctionDef _ _ _ _ _ _ _ _ _ _) (hdOf (a:=g 36) rfl)
noncomputable def t37:Stmt:=hdPk (Stmt.FunctionDef _ _ _ _ _ _ _ _ _ _) (hdOf (a:=g 37) rfl)
noncomputable def t38:Stmt:=hdPk (Stmt.FunctionDef _ _ _ _ _ _ _ _ _ _) (hdOf (a:=g 38) rfl)
noncomputable def t39:Stmt:=hdPk (Stmt.FunctionDef _ _ _ _ _ _ _ _ _ _) (hdOf (a:=g 39) rfl)
noncomputable def t40:Stmt:=hdPk (Stmt.FunctionDef _ _ _ _ _ _ _ _ _ _) (hdOf (a:=g 40) rfl)
noncomputable def t41:Stmt:=hdPk (Stmt.FunctionDef _ _ _ _ _ _ _ _ _ _) (hdOf (a:=g 41) rfl)
end K46
noncomputable def K46.sc:Scope:=Mm.hdPk (Scope.mk _ _ _ _ _) (Mm.hdOf (a:=PySem.Challenge.pw_manymakes_k46_kinds_by_bodies.main.scope) rfl)
open K46 in
noncomputable def K46.pw:Program:=Mm.hdPk (Program.mk (Module.mk (t0::t1::t2::t3::t4::t5::t6::t7::t8::t9::t10::t11::t12::t13::t14::t15::t16::t17::t18::t19::t20::t21::t22::t23::t24::t25::t26::t27::t28::t29::t30::t31::t32::t33::t34::t35::t36::t37::t38::t39::t40::t41::List.nil) K46.sc _ _ _) _ _ _ _ _) (Mm.hdOf (a:=PySem.Challenge.pw_manymakes_k46_kinds_by_bodies) rfl)
noncomputable def K46.rw:OpenLaw:=Mm.hdPk {prog:=K46.pw,name:=_,about:=_,foot:=_,most:=_,bound:=_,writes:=_} (Mm.hdOf (a:=PySem.Challenge.rw_manymakes_k46_kinds_by_bodies) rfl)
theorem K46.rwe:K46.rw=PySem.Challenge.rw_manymakes_k46_kinds_by_bodies:=rfl
end
section
open PySem PySem.W PyProof.Rows
theorem K46.pwe:PySem.Challenge.pw_manymakes_k46_kinds_by_bodies=K46.pw:=rfl
open K46 in
noncomputable def K46.vw:Program:={K46.pw with main:={K46.pw.main with body:=t1::t2::t3::t4::t5::t6::t8::t9::t10::t11::t12::t13::t14::t16::t17::t18::t19::t21::t22::t23::t24::t25::t26::t27::t28::t30::t31::t32::t33::t34::t35::t36::t37::t38::t39::t40::t41::List.nil} }
theorem Mm.keepIt(_:Hook){p:Prop}(h:p):p:=h
section
local macro_rules | `(tactic| o_head $H)=>`(tactic| exact Mm.keepIt $H (by assumption))
set_option maxHeartbeats 0 in
theorem K46.pre(h:(OpenLaw.row PySem.Challenge.rw_manymakes_k46_kinds_by_bodies).Holds):(OpenLaw.row PySem.Challenge.rw_manymakes_k46_kinds_by_bodies).Holds:=by k_head
end
def K46.as:List Addr:=[2,3,15,17,18,20,21,22,24,25,27,28,29,31,32,34,35,36,39,40,41,43,44,46,47,48,51,52,53,56,57,58,61,62,63,65,66,68,69,70,73,74,75,78,79,80,83,84,85,86,88,89,91,92,93,95,96,98,99,100,102,103,105,106,107,109,110,112,113,114,115,123,125,126,128,129,130,132,133,135,136,137,139,140,142,143,144,147,148,149,152,153,154,156,157,159,160,161,163,164,166,167,168,171,172,173,175,176,178,179,180,183,184,185,186,187,188,189,192,195,196,197,199,200,202,203,204,206,207,209,210,211,213,214,216,217,218,221,222,223,225,226,228,229,230,232,233,235,236,237,240,241,242,244,245,247,248,249,252,253,254,257,258,259,261,262,264,265,266,268,269,271,272,273,275,276,278,279,280,283,284,285,287,288,290,291,292,294,295,297,298]
theorem K46.ase(P:Params):K46.as=(K46.pre.heap_1 P).map (·.1):=by kernel_rfl
theorem Mm.both_true{a b:Bool}(h:(a&&b)=true):a=true/\b=true:=by cases a<;>cases b<;>simp_all
noncomputable abbrev K46.xt:Shared->Bool:=λs=>(xlAt K46.vw [] s)&&(recOk (RowW.records (OpenRow.toRowW (OpenLaw.row K46.rw))) s)
noncomputable def K46.oe(w:World):Option Shared:=
 (importEnds treeTable (opening K46.pw) w 3840 (start (opening K46.pw)).1 (start (opening K46.pw)).2).bind λs=>(fenceModules? K46.pw s).bind λs₀ =>
 match s₀.heap.isNs mainGlobals&&s₀.gens.size==0 with
 | true=>(topRun treeTable K46.pw w s₀.heap.objs.size (s₀.heap.nsMap mainGlobals "__annotations__") 3840 s₀ (topStub K46.pw)).bind fun s₁=>match staticsOk (importedModules K46.pw.main.body) s₀.heap s₁.heap&&namesBound K46.pw s₁.heap&&gensDone s₁&&laidKept s₀.heap s₁.heap with
   |true=>some s₁
   |false=>none
 |false=>none
theorem Mm.bindAss{α β γ:Type}(o:Option α)(f:α->Option β)(g:β->Option γ):(o.bind f).bind g=o.bind λs=>(f s).bind g:=by cases o<;>rfl
theorem K46.oe_eq(w:World):openEnds treeTable PySem.Challenge.pw_manymakes_k46_kinds_by_bodies w 3840=K46.oe w:=by rw[K46.pwe];show((importEnds _ _ _ _ _ _).bind _).bind _=_;rw[Mm.bindAss];rfl
abbrev Yb:List PySem.Str:=["_law_number","_law_known","_law_heads_here","_law_names_here","_law_deep"]
abbrev Yc:List PySem.Str:=["_law_e","_law_known","_law_heads_here","_law_names_here","_law_wrong"]
abbrev Yd:List PySem.Str:=["_law_cells","_law_at","_law_known","_law_head","_law_heads_here","_law_names_here","_law_due"]
abbrev Ye:List PySem.Str:=["_law_row_here","_law_known","_law_head","_law_heads_here","_law_names_here","_law_due"]
abbrev Yg:List PySem.Str:=["_law_number","_law_at","_law_known","_law_head","_law_heads_here","_law_names_here"]
abbrev Yh:List PySem.Str:=["self","statements","names","due"]
abbrev Yi:List PySem.Str:=["self","mask","e","due","at","names"]
abbrev Yj:List PySem.Str:=["self","mask","e","at","names"]
abbrev Yk:List PySem.Str:=["self","mask","e","word","at","names"]
abbrev Yl:List PySem.Str:=["_law_e","_law_heads_here","_law_names_here"]
abbrev Ym:List PySem.Str:=["tree","mask"]
abbrev Yn:List PySem.Str:=["self","one","kinds","names","due"]
abbrev Yo:List PySem.Str:=["self","mask","kind","field","at"]
abbrev Yp:List PySem.Str:=["_law_script"]
abbrev Yq:List PySem.Str:=["self","mask","at","what"]
abbrev Yr:List PySem.Str:=["_law_script","_law_names_here"]
abbrev Ys:List PySem.Str:=["_law_script","_law_k"]
abbrev Yt:List PySem.Str:=["self","one","kinds","names"]
abbrev Yu:List PySem.Str:=["found","key","mask"]
abbrev Yv:List PySem.Str:=["self","mask","one"]
abbrev Yw:List PySem.Str:=["here","one"]
abbrev Yx:List PySem.Str:=["_law_cell","_law_k"]
abbrev Yy:List PySem.Str:=["one","mask"]
abbrev Yz:List PySem.Str:=["mask","other"]
abbrev YA:List PySem.Str:=["pairs","mask"]
abbrev YB:List PySem.Str:=["mask","at","what"]
abbrev YC:List PySem.Str:=["_law_part","_law_param"]
abbrev YD:List PySem.Str:=["kinds","due"]
abbrev YE:List PySem.Str:=["self","tree"]
abbrev YF:List PySem.Str:=["num","truth"]
abbrev YG:List PySem.Str:=["MAKES","ASKS"]
noncomputable def K46.ga(w:World):=Option.map (openSeen K46.vw YG (importedModules K46.pw.main.body) K46.xt true) (K46.oe w)
noncomputable def K46.gb:=some (openGood K46.vw YG)
noncomputable def K46.oa(w:World):Option (List (Option Obj)):=Option.map (λs=>K46.as.map s.heap.get?) (K46.oe w)
def Mm.hdTt{α:Type}(_:α):Bool:=true
theorem K46.lay1:Mm.hdTt K46.ga=true:=by k_qdec
theorem K46.lay2:Mm.hdTt K46.gb=true:=by k_qdec
theorem K46.lay3:Mm.hdTt K46.oa=true:=by k_qdec
theorem K46.la0(w:World):PySem.W.Fast.tw6926796423621988209 (w.withFollow "special-get-raises" false)=PySem.W.Fast.tw18066997698472493823:=by kernel_rfl
theorem K46.lb0(w:World):PySem.W.Fast.tw8519773051628284074 (w.withFollow "special-get-raises" false)=some ((K46.pre.heap_1 (w.withFollow "special-get-raises" false).params).map λp=>some p.2):=by kernel_rfl
theorem K46.la1(w:World):PySem.W.Fast.tw6926796423621988209 (w.withFollow "special-get-raises" true)=PySem.W.Fast.tw18066997698472493823:=by kernel_rfl
theorem K46.lb1(w:World):PySem.W.Fast.tw8519773051628284074 (w.withFollow "special-get-raises" true)=some ((K46.pre.heap_1 (w.withFollow "special-get-raises" true).params).map λp=>some p.2):=by kernel_rfl
theorem K46.la(w:World):PySem.W.Fast.tw6926796423621988209 w=PySem.W.Fast.tw18066997698472493823:=byRow2 "special-get-raises" (P:=λw=>PySem.W.Fast.tw6926796423621988209 w=PySem.W.Fast.tw18066997698472493823) K46.la0 K46.la1 w
theorem K46.lb(w:World):PySem.W.Fast.tw8519773051628284074 w=some ((K46.pre.heap_1 w.params).map λp=>some p.2):=byRow2 "special-get-raises" (P:=λw=>PySem.W.Fast.tw8519773051628284074 w=some ((K46.pre.heap_1 w.params).map λp=>some p.2)) K46.lb0 K46.lb1 w
theorem Mm.twoM{α β γ:Type}{o:Option α}{f:α->β}{g:α->γ}{b:β}{c:γ}(h1:o.map f=some b)(h2:o.map g=some c):o.map (λs=>(f s,g s))=some (b,c):=by
 cases o with
 |none=>cases h1
 |some s =>
  have h1:=Qs h1;have h2:=Qs h2;show some (f s,g s)=_;rw[h1,h2]
theorem K46.left:LeftO PySem.Challenge.pw_manymakes_k46_kinds_by_bodies K46.vw YG K46.xt (kHook K46.pre.heap_1 K46.as K46.ase).obs (kHook K46.pre.heap_1 K46.as K46.ase).val 3840:=λw=>by rw[K46.oe_eq];exact Mm.twoM ((congrFun PySem.W.Fast.te6926796423621988209 w).trans ((K46.la w).trans PySem.W.Fast.te18066997698472493823.symm)) ((congrFun PySem.W.Fast.te8519773051628284074 w).trans (K46.lb w))
end
namespace L2
theorem gM{p:Prop}(h:∀G:Prop,(p->G)->G):p:=h p id
theorem hid2.{u,v} {α:Sort u} {β:Sort v} {p:α->β->Prop} (c:α) (y:β) (h:∀G:α->β->Prop,(∀a b,p a b->G a b)->G c y):p c y:=h p λ_ _ x=>x
end L2
namespace L2
open PySem PySem.Spec PyProof.Rows
abbrev ae:=Sum Int Str
noncomputable def jA:ae->Value->Bool
 |.inl k,v=>Value.isInt k v
 |.inr x,v=>Value.isStrOf x v
noncomputable def zS(w:World):ae->Int
 |.inl k=>hashInt k
 |.inr x=>hashStr w x
theorem gl:∀{k:ae} {v:Value},jA k v=true->(∃i t,k=Sum.inl i/\v=Value.int i t)∨(∃x t,k=Sum.inr x/\v=Value.str x t)
 |.inl i,v,h=>by obtain⟨t,e⟩:=Value.isInt_shape (k:=i) (v:=v) h;exact .inl ⟨i,t,rfl,e⟩
 |.inr x,v,h=>by obtain⟨t,e⟩:=Value.isStrOf_shape (x:=x) (v:=v) h;exact .inr ⟨x,t,rfl,e⟩
theorem zT(i:Int)(t:Tok):jA (.inl i) (.int i t)=true:=by simp[jA,Value.isInt]
theorem zU(x:Str)(t:Tok):jA (.inr x) (.str x t)=true:=by simp[jA,Value.isStrOf]
theorem zV(a b:Int):decide ((Sum.inl a:ae)=Sum.inl b)=(a==b):=by
 by_cases e:a=b
 ·subst e;simp
 have h:¬(Sum.inl a:ae)=Sum.inl b:=λq=>e (Sum.inl.inj q);rw[Qk h];exact(beq_eq_false_iff_ne.mpr e).symm
theorem zW(a b:Str):decide ((Sum.inr a:ae)=Sum.inr b)=decide (a=b):=by
 by_cases e:a=b
 ·subst e;simp
 have h:¬(Sum.inr a:ae)=Sum.inr b:=λq=>e (Sum.inr.inj q);rw[Qk h,Qk e]
theorem zX(a:Int)(b:Str):decide ((Sum.inl a:ae)=Sum.inr b)=false:=Qk (λq=>nomatch q)
theorem zY(a:Str)(b:Int):decide ((Sum.inr a:ae)=Sum.inl b)=false:=Qk (λq=>nomatch q)
noncomputable def bX(prog:Program)(w:World):PySem.KeyKind prog w ae where
 is:=jA
 hash:=zS w
 inj:=λv a b ha hb=>by
  rcases gl ha with ⟨i,t,rfl,rfl⟩|⟨x,t,rfl,rfl⟩
  ·rcases gl hb with ⟨j,u,rfl,e⟩|⟨y,u,rfl,e⟩
   ·injection e with e1 _;rw[e1]
   exact nomatch e
  rcases gl hb with ⟨j,u,rfl,e⟩|⟨y,u,rfl,e⟩
  ·exact nomatch e
  injection e with e1 _;rw[e1]
 byValue:=λk v h=>by rcases gl h with ⟨i,t,rfl,rfl⟩|⟨x,t,rfl,rfl⟩<;>rfl
 pyHash:=λhv h=>by
  rcases gl hv with ⟨i,t,rfl,rfl⟩|⟨x,t,rfl,rfl⟩
  ·exact wpAny_pyHash_int h
  exact wpAny_pyHash_str h
 eqBool:=λhu hv h=>by
  rcases gl hu with ⟨i,t,rfl,rfl⟩|⟨x,t,rfl,rfl⟩
  ·rcases gl hv with ⟨j,u,rfl,rfl⟩|⟨y,u,rfl,rfl⟩
   ·rw[zV] at h;exact wpAny_eqBool_int h
   rw[zX] at h;exact SeqAt.EqAt.int_str i t y u _ _ _ _ h
  rcases gl hv with ⟨j,u,rfl,rfl⟩|⟨y,u,rfl,rfl⟩
  ·rw[zY] at h;exact SeqAt.EqAt.str_int x t j u _ _ _ _ h
  rw[zW] at h;exact wpAny_eqBool_str h
 «strs»:=λk x t v h=>by
  rcases gl h with ⟨i,u,rfl,e⟩|⟨y,u,rfl,e⟩
  ·exact nomatch e
  injection e with e1 _;subst e1;cases v<;>rfl
theorem zZ(prog:Program)(w:World)(i:Int)(t:Tok):(bX prog w).is (.inl i) (.int i t)=true:=zT i t
theorem mx(prog:Program)(w:World)(x:Str)(t:Tok):(bX prog w).is (.inr x) (.str x t)=true:=zU x t
inductive V where
 |non|bl (b:Bool)|int (i:Int)|str (x:Str)|byt (b:Array UInt8)|flt (b:UInt64)|ref (a:Addr)|ty (n:String)
 deriving DecidableEq
def RelV:V->Value->Prop
 |.non,u=>u=Value.none
 |.bl b,u=>u=Value.bool b
 |.int i,u=>∃t,u=Value.int i t
 |.str x,u=>∃t,u=Value.str x t
 |.byt b,u=>∃t,u=Value.bytes b t
 |.flt b,u=>∃t,u=Value.float b t
 |.ref a,u=>u=Value.ref a
 |.ty n,u=>u=Value.type n
abbrev az:List V->List Value->Prop:=Paired RelV
theorem az.length{xs:List V}{us:List Value}(r:az xs us):xs.length=us.length:=Paired.length r
theorem az.get:∀{xs:List V} {us:List Value} {i:Nat} {x:V},az xs us->xs[i]?=some x->∃u,us[i]?=some u/\RelV x u
 |_,_,_,_,.nil,e=>by simp at e
 |_,_,0,_,.cons r _,e=>by simp at e;subst e;exact⟨_,rfl,r⟩
 |_,_,i+1,x,.cons _ t,e=>by obtain⟨u,h1,h2⟩:=az.get (i:=i) (x:=x) t (by simpa using e);exact⟨u,by simpa using h1,h2⟩
theorem az.append:∀{xs ys:List V} {us ws:List Value},az xs us->az ys ws->az (xs++ys) (us++ws)
 |_,_,_,_,.nil,s=>s
 |_,_,_,_,.cons r t,s=>.cons r (az.append t s)
theorem az.take:∀{xs:List V} {us:List Value} (n:Nat),az xs us->az (xs.take n) (us.take n)
 |_,_,0,_=>.nil
 |_,_,_+1,.nil=>.nil
 |_,_,n+1,.cons r t=>.cons r (az.take n t)
theorem az.drop:∀{xs:List V} {us:List Value} (n:Nat),az xs us->az (xs.drop n) (us.drop n)
 |_,_,0,r=>r
 |_,_,_+1,.nil=>.nil
 |_,_,n+1,.cons _ t=>az.drop n t
def dv:Option V->Option Value->Prop
 |some v,some u=>RelV v u
 |none,none=>True
 |_,_=>False
def KV{κ:Type}:List (κ×V)->List (κ×Value)->Prop:=Paired λ(p:κ×V) (q:κ×Value)=>p.1=q.1/\RelV p.2 q.2
noncomputable def kV:ae->V
 |.inl i=>.int i
 |.inr x=>.str x
inductive HO where
 |lst (xs:List V)
 |tup (xs:List V)
 |dK (kvs:List (ae×V))|dT (kvs:List (List ae×V))
 |set (S:Int->Bool) (n:Nat)
 |ins (C dx:Addr) (fs:List (Str×V))
 |own (x:Addr)
 |xd (fs:List (Str×V))
 |met (f x:Addr)
 |rng (lo hi:Int)
 |frz (o:Obj) (u:HO)
 |tbl (ps:Array Value)
 |ext (φ:Heap->Prop)
abbrev Hp:=Addr->Option HO
noncomputable def ag(H:Hp)(a:Addr)(o:HO):Hp:=λb=>if b=a then some o else H b
theorem ah:ag H a o a=some o:=by unfold ag;rw[if_pos rfl]
theorem ay(h:b≠a):ag H a o b=H b:=by unfold ag;rw[if_neg h]
theorem z0{H:Hp}{a b:Addr}{o u:HO}(h:H a=some o)(h':H b=some u)(d:o≠u):a≠b:=by intro e;subst e;rw[h] at h';exact d (Qs h')
theorem eQ{H:Hp}{a b:Addr}{o:HO}(h:H a=some o)(h':H b=none):a≠b:=by intro e;subst e;rw[h] at h';cases h'
def jB(h:Heap)(a:Addr):Prop:=∃o:Obj,h.get? a=some o/\o.dict=none
theorem jB.new(h:Heap)(items:Array Value):jB (h.push {cls:=.type "tuple",data:=.seq items}) h.objs.size:=⟨_,Qm _ rfl,rfl⟩
section
variable (P:Program)(w:World)
def bI(H:Hp)(h:Heap)(a:Addr):HO->Prop
 |.lst xs=>xs.length<=sizeLine/\∃(its:List Value) (n:Nat),az xs its/\h.get? a=some {cls:=.type "list",data:=.seq its.toArray n}
 |.tup xs=>xs.length<=sizeLine/\∃its:List Value,az xs its/\IsTup h a its.toArray/\jB h a
 |.dK kvs=>kvs.length<=sizeLine/\(a==sysModules)=false/\∃vs,KV kvs vs/\h.DictOf (bX P w) a vs
 | .dT kvs=>kvs.length<=sizeLine/\(a == sysModules)=false/\∃ xs:List (List ae × Addr × Value),
   Paired (λ(p:List ae×V) (q:List ae×Addr×Value)=>p.1=q.1/\H q.2.1=some (.tup (p.1.map kV))/\RelV p.2 q.2.2) kvs xs /\
   ∃o es ep,h.get? a=some o/\o.ExactDict/\o.data=.dict es ep/\es.toList=xs.map (entryOfKey (tupleKind (bX P w)))/\(xs.map (·.1)).Nodup
 |.set S n=>h.SetOf (intKind P w) a S n
 | .ins C dx fs=>H dx=some (.own a)/\fs.length<=1000/\dx≠a/\h.get? a=some (PySem.W.instObj C dx) /\
   ∃mA,h.Ns1 dx mA/\(∀f,dv (fs.lookup f) (mA f))/\PySem.Within mA (fs.map (·.1))
 |.own _=>∃o,h.get? a=some o
 |.xd fs=>∃mA,h.Ns1 a mA/\∀f,dv (fs.lookup f) (mA f)
 |.rng lo hi=>∃t u v,h.get? a=some {cls:=.type "range",data:=.fields #[.int lo t,.int hi u,.int 1 v]}
 |.frz o u=>h.get? a=some o/\bI H h a u
 |.tbl ps=>h.get? a=some {cls:=.none,data:=.fields ps}
 |.met f x=>h.get? a=some (PySem.W.methodObj (.ref f) (.ref x))
 |.ext φ=>φ h/\(∃o,h.get? a=some o)/\∀h1 h2:Heap,φ h1->(∀o,h1.get? a=some o->h2.get? a=some o)->φ h2
def bJ(H:Hp)(h:Heap):Prop:=∀a o,H a=some o->bI P w H h a o
end
section
variable {P:Program}{w:World}{H H':Hp}{h h':Heap}{a:Addr}{o:HO}
theorem bI.lt(x:bI P w H h a o):a<h.objs.size:=by
 cases o with
 |lst xs=>obtain⟨_,_,_,_,e⟩:=x;exact Qt e
 |tup xs=>obtain⟨_,_,_,p,_⟩:=x;exact p.lt
 |dK kvs=>obtain⟨_,_,_,_,o,_,_,e,_⟩:=x;exact Qt e
 |dT kvs=>obtain⟨_,_,_,_,o,_,_,e,_⟩:=x;exact Qt e
 |set S n=>obtain⟨o,_,_,_,e,_⟩:=x;exact Qt e
 |ins C dx fs=>obtain⟨_,_,_,e,_⟩:=x;exact Qt e
 |own y=>obtain⟨_,e⟩:=x;exact Qt e
 |xd fs=>obtain⟨_,⟨_,_,_,e,_⟩,_⟩:=x;exact Qt e
 |rng lo hi=>obtain⟨_,_,_,e⟩:=x;exact Qt e
 |frz ob u=>obtain⟨e,_⟩:=x;exact Qt e
 |tbl ps=>exact Qt (show h.get? a=some _ from x)
 |met f y=>exact Qt (show h.get? a=some _ from x)
 |ext φ=>obtain⟨_,⟨_,e⟩,_⟩:=x;exact Qt e
theorem Paired.mapP{α β:Type}{F G:α->β->Prop}:∀{l₁:List α} {l₂:List β},Paired F l₁ l₂->(∀a b,F a b->G a b)->Paired G l₁ l₂
 |_,_,.nil,_=>.nil
 |_,_,.cons r t,f=>.cons (f _ _ r) (Paired.mapP t f)
theorem bI.stay(x:bI P w H h a o)(k:∀b u,(b=a∨H b=some (.own a))->h.get? b=some u->h'.get? b=some u)
  (ho:∀b,H b=some (.own a)->H' b=some (.own a)) (ht:∀b xs,H b=some (.tup xs)->H' b=some (.tup xs)):bI P w H' h' a o:=by
 induction o with
 |lst xs=>obtain⟨z,its,n,r,e⟩:=x;exact⟨z,its,n,r,k _ _ (.inl rfl) e⟩
 |tup xs=>obtain⟨z,its,r,⟨ob,e,c⟩,ob2,e2,c2⟩:=x;exact⟨z,its,r,⟨ob,k _ _ (.inl rfl) e,c⟩,ob2,k _ _ (.inl rfl) e2,c2⟩
 |dK kvs=>obtain⟨z,y,vs,r,ob,es,ep,e,c⟩:=x;exact⟨z,y,vs,r,ob,es,ep,k _ _ (.inl rfl) e,c⟩
 |dT kvs =>
  obtain⟨z,y,xs,r,ob,es,ep,e,c⟩:=x;exact⟨z,y,xs,Paired.mapP r λp q z=>⟨z.1,ht _ _ z.2.1,z.2.2⟩,ob,es,ep,k _ _ (.inl rfl) e,c⟩
 |set S n=>obtain⟨ob,es,ep,t,e,c⟩:=x;exact⟨ob,es,ep,t,k _ _ (.inl rfl) e,c⟩
 |ins C dx fs =>
  obtain⟨d,z,ne,e,mA,⟨od,es,ep,e2,c⟩,r⟩:=x;exact⟨ho _ d,z,ne,k _ _ (.inl rfl) e,mA,⟨od,es,ep,k _ _ (.inr d) e2,c⟩,r⟩
 |own y=>obtain⟨ob,e⟩:=x;exact⟨ob,k _ _ (.inl rfl) e⟩
 |xd fs=>obtain⟨mA,⟨od,es,ep,e,c⟩,r⟩:=x;exact⟨mA,⟨od,es,ep,k _ _ (.inl rfl) e,c⟩,r⟩
 |rng lo hi=>obtain⟨t,u,v,e⟩:=x;exact⟨t,u,v,k _ _ (.inl rfl) e⟩
 |frz ob u ih=>obtain⟨e,q⟩:=x;exact⟨k _ _ (.inl rfl) e,ih q⟩
 |tbl ps =>
  have e:h.get? a=some {cls:=.none,data:=.fields ps}:=x;show h'.get? a=some {cls:=.none,data:=.fields ps};exact k a _ (.inl rfl) e
 |met f y =>
  have e:h.get? a=some (PySem.W.methodObj (.ref f) (.ref y)):=x;show h'.get? a=some (PySem.W.methodObj (.ref f) (.ref y));exact k a _ (.inl rfl) e
 |ext φ=>obtain⟨p,⟨o,e⟩,st⟩:=x;exact⟨st _ _ p λo q=>k _ _ (.inl rfl) q,⟨o,k _ _ (.inl rfl) e⟩,st⟩
theorem bJ.lt(x:bJ P w H h)(e:H a=some o):a<h.objs.size:=(x a o e).lt
theorem bJ.fresh(x:bJ P w H h)(e:h.objs.size<=a):H a=none:=by
 cases q:H a with
 |none=>rfl
 |some u=>exact absurd (QI (x.lt q) e) (Nat.lt_irrefl _)
theorem bJ.kept(x:bJ P w H h)(k:∀b u,h.get? b=some u->h'.get? b=some u):bJ P w H h':=λa o e =>
 (x a o e).stay (λb u _ q=>k b u q) (λ_ q=>q) λ_ _ q=>q
theorem bJ.laid(x:bJ P w H h)(k:∀b u,h.get? b=some u->h'.get? b=some u)(hp:h.objs.size<=a)(new:bI P w (ag H a o) h' a o):bJ P w (ag H a o) h':=λb u e=>by
 have hn:=x.fresh hp;by_cases hb:b=a
 ·subst hb;rw[ah] at e;cases e;exact new
 rw[ay hb] at e;exact(x b u e).stay (λc v _ q=>k c v q) (λc q=>by rw[ay (eQ q hn)];exact q) λc xs q=>by rw[ay (eQ q hn)];exact q
end
def Rd(H:Hp)(a:Addr)(u:HO):Prop:=H a=some u∨∃o,H a=some (.frz o u)
theorem Rd.ok{w:World}(r:Rd H a u)(x:bJ P w H h):bI P w H h a u:=by
 rcases r with r|⟨o,r⟩
 ·exact x a u r
 obtain⟨_,q⟩:=x a _ r;exact q
def kR:Option HO->Prop
 |some (.lst _)=>True
 |some (.dK _)=>True
 |some (.dT _)=>True
 |some (.set _ _)=>True
 |some (.ins _ _ _)=>True
 |some (.ext _)=>True
 |_=>False
section
variable {P:Program}{w:World}{H:Hp}{h h':Heap}{x e:Addr}{o':HO}
theorem bJ.write(ok:bJ P w H h)(mu:kR (H x))(he:e=x∨H e=some (.own x))(k:∀b u,b≠e->h.get? b=some u->h'.get? b=some u)(heo:∃u,h'.get? e=some u)
  (new:bI P w (ag H x o') h' x o'):bJ P w (ag H x o') h':=λb u q=>by
 have nown:∀c y,H c=some (.own y)->c≠x:=λc y r z=>by subst z;rw[r] at mu;exact mu
 have ntup:∀c xs,H c=some (.tup xs)->c≠x:=λc xs r z=>by subst z;rw[r] at mu;exact mu
 by_cases hb:b=x
 ·subst hb;rw[ah] at q;cases q;exact new
 rw[ay hb] at q;by_cases hbe:b=e
 ·have q':H b=some (.own x):=by
   rcases he with z|z
   ·exact absurd (hbe.trans z) hb
   rw[hbe];exact z
  rw[q] at q';cases q';obtain⟨v,hv⟩:=heo;exact⟨v,by rw[hbe];exact hv⟩
 refine(ok b u q).stay (λc v hc r=>k c v ?_ r) (λc r=>by rw[ay (nown c b r)];exact r) λc xs r=>by rw[ay (ntup c xs r)];exact r
 rcases hc with rfl|hc
 ·exact hbe
 rintro rfl;rcases he with z|z
 ·exact nown c b hc z
 rw[hc] at z;cases z;exact hb rfl
end
structure Un(fs ex:List Addr)(H H':Hp)(h h':Heap):Prop where
 keep:∀b o,h.get? b=some o->H b=none->b∉fs->b∉ex->h'.get? b=some o
 slot:∀b o,h.get? b=some o->H b=none->b∈fs->b∉ex->∃sl,h'.get? b=some {o with slots:=sl}
 free:∀b o,h.get? b=some o->H b=none->b∉ex->H' b=none
 there:∀b o,h.get? b=some o->b∉ex->∃o',h'.get? b=some o'
 tups:∀b xs,H b=some (.tup xs)->H' b=some (.tup xs)
 frzs:∀b o u,H b=some (.frz o u)->H' b=some (.frz o u)
 tbls:∀b ps,H b=some (.tbl ps)->∃more,H' b=some (.tbl (ps++more))
section
variable {fs fs' ex ex':List Addr}{H H1 H2:Hp}{h h1 h2 h':Heap}{a x e:Addr}{o:HO}
theorem Un.any(u:Un fs ex H H1 h h1)(q:h.get? b=some ob)(n:H b=none)(hx:b∉ex):∃sl,h1.get? b=some {ob with slots:=sl}:=by
 by_cases hb:b∈fs
 ·exact u.slot b ob q n hb hx
 exact⟨ob.slots,u.keep b ob q n hb hx⟩
theorem Un.kept(k:∀b u,h.get? b=some u->h'.get? b=some u):Un fs ex H H h h':=
 ⟨λb ob q _ _ _=>k b ob q,λb ob q _ _ _=>⟨ob.slots,k b ob q⟩,λ_ _ _ n _=>n,λb ob q _=>⟨ob,k b ob q⟩,λ_ _ q=>q,λ_ _ _ q=>q,λ_ ps q=>⟨#[],by rw[q];simp⟩⟩
theorem Un.refl:Un fs ex H H h h:=Un.kept λ_ _ q=>q
theorem Un.laid(k:∀b u,h.get? b=some u->h'.get? b=some u)(hp:h.objs.size<=a)(hn:H a=none):Un fs ex H (ag H a o) h h' where
 keep:=λb u q _ _ _=>k b u q
 slot:=λb u q _ _ _=>⟨u.slots,k b u q⟩
 free:=λb u q n _=>by rw[ay (QB (QI (Qt q) hp))];exact n
 there:=λb u q _=>⟨u,k b u q⟩
 tups:=λb xs q=>by rw[ay (eQ q hn)];exact q
 frzs:=λb u xs q=>by rw[ay (eQ q hn)];exact q
 tbls:=λb ps q=>⟨#[],by rw[ay (eQ q hn),q];simp⟩
theorem Un.write(mu:kR (H x))(he:e=x∨H e=some (.own x))(k:∀b u,b≠e->h.get? b=some u->h'.get? b=some u)(heo:∃u,h'.get? e=some u):Un fs ex H (ag H x o) h h':=by
 have hx:∀b,H b=none->b≠x:=λb n z=>by subst z;rw[n] at mu;exact mu
 have hb:∀b,H b=none->b≠e:=λb n z=>by
  subst z;rcases he with r|r
  ·exact hx b n r
  rw[n] at r;cases r
 have hm:∀b u,H b=some u->¬kR (some u)->b≠x:=λb u q nm z=>by subst z;rw[q] at mu;exact nm mu
 refine⟨λb u q n _ _=>k b u (hb b n) q,λb u q n _ _=>⟨u.slots,k b u (hb b n) q⟩,λb u q n _=>by rw[ay (hx b n)];exact n,λb u q _=>?_,
  λb xs q=>by rw[ay (hm b _ q λz=>z)];exact q,λb u xs q=>by rw[ay (hm b _ q λz=>z)];exact q,λb ps q=>⟨#[],by rw[ay (hm b _ q λz=>z),q];simp⟩⟩
 by_cases hbe:b=e
 ·subst hbe;exact heo
 exact⟨u,k b u hbe q⟩
end
noncomputable def my(h:Heap)(H:Hp):List Addr:=(List.range h.objs.size).filter λa=>(H a).isSome
noncomputable def gN(h:Heap)(H:Hp):Heap:=PySem.W.hideAll h (my h H)
theorem z3(h:Heap)(H:Hp):(gN h H).objs.size=h.objs.size:=PySem.W.hideAll_size _ _
theorem z4{h:Heap}(e:h.get? b=some o)(n:H b=none):(gN h H).get? b=some o:=
 PySem.W.hideAll_get _ e λhm=>by have q:(H b).isSome=true:=(List.mem_filter.mp hm).2;rw[n] at q;simp at q
theorem z5{h:Heap}(e:(gN h H).get? b=some o):h.get? b=some o/\H b=none:=by
 have e':h.get? b=some o:=PySem.W.of_hideAll (my h H) e;refine⟨e',?_⟩
 cases q:H b with
 |none=>rfl
 |some x =>
  have hm:b∈my h H:=List.mem_filter.mpr ⟨List.mem_range.mpr (Qt e'),by simp[q]⟩;have z:(gN h H).get? b=none:=PySem.W.hideAll_none (my h H) hm;rw[z] at e;cases e
structure Mod(K:W.Frag)(mg:Str->Option Value)(base:Heap):Prop where
 kin:K.In base
 glob:base.Ns mainGlobals mg
 blt:∃mb,base.Ns builtinsNs mb/\∀x:Str,x≠"__name__"->mb x=bootBuiltins x
 nolimit:base.NoLimit
structure Cx where
 prog:Program
 w:World
 K:W.Frag
 mg:Str->Option Value
 base:Heap
 A:Around
 N:List Str
 s₀:Shared
 H₀:Hp
 env:Env
 outer:List Env
 stack:List Env
 ex:List Addr
 fn:Str->Bool
 calm:Bool
 pn:List (Addr×Obj)
 xe:Value->Shared->Prop
noncomputable def eY(l:List Env):List Addr:=l.filterMap (·.frame)
noncomputable abbrev Cx.fs(X:Cx):List Addr:=eY X.outer
def oZ(sc:Scope)(x:Str):Prop:=sc.names.lookup x=some .local∨sc.names.lookup x=some .cell∨sc.names.lookup x=some .free
def Loc(sc:Scope)(x:Str):Prop:=sc.names.lookup x=some .local∨sc.names.lookup x=some .cell
def Look(env:Env)(h:Heap)(m:Str->Option Value)(x:Str)(u:Value):Prop:=
 (env.kindOf x=some .local/\m x=some u)∨((env.kindOf x=some .cell∨env.kindOf x=some .free)/\∃c,env.cells.lookup x=some c/\h.IsCell c (some u))
structure Cx.Ok(X:Cx):Prop where
 mod:Mod X.K X.mg X.base
 kind:X.env.scope.kind=.function
 glob:X.env.globals=mainGlobals
 blt:X.env.builtins=builtinsNs
 above:X.s₀.heap.objs.size<=X.env.locals
 inj:∀x y c,X.env.cells.lookup x=some c->X.env.cells.lookup y=some c->x=y
 has:∀x,(X.env.kindOf x=some .cell∨X.env.kindOf x=some .free)->∃c,X.env.cells.lookup x=some c
 cab:∀x c,X.fn x=true->X.env.cells.lookup x=some c->X.s₀.heap.objs.size<=c
 hd:X.calm=true->X.A.handled=none
 frames:X.A.frames=some X.stack
 stk:X.stack=X.outer∨(X.stack=X.env::X.outer/\X.env.frame=some X.env.locals)
 exf:∀b∈X.ex,b≠X.env.locals/\∀x c,X.env.cells.lookup x=some c->c≠b
 bs:∀b o,X.base.get? b=some o->X.s₀.heap.get? b=some o/\X.H₀ b=none
 bsz:X.base.objs.size<=X.s₀.heap.objs.size
 noex:∀b o,X.base.get? b=some o->b∉X.ex
 exfs:∀b∈X.ex,b∉X.fs
 funs:X.s₀.heap.FunFrames X.base X.outer
 frf:∀b∈X.fs,X.H₀ b=none
structure Inv(X:Cx)(HJ:List (Addr×Obj))(σ:List (Option V))(H:Hp)(s:Shared):Prop where
 ok:X.Ok
 os:s.os=X.s₀.os
 bare:AllBare s.gens
 base:Un X.fs X.ex X.H₀ H X.s₀.heap s.heap
 loc:∃m,s.heap.Ns X.env.locals m/\∀(i:Nat) (x:Str) (v:V),X.N[i]?=some x->σ[i]?=some (some v)->oZ X.env.scope x->∃u,RelV v u/\Look X.env s.heap m x u
 cell:∀x c,X.env.cells.lookup x=some c->∃v,s.heap.IsCell c v
 free:H X.env.locals=none
 freeC:∀x c,X.env.cells.lookup x=some c->H c=none
 pin:∀p∈X.pn++HJ,s.heap.get? p.1=some p.2/\H p.1=none/\p.1≠X.env.locals/\p.1∉X.fs/\∀v,p.2.data≠.cell v
 hok:bJ X.prog X.w H s.heap
 len:σ.length=X.N.length
section
variable {X:Cx}{HJ:List (Addr×Obj)}{σ:List (Option V)}{H H':Hp}{s:Shared}{h':Heap}
theorem Cx.Ok.nofr(ok:X.Ok)(e:X.base.get? b=some o):b∉X.fs:=λhb=>by have:=(ok.funs.mem hb).1;rw[e] at this;cases this
theorem Inv.bs(I:Inv X HJ σ H s):∀b o,X.base.get? b=some o->s.heap.get? b=some o/\H b=none:=λb o e =>
 ⟨I.base.keep b o (I.ok.bs b o e).1 (I.ok.bs b o e).2 (I.ok.nofr e) (I.ok.noex b o e),I.base.free b o (I.ok.bs b o e).1 (I.ok.bs b o e).2 (I.ok.noex b o e)⟩
theorem Inv.bk(I:Inv X HJ σ H s):∀b o,X.base.get? b=some o->s.heap.get? b=some o:=λb o e=>(I.bs b o e).1
theorem Inv.mod(I:Inv X HJ σ H s):Mod X.K X.mg X.base:=I.ok.mod
theorem Inv.kIn(I:Inv X HJ σ H s):X.K.In s.heap:=I.ok.mod.kin.keeps I.bk
theorem Inv.lt(I:Inv X HJ σ H s):X.env.locals<s.heap.objs.size:=by obtain⟨_,hn,_⟩:=I.loc;exact hn.lt
theorem Inv.sz(I:Inv X HJ σ H s):X.s₀.heap.objs.size<=s.heap.objs.size:=QR I.ok.above (QT I.lt)
theorem Inv.nofs(I:Inv X HJ σ H s)(h:s.heap.objs.size<=a):a∉X.fs:=λhb=>by obtain⟨_,o,ho,_⟩:=I.ok.funs.mem hb;exact absurd (QI (Qt ho) (QR I.sz h)) (Nat.lt_irrefl _)
theorem Inv.cne(I:Inv X HJ σ H s):∀x c,X.env.cells.lookup x=some c->c≠X.env.locals:=λx c e z=>by obtain⟨v,o,ho,hd⟩:=I.cell x c e;obtain⟨m,⟨o',es,ep,ho',hd',_⟩,_⟩:=I.loc;rw[z,ho'] at ho;cases ho;rw[hd'] at hd;cases hd
theorem Inv.funs(I:Inv X HJ σ H s):s.heap.FunFrames X.base X.outer:=by
 have all:∀(l:List Env),(∀b∈eY l,b∈X.fs)->X.s₀.heap.FunFrames X.base l->s.heap.FunFrames X.base l:=by
  intro l
  induction l with
  |nil=>intro _ _;trivial
  |cons env r ih =>
   intro hs hl;obtain⟨hk,⟨L,o,hf,hn,ho,hd⟩,hr⟩:=hl;have hL:L∈X.fs:=hs L (by unfold eY;rw[List.filterMap_cons,hf];exact QK);obtain⟨sl,e⟩:=I.base.slot L o ho (I.ok.frf L hL) hL λz=>I.ok.exfs L z hL;exact⟨hk,⟨L,_,hf,hn,e,hd⟩,ih (λb hb=>hs b (by unfold eY;rw[List.filterMap_cons,hf];exact QG _ hb)) hr⟩
 exact all X.outer (λ_ hb=>hb) I.ok.funs
theorem Inv.stack(I:Inv X HJ σ H s):s.heap.FunFrames X.base X.stack:=by
 rcases I.ok.stk with e|⟨e,hf⟩
 ·rw[e];exact I.funs
 rw[e];obtain⟨m,hn,_⟩:=I.loc;refine .cons (by rw[I.ok.kind];decide) hf hn ?_ I.funs;exact Heap.get?_none_of_le (QR I.ok.bsz I.ok.above)
theorem Inv.stkSub(I:Inv X HJ σ H s):∀b∈eY X.stack,b∈X.env.locals::X.fs:=λb hb=>by
 rcases I.ok.stk with e|⟨e,hf⟩
 ·rw[e] at hb;exact QG _ hb
 rw[e] at hb;unfold eY at hb;rw[List.filterMap_cons,hf] at hb;exact hb
theorem Inv.stkFree(I:Inv X HJ σ H s):∀b∈eY X.stack,H b=none:=λb hb=>by
 rcases Qx (I.stkSub b hb) with e|hb
 ·rw[e];exact I.free
 obtain⟨_,o,ho,_⟩:=I.ok.funs.mem hb;exact I.base.free b o ho (I.ok.frf b hb) λz=>I.ok.exfs b z hb
theorem Inv.step{g':Array GenState}{t':Nat}{d':Drawn}{ch:List Addr}(I:Inv X HJ σ H s)
  (hch:∀b∈ch,(b∈X.ex∨X.s₀.heap.objs.size<=b)/\b≠X.env.locals/\(∀x c,X.env.cells.lookup x=some c->c≠b)/\∀p∈X.pn++HJ,p.1≠b)
  (keep:∀b o,b≠X.env.locals->b∉X.fs->b∉ch->s.heap.get? b=some o->H b=none->h'.get? b=some o)
  (slot:∀b o,b≠X.env.locals->b∈X.fs->b∉ch->s.heap.get? b=some o->H b=none->∃sl,h'.get? b=some {o with slots:=sl}) (free:∀b o,b∉ch->s.heap.get? b=some o->H b=none->H' b=none)
  (there:∀b o,b∉ch->s.heap.get? b=some o->∃o',h'.get? b=some o')
  (tups:∀b xs,H b=some (.tup xs)->H' b=some (.tup xs)) (frzs:∀b o u,H b=some (.frz o u)->H' b=some (.frz o u)) (tbls:∀b ps,H b=some (.tbl ps)->∃more,H' b=some (.tbl (ps++more)))
  (ns:∀m,s.heap.Ns X.env.locals m->h'.Ns X.env.locals m) (hok:bJ X.prog X.w H' h') (hg:AllBare g') :
  Inv X HJ σ H' {s with heap:=h',gens:=g',drawn:=d',toks:=t'}:=by
 have neL:∀b o,X.s₀.heap.get? b=some o->b≠X.env.locals:=λb o e=>QB (QI (Qt e) I.ok.above)
 have neC:∀b o,X.s₀.heap.get? b=some o->b∉X.ex->b∉ch:=λb o e hx hb=>by
  rcases (hch b hb).1 with z|z
  ·exact hx z
  exact absurd (QI (Qt e) z) (Nat.lt_irrefl _)
 have cellK:∀x c,X.env.cells.lookup x=some c->∀v,s.heap.IsCell c v->h'.IsCell c v:=λx c e v ⟨o,ho,hd⟩=>by
  have nch:c∉ch:=λz=>(hch c z).2.2.1 x c e rfl;by_cases hc:c∈X.fs
  ·obtain⟨sl,q⟩:=slot c o (I.cne x c e) hc nch ho (I.freeC x c e);exact⟨_,q,hd⟩
  exact⟨o,keep c o (I.cne x c e) hc nch ho (I.freeC x c e),hd⟩
 refine⟨I.ok,I.os,hg,⟨λb o e n hb hx=>?_,λb o e n hb hx=>?_,λb o e n hx=>?_,λb o e hx=>?_,λb xs e=>tups b xs (I.base.tups b xs e),λb o xs e=>frzs b o xs (I.base.frzs b o xs e),λb ps e=>?_⟩,?_,λx c e=>?_,?_,λx c e=>?_,λp hp=>?_,hok,I.len⟩
 ·exact keep b o (neL b o e) hb (neC b o e hx) (I.base.keep b o e n hb hx) (I.base.free b o e n hx)
 ·obtain⟨sl,e1⟩:=I.base.slot b o e n hb hx;obtain⟨sl',e2⟩:=slot b _ (neL b o e) hb (neC b o e hx) e1 (I.base.free b o e n hx);exact⟨sl',e2⟩
 ·obtain⟨o',e1⟩:=I.base.there b o e hx;exact free b o' (neC b o e hx) e1 (I.base.free b o e n hx)
 ·obtain⟨o',e1⟩:=I.base.there b o e hx;exact there b o' (neC b o e hx) e1
 ·obtain⟨m1,e1⟩:=I.base.tbls b ps e;obtain⟨m2,e2⟩:=tbls b _ e1;exact⟨m1++m2,by rw[e2,Array.append_assoc]⟩
 ·obtain⟨m,hn,hl⟩:=I.loc;refine⟨m,ns m hn,λi x v e1 e2 e3=>?_⟩;obtain⟨u,r,l⟩:=hl i x v e1 e2 e3;refine⟨u,r,?_⟩
  rcases l with l|⟨k,c,e,z⟩
  ·exact .inl l
  exact .inr ⟨k,c,e,cellK x c e _ z⟩
 ·obtain⟨v,z⟩:=I.cell x c e;exact⟨v,cellK x c e v z⟩
 ·obtain⟨m,⟨o,_,_,ho,_⟩,_⟩:=I.loc;exact free _ o (λz=>(hch _ z).2.1 rfl) ho I.free
 ·obtain⟨v,o,ho,hd⟩:=I.cell x c e;exact free c o (λz=>(hch c z).2.2.1 x c e rfl) ho (I.freeC x c e)
 obtain⟨e,n,ne,nf,d⟩:=I.pin p hp;have nch:p.1∉ch:=λz=>(hch p.1 z).2.2.2 p hp rfl;exact⟨keep p.1 p.2 ne nf nch e n,free p.1 p.2 nch e n,ne,nf,d⟩
theorem Inv.un{t':Nat}(I:Inv X HJ σ H s)(u:Un X.fs [] H H' s.heap h')(hok:bJ X.prog X.w H' h'):Inv X HJ σ H' {s with heap:=h',toks:=t'}:=by
 obtain⟨m,⟨o,es,ep,ho,r⟩,_⟩:=id I.loc;obtain⟨sl,hL⟩:=u.any ho I.free (by simp)
 exact I.step (g':=s.gens) (d':=s.drawn) (ch:=[]) (λ_ z=>nomatch z) (λb o _ hb _ e n=>u.keep b o e n hb (by simp)) (λb o _ hb _ e n=>u.slot b o e n hb (by simp)) (λb o _ e n=>u.free b o e n (by simp)) (λb o _ e=>u.there b o e (by simp)) u.tups u.frzs u.tbls (λm' hm=>by
  obtain⟨o',KP,ep',ho',r'⟩:=hm;rw[ho] at ho';cases ho'
  exact⟨_,KP,ep',hL,r'⟩) hok I.bare
theorem Inv.call{g':Array GenState}{t':Nat}{d':Drawn}{ch:List Addr}(I:Inv X HJ σ H s)(u:Un (eY X.stack) ch H H' s.heap h')(hok:bJ X.prog X.w H' h')(hg:AllBare g')
  (hch:∀b∈ch,(b∈X.ex∨X.s₀.heap.objs.size<=b)/\b≠X.env.locals/\(∀x c,X.env.cells.lookup x=some c->c≠b)/\∀p∈X.pn++HJ,p.1≠b) :
  Inv X HJ σ H' {s with heap:=h',gens:=g',drawn:=d',toks:=t'}:=by
 obtain⟨m,⟨o,es,ep,ho,r⟩,_⟩:=id I.loc;obtain⟨sl,hL⟩:=u.any ho I.free λz=>(hch _ z).2.1 rfl
 exact I.step (ch:=ch) hch (λb o hL hb hc e n=>u.keep b o e n (λz=>(Qx (I.stkSub b z)).elim hL hb) hc) (λb o _ _ hc e n=>u.any e n hc) (λb o hc e n=>u.free b o e n hc) (λb o hc e=>u.there b o e hc) u.tups u.frzs u.tbls (λm' hm=>by
  obtain⟨o',KP,ep',ho',r'⟩:=hm;rw[ho] at ho';cases ho'
  exact⟨_,KP,ep',hL,r'⟩) hok hg
theorem Inv.turned{t':Nat}{it:Addr}(I:Inv X HJ σ H s)(k:∀b o,b≠it->s.heap.get? b=some o->h'.get? b=some o)(hn:H it=none)(hL:it≠X.env.locals)
  (h1:it∈X.ex∨X.s₀.heap.objs.size<=it) (h2:∀x c,X.env.cells.lookup x=some c->c≠it) (h3:∀p∈X.pn++HJ,p.1≠it):Inv X HJ σ H {s with heap:=h',toks:=t'}:=by
 have nit:∀b u,H b=some u->b≠it:=λb u e z=>by rw[z,hn] at e;cases e
 refine I.step (g':=s.gens) (d':=s.drawn) (ch:=[it]) (λb hb=>?_) (λb o _ _ hc e _=>k b o (λz=>hc (by simp[z])) e) (λb o _ _ hc e _=>⟨o.slots,k b o (λz=>hc (by simp[z])) e⟩) (λ_ _ _ _ n=>n)
  (λb o hc e=>⟨o,k b o (λz=>hc (by simp[z])) e⟩) (λ_ _ e=>e) (λ_ _ _ e=>e) (λb ps e=>⟨#[],by rw[e];simp⟩) (λm hm=>?_) (λb u e=>?_) I.bare
 ·have e:b=it:=by simpa using hb
  subst e;exact⟨h1,hL,h2,h3⟩
 ·obtain⟨o,es,ep,ho,r⟩:=hm;exact⟨o,es,ep,k _ o (Ne.symm hL) ho,r⟩
 refine(I.hok b u e).stay (λc v hc q=>k c v ?_ q) (λ_ q=>q) λ_ _ q=>q;rcases hc with z|z
 ·rw[z];exact nit b u e
 exact nit c _ z
theorem Inv.tok(I:Inv X HJ σ H s)(t:Nat):Inv X HJ σ H {s with toks:=t}:=I.un (h':=s.heap) (t':=t) Un.refl I.hok
theorem Inv.kept(I:Inv X HJ σ H s)(k:∀b u,s.heap.get? b=some u->h'.get? b=some u):Inv X HJ σ H {s with heap:=h',toks:=t'}:=I.un (Un.kept k) (I.hok.kept k)
theorem Inv.laid{a:Addr}{o:HO}{t':Nat}(I:Inv X HJ σ H s)(k:∀b u,s.heap.get? b=some u->h'.get? b=some u)(hp:s.heap.objs.size<=a)(new:bI X.prog X.w (ag H a o) h' a o) :
  Inv X HJ σ (ag H a o) {s with heap:=h',toks:=t'}:=I.un (Un.laid k hp (I.hok.fresh hp)) (I.hok.laid k hp new)
theorem Inv.write(I:Inv X HJ σ H s)(mu:kR (H x))(he:e=x∨H e=some (.own x))(k:∀b u,b≠e->s.heap.get? b=some u->h'.get? b=some u)(heo:∃u,h'.get? e=some u)
  (new:bI X.prog X.w (ag H x o) h' x o):Inv X HJ σ (ag H x o) {s with heap:=h',toks:=t'}:=I.un (Un.write mu he k heo) (I.hok.write mu he k heo new)
theorem Inv.pins_of(I:Inv X HJ σ H s)(h:∀p∈pins',s.heap.get? p.1=some p.2/\H p.1=none/\p.1≠X.env.locals/\p.1∉X.fs/\∀v,p.2.data≠.cell v):Inv X pins' σ H s:=
 ⟨I.ok,I.os,I.bare,I.base,I.loc,I.cell,I.free,I.freeC,λp hp=>(Qv hp).elim (λz=>I.pin p (QQ _ z)) (h p),I.hok,I.len⟩
theorem sT{N:List Str}(hN:N.Nodup){i j:Nat}{x:Str}(a:N[i]?=some x)(b:N[j]?=some x):i=j:=by obtain⟨h1,e1⟩:=Qc a;obtain⟨h2,e2⟩:=Qc b;exact(List.getElem_inj hN).mp (e1.trans e2.symm)
theorem o0(I:Inv X HJ σ H s)(hN:X.N.Nodup)(hi:X.N[i]?=some x)(hx:Loc X.env.scope x)(r:RelV v u)
  (h:∀s',Inv X HJ (σ.set i (some v)) H s'->(∃a,Heap.SameBut a s.heap s'.heap/\(a=X.env.locals∨X.env.cells.lookup x=some a))->Q () s') (hf:X.fn x=true∨X.env.scope.names.lookup x=some .local:=by first|exact .inl rfl|exact .inr rfl|assumption):wpAny M A (storeName X.env x u) Q E s:=by
 obtain⟨m,hn,hl⟩:=id I.loc;have hcls:(X.env.scope.kind == .class||(X.env.scope.kind == .module&&X.env.locals != X.env.globals))=false:=by rw[I.ok.kind];rfl
 have hiσ:i<σ.length:=by rw[I.len];exact(Qc hi).1
 have cne:=I.cne
 have KA:∀{a:Addr} {h':Heap},(∃o,s.heap.get? a=some o/\H a=none)->Heap.SameBut a s.heap h'->bJ X.prog X.w H h':=λ{a h'} ha hs b ob e=>by
  obtain⟨_,_,Ig⟩:=ha;refine(I.hok b ob e).stay (λc w' hc q=>(hs.2 c ?_).trans q) (λ_ q=>q) λ_ _ q=>q;rintro rfl;rcases hc with rfl|hc
  ·rw[Ig] at e;cases e
  rw[Ig] at hc;cases hc
 rcases hx with hk|hk
 ·refine wpAny_storeName_local hk hn (λh' hn' hs=>?_) hcls;obtain⟨oL,_,_,Jo,_⟩:=id hn;refine h _ ⟨I.ok,I.os,I.bare,⟨λb o e n hb hx=>?_,λb o e n hb hx=>?_,I.base.free,λb o e hx=>?_,I.base.tups,I.base.frzs,I.base.tbls⟩,⟨_,hn',λj y v' e1 e2 e3=>?_⟩,λy c e=>?_,I.free,I.freeC,λp hp=>?_,KA ⟨oL,Jo,I.free⟩ hs,by simpa using I.len⟩ ⟨_,hs,.inl rfl⟩
  ·exact(hs.2 b (QB (QI (Qt e) I.ok.above))).trans (I.base.keep b o e n hb hx)
  ·obtain⟨sl,e1⟩:=I.base.slot b o e n hb hx;exact⟨sl,(hs.2 b (QB (QI (Qt e) I.ok.above))).trans e1⟩
  ·obtain⟨o',e1⟩:=I.base.there b o e hx;exact⟨o',(hs.2 b (QB (QI (Qt e) I.ok.above))).trans e1⟩
  ·by_cases hj:j=i
   ·subst hj;rw[hi] at e1;cases e1;rw[List.getElem?_set_self hiσ] at e2;cases e2;exact⟨u,r,.inl ⟨hk,by simp⟩⟩
   rw[List.getElem?_set_ne (Ne.symm hj)] at e2;obtain⟨u',r',q⟩:=hl j y v' e1 e2 e3;refine⟨u',r',?_⟩
   rcases q with ⟨k,e⟩|⟨k,c,e,z⟩
   ·refine .inl ⟨k,?_⟩;have:y≠x:=λe=>hj (sT hN e1 (e ▸ hi));simp[this,e]
   exact .inr ⟨k,c,e,z.sameBut hs (cne y c e)⟩
  ·obtain⟨w',z⟩:=I.cell y c e;exact⟨w',z.sameBut hs (cne y c e)⟩
  obtain⟨e,n,ne,nf,d⟩:=I.pin p hp;exact⟨(hs.2 p.1 ne).trans e,n,ne,nf,d⟩
 have hfn:X.fn x=true:=by
  rcases hf with z|z
  ·exact z
  rw[z] at hk;cases hk
 obtain⟨c,hc⟩:=I.ok.has x (.inl hk);obtain⟨w',z⟩:=I.cell x c hc;refine wpAny_storeName_cell I.ok.kind hk hc z (λh' hc' hs=>?_);obtain⟨oc,hoc,hocd⟩:=id z;refine h {s with heap:=h'} ⟨I.ok,I.os,I.bare,⟨λb o e n hb hx=>?_,λb o e n hb hx=>?_,I.base.free,λb o e hx=>?_,I.base.tups,I.base.frzs,I.base.tbls⟩,⟨m,hn.sameBut hs (Ne.symm (cne x c hc)),λj y v' e1 e2 e3=>?_⟩,λy c' e=>?_,I.free,I.freeC,λp hp=>?_,KA ⟨oc,hoc,I.freeC x c hc⟩ hs,by simpa using I.len⟩ ⟨c,hs,.inr hc⟩
 ·exact(hs.2 b (QB (QI (Qt e) (I.ok.cab x c hfn hc)))).trans (I.base.keep b o e n hb hx)
 ·obtain⟨sl,e1⟩:=I.base.slot b o e n hb hx;exact⟨sl,(hs.2 b (QB (QI (Qt e) (I.ok.cab x c hfn hc)))).trans e1⟩
 ·obtain⟨o',e1⟩:=I.base.there b o e hx;exact⟨o',(hs.2 b (QB (QI (Qt e) (I.ok.cab x c hfn hc)))).trans e1⟩
 ·by_cases hj:j=i
  ·subst hj;rw[hi] at e1;cases e1;rw[List.getElem?_set_self hiσ] at e2;cases e2;exact⟨u,r,.inr ⟨.inl hk,c,hc,hc'⟩⟩
  rw[List.getElem?_set_ne (Ne.symm hj)] at e2;obtain⟨u',r',q⟩:=hl j y v' e1 e2 e3;refine⟨u',r',?_⟩
  rcases q with q|⟨k,c',e,z'⟩
  ·exact .inl q
  refine .inr ⟨k,c',e,z'.sameBut hs ?_⟩;rintro rfl;exact hj (sT hN e1 (I.ok.inj _ _ _ e hc ▸ hi))
 ·by_cases hcc:c'=c
  ·subst hcc;exact⟨_,hc'⟩
  obtain⟨w2,z2⟩:=I.cell y c' e;exact⟨w2,z2.sameBut hs hcc⟩
 obtain⟨e,n,ne,nf,d⟩:=I.pin p hp;refine⟨(hs.2 p.1 ?_).trans e,n,ne,nf,d⟩;intro q;rw[q,hoc] at e;have q':oc=p.2:=Qs e;exact d w' (by rw[<-q'];exact hocd)
theorem sU(I:Inv X HJ σ H s)(hN:X.N.Nodup)(hi:X.N[i]?=some x)(hx:Loc X.env.scope x)(r:RelV v u)
  (h:∀s',Inv X HJ (σ.set i (some v)) H s'->Q () s') (hf:X.fn x=true∨X.env.scope.names.lookup x=some .local:=by first|exact .inl rfl|exact .inr rfl|assumption):wpAny M A (storeName X.env x u) Q E s:=
 o0 I hN hi hx r (λs' I' _=>h s' I') hf
theorem Inv.call'{s':Shared}(I:Inv X HJ σ H s)(ho:s'.os=s.os)(u:Un (eY X.stack) ch H H' s.heap s'.heap)(hok:bJ X.prog X.w H' s'.heap)(hg:AllBare s'.gens)
  (hch:∀b∈ch,(b∈X.ex∨X.s₀.heap.objs.size<=b)/\b≠X.env.locals/\(∀x c,X.env.cells.lookup x=some c->c≠b)/\∀p∈X.pn++HJ,p.1≠b):Inv X HJ σ H' s':=by
 obtain⟨h',g',d',t',o'⟩:=s';have e:o'=s.os:=ho;subst e;exact I.call (g':=g') (t':=t') (d':=d') u hok hg hch
end
abbrev XK:=Value->Option Addr->Hp->Prop
abbrev St:=List (Option V)
abbrev VK:=V->Hp->Prop
abbrev TE:=St->Hp->VK->Prop
abbrev TT:=St->Hp->(Bool->Hp->Prop)->Prop
abbrev TA:=St->Hp->(List V->Hp->Prop)->Prop
structure cU where
 nx:St->Hp->Prop
 rt:VK
 bk:St->Hp->Prop:=λ_ _=>False
 ct:St->Hp->Prop:=λ_ _=>False
abbrev TS:=cU->St->Hp->Prop
def EP(X:Cx)(HJ:List (Addr×Obj))(σ:St)(Q:VK)(u:Value)(s':Shared):Prop:=∃v H',Inv X HJ σ H' s'/\RelV v u/\Q v H'
def TP(X:Cx)(HJ:List (Addr×Obj))(σ:St)(Q:Bool->Hp->Prop)(b:Bool)(s':Shared):Prop:=∃H',Inv X HJ σ H' s'/\Q b H'
def AP(X:Cx)(HJ:List (Addr×Obj))(σ:St)(Q:List V->Hp->Prop)(us:List Value)(s':Shared):Prop:=∃vs H',Inv X HJ σ H' s'/\az vs us/\Q vs H'
def SP(X:Cx)(HJ:List (Addr×Obj))(D:cU)(f:Flow)(s':Shared):Prop:=
 match f with
 |.next=>∃σ' H',Inv X HJ σ' H' s'/\D.nx σ' H'
 |.brk=>∃σ' H',Inv X HJ σ' H' s'/\D.bk σ' H'
 |.cont=>∃σ' H',Inv X HJ σ' H' s'/\D.ct σ' H'
 |.ret u=>∃v σ' H',Inv X HJ σ' H' s'/\RelV v u/\D.rt v H'
def PE(X:Cx)(e:Expr)(t:TE):Prop:=
 ∀(HJ:List (Addr×Obj)) (s:Shared) (σ:St) (H:Hp) (Q:VK),Inv X HJ σ H s->t σ H Q->wpAny (model X.prog X.w) X.A (eval e X.env) (EP X HJ σ Q) X.xe s
def PT(X:Cx)(e:Expr)(t:TT):Prop:=
 ∀(HJ:List (Addr×Obj)) (s:Shared) (σ:St) (H:Hp) (Q:Bool->Hp->Prop),Inv X HJ σ H s->t σ H Q->wpAny (model X.prog X.w) X.A (isTrue e X.env (eval e X.env)) (TP X HJ σ Q) X.xe s
def PW(X:Cx)(e:Expr)(t:TT):Prop:=
 ∀(Kx:Sem Value) (HJ:List (Addr×Obj)) (s:Shared) (σ:St) (H:Hp) (Q:Bool->Hp->Prop),Inv X HJ σ H s->t σ H Q->wpAny (model X.prog X.w) X.A (isTrue e X.env Kx) (TP X HJ σ Q) X.xe s
theorem PW.pt{X:Cx}{e:Expr}{t:TT}(h:PW X e t):PT X e t:=h _
def PA(X:Cx)(es:List Expr)(t:TA):Prop:=
 ∀(pos:Pos) (HJ:List (Addr×Obj)) (s:Shared) (σ:St) (H:Hp) (Q:List V->Hp->Prop),Inv X HJ σ H s->t σ H Q->wpAny (model X.prog X.w) X.A (spliced (backTo pos (starEach es X.env))) (AP X HJ σ Q) X.xe s
def PS(X:Cx)(st:Stmt)(t:TS):Prop:=
 ∀(HJ:List (Addr×Obj)) (s:Shared) (σ:St) (H:Hp) (D:cU),Inv X HJ σ H s->t D σ H->wpAny (model X.prog X.w) X.A (exec st X.env) (SP X HJ D) X.xe s
def fB(X:Cx)(st:List Stmt)(t:TS):Prop:=
 ∀(HJ:List (Addr×Obj)) (s:Shared) (σ:St) (H:Hp) (D:cU),Inv X HJ σ H s->t D σ H->wpAny (model X.prog X.w) X.A (execs st X.env) (SP X HJ D) X.xe s
theorem aA{α:Type}{t:Sem α}{Q Q':α->Shared->Prop}{M:Model}{A:Around}{E:Value->Shared->Prop}{s:Shared}(h:wpAny M A t Q E s)(hQ:∀a s,Q a s->Q' a s):wpAny M A t Q' E s:=QV h hQ λ_ _ x=>x
section
variable {X:Cx}
inductive mz (i:Nat) (σ:St) (H:Hp) (Q:VK):Prop
 |mk:∀v,σ[i]?=some (some v)->Q v H->mz i σ H Q
def tC(v:V):TE:=λ_ H Q=>Q v H
theorem z6(hN:X.N[i]?=some x)(hv:oZ X.env.scope x)(hd:(x==("__debug__":Str))=false:=by decide)(IY:(x==("__classdict__":Str))=false:=by decide):PE X (.Name x pos) (mz i):=by
 intro HJ s σ H Q I h;obtain⟨v,e,h⟩:=h;obtain⟨m,hn,hl⟩:=I.loc;obtain⟨u,r,l⟩:=hl i x v hN e hv
 have fin:EP X HJ σ Q u s:=⟨v,H,I,r,h⟩
 rcases l with ⟨hk,hm⟩|⟨hk,c,hc,hcell⟩
 ·exact wpAny_Name (wpAny_loadName_local I.ok.kind hk hn hm fin) hd
 rcases hk with hk|hk
 ·exact wpAny_Name (wpAny_loadName_cell I.ok.kind hk hc hcell fin) hd
 exact wpAny_Name (wpAny_loadName_free I.ok.kind hk hc hcell fin IY) hd
theorem ar{i j pos}:PE X (.Constant (.int i) j pos) (tC (.int i)):=λ_ _ _ H _ I h=>wpAny_Constant_int ⟨.int i,H,I.tok _,⟨_,rfl⟩,h⟩
theorem gm{j pos}:PE X (.Constant .none j pos) (tC .non):=λ_ _ _ H _ I h=>Constant_none ⟨.non,H,I,rfl,h⟩
theorem au{x j pos}:PE X (.Constant (.str x) j pos) (tC (.str x)):=λ_ _ _ H _ I h=>Calls.Constant_str ⟨.str x,H,I.tok _,⟨_,rfl⟩,h⟩
def Gl(X:Cx)(x:Str):Prop:=X.env.kindOf x=some .globalImplicit
theorem kS(I:Inv X HJ σ H s)(hg:Gl X x)(hm:X.mg x=some u)(h:Q u s)
  (hd:(x==("__debug__":Str))=false:=by decide):wpAny (model X.prog X.w) X.A (eval (.Name x pos) X.env) Q E s:=
 Calls.Name_function_global I.ok.kind hg (Calls.loadGlobal_global (by rw[I.ok.glob];exact I.mod.glob.keeps I.bk) hm h) hd
theorem jC(I:Inv X HJ σ H s)(hg:Gl X x)(hm:X.mg x=none)(hv:bootBuiltins x=some u)(h:Q u s)
  (hn:x≠"__name__":=by decide) (hd:(x==("__debug__":Str))=false:=by decide):wpAny (model X.prog X.w) X.A (eval (.Name x pos) X.env) Q E s:=by
 obtain⟨mb,h1,h2⟩:=I.mod.blt;exact Calls.Name_function_global I.ok.kind hg (Calls.loadGlobal_builtin (by rw[I.ok.glob];exact I.mod.glob.keeps I.bk) hm (by rw[I.ok.blt];exact h1.keeps I.bk) ((h2 x hn).trans hv) h) hd
theorem z7(hg:Gl X x)(hm:X.mg x=some u)(r:RelV v u)(hd:(x==("__debug__":Str))=false:=by decide):PE X (.Name x pos) (tC v):=
 λ_ _ _ H _ I h=>kS I hg hm ⟨v,H,I,r,h⟩ hd
theorem mB(hg:Gl X x)(hm:X.mg x=none)(hv:bootBuiltins x=some u)(r:RelV v u)(hn:x≠"__name__":=by decide)(hd:(x==("__debug__":Str))=false:=by decide):PE X (.Name x pos) (tC v):=
 λ_ _ _ H _ I h=>jC I hg hm hv ⟨v,H,I,r,h⟩ hn hd
variable {a b:Expr}{ta tb:TE}{pos:Pos}
def PC(X:Cx)(op:CmpOp)(a b:Expr)(t:TE):Prop:=
 ∀(HJ:List (Addr×Obj)) (s:Shared) (σ:St) (H:Hp) (Q:VK),Inv X HJ σ H s->t σ H Q ->
  wpAny (model X.prog X.w) X.A (eval a X.env) (λv s₁=>wpAny (model X.prog X.w) X.A (eval b X.env) (λu s₂=>wpAny (model X.prog X.w) X.A (compareOp op v u) (EP X HJ σ Q) X.xe s₂) X.xe s₁) X.xe s
theorem sV(b:Expr)(h:op≠.In)(h2:op≠.NotIn):behindInMarks op b=false:=by
 have e1:(op==CmpOp.In)=false:=by cases op<;>first|rfl|exact absurd rfl h
 have e2:(op==CmpOp.NotIn)=false:=by cases op<;>first|rfl|exact absurd rfl h2
 cases b<;>simp[behindInMarks,e1,e2]
def z8(ta:TE):TE:=λσ H Q=>ta σ H λx H1=>Q (.bl (decide (x=.non))) H1
def z9(ta:TE):TE:=λσ H Q=>ta σ H λx H1=>Q (.bl (!decide (x=.non))) H1
theorem RelV.none_iff(r:RelV x v):(v==Value.none)=decide (x=.non):=by
 cases x with
 |non=>cases r;rfl
 |bl _=>cases r;rfl
 |int _=>obtain⟨t,rfl⟩:=r;rfl
 |str _=>obtain⟨t,rfl⟩:=r;rfl
 |byt _=>obtain⟨t,rfl⟩:=r;rfl
 |flt _=>obtain⟨t,rfl⟩:=r;rfl
 |ref _=>cases r;rfl
 |ty _=>cases r;rfl
theorem Aa{j IU}(ha:PE X a ta):PC X .Is a (.Constant .none j IU) (z8 ta):=by intro HJ s σ H Q I h;refine aA (ha HJ s σ H _ I h) λv s1 hsl1=>?_;obtain⟨x,H1,I1,r1,q1⟩:=hsl1;exact Constant_none (is_none_gen ⟨.bl _,H1,I1,by rw[r1.none_iff];rfl,q1⟩)
theorem ik{j IU}(ha:PE X a ta):PC X .IsNot a (.Constant .none j IU) (z9 ta):=by intro HJ s σ H Q I h;refine aA (ha HJ s σ H _ I h) λv s1 hsl2=>?_;obtain⟨x,H1,I1,r1,q1⟩:=hsl2;exact Constant_none (isnot_none_gen ⟨.bl _,H1,I1,by rw[r1.none_iff];rfl,q1⟩)
inductive fW (Q:Bool->Hp->Prop) (x:V) (H:Hp):Prop
 |mk:∀c,x=.bl c->Q c H->fW Q x H
def tB(t:TE):TT:=λσ H Q=>t σ H (fW Q)
theorem Ab{t:TE}(h:PC X op a b t)(h1:behindInMarks op b=false:=by first|exact sV _ (by decide) (by decide)|rfl):PE X (.Compare a [op] [b] pos) t:=λHJ s σ H Q I hw=>wpAny_Compare1 (h HJ s σ H Q I hw) h1
theorem gn{op:CmpOp}{t:TE}(h:PC X op a b t)(h1:behindInMarks op b=false:=by first|exact sV _ (by decide) (by decide)|rfl):PT X (.Compare a [op] [b] pos) (tB t):=by intro HJ s σ H Q I hw;refine wpAny_isTrue_Compare1 (aA (h HJ s σ H _ I hw) λv s1 h1=>aA h1 λu s2 h2=>aA h2 λc s3 hsl3=>?_) h1;obtain⟨x,H1,I1,r1,q1⟩:=hsl3;obtain⟨d,rfl,q⟩:=q1;cases r1;exact wpAny_truthy_bool ⟨H1,I1,q⟩
theorem mC{e:Expr}{t:TE}(h:PE X e t)(he:∀Kx,isTrue e X.env Kx=(do let v <- Kx;standAt e.pos;holding [v] (truthy v)):=by intro _;rfl):PT X e (tB t):=by intro HJ s σ H Q I hw;refine isTrue_plain (aA (h HJ s σ H _ I hw) λv s1 hsl4=>?_) (he _);obtain⟨x,H1,I1,r1,q1⟩:=hsl4;obtain⟨d,rfl,q⟩:=q1;cases r1;exact wpAny_truthy_bool ⟨H1,I1,q⟩
variable {tA tB':TT}{HN:List Expr}
def Ac(t u:TT):TT:=λσ H Q=>t σ H λc H1=>if c=true then u σ H1 Q else Q false H1
def Ad(t u:TT):TT:=λσ H Q=>t σ H λc H1=>if c=true then Q true H1 else u σ H1 Q
theorem fC(ha:PT X a tA):PW X (.BoolOp .And [a] pos) tA:=by
 intro wh HJ s σ H Q I h;refine isTrue_and (aA (ha HJ s σ H Q I h) λc s1 e=>?_)
 cases c with
 |true=>exact isTrue_and_nil e
 |false=>exact e
theorem jD(ha:PT X a tA):PW X (.BoolOp .Or [a] pos) tA:=by
 intro wh HJ s σ H Q I h;refine isTrue_or (aA (ha HJ s σ H Q I h) λc s1 e=>?_)
 cases c with
 |false=>exact isTrue_or_nil e
 |true=>exact e
theorem dB(ha:PT X a tA)(hb:PW X (.BoolOp .And (b::HN) pos) tB'):PW X (.BoolOp .And (a::b::HN) pos) (Ac tA tB'):=by
 intro wh HJ s σ H Q I h;refine isTrue_and (aA (ha HJ s σ H _ I h) λc s1 hsl5=>?_);obtain⟨H1,I1,q1⟩:=hsl5
 cases c with
 |true=>exact hb wh HJ s1 σ H1 Q I1 q1
 |false=>exact⟨H1,I1,q1⟩
theorem jE(ha:PT X a tA)(hb:PW X (.BoolOp .Or (b::HN) pos) tB'):PW X (.BoolOp .Or (a::b::HN) pos) (Ad tA tB'):=by
 intro wh HJ s σ H Q I h;refine isTrue_or (aA (ha HJ s σ H _ I h) λc s1 hsl6=>?_);obtain⟨H1,I1,q1⟩:=hsl6
 cases c with
 |true=>exact⟨H1,I1,q1⟩
 |false=>exact hb wh HJ s1 σ H1 Q I1 q1
def Ae(ta tb:TE):TE:=λσ H Q=>ta σ H λx H1=>∃c,x=.bl c/\if c=true then tb σ H1 Q else Q (.bl false) H1
theorem sW{op}{t:TE}(h:PE X a t):PE X (.BoolOp op [a] pos) t:=λHJ s σ H Q I hw=>BoolOp_one (h HJ s σ H Q I hw)
theorem o3(ha:PE X a ta)(hb:PE X (.BoolOp .And (b::HN) pos) tb):PE X (.BoolOp .And (a::b::HN) pos) (Ae ta tb):=by
 intro HJ s σ H Q I h;refine BoolOp_and (aA (ha HJ s σ H _ I h) λv s1 hsl7=>?_);obtain⟨x,H1,I1,r1,q1⟩:=hsl7;obtain⟨c,rfl,q1⟩:=q1;cases r1;refine wpAny_truthy_bool ?_
 cases c with
 |true=>exact hb HJ s1 σ H1 Q I1 q1
 |false=>exact⟨.bl false,H1,I1,rfl,q1⟩
def Af(t:TT)(ta tb:TE):TE:=λσ H Q=>t σ H λc H1=>if c=true then ta σ H1 Q else tb σ H1 Q
theorem kT(hc:PT X c tA)(ha:PE X a ta)(hb:PE X b tb):PE X (.IfExp c a b pos) (Af tA ta tb):=by
 intro HJ s σ H Q I h;refine wpAny_IfExp (aA (hc HJ s σ H _ I h) λd s1 hsl8=>?_);obtain⟨H1,I1,q1⟩:=hsl8
 cases d with
 |true=>exact ha HJ s1 σ H1 Q I1 q1
 |false=>exact hb HJ s1 σ H1 Q I1 q1
end
def am(K:W.Frag)(H:Hp)(a:Addr)(xs:List V):Prop:=
 Rd H a (.lst xs) ∨
  ∃(o:Obj) (its:Array Value) (n:Nat),K.lookup a=some o/\o.cls=.type "list"/\o.dict=none/\o.data=.seq its n/\its.size<=sizeLine/\az xs its.toList
def ao(K:W.Frag)(H:Hp)(a:Addr)(xs:List V):Prop:=
 Rd H a (.tup xs) ∨
  ∃(o:Obj) (its:Array Value) (n:Nat),K.lookup a=some o/\o.cls=.type "tuple"/\o.data=.seq its n/\its.size<=sizeLine/\az xs its.toList
noncomputable def Ag:Value->Option V
 |.none=>some .non
 |.bool b=>some (.bl b)
 |.int i _=>some (.int i)
 |.str x _=>some (.str x)
 |.bytes b _=>some (.byt b)
 |.float b _=>some (.flt b)
 |.ref a=>some (.ref a)
 |.type n=>some (.ty n)
 |_=>none
theorem RelV.abs(r:RelV x u):Ag u=some x:=by
 cases x with
 |non=>cases r;rfl
 |bl _=>cases r;rfl
 |int _=>obtain⟨t,rfl⟩:=r;rfl
 |str _=>obtain⟨t,rfl⟩:=r;rfl
 |byt _=>obtain⟨t,rfl⟩:=r;rfl
 |flt _=>obtain⟨t,rfl⟩:=r;rfl
 |ref _=>cases r;rfl
 |ty _=>cases r;rfl
theorem RelV.inj{x y:V}{u:Value}(r:RelV x u)(q:RelV y u):x=y:=Qs (r.abs.symm.trans q.abs)
theorem az.inj:∀{xs ys:List V} {us:List Value},az xs us->az ys us->xs=ys
 |_,_,_,.nil,.nil=>rfl
 |_,_,_,.cons r t,.cons r' t'=>by rw[r.inj r',az.inj t t']
section
variable {X:Cx}{HJ:List (Addr×Obj)}{σ:St}{H:Hp}{s:Shared}{a:Addr}{xs ys:List V}
theorem am.of{K:W.Frag}(h:H a=some (.lst xs)):am K H a xs:=.inl (.inl h)
theorem ao.of{K:W.Frag}(h:H a=some (.tup xs)):ao K H a xs:=.inl (.inl h)
theorem Inv.list(I:Inv X HJ σ H s)(h:am X.K H a xs):∃its:List Value,az xs its/\PlainL s.heap a its.toArray/\xs.length<=sizeLine:=by
 rcases h with h|⟨o,its,n,hk,hc,hd,hs,hz,r⟩
 ·obtain⟨z,its,n,r,e⟩:=h.ok I.hok;exact⟨its,r,⟨_,n,e,rfl,rfl,rfl⟩,z⟩
 refine⟨its.toList,r,⟨o,n,I.kIn a o hk,hc,hd,by simpa using hs⟩,?_⟩;have e:=r.length;simp only[QM] at e;lia
theorem Inv.tuple(I:Inv X HJ σ H s)(h:ao X.K H a xs):∃its:List Value,az xs its/\IsTup s.heap a its.toArray/\xs.length<=sizeLine:=by
 rcases h with h|⟨o,its,n,hk,hc,hs,hz,r⟩
 ·obtain⟨z,its,r,p,_⟩:=h.ok I.hok;exact⟨its,r,p,z⟩
 refine⟨its.toList,r,⟨o,I.kIn a o hk,hc,n,by simpa using hs⟩,?_⟩;have e:=r.length;simp only[QM] at e;lia
theorem Inv.list_inj(I:Inv X HJ σ H s)(h:am X.K H a xs)(h':am X.K H a ys):xs=ys:=by
 obtain⟨its,r,⟨o,n,e,_,_,d⟩,_⟩:=I.list h;obtain⟨its',r',⟨o',n',e',_,_,d'⟩,_⟩:=I.list h';rw[e] at e';cases e';rw[d] at d';injection d' with d1 _;have:its=its':=by simpa using congrArg Array.toList d1
 subst this;exact r.inj r'
theorem Inv.tuple_inj(I:Inv X HJ σ H s)(h:ao X.K H a xs)(h':ao X.K H a ys):xs=ys:=by
 obtain⟨its,r,⟨o,e,_,n,d⟩,_⟩:=I.tuple h;obtain⟨its',r',⟨o',e',_,n',d'⟩,_⟩:=I.tuple h';rw[e] at e';cases e';rw[d] at d';injection d' with d1 _;have:its=its':=by simpa using congrArg Array.toList d1
 subst this;exact r.inj r'
end
noncomputable abbrev Cx.wish(X:Cx)(E:Value->Shared->Prop):Cx:={X with xe:=E}
noncomputable abbrev Cx.nox(X:Cx):Cx:=X.wish λ_ _=>False
theorem Cx.Ok.wish{X:Cx}(ok:X.Ok)(E:Value->Shared->Prop):(X.wish E).Ok:=
 ⟨ok.mod,ok.kind,ok.glob,ok.blt,ok.above,ok.inj,ok.has,ok.cab,ok.hd,ok.frames,ok.stk,ok.exf,ok.bs,ok.bsz,ok.noex,ok.exfs,ok.funs,ok.frf⟩
theorem Cx.Ok.unwish{X:Cx}{E:Value->Shared->Prop}(ok:(X.wish E).Ok):X.Ok:=
 ⟨ok.mod,ok.kind,ok.glob,ok.blt,ok.above,ok.inj,ok.has,ok.cab,ok.hd,ok.frames,ok.stk,ok.exf,ok.bs,ok.bsz,ok.noex,ok.exfs,ok.funs,ok.frf⟩
section
variable {X:Cx}{HJ:List (Addr×Obj)}{σ:St}{H:Hp}{s:Shared}{E:Value->Shared->Prop}
theorem Inv.wish(I:Inv X HJ σ H s)(E:Value->Shared->Prop):Inv (X.wish E) HJ σ H s:=⟨I.ok.wish E,I.os,I.bare,I.base,I.loc,I.cell,I.free,I.freeC,I.pin,I.hok,I.len⟩
theorem Inv.unwish(I:Inv (X.wish E) HJ σ H s):Inv X HJ σ H s:=⟨I.ok.unwish,I.os,I.bare,I.base,I.loc,I.cell,I.free,I.freeC,I.pin,I.hok,I.len⟩
theorem SP.unwish{D:cU}{f:Flow}{s':Shared}(h:SP (X.wish E) HJ D f s'):SP X HJ D f s':=by
 cases f with
 |next=>obtain⟨σ',H',I,q⟩:=h;exact⟨σ',H',I.unwish,q⟩
 |brk=>obtain⟨σ',H',I,q⟩:=h;exact⟨σ',H',I.unwish,q⟩
 |cont=>obtain⟨σ',H',I,q⟩:=h;exact⟨σ',H',I.unwish,q⟩
 |ret u=>obtain⟨v,σ',H',I,r,q⟩:=h;exact⟨v,σ',H',I.unwish,r,q⟩
theorem fB.nox{st:List Stmt}{t:TS}(h:fB X.nox st t):fB X st t:=λHJ s σ H D I hw =>
 QV (h HJ s σ H D (I.wish _) hw) (λ_ _ q=>q.unwish) λ_ _ z=>False.elim z
end
section
variable {X:Cx}{st:Stmt}{HN:List Stmt}{t u:TS}{e:Expr}{te:TE}{pos:Pos}
def il:TS:=λD σ H=>D.nx σ H
def jF(t u:TS):TS:=λD σ H=>t {D with nx:=u D} σ H
theorem be:fB X [] il:=λ_ _ σ H _ I h=>wpAny_execs_nil ⟨σ,H,I,h⟩
theorem aq(h1:PS X st t)(h2:fB X HN u):fB X (st::HN) (jF t u):=by
 intro HJ s σ H D I h;refine wpAny_execs_cons (aA (h1 HJ s σ H {D with nx:=u D} I h) λf s1 q=>?_)
 cases f with
 |next =>
  obtain⟨σ',H',I',q⟩:=q;exact h2 HJ s1 σ' H' D I' q
 |ret v=>exact q
 |brk=>exact q
 |cont=>exact q
theorem ap(h1:PS X st t):fB X [st] t:=by
 intro HJ s σ H D I h;refine wpAny_execs_cons (aA (h1 HJ s σ H D I h) λf s1 q=>?_)
 cases f with
 |next=>exact wpAny_execs_nil q
 |ret v=>exact q
 |brk=>exact q
 |cont=>exact q
theorem Inv.quiet(I:Inv X HJ σ H s):interactive X.env=false:=by simp[interactive,I.ok.kind]
def Ah(te:TE):TS:=λD σ H=>te σ H λ_ H1=>D.nx σ H1
theorem bF(he:PE X e te)(hs:swapsWith e none pos.line X.env=pure false:=by rfl):PS X (.Expr e pos) (Ah te):=by intro HJ s σ H D I h;exact wpAny_Expr_any (aA (he HJ s σ H _ I h) λv s1 hsl11=>by obtain⟨x,H1,I1,r1,q1⟩:=hsl11;exact⟨σ,H1,I1,q1⟩) I.quiet hs
def sX(te:TE):TS:=λD σ H=>te σ H D.rt
theorem aN(he:PE X e te):PS X (.Return (some e) pos) (sX te):=by intro HJ s σ H D I h;exact wpAny_Return_some (aA (he HJ s σ H _ I h) λv s1 hsl12=>by obtain⟨x,H1,I1,r1,q1⟩:=hsl12;exact⟨x,σ,H1,I1,r1,q1⟩)
def o4(c:TT)(t u:TS):TS:=λD σ H=>c σ H λb H1=>if b=true then t D σ H1 else u D σ H1
theorem aV(hc:PT X c tc)(ha:fB X a t)(hb:fB X b u):PS X (.If c a b pos) (o4 tc t u):=by
 intro HJ s σ H D I h;refine wpAny_If (aA (hc HJ s σ H _ I h) λd s1 hsl13=>?_);obtain⟨H1,I1,q1⟩:=hsl13
 cases d with
 |true=>exact ha HJ s1 σ H1 D I1 q1
 |false=>exact hb HJ s1 σ H1 D I1 q1
end
abbrev TG:=V->St->Hp->(St->Hp->Prop)->Prop
abbrev im:=List V->St->Hp->(St->Hp->Prop)->Prop
def PG(X:Cx)(target:Expr)(t:TG):Prop:=
 ∀(HJ:List (Addr×Obj)) (s:Shared) (σ:St) (H:Hp) (v:V) (u:Value) (Q:St->Hp->Prop),Inv X HJ σ H s->RelV v u->t v σ H Q ->
  wpAny (model X.prog X.w) X.A (assign target X.env u) (λ_ s'=>∃σ' H',Inv X HJ σ' H' s'/\Q σ' H') X.xe s
def jG(X:Cx)(ts:List Expr)(t:im):Prop:=
 ∀(HJ:List (Addr×Obj)) (s:Shared) (σ:St) (H:Hp) (vs:List V) (us:List Value) (Q:St->Hp->Prop),Inv X HJ σ H s->az vs us->t vs σ H Q ->
  wpAny (model X.prog X.w) X.A (assignInOrder ((assignEach ts X.env).map (·.2)) us) (λ_ s'=>∃σ' H',Inv X HJ σ' H' s'/\Q σ' H') X.xe s
section
variable {X:Cx}{pos:Pos}
def aP(i:Nat):TG:=λv σ H Q=>Q (σ.set i (some v)) H
theorem ba(hN:X.N.Nodup)(hi:X.N[i]?=some x)(hx:Loc X.env.scope x)(hf:X.fn x=true∨X.env.scope.names.lookup x=some .local:=by first|exact .inl rfl|exact .inr rfl|assumption):PG X (.Name x pos) (aP i):=by intro HJ s σ H v u Q I r h;exact wpAny_assign_Name (sU I hN hi hx r (λs' I'=>⟨_,H,I',h⟩) hf)
def o5:im:=λvs σ H Q=>vs=[]/\Q σ H
inductive mD (t:TG) (u:im) (vs:List V) (σ:St) (H:Hp) (Q:St->Hp->Prop):Prop
 |mk:∀v r,vs=v::r->(t v σ H λσ' H'=>u r σ' H' Q)->mD t u vs σ H Q
theorem cV:jG X [] o5:=by intro HJ s σ H vs us Q I r h;obtain⟨e,h⟩:=h;subst e;cases r;exact assignInOrder_nil ⟨σ,H,I,h⟩
theorem bp{t:TG}(h1:PG X e t)(h2:jG X es u)
  (hs:(assignEach (e::es) X.env).map (·.2)=assign e X.env::(assignEach es X.env).map (·.2):=by rfl):jG X (e::es) (mD t u):=by
 intro HJ s σ H vs us Q I r h;obtain⟨v,vr,e1,h⟩:=h;subst e1
 cases r with
 |cons r rr =>
  rw[hs];refine assignInOrder_cons (aA (h1 HJ s σ H _ _ _ I r h) λ_ s1 hsl14=>?_);obtain⟨σ1,H1,I1,q1⟩:=hsl14;exact h2 HJ s1 σ1 H1 _ _ Q I1 rr q1
inductive mE (K:W.Frag) (n:Nat) (t:im) (v:V) (σ:St) (H:Hp) (Q:St->Hp->Prop):Prop
 |mk:∀a xs,v=.ref a->ao K H a xs->xs.length=n->t xs σ H Q->mE K n t v σ H Q
theorem mF{k:Nat}{t:im}(hc:X.calm=true)(h:jG X es t)
  (hn:(assignEach es X.env).length=n:=by rfl) (hst:(assignEach es X.env).findIdx? (·.1)=none:=by rfl):PG X (.Tuple es k pos) (mE X.K n t):=by
 intro HJ s σ H v u Q I r hw;obtain⟨a,xs,e1,hq,hl,hw⟩:=hw;subst e1;cases r;obtain⟨its,rv,ht,hz⟩:=I.tuple hq;refine assign_Tuple_tuple (I.ok.hd hc) ht (by simp[hn,<-hl,rv.length]) hst λh' hx=>?_;have I1:Inv X HJ σ H {s with heap:=h'}:=I.kept (t':=s.toks) λb o e=>hx b o (QB (Qt e)) e;exact h HJ _ σ H xs _ Q I1 (by simpa using rv) hw
def kU(te:TE)(g:TG):TS:=λD σ H=>te σ H λx H1=>g x σ H1 D.nx
theorem Ai{g:TG}(he:PE X e te)(hg:PG X tg g)(hs:swapsWithSole [tg] e pos.line X.env=pure false:=by rfl)(hw:swappedStores [tg] e X.env=pure none:=by rfl)
  (h1:(assignEach [tg] X.env).map (·.2)=[assign tg X.env]:=by rfl):PS X (.Assign [tg] e pos) (kU te g):=by
 intro HJ s σ H D I h;refine wpAny_Assign_stores (aA (he HJ s σ H _ I h) λv s1 hsl15=>?_) hs hw;obtain⟨x,H1,I1,r1,q1⟩:=hsl15;rw[h1];exact aA (hg HJ s1 σ H1 x v _ I1 r1 q1) λ_ s2 q=>q
theorem aQ(hN:X.N.Nodup)(hi:X.N[i]?=some x)(hx:Loc X.env.scope x)(he:PE X e te)(hs:swapsWith e (some (.Name x IU)) pos.line X.env=pure false:=by rfl)(hf:X.fn x=true∨X.env.scope.names.lookup x=some .local:=by first|exact .inl rfl|exact .inr rfl|assumption) :
  PS X (.Assign [.Name x IU] e pos) (kU te (aP i)):=by
 intro HJ s σ H D I h;refine wpAny_Assign_Name (aA (he HJ s σ H _ I h) λv s1 hsl16=>?_) hs;obtain⟨y,H1,I1,r1,q1⟩:=hsl16;exact sU I1 hN hi hx r1 (λs2 I2=>⟨_,H1,I2,q1⟩) hf
end
structure It where
 go:Nat->Hp->Prop
 yld:Nat->Hp->V->Hp->Prop
 stop:Nat->Hp->Prop
def cK(X:Cx)(HJ:List (Addr×Obj))(H:Hp)(b:Addr):Prop:=
 H b=none/\b≠X.env.locals/\b∉X.fs/\(b∈X.ex∨X.s₀.heap.objs.size<=b)/\(∀x c,X.env.cells.lookup x=some c->c≠b)/\∀p∈X.pn++HJ,p.1≠b
theorem Inv.fpOk{s:Shared}(I:Inv X HJ σ H s)(hb:s.heap.objs.size<=b)(hn:H' b=none):cK X HJ H' b:=by
 refine⟨hn,Nat.ne_of_gt (QI I.lt hb),I.nofs hb,.inr (QR I.sz hb),λx c e z=>?_,λp hp z=>?_⟩
 ·obtain⟨v,q⟩:=I.cell x c e;exact absurd (QI q.lt (by rw[z];exact hb)) (Nat.lt_irrefl _)
 exact absurd (QI (Qt (I.pin p hp).1) (by rw[z];exact hb)) (Nat.lt_irrefl _)
structure fX(P:Program)(w:World)(K:W.Frag)(tg:Expr)(J:It)(fp:List Addr)(it:Addr)(tn:Nat->Heap->Prop):Prop where
 mem:it∈fp
 obj:∀i h,tn i h->∀b∈fp,∃o,h.get? b=some o/\∀v,o.data≠.cell v
 keep:∀i h h',tn i h->(∀b∈fp,∀o,h.get? b=some o->h'.get? b=some o)->tn i h'
 item:∀(X:Cx),X.prog=P->X.w=w->X.K=K->X.calm=true->∀(i:Nat) (HJ:List (Addr×Obj)) (s:Shared) (σ:St) (H:Hp) (E:Value->Shared->Prop),Inv X HJ σ H s->(∀b∈fp,cK X HJ H b)->tn i s.heap->J.go i H ->
  wpAny (model P w) X.A (pyNext (.ref it)) (λr s1=>∃u,r=some u /\
   wpAny (model P w) X.A (letOwnedTupleGo tg (.ref it) u) (λ_ s2=>∃x H',Inv X HJ σ H' s2/\RelV x u/\J.yld i H x H'/\tn (i+1) s2.heap/\∀b∈fp,H' b=none) E s1) E s
 done:∀(X:Cx),X.prog=P->X.w=w->X.K=K->X.calm=true->∀(i:Nat) (HJ:List (Addr×Obj)) (s:Shared) (σ:St) (H:Hp) (E:Value->Shared->Prop),Inv X HJ σ H s->(∀b∈fp,cK X HJ H b)->tn i s.heap->J.stop i H ->
  wpAny (model P w) X.A (pyNext (.ref it)) (λr s1=>r=none/\Inv X HJ σ H s1) E s
 self:∀(A:Around) (i:Nat) (s:Shared) (Q:Value->Shared->Prop) (E:Value->Shared->Prop),tn i s.heap->Q (.ref it) s->wpAny (model P w) A (pyIter (.ref it)) Q E s
abbrev TI:=St->Hp->(It->Hp->Prop)->Prop
def sY(X:Cx)(HJ:List (Addr×Obj))(σ:St)(tg:Expr)(R:It->Hp->Prop)(itv:Value)(s2:Shared):Prop:=
 ∃(it:Addr) (fp:List Addr) (tn:Nat->Heap->Prop) (J:It) (H':Hp),itv=.ref it/\Inv X HJ σ H' s2/\fX X.prog X.w X.K tg J fp it tn/\tn 0 s2.heap/\(∀b∈fp,cK X HJ H' b)/\R J H'
def PI(X:Cx)(tg iter:Expr)(wi:TI):Prop:=
 ∀(HJ:List (Addr×Obj)) (s:Shared) (σ:St) (H:Hp) (R:It->Hp->Prop),Inv X HJ σ H s->wi σ H R ->
  wpAny (model X.prog X.w) X.A (eval iter X.env) (λv s1=>wpAny (model X.prog X.w) X.A (pyIter v) (sY X HJ σ tg R) X.xe s1) X.xe s
theorem mG{s:Shared}{o:Obj}(ho:s.heap.get? it=some o)(hc:o.cls=.type n)(hd:o.data=.fields vs)
  (hn:["enumerate","zip","dict_itemiterator","dict_reverseitemiterator","odict_iterator","itertools.zip_longest","itertools.pairwise"].contains n=false) (hQ:Q () s):wpAny M A (letOwnedTupleGo tg (.ref it) u) Q E s:=by
 unfold letOwnedTupleGo
 cases tg<;>first
  |exact Qe hQ
  | (cases u<;>first
    |exact Qe hQ
    | (refine Qa (wpAny_load ho ?_)
       rw[hc,hd];show wpAny M A (if(["enumerate","zip","dict_itemiterator","dict_reverseitemiterator","odict_iterator","itertools.zip_longest","itertools.pairwise"].contains n&&vs[0]? == some (rawInt _))=true then _ else _) Q E s;rw[if_neg (by intro h;rw[hn,Bool.false_and] at h;cases h)]
       exact Qe hQ))
noncomputable def cL(K:W.Frag)(a:Addr):It:=
 ⟨λi H=>∃xs x,am K H a xs/\xs[i]?=some x,λi H x H'=>H'=H/\∀xs,am K H a xs->xs[i]?=some x,λi H=>∃xs,am K H a xs/\xs.length<=i⟩
noncomputable def io(K:W.Frag)(a:Addr):It:=
 ⟨λi H=>∃xs x,ao K H a xs/\xs[i]?=some x,λi H x H'=>H'=H/\∀xs,ao K H a xs->xs[i]?=some x,λi H=>∃xs,ao K H a xs/\xs.length<=i⟩
noncomputable def fY(lo:Int)(n:Nat):It:=⟨λi _=>i<n,λi H x H'=>H'=H/\x=.int (lo+i),λi _=>n<=i⟩
theorem sZ{P:Program}{w:World}{K:W.Frag}{tg:Expr}(a it:Addr):fX P w K tg (cL K a) [it] it (λi h=>h.IsListIter it a i) where
 mem:=by simp
 obj:=λi h st b hb=>by
  have e:b=it:=by simpa using hb
  subst e;obtain⟨o,e,c,d⟩:=st;exact⟨o,e,λv z=>by rw[d] at z;cases z⟩
 keep:=λi h h' st k=>st.at λo e=>k it (by simp) o e
 item:=by intro X hP hw hK hc i HJ s σ H E I hf st hg;subst hP hw hK;obtain⟨xs,x,hq,hx⟩:=hg;obtain⟨its,rv,p,hz⟩:=I.list hq;obtain⟨u,hu,ru⟩:=rv.get hx;obtain⟨f0,f1,f2,f3,f4,f5⟩:=hf it (by simp);refine wpAny_pyNext_list_item st p.isList (x:=u) (by simpa using hu) λh' Ix sb=>?_;have I1:Inv X HJ σ H {s with heap:=h'}:=I.turned (t':=s.toks) (λb o hb e=>(sb.2 b hb).trans e) f0 f1 f3 f4 f5;obtain⟨o,e,c,d⟩:=id Ix;exact⟨u,rfl,mG (s:={s with heap:=h'}) e c d (by decide) ⟨x,H,I1,ru,⟨rfl,λys hy=>by rw[I.list_inj hy hq];exact hx⟩,Ix,λb hb=>(hf b hb).1⟩⟩
 done:=by
  intro X hP hw hK hc i HJ s σ H E I hf st hg;subst hP hw hK;obtain⟨xs,hq,hx⟩:=hg;obtain⟨its,rv,p,hz⟩:=I.list hq;obtain⟨f0,f1,f2,f3,f4,f5⟩:=hf it (by simp);have hl:=rv.length
  exact wpAny_pyNext_list_end (I.ok.hd hc) st p.isList (by simp;lia) λh' eb=>⟨rfl,I.turned (t':=s.toks) (λb o hb e=>eb b o hb e) f0 f1 f3 f4 f5⟩
 self:=λ_ _ _ _ _ st h=>wpAny_pyIter_listiter st h
theorem Aj{P:Program}{w:World}{K:W.Frag}{tg:Expr}(a it:Addr):fX P w K tg (io K a) [it] it (λi h=>h.IsTupleIter it a i) where
 mem:=by simp
 obj:=λi h st b hb=>by
  have e:b=it:=by simpa using hb
  subst e;obtain⟨o,e,c,d⟩:=st;exact⟨o,e,λv z=>by rw[d] at z;cases z⟩
 keep:=λi h h' st k=>st.at λo e=>k it (by simp) o e
 item:=by intro X hP hw hK hc i HJ s σ H E I hf st hg;subst hP hw hK;obtain⟨xs,x,hq,hx⟩:=hg;obtain⟨its,rv,p,hz⟩:=I.tuple hq;obtain⟨u,hu,ru⟩:=rv.get hx;obtain⟨f0,f1,f2,f3,f4,f5⟩:=hf it (by simp);refine wpAny_pyNext_tuple_item st (show s.heap.IsTuple a its.toArray from p) (x:=u) (by simpa using hu) λh' Ix sb=>?_;have I1:Inv X HJ σ H {s with heap:=h'}:=I.turned (t':=s.toks) (λb o hb e=>(sb.2 b hb).trans e) f0 f1 f3 f4 f5;obtain⟨o,e,c,d⟩:=id Ix;exact⟨u,rfl,mG (s:={s with heap:=h'}) e c d (by decide) ⟨x,H,I1,ru,⟨rfl,λys hy=>by rw[I.tuple_inj hy hq];exact hx⟩,Ix,λb hb=>(hf b hb).1⟩⟩
 done:=by
  intro X hP hw hK hc i HJ s σ H E I hf st hg;subst hP hw hK;obtain⟨xs,hq,hx⟩:=hg;obtain⟨its,rv,p,hz⟩:=I.tuple hq;obtain⟨f0,f1,f2,f3,f4,f5⟩:=hf it (by simp);have hl:=rv.length
  exact wpAny_pyNext_tuple_end (I.ok.hd hc) st (show s.heap.IsTuple a its.toArray from p) (by simp;lia) λh' eb=>⟨rfl,I.turned (t':=s.toks) (λb o hb e=>eb b o hb e) f0 f1 f3 f4 f5⟩
 self:=λ_ _ _ _ _ st h=>wpAny_pyIter_tupleiter st h
theorem Ak{P:Program}{w:World}{K:W.Frag}{tg:Expr}(it:Addr)(lo:Int)(n:Nat):fX P w K tg (fY lo n) [it] it (λi h=>IsRangeIter h it (lo+(i:Nat)*1) ((n:Int)-(i:Nat)) 1) where
 mem:=by simp
 obj:=λi h st b hb=>by
  have e:b=it:=by simpa using hb
  subst e
  exact⟨_,st,λv z=>by
   have z':Data.fields _=Data.cell v:=z
   cases z'⟩
 keep:=λi h h' st k=>k it (by simp) _ st
 item:=by intro X hP hw hK hc i HJ s σ H E I hf st hg;subst hP hw hK;obtain⟨f0,f1,f2,f3,f4,f5⟩:=hf it (by simp);have W:=Walks.range (prog:=X.prog) (w:=X.w) (I.ok.hd hc) it lo 1 n;refine W.item i s _ _ hg st λv h' tk hv Ix kk=>?_;obtain⟨t,rfl⟩:=hv;have I1:Inv X HJ σ H {s with heap:=h',toks:=tk}:=I.turned (λb o hb e=>kk b o (by simpa using hb) e) f0 f1 f3 f4 f5;refine⟨_,rfl,mG (s:={s with heap:=h',toks:=tk}) (n:="range_iterator") Ix rfl rfl (by decide) ⟨.int (lo+i),H,I1,⟨t,?_⟩,⟨rfl,rfl⟩,Ix,λb hb=>(hf b hb).1⟩⟩;rw[Int.mul_one]
 done:=by
  intro X hP hw hK hc i HJ s σ H E I hf st hg;subst hP hw hK;obtain⟨f0,f1,f2,f3,f4,f5⟩:=hf it (by simp)
  exact wpAny_pyNext_range_end (I.ok.hd hc) st (by have:n<=i:=hg;lia) λh' eb=>⟨rfl,I.turned (t':=s.toks) (λb o hb e=>eb b o hb e) f0 f1 f3 f4 f5⟩
 self:=λ_ _ _ _ _ st h=>wpAny_pyIter_rangeiter st h
section
variable {X:Cx}{tg:Expr}
def tf(K:W.Frag)(tl:TE):TI:=λσ H R=>tl σ H λx H1=>∃a,x=.ref a/\(∃xs,am K H1 a xs)/\R (cL K a) H1
def Al(K:W.Frag)(tl:TE):TI:=λσ H R=>tl σ H λx H1=>∃a,x=.ref a/\(∃xs,ao K H1 a xs)/\R (io K a) H1
theorem Am(hl:PE X l tl):PI X tg l (tf X.K tl):=by
 intro HJ s σ H R I h;refine aA (hl HJ s σ H _ I h) λv s1 hsl17=>?_;obtain⟨x,H1,I1,r1,q1⟩:=hsl17;obtain⟨a,e,⟨xs,hq⟩,q⟩:=q1;subst e;cases r1;obtain⟨its,rv,p,hz⟩:=I1.list hq;refine wpAny_pyIter_list p.isList ?_;refine⟨s1.heap.objs.size,[s1.heap.objs.size],_,_,H1,rfl,I1.kept (t':=s1.toks) λb o e=>Qf _ e,sZ a _,⟨_,Qm _ rfl,rfl,rfl⟩,λb hb=>?_,q⟩;have e:b=s1.heap.objs.size:=by simpa using hb
 subst e;exact I1.fpOk (Qh _) (I1.hok.fresh (Qh _))
theorem An{HJ:List (Addr×Obj)}{σ:St}{H:Hp}{s:Shared}{R:It->Hp->Prop}{E:Value->Shared->Prop}{lo hi:Int}{t u v:Tok}{tk:Nat}(I:Inv X HJ σ H s)(h1:-(2^62)<=lo)(h2:lo<2^62)(h3:-(2^62)<=hi)(h4:hi<2^62)
  (q:R (fY lo (hi-lo).toNat) H):wpAny (model X.prog X.w) X.A (pyIter (.ref s.heap.objs.size)) (sY X HJ σ tg R) E {s with heap:=s.heap.push {cls:=.type "range",data:=.fields #[.int lo t,.int hi u,.int 1 v]},toks:=tk}:=by
 refine wpAny_pyIter_range (IsRange.new ..) (small_one h1 h2 h3 h4) ?_;have I1:Inv X HJ σ H {s with heap:=s.heap.push {cls:=.type "range",data:=.fields #[.int lo t,.int hi u,.int 1 v]},toks:=tk}:=I.kept λb o e=>Qf _ e
 refine⟨(s.heap.push {cls:=.type "range",data:=.fields #[.int lo t,.int hi u,.int 1 v]}).objs.size,[(s.heap.push {cls:=.type "range",data:=.fields #[.int lo t,.int hi u,.int 1 v]}).objs.size],_,_,H,rfl,
  I1.kept (t':=tk) λb o e=>Qf _ e,Ak _ lo (hi-lo).toNat,?_,λb hb=>?_,q⟩
 ·have e1:lo+((0:Nat):Int)*1=lo:=by simp
  have e2:(((hi-lo).toNat:Nat):Int)-((0:Nat):Int)=Builtin.Range.rangeSize lo hi 1:=by rw[rangeSize_one];split<;>lia
  show IsRangeIter _ _ (lo+((0:Nat):Int)*1) ((((hi-lo).toNat:Nat):Int)-((0:Nat):Int)) 1;rw[e1,e2];exact Qm _ rfl
 have e:b=(s.heap.push {cls:=.type "range",data:=.fields #[.int lo t,.int hi u,.int 1 v]}).objs.size:=by simpa using hb
 subst e;exact I1.fpOk (Qh _) (I1.hok.fresh (Qh _))
def Ao(ta:TA):TI:=λσ H R=>ta σ H λvs H1=>∃j:Int,vs=[.int j]/\-(2^62)<=j/\j<2^62/\R (fY 0 j.toNat) H1
theorem mH{a:Expr}{ta:TA}{p pos:Pos}(hg:Gl X "range")(hm:X.mg "range"=none)(ha:PA X [a] ta)(hs:starEach [a] X.env=[(false,eval a X.env)]:=by rfl):PI X tg (.Call (.Name "range" p) [a] [] pos) (Ao ta):=by
 intro HJ s σ H R I h;refine Call_ (jC I hg hm boot_range (PyProof.Rows.callWith_type1 (aA (ha pos HJ s σ H _ I h) λus s1 hsl18=>?_) hs rfl));obtain⟨vs,H1,I1,r1,q1⟩:=hsl18;obtain⟨j,e,q1,q2,q⟩:=q1;subst e
 cases r1 with
 |cons r rr =>
  cases rr;obtain⟨t,rfl⟩:=r;exact call_range_1 (An I1 (by lia) (by lia) q1 q2 (by simpa using q))
def o6(wi:TI)(g:TG)(tb:TS):TS:=λD σ H=>wi σ H λJ H1=>∃W:Nat->Nat->St->Hp->Prop,(∃m,W 0 m σ H1)/\∀i m σ H,W i m σ H ->
 (J.stop i H/\D.nx σ H)∨(J.go i H/\∃N:St->Hp->Prop,(∀σ' H',N σ' H'->∃m',m'<m/\W (i+1) m' σ' H')/\∀x H',J.yld i H x H'->g x σ H' λσ2 H2=>tb {D with nx:=N,ct:=N,bk:=D.nx} σ2 H2)
noncomputable def i7(fp:List Addr)(h:Heap):List (Addr×Obj):=fp.filterMap λb=>(h.get? b).map λo=>(b,o)
theorem ip{h:Heap}(hb:b∈fp)(e:h.get? b=some o):(b,o)∈i7 fp h:=List.mem_filterMap.mpr ⟨b,hb,by rw[e];rfl⟩
theorem tm{h:Heap}(hp:p∈i7 fp h):p.1∈fp/\h.get? p.1=some p.2:=by
 obtain⟨b,hb,e⟩:=List.mem_filterMap.mp hp
 cases q:h.get? b with
 |none=>rw[q] at e;cases e
 |some o =>
  rw[q] at e;have e':(b,o)=p:=Qs e;subst e';exact⟨hb,q⟩
theorem Inv.pinned{s:Shared}(I:Inv X HJ σ H s)(hf:∀b∈fp,cK X HJ H b)(ho:∀b∈fp,∃o,s.heap.get? b=some o/\∀v,o.data≠.cell v):Inv X (HJ++i7 fp s.heap) σ H s:=
 I.pins_of λp hp=>(Qv hp).elim (λz=>I.pin p (Qu _ z)) λz=>by obtain⟨hb,e⟩:=tm z;obtain⟨f0,f1,f2,_⟩:=hf p.1 hb;obtain⟨o,e',d⟩:=ho p.1 hb;rw[e] at e';cases e';exact⟨e,f0,f1,f2,d⟩
theorem Inv.unpinned(I:Inv X (HJ++pl) σ H s):Inv X HJ σ H s:=I.pins_of λp hp=>I.pin p (Qu _ (QQ _ hp))
theorem dC{g:TG}(hp:PassesOwn (model X.prog X.w) X.A X.env X.xe)(hc:X.calm=true)(hi:PI X tg iter wi)(hg:PG X tg g)(hb:fB X body tb)
  (hs:∀x,foldedSetIterable iter X.env x=pure x:=by intro _;rfl):PS X (.For tg iter body [] pos) (o6 wi g tb):=by
 intro HJ s σ H D I h;refine wpAny_For (aA (hi HJ s σ H _ I h) λv s1 h1=>aA h1 λitv s2 h2=>?_) hs;obtain⟨it,fp,tn,J,H2,e,I2,T,IJ,f2,W,⟨m0,w0⟩,turn⟩:=h2;subst e
 have stat:∀{H':Hp},(∀b∈fp,H' b=none)->∀b∈fp,cK X HJ H' b:=λhn b hb=>⟨hn b hb,(f2 b hb).2⟩
 refine codeAny_forLoop_any (λn s'=>∃i σ' H',Inv X HJ σ' H' s'/\tn i s'.heap/\(∀b∈fp,H' b=none)/\W i n σ' H') ?_ m0 ⟨0,σ,H2,I2,IJ,λb hb=>(f2 b hb).1,w0⟩;rintro n s3 ⟨i,σ3,H3,I3,st3,fr3,w3⟩
 rcases turn i n σ3 H3 w3 with ⟨stop,qn⟩|⟨go,N,hN,step⟩
 ·refine wpAny_passesOwn hp (aA (T.done X rfl rfl rfl hc i HJ s3 σ3 H3 X.xe I3 (stat fr3) st3 stop) λr s4 hsl19=>?_);obtain⟨hr,I4⟩:=hsl19;subst hr;exact wpAny_execs_nil ⟨σ3,H3,I4,qn⟩
 refine wpAny_passesOwn hp (aA (T.item X rfl rfl rfl hc i HJ s3 σ3 H3 X.xe I3 (stat fr3) st3 go) λr s4 hsl20=>?_);obtain⟨u,hr,h4⟩:=hsl20;subst hr;refine wpAny_passesOwn hp (aA h4 λ_ s5 hsl21=>?_);obtain⟨x,H5,I5,r5,y5,st5,fr5⟩:=hsl21;have I5':=I5.pinned (stat fr5) (T.obj _ _ st5);refine wpAny_passesOwn hp (aA (hg _ s5 σ3 H5 x u _ I5' r5 (step x H5 y5)) λ_ s6 hsl22=>?_);obtain⟨σ6,H6,I6,q6⟩:=hsl22;refine wpAny_passesOwn hp (aA (hb _ s6 σ6 H6 _ I6 q6) λf s7 q7=>?_);have again:∀{σ7:St} {H7:Hp},Inv X (HJ++i7 fp s5.heap) σ7 H7 s7->N σ7 H7->∃m,m<n/\∃i σ' H',Inv X HJ σ' H' s7/\tn i s7.heap/\(∀b∈fp,H' b=none)/\W i m σ' H':=λ{σ7 H7} I7 n7=>by obtain⟨m',hm,w7⟩:=hN σ7 H7 n7;refine⟨m',hm,i+1,σ7,H7,I7.unpinned,T.keep _ _ _ st5 λb hb o e=>(I7.pin (b,o) (Qu _ (Qu _ (ip hb e)))).1,λb hb=>?_,w7⟩;obtain⟨o,e,d⟩:=T.obj _ _ st5 b hb;exact(I7.pin (b,o) (Qu _ (Qu _ (ip hb e)))).2.1
 cases f with
 |next=>obtain⟨σ7,H7,I7,n7⟩:=q7;exact again I7 n7
 |cont=>obtain⟨σ7,H7,I7,n7⟩:=q7;exact again I7 n7
 |brk=>obtain⟨σ7,H7,I7,q7⟩:=q7;exact⟨σ7,H7,I7.unpinned,q7⟩
 |ret v=>obtain⟨x7,σ7,H7,I7,r7,q7⟩:=q7;exact⟨x7,σ7,H7,I7.unpinned,r7,q7⟩
end
theorem iq{K:W.Frag}{a:Addr}{xs:List V}{g:TG}{tb:TS}{D:cU}{σ:St}{H:Hp}(Pv:Nat->St->Hp->Prop)(h0:Pv 0 σ H)(hl:∀i σ H,i<=xs.length->Pv i σ H->am K H a xs)
  (hs:∀i x σ H,xs[i]?=some x->Pv i σ H->g x σ H λσ2 H2=>tb {D with nx:=Pv (i+1),ct:=Pv (i+1),bk:=D.nx} σ2 H2) (hd:∀σ H,Pv xs.length σ H->D.nx σ H) :
  ∃W:Nat->Nat->St->Hp->Prop,(∃m,W 0 m σ H)/\∀i m σ H,W i m σ H ->
   ((cL K a).stop i H/\D.nx σ H)∨((cL K a).go i H/\∃N:St->Hp->Prop,(∀σ' H',N σ' H'->∃m',m'<m/\W (i+1) m' σ' H')/\∀x H',(cL K a).yld i H x H'->g x σ H' λσ2 H2=>tb {D with nx:=N,ct:=N,bk:=D.nx} σ2 H2):=by
 refine⟨λi m σ H=>m=xs.length-i/\i<=xs.length/\Pv i σ H,⟨xs.length,by simp,Qy _,h0⟩,?_⟩;rintro i m σ H ⟨rfl,hi,p⟩;have q:=hl i σ H hi p;by_cases HS:i<xs.length
 ·refine .inr ⟨⟨xs,xs[i],q,by simp[HS]⟩,Pv (i+1),λσ' H' p'=>⟨xs.length-(i+1),by omega,rfl,HS,p'⟩,λx H' y=>?_⟩;obtain⟨e,y⟩:=y;subst e;exact hs i x σ _ (y xs q) p
 have e:i=xs.length:=by omega
 subst e;exact .inl ⟨⟨xs,q,Qh _⟩,hd σ H p⟩
theorem Ap{K:W.Frag}{a:Addr}{xs:List V}{g:TG}{tb:TS}{D:cU}{σ:St}{H:Hp}(Pv:Nat->St->Hp->Prop)(h0:Pv 0 σ H)(hl:∀i σ H,i<=xs.length->Pv i σ H->ao K H a xs)
  (hs:∀i x σ H,xs[i]?=some x->Pv i σ H->g x σ H λσ2 H2=>tb {D with nx:=Pv (i+1),ct:=Pv (i+1),bk:=D.nx} σ2 H2) (hd:∀σ H,Pv xs.length σ H->D.nx σ H) :
  ∃W:Nat->Nat->St->Hp->Prop,(∃m,W 0 m σ H)/\∀i m σ H,W i m σ H ->
   ((io K a).stop i H/\D.nx σ H)∨((io K a).go i H/\∃N:St->Hp->Prop,(∀σ' H',N σ' H'->∃m',m'<m/\W (i+1) m' σ' H')/\∀x H',(io K a).yld i H x H'->g x σ H' λσ2 H2=>tb {D with nx:=N,ct:=N,bk:=D.nx} σ2 H2):=by
 refine⟨λi m σ H=>m=xs.length-i/\i<=xs.length/\Pv i σ H,⟨xs.length,by simp,Qy _,h0⟩,?_⟩;rintro i m σ H ⟨rfl,hi,p⟩;have q:=hl i σ H hi p;by_cases HS:i<xs.length
 ·refine .inr ⟨⟨xs,xs[i],q,by simp[HS]⟩,Pv (i+1),λσ' H' p'=>⟨xs.length-(i+1),by omega,rfl,HS,p'⟩,λx H' y=>?_⟩;obtain⟨e,y⟩:=y;subst e;exact hs i x σ _ (y xs q) p
 have e:i=xs.length:=by omega
 subst e;exact .inl ⟨⟨xs,q,Qh _⟩,hd σ H p⟩
theorem tq{lo:Int}{n:Nat}{g:TG}{tb:TS}{D:cU}{σ:St}{H:Hp}(Pv:Nat->St->Hp->Prop)(h0:Pv 0 σ H)
  (hs:∀i σ H,i<n->Pv i σ H->g (.int (lo+i)) σ H λσ2 H2=>tb {D with nx:=Pv (i+1),ct:=Pv (i+1),bk:=D.nx} σ2 H2) (hd:∀σ H,Pv n σ H->D.nx σ H) :
  ∃W:Nat->Nat->St->Hp->Prop,(∃m,W 0 m σ H)/\∀i m σ H,W i m σ H ->
   ((fY lo n).stop i H/\D.nx σ H)∨((fY lo n).go i H/\∃N:St->Hp->Prop,(∀σ' H',N σ' H'->∃m',m'<m/\W (i+1) m' σ' H')/\∀x H',(fY lo n).yld i H x H'->g x σ H' λσ2 H2=>tb {D with nx:=N,ct:=N,bk:=D.nx} σ2 H2):=by
 refine⟨λi m σ H=>m=n-i/\i<=n/\Pv i σ H,⟨n,by simp,Qy _,h0⟩,?_⟩;rintro i m σ H ⟨rfl,hi,p⟩;by_cases HS:i<n
 ·refine .inr ⟨HS,Pv (i+1),λσ' H' p'=>⟨n-(i+1),by omega,rfl,HS,p'⟩,λx H' y=>?_⟩;obtain⟨e,y⟩:=y;subst e y;exact hs i σ _ HS p
 have e:i=n:=by omega
 subst e;exact .inl ⟨Qh _,hd σ H p⟩
abbrev R2:=V->V->Hp->VK->Prop
def bO(X:Cx)(f:Value->Value->Sem Value)(r:R2):Prop:=
 ∀(HJ:List (Addr×Obj)) (s:Shared) (σ:St) (H:Hp) (x y:V) (v u:Value) (Q:VK),Inv X HJ σ H s->RelV x v->RelV y u->r x y H Q ->
  wpAny (model X.prog X.w) X.A (f v u) (EP X HJ σ Q) X.xe s
def o7(X:Cx)(f:Value->Sem Value)(r:V->Hp->VK->Prop):Prop:=
 ∀(HJ:List (Addr×Obj)) (s:Shared) (σ:St) (H:Hp) (x:V) (v:Value) (Q:VK),Inv X HJ σ H s->RelV x v->r x H Q ->
  wpAny (model X.prog X.w) X.A (f v) (EP X HJ σ Q) X.xe s
def dM(X:Cx)(f:Value)(r:List V->Hp->VK->Prop):Prop:=
 ∀(HJ:List (Addr×Obj)) (s:Shared) (σ:St) (H:Hp) (xs:List V) (us:List Value) (Q:VK),Inv X HJ σ H s->az xs us->r xs H Q ->
  wpAny (model X.prog X.w) X.A (call f us) (EP X HJ σ Q) X.xe s
def i8(r:R2)(ta tb:TE):TE:=λσ H Q=>ta σ H λx H1=>tb σ H1 λy H2=>r x y H2 Q
def Aq(r:V->Hp->VK->Prop)(ta:TE):TE:=λσ H Q=>ta σ H λx H1=>r x H1 Q
inductive rI (C:Int->Int->Prop) (g:Int->Int->V) (x y:V) (H:Hp) (Q:VK):Prop
 |mk:∀i j,x=.int i->y=.int j->C i j->Q (g i j) H->rI C g x y H Q
inductive gp (g:Int->Int->V) (x y:V) (H:Hp) (Q:VK):Prop
 |mk:∀i j,x=.int i->y=.int j->Q (g i j) H->gp g x y H Q
inductive rU (g:Int->V) (x:V) (H:Hp) (Q:VK):Prop
 |mk:∀i,x=.int i->Q (g i) H->rU g x H Q
section
variable {X:Cx}{a b c:Expr}{ta tb tc:TE}{pos:Pos}
theorem pc(ha:PE X a ta)(hb:PE X b tb){HJ:List (Addr×Obj)}{s:Shared}{σ:St}{H:Hp}{R:V->V->Hp->Prop}(I:Inv X HJ σ H s)
  (h:ta σ H λx H1=>tb σ H1 λy H2=>R x y H2) {Q:Value->Shared->Prop} {f:Value->Value->Sem Value}
  (hf:∀v u s2 x y H2,Inv X HJ σ H2 s2->RelV x v->RelV y u->R x y H2->wpAny (model X.prog X.w) X.A (f v u) Q X.xe s2) :
  wpAny (model X.prog X.w) X.A (eval a X.env) (λv s₁=>wpAny (model X.prog X.w) X.A (eval b X.env) (λu s₂=>wpAny (model X.prog X.w) X.A (f v u) Q X.xe s₂) X.xe s₁) X.xe s:=by
 refine aA (ha HJ s σ H _ I h) λv s1 hsl23=>?_;obtain⟨x,H1,I1,r1,q1⟩:=hsl23;refine aA (hb HJ s1 σ H1 _ I1 q1) λu s2 hsl24=>?_;obtain⟨y,H2,I2,r2,q2⟩:=hsl24;exact hf v u s2 x y H2 I2 r1 r2 q2
theorem aD(ho:bO X (binaryOp op) r)(ha:PE X a ta)(hb:PE X b tb):PE X (.BinOp a op b pos) (i8 r ta tb):=by intro HJ s σ H Q I h;exact wpAny_BinOp (pc ha hb I h λv u s2 x y H2 I2 rx ry q=>ho HJ s2 σ H2 x y v u Q I2 rx ry q)
theorem mI(ho:o7 X (unaryOp op) r)(ha:PE X a ta):PE X (.UnaryOp op a pos) (Aq r ta):=by intro HJ s σ H Q I h;exact UnaryOp_ (aA (ha HJ s σ H _ I h) λv s1 hsl25=>by obtain⟨x,H1,I1,r1,q1⟩:=hsl25;exact ho HJ s1 σ H1 x v Q I1 r1 q1)
theorem mJ{g:Int->Int->Int}
  (rule:∀(i j:Int) (t u:Tok) (s:Shared) (Q:Value->Shared->Prop) (E:Value->Shared->Prop),C i j->Q (.int (g i j) s.toks) {s with toks:=s.toks+1}->wpAny (model X.prog X.w) X.A (f (.int i t) (.int j u)) Q E s) :
  bO X f (rI C λi j=>.int (g i j)):=by
 intro HJ s σ H x y v u Q I rx ry h;obtain⟨i,j,rfl,rfl,hc,q⟩:=h;obtain⟨t,rfl⟩:=rx;obtain⟨t',rfl⟩:=ry;exact rule i j t t' s _ _ hc ⟨.int (g i j),H,I.tok _,⟨_,rfl⟩,q⟩
theorem kW{g:Int->Int->Int}
  (rule:∀(i j:Int) (t u:Tok) (s:Shared) (Q:Value->Shared->Prop) (E:Value->Shared->Prop),Q (.int (g i j) s.toks) {s with toks:=s.toks+1}->wpAny (model X.prog X.w) X.A (f (.int i t) (.int j u)) Q E s) :
  bO X f (gp λi j=>.int (g i j)):=by
 intro HJ s σ H x y v u Q I rx ry h;obtain⟨i,j,rfl,rfl,q⟩:=h;obtain⟨t,rfl⟩:=rx;obtain⟨t',rfl⟩:=ry;exact rule i j t t' s _ _ ⟨.int (g i j),H,I.tok _,⟨_,rfl⟩,q⟩
theorem tu{g:Int->Int->Bool}
  (rule:∀(i j:Int) (t u:Tok) (s:Shared) (Q:Value->Shared->Prop) (E:Value->Shared->Prop),Q (.bool (g i j)) s->wpAny (model X.prog X.w) X.A (f (.int i t) (.int j u)) Q E s) :
  bO X f (gp λi j=>.bl (g i j)):=by
 intro HJ s σ H x y v u Q I rx ry h;obtain⟨i,j,rfl,rfl,q⟩:=h;obtain⟨t,rfl⟩:=rx;obtain⟨t',rfl⟩:=ry;exact rule i j t t' s _ _ ⟨.bl (g i j),H,I,rfl,q⟩
def Ar(i j:Int):Prop:=0<j/\j<1073741824
def As(i j:Int):Prop:=0<=j/\j<=1000000/\i.natAbs<2^64
def pz(i j:Int):Prop:=(-(2^64)<i/\i<2^64)∨(-(2^64)<j/\j<2^64)
theorem pz.ok(h:pz i j):IntMulOk i j:=by
 rcases h with ⟨h1,h2⟩|⟨h1,h2⟩
 ·exact .of_left (intBits_le_64 h1 h2)
 exact .of_right (intBits_le_64 h1 h2)
theorem dD:bO X (binaryOp .Add) (gp λi j=>.int (i+j)):=kW λ_ _ _ _ _ _ _ q=>add_int q
theorem jH:bO X (binaryOp .Sub) (gp λi j=>.int (i-j)):=kW λ_ _ _ _ _ _ _ q=>sub_int q
theorem iu:bO X (binaryOp .Mult) (rI pz λi j=>.int (i*j)):=mJ λ_ _ _ _ _ _ _ hc q=>mul_int q hc.ok
theorem gO:bO X (binaryOp .FloorDiv) (rI Ar λi j=>.int (i/j)):=mJ λi j _ _ _ _ _ hc q=>by have h1:(0:Int)<j:=hc.1;have h2:j<1073741824:=hc.2;exact floordiv_int (by omega) (by rw[Int.fdiv_eq_ediv_of_nonneg i (by omega)];exact q) (.inl (PyProof.noPylong_small (by omega)))
theorem ck:bO X (binaryOp .Mod) (rI (λ_ j=>0<j) λi j=>.int (i%j)):=mJ λi j _ _ _ _ _ hc q=>by have h1:(0:Int)<j:=hc;exact mod_int' (by lia) (by rw[Int.fmod_eq_emod_of_nonneg i (by lia)];exact q)
theorem At:bO X (binaryOp .Pow) (rI As λi j=>.int (i^j.toNat)):=mJ λ_ _ _ _ _ _ _ hc q=>pow_int_small hc.1 hc.2.1 hc.2.2 q
theorem kY:bO X (binaryOp .BitAnd) (gp λi j=>.int (Builtin.bitAnd i j)):=kW λ_ _ _ _ _ _ _ q=>and_int q
theorem pA:bO X (binaryOp .BitOr) (gp λi j=>.int (Builtin.bitOr i j)):=kW λ_ _ _ _ _ _ _ q=>or_int q
theorem tz:bO X (binaryOp .BitXor) (gp λi j=>.int (Builtin.bitXor i j)):=kW λ_ _ _ _ _ _ _ q=>xor_int q
theorem Au{g:Int->Int}
  (rule:∀(i:Int) (t:Tok) (s:Shared) (Q:Value->Shared->Prop) (E:Value->Shared->Prop),Q (.int (g i) s.toks) {s with toks:=s.toks+1}->wpAny (model X.prog X.w) X.A (f (.int i t)) Q E s) :
  o7 X f (rU λi=>.int (g i)):=by
 intro HJ s σ H x v Q I rx h;obtain⟨i,rfl,q⟩:=h;obtain⟨t,rfl⟩:=rx;exact rule i t s _ _ ⟨.int (g i),H,I.tok _,⟨_,rfl⟩,q⟩
theorem mK:o7 X (unaryOp .USub) (rU λi=>.int (-i)):=Au λ_ _ _ _ _ q=>neg_int q
end
noncomputable def tD:V->V->Bool
 |.non,.non=>true|.non,.int _=>true|.int _,.non=>true|.non,.bl _=>true|.bl _,.non=>true|.non,.str _=>true|.str _,.non=>true
 |.int _,.int _=>true|.bl _,.bl _=>true|.str _,.str _=>true|.byt _,.byt _=>true
 |.int _,.str _=>true|.str _,.int _=>true|.bl _,.str _=>true|.str _,.bl _=>true
 |_,_=>false
def Av:R2:=λx y H Q=>tD x y=true/\Q (.bl (decide (x=y))) H
def Aw:R2:=λx y H Q=>tD x y=true/\Q (.bl (!decide (x=y))) H
theorem gP:decide (V.int i=V.int j)=(i==j):=by rw[Bool.eq_iff_iff];simp
theorem tE:decide (V.bl i=V.bl j)=(i==j):=by rw[Bool.eq_iff_iff];simp
theorem tF:decide (V.str i=V.str j)=(i==j):=by rw[Bool.eq_iff_iff];simp
theorem tG{i j:Array UInt8}:decide (V.byt i=V.byt j)=(i.toList==j.toList):=by rw[Bool.eq_iff_iff];cases i;cases j;simp
section
variable {X:Cx}{a b c:Expr}{ta tb tc:TE}{pos:Pos}
theorem bP{k k':Bool}(I:Inv X HJ σ H s)(q:Q (.bl k) H)(e:k=k'):EP X HJ σ Q (.bool k') s:=by subst e;exact⟨.bl k,H,I,rfl,q⟩
theorem bi:bO X (compareOp .Eq) Av:=by
 intro HJ s σ H x y v u Q I rx ry h;obtain⟨hs,q⟩:=h
 cases x with
 |non =>
  cases rx
  cases y with
  |non=>cases ry;exact PySem.EqNone.eq_none_none (bP I q (by simp))
  |bl j=>cases ry;exact PySem.EqNone.eq_none_bool (bP I q (by simp))
  |int j=>obtain⟨t',rfl⟩:=ry;exact PySem.EqNone.eq_none_int (bP I q (by simp))
  |str j=>obtain⟨t',rfl⟩:=ry;exact PySem.EqNone.eq_none_str (bP I q (by simp))
  |_=>exact absurd (show false=true from hs) Qz
 |bl i =>
  cases rx
  cases y with
  |non=>cases ry;exact PySem.EqNone.eq_bool_none (bP I q (by simp))
  |bl j=>cases ry;exact eq_bool (bP I q tE)
  |str j=>obtain⟨t',rfl⟩:=ry;exact PySem.EqMixed.eq_bool_str (bP I q (by simp))
  |_=>exact absurd (show false=true from hs) Qz
 |int i =>
  obtain⟨t,rfl⟩:=rx
  cases y with
  |non=>cases ry;exact PySem.EqNone.eq_int_none (bP I q (by simp))
  |int j=>obtain⟨t',rfl⟩:=ry;exact eq_int (bP I q gP)
  |str j=>obtain⟨t',rfl⟩:=ry;exact PySem.EqMixed.eq_int_str (bP I q (by simp))
  |_=>exact absurd (show false=true from hs) Qz
 |str i =>
  obtain⟨t,rfl⟩:=rx
  cases y with
  |non=>cases ry;exact PySem.EqNone.eq_str_none (bP I q (by simp))
  |bl j=>cases ry;exact PySem.EqMixed.eq_str_bool (bP I q (by simp))
  |int j=>obtain⟨t',rfl⟩:=ry;exact PySem.EqMixed.eq_str_int (bP I q (by simp))
  |str j=>obtain⟨t',rfl⟩:=ry;exact eq_str (bP I q tF)
  |_=>exact absurd (show false=true from hs) Qz
 |byt i =>
  obtain⟨t,rfl⟩:=rx
  cases y with
  |byt j=>obtain⟨t',rfl⟩:=ry;exact PySem.W.eq_bytes (bP I q tG)
  |_=>exact absurd (show false=true from hs) Qz
 |_=>cases y<;>exact absurd (show false=true from hs) Qz
theorem dN:bO X (compareOp .NotEq) Aw:=by
 intro HJ s σ H x y v u Q I rx ry h;obtain⟨hs,q⟩:=h
 cases x with
 |non =>
  cases rx
  cases y with
  |non=>cases ry;exact PySem.EqNone.ne_none_none (bP I q (by simp))
  |bl j=>cases ry;exact PySem.EqNone.ne_none_bool (bP I q (by simp))
  |int j=>obtain⟨t',rfl⟩:=ry;exact PySem.EqNone.ne_none_int (bP I q (by simp))
  |str j=>obtain⟨t',rfl⟩:=ry;exact PySem.EqNone.ne_none_str (bP I q (by simp))
  |_=>exact absurd (show false=true from hs) Qz
 |bl i =>
  cases rx
  cases y with
  |non=>cases ry;exact PySem.EqNone.ne_bool_none (bP I q (by simp))
  |bl j=>cases ry;exact ne_bool (bP I q (congrArg not tE))
  |str j=>obtain⟨t',rfl⟩:=ry;exact PySem.EqMixed.ne_bool_str (bP I q (by simp))
  |_=>exact absurd (show false=true from hs) Qz
 |int i =>
  obtain⟨t,rfl⟩:=rx
  cases y with
  |non=>cases ry;exact PySem.EqNone.ne_int_none (bP I q (by simp))
  |int j=>obtain⟨t',rfl⟩:=ry;exact ne_int (bP I q (congrArg not gP))
  |str j=>obtain⟨t',rfl⟩:=ry;exact PySem.EqMixed.ne_int_str (bP I q (by simp))
  |_=>exact absurd (show false=true from hs) Qz
 |str i =>
  obtain⟨t,rfl⟩:=rx
  cases y with
  |non=>cases ry;exact PySem.EqNone.ne_str_none (bP I q (by simp))
  |bl j=>cases ry;exact PySem.EqMixed.ne_str_bool (bP I q (by simp))
  |int j=>obtain⟨t',rfl⟩:=ry;exact PySem.EqMixed.ne_str_int (bP I q (by simp))
  |str j=>obtain⟨t',rfl⟩:=ry;exact ne_str (bP I q (congrArg not tF))
  |_=>exact absurd (show false=true from hs) Qz
 |byt i =>
  obtain⟨t,rfl⟩:=rx
  cases y with
  |byt j=>obtain⟨t',rfl⟩:=ry;exact PySem.W.ne_bytes (bP I q (congrArg not tG))
  |_=>exact absurd (show false=true from hs) Qz
 |_=>cases y<;>exact absurd (show false=true from hs) Qz
theorem jI:bO X (compareOp .Lt) (gp λi j=>.bl (decide (i<j))):=tu λ_ _ _ _ _ _ _ q=>lt_int q
theorem pB:bO X (compareOp .Gt) (gp λi j=>.bl (decide (j<i))):=tu λ_ _ _ _ _ _ _ q=>gt_int q
theorem aI(b:Expr)(h:op≠.In:=by decide)(h2:op≠.NotIn:=by decide):behindInMarks op b=false:=by
 have e1:(op==CmpOp.In)=false:=by cases op<;>first|rfl|exact absurd rfl h
 have e2:(op==CmpOp.NotIn)=false:=by cases op<;>first|rfl|exact absurd rfl h2
 cases b<;>simp[behindInMarks,e1,e2]
theorem pE{op:CmpOp}{r:R2}(ho:bO X (compareOp op) r)(ha:PE X a ta)(hb:PE X b tb)(hm:behindInMarks op b=false):PE X (.Compare a [op] [b] pos) (i8 r ta tb):=by intro HJ s σ H Q I h;exact wpAny_Compare1 (pc ha hb I h λv u s2 x y H2 I2 rx ry q=>ho HJ s2 σ H2 x y v u Q I2 rx ry q) hm
def Ax(t:TE):TT:=λσ H Q=>t σ H (fW Q)
theorem aH(ho:bO X (compareOp op) r)(ha:PE X a ta)(hb:PE X b tb)(hm:behindInMarks op b=false):PT X (.Compare a [op] [b] pos) (Ax (i8 r ta tb)):=by
 intro HJ s σ H Q I h
 refine wpAny_isTrue_Compare1 (aA (ha HJ s σ H _ I h) λv s1 ⟨x,H1,I1,r1,q1⟩=>aA (hb HJ s1 σ H1 _ I1 q1) λu s2 ⟨y,H2,I2,r2,q2⟩ =>
  aA (ho HJ s2 σ H2 x y v u _ I2 r1 r2 q2) λc s3 ⟨z,H3,I3,r3,k,e,q3⟩=>?_) hm
 subst e;cases r3;exact wpAny_truthy_bool ⟨H3,I3,q3⟩
theorem kZ:(sizeLine:Nat)<2^63:=by rw[sizeLine_eq];decide
theorem pF:bO X (binaryOp .Add) (λx y H Q=>∃i j,x=.str i/\y=.str j/\i.length+j.length<=sizeLine/\Q (.str (i++j)) H):=by intro HJ s σ H x y v u Q I rx ry h;obtain⟨i,j,rfl,rfl,hz,q⟩:=h;obtain⟨t,rfl⟩:=rx;obtain⟨t',rfl⟩:=ry;exact add_str (λt' tk=>⟨.str (i++j),H,I.tok _,⟨_,rfl⟩,q⟩) hz
theorem vals1{x:V}{us:List Value}(r:az [x] us):∃u,us=[u]/\RelV x u:=by
 cases r with
 |cons r1 r2=>cases r2;exact⟨_,rfl,r1⟩
theorem vals2(r:az [x,y] us):∃u w',us=[u,w']/\RelV x u/\RelV y w':=by
 cases r with
 |cons r1 r2 =>
  cases r2 with
  |cons r3 r4=>cases r4;exact⟨_,_,rfl,r1,r3⟩
end
structure i9(h:Heap)(x dx C:Addr)(mA:Str->Option Value):Prop where
 obj:h.get? x=some (PySem.W.instObj C dx)
 ns:h.Ns1 dx mA
 ne:dx≠x
theorem Ay{h:Heap}{dx:Addr}{mA:Str->Option Value}(n:h.Ns1 dx mA):∃od,h.get? dx=some od/\∀name,PySem.W.lookIn name od=some (mA name):=by
 obtain⟨o,es,ep,ho,hd,hk,_,hm⟩:=n;refine⟨o,ho,λname=>?_⟩;have e:=hm name;unfold nsFind findBy at e;rw[<-Array.find?_toList] at e;unfold PySem.W.lookIn;rw[hd];dsimp only;split
 ·rename_i y q;rw[q] at e;exact congrArg some e
 rename_i q;rw[q] at e;have a:es.toList.any (·.refKey)=false:=by rw[List.any_eq_false];intro y hy;obtain⟨z,t,hkey⟩:=hk y (Array.mem_toList_iff.mp hy);simp[DictEntry.refKey,hkey]
 have a':¬es.toList.any (·.refKey)=true:=by rw[a];exact Qz
 rw[if_neg a'];exact congrArg some e
theorem i9.look(I:i9 h x dx C mA):∃od,PySem.W.InstAt h x (PySem.W.instObj C dx) C (some od)/\∀name,PySem.W.lookIn name od=some (mA name):=
 let ⟨od,ho,hl⟩:=Ay I.ns
 ⟨od,⟨I.obj,rfl,rfl,ho⟩,hl⟩
section
variable {prog:Program}{w:World}{A:Around}{E:Value->Shared->Prop}{s:Shared}{K:W.Frag}{x dx C f:Addr}{mA:Str->Option Value}{name:Str}{v:Value}
theorem Az(X:K.In s.heap)(I:i9 s.heap x dx C mA)(hg:PySem.W.plainGet K C name=true)(hh:PySem.W.hasDictIn K C=true)
  (ha:PySem.W.findIn K (.ref C) name=some none) (hv:mA name=some v) (hv':PySem.W.handedIn v=true) (h:Q v {s with toks:=s.toks+1}) :
  wpAny (model prog w) A (getAttr (.ref x) name expr) Q E s:=by
 obtain⟨od,J,hl⟩:=I.look;exact PySem.W.get_value X J (PySem.W.plainGet_of hg).1 (PySem.W.findObj_own hh ha rfl (by rw[hl,hv])) hv' h
theorem AB(X:K.In s.heap)(I:i9 s.heap x dx C mA)(hg:PySem.W.plainGet K C name=true)
  (hf:PySem.W.findIn K (.ref C) name=some (some (.ref f))) (ht:PySem.W.isFn K (.ref f)=true) (hv:mA name=none) (h:Q (.ref f,[.ref x]) s) :
  wpAny (model prog w) A (getMethod (.ref x) name pl) Q E s:=by
 obtain⟨od,J,hl⟩:=I.look;exact PySem.W.method_fn X J (PySem.W.plainGet_of hg).1 (PySem.W.plainGet_of hg).2 hf (beq_iff_eq.mp ht) (by show(PySem.W.lookIn name od).map (·.isSome)=some false;rw[hl,hv];rfl) h
theorem AC{ns:List Str}(X:K.In s.heap)(I:i9 s.heap x dx C mA)
  (hs:PySem.W.findIn K (.ref C) "__setattr__"=some (some (.builtin "object.__setattr__"))) (hp:PySem.W.plainOver K C=true) (ht:PySem.W.takerIn K C name=some none) (hh:PySem.W.hasDictIn K C=true)
  (hw:PySem.Within mA ns) (hsz:ns.length<=sizeLine)
  (h:∀h',i9 h' x dx C (λy=>if y=name then some v else mA y)->Heap.SameBut dx s.heap h'->Q () {s with heap:=h',toks:=s.toks+2}) :
  wpAny (model prog w) A (setAttr (.ref x) name v) Q E s:=by
 obtain⟨od,J,hl⟩:=I.look;refine PySem.W.set_plain X J hs (PySem.W.osa_open (s:={s with toks:=s.toks+1}) (r:=none) X J hp ht λb=>?_);obtain⟨cd,hc,hd'⟩:=PySem.W.any_some hh;have hx:s.heap.get? x=some ⟨.ref C,some dx,.plain,#[]⟩:=I.obj;refine Qa (Qe (Qa (Qa (wpAny_loadPart hx (Qa (PySem.W.Looks.here (s:={s with toks:=s.toks+1}) (PySem.W.looks_clsIn X hc) ?_))))));rw[hd'];refine Qe (a:=some dx) (Qa (Qe (Qa ?_)));refine wpAny_nsSet1 (s:={s with toks:=s.toks+1}) I.ns λh' hn2 IC=>?_;obtain⟨oD,esD,epD,hoD,hdD,hcD⟩:=hn2.count (PySem.Within.cons name v hw);refine Qa (wpAny_lookBehind hoD (by rw[hdD];exact pastItsLine_dict (QR hcD (by rw[QU];lia))) ?_);exact Qe (h _ ⟨(IC.2 _ (Ne.symm I.ne)).trans I.obj,hn2,I.ne⟩ IC)
theorem AD{kw:List (Str×Value)}(X:K.In s.heap)(hm:PySem.W.makesIn K C=true)
  (hi:PySem.W.findIn K (.ref C) "__init__"=some (some (.ref f))) (hf:PySem.W.typeIn K (.ref f)=some (.type "function"))
  (h:codeAny (model prog w) (A.under (.builtin "type.__call__" ⟨.ref C::vs,kw⟩)) (.call (.ref f) ⟨.ref (s.heap.objs.size+1)::vs,kw⟩) (PySem.W.InitBack (s.heap.objs.size+1) R)
   {s with heap:=(s.heap.push PySem.W.emptyDict).push (PySem.W.instObj C s.heap.objs.size)}) :
  codeAny (model prog w) A (.call (.ref C) ⟨vs,kw⟩) R s:=by
 obtain⟨hh,g,d,t,os⟩:=s;exact PySem.W.make_core (PySem.W.makes_of X hm) (PySem.W.looks_findIn X hi) (λself=>PySem.W.bind_fn X self hf) (.inl rfl) h
end
noncomputable def cw(f:Str)(v:V):List (Str×V)->List (Str×V)
 | []=>[(f,v)]
 |(g,x)::r=>if g=f then(g,v)::r else(g,x)::cw f v r
theorem tH(f g:Str)(v:V):∀fs:List (Str×V),(cw f v fs).lookup g=if g=f then some v else fs.lookup g
 | []=>by
  show List.lookup g [(f,v)]=_;by_cases h:g=f
  ·have hb:(g==f)=true:=beq_iff_eq.mpr h;simp only[List.lookup,hb,if_pos h]
  have hb:(g==f)=false:=beq_eq_false_iff_ne.mpr h;simp only[List.lookup,hb,if_neg h]
 |(k,x)::r=>by
  have ih:=tH f g v r;rw[show cw f v ((k,x)::r)=(if k=f then(k,v)::r else(k,x)::cw f v r) from rfl];by_cases hk:k=f
  ·rw[if_pos hk];by_cases h:g=k
   ·have hb:(g==k)=true:=beq_iff_eq.mpr h;simp only[List.lookup,hb,if_pos (h.trans hk)]
   have hb:(g==k)=false:=beq_eq_false_iff_ne.mpr h;simp only[List.lookup,hb,if_neg (λe:g=f=>h (e.trans hk.symm))]
  rw[if_neg hk];by_cases h:g=k
  ·have hb:(g==k)=true:=beq_iff_eq.mpr h;simp only[List.lookup,hb,if_neg (λe:g=f=>hk (h.symm.trans e))]
  have hb:(g==k)=false:=beq_eq_false_iff_ne.mpr h;simp only[List.lookup,hb];exact ih
theorem pG(f:Str)(v:V):∀fs:List (Str×V),f∈(cw f v fs).map (·.1)/\∀g,g∈fs.map (·.1)->g∈(cw f v fs).map (·.1)
 | []=>⟨by simp[cw],λg h=>by simp at h⟩
 |(k,x)::r=>by
  obtain⟨i1,i2⟩:=pG f v r;rw[show cw f v ((k,x)::r)=(if k=f then(k,v)::r else(k,x)::cw f v r) from rfl];by_cases hk:k=f
  ·rw[if_pos hk];subst hk;exact⟨by simp,λg h=>by simpa using h⟩
  rw[if_neg hk];refine⟨?_,λg h=>?_⟩
  ·rw[List.map_cons];exact QG _ i1
  rw[List.map_cons] at h ⊢;rcases Qx h with e|e
  ·exact List.mem_cons.mpr (.inl e)
  exact QG _ (i2 g e)
theorem tI(f:Str)(v:V):∀fs:List (Str×V),(cw f v fs).length<=fs.length+1
 | []=>by simp[cw]
 |(k,x)::r=>by
  have ih:=tI f v r;rw[show cw f v ((k,x)::r)=(if k=f then(k,v)::r else(k,x)::cw f v r) from rfl];by_cases hk:k=f
  ·rw[if_pos hk,QU,QU];lia
  rw[if_neg hk,QU,QU];lia
theorem dv.some_of(r:dv (some v) o):∃u,o=some u/\RelV v u:=by
 cases o with
 |none=>exact(show False from r).elim
 |some u=>exact⟨u,rfl,r⟩
theorem dv.none_of(r:dv none o):o=none:=by
 cases o with
 |none=>rfl
 |some u=>exact(show False from r).elim
theorem AE(r:RelV v u):PySem.W.handedIn u=true:=by
 cases v with
 |non=>cases (show u=Value.none from r);rfl
 |bl b=>cases (show u=Value.bool b from r);rfl
 |int i=>obtain⟨t,e⟩:=(show ∃t,u=Value.int i t from r);cases e;rfl
 |str x=>obtain⟨t,e⟩:=(show ∃t,u=Value.str x t from r);cases e;rfl
 |byt b=>obtain⟨t,e⟩:=(show ∃t,u=Value.bytes b t from r);cases e;rfl
 |flt b=>obtain⟨t,e⟩:=(show ∃t,u=Value.float b t from r);cases e;rfl
 |ref a=>cases (show u=Value.ref a from r);rfl
 |ty n=>cases (show u=Value.type n from r);rfl
section
variable {P:Program}{w:World}{H H':Hp}{h h':Heap}{a C dx:Addr}{fs fs':List (Str×V)}
theorem mL(hok:bJ P w H h)(e:H a=some (.ins C dx fs)):∃mA,i9 h a dx C mA/\(∀f,dv (fs.lookup f) (mA f))/\PySem.Within mA (fs.map (·.1))/\fs.length<=1000/\H dx=some (.own a):=by
 obtain⟨d,z,ne,ob,mA,n,r,q⟩:=(show bI P w H h a (.ins C dx fs) from hok a _ e)
 exact⟨mA,⟨ob,n,ne⟩,r,q,z,d⟩
end
structure gq(K:W.Frag)(C:Addr):Prop where
 pg:PySem.W.plainGet K C Str.empty=true
 hd:PySem.W.hasDictIn K C=true
 po:PySem.W.plainOver K C=true
 sa:PySem.W.findIn K (.ref C) "__setattr__"=some (some (.builtin "object.__setattr__"))
theorem gq.get{K:W.Frag}{C:Addr}(c:gq K C)(f:Str):PySem.W.plainGet K C f=true:=c.pg
def iw(K:W.Frag)(C:Addr)(f:Str):Prop:=PySem.W.findIn K (.ref C) f=some none
theorem iw.taker{K:W.Frag}{C:Addr}{f:Str}(n:iw K C f):PySem.W.takerIn K C f=some none:=by unfold PySem.W.takerIn;rw[show PySem.W.findIn K (.ref C) f=some none from n];rfl
structure fZ(K:W.Frag)(C:Addr)(m:Str)(f:Addr):Prop where
 at_:PySem.W.findIn K (.ref C) m=some (some (.ref f))
 fn:PySem.W.isFn K (.ref f)=true
 kp:W.keepIn K (.ref f)=true
section
variable {X:Cx}{HJ:List (Addr×Obj)}{σ:St}{H:Hp}{s:Shared}{a C dx:Addr}{fs:List (Str×V)}{f:Str}{v:V}{A:Around}{E:Value->Shared->Prop}
theorem AF(I:Inv X HJ σ H s)(e:H a=some (.ins C dx fs))(c:gq X.K C)(n:iw X.K C f)(l:fs.lookup f=some v)
  (h:∀u s',Inv X HJ σ H s'->RelV v u->Q u s'):wpAny (model X.prog X.w) A (getAttr (.ref a) f b) Q E s:=by
 obtain⟨mA,O,r,_,_,_⟩:=mL I.hok e;obtain⟨u,hu,ru⟩:=dv.some_of (v:=v) (o:=mA f) (by rw[<-l];exact r f);exact Az I.kIn O (c.get f) c.hd n hu (AE ru) (h u _ (I.tok _) ru)
theorem AG{g:Addr}(I:Inv X HJ σ H s)(e:H a=some (.ins C dx fs))(c:gq X.K C)(k:fZ X.K C m g)(l:fs.lookup m=none)
  (h:Q (.ref g,[.ref a]) s):wpAny (model X.prog X.w) A (getMethod (.ref a) m pl) Q E s:=by
 obtain⟨mA,O,r,_,_,_⟩:=mL I.hok e;have hn:mA m=none:=dv.none_of (by rw[<-l];exact r m);exact AB I.kIn O (c.get m) k.at_ k.fn hn h
theorem AH(I:Inv X HJ σ H s)(e:H a=some (.ins C dx fs))(c:gq X.K C)(n:iw X.K C f)(hl:fs.length<1000)(ry:RelV y u)
  (h:∀s',Inv X HJ σ (ag H a (.ins C dx (cw f y fs))) s'->Q () s'):wpAny (model X.prog X.w) A (setAttr (.ref a) f u) Q E s:=by
 obtain⟨mA,O,r,wi,_,ho⟩:=mL I.hok e;have hz:(fs.map (·.1)).length<=sizeLine:=by rw[Qg,sizeLine_eq];lia
 refine AC I.kIn O c.sa c.po n.taker c.hd wi hz λh' O' sb=>h _ ?_;have hd:∃o,h'.get? dx=some o:=by obtain⟨o,_,_,e',_⟩:=O'.ns;exact⟨o,e'⟩
 refine I.write (x:=a) (e:=dx) (by rw[e];exact True.intro) (.inr ho) (λb q hb z=>(sb.2 b hb).trans z) hd ?_;refine⟨by rw[ay O.ne];exact ho,?_,O.ne,O'.obj,_,O'.ns,λg=>?_,λg hg=>?_⟩
 ·have:=tI f y fs;lia
 ·show dv ((cw f y fs).lookup g) (if g=f then some u else mA g);rw[tH];by_cases q:g=f
  ·rw[if_pos q,if_pos q];exact ry
  rw[if_neg q,if_neg q];exact r g
 by_cases q:g=f
 ·rw[q];exact(pG f y fs).1
 refine(pG f y fs).2 g (wi g λz=>hg ?_);show(if g=f then some u else mA g)=none;rw[if_neg q];exact z
theorem Inv.made(I:Inv X HJ σ H s):Inv X HJ σ (ag (ag H s.heap.objs.size (.own (s.heap.objs.size+1))) (s.heap.objs.size+1) (.ins C s.heap.objs.size []))
  {s with heap:=(s.heap.push PySem.W.emptyDict).push (PySem.W.instObj C s.heap.objs.size)}:=by
 have e1:(s.heap.push PySem.W.emptyDict).get? s.heap.objs.size=some PySem.W.emptyDict:=Qm s.heap rfl;have e2:((s.heap.push PySem.W.emptyDict).push (PySem.W.instObj C s.heap.objs.size)).get? (s.heap.objs.size+1)=some (PySem.W.instObj C s.heap.objs.size):=by have:=Qm (s.heap.push PySem.W.emptyDict) (o:=PySem.W.instObj C s.heap.objs.size) rfl;rwa [Heap.size_push] at this
 have e3:(s.heap.push PySem.W.emptyDict).Ns s.heap.objs.size (λ_=>none):=⟨PySem.W.emptyDict,#[],_,e1,rfl,(λe he=>absurd he (by simp)),λ_=>rfl⟩
 have I1:=I.laid (a:=s.heap.objs.size) (o:=.own (s.heap.objs.size+1)) (h':=s.heap.push PySem.W.emptyDict) (t':=s.toks) (λb u q=>Qf _ q) (Qh _) ⟨_,e1⟩;refine I1.laid (a:=s.heap.objs.size+1) (o:=.ins C s.heap.objs.size []) (t':=s.toks) (λb u q=>Qf _ q) (Nat.le_of_eq (Heap.size_push _ _)) ?_;have ne:s.heap.objs.size≠s.heap.objs.size+1:=QB (Nat.lt_succ_self _);refine⟨by rw[ay ne,ah],Qy _,ne,e2,λ_=>none,(Heap.Ns1.of_empty e3).at λo q=>Qf _ q,λ_=>True.intro,λy hy=>absurd rfl hy⟩
theorem AI{w:World}(hb:attributeBase e f env (eval e env)=eval e env)
  (h:wpAny (model prog w) A (eval e env) (λo s₁=>wpAny (model prog w) A (getAttr o f true) Q E s₁) E s):wpAny (model prog w) A (eval (.Attribute e f pos) env) Q E s:=
 Attribute_any_ h (by rw[arm_eval_Attribute,hb])
end
inductive tJ (K:W.Frag) (f:Str) (Q:VK) (x:V) (H:Hp):Prop
 |mk:∀a C dx fs v,x=.ref a->H a=some (.ins C dx fs)->gq K C->iw K C f->fs.lookup f=some v->Q v H->tJ K f Q x H
def AJ(K:W.Frag)(ta:TE)(f:Str):TE:=λσ H Q=>ta σ H (tJ K f Q)
def AK(K:W.Frag)(ta tv:TE)(f:Str):TS:=λD σ H=>tv σ H λy H1=>ta σ H1 λx H2=>∃a C dx fs,x=.ref a/\H2 a=some (.ins C dx fs)/\gq K C/\iw K C f/\fs.length<1000 /\
 D.nx σ (ag H2 a (.ins C dx (cw f y fs)))
section
variable {X:Cx}{o e value:Expr}{f:Str}{pos IU Lg:Pos}{ta tv:TE}
theorem mM(he:PE X e ta)(hb:attributeBase e f X.env (eval e X.env)=eval e X.env):PE X (.Attribute e f pos) (AJ X.K ta f):=by
 intro HJ s σ H Q I h;refine AI hb (aA (he HJ s σ H _ I h) λu s1 hsl26=>?_);obtain⟨x,H1,I1,rx,a,C,dx,fs,v,ex,ea,c,n,l,q⟩:=hsl26;subst ex;obtain rfl:u=Value.ref a:=rx
 exact AF I1 ea c n l λu' s2 I2 ru=>⟨v,H1,I2,ru,q⟩
theorem tK(ha:PE X o ta)(hv:PE X value tv)(hs:swapsWith value (some (.Attribute o f IU)) pos.line X.env=pure false):PS X (.Assign [.Attribute o f IU] value pos) (AK X.K ta tv f):=by
 intro HJ s σ H D I h;refine plainObj_wpAny_Assign_Attribute (aA (hv HJ s σ H _ I h) λu s1 ⟨y,H1,I1,ry,q⟩=>aA (ha HJ s1 σ H1 _ I1 q) λov s2 hsl27=>?_) hs;obtain⟨x,H2,I2,rx,a,C,dx,fs,ex,ea,c,n,l,q2⟩:=hsl27;subst ex;obtain rfl:ov=Value.ref a:=rx
 exact AH I2 ea c n l ry λs3 I3=>⟨σ,_,I3,q2⟩
end
section
variable {X:Cx}{HJ:List (Addr×Obj)}{σ:St}{H:Hp}{s:Shared}{A:Around}{E:Value->Shared->Prop}{Q:Value->Shared->Prop}{c:Value}{b:Bool}
inductive dE (K:W.Frag) (H:Hp):V->Value->Prop where
 |non:dE K H .non (.type "NoneType")
 |bl (x:Bool):dE K H (.bl x) (.type "bool")
 |int (i:Int):dE K H (.int i) (.type "int")
 |str (x:Str):dE K H (.str x) (.type "str")
 |flt (x:UInt64):dE K H (.flt x) (.type "float")
 |lst {a:Addr} {xs:List V} (e:H a=some (.lst xs)):dE K H (.ref a) (.type "list")
 |frz {a:Addr} {o:Obj} {xs:List V} (e:H a=some (.frz o (.lst xs))):dE K H (.ref a) (.type "list")
 |tup {a:Addr} {xs:List V} (e:H a=some (.tup xs)):dE K H (.ref a) (.type "tuple")
 |dK {a:Addr} {kvs:List (ae×V)} (e:H a=some (.dK kvs)):dE K H (.ref a) (.type "dict")
 |dT {a:Addr} {kvs:List (List ae×V)} (e:H a=some (.dT kvs)):dE K H (.ref a) (.type "dict")
 | ins {a C dx:Addr} {fs:List (Str × V)} (e:H a=some (.ins C dx fs)) (cl:gq K C) (ha:PySem.W.findIn K (.ref C) "__class__"=some (some (.builtin "object.__class__")))
   (hn:PySem.W.specialIn K (.builtin "object.__class__") "__get__"=some (some (.builtin "getset_descriptor.__get__"))) (JF:PySem.W.takesIn K (.builtin "object.__class__")=some true)
   (hm:PySem.W.mroIn K C (.type "object")=some true):dE K H (.ref a) (.ref C)
theorem AL{u t:Value}(I:Inv X HJ σ H s)(rx:RelV x u)(ty:dE X.K H x t)(e:PySem.W.kitOne X.K t c=some b)(h:∀tk,Q (.bool b) {s with toks:=tk}) :
  wpAny (model X.prog X.w) A (call (.builtin "isinstance") [u,c]) Q E s:=by
 cases ty with
 |non=>cases (show u=Value.none from rx);exact PySem.W.kia_one PySem.W.kitx_none I.kIn True.intro e (λz=>nomatch z) h
 |bl y=>cases (show u=Value.bool y from rx);exact PySem.W.kia_one PySem.W.kitx_bool I.kIn True.intro e (λz=>nomatch z) h
 |int i=>obtain⟨t,q⟩:=(show ∃t,u=Value.int i t from rx);cases q;exact PySem.W.kia_one PySem.W.kitx_int I.kIn True.intro e (λz=>nomatch z) h
 |str y=>obtain⟨t,q⟩:=(show ∃t,u=Value.str y t from rx);cases q;exact PySem.W.kia_one PySem.W.kitx_str I.kIn True.intro e (λz=>nomatch z) h
 |flt y=>obtain⟨t,q⟩:=(show ∃t,u=Value.float y t from rx);cases q;exact PySem.W.kia_one PySem.W.kitx_float I.kIn True.intro e (λz=>nomatch z) h
 | @lst a xs ea =>
  cases (show u=Value.ref a from rx)
  obtain⟨_,_,n,_,h1⟩:=(show bI X.prog X.w H s.heap a (.lst xs) from I.hok a _ ea)
  exact PySem.W.kia_one PySem.W.kitx_list I.kIn ⟨_,h1,rfl⟩ e (λz=>nomatch z) h
 | @frz a ob xs ea =>
  cases (show u=Value.ref a from rx)
  obtain⟨_,_,_,n,_,h1⟩:=(show bI X.prog X.w H s.heap a (.frz ob (.lst xs)) from I.hok a _ ea)
  exact PySem.W.kia_one PySem.W.kitx_list I.kIn ⟨_,h1,rfl⟩ e (λz=>nomatch z) h
 | @tup a xs ea =>
  cases (show u=Value.ref a from rx)
  obtain⟨_,_,_,p,_⟩:=(show bI X.prog X.w H s.heap a (.tup xs) from I.hok a _ ea)
  obtain⟨o,h1,h2,_⟩:=p;exact PySem.W.kia_one PySem.W.kitx_tuple I.kIn ⟨o,h1,h2⟩ e (λz=>nomatch z) h
 | @dK a kvs ea =>
  cases (show u=Value.ref a from rx)
  obtain⟨_,_,vs,_,p⟩:=(show bI X.prog X.w H s.heap a (.dK kvs) from I.hok a _ ea)
  obtain⟨o,es,ep,h1,h2,_⟩:=p;exact PySem.W.kia_one PySem.W.kitx_dict I.kIn ⟨o,h1,h2.1⟩ e (λz=>nomatch z) h
 | @dT a kvs ea =>
  cases (show u=Value.ref a from rx)
  obtain⟨_,_,xs,_,o,es,ep,h1,h2,_⟩:=(show bI X.prog X.w H s.heap a (.dT kvs) from I.hok a _ ea)
  exact PySem.W.kia_one PySem.W.kitx_dict I.kIn ⟨o,h1,h2.1⟩ e (λz=>nomatch z) h
 | @ins a C dx fs ea cl ha hn JF hm =>
  cases (show u=Value.ref a from rx);obtain⟨mA,O,_⟩:=mL I.hok ea;obtain⟨od,J,_⟩:=O.look;exact PySem.W.kia_one (PySem.W.kitx_own (cl.get _) cl.hd ha hn JF hm) I.kIn J e (λz=>nomatch z) h
end
structure aB(k:Nat)(A:Around):Prop where
 hd:A.handled=none
 dp:A.depth+3*k+5<recursionLimit
 un:A.units+16*k+200<cLine
theorem aB.mono{j k:Nat}(r:aB k A)(h:j<=k):aB j A:=⟨r.hd,by have:=r.dp;lia,by have:=r.un;lia⟩
theorem aB.deeper{k:Nat}{A:Around}(r:aB (k+1) A)(env:Env):aB k (A.deeper env):=
 ⟨r.hd,by have:=r.dp;show A.depth+1+3*k+5<_;lia,by have:=r.un;show A.units+3+16*k+200<_;lia⟩
theorem aB.in1{k:Nat}{A:Around}(r:aB (k+1) A):aB k A.in1:=
 ⟨r.hd,by have:=r.dp;show A.depth+3*k+5<_;lia,by have:=r.un;show A.units+1+16*k+200<_;lia⟩
theorem AM{A:Around}{C:Addr}{us:List Value}{kw:List (Str×Value)}:(A.under (.builtin "type.__call__" ⟨.ref C::us,kw⟩)).depth=A.depth+1:=by
 first|rfl|simp[Around.under,Code.weight,Code.isCreation,Code.isGuard,Code.isCaller,Code.frames,Code.isFrame,guardIds]
theorem AN{A:Around}{C:Addr}{us:List Value}{kw:List (Str×Value)}:(A.under (.builtin "type.__call__" ⟨.ref C::us,kw⟩)).units=A.units+1:=by
 first|rfl|simp[Around.under,Code.cUnits,Code.frames,Code.isFrame]
theorem aB.make{k:Nat}{A:Around}(r:aB (k+1) A)(C:Addr)(us:List Value)(kw:List (Str×Value)):aB k (A.under (.builtin "type.__call__" ⟨.ref C::us,kw⟩)):=
 ⟨r.hd,by have:=r.dp;rw[AM];omega,by have:=r.un;rw[AN];omega⟩
theorem aB.depth{k:Nat}{A:Around}(r:aB k A):A.depth<recursionLimit:=by have:=r.dp;omega
theorem aB.units{k:Nat}{A:Around}(r:aB k A):A.units+64<cLine:=by have:=r.un;lia
def tL:TA:=λ_ H Q=>Q [] H
def tM(ta:TE)(tr:TA):TA:=λσ H Q=>ta σ H λx H1=>tr σ H1 λxs H2=>Q (x::xs) H2
section
variable {X:Cx}{e:Expr}{es:List Expr}{te:TE}{t:TA}{pos:Pos}
theorem af:PA X [] tL:=λ_ _ _ _ H Q I h=>Calls.spliced_nil ⟨[],H,I,.nil,h⟩
theorem aa(ha:PE X e te)(hr:PA X es t)(hs:starEach (e::es) X.env=(false,eval e X.env)::starEach es X.env:=by rfl):PA X (e::es) (tM te t):=by intro pos HJ s σ H Q I h;rw[hs];show wpAny _ _ (spliced ((false,eval e X.env)::backTo pos (starEach es X.env))) _ _ s;refine Calls.spliced_cons (aA (ha HJ s σ H _ I h) λu s1 hsl29=>?_);obtain⟨x,H1,I1,r1,q1⟩:=hsl29;exact aA (hr pos HJ s1 σ H1 _ I1 q1) λus s2 hsl30=>by obtain⟨xs,H2,I2,r2,q2⟩:=hsl30;exact⟨x::xs,H2,I2,.cons r1 r2,q2⟩
def AO(t:TA):TE:=λσ H Q=>t σ H λxs H1=>xs.length<=sizeLine/\∀p,H1 p=none->Q (.ref p) (ag H1 p (.tup xs))
def AQ(t:TA):TE:=λσ H Q=>t σ H λxs H1=>xs.length<=sizeLine/\∀p,H1 p=none->Q (.ref p) (ag H1 p (.lst xs))
theorem aR{x1}(h:PA X es t):PE X (.Tuple es x1 pos) (AO t):=by intro HJ s σ H Q I hq;refine wpAny_Tuple_spliced (aA (h pos HJ s σ H _ I hq) λus s1 ⟨xs,H1,I1,r,z,q⟩=>⟨by rw[<-r.length];exact z,?_⟩);have hf:H1 s1.heap.objs.size=none:=I1.hok.fresh (Qh _);refine⟨.ref s1.heap.objs.size,ag H1 s1.heap.objs.size (.tup xs),I1.laid (t':=s1.toks) (λb u e=>Qf _ e) (Qh _) ?_,rfl,q _ hf⟩;exact⟨z,us,r,⟨_,Qm _ rfl,rfl,_,rfl⟩,_,Qm _ rfl,rfl⟩
theorem cb(h:PA X es t):PE X (.List es pos) (AQ t):=by intro HJ s σ H Q I hq;refine wpAny_List_spliced (aA (h pos HJ s σ H _ I hq) λus s1 ⟨xs,H1,I1,r,z,q⟩=>⟨by rw[<-r.length];exact z,?_⟩);have hf:H1 s1.heap.objs.size=none:=I1.hok.fresh (Qh _);refine⟨.ref s1.heap.objs.size,ag H1 s1.heap.objs.size (.lst xs),I1.laid (t':=s1.toks) (λb u e=>Qf _ e) (Qh _) ?_,rfl,q _ hf⟩;exact⟨z,us,0,r,Qm _ rfl⟩
end
abbrev Sp:=List V->Hp->VK->XK->Prop
abbrev f6:=List Env->Hp->Shared->XK->Value->Shared->Prop
structure fD(P:Program)(w:World)(K:W.Frag)(mg:Str->Option Value)(base:Heap)(A:Around)(outer:List Env)(s:Shared)(H:Hp):Prop where
 frames:A.frames=some outer
 mod:Mod K mg base
 bs:∀b o,base.get? b=some o->s.heap.get? b=some o/\H b=none
 bsz:base.objs.size<=s.heap.objs.size
 funs:s.heap.FunFrames base outer
 frf:∀b∈eY outer,H b=none
 hok:bJ P w H s.heap
 bare:AllBare s.gens
def CE(outer:List Env)(P:Program)(w:World)(H:Hp)(s:Shared)(Q:VK)(u:Value)(s':Shared):Prop:=
 ∃v H',s'.os=s.os/\AllBare s'.gens/\Un (eY outer) [] H H' s.heap s'.heap/\bJ P w H' s'.heap/\RelV v u/\Q v H'
def CR(CX:f6)(outer:List Env)(P:Program)(w:World)(H:Hp)(s:Shared)(Q:VK)(E:XK)(r:Result)(s':Shared):Prop:=
 match r with
 |.ok (.ret u)=>CE outer P w H s Q u s'
 |.ok _=>False
 |.error e=>CX outer H s E e s'
structure aE(P:Program)(w:World)(K:W.Frag)(mg:Str->Option Value)(base:Heap)(CX:f6)(k:Nat)(f:Addr)(fd:FuncData)(ps:List Str)(sp:Sp):Prop where
 len:∀vs H Q E,sp vs H Q E->vs.length=ps.length
 run:∀(A:Around) (outer:List Env) (s:Shared) (H:Hp) (args:Args) (us:List Value) (vs:List V) (Q:VK) (E:XK),aB k A->fD P w K mg base A outer s H->BindsTo s fd args (ps.zip us)->az vs us->sp vs H Q E ->
  codeAny (model P w) A (.call (.ref f) args) (CR CX outer P w H s Q E) s
theorem fD.make{P:Program}{w:World}{K:W.Frag}{mg:Str->Option Value}{base:Heap}{A:Around}{outer:List Env}{s:Shared}{H:Hp}(e:fD P w K mg base A outer s H)(C:Addr)(us:List Value)(kw:List (Str×Value)) :
  fD P w K mg base (A.under (.builtin "type.__call__" ⟨.ref C::us,kw⟩)) outer s H:=⟨by first|exact e.frames|(simpa [Around.under,Code.envs,Code.isFrame,pushEnvs] using e.frames),e.mod,e.bs,e.bsz,e.funs,e.frf,e.hok,e.bare⟩
theorem fD.in1{P:Program}{w:World}{K:W.Frag}{mg:Str->Option Value}{base:Heap}{A:Around}{outer:List Env}{s:Shared}{H:Hp}(e:fD P w K mg base A outer s H) :
  fD P w K mg base A.in1 outer s H:=⟨e.frames,e.mod,e.bs,e.bsz,e.funs,e.frf,e.hok,e.bare⟩
section
variable {X:Cx}{HJ:List (Addr×Obj)}{σ:St}{H:Hp}{s s':Shared}
theorem Inv.env0(I:Inv X HJ σ H s):fD X.prog X.w X.K X.mg X.base X.A X.stack s H:=
 ⟨I.ok.frames,I.ok.mod,I.bs,QR I.ok.bsz I.sz,I.stack,I.stkFree,I.hok,I.bare⟩
theorem Inv.after(I:Inv X HJ σ H s)(h:CE X.stack X.prog X.w H s Q u s'):EP X HJ σ Q u s':=by obtain⟨v,H',os,bare,un,hok,r,q⟩:=h;obtain⟨hh,g,d,t,K5⟩:=s';obtain rfl:K5=s.os:=os;exact⟨v,H',I.call (h':=hh) (g':=g) (d':=d) (t':=t) (ch:=[]) un hok bare (λb z=>absurd z (by simp)),r,q⟩
end
def tN(sp:Sp)(Io:List V)(E:XK)(t:TA):TE:=λσ H Q=>t σ H λvs H1=>sp (vs++Io) H1 Q E
inductive tO (C:Addr) (m:Str) (sp:Sp) (Io:List V) (E:XK) (t:TA) (σ:St) (Q:VK) (x:V) (H:Hp):Prop
 |mk:∀a dx fs,x=.ref a->H a=some (.ins C dx fs)->fs.lookup m=none->(t σ H λvs H2=>sp (x::(vs++Io)) H2 Q E)->tO C m sp Io E t σ Q x H
def AR(C:Addr)(m:Str)(sp:Sp)(Io:List V)(E:XK)(ta:TE)(t:TA):TE:=λσ H Q=>ta σ H (tO C m sp Io E t σ Q)
def AS(C:Addr)(sp:Sp)(Io:List V)(E:XK)(t:TA):TE:=λσ H Q=>t σ H λvs H1=>∀x dx,H1 x=none->H1 dx=none->dx≠x ->
 sp (.ref x::(vs++Io)) (ag (ag H1 dx (.own x)) x (.ins C dx [])) (λv H2=>v=.non/\Q (.ref x) H2) E
def Binds(K:W.Frag)(fd:FuncData)(ps:List Str)(ds:List Value):Prop:=
 ∀(s:Shared) (us:List Value),K.In s.heap->(us++ds).length=ps.length->BindsTo s fd ⟨us,[]⟩ (ps.zip (us++ds))
theorem Binds.all{K:W.Frag}{fd:FuncData}{ps:List Str}(h:∀us:List Value,us.length=ps.length->bindArgs fd ⟨us,[]⟩=pure (ps.zip us)):Binds K fd ps []:=λs us _ hl=>by rw[QA] at hl ⊢;exact .of_eq (h us hl)
def jJ(CX:f6)(X:Cx)(E:XK):Prop:=∀(HJ:List (Addr×Obj)) (σ:St) (H:Hp) (s:Shared) (e:Value) (s':Shared),Inv X HJ σ H s->CX X.stack H s E e s'->X.xe e s'
section
variable {X:Cx}{CX:f6}{k:Nat}{f C:Addr}{fd:FuncData}{ps:List Str}{sp:Sp}{Io:List V}{ds:List Value}{E:XK}{x m:Str}{p pos apos:Pos}{e o:Expr}{es:List Expr}{ta:TE}{t:TA}
theorem tQ(F:aE X.prog X.w X.K X.mg X.base CX k f fd ps sp)(hr:aB k X.A)(hb:Binds X.K fd ps ds)(hd:az Io ds)(hx:jJ CX X E)
  (I:Inv X HJ σ H s) (r:az vs us) (h:sp (vs++Io) H Q E):wpAny (model X.prog X.w) X.A (call (.ref f) us) (EP X HJ σ Q) X.xe s:=by
 have r2:az (vs++Io) (us++ds):=r.append hd;have hl:(us++ds).length=ps.length:=by rw[<-r2.length];exact F.len _ _ _ _ h
 refine wpAny_call (codeAny_mono (F.run X.A X.stack s H ⟨us,[]⟩ (us++ds) (vs++Io) Q E hr I.env0 (hb s us I.kIn hl) r2 h) λr s' hq=>?_)
 cases r with
 |error e=>exact hx HJ σ H s e s' I hq
 |ok fl =>
  cases fl with
  |ret u=>exact I.after hq
  |next=>exact False.elim hq
  |brk=>exact False.elim hq
  |cont=>exact False.elim hq
theorem AT(F:aE X.prog X.w X.K X.mg X.base CX k f fd ps sp)(hr:aB k X.A)(hg:Gl X x)(hm:X.mg x=some (.ref f))(hk:W.keepIn X.K (.ref f)=true)(hb:Binds X.K fd ps ds)(hd:az Io ds)(hx:jJ CX X E)
  (ha:PA X (e::es) t) (hdb:(x==("__debug__":Str))=false:=by decide) (he:starEach (e::es) X.env=(false,eval e X.env)::starEach es X.env:=by rfl) (ID:(backTo pos (starEach es X.env)).any (·.1)=false:=by rfl) :
  PE X (.Call (.Name x p) (e::es) [] pos) (tN sp Io E t):=by
 intro HJ s σ H Q I h;refine wpAny_Call_Name_kw (kS I hg hm ?_ hdb);refine PySem.W.callWith_K (h₀:=X.base) I.ok.mod.kin hk (aA (ha pos HJ s σ H _ I h) λus s1 ⟨vs,H1,I1,r,q⟩=>⟨I1.kIn,?_⟩) he ID;exact tQ F hr hb hd hx I1 r q
theorem cM(he:PE X o ta)(c:gq X.K C)(hm:fZ X.K C m f)(F:aE X.prog X.w X.K X.mg X.base CX k f fd ps sp)(hr:aB k X.A)(hb:Binds X.K fd ps ds)(hd:az Io ds)(hx:jJ CX X E)(ha:PA X (e::es) t)
  (hst:starEach (e::es) X.env=(false,eval e X.env)::starEach es X.env:=by rfl) (ID:(backTo pos (starEach es X.env)).any (·.1)=false:=by rfl)
  (ht:eval (.Call (.Attribute o m apos) (e::es) [] pos) X.env=(do
   let ov <- eval o X.env
   standAt apos.atName
   let (f,first) <- holding [ov] (getMethod ov m pl)
   callWith pos f first (backTo pos (starEach (e::es) X.env)) (backToKw pos (keywordEach [] X.env))):=by rfl) :
  PE X (.Call (.Attribute o m apos) (e::es) [] pos) (AR C m sp Io E ta t):=by
 intro HJ s σ H Q I h;refine PySem.W.methodCall_KW (pl:=pl) (aA (he HJ s σ H _ I h) λu s1 hsl31=>?_) ht;obtain⟨x,H1,I1,rx,a,dx,fs,ex,ea,l,q⟩:=hsl31;subst ex;obtain rfl:u=Value.ref a:=rx;refine AG I1 ea c hm l ?_;refine PySem.W.callWith_K (first:=[.ref a]) (h₀:=X.base) I.ok.mod.kin hm.kp (aA (ha pos HJ s1 σ H1 _ I1 q) λus s2 ⟨vs,H2,I2,r,q2⟩=>⟨I2.kIn,?_⟩) hst ID;exact tQ (us:=.ref a::us) (vs:=.ref a::vs) F hr hb hd hx I2 (.cons rfl r) q2
structure Mk(K:W.Frag)(C f:Addr):Prop where
 makes:PySem.W.makesIn K C=true
 init:PySem.W.findIn K (.ref C) "__init__"=some (some (.ref f))
 fn:PySem.W.isFn K (.ref f)=true
 kp:W.keepIn K (.ref C)=true
theorem AU(M:Mk X.K C f)(F:aE X.prog X.w X.K X.mg X.base CX k f fd ps sp)(hr:aB (k+1) X.A)(hb:Binds X.K fd ps ds)(hd:az Io ds)
  (hx:jJ CX X E) (I:Inv X HJ σ H s) (r:az vs us)
  (h:∀x dx,H x=none->H dx=none->dx≠x->sp (.ref x::(vs++Io)) (ag (ag H dx (.own x)) x (.ins C dx [])) (λv H2=>v=.non/\Q (.ref x) H2) E) :
  wpAny (model X.prog X.w) X.A (call (.ref C) us) (EP X HJ σ Q) X.xe s:=by
 have hq:=h (s.heap.objs.size+1) s.heap.objs.size (I.hok.fresh (Nat.le_succ _)) (I.hok.fresh (Qh _)) (QB (Nat.lt_succ_self _));have I2:=Inv.made (C:=C) I;have r2:az (V.ref (s.heap.objs.size+1)::(vs++Io)) (Value.ref (s.heap.objs.size+1)::(us++ds)):=.cons rfl (r.append hd);have hl:(Value.ref (s.heap.objs.size+1)::us++ds).length=ps.length:=by have e:=r2.length;rw[F.len _ _ _ _ hq] at e;exact e.symm
 refine wpAny_call (AD (f:=f) I.kIn M.makes M.init (beq_iff_eq.mp M.fn) (codeAny_mono (F.run _ X.stack _ _ ⟨Value.ref (s.heap.objs.size+1)::us,[]⟩ (Value.ref (s.heap.objs.size+1)::(us++ds)) _ _ E (hr.make C us [])
  (I2.env0.make C us []) (hb _ (Value.ref (s.heap.objs.size+1)::us) I2.kIn hl) r2 hq) λr s' hq'=>?_))
 cases r with
 |error e=>exact hx HJ σ _ _ e s' I2 hq'
 |ok fl =>
  cases fl with
  |ret u =>
   obtain⟨v,H',I3,rv,ev,q3⟩:=I2.after hq';subst ev;exact⟨rv,⟨V.ref (s.heap.objs.size+1),H',I3,rfl,q3⟩⟩
  |next=>exact False.elim hq'
  |brk=>exact False.elim hq'
  |cont=>exact False.elim hq'
theorem AV(M:Mk X.K C f)(F:aE X.prog X.w X.K X.mg X.base CX k f fd ps sp)(hr:aB (k+1) X.A)(hg:Gl X x)(hm:X.mg x=some (.ref C))(hb:Binds X.K fd ps ds)(hd:az Io ds)(hx:jJ CX X E)
  (ha:PA X (e::es) t) (hdb:(x==("__debug__":Str))=false:=by decide) (he:starEach (e::es) X.env=(false,eval e X.env)::starEach es X.env:=by rfl) (ID:(backTo pos (starEach es X.env)).any (·.1)=false:=by rfl) :
  PE X (.Call (.Name x p) (e::es) [] pos) (AS C sp Io E t):=by
 intro HJ s σ H Q I h;refine wpAny_Call_Name_kw (kS I hg hm ?_ hdb);refine PySem.W.callWith_K (h₀:=X.base) I.ok.mod.kin M.kp (aA (ha pos HJ s σ H _ I h) λus s1 ⟨vs,H1,I1,r,q⟩=>⟨I1.kIn,?_⟩) he ID;exact AU M F hr hb hd hx I1 r q
end
def PK(X:Cx)(kws:List Keyword)(t:TA):Prop:=
 ∀(pos:Pos) (HJ:List (Addr×Obj)) (s:Shared) (σ:St) (H:Hp) (Q:List V->Hp->Prop),Inv X HJ σ H s->t σ H Q->wpAny (model X.prog X.w) X.A (evalAll ((backToKw pos (keywordEach kws X.env)).map (·.2))) (AP X HJ σ Q) X.xe s
section
variable {X:Cx}{CX:f6}{k:Nat}{f C:Addr}{fd:FuncData}{ps ks:List Str}{sp:Sp}{E:XK}{x m:Str}{p pos apos kpos:Pos}{e o:Expr}{es:List Expr}{kws:List Keyword}{te ta:TE}{t tk:TA}{nm:Option Str}
theorem AW:PK X [] tL:=λ_ _ _ _ H Q I h=>wpAny_evalAll_nil ⟨[],H,I,.nil,h⟩
theorem AX(ha:PE X e te)(hr:PK X kws t):PK X (⟨nm,e,kpos⟩::kws) (tM te t):=by intro pos HJ s σ H Q I h;show wpAny _ _ (evalAll ((do let v <- eval e X.env;standAt pos;pure v)::(backToKw pos (keywordEach kws X.env)).map (·.2))) _ _ s;refine wpAny_evalAll_cons (Qa (aA (ha HJ s σ H _ I h) λu s1 ⟨x,H1,I1,r1,q1⟩=>Qa (wpAny_standAt (Qe ?_))));exact aA (hr pos HJ s1 σ H1 _ I1 q1) λus s2 hsl32=>by obtain⟨xs,H2,I2,r2,q2⟩:=hsl32;exact⟨x::xs,H2,I2,.cons r1 r2,q2⟩
variable {g:List Value->List Value->List Value}{gV:List V->List V->List V}
end
structure bf(N P:List Str)(sc:Scope):Prop where
 kind:sc.kind=.function
 co:sc.isCoroutine=false
 gen:sc.isGenerator=false
 nd:N.Nodup
 pre:N.take P.length=P
 par:∀x∈P,sc.names.lookup x=some .local∨sc.names.lookup x=some .cell
 nofree:∀y∈sc.names,y.2≠.free
theorem tR{kindOf:Str->Option NameKind}{x:Str}:∀{JO:List (Str×Value)} {m:Str->Option Value},(∀v,(x,v)∉JO)->bindL kindOf JO m x=m x
 | [],_,_=>rfl
 |(n,v)::r,m,h=>by
  unfold bindL;rw[tR λw hw=>h w (QG _ hw)];split
  ·have:x≠n:=by rintro rfl;exact h v QK
   simp[this]
  rfl
theorem tS{kindOf:Str->Option NameKind}{x:Str}:∀{JO:List (Str×Value)} {m:Str->Option Value},(∀v,(x,v)∉JO)->bindC kindOf JO m x=m x
 | [],_,_=>rfl
 |(n,v)::r,m,h=>by
  unfold bindC;rw[tS λw hw=>h w (QG _ hw)];split
  ·rfl
  have:x≠n:=by rintro rfl;exact h v QK
  simp[this]
theorem tT{kindOf:Str->Option NameKind}{x:Str}{v:Value}:∀{P:List Str} {vs:List Value} {i:Nat} {m:Str->Option Value},P.Nodup->P[i]?=some x->vs[i]?=some v->kindOf x=some .local ->
  bindL kindOf (P.zip vs) m x=some v
 | [],_,_,_,_,h,_,_=>by simp at h
 |_::_,[],_,_,_,_,h,_=>by simp at h
 |p::P,w::vs,0,m,nd,h1,h2,hk=>by simp at h1 h2;subst h1;subst h2;show bindL kindOf ((p,w)::P.zip vs) m p=_;unfold bindL;rw[tR λv hv=>(List.nodup_cons.mp nd).1 (List.of_mem_zip hv).1,if_pos hk];simp
 |p::P,w::vs,i+1,m,nd,h1,h2,hk=>by show bindL kindOf ((p,w)::P.zip vs) m x=_;unfold bindL;exact tT (i:=i) (List.nodup_cons.mp nd).2 (by simpa using h1) (by simpa using h2) hk
theorem tU{kindOf:Str->Option NameKind}{x:Str}{v:Value}:∀{P:List Str} {vs:List Value} {i:Nat} {m:Str->Option Value},P.Nodup->P[i]?=some x->vs[i]?=some v->kindOf x≠some .local ->
  bindC kindOf (P.zip vs) m x=some v
 | [],_,_,_,_,h,_,_=>by simp at h
 |_::_,[],_,_,_,_,h,_=>by simp at h
 |p::P,w::vs,0,m,nd,h1,h2,hk=>by simp at h1 h2;subst h1;subst h2;show bindC kindOf ((p,w)::P.zip vs) m p=_;unfold bindC;rw[tS λv hv=>(List.nodup_cons.mp nd).1 (List.of_mem_zip hv).1,if_neg hk];simp
 |p::P,w::vs,i+1,m,nd,h1,h2,hk=>by show bindC kindOf ((p,w)::P.zip vs) m x=_;unfold bindC;exact tU (i:=i) (List.nodup_cons.mp nd).2 (by simpa using h1) (by simpa using h2) hk
noncomputable def start(N:List Str)(vs:List V):St:=vs.map some++List.replicate (N.length-vs.length) none
noncomputable def gQ(CX:f6)(P:Program)(w:World)(K:W.Frag)(mg:Str->Option Value)(base:Heap)(N:List Str)(qual:Str)(scope:Scope)(f:Addr)(cd:Value)(A:Around)(outer:List Env)(s:Shared)(H:Hp)(E:XK):Cx where
 prog:=P
 w:=w
 K:=K
 mg:=mg
 base:=base
 A:=A.deeper (envOfC qual scope s.heap.objs.size f cd)
 N:=N
 s₀:=s
 H₀:=H
 env:=envOfC qual scope s.heap.objs.size f cd
 outer:=outer
 stack:=envOfC qual scope s.heap.objs.size f cd::outer
 ex:=[]
 calm:=true
 fn:=λ_=>true
 pn:=[]
 xe:=λe s'=>wpAny (model P w) (A.deeper (envOfC qual scope s.heap.objs.size f cd)) (leaving (envOfC qual scope s.heap.objs.size f cd) e) (λ_ s''=>CX outer H s E e s'') (λe' s''=>CX outer H s E e' s'') s'
theorem tV{sc:Scope}(h:sc.names.lookup x=some .cell):∃c,(cellsFrom n sc.names []).lookup x=some c:=by have q:=PySem.W.cellsFrom_some sc.names n [] (.inl h);exact Option.isSome_iff_exists.mp q
theorem AY{CX:f6}{P:Program}{w:World}{K:W.Frag}{mg:Str->Option Value}{base:Heap}{N ps:List Str}{qual:Str}{scope:Scope}{f:Addr}{cd:Value}{A:Around}{outer:List Env}{s s1:Shared}{H:Hp}{E:XK}{us:List Value}{vs:List V}
  (S:bf N ps scope) (hd:A.handled=none) (e0:fD P w K mg base A outer s H) (hl:vs.length=ps.length) (r:az vs us)
  (x:InCallC s s.heap.objs.size (bindL (envOfC qual scope s.heap.objs.size f cd).kindOf (ps.zip us) λ_=>none) (cellsFrom (s.heap.objs.size+1) scope.names []) (bindC (envOfC qual scope s.heap.objs.size f cd).kindOf (ps.zip us) λ_=>none) s1) :
  Inv (gQ CX P w K mg base N qual scope f cd A outer s H E) [] (start N vs) H s1:=by
 have ID:ps.length<=N.length:=by have:=congrArg List.length S.pre;rw[QH] at this;lia
 obtain⟨h1,tk,rfl,hk⟩:=x.done;have noA:∀b:Addr,b∉(gQ CX P w K mg base N qual scope f cd A outer s H E).ex:=λb z=>absurd (show b∈([]:List Addr) from z) (by simp)
 refine⟨⟨e0.mod,S.kind,rfl,rfl,Qh _,λy z c h1 h2=>?_,λy hy=>?_,λy c _ h=>?_,λ_=>hd,Around.frames_deeper e0.frames,.inr ⟨rfl,rfl⟩,λb z=>absurd z (noA b),e0.bs,e0.bsz,λb _ _=>noA b,λb z=>absurd z (noA b),e0.funs,e0.frf⟩,
  rfl,e0.bare,Un.kept hk,⟨_,x.toInCall.ns,λi y v h1 h2 h3=>?_⟩,λy c h=>⟨_,x.cell y c h⟩,e0.hok.fresh (Qh _),λy c h=>?_,λp hp=>absurd (show p∈([]:List (Addr×Obj)) from hp) (by simp),e0.hok.kept hk,?_⟩
 ·exact name_of_addr x.apart (PySem.mem_of_lookup h1) (PySem.mem_of_lookup h2)
 ·have hy:scope.names.lookup y=some .cell∨scope.names.lookup y=some .free:=hy;rcases hy with hy|hy
  ·exact tV hy
  exact absurd rfl (S.nofree _ (PySem.mem_of_lookup hy))
 ·exact QT (x.above y c (PySem.mem_of_lookup h))
 ·have hi:i<vs.length:=by
   unfold start at h2;by_cases hi:i<vs.length
   ·exact hi
   rw[Qw (by simpa using hi)] at h2;rw[List.getElem?_replicate] at h2;split at h2<;>cases h2
  have ha:vs[i]?=some v:=by
   unfold start at h2;rw[Ql (by simpa using hi),Qr] at h2
   cases e:vs[i]? with
   |none=>rw[e] at h2;cases h2
   |some a=>rw[e] at h2;cases h2;rfl
  obtain⟨u,hu,rv⟩:=r.get ha;have hp:ps[i]?=some y:=by rw[<-S.pre,List.getElem?_take_of_lt (by lia)];exact h1
  have ndP:ps.Nodup:=by rw[<-S.pre];exact S.nd.sublist (List.take_sublist _ _)
  refine⟨u,rv,?_⟩;rcases S.par y (Qq hp) with k|k
  ·exact .inl ⟨k,tT ndP hp hu k⟩
  obtain⟨c,e⟩:=tV (n:=s.heap.objs.size+1) k;refine .inr ⟨.inl k,c,e,?_⟩;have q:=x.cell y c e;rw[tU ndP hp hu (by show scope.names.lookup y≠_;rw[k];decide)] at q;exact q
 ·exact e0.hok.fresh (QT (x.above y c (PySem.mem_of_lookup h)))
 unfold start;show _=N.length;rw[Qi,Qg,List.length_replicate];lia
theorem AZ{CX:f6}{P:Program}{w:World}{K:W.Frag}{mg:Str->Option Value}{base:Heap}{k:Nat}{f:Addr}{name qual:Str}{params:Arguments}{body:List Stmt}{scope:Scope}{dV kV Kw pm HQ ct oc:Value}{an od:Option Addr}
  {osl:Array (Option Value)} {N ps:List Str} {sp:Sp} (lk:K.lookup f=some ⟨oc,od,.func (W.fnOf name qual params body scope dV kV Kw pm an HQ ct),osl⟩) (IY:W.codeIn K HQ qual=true) (S:bf N ps scope)
  (len:∀vs H Q E,sp vs H Q E->vs.length=ps.length)
  (Lr:∀(A:Around) (outer:List Env) (s:Shared) (H:Hp) (vs:List V) (Q:VK) (E:XK),aB k (A.deeper (envOfC qual scope s.heap.objs.size f HQ))->sp vs H Q E ->
   ∃t,fB (gQ CX P w K mg base N qual scope f HQ A outer s H E) body t/\t {nx:=λ_ H'=>Q .non H',rt:=Q} (start N vs) H) :
  aE P w K mg base CX (k+1) f (W.fnOf name qual params body scope dV kV Kw pm an HQ ct) ps sp:=by
 refine⟨len,λA outer s H args us vs Q E hr e0 hb r K8=>?_⟩;have hl:=len _ _ _ _ K8;have KX:K.In s.heap:=e0.mod.kin.keeps λb o e=>(e0.bs b o e).1;have lim:s.heap.NoLimit:=e0.mod.nolimit.keeps λb o e=>(e0.bs b o e).1
 have hkind:∀y∈ps.zip us,scope.names.lookup y.1=some .local∨(scope.names.lookup y.1=some .cell/\((cellsFrom (s.heap.objs.size+1) scope.names []).lookup y.1).isSome=true):=λ⟨n,v⟩ hy=>by
  rcases S.par n (List.of_mem_zip hy).1 with q|q
  ·exact .inl q
  exact .inr ⟨q,PySem.W.cellsFrom_some _ _ _ (.inl q)⟩
 refine codeAny_call_function hr.depth (KX _ _ lk) rfl S.co S.gen rfl (PySem.W.codeRec_of KX IY) (hb _ _ _ _ ?_);refine wpAny_newFunctionEnv_cells S.kind hkind λenv he s1 x=>?_;subst he;refine⟨lim.keeps x.toInCall.keep,codeAny_func ?_⟩;obtain⟨t,ht,hq⟩:=Lr A outer s H vs Q E (hr.deeper _) K8;have I:Inv (gQ CX P w K mg base N qual scope f HQ A outer s H E) [] (start N vs) H s1:=AY S hr.hd e0 hl r x;refine QV (ht [] s1 (start N vs) H _ I hq) (λfl s' hs=>?_) λe s' hs=>hs
 have fin:∀{σ':St} {H':Hp} {v:V} {u:Value},Inv (gQ CX P w K mg base N qual scope f HQ A outer s H E) [] σ' H' s'->RelV v u->Q v H'->CE outer P w H s Q u s':=
  λ{σ' H' v u} J rv q=>⟨v,H',J.os,J.bare,J.base,J.hok,rv,q⟩
 cases fl with
 |ret u =>
  obtain⟨v,σ',H',J,rv,q⟩:=hs;exact fin J rv q
 |next =>
  obtain⟨σ',H',J,q⟩:=hs;exact fin (v:=V.non) (u:=Value.none) J rfl q
 |brk =>
  obtain⟨_,_,_,q⟩:=hs;exact False.elim q
 |cont =>
  obtain⟨_,_,_,q⟩:=hs;exact False.elim q
section
variable {X:Cx}{x:Str}{p pos:Pos}{e:Expr}{es:List Expr}{t:TA}{id T:String}{r:List V->Hp->VK->Prop}
def tW(r:List V->Hp->VK->Prop)(t:TA):TE:=λσ H Q=>t σ H λvs H1=>r vs H1 Q
theorem dO(hc:dM X (.builtin id) r)(hg:Gl X x)(hm:X.mg x=none)(hv:bootBuiltins x=some (.builtin id))(ha:PA X (e::es) t)(hn:x≠"__name__":=by decide)(hdb:(x==("__debug__":Str))=false:=by decide)
  (he:starEach (e::es) X.env=(false,eval e X.env)::starEach es X.env:=by rfl) (ID:(backTo pos (starEach es X.env)).any (·.1)=false:=by rfl):PE X (.Call (.Name x p) (e::es) [] pos) (tW r t):=by
 intro HJ s σ H Q I h;refine wpAny_Call_Name_kw (jC I hg hm hv ?_ hn hdb);exact PyProof.Rows.callWith_builtin1 (aA (ha pos HJ s σ H _ I h) λus s1 hsl33=>by obtain⟨vs,H1,I1,r1,q1⟩:=hsl33;exact hc HJ s1 σ H1 vs us Q I1 r1 q1) he ID
theorem ix(hc:dM X (.type T) r)(hg:Gl X x)(hm:X.mg x=none)(hv:bootBuiltins x=some (.type T))(ha:PA X (e::es) t)(hn:x≠"__name__":=by decide)(hdb:(x==("__debug__":Str))=false:=by decide)
  (he:starEach (e::es) X.env=(false,eval e X.env)::starEach es X.env:=by rfl) (ID:(backTo pos (starEach es X.env)).any (·.1)=false:=by rfl):PE X (.Call (.Name x p) (e::es) [] pos) (tW r t):=by
 intro HJ s σ H Q I h;refine wpAny_Call_Name_kw (jC I hg hm hv ?_ hn hdb);exact PyProof.Rows.callWith_type1 (aA (ha pos HJ s σ H _ I h) λus s1 hsl34=>by obtain⟨vs,H1,I1,r1,q1⟩:=hsl34;exact hc HJ s1 σ H1 vs us Q I1 r1 q1) he ID
end
end L2
namespace HT
open PySem PyProof.Rows
section
variable {prog:Program}{w:World}{A:Around}{E:Value->Shared->Prop}{s:Shared}
theorem cat_tup{t b:Addr}{vs ws:List Value}(ht:IsTup s.heap t vs.toArray)(hb:IsTup s.heap b ws.toArray)(hv:vs≠[])
  (h1:ws=[]->Q (.ref t) s) (h2:ws≠[]->Q (.ref s.heap.objs.size) {s with heap:=s.heap.push {cls:=.type "tuple",data:=.seq (vs++ws).toArray} })
  (hsz:vs.length+ws.length<=sizeLine):wpAny (model prog w) A (binaryOp .Add (.ref t) (.ref b)) Q E s:=by
 obtain⟨⟨cls,dd,data,sl⟩,ho,hc,n,hd⟩:=id ht;obtain⟨⟨cls2,dd2,data2,sl2⟩,Ks,hc2,n2,hd2⟩:=id hb;simp only at hc hd hc2 hd2;subst hc hd hc2 hd2;have e:vs.toArray++ws.toArray=(vs++ws).toArray:=by simp
 by_cases hw:ws=[]
 ·exact concat_meets ⟨_,ho,rfl⟩ ⟨_,Ks,rfl⟩ noFill_tuple_add seq_tuple_add PySem.F.slot_tuple_add PySem.F.entry_tuple_add (PySem.F.args_tuple_add_2 _ _)
   (tuple_addW1 t b vs.toArray ws.toArray n n2 dd dd2 sl sl2 (by simpa using hv) (by simp[hw])) ⟨ho,Ks,h1 hw⟩
 refine concat_meets ⟨_,ho,rfl⟩ ⟨_,Ks,rfl⟩ noFill_tuple_add seq_tuple_add PySem.F.slot_tuple_add PySem.F.entry_tuple_add (PySem.F.args_tuple_add_2 _ _)
  (tuple_addW2 t b vs.toArray ws.toArray n n2 dd dd2 sl sl2 (by simpa using hv) (by simpa using hw) (by rw[Qp,Qp];exact hsz)) ⟨ho,Ks,?_⟩
 rw[e];exact h2 hw
noncomputable def sIx(n d:Nat):Option Int->Nat
 |none=>d
 |some v=>if v<0 then(v+(n:Int)).toNat else min v.toNat n
theorem sIx_le(n d:Nat)(hd:d<=n)(o:Option Int):sIx n d o<=n:=by
 cases o with
 |none=>exact hd
 |some v =>
  show(if v<0 then(v+(n:Int)).toNat else min v.toNat n)<=n;by_cases hv:v<0
  ·rw[if_pos hv];lia
  rw[if_neg hv];exact Nat.min_le_right _ _
theorem tX(v:Int)(n d:Nat):(if v<0 then max (v+(n:Int)) 0 else min v (n:Int))=((sIx n d (some v):Nat):Int):=by
 show(if v<0 then max (v+(n:Int)) 0 else min v (n:Int))=(((if v<0 then(v+(n:Int)).toNat else min v.toNat n):Nat):Int);by_cases hv:v<0
 ·simp only[if_pos hv];lia
 simp only[if_neg hv];lia
theorem A0(lo hi:Option Int)(n:Nat):Builtin.Slice.sliceAdjust lo hi 1 (n:Int)=(((sIx n 0 lo:Nat):Int),((sIx n n hi:Nat):Int)):=by
 have h1:¬((1:Int)<0):=by omega
 unfold Builtin.Slice.sliceAdjust;simp only[h1,if_false];refine Prod.ext ?_ ?_
 ·cases lo with
  |none=>rfl
  |some v=>exact tX v n 0
 cases hi with
 |none=>rfl
 |some v=>exact tX v n n
theorem A1(i j:Nat):Builtin.Slice.slicePlaces (i:Int) (j:Int) 1=j-i:=by
 unfold Builtin.Slice.slicePlaces;have h1:(1:Int)>0:=by lia
 simp only[h1,if_true,Int.ediv_one];split<;>lia
theorem tY(p:IsPart v o)(h:Q o s):wpAny (model prog w) A (Builtin.Slice.slicePartIndex v) Q E s:=by
 cases p with
 |none=>exact slicePart_none h
 |int i t=>exact slicePart_int h
theorem tZ{sl:Addr}{vl vu:Value}{lo hi:Option Int}{n:Nat}{Q:Int×Int×Nat->Shared->Prop}(hs:s.heap.IsSliceOf sl vl vu .none)(pl:IsPart vl lo)(pu:IsPart vu hi)
  (h:Q (((sIx n 0 lo:Nat):Int),1,sIx n n hi-sIx n 0 lo) s):wpAny (model prog w) A (Builtin.Slice.sliceApplied (.ref sl) (pure (n:Int))) Q E s:=by
 obtain⟨os,Ij,hcs,hds⟩:=id hs;unfold Builtin.Slice.sliceApplied Builtin.Slice.sliceFields;refine Qa (Qa (wpAny_field Ij hds (x:=vl) rfl (Qa (wpAny_field Ij hds (x:=vu) rfl (Qa (wpAny_field Ij hds (x:=.none) rfl (Qe ?_)))))));refine Qa (slicePart_none ?_);show wpAny _ _ (if((1:Int)==0)=true then _ else _) _ _ s;rw[if_neg (by decide)];refine Qa (tY pl (Qa (tY pu (Qa (Qe ?_)))));show wpAny _ _ (match Builtin.Slice.sliceAdjust lo hi 1 (n:Int) with|(lo,hi)=>pure (lo,(1:Int),Builtin.Slice.slicePlaces lo hi 1)) _ _ s;rw[A0 lo hi n];show wpAny _ _ (pure (((sIx n 0 lo:Nat):Int),(1:Int),Builtin.Slice.slicePlaces ((sIx n 0 lo:Nat):Int) ((sIx n n hi:Nat):Int) 1)) _ _ s;rw[A1];exact Qe h
theorem A2(xs:Array Value)(i k:Nat):((List.range k).filterMap λ(m:Nat)=>xs[((i:Int)+(m:Int)*1).toNat]?).toArray=((xs.toList.drop i).take k).toArray:=by
 have e:(λ(m:Nat)=>xs[((i:Int)+(m:Int)*1).toNat]?)=λm=>xs[i+m]?:=by
  funext m;have:((i:Int)+(m:Int)*1).toNat=i+m:=by lia
  rw[this]
 rw[e];have:=pick_run xs i k;rw[List.filterMap_map] at this;have e2:((λx=>xs[x]?)∘λx=>i+x)=λm=>xs[i+m]?:=rfl;rw[e2] at this;rw[this]
theorem getItem_tuple_cut{t sl:Addr}{items:Array Value}{vl vu:Value}{lo hi:Option Int}{Q:Value->Shared->Prop}(ht:IsTup s.heap t items)(hs:s.heap.IsSliceOf sl vl vu .none)(pl:IsPart vl lo)(pu:IsPart vu hi)
  (hw:¬(sIx items.size 0 lo=0/\sIx items.size items.size hi=items.size))
  (h:Q (.ref s.heap.objs.size) {s with heap:=s.heap.push {cls:=.type "tuple",data:=.seq ((items.toList.drop (sIx items.size 0 lo)).take (sIx items.size items.size hi-sIx items.size 0 lo)).toArray} })
  (hsz:items.size<=sizeLine):wpAny (model prog w) A (getItem (.ref t) (.ref sl)) Q E s:=by
 have Ky:sizeOk (.seq ((items.toList.drop (sIx items.size 0 lo)).take (sIx items.size items.size hi-sIx items.size 0 lo)).toArray):=by show((items.toList.drop (sIx items.size 0 lo)).take (sIx items.size items.size hi-sIx items.size 0 lo)).toArray.size<=sizeLine;rw[Qp,QH,List.length_drop,QM];omega
 have hj:sIx items.size items.size hi<=items.size:=sIx_le _ _ (Qh _) hi;obtain⟨os,Ij,hcs,hds⟩:=id hs
 have hTs:s.TypeIs (.ref sl) "slice":=⟨os,Ij,hcs⟩
 unfold getItem
 try with_reducible refine wpAny_holding ?_
 first|refine Qa (Qe ?_)|skip
 refine Qa (wpAny_sequenceKey ht.typeIs (by decide) ?_)
 refine Qa (wpAny_callSpecial?_slot (name:=Str.ofString "__getitem__") ht.typeIs PyProof.Rows.slot_tuple_getitem
  (wpAny_call_entry PyProof.Rows.slot_tuple_getitem ht.typeIs entry_tuple_getitem ?_ (args_tuple_getitem _ _)))
 show wpAny _ _ (Builtin.Tuple.tupleItemsOf (.ref t)>>=_) _ _ s;refine Qa (tupleItemsOf_ ht ?_);refine Qa (wpAny_typeOf hTs ?_);rw[if_pos (by decide)];refine Qa (tZ hs pl pu ?_);have KZ:¬((((sIx items.size 0 lo:Nat):Int)==0&&(1:Int)==1&&(sIx items.size items.size hi-sIx items.size 0 lo)==items.size)=true):=by intro q;rw[QL,QL] at q;have q1:((sIx items.size 0 lo:Nat):Int)=0:=eq_of_beq q.1.1;have q2:sIx items.size items.size hi-sIx items.size 0 lo=items.size:=eq_of_beq q.2;exact hw ⟨by omega,by omega⟩
 show wpAny _ _ (if(((sIx items.size 0 lo:Nat):Int)==0&&(1:Int)==1&&(sIx items.size items.size hi-sIx items.size 0 lo)==items.size)=true then _ else _) _ _ s;rw[if_neg KZ,A2]
 first
  |exact Qa (m:=Builtin.Tuple.tupleExact _) (wpAny_newObj_type (Qe ⟨_,rfl,Qe h⟩) Ky)
  |exact Qa (m:=Builtin.Tuple.tupleExact _) (wpAny_newObj_type (Qa (Qe (Qe ⟨_,rfl,Qe h⟩))) Ky)
  |exact Qa (Qa (m:=Builtin.Tuple.tupleExact _) (wpAny_newObj_type (Qe (Qe ⟨_,rfl,Qe h⟩)) Ky))
  |exact Qa (Qa (m:=Builtin.Tuple.tupleExact _) (wpAny_newObj_type (Qe ⟨_,rfl,Qe h⟩) Ky))
end
end HT
namespace L2
open PySem PySem.Spec PyProof.Rows
abbrev TO:=St->Hp->(Option Int->Hp->Prop)->Prop
def PO(X:Cx)(e:Option Expr)(t:TO):Prop:=
 ∀(HJ:List (Addr×Obj)) (s:Shared) (σ:St) (H:Hp) (Q:Option Int->Hp->Prop),Inv X HJ σ H s->t σ H Q ->
  wpAny (model X.prog X.w) X.A (evalPart e X.env) (λu s'=>∃o H',Inv X HJ σ H' s'/\IsPart u o/\Q o H') X.xe s
def A3:TO:=λ_ H Q=>Q none H
def A4(t:TE):TO:=λσ H Q=>t σ H λx H1=>∃i,x=.int i/\Q (some i) H1
section
variable {X:Cx}{e:Expr}{te:TE}{lo hi:Option Expr}{tl th:TO}{pos p2:Pos}
theorem k4:PO X none A3:=by intro HJ s σ H Q I h;rw[evalPart_none];exact Qe ⟨none,H,I,.none,h⟩
theorem f7(h:PE X e te):PO X (some e) (A4 te):=by intro HJ s σ H Q I hw;rw[evalPart_some];refine aA (h HJ s σ H _ I hw) λu s1 hsl35=>?_;obtain⟨x,H1,I1,r1,q1⟩:=hsl35;obtain⟨i,rfl,q⟩:=q1;obtain⟨t,rfl⟩:=r1;exact⟨some i,H1,I1,.int i t,q⟩
def fE(X:Cx)(r:V->Option Int->Option Int->Hp->VK->Prop):Prop:=
 ∀(HJ:List (Addr×Obj)) (s:Shared) (σ:St) (H:Hp) (x:V) (v vl vu:Value) (lo hi:Option Int) (sl:Addr) (Q:VK),Inv X HJ σ H s->RelV x v->s.heap.IsSliceOf sl vl vu .none->IsPart vl lo->IsPart vu hi->r x lo hi H Q ->
  ∃T id,typeLookup (.type T) "__getitem__"=pure (some (.builtin id))/\s.TypeIs v T/\wpAny (model X.prog X.w) X.A (getItem v (.ref sl)) (EP X HJ σ Q) X.xe s
theorem fE.or(h:fE X r)(h':fE X r'):fE X (λx lo hi H Q=>r x lo hi H Q∨r' x lo hi H Q):=by
 intro HJ s σ H x v vl vu lo hi sl Q I rx hs pl pu q;rcases q with q|q
 ·exact h HJ s σ H x v vl vu lo hi sl Q I rx hs pl pu q
 exact h' HJ s σ H x v vl vu lo hi sl Q I rx hs pl pu q
def A5(r:V->Option Int->Option Int->Hp->VK->Prop)(te:TE)(tl th:TO):TE:=λσ H Q=>te σ H λx H1=>tl σ H1 λl H2=>th σ H2 λu H3=>r x l u H3 Q
theorem iy(hr:fE X r)(he:PE X e te)(hl:PO X lo tl)(hu:PO X hi th):PE X (.Subscript e (.Slice lo hi none p2) pos) (A5 r te tl th):=by intro HJ s σ H Q I h;refine Subscript_ (aA (he HJ s σ H _ I h) λv s1 hsl36=>?_);obtain⟨x,H1,I1,r1,q1⟩:=hsl36;refine wpAny_Slice (aA (hl HJ s1 σ H1 _ I1 q1) λvl s2 ⟨l,H2,I2,pl,q2⟩=>aA (hu HJ s2 σ H2 _ I2 q2) λvu s3 hsl37=>?_);obtain⟨u,H3,I3,pu,q3⟩:=hsl37;rw[evalPart_none];refine Qe ?_;have I4:Inv X HJ σ H3 {s3 with heap:=s3.heap.push {cls:=.type "slice",data:=.fields #[vl,vu,.none]} }:=I3.kept (t':=s3.toks) λb ob q=>Qf _ q;obtain⟨T,id,hT,ht,hg⟩:=hr HJ {s3 with heap:=s3.heap.push {cls:=.type "slice",data:=.fields #[vl,vu,.none]} } σ H3 x v vl vu l u s3.heap.objs.size Q I4 r1 (Heap.IsSliceOf.new ..) pl pu q3;show wpAny (model X.prog X.w) X.A (subscriptTail e (.Slice lo hi none p2) v (.ref s3.heap.objs.size)) (EP X HJ σ Q) X.xe {s3 with heap:=s3.heap.push {cls:=.type "slice",data:=.fields #[vl,vu,.none]} };exact tail_any (ops:=[.ref s3.heap.objs.size,v]) ht hT hg (by with_unfolding_all rfl)
noncomputable def eZ(xs:List V)(lo hi:Option Int):List V:=(xs.drop (HT.sIx xs.length 0 lo)).take (HT.sIx xs.length xs.length hi-HT.sIx xs.length 0 lo)
theorem ua(xs:List V)(lo hi:Option Int):(eZ xs lo hi).length<=xs.length:=by unfold eZ;rw[QH,List.length_drop];omega
inductive mN (K:W.Frag) (x:V) (lo hi:Option Int) (H:Hp) (Q:VK):Prop
 |mk:∀a xs,x=.ref a->ao K H a xs->¬(HT.sIx xs.length 0 lo=0/\HT.sIx xs.length xs.length hi=xs.length)->(∀p,H p=none->Q (.ref p) (ag H p (.tup (eZ xs lo hi))))->mN K x lo hi H Q
theorem ub:fE X (mN X.K):=by
 intro HJ s σ H x v vl vu lo hi sl Q I rx hs pl pu h;obtain⟨a,xs,rfl,hx,hw,q⟩:=h;cases rx;obtain⟨its,r,ht,hz⟩:=I.tuple hx;have HM:its.toArray.size=xs.length:=by rw[Qp];exact r.length.symm
 refine⟨"tuple",_,PyProof.Rows.slot_tuple_getitem.lookup,ht.typeIs,?_⟩;refine HT.getItem_tuple_cut ht hs pl pu (by rw[HM];exact hw) ?_ (by rw[HM];exact hz);rw[HM];refine⟨.ref s.heap.objs.size,_,I.laid (t':=s.toks) (o:=.tup (eZ xs lo hi)) (λb ob q=>Qf _ q) (Qh _) ?_,rfl,q _ (I.hok.fresh (Qh _))⟩;exact⟨QR (ua xs lo hi) hz,_,(r.drop (HT.sIx xs.length 0 lo)).take (HT.sIx xs.length xs.length hi-HT.sIx xs.length 0 lo),IsTup.new _ _,jB.new _ _⟩
inductive pH (K:W.Frag) (x y:V) (H:Hp) (Q:VK):Prop
 |mk:∀a b xs ys,x=.ref a->y=.ref b->ao K H a xs->ao K H b ys->xs≠[]->xs.length+ys.length<=sizeLine->(ys=[]->Q (.ref a) H)->(ys≠[]->∀p,H p=none->Q (.ref p) (ag H p (.tup (xs++ys))))->pH K x y H Q
theorem az.nil_iff(r:az xs us):us=[]↔xs=[]:=by
 cases r with
 |nil=>simp
 |cons _ _=>simp
theorem A6:bO X (binaryOp .Add) (pH X.K):=by intro HJ s σ H x y v u Q I rx ry h;obtain⟨a,b,xs,ys,rfl,rfl,ha,hb,hx,hz,q1,q2⟩:=h;cases rx;cases ry;obtain⟨its,r1,p1,_⟩:=I.tuple ha;obtain⟨Js,r2,p2,_⟩:=I.tuple hb;refine HT.cat_tup p1 p2 (λz=>hx (r1.nil_iff.mp z)) (λz=>⟨.ref a,H,I,rfl,q1 (r2.nil_iff.mp z)⟩) (λz=>?_) (by rw[<-r1.length,<-r2.length];exact hz);refine⟨.ref s.heap.objs.size,_,I.laid (t':=s.toks) (o:=.tup (xs++ys)) (λb ob q=>Qf _ q) (Qh _) ?_,rfl,q2 (λw=>z (r2.nil_iff.mpr w)) _ (I.hok.fresh (Qh _))⟩;exact⟨by rw[Qi];exact hz,_,r1.append r2,IsTup.new _ _,jB.new _ _⟩
end
noncomputable def iz(n:Nat)(i:Int):Option Nat:=if 0<=i then(if i<n then some i.toNat else none) else if -(n:Int)<=i then some (i+n).toNat else none
noncomputable def de{α:Type}(xs:List α)(i:Int):Option α:=(iz xs.length i).bind λj=>xs[j]?
theorem A7(h:iz n i=some j):seqIndex? i n=some j/\j<n/\-(n:Int)<=i/\i<n:=by
 unfold iz at h;by_cases h0:0<=i
 ·rw[if_pos h0] at h;by_cases h1:i<n
  ·rw[if_pos h1] at h;have e:i.toNat=j:=Qs h;exact⟨by rw[seqIndex_of h0 h1,e],by lia,by lia,h1⟩
  rw[if_neg h1] at h;cases h
 rw[if_neg h0] at h;by_cases h1:-(n:Int)<=i
 ·rw[if_pos h1] at h;have e:(i+n).toNat=j:=Qs h;exact⟨by rw[seqIndex_neg (by lia) h1,e],by lia,h1,by lia⟩
 rw[if_neg h1] at h;cases h
theorem pI{α:Type}{xs:List α}{i:Int}{v:α}(h:de xs i=some v):∃j,seqIndex? i xs.length=some j/\xs[j]?=some v/\j<xs.length/\-(xs.length:Int)<=i/\i<xs.length:=by
 unfold de at h
 cases e:iz xs.length i with
 |none=>rw[e] at h;cases h
 |some j =>
  rw[e] at h;obtain⟨h1,h2,h3,h4⟩:=A7 e;exact⟨j,h1,h,h2,h3,h4⟩
theorem aY{α:Type}{xs:List α}{j:Nat}{v:α}(h:xs[j]?=some v):de xs (j:Int)=some v:=by
 have hj:j<xs.length:=(Qc h).1;have e:iz xs.length (j:Int)=some j:=by unfold iz;rw[if_pos (by lia),if_pos (by lia)];simp
 unfold de;rw[e];exact h
theorem mO{α:Type}(xs:List α)(v:α):de (xs++[v]) (-1)=some v:=by
 have hl:(xs++[v]).length=xs.length+1:=by simp
 have e:iz (xs++[v]).length (-1)=some xs.length:=by unfold iz;rw[hl,if_neg (by decide),if_pos (by lia)];congr 1;lia
 unfold de;rw[e];show(xs++[v])[xs.length]?=some v;simp
def uc(b:Expr):Prop:=∀o i,subscripted b false o i=operate [o,i] (getItem o i)
def iA(X:Cx)(r:R2):Prop:=
 ∀(value slice:Expr) (HJ:List (Addr×Obj)) (s:Shared) (σ:St) (H:Hp) (x y:V) (v u:Value) (Q:VK),Inv X HJ σ H s->RelV x v->RelV y u->r x y H Q ->
  subscripted slice false v u=operate [v,u] (getItem v u)->wpAny (model X.prog X.w) X.A (subscriptTail value slice v u) (EP X HJ σ Q) X.xe s
def pJ(X:Cx)(id:String)(r:V->List V->Hp->VK->Prop):Prop:=
 ∀(HJ:List (Addr×Obj)) (s:Shared) (σ:St) (H:Hp) (x:V) (xs:List V) (v:Value) (us:List Value) (Q:VK),Inv X HJ σ H s->RelV x v->az xs us->r x xs H Q ->
  wpAny (model X.prog X.w) X.A (call (.builtin id) (v::us)) (EP X HJ σ Q) X.xe s
section
variable {X:Cx}{a b:Expr}{ta tb:TE}{pos:Pos}
theorem bY(hr:iA X r)(ha:PE X a ta)(hb:PE X b tb)(hs:uc b):PE X (.Subscript a b pos) (i8 r ta tb):=by intro HJ s σ H Q I h;exact Subscript_ (pc ha hb I h λv u s2 x y H2 I2 rx ry q=>hr a b HJ s2 σ H2 x y v u Q I2 rx ry q (hs _ _))
inductive k7 (K:W.Frag) (x y:V) (H:Hp) (Q:VK):Prop
 |mk:∀p xs i v,x=.ref p->y=.int i->am K H p xs->de xs i=some v->Q v H->k7 K x y H Q
inductive jK (K:W.Frag) (x y:V) (H:Hp) (Q:VK):Prop
 |mk:∀p xs i v,x=.ref p->y=.int i->ao K H p xs->de xs i=some v->Q v H->jK K x y H Q
inductive ud (x y:V) (H:Hp) (Q:VK):Prop
 |mk:∀z i c,x=.str z->y=.int i->z.length<=sizeLine->de z.cps.toList i=some c->Q (.str ⟨#[c]⟩) H->ud x y H Q
theorem ue:iA X (k7 X.K):=by
 intro value slice HJ s σ H x y v u Q I rx ry h hs;obtain⟨p,xs,i,z,rfl,rfl,hq,he,q⟩:=h;cases rx;obtain⟨t,rfl⟩:=ry;obtain⟨its,r,pl,hz⟩:=I.list hq;obtain⟨j,h1,h2,h3,h4,h5⟩:=pI he;obtain⟨w,ew,JB⟩:=r.get h2;have hl:=r.length;have hn:=kZ
 have fin:EP X HJ σ Q w s:=⟨z,H,I,JB,q⟩
 by_cases h0:0<=i
 ·have hj:i.toNat=j:=by rw[seqIndex_of h0 h5] at h1;exact Qs h1
  exact item_listR pl.isList h0 (by lia) (by rw[hj];simpa using ew) fin hs
 have hj:(i+(its.toArray.size:Int)).toNat=j:=by rw[seqIndex_neg (by lia) h4] at h1;rw[Qp,<-hl];exact Qs h1
 exact subscriptTail_builtinR (x:=w) pl.isList.typeIs slot_list_getitem.lookup
  (wpAny_getItem_list_neg (Q:=λr s'=>r=w/\EP X HJ σ Q r s') pl.isList (by lia) (by rw[Qp]<;>lia) (by lia) (by rw[hj];simpa using ew) ⟨rfl,fin⟩) hs
theorem uf:iA X (jK X.K):=by
 intro value slice HJ s σ H x y v u Q I rx ry h hs;obtain⟨p,xs,i,z,rfl,rfl,hq,he,q⟩:=h;cases rx;obtain⟨t,rfl⟩:=ry;obtain⟨its,r,pl,hz⟩:=I.tuple hq;obtain⟨j,h1,h2,h3,h4,h5⟩:=pI he;obtain⟨w,ew,JB⟩:=r.get h2;have hl:=r.length;have hn:=kZ
 have fin:EP X HJ σ Q w s:=⟨z,H,I,JB,q⟩
 exact subscriptTail_builtinR (x:=w) pl.typeIs slot_tuple_getitem.lookup
  (getItem_tuple (j:=j) (Q:=λr s'=>r=w/\EP X HJ σ Q r s') pl (by lia) (by lia) (by rw[Qp,<-hl];exact h1) (by simpa using ew) ⟨rfl,fin⟩) hs
theorem A8:iA X ud:=by
 intro value slice HJ s σ H x y v u Q I rx ry h hs;obtain⟨z,i,c,rfl,rfl,hz,he,q⟩:=h;obtain⟨t,rfl⟩:=rx;obtain⟨t',rfl⟩:=ry;obtain⟨j,h1,h2,h3,h4,h5⟩:=pI he;have hl:z.cps.toList.length=z.length:=by simp[Str.length]
 rw[hl] at h1 h4 h5;have hn:=kZ
 exact tail_any (typeIs_str s z t) slot_str_getitem.lookup (getItem_str (c:=c) (by
  have e1:decide (i < -(2^63:Int))=false:=Qk (by lia);have e2:decide (i ≥ 2^63)=false:=Qk (by lia)
  rw[e1,e2,Bool.or_false]) (by rw[h1];simpa using h2) ⟨.str ⟨#[c]⟩,H,I.tok _,⟨_,rfl⟩,q⟩) hs
theorem A9(lo hi:Option Int)(n:Nat):(sliceBounds lo hi none n).1=((HT.sIx n 0 lo:Nat):Int)/\(sliceBounds lo hi none n).2.1=((HT.sIx n n hi:Nat):Int)/\(sliceBounds lo hi none n).2.2=1:=by
 refine⟨?_,?_,rfl⟩
 ·cases lo with
  |none=>simp[sliceBounds,HT.sIx]
  |some i =>
   simp only[sliceBounds,HT.sIx,Option.getD_none,show(1:Int)>0 by decide,if_true];by_cases h:i<0
   ·simp only[h,if_true]<;>lia
   simp only[h,if_false]<;>lia
 cases hi with
 |none=>simp[sliceBounds,HT.sIx]
 |some i =>
  simp only[sliceBounds,HT.sIx,Option.getD_none,show(1:Int)>0 by decide,if_true];by_cases h:i<0
  ·simp only[h,if_true]<;>lia
  simp only[h,if_false]<;>lia
theorem Ba(its:List Value)(lo hi:Option Int):slicePick its.toArray lo hi none=((its.drop (HT.sIx its.length 0 lo)).take (HT.sIx its.length its.length hi-HT.sIx its.length 0 lo)).toArray:=by obtain⟨h1,h2,h3⟩:=A9 lo hi its.toArray.size;unfold slicePick;rw[h1,h2,h3];simp only[sliceRange_one,pick_run,Qp]<;>rfl
inductive ug (K:W.Frag) (x:V) (lo hi:Option Int) (H:Hp) (Q:VK):Prop
 |mk:∀a xs,x=.ref a->am K H a xs->(∀p,H p=none->Q (.ref p) (ag H p (.lst (eZ xs lo hi))))->ug K x lo hi H Q
theorem pL:fE X (ug X.K):=by intro HJ s σ H x v vl vu lo hi sl Q I rx hs pl pu h;obtain⟨a,xs,rfl,hx,q⟩:=h;cases rx;obtain⟨its,r,ht,hz⟩:=I.list hx;have HM:=r.length;refine⟨"list",_,slot_list_getitem.lookup,ht.isList.typeIs,?_⟩;refine wpAny_getItem_list_slice ht.isList hs pl pu .none (by simp) ?_ (by rw[Qp]<;>lia);rw[Ba,<-HM];refine⟨.ref s.heap.objs.size,_,I.laid (t':=s.toks) (o:=.lst (eZ xs lo hi)) (λb ob q=>Qf _ q) (Qh _) ?_,rfl,q _ (I.hok.fresh (Qh _))⟩;exact⟨QR (ua xs lo hi) hz,_,0,(r.drop (HT.sIx xs.length 0 lo)).take (HT.sIx xs.length xs.length hi-HT.sIx xs.length 0 lo),Qm _ rfl⟩
noncomputable def iB:V->Bool
 |.non=>true
 |.bl _=>true
 |.int _=>true
 |.str _=>true
 |_=>false
noncomputable def iC:V->V->Bool
 |.non,.non=>true
 |.bl a,.bl b=>a==b
 |.bl a,.int b=>(if a then 1 else 0)==b
 |.int a,.bl b=>a==(if b then 1 else 0)
 |.int a,.int b=>a==b
 |.str a,.str b=>a==b
 |_,_=>false
theorem Bb(ry:RelV y u)(rx:RelV x v)(fy:iB y=true)(fx:iB x=true):SeqAt.EqAt A s u v (iC y x):=by
 cases y with
 |non =>
  cases ry
  cases x with
  |non=>cases rx;exact SeqAt.EqAt.same _
  |bl b=>cases rx;exact SeqAt.EqAt.none_bool b
  |int b=>obtain⟨t,rfl⟩:=rx;exact SeqAt.EqAt.none_int b t
  |str b=>obtain⟨t,rfl⟩:=rx;exact SeqAt.EqAt.none_str b t
  |_=>exact absurd (show false=true from fx) Qz
 |bl a =>
  cases ry
  cases x with
  |non=>cases rx;exact SeqAt.EqAt.bool_none a
  |bl b=>cases rx;exact SeqAt.EqAt.bool_bool a b
  |int b=>obtain⟨t,rfl⟩:=rx;exact SeqAt.EqAt.bool_int a b t
  |str b=>obtain⟨t,rfl⟩:=rx;exact SeqAt.EqAt.bool_str a b t
  |_=>exact absurd (show false=true from fx) Qz
 |int a =>
  obtain⟨t',rfl⟩:=ry
  cases x with
  |non=>cases rx;exact SeqAt.EqAt.int_none a t'
  |bl b=>cases rx;exact SeqAt.EqAt.int_bool a t' b
  |int b=>obtain⟨t,rfl⟩:=rx;exact SeqAt.EqAt.int_int a t' b t
  |str b=>obtain⟨t,rfl⟩:=rx;exact SeqAt.EqAt.int_str a t' b t
  |_=>exact absurd (show false=true from fx) Qz
 |str a =>
  obtain⟨t',rfl⟩:=ry
  cases x with
  |non=>cases rx;exact SeqAt.EqAt.str_none a t'
  |bl b=>cases rx;exact SeqAt.EqAt.str_bool a t' b
  |int b=>obtain⟨t,rfl⟩:=rx;exact SeqAt.EqAt.str_int a t' b t
  |str b=>obtain⟨t,rfl⟩:=rx;exact SeqAt.EqAt.str_str a t' b t
  |_=>exact absurd (show false=true from fx) Qz
 |_=>exact absurd (show false=true from fy) Qz
noncomputable def eC(x:V)(u:Value):Bool:=match u with
 |.none=>iC .non x
 |.bool b=>iC (.bl b) x
 |.int i _=>iC (.int i) x
 |.str z _=>iC (.str z) x
 |_=>false
theorem ui(r:RelV y u)(f:iB y=true):eC x u=iC y x:=by
 cases y with
 |non=>cases r;rfl
 |bl b=>cases r;rfl
 |int i=>obtain⟨t,rfl⟩:=r;rfl
 |str z=>obtain⟨t,rfl⟩:=r;rfl
 |_=>exact absurd (show false=true from f) Qz
theorem k8:∀{xs:List V} {us:List Value},az xs us->xs.all iB=true->us.any (eC x)=xs.any λy=>iC y x
 |_,_,.nil,_=>rfl
 |y::xs,u::us,.cons r t,f=>by rw[List.all_cons,QL] at f;rw[List.any_cons,List.any_cons,ui r f.1,k8 t f.2]
theorem lc(rx:RelV x v)(fx:iB x=true):∀{xs:List V} {us:List Value},az xs us->xs.all iB=true->∀u∈us,SeqAt.EqAt A s u v (eC x u)
 |_,_,.nil,_=>λu hu=>by cases hu
 |y::xs,u::us,.cons r t,f=>λu' hu=>by
  rw[List.all_cons,QL] at f;rcases Qx hu with rfl|hu
  ·rw[ui r f.1];exact Bb r rx f.1 fx
  exact lc rx fx t f.2 u' hu
noncomputable def ja(x:V)(xs:List V):Bool:=xs.any λy=>iC y x
inductive lf (K:W.Frag) (neg:Bool) (x y:V) (H:Hp) (Q:VK):Prop
 |mk:∀p xs,y=.ref p->(am K H p xs∨ao K H p xs)->iB x=true->xs.all iB=true->Q (.bl (if neg then !ja x xs else ja x xs)) H->lf K neg x y H Q
theorem Bc:bO X (compareOp .In) (lf X.K false):=by
 intro HJ s σ H x y v u Q I rx ry h;obtain⟨p,xs,rfl,hq,fx,fs,q⟩:=h;cases ry;rcases hq with hq|hq
 ·obtain⟨its,r,pl,hz⟩:=I.list hq;refine SeqAt.in_listAt (eC x) pl.isList (λw hw=>lc rx fx r fs w (by simpa using hw)) ⟨.bl _,H,I,rfl,?_⟩;rw[show its.toArray.any (eC x)=its.any (eC x) by simp,k8 r fs];exact q
 obtain⟨its,r,pl,hz⟩:=I.tuple hq;refine SeqAt.in_tupleAt (eC x) pl (λw hw=>lc rx fx r fs w (by simpa using hw)) ⟨.bl _,H,I,rfl,?_⟩;rw[show its.toArray.any (eC x)=its.any (eC x) by simp,k8 r fs];exact q
theorem Be:bO X (compareOp .NotIn) (lf X.K true):=by
 intro HJ s σ H x y v u Q I rx ry h;obtain⟨p,xs,rfl,hq,fx,fs,q⟩:=h;cases ry;rcases hq with hq|hq
 ·obtain⟨its,r,pl,hz⟩:=I.list hq;refine SeqAt.notIn_listAt (eC x) pl.isList (λw hw=>lc rx fx r fs w (by simpa using hw)) ⟨.bl _,H,I,rfl,?_⟩;rw[show its.toArray.any (eC x)=its.any (eC x) by simp,k8 r fs];exact q
 obtain⟨its,r,pl,hz⟩:=I.tuple hq;refine SeqAt.notIn_tupleAt (eC x) pl (λw hw=>lc rx fx r fs w (by simpa using hw)) ⟨.bl _,H,I,rfl,?_⟩;rw[show its.toArray.any (eC x)=its.any (eC x) by simp,k8 r fs];exact q
theorem pM:dM X (.builtin "len") (λxs H Q=>∃p ys,xs=[.ref p]/\(am X.K H p ys∨ao X.K H p ys)/\Q (.int ys.length) H):=by
 intro HJ s σ H xs us Q I r h;obtain⟨p,ys,rfl,hq,q⟩:=h;obtain⟨u,rfl,rx⟩:=vals1 r;cases rx;have hn:=kZ;rcases hq with hq|hq
 ·obtain⟨its,r',pl,hz⟩:=I.list hq;have HM:=r'.length;exact Calls.call_len_list pl.isList (by simp only[Qp]<;>lia) ⟨.int ys.length,H,I.tok _,⟨s.toks+1,by rw[Qp,HM]⟩,q⟩
 obtain⟨its,r',pl,hz⟩:=I.tuple hq;have HM:=r'.length;exact len_tuple pl (by simp only[Qp]<;>lia) ⟨.int ys.length,H,I.tok _,⟨s.toks+1,by rw[Qp,HM]⟩,q⟩
theorem Bf:dM X (.builtin "len") (λxs H Q=>∃z,xs=[.str z]/\z.length<=sizeLine/\Q (.int z.length) H):=by intro HJ s σ H xs us Q I r h;obtain⟨z,rfl,hz,q⟩:=h;obtain⟨u,rfl,t,rfl⟩:=vals1 r;have hn:=kZ;exact len_str (by lia) ⟨.int z.length,H,I.tok _,⟨_,rfl⟩,q⟩
theorem uj:dM X (.type "tuple") (λxs H Q=>∃p ys,xs=[.ref p]/\((am X.K H p ys/\∀l,H l=none->Q (.ref l) (ag H l (.tup ys)))∨(ao X.K H p ys/\Q (.ref p) H))):=by
 intro HJ s σ H xs us Q I r h;obtain⟨p,ys,rfl,h⟩:=h;obtain⟨u,rfl,rx⟩:=vals1 r;cases rx
 rcases h with ⟨hq,q⟩|⟨hq,q⟩
 ·obtain⟨its,r',pl,hz⟩:=I.list hq;have HM:=r'.length;refine call_tuple_list pl.isList (λh' kp=>?_) (by simp only[Qp]<;>lia);have I1:Inv X HJ σ H {s with heap:=h'}:=I.kept (t':=s.toks) kp
  have I2:Inv X HJ σ (ag H h'.objs.size (.tup ys)) {s with heap:=h'.push {cls:=.type "tuple",data:=.seq its.toArray} } :=
   I1.laid (t':=s.toks) (λb o e=>Qf _ e) (Qh _) (show bI X.prog X.w _ _ _ (.tup ys) from⟨hz,its,r',IsTup.new _ _,jB.new _ _⟩)
  exact⟨.ref h'.objs.size,_,I2,rfl,q _ (I1.hok.fresh (Qh _))⟩
 obtain⟨its,r',pl,hz⟩:=I.tuple hq;exact call_tuple_same pl ⟨.ref p,H,I,rfl,q⟩
def jL(K:W.Frag)(T:String)(x:V)(H:Hp):Prop:=match x with
 |.str _=>T="str"
 |.int _=>T="int"
 | .ref p=>(T="list"/\∃ xs,am K H p xs)∨(T="tuple"/\∃ o,K.lookup p=some o/\o.cls=.type "tuple"/\o.dict=none) ∨
   (T="dict"/\((∃kvs,H p=some (.dK kvs))∨∃kvs,H p=some (.dT kvs)))∨(T="set"/\∃S n,H p=some (.set S n))
 |_=>False
theorem mP{s:Shared}(I:Inv X HJ σ H s)(r:RelV x v)(ty:jL X.K T x H) :
  s.TypeIs v T/\∀a,v=.ref a->∃ob,s.heap.get? a=some ob/\ob.dict=none:=by
 cases x with
 |str z =>
  obtain⟨t,rfl⟩:=r;cases (show T="str" from ty);exact⟨typeIs_str s z t,λ_ e=>nomatch e⟩
 |int i =>
  obtain⟨t,rfl⟩:=r;cases (show T="int" from ty);exact⟨typeIs_int s i t,λ_ e=>nomatch e⟩
 |ref p =>
  cases r
  rcases ty with ⟨rfl,xs,hq⟩|⟨rfl,o,hk,hc,hd⟩|⟨rfl,hk⟩|⟨rfl,S,n,hk⟩
  ·obtain⟨its,_,pl,_⟩:=I.list hq;refine⟨pl.isList.typeIs,λa e=>?_⟩;cases e;obtain⟨o,n,e,c,hd,_⟩:=pl;exact⟨o,e,hd⟩
  ·refine⟨⟨o,I.kIn p o hk,hc⟩,λa e=>?_⟩;cases e;exact⟨o,I.kIn _ o hk,hd⟩
  ·have z:∃ o,s.heap.get? p=some o/\o.ExactDict:=by
    rcases hk with ⟨kvs,hk⟩|⟨kvs,hk⟩
    ·obtain⟨_,_,_,_,o,_,_,e,ex,_⟩:=I.hok p _ hk;exact⟨o,e,ex⟩
    obtain⟨_,_,_,_,o,_,_,e,ex,_⟩:=I.hok p _ hk;exact⟨o,e,ex⟩
   obtain⟨o,e,ex⟩:=z;refine⟨⟨o,e,ex.1⟩,λa e2=>?_⟩;cases e2;exact⟨o,e,ex.2.1⟩
  obtain⟨o,_,_,_,e,ex,_⟩:=I.hok p _ hk;refine⟨⟨o,e,ex.1⟩,λa e2=>?_⟩;cases e2;exact⟨o,e,ex.2.1⟩
 |_=>exact False.elim ty
def uk(K:W.Frag)(T:String)(r:V->List V->Hp->VK->Prop)(to:TE):TE:=λσ H Q=>to σ H λx H1=>jL K T x H1/\r x [] H1 Q
def um(K:W.Frag)(T:String)(r:V->List V->Hp->VK->Prop)(to:TE)(t:TA):TE:=λσ H Q=>to σ H λx H1=>jL K T x H1/\t σ H1 λxs H2=>r x xs H2 Q
variable {o e:Expr}{es:List Expr}{to:TE}{t:TA}{name:Str}{apos HW:Pos}{T id:String}{r:V->List V->Hp->VK->Prop}
theorem Bg(pa:PlainAttrs T)(slot:Slot T name id)(hty:typeOf (.builtin id)=pure (.type "method_descriptor"))(hm:pJ X id r)(ho:PE X o to)
  (Je:attributeBase o name X.env (eval o X.env)=eval o X.env:=by rfl) (Jd:(apos.endLine==HW.line)=true:=by rfl):PE X (.Call (.Attribute o name apos) [] [] HW) (uk X.K T r to):=by
 intro HJ s σ H Q I h;refine wpAny_Call_method0_late Je Jd (aA (ho HJ s σ H _ I h) λv s1 hsl38=>?_);obtain⟨x,H1,I1,r1,ty,q1⟩:=hsl38;obtain⟨h1,h2⟩:=mP I1 r1 ty;exact⟨T,id,pa,slot,hty,h1,h2,Calls.callWith_builtin rfl (PySem.evalArgs_none (hm HJ s1 σ H1 x [] v [] Q I1 r1 .nil q1))⟩
theorem jM(pa:PlainAttrs T)(slot:Slot T name id)(hty:typeOf (.builtin id)=pure (.type "method_descriptor"))(hm:pJ X id r)(ho:PE X o to)(ha:PA X (e::es) t)
  (Je:attributeBase o name X.env (eval o X.env)=eval o X.env:=by rfl)
  (hfew:((backTo HW (starEach (e::es) X.env)).all (λx=>!x.1)&&(backToKw HW (keywordEach [] X.env)).all (λx=>x.1.isSome)
   && decide ((e::es).length+([]:List Keyword).length+(if([]:List Keyword).isEmpty then 0 else 1)<30))=true:=by rfl)
  (Jd:(apos.endLine==HW.line)=true:=by rfl) (hs:starEach (e::es) X.env=(false,eval e X.env)::starEach es X.env:=by rfl) (Km:(backTo HW (starEach es X.env)).any (·.1)=false:=by rfl) :
  PE X (.Call (.Attribute o name apos) (e::es) [] HW) (um X.K T r to t):=by
 intro HJ s σ H Q I h;refine wpAny_Call_method_late Je hfew Jd rfl (aA (ho HJ s σ H _ I h) λv s1 hsl39=>?_);obtain⟨x,H1,I1,r1,ty,q1⟩:=hsl39;obtain⟨h1,h2⟩:=mP I1 r1 ty;refine⟨T,id,pa,slot,hty,h1,h2,?_⟩;have hA:=ha HW HJ s1 σ H1 _ I1 q1;rw[hs] at hA ⊢;refine Calls.callWith_builtin (by show(false||(backTo HW (starEach es X.env)).any (·.1))=false;rw[Km]<;>rfl) (Calls.evalArgs_plain ?_);exact aA hA λus s2 hsl40=>by obtain⟨vs,H2,I2,r2,q2⟩:=hsl40;exact hm HJ s2 σ H2 x vs v us Q I2 r1 r2 q2
end
def mQ(X:Cx)(id:String)(r:V->List V->Hp->VK->Prop):Prop:=
 ∀(HJ:List (Addr×Obj)) (s:Shared) (σ:St) (H:Hp) (x:V) (xs:List V) (v:Value) (us:List Value) (Q:VK),Inv X HJ σ H s->RelV x v->az xs us->r x xs H Q ->
  wpAny (model X.prog X.w) X.A (call (.builtin id) (v::us)) (EP X HJ σ Q) X.xe s
theorem az.one:∀{x:V} {us:List Value},az [x] us->∃u,us=[u]/\RelV x u
 |_,_,.cons r .nil=>⟨_,rfl,r⟩
theorem az.zero:∀{us:List Value},az [] us->us=[]
 |_,.nil=>rfl
theorem az.dropLast{xs:List V}{us:List Value}(h:az xs us):az xs.dropLast us.dropLast:=by
 induction h with
 |nil=>exact .nil
 |cons r t ih =>
  cases t with
  |nil=>exact .nil
  |cons q t'=>exact .cons r ih
theorem Bh{α:Type}(l:List α):l.eraseIdx (l.length-1)=l.dropLast:=by
 induction l with
 |nil=>rfl
 |cons a r ih =>
  cases r with
  |nil=>rfl
  |cons b r =>
   have e:(a::b::r).length-1=((b::r).length-1)+1:=by have h1:(a::b::r).length=r.length+2:=rfl;have h2:(b::r).length=r.length+1:=rfl;lia
   rw[e,List.eraseIdx_cons_succ,ih]
   all_goals rfl
section
variable {X:Cx}{HJ:List (Addr×Obj)}{σ:St}{H:Hp}{s:Shared}{l b:Addr}{xs ys zs:List V}
theorem Inv.lset{its its':List Value}{n:Nat}{f:Array Value->Array Value}{t':Nat}(I:Inv X HJ σ H s)(hH:H l=some (.lst xs))
  (e:s.heap.get? l=some {cls:=.type "list",data:=.seq its.toArray n}) (hf:f its.toArray=its'.toArray) (hv:az ys its') (hz:ys.length<=sizeLine) :
  Inv X HJ σ (ag H l (.lst ys)) {s with heap:=s.heap.update l (Obj.mapSeq f),toks:=t'}:=by
 have q:=PySem.IsL.update e f;rw[hf] at q;refine I.write (x:=l) (e:=l) (by rw[hH];exact trivial) (.inl rfl) (λb' u hb hu=>(Heap.get?_update_other s.heap (Obj.mapSeq f) (Ne.symm hb)).trans hu) ⟨_,q⟩ ?_;exact⟨hz,its',_,hv,q⟩
theorem Inv.lnew{its:List Value}(I:Inv X HJ σ H s)(hv:az ys its)(hz:ys.length<=sizeLine) :
  Inv X HJ σ (ag H s.heap.objs.size (.lst ys)) {s with heap:=s.heap.push {cls:=.type "list",data:=.seq its.toArray},toks:=t'} :=
 I.laid (λ_ _ q=>Qf _ q) (Qh _) ⟨hz,its,0,hv,Qm _ rfl⟩
theorem Inv.fresh(I:Inv X HJ σ H s):H s.heap.objs.size=none:=I.hok.fresh (Qh _)
theorem Inv.lstM(I:Inv X HJ σ H s)(hH:H l=some (.lst xs)):xs.length<=sizeLine/\∃(its:List Value) (n:Nat),az xs its/\xs.length=its.length/\s.heap.get? l=some {cls:=.type "list",data:=.seq its.toArray n}:=by obtain⟨z,its,n,r,e⟩:=I.hok l _ hH;exact⟨z,its,n,r,r.length,e⟩
theorem Bi{n:Nat}(h:n<=sizeLine):Builtin.List.listTooLong n=false:=by unfold Builtin.List.listTooLong;exact Qk (by lia)
end
section
variable {X:Cx}
inductive pN (x:V) (vs:List V) (H:Hp) (Q:VK):Prop
 |mk:∀l xs y,x=.ref l->vs=[y]->H l=some (.lst xs)->xs.length<sizeLine->Q .non (ag H l (.lst (xs++[y])))->pN x vs H Q
theorem pO:mQ X "list.append" pN:=by intro HJ s σ H x vs v us Q I rx rv h;obtain⟨l,xs,y,rfl,rfl,hH,hz,q⟩:=h;cases rx;obtain⟨u,rfl,ru⟩:=rv.one;obtain⟨z,its,n,r,hl,e⟩:=I.lstM hH;refine call_meets F.slot_list_append ⟨_,e,rfl⟩ F.entry_list_append (F.args_list_append_2 _ _) (PySem.list_append l its.toArray n u (by rw[Qp];lia)) ⟨e,?_⟩;refine⟨.non,_,I.lset (its':=its++[u]) hH e (by simp) (r.append (.cons ru .nil)) ?_,rfl,q⟩;rw[Qi,QP];lia
inductive uo (x:V) (vs:List V) (H:Hp) (Q:VK):Prop
 |mk:∀l b xs zs,x=.ref l->vs=[.ref b]->H l=some (.lst xs)->H b=some (.lst zs)->xs.length+zs.length<=sizeLine->Q .non (ag H l (.lst (xs++zs)))->uo x vs H Q
theorem pP:mQ X "list.extend" uo:=by
 intro HJ s σ H x vs v us Q I rx rv h;obtain⟨l,b,xs,zs,rfl,rfl,hH,hB,hz,q⟩:=h;cases rx;obtain⟨u,rfl,ru⟩:=rv.one;cases ru;obtain⟨z,its,n,r,hl,e⟩:=I.lstM hH;obtain⟨z2,Js,n2,r2,hl2,e2⟩:=I.lstM hB;have hsz:its.toArray.size+Js.toArray.size<=sizeLine:=by rw[Qp,Qp];lia
 have hlong:¬(!its.toArray.isEmpty&&Builtin.List.listTooLong (its.toArray.size+Js.toArray.size))=true:=by rw[Bi hsz,Bool.and_false];exact Qz
 refine call_meets F.slot_list_extend ⟨_,e,rfl⟩ F.entry_list_extend (F.args_list_extend_2 _ _)
  (AutoSeq1.list_extend_list_list_0 l its.toArray n b Js.toArray n2 hlong (by rw[Qp];lia) (by lia)) ⟨e,e2,?_⟩
 refine⟨.non,_,I.lset (its':=its++Js) hH e (by simp) (r.append r2) ?_,rfl,q⟩;rw[Qi];lia
inductive pQ (x:V) (vs:List V) (H:Hp) (Q:VK):Prop
 |mk:∀l xs y,x=.ref l->vs=[]->H l=some (.lst xs)->xs[xs.length-1]?=some y->Q y (ag H l (.lst xs.dropLast))->pQ x vs H Q
theorem Bj:mQ X "list.pop" pQ:=by
 intro HJ s σ H x vs v us Q I rx rv h;obtain⟨l,xs,y,rfl,rfl,hH,hy,q⟩:=h;cases rx;have Ik:=rv.zero;subst Ik;obtain⟨z,its,n,r,hl,e⟩:=I.lstM hH;obtain⟨u,hu,ru⟩:=r.get hy;have hy':its.toArray[its.toArray.size-1]?=some u:=by show its.toArray[its.length-1]?=some u;rw[<-Array.getElem?_toList,<-hl];exact hu
 refine call_meets F.slot_list_pop ⟨_,e,rfl⟩ F.entry_list_pop (F.args_list_pop_1 _) (MeetsSeq.list_pop_last l its.toArray n u hy' (by rw[Qp];omega)) ⟨e,?_⟩;refine⟨y,_,I.lset (its':=its.dropLast) hH e ?_ r.dropLast ?_,ru,q⟩
 ·show its.toArray.eraseIdxIfInBounds (its.toArray.size-1)=its.dropLast.toArray;rw[Qp,List.eraseIdxIfInBounds_toArray,Bh]
 rw[List.length_dropLast];omega
inductive pR (x y:V) (H:Hp) (Q:VK):Prop
 |mk:∀l b xs zs,x=.ref l->y=.ref b->H l=some (.lst xs)->H b=some (.lst zs)->xs.length+zs.length<=sizeLine->(∀p,H p=none->Q (.ref p) (ag H p (.lst (xs++zs))))->pR x y H Q
theorem pS:bO X (binaryOp .Add) pR:=by
 intro HJ s σ H x y v u Q I rx ry h;obtain⟨l,b,xs,zs,rfl,rfl,hH,hB,hz,q⟩:=h;cases rx;cases ry;obtain⟨z,its,n,r,hl,e⟩:=I.lstM hH;obtain⟨z2,Js,n2,r2,hl2,e2⟩:=I.lstM hB;refine PySem.P.add_list e e2 ?_ (by rw[Qp,Qp];omega);have ea:its.toArray++Js.toArray=(its++Js).toArray:=by simp
 rw[ea];exact⟨.ref _,_,I.lnew (t':=s.toks) (r.append r2) (by rw[Qi];omega),rfl,q _ I.fresh⟩
end
end L2
namespace Att
open PySem PySem.W PySem.Calls PyProof.Rows
theorem Bl:∀(ns:List Int) (vs:List Value),WellAll P h vs (ns.map WData.int)->IntsAre vs ns:=by
 intro ns
 induction ns with
 |nil =>
  intro vs w;rw[List.map_nil] at w;cases w;exact .nil
 |cons n ns ih =>
  intro vs w;rw[List.map_cons] at w
  cases w with
  |cons a b =>
   cases a;exact .cons _ _ (ih _ b)
theorem Bm{l:OpenLaw}(hn:l.most=some n){h:Heap}
  (hpre:l.row.toRowW.claim.pre args=true) (Jh:WellAll P h vals args) :
  ∃a vs ns,vals=[Value.ref a]/\args=[WData.list (ns.map WData.int)]/\h.get? a=some {cls:=.type "list",data:=.seq vs.toArray}/\IntsAre vs ns/\ns.length<=n:=by
 have Iq:WShape.hasAll [] args [.list .int]=true:=(pre_splitW hpre).1;have hc:l.pre.holds [] {args:=args}=true:=(pre_splitW hpre).2;obtain⟨d,r,rfl,h1,h2⟩:=hasAllW_cons Iq;obtain rfl:=hasAllW_nil h2;obtain⟨xs,rfl,h3⟩:=hasW_list h1;obtain⟨ns,rfl⟩:=items_int h3
 have HM:ns.length<=n:=by
  unfold OpenLaw.pre at hc;have h4:(WTm.not (.lt (.lit (.int (n:Int))) (.len (.arg 0)))).holds [] {args:=[.list (ns.map .int)]}=true:=by have h4:=(holds_andW hc).1;rw[hn] at h4;exact h4
  have h5:=condW_of h4 (w_not (w_lt w_lit (w_len_list (w_arg rfl))));rw[Qg] at h5;refine Nat.le_of_not_lt λq=>?_;have q':(n:Int)<((ns.length:Nat):Int):=by omega
  first
   |(rw[Qn q'] at h5;exact absurd h5 (by decide))
   |(simp at h5;omega)
 cases Jh with
 |cons w1 w2 =>
  cases w2
  cases w1 with
  |list ho hall=>exact⟨_,_,ns,rfl,rfl,ho,Bl ns _ hall,HM⟩
theorem Bn(l:OpenLaw)(args:List WData):l.row.toRowW.claim.post args (.bool true) args=true:=
 postW_of (r:=l.row.toRowW) (X:=(true==true))
  (show WShape.has [] (.bool true) .bool=true by first|rfl|decide|simp[WShape.has,WShape.arms,WShape.armsAll])
  (show(WTm.eq .res (.lit (.bool true))).value [] {args:=args,res:=some (.bool true),after:=args}=some (.bool (true==true)) from w_eq_bool (w_res rfl) w_lit) rfl
theorem attach_call{l:OpenLaw}{n:Nat}{q:Program}{loose:List Str}{XP:(Str->Option Value)->Heap->Prop}{YP:World->Heap->Prop}{d:DefRec}
  (hn:l.most=some n) (hdf:d.params.defaults=[])
  (call:∀(w:World) (s₀ s₁:Shared) (mg mb:Str->Option Value) (fa:Addr) (o:Obj) (pm cd Kw:Value) (a:Addr) (vs:List Value) (ns:List Int),
   Ground q loose [] XP w s₀ mg mb s₁.heap->YP w s₁.heap ->
   s₁.heap.get? fa=some o->o.data=.func (docDef d.name d.params d.body d.scope pm cd Kw)->s₁.heap.CodeRec cd d.name->mg d.name=some (.ref fa) ->
   s₁.heap.get? a=some {cls:=.type "list",data:=.seq vs.toArray}->IntsAre vs ns->ns.length<=n->s₁.gens=#[] ->
   codeAny (model l.prog w) callerA (.call (.ref fa) ⟨[.ref a],[]⟩) (λr s'=>r=.ok (.ret (.bool true))/\OldK s₁.heap s'.heap/\s'.os=s₁.os/\AllBare s'.gens) s₁) :
  WalkO q loose XP YP l.row.toRowW d [] (λf vs=>PySem.call f vs):=by
 intro w s₀ s₁ mg mb G Y fa o pm cd Kw dV kV ho hd IY hD hmg hg args vals as hpre hlay hrd Jh HR;obtain rfl:dV=.none:=Dflts.none hD hdf;obtain rfl:kV=.none:=Dflts.noKw hD;obtain⟨a,vs,ns,rfl,rfl,hobj,Lq,HM⟩:=Bm hn hpre Jh;refine enter_call (codeAny_mono (call w s₀ s₁ mg mb fa o pm cd Kw a vs ns G Y ho (fd_plain hd) IY hmg hobj Lq HM hg) λr s' hq=>?_);obtain⟨rfl,h2,h3,h4⟩:=hq;exact⟨.inl ⟨.bool true,.bool true,[],rfl,λ_=>rfl,.bool true,Bn l _,λ_=>⟨List.Pairwise.nil,λ_ hm=>(nomatch hm)⟩⟩,h2,h3,h4⟩
end Att
namespace L2
open PySem PySem.Spec PyProof.Rows
theorem uq:∀{vs:List Value} {ns:List Int},IntsAre vs ns->az (ns.map V.int) vs
 |_,_,.nil=>.nil
 |_,_,.cons n t h=>.cons ⟨t,rfl⟩ (uq h)
def pT(H:Hp):Prop:=∀b,H b=none∨∃o xs,H b=some (.frz o (.lst xs))
theorem Bo{P:Program}{w:World}{K:W.Frag}{mg mb:Str->Option Value}{CX:f6}{k:Nat}{fa a:Addr}{fd:FuncData}{x:Str}{sp:Sp}{s₁:Shared}{vs:List Value}{ns:List Int}
  (KX:K.In s₁.heap) (hns:s₁.heap.Ns mainGlobals mg) (hb:s₁.heap.Ns builtinsNs mb) (hbb:∀x:Str,x≠"__name__"->mb x=bootBuiltins x) (hlim:s₁.heap.NoLimit) (hg:s₁.gens=#[])
  (ha:s₁.heap.get? a=some {cls:=.type "list",data:=.seq vs.toArray}) (hi:IntsAre vs ns) (hl:ns.length<=sizeLine) (hr:aB k callerA)
  (F:∀base:Heap,K.In base->base.Ns mainGlobals mg->aE P w K mg base CX k fa fd [x] sp) (hbind:∀(s:Shared) (u:Value),BindsTo s fd ⟨[u],[]⟩ [(x,u)])
  (K8:∀H:Hp,pT H->am K H a (ns.map V.int)->sp [.ref a] H (λv _=>v=.bl true) λ_ _ _=>False)
  (hCX:∀H e s',CX [] H s₁ (λ_ _ _=>False) e s'->False) :
  codeAny (model P w) callerA (.call (.ref fa) ⟨[.ref a],[]⟩) (λr s'=>r=.ok (.ret (.bool true))/\OldK s₁.heap s'.heap/\s'.os=s₁.os/\AllBare s'.gens) s₁:=by
 have rv:=uq hi;have lenV:=hi.length
 have core:∀ H:Hp,pT H->am K H a (ns.map V.int)->bJ P w H s₁.heap->(∀ b,H b≠none->b=a)->(H a≠none->K.lookup a=none) ->
   codeAny (model P w) callerA (.call (.ref fa) ⟨[.ref a],[]⟩) (λr s'=>r=.ok (.ret (.bool true))/\OldK s₁.heap s'.heap/\s'.os=s₁.os/\AllBare s'.gens) s₁:=by
  intro H hO hS hok hA hK;have KB:∀{b:Addr} {o:Obj},s₁.heap.get? b=some o->H b=none->(gN s₁.heap H).get? b=some o:=λe n=>z4 e n
  have noA:∀{b:Addr} {o:Obj} {es:Array DictEntry} {ep:Nat},s₁.heap.get? b=some o->o.data=.dict es ep->H b=none:=λ{b o es ep} e d=>by
   cases q:H b with
   |none=>rfl
   |some u =>
    have e':b=a:=hA b (by rw[q];simp);subst e';rw[ha] at e;cases e;have d':Data.seq vs.toArray _=Data.dict es ep:=d;cases d'
  have nsK:∀{b:Addr} {m:Str->Option Value},s₁.heap.Ns b m->(gN s₁.heap H).Ns b m:=λ{b m} ⟨o,es,ep,e,d,r⟩=>⟨o,es,ep,KB e (noA e d),d,r⟩
  have hKb:K.In (gN s₁.heap H):=λb o e=>KB (KX b o e) (by
   cases q:H b with
   |none=>rfl
   |some u =>
    have e':b=a:=hA b (by rw[q];simp);subst e'
    rw[hK (by rw[q];simp)] at e;cases e)
  have hM:Mod K mg (gN s₁.heap H):=⟨hKb,nsK hns,⟨mb,nsK hb,hbb⟩,by obtain⟨mc,h1,h2⟩:=hlim;exact⟨mc,nsK h1,h2⟩⟩
  have e0:fD P w K mg (gN s₁.heap H) callerA [] s₁ H:=⟨rfl,hM,λb o e=>z5 e,Nat.le_of_eq (z3 _ _),trivial,λb hb=>absurd (show b∈([]:List Addr) from hb) (by simp),hok,.of_eq hg⟩
  refine codeAny_mono ((F _ hKb (nsK hns)).run callerA [] s₁ H ⟨[.ref a],[]⟩ [.ref a] [.ref a] _ _ hr e0 (hbind s₁ (.ref a)) (.cons rfl .nil) (K8 H hO hS)) λr s' h=>?_
  cases r with
  |error e=>exact(hCX H e s' h).elim
  |ok fl =>
   cases fl with
   |next=>exact False.elim h
   |brk=>exact False.elim h
   |cont=>exact False.elim h
   |ret u =>
    obtain⟨v,H',os,bare,un,hok',r',q⟩:=h;have q':v=.bl true:=q;subst q';obtain rfl:u=Value.bool true:=r';refine⟨rfl,OldK.of_keep λb o e=>?_,os,bare⟩
    cases q:H b with
    |none=>exact un.keep b o e q (by intro z;exact absurd (show b∈([]:List Addr) from z) (by simp)) (by simp)
    |some u =>
     rcases hO b with z|⟨ob,xs,z⟩
     ·rw[q] at z;cases z
     have z2:=un.frzs b ob _ z;obtain⟨e1,_⟩:=hok b _ z;obtain⟨e2,_⟩:=hok' b _ z2;rw[e] at e1;cases e1;exact e2
 cases hk:K.lookup a with
 |some o =>
  have e:=KX a o hk;rw[ha] at e;cases e;refine core (λ_=>none) (λ_=>.inl rfl) (.inr ⟨_,vs.toArray,_,hk,rfl,rfl,rfl,by rw[Qp,lenV];exact hl,by simpa using rv⟩) (λb u z=>by have z':(none:Option HO)=some u:=z;cases z') (λb z=>absurd rfl z) λz=>absurd rfl z
 |none =>
  refine core (λb=>if b=a then some (.frz {cls:=.type "list",data:=.seq vs.toArray} (.lst (ns.map V.int))) else none) (λb=>?_) (.inl (.inr ⟨{cls:=.type "list",data:=.seq vs.toArray},if_pos rfl⟩)) (λb u z=>?_) (λb z=>?_) λ_=>hk
  ·by_cases hb:b=a
   ·exact .inr ⟨_,_,if_pos hb⟩
   exact .inl (if_neg hb)
  ·by_cases hb:b=a
   ·have z':=(if_pos hb).symm.trans z;cases z';subst hb;exact⟨ha,by rw[Qg];exact hl,vs,_,rv,ha⟩
   have z':=(if_neg hb).symm.trans z;cases z'
  by_cases hb:b=a
  ·exact hb
  exact absurd (if_neg hb) z
theorem Bp{l:PySem.W.OpenLaw}{n k:Nat}{q:Program}{loose:List Str}{XP:(Str->Option Value)->Heap->Prop}{YP:World->Heap->Prop}{d:DefRec}{K:Params->W.Frag}{CX:World->f6}{sp:World->Sp}{x:Str}
  (hn:l.most=some n) (hn2:n<=sizeLine) (hdf:d.params.defaults=[]) (hr:aB k callerA)
  (hY:∀(w:World) (h:Heap),YP w h->(K w.params).In h)
  (F:∀(w:World) (mg:Str->Option Value) (fa:Addr) (h:Heap),(K w.params).In h->h.Ns mainGlobals mg->mg d.name=some (.ref fa) ->
   ∃fd:FuncData,(∀(s:Shared) (u:Value),BindsTo s fd ⟨[u],[]⟩ [(x,u)]) /\
    ∀base:Heap,(K w.params).In base->base.Ns mainGlobals mg->aE l.prog w (K w.params) mg base (CX w) k fa fd [x] (sp w))
  (K8:∀(w:World) (H:Hp) (a:Addr) (ns:List Int),ns.length<=n->pT H->am (K w.params) H a (ns.map V.int)->sp w [.ref a] H (λv _=>v=.bl true) λ_ _ _=>False)
  (hCX:∀(w:World) (H:Hp) (s:Shared) (e:Value) (s':Shared),CX w [] H s (λ_ _ _=>False) e s'->False) :
  PySem.W.WalkO q loose XP YP l.row.toRowW d [] (λf vs=>PySem.call f vs):=by
 refine Att.attach_call hn hdf λw s₀ s₁ mg mb fa o pm cd Kw a vs ns G Y ho hd IY hmg hobj Lq HM hg=>?_;have KX:=hY w _ Y;obtain⟨fd,hb,hF⟩:=F w mg fa _ KX G.T.g hmg;exact Bo KX G.T.g G.T.b G.T.builtins G.T.nolimit hg hobj Lq (QR HM hn2) hr hF hb (λH hO hS=>K8 w H a ns HM hO hS) λH e s'=>hCX w H s₁ e s'
noncomputable def gr(s:Stmt)(j:Nat):Stmt:=match s with
 |.ClassDef _ _ _ body _ _ _ _ _ _ _=>body.getD j (.Pass ⟨0,0,0,0⟩)
 |_=>.Pass ⟨0,0,0,0⟩
noncomputable def jN(s:Stmt):Arguments:=match s with
 |.FunctionDef _ a _ _ _ _ _ _ _ _=>a
 |_=>{posonlyargs:=[],args:=[],vararg:=none,kwonlyargs:=[],kw_defaults:=[],kwarg:=none,defaults:=[]}
noncomputable def jb(s:Stmt):List Stmt:=match s with
 |.FunctionDef _ _ b _ _ _ _ _ _ _=>b
 |_=>[]
noncomputable def aJ(s:Stmt):Scope:=match s with
 |.FunctionDef _ _ _ _ _ _ sc _ _ _=>sc
 |_=>{kind:=.function,names:=[],isGenerator:=false,isCoroutine:=false}
abbrev aG:f6:=λ_ _ _ _ _ _=>False
abbrev E0:XK:=λ_ _ _=>False
theorem cD:jJ aG X E0:=λ_ _ _ _ _ _ _ h=>h.elim
structure lg(K:W.Frag)(x qual:Str)(st:Stmt)(f:Addr)(fd:FuncData):Prop where
 ex:∃(oc:Value) (od:Option Addr) (kV Kw pm:Value) (an:Option Addr) (HQ ct:Value) (osl:Array (Option Value)),
  fd=W.fnOf x qual (jN st) (jb st) (aJ st) .none kV Kw pm an HQ ct/\K.lookup f=some ⟨oc,od,.func fd,osl⟩/\W.codeIn K HQ qual=true
 kp:W.keepIn K (.ref f)=true
section
variable {P:Program}{w:World}{K:W.Frag}{mg:Str->Option Value}{base:Heap}
theorem lg.ok{x qual:Str}{st:Stmt}{f:Addr}{fd:FuncData}{N ps:List Str}{k:Nat}{sp:Sp}(F:lg K x qual st f fd)(S:bf N ps (aJ st))(len:∀vs H Q E,sp vs H Q E->vs.length=ps.length)
  (Lr:∀(HQ:Value) (A:Around) (outer:List Env) (s:Shared) (H:Hp) (vs:List V) (Q:VK) (E:XK),aB k (A.deeper (envOfC qual (aJ st) s.heap.objs.size f HQ))->sp vs H Q E ->
   ∃t,fB (gQ aG P w K mg base N qual (aJ st) f HQ A outer s H E).nox (jb st) t/\t {nx:=λ_ H'=>Q .non H',rt:=Q} (start N vs) H):aE P w K mg base aG (k+1) f fd ps sp:=by
 obtain⟨oc,od,kV,Kw,pm,an,HQ,ct,osl,rfl,lk,IY⟩:=F.ex;refine AZ lk IY S len λA outer s H vs Q E hr K8=>?_;obtain⟨t,h,q⟩:=Lr HQ A outer s H vs Q E hr K8;exact⟨t,h.nox,q⟩
theorem Bq{x qual:Str}{st:Stmt}{f:Addr}{oc:Value}{od an:Option Addr}{osl:Array (Option Value)}{kV Kw pm HQ ct:Value}(l:K.lookup f=some ⟨oc,od,.func (W.fnOf x qual (jN st) (jb st) (aJ st) .none kV Kw pm an HQ ct),osl⟩)
  (c:W.codeIn K HQ qual=true) (k:W.keepIn K (.ref f)=true):lg K x qual st f (W.fnOf x qual (jN st) (jb st) (aJ st) .none kV Kw pm an HQ ct):=⟨⟨oc,od,kV,Kw,pm,an,HQ,ct,osl,rfl,l,c⟩,k⟩
end
theorem iD(h:n<=1000):n<sizeLine:=QE h (by decide)
section
variable {X:Cx}
theorem pv(i:Nat)(hN:X.N[i]?=some x:=by rfl)(hv:oZ X.env.scope x:=by first|exact Or.inl rfl|exact Or.inr (Or.inl rfl)|exact Or.inr (Or.inr rfl))(hd:(x==("__debug__":Str))=false:=by decide)
  (IY:(x==("__classdict__":Str))=false:=by decide):PE X (.Name x pos) (mz i):=z6 hN hv hd IY
end
theorem eD{A B:Prop}(h:B):if false=true then A else B:=by rw[if_neg Qz];exact h
theorem gR{A B:Prop}(h:A):if true=true then A else B:=by rw[if_pos rfl];exact h
theorem cN{c A B:Prop}[Decidable c](h1:c->A)(h2:¬c->B):if c then A else B:=by
 by_cases h:c
 ·rw[if_pos h];exact h1 h
 rw[if_neg h];exact h2 h
def Same(H H':Hp):Prop:=∀b o,H b=some o->H' b=some o
theorem Same.refl(H:Hp):Same H H:=λ_ _ h=>h
theorem Same.trans{H H1 H2:Hp}(a:Same H H1)(b:Same H1 H2):Same H H2:=λc o h=>b c o (a c o h)
theorem Same.free{H H':Hp}(e:Same H H'){l:Addr}(h:H' l=Option.none):H l=Option.none:=by
 cases q:H l with
 |none=>rfl
 |some o =>
  rw[e l o q] at h;cases h
theorem Same.seq{K:W.Frag}{H H':Hp}{a:Addr}{xs:List V}(e:Same H H')(h:am K H a xs):am K H' a xs:=by
 rcases h with (h|⟨o,h⟩)|h
 ·exact .inl (.inl (e _ _ h))
 ·exact .inl (.inr ⟨o,e _ _ h⟩)
 exact .inr h
noncomputable abbrev ur(IF:List Expr)(env:Env):Sem Bool:=
 forIn IF true λc r=>if r=true then do let ok <- isTrue c env (eval c env);pure (ForInStep.yield ok) else pure (ForInStep.yield r)
noncomputable def cI(cells:List (Str×Addr)):List (Str×NameKind)->List (Str×Addr)->List (Str×Addr)
 | [],Ia=>Ia
 |(n,k)::r,Ia=>cI cells r (if k == .free then(n,(cells.lookup n).getD 0)::Ia else Ia)
theorem pU{env:Env}:∀(ns:List (Str×NameKind)) (Ia:List (Str×Addr)),(∀y∈ns,y.2=.free->∃c,env.cells.lookup y.1=some c) ->
  (forIn ns Ia λ(p:Str×NameKind) (cs:List (Str×Addr))=>(if p.2 == .free then(do let c <- cellOf env p.1;pure (ForInStep.yield ((p.1,c)::cs))) else pure (ForInStep.yield cs):Sem (ForInStep (List (Str×Addr)))))=(pure (cI env.cells ns Ia):Sem (List (Str×Addr)))
 | [],Ia,_=>rfl
 |(n,k)::r,Ia,h=>by
  rw[List.forIn_cons];by_cases hk:k=.free
  ·subst hk;obtain⟨c,hc⟩:=h (n,.free) QK rfl;have e1:cellOf env n=pure c:=by unfold cellOf;rw[show env.cells.lookup n=some c from hc]
   simp only[beq_self_eq_true,if_true,e1,cI,hc,Option.getD_some];exact pU r ((n,c)::Ia) λy hy=>h y (QG _ hy)
  have hb:(k==NameKind.free)=false:=by simpa using hk
  simp only[hb,QS,if_false,cI];exact pU r Ia λy hy=>h y (QG _ hy)
theorem mR{env:Env}{sc:Scope}(h:∀y∈sc.names,y.2=.free->∃c,env.cells.lookup y.1=some c):closureFor sc env=pure (cI env.cells sc.names []):=by unfold closureFor;have q:=pU (env:=env) sc.names [] h;have e:(forIn sc.names [] λ(p:Str×NameKind) (cs:List (Str×Addr))=>(match p with|(name,kind)=>if kind == .free then(do let c <- cellOf env name;pure (ForInStep.yield ((name,c)::cs))) else pure (ForInStep.yield cs):Sem (ForInStep (List (Str×Addr)))))=(pure (cI env.cells sc.names []):Sem (List (Str×Addr))):=q;simp only[e];rfl
theorem pV{cells:List (Str×Addr)}:∀(ns:List (Str×NameKind)) (Ia:List (Str×Addr)),(∀y∈ns,y.2=.free->∃c,cells.lookup y.1=some c)->(∀y c,Ia.lookup y=some c->cells.lookup y=some c) ->
  (∀y c,(cI cells ns Ia).lookup y=some c->cells.lookup y=some c)/\(∀y,(Ia.lookup y).isSome=true->((cI cells ns Ia).lookup y).isSome=true)/\(∀y,(y,NameKind.free)∈ns->((cI cells ns Ia).lookup y).isSome=true)
 | [],Ia,_,h2=>⟨h2,λ_ h=>h,λ_ h=>nomatch h⟩
 |(n,k)::r,Ia,h1,h2=>by
  have h1':∀y∈r,y.2=.free->∃c,cells.lookup y.1=some c:=λy hy=>h1 y (QG _ hy);by_cases hk:k=.free
  ·subst hk;obtain⟨c,hc⟩:=h1 (n,.free) QK rfl;have hc':cells.lookup n=some c:=hc;have e:cI cells ((n,.free)::r) Ia=cI cells r ((n,c)::Ia):=by simp only[cI,beq_self_eq_true,if_true,hc',Option.getD_some]
   have ih:=pV (cells:=cells) r ((n,c)::Ia) h1' (λy d hy=>by
    rw[List.lookup_cons] at hy
    cases q:y==n with
    |true=>rw[q] at hy;cases hy;rw[eq_of_beq q];exact hc'
    |false=>rw[q] at hy;exact h2 y d hy)
   rw[e];refine⟨ih.1,λy hy=>ih.2.1 y ?_,λy hy=>?_⟩
   ·rw[List.lookup_cons];split
    ·rfl
    exact hy
   rcases Qx hy with z|z
   ·cases z;exact ih.2.1 n (by rw[List.lookup_cons];simp)
   exact ih.2.2 y z
  have hb:(k==NameKind.free)=false:=by simpa using hk
  have e:cI cells ((n,k)::r) Ia=cI cells r Ia:=by simp only[cI,hb,QS,if_false]
  have ih:=pV (cells:=cells) r Ia h1' h2;rw[e];refine⟨ih.1,ih.2.1,λy hy=>?_⟩;rcases Qx hy with z|z
  ·cases z;exact absurd rfl hk
  exact ih.2.2 y z
theorem ut{env:Env}(hk:env.scope.kind=.function):∀{ns:List (Str×NameKind)} {y:Str},ns.lookup y=some .free->env.kindOf y=some .cell ->
  (ns.map λ(n,k)=>if(k==NameKind.free&&env.scope.kind == .function&&env.kindOf n==some .cell) then(n,NameKind.cell) else(n,k)).lookup y=some .cell
 | [],_,h,_=>by simp at h
 |(n,k)::r,y,h,hc=>by
  have ih:=@ut env hk r y;show List.lookup y ((if(k==NameKind.free&&env.scope.kind == .function&&env.kindOf n==some .cell)=true then(n,NameKind.cell) else(n,k))::_)=_
  cases hx:y==n with
  |true =>
   simp only[List.lookup_cons,hx] at h;cases h;have e:y=n:=eq_of_beq hx;subst e;simp[List.lookup_cons,hc,hk]
  |false =>
   simp only[List.lookup_cons,hx] at h
   split<;>(simp only[List.lookup_cons,hx];exact ih h hc)
theorem uv{env:Env}:∀{ns:List (Str×NameKind)} {y:Str},(∀z∈ns,z.2≠.cell) ->
  ((ns.map λ(n,k)=>if(k==NameKind.free&&env.scope.kind == .function&&env.kindOf n==some .cell) then(n,NameKind.cell) else(n,k)).lookup y=some .cell ∨
   (ns.map λ(n,k)=>if(k==NameKind.free&&env.scope.kind == .function&&env.kindOf n==some .cell) then(n,NameKind.cell) else(n,k)).lookup y=some .free)->(y,NameKind.free)∈ns
 | [],_,_,h=>by simp at h
 |(n,k)::r,y,hz,h=>by
  have ih:=@uv env r y λz hm=>hz z (QG _ hm);have hk:k≠.cell:=hz (n,k) QK;rw[List.map_cons] at h;by_cases hc:(k==NameKind.free&&env.scope.kind == .function&&env.kindOf n==some .cell)=true
  ·have hf:k=.free:=by rw[QL,QL] at hc;exact eq_of_beq hc.1.1
   simp only[hc,if_true,List.lookup_cons] at h
   cases hx:y==n with
   |true=>rw[eq_of_beq hx,hf];exact QK
   |false=>rw[hx] at h;exact QG _ (ih h)
  rw[Bool.not_eq_true] at hc;simp only[hc,QS,if_false,List.lookup_cons] at h
  cases hx:y==n with
  |true =>
   rw[hx] at h;rcases h with h|h
   ·exact absurd (Qs h) hk
   have:k=.free:=Qs h;rw[eq_of_beq hx,this];exact QK
  |false=>rw[hx] at h;exact QG _ (ih h)
noncomputable def cE(js:List Nat)(σ:St):St:=js.map λj=>(σ[j]?).getD none
noncomputable abbrev xc(X:Cx)(sc:Scope)(x:Str)(fv:List Str)(C:Addr)(s0:Shared)(H0:Hp)(ex:List Addr):Cx:=
 {X with N:=x::fv,s₀:=s0,H₀:=H0,env:=compEnvC sc (cI X.env.cells sc.names []) C X.env,outer:=X.stack,ex:=ex,fn:=λ_=>false,pn:=[],xe:=λ_ _=>False}
def iE(X:Cx)(IF:List Expr)(t:TT):Prop:=
 ∀(HJ:List (Addr×Obj)) (s:Shared) (σ:St) (H:Hp) (Q:Bool->Hp->Prop),Inv X HJ σ H s->t σ H Q->wpAny (model X.prog X.w) X.A (ur IF X.env) (TP X HJ σ Q) X.xe s
def uw:TT:=λ_ H Q=>Q true H
theorem fF(h:Q true H):uw σ H Q:=h
theorem fG:iE X [] uw:=λ_ _ _ H _ I h=>wpAny_tests_nil ⟨H,I,h⟩
theorem iF{t:TT}(hc:PT X c t):iE X [c] t:=λHJ s σ H Q I h=>wpAny_tests_one (hc HJ s σ H Q I h)
def iG(J:It)(js:List Nat)(tt:TT)(te:TE):TE:=λσ H1 Q=>∃W:Nat->Nat->List V->Hp->Prop,(∃m,W 0 m [] H1)/\∀i m ys H,W i m ys H ->
 (J.stop i H/\∀p,H p=none->Q (.ref p) (ag H p (.lst ys))) ∨
 (J.go i H/\∃N:List V->Hp->Prop,(∀Ib H',N Ib H'->∃m',m'<m/\W (i+1) m' Ib H') /\
  ∀x H',J.yld i H x H'->tt (some x::cE js σ) H' λb H2=>if b=true then te (some x::cE js σ) H2 λy H3=>ys.length<sizeLine/\N (ys++[y]) H3 else N ys H2)
def ux(wi:TI)(js:List Nat)(tt:TT)(te:TE):TE:=λσ H Q=>wi σ H λJ H1=>iG J js tt te σ H1 Q
section
variable {X:Cx}{HJ:List (Addr×Obj)}{σ:St}{H2:Hp}{s2:Shared}{Ja iter:Expr}{x:Str}{px:Pos}{IF:List Expr}{sc IK:Scope}{pos:Pos}{fv:List Str}{js:List Nat}{tt:TT}{te:TE}
theorem Br{lo:Int}{n:Nat}{σ:St}{H:Hp}{Q:VK}(Pv:Nat->List V->Hp->Prop)(h0:Pv 0 [] H)
  (hs:∀i ys H,i<n->Pv i ys H->tt (some (.int (lo+i))::cE js σ) H λb H2=>if b=true then te (some (.int (lo+i))::cE js σ) H2 λy H3=>ys.length<sizeLine/\Pv (i+1) (ys++[y]) H3 else Pv (i+1) ys H2)
  (hd:∀ys H,Pv n ys H->∀p,H p=none->Q (.ref p) (ag H p (.lst ys))) :
  iG (fY lo n) js tt te σ H Q:=by
 refine⟨λi m ys H=>m=n-i/\i<=n/\Pv i ys H,⟨n,by simp,Qy _,h0⟩,?_⟩;rintro i m ys H ⟨rfl,hi,p⟩;by_cases HS:i<n
 ·refine .inr ⟨HS,Pv (i+1),λIb H' p'=>⟨n-(i+1),by lia,rfl,HS,p'⟩,λx H' y=>?_⟩;obtain⟨e,y⟩:=y;subst e y;exact hs i ys _ HS p
 have e:i=n:=by lia
 subst e;exact .inl ⟨Qh _,hd ys H p⟩
theorem jO{K:W.Frag}{a:Addr}{xs:List V}{σ:St}{H:Hp}{Q:VK}(Pv:Nat->List V->Hp->Prop)(h0:Pv 0 [] H)(hl:∀i ys H,i<=xs.length->Pv i ys H->am K H a xs)
  (hs:∀i x ys H,xs[i]?=some x->Pv i ys H->tt (some x::cE js σ) H λb H2=>if b=true then te (some x::cE js σ) H2 λy H3=>ys.length<sizeLine/\Pv (i+1) (ys++[y]) H3 else Pv (i+1) ys H2)
  (hd:∀ys H,Pv xs.length ys H->∀p,H p=none->Q (.ref p) (ag H p (.lst ys))) :
  iG (cL K a) js tt te σ H Q:=by
 refine⟨λi m ys H=>m=xs.length-i/\i<=xs.length/\Pv i ys H,⟨xs.length,by simp,Qy _,h0⟩,?_⟩;rintro i m ys H ⟨rfl,hi,p⟩;have q:=hl i ys H hi p;by_cases HS:i<xs.length
 ·refine .inr ⟨⟨xs,xs[i],q,by simp[HS]⟩,Pv (i+1),λIb H' p'=>⟨xs.length-(i+1),by lia,rfl,HS,p'⟩,λx H' y=>?_⟩;obtain⟨e,y⟩:=y;subst e;exact hs i x ys _ (y xs q) p
 have e:i=xs.length:=by lia
 subst e;exact .inl ⟨⟨xs,q,Qh _⟩,hd ys H p⟩
end
end L2
namespace Mm
open PySem
theorem uy:∀(n a b:Nat),a<=n->(a|||b)=(a^^^b)+(a&&&b)
 |0,a,b,h=>by
  have:a=0:=by lia
  subst this;simp
 |n+1,a,b,h=>by
  by_cases ha:a=0
  ·subst ha;simp
  have ih:=uy n (a/2) (b/2) (by lia);have e1:(a|||b)/2=a/2|||b/2:=Nat.or_div_two
  have e2:(a^^^b)/2=a/2^^^b/2:=Nat.xor_div_two;have e3:(a&&&b)/2=a/2&&&b/2:=Nat.and_div_two;have m1:(a|||b)%2=(a%2|||b%2):=by simpa using Nat.or_mod_two_pow (a:=a) (b:=b) (n:=1)
  have m2:(a^^^b)%2=(a%2^^^b%2):=by simpa using Nat.xor_mod_two_pow (a:=a) (b:=b) (n:=1)
  have m3:(a&&&b)%2=(a%2&&&b%2):=by simpa using Nat.and_mod_two_pow (a:=a) (b:=b) (n:=1)
  have d:∀x<2,∀y<2,(x|||y)=(x^^^y)+(x&&&y):=by decide
  have dd:=d (a%2) (by lia) (b%2) (by lia);lia
theorem pW(a b:Nat):Builtin.bitAnd (a:Int) (b:Int)=((a&&&b:Nat):Int):=by rw[PyProof.Rows.bitAnd_pp (by lia) (by lia)];simp
theorem Bs(a b:Nat):Builtin.bitOr (a:Int) (b:Int)=((a|||b:Nat):Int):=by
 have ha:¬0<=Builtin.bitNot (a:Int):=by unfold Builtin.bitNot;lia
 have hb:¬0<=Builtin.bitNot (b:Int):=by unfold Builtin.bitNot;lia
 unfold Builtin.bitOr;rw[PyProof.Rows.bitAnd_nn ha hb,PyProof.Rows.bitNot_bitNot,PyProof.Rows.bitNot_bitNot,PyProof.Rows.bitNot_bitNot];simp
theorem Bt(a b:Nat):Builtin.bitXor (a:Int) (b:Int)=((a^^^b:Nat):Int):=by unfold Builtin.bitXor;rw[Bs,pW];have:=uy a a b (Qh _);lia
end Mm
namespace L2
open PySem PySem.Spec PyProof.Rows
section
variable {X:Cx}
theorem Bu:dM X (.builtin "isinstance") (λxs H Q=>∃x t b,xs=[x,.ty n]/\dE X.K H x t/\PySem.W.kitOne X.K t (.type n)=some b/\Q (.bl b) H):=by
 intro HJ s σ H xs us Q I r h;obtain⟨x,t,b,rfl,ty,e,q⟩:=h;obtain⟨u,w',rfl,rx,JB⟩:=vals2 r;cases (show w'=Value.type n from JB)
 exact AL I rx ty e λtk=>⟨.bl b,H,I.tok _,rfl,q⟩
end
theorem gS:bootBuiltins "len"=some (.builtin "len"):=by decide +kernel
theorem mS:bootBuiltins "isinstance"=some (.builtin "isinstance"):=by decide +kernel
theorem jP{X:Cx}{K:W.Frag}(h:X.K=K):iA X (k7 K):=by subst h;exact ue
theorem Bv{w:World}{sc:Scope}(J:Nat->Shared->Prop)
  (one:∀k st,J k st->wpAny (model prog w) A (pyNext it) (λr s₁=>match r with
   |none=>R (.ok .next) s₁
   | some v=>wpAny (model prog w) A (letOwnedTupleGo tg it v) (fun _ sg=>wpAny (model prog w) A (assign tg env v) (fun _ s₂ =>
     wpAny (model prog w) A (ur IF env) (λok s₃ =>
      if ok=true then wpAny (model prog w) A (eval Ja env) (λy s₄=>wpAny (model prog w) A (call (.builtin "list.append") [Ia,y]) (λ_ s₅=>∃m,m<k/\J m s₅) (λ_ _=>False) s₄) (λ_ _=>False) s₃
      else ∃m,m<k/\J m s₃) (λ_ _=>False) s₂) (λ_ _=>False) sg) (λ_ _=>False) s₁) (λ_ _=>False) st)
  (k0:Nat) (h0:J k0 s):codeAny (model prog w) A (.compLoop (.ListComp Ja [⟨tg,iter,IF,0⟩] sc pos) 0 it Ia env) R s:=by
 refine codeAny_loop rfl J (λk st hk=>?_) k0 h0;show wpAny _ A ((compTurn (.ListComp Ja [⟨tg,iter,IF,0⟩] sc pos) 0 it Ia env).onRaise (λy=>do noteFrame y env;theTreesLotGoes y)) _ _ st;refine wpAny_noted ?_;rw[compTurn_list];refine Qa (wpAny_standAt (Qa (QV (one k st hk) (λr s₁ h₁=>?_) λ_ _ z=>z.elim)))
 cases r with
 |none=>exact Qe h₁
 |some v =>
  refine Qa (QV h₁ (λ_ sg hg=>?_) λ_ _ z=>z.elim);refine Qa (QV hg (λ_ s₂ h₂=>?_) λ_ _ z=>z.elim);refine Qa (QV h₂ (λok s₃ h₃=>?_) λ_ _ z=>z.elim)
  cases ok with
  |false=>exact Qe ⟨rfl,h₃⟩
  |true =>
   refine Qa (Qa (QV h₃ (λy s₄ h₄=>?_) λ_ _ z=>z.elim));exact Qa (QV h₄ (λ_ s₅ h₅=>Qe (Qe ⟨rfl,h₅⟩)) λ_ _ z=>z.elim)
structure jc(IK sc:Scope)(NX:List Str)(xs:List Str)(fv:List Str)(js:List Nat):Prop where
 kind:sc.kind=.function
 kindX:IK.kind=.function
 cell:∀y∈sc.names,y.2≠.cell
 own:∀x∈xs,sc.names.lookup x=some .local
 names:∀y∈sc.names,y.2=.local->sc.names.lookup y.1=some .local
 free:∀y∈sc.names,y.2=.free->IK.names.lookup y.1=some .cell
 nd:(xs++fv).Nodup
 at':js.map (λj=>NX[j]?)=fv.map some
 fr:∀y∈fv,sc.names.lookup y=some .free
noncomputable abbrev eE(X:Cx)(sc:Scope)(xs:List Str)(fv:List Str)(C:Addr)(s0:Shared)(H0:Hp)(ex:List Addr):Cx:=
 {X with N:=xs++fv,s₀:=s0,H₀:=H0,env:=compEnvC sc (cI X.env.cells sc.names []) C X.env,outer:=X.stack,ex:=ex,fn:=λ_=>false,pn:=[],xe:=λ_ _=>False}
def jQ(k:Nat)(js:List Nat)(g:TG)(tt:TT)(te:TE)(σ:St)(ys:List V)(N:List V->Hp->Prop)(x:V)(H':Hp):Prop:=
 ∀os:List (Option V),os.length=k->g x (os++cE js σ) H' λσ6 H6=>(∃K5:List (Option V),K5.length=k/\σ6=K5++cE js σ) /\
  tt σ6 H6 λb H2=>if b=true then te σ6 H2 λy H3=>ys.length<sizeLine/\N (ys++[y]) H3 else N ys H2
def jR(J:It)(k:Nat)(js:List Nat)(g:TG)(tt:TT)(te:TE):TE:=λσ H1 Q=>∃W:Nat->Nat->List V->Hp->Prop,(∃m,W 0 m [] H1)/\∀i m ys H,W i m ys H ->
 (J.stop i H/\∀p,H p=none->Q (.ref p) (ag H p (.lst ys))) ∨
 (J.go i H/\∃N:List V->Hp->Prop,(∀Ib H',N Ib H'->∃m',m'<m/\W (i+1) m' Ib H')/\∀x H',J.yld i H x H'->jQ k js g tt te σ ys N x H')
def uz(wi:TI)(k:Nat)(js:List Nat)(g:TG)(tt:TT)(te:TE):TE:=λσ H Q=>wi σ H λJ H1=>jR J k js g tt te σ H1 Q
section
variable {X:Cx}{HJ:List (Addr×Obj)}{σ:St}{H2:Hp}{s2:Shared}{Ja iter tg:Expr}{xs:List Str}{IF:List Expr}{sc IK:Scope}{pos:Pos}{fv:List Str}{js:List Nat}{g:TG}{tt:TT}{te:TE}
theorem pX(S:jc IK sc X.N xs fv js)(JH:X.env.scope=IK)(Ih:X.calm=true)(hgg:∀C s0 H0 ex,PG (eE X sc xs fv C s0 H0 ex) tg g)
  (ht:∀C s0 H0 ex,iE (eE X sc xs fv C s0 H0 ex) IF tt) (he:∀C s0 H0 ex,PE (eE X sc xs fv C s0 H0 ex) Ja te)
  {it:Addr} {fp:List Addr} {tn:Nat->Heap->Prop} {J:It} (I2:Inv X HJ σ H2 s2) (T:fX X.prog X.w X.K tg J fp it tn) (IJ:tn 0 s2.heap) (f2:∀b∈fp,cK X HJ H2 b)
  {Q:VK} {W:Nat->Nat->List V->Hp->Prop} (w0:∃m,W 0 m [] H2)
  (step:∀i m ys H,W i m ys H->(J.stop i H/\∀p,H p=none->Q (.ref p) (ag H p (.lst ys))) ∨
   (J.go i H/\∃N:List V->Hp->Prop,(∀Ib H',N Ib H'->∃m',m'<m/\W (i+1) m' Ib H') /\
    ∀x H',J.yld i H x H'->jQ xs.length js g tt te σ ys N x H'))
  {RR:Value->Addr->Result->Shared->Prop} {E:Value->Shared->Prop}
  (fin:∀(D C:Addr) (s':Shared) (H':Hp),Inv X HJ σ H' s'->Q (.ref D) H'->(∃m,s'.heap.Ns C m)->cK X HJ H' C->RR (.ref D) C (.ok .next) s') :
  wpAny (model X.prog X.w) X.A (newList []) (λIa s₃=>wpAny (model X.prog X.w) X.A (newFunctionEnv sc X.env.globals (cI X.env.cells sc.names []) [] X.env.qual none .none (some X.env)) (λLn s₄ =>
   codeAny (model X.prog X.w) X.A (.compStart (.ListComp Ja [⟨tg,iter,IF,0⟩] sc pos) 0 (.ref it) Ia {Ln with scope:=relabel sc X.env}) (RR Ia Ln.locals) s₄) E s₃) E s2:=by
 have Ig:∀y∈sc.names,y.2=.free->∃c,X.env.cells.lookup y.1=some c:=λy hy hf=>I2.ok.has y.1 (.inl (by show X.env.scope.names.lookup y.1=_;rw[JH];exact S.free y hy hf));obtain⟨cl1,_,cl3⟩:=pV (cells:=X.env.cells) sc.names [] Ig (λy c h=>by simp at h);refine wpAny_newObj_type (wpAny_newFunctionEnv S.cell (by intro y hy;simp at hy) (λh₁ hns₁ hsb₁=>?_) S.kind);dsimp only at hns₁ hsb₁ ⊢;generalize hG:s2.heap.push {cls:=.type "list",dict:=none,data:=.seq ([]:List Value).toArray}=G at hns₁ hsb₁ ⊢;have hGz:G.objs.size=s2.heap.objs.size+1:=by rw[<-hG,Heap.size_push]
 have KU:∀b o,s2.heap.get? b=some o->G.get? b=some o:=λb o e=>hG ▸ Qf _ e;have upH:∀b o,G.get? b=some o->h₁.get? b=some o:=λb o e=>hsb₁.extBut b o (QB (Qt e)) (Qf _ e);have ltD:∀b o,s2.heap.get? b=some o->b≠s2.heap.objs.size:=λb o e=>QB (Qt e);have fpo:∀b∈fp,∃o,s2.heap.get? b=some o:=λb hb=>by obtain⟨o,e,_⟩:=T.obj 0 _ IJ b hb;exact⟨o,e⟩
 have fpD:∀b∈fp,b≠s2.heap.objs.size:=λb hb=>by obtain⟨o,e⟩:=fpo b hb;exact ltD b o e
 have fpC:∀b∈fp,b≠G.objs.size:=λb hb=>by obtain⟨o,e⟩:=fpo b hb;exact QB (Qt (KU b o e))
 have cellO:∀y c,(cI X.env.cells sc.names []).lookup y=some c->∃v,s2.heap.IsCell c v:=λy c e=>I2.cell y c (cl1 y c e);have cellD:∀y c,(cI X.env.cells sc.names []).lookup y=some c->c≠s2.heap.objs.size:=λy c e=>by obtain⟨v,q⟩:=cellO y c e;exact QB q.lt
 have Dfs:s2.heap.objs.size∉eY X.stack:=λhb=>by
  rcases Qx (I2.stkSub _ hb) with z|z
  ·exact absurd I2.lt (by rw[<-z];exact Nat.lt_irrefl _)
  exact I2.nofs (Qh _) z
 have fpfs:∀b∈fp,b∉eY X.stack:=λb hb hz=>by
  refine gM λ_ γ=>?_;obtain⟨_,f1,f2',_⟩:=f2 b hb;refine γ ?_;rcases Qx (I2.stkSub _ hz) with z|z
  ·exact f1 z
  exact f2' z
 have HD:H2 s2.heap.objs.size=none:=I2.hok.fresh (Qh _);have HC:H2 G.objs.size=none:=I2.hok.fresh (by rw[hGz];exact Nat.le_succ _);have DC:s2.heap.objs.size≠G.objs.size:=by rw[hGz];exact QB (Nat.lt_succ_self _)
 have okC:Cx.Ok (eE X sc xs fv G.objs.size {s2 with heap:=G} H2 (s2.heap.objs.size::fp)):=by
  refine⟨I2.ok.mod,S.kind,I2.ok.glob,I2.ok.blt,Qh _,λy z c h1 h2=>I2.ok.inj y z c (cl1 _ _ h1) (cl1 _ _ h2),λy hy=>?_,λy c hfn _=>(by cases hfn),I2.ok.hd,I2.ok.frames,.inl rfl,λb hb=>?_,λb o e=>?_,?_,λb o e hb=>?_,λb hb=>?_,?_,I2.stkFree⟩
  ·exact Option.isSome_iff_exists.mp (cl3 y (uv S.cell hy))
  ·rcases Qx hb with z|z
   ·subst z;exact⟨DC,cellD⟩
   refine⟨fpC b z,λy c e=>?_⟩;refine gM λ_ γ=>?_;obtain⟨_,_,_,_,f4,_⟩:=f2 b z;refine γ ?_;exact f4 y c (cl1 y c e)
  ·exact⟨KU b o (I2.bs b o e).1,(I2.bs b o e).2⟩
  ·show X.base.objs.size<=G.objs.size;rw[hGz];exact Nat.le_succ_of_le (QR I2.ok.bsz I2.sz)
  ·rcases Qx hb with z|z
   ·exact ltD b o (I2.bk b o e) z
   refine gM λ_ γ=>?_;obtain⟨_,_,_,f3,_⟩:=f2 b z;refine γ ?_;rcases f3 with q|q
   ·exact I2.ok.noex b o e q
   exact absurd (QI (Qt e) (QR I2.ok.bsz q)) (Nat.lt_irrefl _)
  ·rcases Qx hb with z|z
   ·subst z;exact Dfs
   exact fpfs b z
  exact(I2.stack).of_keeps λb o e _=>⟨o,KU b o e,rfl⟩
 have lenC:∀os:List (Option V),os.length=xs.length->(os++cE js σ).length=(xs++fv).length:=λos ho=>by have:=congrArg List.length S.at';simp only[Qg] at this;simp[cE,this,ho]
 have Jt:h₁.get? s2.heap.objs.size=some {cls:=.type "list",dict:=none,data:=.seq ([]:List Value).toArray}:=upH _ _ (hG ▸ Qm _ rfl)
 have I4:Inv (eE X sc xs fv G.objs.size {s2 with heap:=G} H2 (s2.heap.objs.size::fp)) [(s2.heap.objs.size,{cls:=.type "list",dict:=none,data:=.seq ([]:List Value).toArray})] (xs.map (λ_=>none)++cE js σ) H2 {s2 with heap:=h₁,toks:=s2.toks+([]:List (Str×Value)).length}:=by
  refine⟨okC,rfl,I2.bare,Un.kept upH,⟨_,hns₁,λi y v e1 e2 e3=>?_⟩,λy c e=>?_,HC,λy c e=>I2.freeC y c (cl1 y c e),λp hp=>?_,I2.hok.kept λb u e=>upH b u (KU b u e),lenC _ (by simp)⟩
  ·by_cases Ke:i<xs.length
   ·have:(xs.map (λ_=>(none:Option V))++cE js σ)[i]?=some none:=by rw[Ql (by simpa using Ke),Qr,Qb Ke];rfl
    rw[this] at e2;cases e2
   obtain⟨i',rfl⟩:∃i',i=xs.length+i':=⟨i-xs.length,by lia⟩
   have e1':fv[i']?=some y:=by have e1a:(xs++fv)[xs.length+i']?=some y:=e1;rw[Qw (by lia),Nat.add_sub_cancel_left] at e1a;exact e1a
   have e2':(cE js σ)[i']?=some (some v):=by have e2a:=e2;rw[Qw (by simp),Qg,Nat.add_sub_cancel_left] at e2a;exact e2a
   have q:=congrArg (λl=>l[i']?) S.at';simp only[Qr,e1',Option.map_some] at q
   cases hj:js[i']? with
   |none=>rw[hj] at q;cases q
   |some j =>
    rw[hj] at q;have hj':X.N[j]?=some y:=Qs q;unfold cE at e2';rw[Qr,hj] at e2';have e2'':(σ[j]?).getD none=some v:=Qs e2'
    have e2b:σ[j]?=some (some v):=by
     cases hh:σ[j]? with
     |none=>rw[hh] at e2'';cases e2''
     |some o=>rw[hh] at e2'';exact congrArg some e2''
    have hm:y∈fv:=Qq e1';have hcX:IK.names.lookup y=some .cell:=S.free (y,.free) (PySem.mem_of_lookup (S.fr y hm)) rfl;have kX:X.env.kindOf y=some .cell:=by show X.env.scope.names.lookup y=_;rw[JH];exact hcX
    obtain⟨m,hn,hl⟩:=I2.loc;obtain⟨u,r,lk⟩:=hl j y v hj' e2b (.inr (.inl kX));refine⟨u,r,?_⟩
    rcases lk with ⟨k,_⟩|⟨_,c,ec,z⟩
    ·rw[kX] at k;cases k
    refine .inr ⟨.inl (ut (by rw[JH];exact S.kindX) (S.fr y hm) kX),c,?_,?_⟩
    ·obtain⟨c',ec'⟩:=Option.isSome_iff_exists.mp (cl3 y (PySem.mem_of_lookup (S.fr y hm)));have:=cl1 y c' ec';rw[ec] at this;cases this;exact ec'
    obtain⟨o,ho,hd⟩:=z;exact⟨o,upH c o (KU c o ho),hd⟩
  ·refine gM λ_ γ=>?_;obtain⟨v,o,ho,hd⟩:=cellO y c e;refine γ ?_;exact⟨v,o,upH c o (KU c o ho),hd⟩
  have IB:p=(s2.heap.objs.size,{cls:=.type "list",dict:=none,data:=.seq ([]:List Value).toArray}):=by simpa using hp
  subst IB;exact⟨Jt,HD,DC,Dfs,λv z=>by cases z⟩
 have loop:codeAny (model X.prog X.w) X.A (.compLoop (.ListComp Ja [⟨tg,iter,IF,0⟩] sc pos) 0 (.ref it) (.ref s2.heap.objs.size) (compEnvC sc (cI X.env.cells sc.names []) G.objs.size X.env)) (RR (.ref s2.heap.objs.size) G.objs.size) {s2 with heap:=h₁,toks:=s2.toks+([]:List (Str×Value)).length}:=by
  obtain⟨m0,w0⟩:=w0
  have fok:∀{H':Hp} {o:Obj},(∀b∈fp,H' b=none)->∀b∈fp,cK (eE X sc xs fv G.objs.size {s2 with heap:=G} H2 (s2.heap.objs.size::fp)) [(s2.heap.objs.size,o)] H' b:=λ{H' o} hn b hb=>by
   refine⟨hn b hb,fpC b hb,fpfs b hb,.inl (QG _ hb),λy c e=>?_,λp hp=>?_⟩
   ·refine gM λ_ γ=>?_;obtain⟨_,_,_,_,f4,_⟩:=f2 b hb;refine γ ?_;exact f4 y c (cl1 y c e)
   have IB:p=(s2.heap.objs.size,o):=by simpa using hp
   subst IB;exact(fpD b hb).symm
  refine Bv (λk st=>∃(i:Nat) (ys:List V) (its:List Value) (n:Nat) (os:List (Option V)) (H':Hp),os.length=xs.length/\Inv (eE X sc xs fv G.objs.size {s2 with heap:=G} H2 (s2.heap.objs.size::fp)) [(s2.heap.objs.size,{cls:=.type "list",data:=.seq its.toArray n})] (os++cE js σ) H' st /\
   az ys its/\ys.length<=sizeLine/\tn i st.heap/\(∀b∈fp,H' b=none)/\W i k ys H') ?_ m0
   ⟨0,[],[],_,xs.map (λ_=>none),H2,by simp,I4,.nil,Qy _,T.keep _ _ _ IJ λb _ o e=>upH b o (KU b o e),λb hb=>(f2 b hb).1,w0⟩
  rintro k s3 hh;refine gM λ_ γ=>?_;obtain⟨i,ys,its,n,os,H3,Ij,I3,rv,hz,st3,fr3,w3⟩:=hh;refine γ ?_
  rcases step i k ys H3 w3 with ⟨stop,q⟩|⟨go,N,hN,hgo⟩
  ·refine aA (T.done (eE X sc xs fv G.objs.size {s2 with heap:=G} H2 (s2.heap.objs.size::fp)) rfl rfl rfl Ih i _ s3 _ H3 _ I3 (fok fr3) st3 stop) λr s4 hsl41=>?_;obtain⟨hr,I4⟩:=hsl41;subst hr;refine gM λ_ γ=>?_;obtain⟨pD,pn,_,_,_⟩:=I4.pin _ (Qu _ QK);refine γ ?_;have B:=I4.base;have nD:∀b o,s2.heap.get? b=some o->b∉fp->b∉s2.heap.objs.size::fp:=λb o e hx hm=>(Qx hm).elim (ltD b o e) hx;have neH:∀b u,H2 b=some u->b≠s2.heap.objs.size:=λb u e z=>by rw[z,HD] at e;cases e
   have JX:Inv X HJ σ (ag H3 s2.heap.objs.size (.lst ys)) s4:=by
    refine I2.call' (ch:=fp) I4.os ⟨λb o e hn hb hx=>B.keep b o (KU b o e) hn hb (nD b o e hx),λb o e hn hb hx=>B.slot b o (KU b o e) hn hb (nD b o e hx),λb o e hn hx=>?_,λb o e hx=>B.there b o (KU b o e) (nD b o e hx),λb xs e=>?_,λb o u e=>?_,λb ps e=>?_⟩ (λb u e=>?_) I4.bare λb hb=>?_
    ·rw[ay (ltD b o e)];exact B.free b o (KU b o e) hn (nD b o e hx)
    ·rw[ay (neH b _ e)];exact B.tups b xs e
    ·rw[ay (neH b _ e)];exact B.frzs b o u e
    ·rw[ay (neH b _ e)];exact B.tbls b ps e
    ·by_cases hb:b=s2.heap.objs.size
     ·subst hb;rw[ah] at e;cases e;exact⟨hz,its,n,rv,pD⟩
     rw[ay hb] at e;exact(I4.hok b u e).stay (λ_ _ _ z=>z) (λc z=>by rw[ay (eQ z pn)];exact z) λc xs z=>by rw[ay (eQ z pn)];exact z
    refine gM λ_ γ=>?_;obtain⟨_,f1,_,f3,f4,f5⟩:=f2 b hb;refine γ ?_;exact⟨f3,f1,f4,f5⟩
   refine fin _ _ s4 _ JX (q _ pn) (by obtain⟨m,hm,_⟩:=I4.loc;exact⟨m,hm⟩) (I2.fpOk (by rw[hGz];exact Nat.le_succ _) ?_);rw[ay DC.symm];exact I4.free
  refine aA (T.item (eE X sc xs fv G.objs.size {s2 with heap:=G} H2 (s2.heap.objs.size::fp)) rfl rfl rfl Ih i _ s3 _ H3 _ I3 (fok fr3) st3 go) λr s4 hsl42=>?_;obtain⟨u,hr,h4⟩:=hsl42;subst hr;refine aA h4 λ_ s5 hsl43=>?_;obtain⟨y,H5,I5,r5,y5,st5,fr5⟩:=hsl43;have I5':=I5.pinned (fok fr5) (T.obj _ _ st5);refine aA (hgg _ _ _ _ _ s5 _ H5 y u _ I5' r5 (hgo y _ y5 os Ij)) λ_ s6 hsl44=>?_;obtain⟨σ6,H6,I6,⟨K5,hos',eσ⟩,q6⟩:=hsl44;subst eσ;refine aA (ht _ _ _ _ _ s6 _ _ _ I6 q6) λb s7 hsl45=>?_;obtain⟨H7,I7,q7⟩:=hsl45
  cases b with
  |false =>
   rw[if_neg Qz] at q7 ⊢;obtain⟨m',hm,w7⟩:=hN ys H7 q7
   exact⟨m',hm,i+1,ys,its,n,K5,H7,hos',I7.unpinned,rv,hz,T.keep _ _ _ st5 λb hb o e=>(I7.pin (b,o) (Qu _ (Qu _ (ip hb e)))).1,λb hb=>by
    obtain⟨o,e,d⟩:=T.obj _ _ st5 b hb
    exact(I7.pin (b,o) (Qu _ (Qu _ (ip hb e)))).2.1,w7⟩
  |true =>
   rw[if_pos rfl] at q7 ⊢;refine aA (he _ _ _ _ _ s7 _ H7 _ I7 q7) λu8 s8 hsl46=>?_;obtain⟨y8,H8,I8,r8,hl8,q8⟩:=hsl46;obtain⟨m',hm,w8⟩:=hN _ H8 q8;refine gM λ_ γ=>?_;obtain⟨pD,pn,pC,pf,_⟩:=I8.pin _ (Qu _ (QQ _ QK));refine γ ?_;refine wpAny_list_append_plain (items:=its.toArray) ⟨n,pD⟩ (λh9 hl9 sb9=>?_) (by rw[Qp,<-rv.length];exact QT hl8);have pinF:∀p∈i7 fp s5.heap,p∈[(s2.heap.objs.size,({cls:=.type "list",data:=.seq its.toArray n}:Obj))]++i7 fp s5.heap:=λp hp=>Qu _ hp;have I8a:=I8.pins_of (pins':=i7 fp s5.heap) λp hp=>I8.pin p (Qu _ (pinF p hp));have I9:=I8a.turned (it:=s2.heap.objs.size) (h':=h9) (t':=s8.toks) (λb o hb e=>(sb9.2 b hb).trans e) pn DC (.inl QK) (λy c e=>cellD y c e) λp hp=>fpD p.1 (tm (by simpa using hp)).1;obtain⟨n9,e9⟩:=hl9;have e9':h9.get? s2.heap.objs.size=some {cls:=.type "list",data:=.seq (its++[u8]).toArray n9}:=by rw[e9,show(its++[u8]).toArray=its.toArray.push u8 by simp]
   refine⟨m',hm,i+1,ys++[y8],its++[u8],n9,K5,H8,hos',I9.pins_of λp hp=>?_,rv.append (.cons r8 .nil),by rw[Qi];exact hl8,T.keep _ _ _ st5 λb hb o e=>(I9.pin (b,o) (Qu _ (ip hb e))).1,λb hb=>?_,w8⟩
   ·have IB:p=(s2.heap.objs.size,{cls:=.type "list",data:=.seq (its++[u8]).toArray n9}):=by simpa using hp
    subst IB;exact⟨e9',pn,DC,pf,λv z=>by cases z⟩
   obtain⟨o,e,d⟩:=T.obj _ _ st5 b hb;exact(I9.pin (b,o) (Qu _ (ip hb e))).2.1
 exact codeAny_compStart_list loop (T.self _ 0 _ _ _ (T.keep _ _ _ IJ λb _ o e=>upH b o (KU b o e)) loop)
theorem jd{wi:TI}(IK:Scope)(NX fv:List Str)(js:List Nat)(hNX:X.N=NX)(S:jc IK sc NX xs fv js)(JH:X.env.scope=IK)(Ih:X.calm=true)(hi:PI X tg iter wi)(hgg:∀C s0 H0 ex,PG (eE X sc xs fv C s0 H0 ex) tg g)
  (ht:∀C s0 H0 ex,iE (eE X sc xs fv C s0 H0 ex) IF tt) (he:∀C s0 H0 ex,PE (eE X sc xs fv C s0 H0 ex) Ja te)
  (hs:∀v,foldedSetIterable iter X.env v=pure v:=by intro _;rfl):PE X (.ListComp Ja [⟨tg,iter,IF,0⟩] sc pos) (uz wi xs.length js g tt te):=by
 intro HJ s σ H Q I h;rw[<-hNX] at S;have Ig:∀y∈sc.names,y.2=.free->∃c,X.env.cells.lookup y.1=some c:=λy hy hf=>I.ok.has y.1 (.inl (by show X.env.scope.names.lookup y.1=_;rw[JH];exact S.free y hy hf));rw[eval_ListComp];refine wpAny_comprehension_free (use:=none) rfl hs (mR Ig) S.kind S.names (aA (hi HJ s σ H _ I h) λv s1 h1=>aA h1 λitv s2 h2=>?_);obtain⟨it,fp,tn,J,H2,e,I2,T,IJ,f2,W,w0,step⟩:=h2;subst e;refine pX (RR:=λIa C=>compPost (model X.prog X.w) X.A X.xe none (EP X HJ σ Q) Ia C) S JH Ih hgg ht he I2 T IJ f2 w0 step λD C s' H' I' q hsl47 hC=>?_;obtain⟨m,hm⟩:=hsl47;obtain⟨f0,f1,_,f3,f4,f5⟩:=hC;exact⟨m,hm,λh' sb=>⟨.ref D,H',I'.turned (t':=s'.toks) (λb o hb e=>(sb.2 b hb).trans e) f0 f1 f3 f4 f5,rfl,q⟩⟩
theorem uA{wi:TI}{i:Nat}{y:Str}{py Lh:Pos}(IK:Scope)(NX fv:List Str)(js:List Nat)(hNX:X.N=NX)(S:jc IK sc NX xs fv js)(JH:X.env.scope=IK)(Ih:X.calm=true)(hi:PI X tg iter wi)(hgg:∀C s0 H0 ex,PG (eE X sc xs fv C s0 H0 ex) tg g)
  (ht:∀C s0 H0 ex,iE (eE X sc xs fv C s0 H0 ex) IF tt) (he:∀C s0 H0 ex,PE (eE X sc xs fv C s0 H0 ex) Ja te)
  (hN:X.N.Nodup) (hy:X.N[i]?=some y) (hl:X.env.scope.names.lookup y=some .local) (hsw:swapsWith (.ListComp Ja [⟨tg,iter,IF,0⟩] sc pos) (some (.Name y py)) Lh.line X.env=pure true)
  (hs:∀v,foldedSetIterable iter X.env v=pure v:=by intro _;rfl):PS X (.Assign [.Name y py] (.ListComp Ja [⟨tg,iter,IF,0⟩] sc pos) Lh) (kU (uz wi xs.length js g tt te) (aP i)):=by
 intro HJ s σ H D I h;rw[<-hNX] at S;have Ig:∀y∈sc.names,y.2=.free->∃c,X.env.cells.lookup y.1=some c:=λy hy hf=>I.ok.has y.1 (.inl (by show X.env.scope.names.lookup y.1=_;rw[JH];exact S.free y hy hf));rw[exec_Assign_Name_used _ _ _ _ hsw];refine Qa (wpAny_standAt (Qa ?_));show wpAny _ _ (do let _ <- comprehension (.ListComp Ja [⟨tg,iter,IF,0⟩] sc pos) sc X.env _ (newList []) false (eval iter X.env) (some (assign (.Name y py) X.env))) _ _ s
 refine Qa (QV (wpAny_comprehension_free (use:=some (assign (.Name y py) X.env)) (Q:=λ_ st=>SP X HJ D .next st) rfl hs (mR Ig) S.kind S.names
  (aA (hi HJ s σ H _ I h) λv s1 h1=>aA h1 λitv s2 h2=>?_)) (λ_ st hq=>Qe (Qe hq)) λ_ _ e=>e)
 obtain⟨it,fp,tn,J,H2,e,I2,T,IJ,f2,W,w0,step⟩:=h2;subst e;refine pX (Q:=λv H1=>aP i v σ H1 D.nx) (RR:=λIa C=>compPost (model X.prog X.w) X.A X.xe (some (assign (.Name y py) X.env)) (λ_ st=>SP X HJ D .next st) Ia C) S JH Ih hgg ht he I2 T IJ f2 w0 step λDl C s' H' I' q hsl48 hC=>?_;obtain⟨m,hm⟩:=hsl48;obtain⟨f0,f1,_,f3,f4,f5⟩:=hC;refine wpAny_assign_Name (o0 I' hN hy (.inl hl) (show RelV (.ref Dl) (.ref Dl) from rfl) (λs'' I'' hsl49=>?_) (.inr hl));obtain⟨a,sb,ha⟩:=hsl49
 have aC:C≠a:=λz=>by
  rcases ha with ha|ha
  ·exact f1 (z.trans ha)
  exact f4 y a ha z.symm
 refine⟨m,hm.sameBut sb aC,λh' sb'=>?_⟩;exact⟨_,_,I''.turned (t':=s''.toks) (λb o hb e=>(sb'.2 b hb).trans e) f0 f1 f3 f4 f5,q⟩
end
section
variable {X:Cx}{HJ:List (Addr×Obj)}{σ:St}{H2:Hp}{s2:Shared}{Ja iter:Expr}{x:Str}{px:Pos}{IF:List Expr}{sc IK:Scope}{pos:Pos}{fv:List Str}{js:List Nat}{tt:TT}{te:TE}
theorem uB(S:jc IK sc X.N [x] fv js)(JH:X.env.scope=IK)(Ih:X.calm=true)
  (ht:∀C s0 H0 ex,iE (xc X sc x fv C s0 H0 ex) IF tt) (he:∀C s0 H0 ex,PE (xc X sc x fv C s0 H0 ex) Ja te)
  {it:Addr} {fp:List Addr} {tn:Nat->Heap->Prop} {J:It} (I2:Inv X HJ σ H2 s2) (T:fX X.prog X.w X.K (.Name x px) J fp it tn) (IJ:tn 0 s2.heap) (f2:∀b∈fp,cK X HJ H2 b)
  {Q:VK} {W:Nat->Nat->List V->Hp->Prop} (w0:∃m,W 0 m [] H2)
  (step:∀i m ys H,W i m ys H->(J.stop i H/\∀p,H p=none->Q (.ref p) (ag H p (.lst ys))) ∨
   (J.go i H/\∃N:List V->Hp->Prop,(∀Ib H',N Ib H'->∃m',m'<m/\W (i+1) m' Ib H') /\
    ∀x H',J.yld i H x H'->tt (some x::cE js σ) H' λb H2=>if b=true then te (some x::cE js σ) H2 λy H3=>ys.length<sizeLine/\N (ys++[y]) H3 else N ys H2))
  {RR:Value->Addr->Result->Shared->Prop} {E:Value->Shared->Prop}
  (fin:∀(D C:Addr) (s':Shared) (H':Hp),Inv X HJ σ H' s'->Q (.ref D) H'->(∃m,s'.heap.Ns C m)->cK X HJ H' C->RR (.ref D) C (.ok .next) s') :
  wpAny (model X.prog X.w) X.A (newList []) (λIa s₃=>wpAny (model X.prog X.w) X.A (newFunctionEnv sc X.env.globals (cI X.env.cells sc.names []) [] X.env.qual none .none (some X.env)) (λLn s₄ =>
   codeAny (model X.prog X.w) X.A (.compStart (.ListComp Ja [⟨.Name x px,iter,IF,0⟩] sc pos) 0 (.ref it) Ia {Ln with scope:=relabel sc X.env}) (RR Ia Ln.locals) s₄) E s₃) E s2:=by
 refine pX (xs:=[x]) (g:=aP 0) (RR:=RR) S JH Ih (λC s0 H0 ex=>ba S.nd rfl (.inl (lookup_relabel_local (S.own _ (.head _)))) (.inr (lookup_relabel_local (S.own _ (.head _))))) ht he I2 T IJ f2 w0 (λi m ys H w=>?_) fin
 rcases step i m ys H w with h|⟨go,N,hN,st⟩
 ·exact .inl h
 refine .inr ⟨go,N,hN,λy H' hy os Ij=>?_⟩;obtain⟨o,rfl⟩:=List.length_eq_one_iff.mp Ij;exact⟨⟨[some y],rfl,rfl⟩,st y H' hy⟩
theorem gu{wi:TI}(IK:Scope)(NX fv:List Str)(js:List Nat)(hNX:X.N=NX)(S:jc IK sc NX [x] fv js)(JH:X.env.scope=IK)(Ih:X.calm=true)(hi:PI X (.Name x px) iter wi)
  (ht:∀C s0 H0 ex,iE (xc X sc x fv C s0 H0 ex) IF tt) (he:∀C s0 H0 ex,PE (xc X sc x fv C s0 H0 ex) Ja te)
  (hs:∀v,foldedSetIterable iter X.env v=pure v:=by intro _;rfl):PE X (.ListComp Ja [⟨.Name x px,iter,IF,0⟩] sc pos) (ux wi js tt te):=by
 intro HJ s σ H Q I h;rw[<-hNX] at S;have Ig:∀y∈sc.names,y.2=.free->∃c,X.env.cells.lookup y.1=some c:=λy hy hf=>I.ok.has y.1 (.inl (by show X.env.scope.names.lookup y.1=_;rw[JH];exact S.free y hy hf));rw[eval_ListComp];refine wpAny_comprehension_free (use:=none) rfl hs (mR Ig) S.kind S.names (aA (hi HJ s σ H _ I h) λv s1 h1=>aA h1 λitv s2 h2=>?_);obtain⟨it,fp,tn,J,H2,e,I2,T,IJ,f2,W,w0,step⟩:=h2;subst e;refine uB (RR:=λIa C=>compPost (model X.prog X.w) X.A X.xe none (EP X HJ σ Q) Ia C) S JH Ih ht he I2 T IJ f2 w0 step λD C s' H' I' q hsl50 hC=>?_;obtain⟨m,hm⟩:=hsl50;obtain⟨f0,f1,_,f3,f4,f5⟩:=hC;exact⟨m,hm,λh' sb=>⟨.ref D,H',I'.turned (t':=s'.toks) (λb o hb e=>(sb.2 b hb).trans e) f0 f1 f3 f4 f5,rfl,q⟩⟩
theorem Bw{wi:TI}{i:Nat}{y:Str}{py Lh:Pos}(IK:Scope)(NX fv:List Str)(js:List Nat)(hNX:X.N=NX)(S:jc IK sc NX [x] fv js)(JH:X.env.scope=IK)(Ih:X.calm=true)(hi:PI X (.Name x px) iter wi)
  (ht:∀C s0 H0 ex,iE (xc X sc x fv C s0 H0 ex) IF tt) (he:∀C s0 H0 ex,PE (xc X sc x fv C s0 H0 ex) Ja te)
  (hN:X.N.Nodup) (hy:X.N[i]?=some y) (hl:X.env.scope.names.lookup y=some .local) (hsw:swapsWith (.ListComp Ja [⟨.Name x px,iter,IF,0⟩] sc pos) (some (.Name y py)) Lh.line X.env=pure true)
  (hs:∀v,foldedSetIterable iter X.env v=pure v:=by intro _;rfl):PS X (.Assign [.Name y py] (.ListComp Ja [⟨.Name x px,iter,IF,0⟩] sc pos) Lh) (kU (ux wi js tt te) (aP i)):=by
 intro HJ s σ H D I h;rw[<-hNX] at S;have Ig:∀y∈sc.names,y.2=.free->∃c,X.env.cells.lookup y.1=some c:=λy hy hf=>I.ok.has y.1 (.inl (by show X.env.scope.names.lookup y.1=_;rw[JH];exact S.free y hy hf));rw[exec_Assign_Name_used _ _ _ _ hsw];refine Qa (wpAny_standAt (Qa ?_));show wpAny _ _ (do let _ <- comprehension (.ListComp Ja [⟨.Name x px,iter,IF,0⟩] sc pos) sc X.env _ (newList []) false (eval iter X.env) (some (assign (.Name y py) X.env))) _ _ s
 refine Qa (QV (wpAny_comprehension_free (use:=some (assign (.Name y py) X.env)) (Q:=λ_ st=>SP X HJ D .next st) rfl hs (mR Ig) S.kind S.names
  (aA (hi HJ s σ H _ I h) λv s1 h1=>aA h1 λitv s2 h2=>?_)) (λ_ st hq=>Qe (Qe hq)) λ_ _ e=>e)
 obtain⟨it,fp,tn,J,H2,e,I2,T,IJ,f2,W,w0,step⟩:=h2;subst e;refine uB (Q:=λv H1=>aP i v σ H1 D.nx) (RR:=λIa C=>compPost (model X.prog X.w) X.A X.xe (some (assign (.Name y py) X.env)) (λ_ st=>SP X HJ D .next st) Ia C) S JH Ih ht he I2 T IJ f2 w0 step λDl C s' H' I' q hsl51 hC=>?_;obtain⟨m,hm⟩:=hsl51;obtain⟨f0,f1,_,f3,f4,f5⟩:=hC;refine wpAny_assign_Name (o0 I' hN hy (.inl hl) (show RelV (.ref Dl) (.ref Dl) from rfl) (λs'' I'' hsl52=>?_) (.inr hl));obtain⟨a,sb,ha⟩:=hsl52
 have aC:C≠a:=λz=>by
  rcases ha with ha|ha
  ·exact f1 (z.trans ha)
  exact f4 y a ha z.symm
 refine⟨m,hm.sameBut sb aC,λh' sb'=>?_⟩;exact⟨_,_,I''.turned (t':=s''.toks) (λb o hb e=>(sb'.2 b hb).trans e) f0 f1 f3 f4 f5,q⟩
end
end L2
namespace L2
open PySem
noncomputable instance {N P:List Str}{sc:Scope}:Decidable (bf N P sc):=decidable_of_iff (sc.kind=.function/\sc.isCoroutine=false/\sc.isGenerator=false/\N.Nodup/\N.take P.length=P/\(∀x∈P,sc.names.lookup x=some .local∨sc.names.lookup x=some .cell)/\∀y∈sc.names,y.2≠.free) ⟨λhsl53=>by obtain⟨a,b,c,d,e,f,g⟩:=hsl53;exact⟨a,b,c,d,e,f,g⟩,λhsl54=>by obtain⟨a,b,c,d,e,f,g⟩:=hsl54;exact⟨a,b,c,d,e,f,g⟩⟩
noncomputable instance {IK sc:Scope}{NX:List Str}{xs:List Str}{fv:List Str}{js:List Nat}:Decidable (jc IK sc NX xs fv js):=decidable_of_iff (sc.kind=.function/\IK.kind=.function/\(∀y∈sc.names,y.2≠.cell)/\(∀x∈xs,sc.names.lookup x=some .local)/\(∀y∈sc.names,y.2=.local->sc.names.lookup y.1=some .local)/\(∀y∈sc.names,y.2=.free->IK.names.lookup y.1=some .cell)/\(xs++fv).Nodup/\js.map (λj=>NX[j]?)=fv.map some/\∀y∈fv,sc.names.lookup y=some .free) ⟨λhsl55=>by obtain⟨a,b,c,d,e,f,g,h,i⟩:=hsl55;exact⟨a,b,c,d,e,f,g,h,i⟩,λhsl56=>by obtain⟨a,b,c,d,e,f,g,h,i⟩:=hsl56;exact⟨a,b,c,d,e,f,g,h,i⟩⟩
end L2
namespace L2
open PySem PySem.Spec PyProof.Rows
section
variable {X:Cx}
theorem Bx:pJ X "int.bit_length" (λx xs H Q=>∃i,x=.int i/\xs=[]/\Q (.int ((Builtin.Int.intBits i:Nat):Int)) H):=by intro HJ s σ H x xs v us Q I rx rs h;obtain⟨i,rfl,rfl,q⟩:=h;obtain⟨t,rfl⟩:=rx;cases rs;exact call_int_bit_length ⟨.int _,H,I.tok _,⟨_,rfl⟩,q⟩
end
theorem lh:bootBuiltins "list"=some (.type "list"):=by decide +kernel
section
variable {X:Cx}
noncomputable def iH(z:Str)(lo hi:Option Int):Str:=⟨((z.cps.toList.drop (HT.sIx z.length 0 lo)).take (HT.sIx z.length z.length hi-HT.sIx z.length 0 lo)).toArray⟩
theorem uC(n d:Nat)(v:Option Int):(match v with|none=>(d:Int)|some i=>max 0 (min (if i<0 then i+(n:Int) else i) (n:Int)))=((HT.sIx n d v:Nat):Int):=by
 cases v with
 |none=>rfl
 |some i =>
  show max 0 (min (if i<0 then i+(n:Int) else i) (n:Int))=(((if i<0 then(i+(n:Int)).toNat else min i.toNat n):Nat):Int);by_cases h:i<0
  ·simp only[if_pos h];lia
  simp only[if_neg h];lia
theorem By(lo hi:Option Int)(n:Nat):Builtin.Str.strSliceIndices lo hi 1 n=(List.range (HT.sIx n n hi-HT.sIx n 0 lo)).map (HT.sIx n 0 lo+·):=by rw[<-sliceRange_one];have e1:=uC n 0 lo;have e2:=uC n n hi;rw[<-e1,<-e2];rfl
theorem Bz(z:Str)(lo hi:Option Int):Txt.slice z lo hi=iH z lo hi:=by
 have hL:=HT.sIx_le z.length 0 (Qy _) lo;have hH:=HT.sIx_le z.length z.length (Qh _) hi;have hz:z.cps.toList.length=z.length:=by simp[Str.length]
 unfold Txt.slice iH;rw[By];split
 ·rename_i h;have h':HT.sIx z.length z.length hi-HT.sIx z.length 0 lo=z.length:=by simpa using h
  rw[h'];by_cases h0:HT.sIx z.length 0 lo=0
  ·rw[h0,List.drop_zero,QC (by lia)]
  have:z.length=0:=by lia
  lia
 rw[pick_run]
theorem BA(z:Str)(lo hi:Option Int):(iH z lo hi).cps.toList=(z.cps.toList.drop (HT.sIx z.length 0 lo)).take (HT.sIx z.length z.length hi-HT.sIx z.length 0 lo):=rfl
theorem uD(z:Str)(lo hi:Option Int):(iH z lo hi).length<=z.length:=by
 show((z.cps.toList.drop (HT.sIx z.length 0 lo)).take (HT.sIx z.length z.length hi-HT.sIx z.length 0 lo)).toArray.size<=z.length;rw[Qp,QH,List.length_drop];have hz:z.cps.toList.length=z.length:=by simp[Str.length]
 omega
theorem uE:fE X (λx lo hi H Q=>∃z,x=.str z/\z.length<=sizeLine/\Q (.str (iH z lo hi)) H):=by
 intro HJ s σ H x v vl vu lo hi sl Q I rx hs pl pu h;obtain⟨z,rfl,hz,q⟩:=h;obtain⟨t,rfl⟩:=rx;rw[<-Bz] at q;refine⟨"str",_,slot_str_getitem.lookup,typeIs_str s z t,?_⟩;have key:∀(l u:Option (Int×Tok)),s.heap.IsSliceOf sl (partValue l) (partValue u) .none->l.map (·.1)=lo->u.map (·.1)=hi->wpAny (model X.prog X.w) X.A (getItem (.str z t) (.ref sl)) (EP X HJ σ Q) X.xe s:=by intro l u hs' hl hu;subst hl hu;exact wpAny_getItem_str_slice (l:=l) (u:=u) (st:=none) hs' rfl (post_val_or_str ⟨QR (Txt.slice_le z _ _) hz,λt' k=>⟨.str (Txt.slice z (l.map (·.1)) (u.map (·.1))),H,I.tok k,⟨t',rfl⟩,q⟩⟩)
 cases pl with
 |none=>cases pu with
  |none=>exact key none none hs rfl rfl
  |int j tj=>exact key none (some (j,tj)) hs rfl rfl
 |int i ti=>cases pu with
  |none=>exact key (some (i,ti)) none hs rfl rfl
  |int j tj=>exact key (some (i,ti)) (some (j,tj)) hs rfl rfl
noncomputable def pY(n:Nat)(y:Nat->V):It:=⟨λi _=>i<n,λi H x H'=>H'=H/\x=y i,λi _=>n<=i⟩
end
theorem BB(K:W.Frag)(C:Addr):PySem.W.kitOne K (.ref C) (.ref C)=some true:=by unfold PySem.W.kitOne;rw[if_pos (by simp)]
section
variable {κ:Type}[DecidableEq κ]
noncomputable def aZ(kvs:List (κ×V))(k:κ):Option V:=(kvs.find? λkv=>decide (kv.1=k)).map (·.2)
noncomputable def cc(kvs:List (κ×V))(k:κ)(v:V):List (κ×V):=
 if(kvs.any λkv=>decide (kv.1=k))=true then kvs.map (λkv=>if kv.1=k then(kv.1,v) else kv) else kvs++[(k,v)]
theorem fH{k:κ}(e:p.1=k):aZ (p::r) k=some p.2:=by simp[aZ,List.find?_cons,e]
theorem fI{k:κ}(e:¬p.1=k):aZ (p::r) k=aZ r k:=by simp[aZ,List.find?_cons,e]
theorem ll(k:κ):∀kvs:List (κ×V),(kvs.any λkv=>decide (kv.1=k))=(aZ kvs k).isSome
 | []=>rfl
 |p::r=>by
  rw[List.any_cons];by_cases e:p.1=k
  ·simp only[fH e,Qn e,Bool.true_or,Option.isSome_some]
  rw[fI e,Qk e,Bool.false_or];exact ll k r
theorem uF(k j:κ)(y:V):∀kvs:List (κ×V),aZ (kvs.map λkv=>if kv.1=k then(kv.1,y) else kv) j=(aZ kvs j).map λx=>if j=k then y else x
 | []=>rfl
 |p::r=>by
  have ih:=uF k j y r;rw[List.map_cons];by_cases h:p.1=k
  ·rw[if_pos h];by_cases e:p.1=j
   ·rw[fH (p:=(p.1,y)) e,fH e,Option.map_some,if_pos (e.symm.trans h)]
   rw[fI (p:=(p.1,y)) e,fI e,ih]
  rw[if_neg h];by_cases e:p.1=j
  ·rw[fH (p:=p) e,fH e,Option.map_some,if_neg (λz=>h (e.trans z))]
  rw[fI (p:=p) e,fI e,ih]
theorem uG(k j:κ)(y:V):∀kvs:List (κ×V),aZ kvs k=none->aZ (kvs++[(k,y)]) j=if j=k then some y else aZ kvs j
 | [],_=>by
  by_cases e:k=j
  ·rw[if_pos e.symm];exact fH (p:=(k,y)) e
  rw[if_neg (λz=>e z.symm)];exact fI (p:=(k,y)) e
 |p::r,hn=>by
  rw[List.cons_append];have hk:¬p.1=k:=λz=>by rw[fH z] at hn;cases hn
  rw[fI hk] at hn;have ih:=uG k j y r hn;by_cases e:p.1=j
  ·rw[fH e,fH e,if_neg (λz=>hk (e.trans z))]
  rw[fI e,fI e,ih]
theorem mT(kvs:List (κ×V))(k j:κ)(y:V):aZ (cc kvs k y) j=if j=k then some y else aZ kvs j:=by
 unfold cc;by_cases a:(kvs.any λkv=>decide (kv.1=k))=true
 ·rw[if_pos a,uF];rw[ll] at a;by_cases e:j=k
  ·obtain⟨x,hx⟩:=Option.isSome_iff_exists.mp a;rw[if_pos e,e,hx,Option.map_some,if_pos rfl]
  rw[if_neg e]
  cases aZ kvs j with
  |none=>rfl
  |some x=>rw[Option.map_some,if_neg e]
 rw[if_neg a];refine uG k j y kvs ?_;rw[ll] at a
 cases q:aZ kvs k with
 |none=>rfl
 |some x=>rw[q] at a;exact(a rfl).elim
theorem ln(kvs:List (κ×V))(k:κ)(v:V):(cc kvs k v).length<=kvs.length+1:=by
 unfold cc;split
 ·rw[Qg];lia
 rw[Qi,QU,List.length_nil];lia
theorem dv.isSome_eq{o:Option V}{u:Option Value}(r:dv o u):o.isSome=u.isSome:=by
 cases o with
 |none=>cases u with
  |none=>rfl
  |some _=>exact(show False from r).elim
 |some _=>cases u with
  |none=>exact(show False from r).elim
  |some _=>rfl
theorem dv.getD{o:Option V}{u:Option Value}{d:V}{d':Value}(r:dv o u)(rd:RelV d d'):RelV (o.getD d) (u.getD d'):=by
 cases o with
 |none=>cases u with
  |none=>exact rd
  |some _=>exact(show False from r).elim
 |some _=>cases u with
  |none=>exact(show False from r).elim
  |some _=>exact r
theorem KV.val{kvs:List (κ×V)}{vs:List (κ×Value)}(r:KV kvs vs)(k:κ):dv (aZ kvs k) (valueAt vs k):=by
 unfold KV at r
 induction r with
 |nil=>exact True.intro
 | @cons p q ps qs h t ih =>
  obtain⟨h1,h2⟩:=h;by_cases e:p.1=k
  ·have e':q.1=k:=h1.symm.trans e;have b:valueAt (q::qs) k=some q.2:=by simp[valueAt,List.find?_cons,e']
   rw[fH e,b];exact h2
  have e':¬q.1=k:=λz=>e (h1.trans z);have b:valueAt (q::qs) k=valueAt qs k:=by simp[valueAt,List.find?_cons,e']
  rw[fI e,b];exact ih
theorem KV.any{kvs:List (κ×V)}{vs:List (κ×Value)}(r:KV kvs vs)(k:κ):(kvs.any λkv=>decide (kv.1=k))=vs.any λkv=>decide (kv.1=k):=by
 unfold KV at r
 induction r with
 |nil=>rfl
 |cons h t ih=>rw[List.any_cons,List.any_cons,ih,h.1]
theorem KV.repl{kvs:List (κ×V)}{vs:List (κ×Value)}(r:KV kvs vs)(k:κ)(ry:RelV y u) :
  KV (kvs.map λkv=>if kv.1=k then(kv.1,y) else kv) (vs.map λkv=>if kv.1=k then(kv.1,u) else kv):=by
 unfold KV at r ⊢
 induction r with
 |nil=>exact .nil
 | @cons p q ps qs h t ih =>
  rw[List.map_cons,List.map_cons];refine .cons ?_ ih;obtain⟨h1,h2⟩:=h;by_cases e:p.1=k
  ·rw[if_pos e,if_pos (h1.symm.trans e)];exact⟨h1,ry⟩
  rw[if_neg e,if_neg (λz=>e (h1.trans z))];exact⟨h1,h2⟩
theorem KV.put(r:KV kvs vs)(k:κ)(ry:RelV y u):KV (cc kvs k y) (stored vs k u):=by
 unfold cc stored;rw[r.any k];by_cases e:(vs.any λkv=>decide (kv.1=k))=true
 ·rw[if_pos e,if_pos e];exact r.repl k ry
 rw[if_neg e,if_neg e];exact Paired.snoc r ⟨rfl,ry⟩
theorem KV.length{kvs:List (κ×V)}{vs:List (κ×Value)}(r:KV kvs vs):kvs.length=vs.length:=Paired.length r
end
theorem gT{w:World}{k:ae}(r:RelV (kV k) u):(bX P w).is k u=true:=by
 cases k with
 |inl i=>obtain⟨t,e⟩:=(show ∃t,u=Value.int i t from r);subst e;exact zZ P w i t
 |inr x=>obtain⟨t,e⟩:=(show ∃t,u=Value.str x t from r);subst e;exact mx P w x t
theorem uH{w:World}:∀{ks:List ae} {us:List Value},az (ks.map kV) us->ItemsAre (bX P w) ks us
 | [],_,r=>by rw[List.map_nil] at r;cases r;exact .nil
 |k::ks,_,r=>by
  rw[List.map_cons] at r
  cases r with
  |cons h t=>exact .cons (gT h) (uH t)
abbrev KT(H:Hp):List (List ae×V)->List (List ae×Addr×Value)->Prop:=Paired λp q=>p.1=q.1/\H q.2.1=some (.tup (p.1.map kV))/\RelV p.2 q.2.2
theorem KT.val{H:Hp}{kvs:List (List ae×V)}{xs:List (List ae×Addr×Value)}(r:KT H kvs xs)(k:List ae):dv (aZ kvs k) ((atKey xs k).map (·.2)):=by
 induction r with
 |nil=>exact True.intro
 | @cons p q ps qs h t ih =>
  obtain⟨h1,_,h2⟩:=h;by_cases e:p.1=k
  ·have e':q.1=k:=h1.symm.trans e;have b:atKey (q::qs) k=some q.2:=by simp[atKey,List.find?_cons,e']
   rw[fH e,b];exact h2
  have e':¬q.1=k:=λz=>e (h1.trans z);have b:atKey (q::qs) k=atKey qs k:=by simp[atKey,List.find?_cons,e']
  rw[fI e,b];exact ih
theorem KT.repl{kvs:List (List ae×V)}{xs:List (List ae×Addr×Value)}(r:KT H kvs xs)(k:List ae)(ry:RelV y u) :
  KT H (kvs.map λkv=>if kv.1=k then(kv.1,y) else kv) (xs.map (putAt k u)):=by
 induction r with
 |nil=>exact .nil
 | @cons p q ps qs h t ih =>
  rw[List.map_cons,List.map_cons];refine .cons ?_ ih;obtain⟨h1,h2,h3⟩:=h;unfold putAt;by_cases e:p.1=k
  ·rw[if_pos e,if_pos (h1.symm.trans e)];exact⟨h1,h2,ry⟩
  rw[if_neg e,if_neg (λz=>e (h1.trans z))];exact⟨h1,h2,h3⟩
theorem KT.put(r:KT H kvs xs)(k:List ae)(hb:H b=some (.tup (k.map kV)))(ry:RelV y u) :
  KT H (cc kvs k y) (storedH xs k b u):=by
 have e:(kvs.any λkv=>decide (kv.1=k))=(atKey xs k).isSome:=by rw[ll,(r.val k).isSome_eq,Option.isSome_map]
 unfold cc storedH;rw[e];by_cases q:(atKey xs k).isSome=true
 ·rw[if_pos q,if_pos q];exact r.repl k ry
 rw[if_neg q,if_neg q];exact Paired.snoc r ⟨rfl,hb,ry⟩
theorem KT.keeps(r:KT H kvs xs)(ht:∀b ys,H b=some (.tup ys)->H' b=some (.tup ys)):KT H' kvs xs:=
 Paired.mapP r λ_ _ z=>⟨z.1,ht _ _ z.2.1,z.2.2⟩
section
variable {P:Program}{w:World}{H:Hp}{h:Heap}{a:Addr}
theorem uI(ok:bJ P w H h)(e:Rd H a u):bI P w H h a u:=e.ok ok
theorem iI{kvs:List (ae×V)}(ok:bJ P w H h)(e:Rd H a (.dK kvs)):kvs.length<=sizeLine/\(a==sysModules)=false/\∃vs,KV kvs vs/\h.DictOf (bX P w) a vs:=
 show bI P w H h a (.dK kvs) from uI ok e
theorem BC{kvs:List (ae×V)}(ok:bJ P w H h)(e:H a=some (.dK kvs)):kvs.length<=sizeLine/\(a==sysModules)=false/\∃vs,KV kvs vs/\h.DictOf (bX P w) a vs:=iI ok (.inl e)
theorem jS{ks:List ae}(ok:bJ P w H h)(e:H a=some (.tup (ks.map kV))):(tupleKind (bX P w)).is h ks a:=by
 obtain⟨_,its,r,⟨o,h1,h2,n,h3⟩,_⟩:=(show bI P w H h a (.tup (ks.map kV)) from ok a _ e)
 exact⟨o,its.toArray,n,h1,h2,h3,by simpa using uH r⟩
theorem je{kvs:List (List ae×V)}(ok:bJ P w H h)(e:Rd H a (.dT kvs)):kvs.length<=sizeLine/\(a==sysModules)=false /\
  ∃xs,KT H kvs xs/\h.DictOfH (tupleKind (bX P w)) a xs:=by
 obtain⟨z,y,xs,r,o,es,ep,h1,h2,h3,h4,h5⟩:=(show bI P w H h a (.dT kvs) from uI ok e)
 refine⟨z,y,xs,r,o,es,ep,h1,h2,h3,h4,λx hx=>?_,h5⟩
 have all:∀{l:List (List ae×V)} {m:List (List ae×Addr×Value)},KT H l m->∀x∈m,(tupleKind (bX P w)).is h x.1 x.2.1:=by
  intro l m q
  induction q with
  |nil=>intro x hx;exact nomatch hx
  | @cons p q ps qs hq t ih =>
   intro x hx;rcases Qx hx with e|hx
   ·subst e;exact jS ok (by rw[<-hq.1];exact hq.2.1)
   exact ih x hx
 exact all r x hx
theorem uJ{kvs:List (List ae×V)}(ok:bJ P w H h)(e:H a=some (.dT kvs)):kvs.length<=sizeLine/\(a==sysModules)=false /\
  ∃xs,KT H kvs xs/\h.DictOfH (tupleKind (bX P w)) a xs:=je ok (.inl e)
end
def b9(H:Hp)(a:Addr)(y:V)(r:Option V):Prop:=
 (∃kvs k,Rd H a (.dK kvs)/\y=kV k/\r=aZ kvs k)∨∃kvs k b,Rd H a (.dT kvs)/\y=.ref b/\H b=some (.tup (k.map kV))/\r=aZ kvs k
def fc(H:Hp)(a:Addr)(y v:V)(H':Hp):Prop:=
 (∃kvs k,H a=some (.dK kvs)/\y=kV k/\kvs.length<sizeLine/\H'=ag H a (.dK (cc kvs k v))) ∨
 ∃kvs k b,H a=some (.dT kvs)/\y=.ref b/\H b=some (.tup (k.map kV))/\kvs.length<sizeLine/\H'=ag H a (.dT (cc kvs k v))
theorem b9.k{H:Hp}{a:Addr}{kvs:List (ae×V)}{k:ae}(e:H a=some (.dK kvs)):b9 H a (kV k) (aZ kvs k):=.inl ⟨kvs,k,.inl e,rfl,rfl⟩
theorem b9.t{H:Hp}{a b:Addr}{kvs:List (List ae×V)}{k:List ae}(e:H a=some (.dT kvs))(eb:H b=some (.tup (k.map kV))):b9 H a (.ref b) (aZ kvs k):=.inr ⟨kvs,k,b,.inl e,rfl,eb,rfl⟩
theorem fc.k{H:Hp}{a:Addr}{kvs:List (ae×V)}{k:ae}{v:V}(e:H a=some (.dK kvs))(hl:kvs.length<sizeLine):fc H a (kV k) v (ag H a (.dK (cc kvs k v))):=.inl ⟨kvs,k,e,rfl,hl,rfl⟩
theorem fc.t{H:Hp}{a b:Addr}{kvs:List (List ae×V)}{k:List ae}{v:V}(e:H a=some (.dT kvs))(eb:H b=some (.tup (k.map kV)))(hl:kvs.length<sizeLine) :
  fc H a (.ref b) v (ag H a (.dT (cc kvs k v))):=.inr ⟨kvs,k,b,e,rfl,eb,hl,rfl⟩
section
variable {X:Cx}{HJ:List (Addr×Obj)}{σ:St}{H:Hp}{s:Shared}{a:Addr}{y v:V}{u r:Value}{o:Option V}{A:Around}{E:Value->Shared->Prop}
theorem Inv.big(I:Inv X HJ σ H s):sysModules<s.heap.objs.size:=by have h:mainGlobals<s.heap.objs.size:=(I.mod.glob.keeps I.bk).lt;exact Nat.lt_trans (by decide) h
theorem BE(hu:A.units+1<cLine)(I:Inv X HJ σ H s)(g:b9 H a y (some v))(ry:RelV y u)(h:∀w' s',Inv X HJ σ H s'->RelV v w'->Q w' s') :
  wpAny (model X.prog X.w) A (getItem (.ref a) u) Q E s:=by
 rcases g with ⟨kvs,k,e,ey,l⟩|⟨kvs,k,b,e,ey,eb,l⟩
 ·subst ey;obtain⟨z,hd,vs,Iu,dd⟩:=iI I.hok e;obtain⟨w',hw,JB⟩:=dv.some_of (v:=v) (o:=valueAt vs k) (by rw[l];exact Iu.val k);exact wpAny_getItem_of (gT ry) dd.mapOf hw (h w' _ (I.tok _) JB)
 subst ey;cases (show u=Value.ref b from ry);obtain⟨z,hd,xs,Iu,dd⟩:=je I.hok e;obtain⟨w',hw,JB⟩:=dv.some_of (v:=v) (o:=(atKey xs k).map (·.2)) (by rw[l];exact Iu.val k);obtain⟨p,hp,JZ⟩:=Option.map_eq_some_iff.mp hw;refine wpAny_getItem_heap (tupleKind_room_in1 hu) (jS I.hok eb) dd hp ?_;rw[JZ];exact h w' _ (I.tok _) JB
theorem BF(hu:A.units+1<cLine)(I:Inv X HJ σ H s)(g:b9 H a y o)(ry:RelV y u)(h:∀s',Inv X HJ σ H s'->Q (.bool o.isSome) s') :
  wpAny (model X.prog X.w) A (compareOp .In u (.ref a)) Q E s:=by
 rcases g with ⟨kvs,k,e,ey,l⟩|⟨kvs,k,b,e,ey,eb,l⟩
 ·subst ey;obtain⟨z,hd,vs,Iu,dd⟩:=iI I.hok e;refine wpAny_in_of (gT ry) hd dd.mapOf ?_;rw[<-(Iu.val k).isSome_eq,<-l];exact h _ (I.tok _)
 subst ey;cases (show u=Value.ref b from ry);obtain⟨z,hd,xs,Iu,dd⟩:=je I.hok e;refine wpAny_in_heap (tupleKind_room_in1 hu) (jS I.hok eb) hd dd ?_;have q:=(Iu.val k).isSome_eq;rw[Option.isSome_map] at q;rw[<-q,<-l];exact h _ (I.tok _)
theorem BG(hu:A.units+1<cLine)(I:Inv X HJ σ H s)(g:b9 H a y o)(ry:RelV y u)(h:∀s',Inv X HJ σ H s'->Q (.bool (!o.isSome)) s') :
  wpAny (model X.prog X.w) A (compareOp .NotIn u (.ref a)) Q E s:=by
 rcases g with ⟨kvs,k,e,ey,l⟩|⟨kvs,k,b,e,ey,eb,l⟩
 ·subst ey;obtain⟨z,hd,vs,Iu,dd⟩:=iI I.hok e;refine wpAny_notIn_of (gT ry) hd dd.mapOf ?_;rw[<-(Iu.val k).isSome_eq,<-l];exact h _ (I.tok _)
 subst ey;cases (show u=Value.ref b from ry);obtain⟨z,hd,xs,Iu,dd⟩:=je I.hok e;refine wpAny_notIn_heap (tupleKind_room_in1 hu) (jS I.hok eb) hd dd ?_;have q:=(Iu.val k).isSome_eq;rw[Option.isSome_map] at q;rw[<-q,<-l];exact h _ (I.tok _)
theorem uK{h':Heap}(I:Inv X HJ σ H s)(mu:kR (H a))(hs:Heap.SameBut a s.heap h')(he:∃q,h'.get? a=some q)(new:bI X.prog X.w (ag H a ob) h' a ob) :
  Inv X HJ σ (ag H a ob) {s with heap:=h',toks:=t'} :=
 I.write (x:=a) (e:=a) mu (.inl rfl) (λb q hb z=>(hs.2 b hb).trans z) he new
theorem uL{w:World}{h':Heap}{kvs:List (ae×V)}(z:kvs.length<=sizeLine)(hd:(a==sysModules)=false)(Iu:KV kvs vs)(dd:h'.DictOf (bX P w) a vs) :
  bI P w H' h' a (.dK kvs):=⟨z,hd,vs,Iu,dd⟩
theorem BH(hu:A.units+1<cLine)(I:Inv X HJ σ H s)(g:fc H a y v H')(ry:RelV y u)(rv:RelV v r)(h:∀s',Inv X HJ σ H' s'->Q () s') :
  wpAny (model X.prog X.w) A (setItem (.ref a) u r) Q E s:=by
 rcases g with ⟨kvs,k,e,ey,l,eH⟩|⟨kvs,k,b,e,ey,eb,l,eH⟩
 ·subst ey eH;obtain⟨z,hd,vs,Iu,dd⟩:=BC I.hok e;have hz:vs.length<=sizeLine:=by rw[<-Iu.length];exact z
  have hl:(cc kvs k v).length<=sizeLine:=by have:=ln kvs k v;lia
  refine wpAny_setItem_pairs (hsz:=hz) (gT ry) dd λh' dd' hs=>h _ ?_;have he:∃q,h'.get? a=some q:=by obtain⟨q,_,_,hq,_⟩:=dd';exact⟨q,hq⟩
  exact uK I (by rw[e];exact True.intro) hs he (uL hl hd (Iu.put k rv) dd')
 subst ey eH;cases (show u=Value.ref b from ry);obtain⟨z,hd,xs,Iu,dd⟩:=uJ I.hok e;have hz:xs.length<=sizeLine:=by rw[<-Paired.length Iu];exact z
 have hl:(cc kvs k v).length<=sizeLine:=by have:=ln kvs k v;lia
 refine wpAny_setItem_heap (hsz:=hz) (tupleKind_room_in1 hu) (jS I.hok eb) dd λh' dd' hs=>h _ ?_;obtain⟨q,es,ep,hq,h2,h3,h4,_,h5⟩:=dd';refine uK I (by rw[e];exact True.intro) hs ⟨q,hq⟩ ⟨hl,hd,_,(Iu.put k eb rv).keeps λc ys ec=>?_,q,es,ep,hq,h2,h3,h4,h5⟩;rw[ay (z0 ec e (λz=>nomatch z))];exact ec
end
section
variable {X:Cx}{HJ:List (Addr×Obj)}{σ:St}{H:Hp}{s:Shared}{a:Addr}{kvs:List (ae×V)}{k:ae}{u:Value}{A:Around}{E:Value->Shared->Prop}
theorem BJ(I:Inv X HJ σ H s)(e:Rd H a (.dK kvs))(h:∀t s',Inv X HJ σ H s'->Q (.int kvs.length t) s'):wpAny (model X.prog X.w) A (call (.builtin "len") [.ref a]) Q E s:=by obtain⟨z,hd,vs,Iu,dd⟩:=iI I.hok e;refine call_len_dict hd dd (by rw[<-Iu.length];rw[sizeLine_eq] at z;lia) ?_;rw[<-Iu.length];exact h _ _ (I.tok _)
end
def uM(i:Expr):Prop:=∀ov iv,subscripted i false ov iv=operate [ov,iv] (getItem ov iv)
theorem BK{prog:Program}{w:World}{A:Around}{E:Value->Shared->Prop}{s:Shared}{env:Env}{value slice:Expr}{pos:Pos}{T id:String}{Q:Value->Shared->Prop}
  (hl:typeLookup (.type T) "__getitem__"=pure (some (.builtin id))) (hs:uM slice)
  (h:wpAny (model prog w) A (eval value env) (λo s₁=>wpAny (model prog w) A (eval slice env) (λi s₂=>s₂.TypeIs o T/\wpAny (model prog w) A (getItem o i) Q E s₂) E s₁) E s) :
  wpAny (model prog w) A (eval (.Subscript value slice pos) env) Q E s:=by
 refine Subscript_ (QV h (λo s₁ h₁=>QV h₁ (λi s₂ h₂=>?_) λ_ _ x=>x) λ_ _ x=>x);obtain⟨hT,h₂⟩:=h₂;unfold subscriptTail;refine Qa ?_;rw[getitemInPython_of_ne hT.not_modules];refine Qa (wpAny_specialOf hT hl ?_);have fin:wpAny (model prog w) A (subscripted slice false o i) (λr s₃=>wpAny (model prog w) A (letTemporaryGo value o r>>=λ_=>pure r) Q E s₃) E s₂:=by rw[hs o i];exact wpAny_operating (QV h₂ (λr s₃ h₃=>Qa (wpAny_letTemporaryGo (Qe h₃))) λ_ _ x=>x)
 first
  |exact Qe (Qa fin)
  |exact Qa (Qe (Qa fin))
  |exact Qa fin
theorem BL{s:Shared}(I:Inv X HJ σ H s)(g:b9 H a y o):s.TypeIs (.ref a) "dict":=by
 rcases g with ⟨kvs,k,e,_,_⟩|⟨kvs,k,b,e,_,_,_⟩
 ·obtain⟨_,_,vs,_,dd⟩:=iI I.hok e;exact dd.typeIs
 obtain⟨_,_,xs,_,dd⟩:=je I.hok e;exact dd.typeIs
def BM(td ty:TE):TE:=λσ H Q=>td σ H λx H1=>ty σ H1 λy H2=>∃a v,x=.ref a/\b9 H2 a y (some v)/\Q v H2
def BO(ty td:TE):TE:=λσ H Q=>ty σ H λy H1=>td σ H1 λx H2=>∃a o,x=.ref a/\b9 H2 a y o/\Q (.bl o.isSome) H2
def BP(ty td:TE):TE:=λσ H Q=>ty σ H λy H1=>td σ H1 λx H2=>∃a o,x=.ref a/\b9 H2 a y o/\Q (.bl (!o.isSome)) H2
def BQ(td ty tv:TE):TS:=λD σ H=>tv σ H λv H1=>td σ H1 λx H2=>ty σ H2 λy H3=>∃a H4,x=.ref a/\fc H3 a y v H4/\D.nx σ H4
section
variable {X:Cx}{o i e value:Expr}{pos IU Lg:Pos}{td ty tv:TE}
theorem lq(hu:X.A.units+1<cLine)(ho:PE X o td)(hi:PE X i ty)(hs:uM i):PE X (.Subscript o i pos) (BM td ty):=by intro HJ s σ H Q I h;refine BK PySem.F.slot_dict_getitem.lookup hs (aA (ho HJ s σ H _ I h) λu s1 ⟨x,H1,I1,rx,q1⟩=>aA (hi HJ s1 σ H1 _ I1 q1) λiv s2 hsl57=>?_);obtain⟨y,H2,I2,ry,a,v,ex,g,q2⟩:=hsl57;subst ex;obtain rfl:u=Value.ref a:=rx;exact⟨BL I2 g,BE hu I2 g ry λw' s3 I3 JB=>⟨v,H2,I3,JB,q2⟩⟩
theorem BR(hu:X.A.units+1<cLine)(hi:PE X i ty)(ho:PE X o td):PC X .In i o (BO ty td):=by
 intro HJ s σ H Q I h;refine aA (hi HJ s σ H _ I h) λiv s1 ⟨y,H1,I1,ry,q1⟩=>aA (ho HJ s1 σ H1 _ I1 q1) λu s2 hsl58=>?_;obtain⟨x,H2,I2,rx,a,ov,ex,g,q2⟩:=hsl58;subst ex;obtain rfl:u=Value.ref a:=rx
 exact BF hu I2 g ry λs3 I3=>⟨.bl ov.isSome,H2,I3,rfl,q2⟩
theorem BS(hu:X.A.units+1<cLine)(hi:PE X i ty)(ho:PE X o td):PC X .NotIn i o (BP ty td):=by
 intro HJ s σ H Q I h;refine aA (hi HJ s σ H _ I h) λiv s1 ⟨y,H1,I1,ry,q1⟩=>aA (ho HJ s1 σ H1 _ I1 q1) λu s2 hsl59=>?_;obtain⟨x,H2,I2,rx,a,ov,ex,g,q2⟩:=hsl59;subst ex;obtain rfl:u=Value.ref a:=rx
 exact BG hu I2 g ry λs3 I3=>⟨.bl (!ov.isSome),H2,I3,rfl,q2⟩
theorem lr(hu:X.A.units+1<cLine)(ho:PE X o td)(hi:PE X i ty)(hv:PE X value tv)(hs:swapsWith value (some (.Subscript o i IU)) pos.line X.env=pure false) :
  PS X (.Assign [.Subscript o i IU] value pos) (BQ td ty tv):=by
 intro HJ s σ H D I h;refine wpAny_Assign_Subscript (aA (hv HJ s σ H _ I h) λr s1 ⟨v,H1,I1,rv,q1⟩=>aA (ho HJ s1 σ H1 _ I1 q1) λu s2 ⟨x,H2,I2,rx,q2⟩=>aA (hi HJ s2 σ H2 _ I2 q2) λiv s3 hsl60=>?_) hs;obtain⟨y,H3,I3,ry,a,H4,ex,g,q3⟩:=hsl60;subst ex;obtain rfl:u=Value.ref a:=rx
 exact BH hu I3 g ry rv λs4 I4=>⟨σ,H4,I4,q3⟩
end
theorem BU{w:World}(h:Heap)(hb:sysModules<h.objs.size):bI P w H (h.push {cls:=.type "dict",data:=.dict #[]}) h.objs.size (.dK []):=
 ⟨Qy _,beq_eq_false_iff_ne.mpr (Ne.symm (QB hb)),[],.nil,Heap.DictOf.new h⟩
theorem BV{w:World}(h:Heap)(hb:sysModules<h.objs.size):bI P w H (h.push {cls:=.type "dict",data:=.dict #[]}) h.objs.size (.dT []):=
 ⟨Qy _,beq_eq_false_iff_ne.mpr (Ne.symm (QB hb)),[],.nil,_,#[],0,Qm _ rfl,⟨rfl,rfl,rfl⟩,rfl,rfl,List.nodup_nil⟩
def BW:TE:=λ_ H Q=>∀p,H p=none->Q (.ref p) (ag H p (.dK []))
def BX:TE:=λ_ H Q=>∀p,H p=none->Q (.ref p) (ag H p (.dT []))
section
variable {X:Cx}{pos:Pos}
theorem mU:PE X (.Dict [] [] pos) BW:=λHJ s σ H Q I h =>
 wpAny_Dict_empty ⟨.ref s.heap.objs.size,_,I.laid (a:=s.heap.objs.size) (o:=.dK []) (t':=s.toks) (λ_ _ q=>Qf _ q) (Qh _) (BU s.heap I.big),rfl,h _ (I.hok.fresh (Qh _))⟩
theorem uN:PE X (.Dict [] [] pos) BX:=λHJ s σ H Q I h =>
 wpAny_Dict_empty ⟨.ref s.heap.objs.size,_,I.laid (a:=s.heap.objs.size) (o:=.dT []) (t':=s.toks) (λ_ _ q=>Qf _ q) (Qh _) (BV s.heap I.big),rfl,h _ (I.hok.fresh (Qh _))⟩
end
structure M2(X:Cx)(o:Expr)(m:Str)(apos:Pos)(e f:Expr)(HW:Pos):Prop where
 base:attributeBase o m X.env (eval o X.env)=eval o X.env
 few:((backTo HW (starEach [e,f] X.env)).all (λx=>!x.1)&&(backToKw HW (keywordEach [] X.env)).all (λx=>x.1.isSome)
  && decide (([e,f]:List Expr).length+([]:List Keyword).length+(if([]:List Keyword).isEmpty then 0 else 1)<30))=true
 line:(apos.endLine==HW.line)=true
 trees:backTo HW (starEach [e,f] X.env)=[(false,eval e X.env),(false,eval f X.env)]
def pZ(H:Hp)(a:Addr):Prop:=(∃kvs,Rd H a (.dK kvs))∨∃kvs,Rd H a (.dT kvs)
theorem BY{s:Shared}(I:Inv X HJ σ H s)(d:pZ H a) :
  s.TypeIs (.ref a) "dict"/\(∀b,Value.ref a=.ref b->∃ob,s.heap.get? b=some ob/\ob.dict=none)/\(a==sysModules)=false:=by
 rcases d with ⟨kvs,e⟩|⟨kvs,e⟩
 ·obtain⟨_,hd,vs,_,dd⟩:=iI I.hok e;refine⟨dd.typeIs,λb q=>?_,hd⟩;cases q;obtain⟨ob,_,_,h1,h2,_⟩:=dd;exact⟨ob,h1,h2.2.1⟩
 obtain⟨_,hd,xs,_,dd⟩:=je I.hok e;refine⟨dd.typeIs,λb q=>?_,hd⟩;cases q;obtain⟨ob,_,_,h1,h2,_⟩:=dd;exact⟨ob,h1,h2.2.1⟩
section
variable {X:Cx}{HJ:List (Addr×Obj)}{σ:St}{H:Hp}{s:Shared}{a:Addr}{y d:V}{u r:Value}{o:Option V}{A:Around}{E:Value->Shared->Prop}
theorem BZ(hu:A.units+1<cLine)(I:Inv X HJ σ H s)(g:b9 H a y o)(ry:RelV y u)(rd:RelV d r)(h:∀w' s',Inv X HJ σ H s'->RelV (o.getD d) w'->Q w' s') :
  wpAny (model X.prog X.w) A (call (.builtin "dict.get") [.ref a,u,r]) Q E s:=by
 rcases g with ⟨kvs,k,e,ey,l⟩|⟨kvs,k,b,e,ey,eb,l⟩
 ·subst ey;obtain⟨z,hd,vs,Iu,dd⟩:=iI I.hok e;refine call_meetsIn PySem.F.slot_dict_get dd.typeIs PySem.F.entry_dict_get (PySem.F.args_dict_get_3 _ _ _) (meets_dict_get_default (bX X.prog X.w) a (gT ry) hd r) ⟨_,dd.mapOf,h _ _ (I.tok _) ?_⟩;rw[l];exact(Iu.val k).getD rd
 subst ey;cases (show u=Value.ref b from ry);obtain⟨z,hd,xs,Iu,dd⟩:=je I.hok e;refine call_meetsIn PySem.F.slot_dict_get dd.typeIs PySem.F.entry_dict_get (PySem.F.args_dict_get_3 _ _ _) (meetsH_dict_get_default (tupleKind (bX X.prog X.w)) a b hd r) ⟨tupleKind_room_in1 hu,k,xs,jS I.hok eb,dd,h _ _ (I.tok _) ?_⟩;rw[l];exact(Iu.val k).getD rd
end
def B0(td ty tx:TE):TE:=λσ H Q=>td σ H λx H1=>∃a,x=.ref a/\pZ H1 a/\ty σ H1 λy H2=>tx σ H2 λz H3=>∃o,b9 H3 a y o/\Q (o.getD z) H3
section
variable {X:Cx}{o e f:Expr}{apos HW:Pos}{td ty tx:TE}
theorem jT(hu:X.A.units+1<cLine)(ho:PE X o td)(he:PE X e ty)(hf:PE X f tx)(m:M2 X o "get" apos e f HW):PE X (.Call (.Attribute o "get" apos) [e,f] [] HW) (B0 td ty tx):=by
 intro HJ s σ H Q I h;refine wpAny_Call_method m.base m.few m.line PySem.F.plainAttrs_dict PySem.F.slot_dict_get PySem.F.type_dict_get (aA (ho HJ s σ H _ I h) λu s1 hsl61=>?_);obtain⟨x,H1,I1,rx,a,ex,d,q1⟩:=hsl61;subst ex;obtain rfl:u=Value.ref a:=rx;obtain⟨t1,t2,_⟩:=BY I1 d;refine⟨t1,t2,?_⟩;rw[m.trees]
 refine Calls.callWith_builtin rfl (Calls.evalArgs_plain (Calls.spliced_cons (aA (he HJ s1 σ H1 _ I1 q1) λiv s2 ⟨y,H2,I2,ry,q2⟩ =>
  Calls.spliced_cons (aA (hf HJ s2 σ H2 _ I2 q2) λfv s3 ⟨z,H3,I3,rz,ov,g,q3⟩=>Calls.spliced_nil ?_))))
 exact BZ hu I3 g ry rz λw' s4 I4 JB=>⟨_,H3,I4,JB,q3⟩
end
section
variable {X:Cx}
theorem B2:dM X (.builtin "len") (λxs H Q=>∃a kvs,xs=[V.ref a]/\H a=some (.dK kvs)/\Q (.int kvs.length) H):=by
 intro HJ s σ H xs us Q I r h;obtain⟨a,kvs,rfl,ha,q⟩:=h;obtain⟨u,rfl,ru⟩:=vals1 r;cases ru
 exact BJ I (.inl ha) λt s' I'=>⟨.int kvs.length,H,I',⟨t,rfl⟩,q⟩
end
end L2
namespace Mm
open PySem L2
theorem jU{X:Cx}(h:X.K=K):iA X (jK K):=by subst h;exact uf
theorem p5:bootBuiltins "tuple"=some (.type "tuple"):=by decide +kernel
theorem mV{xs:List V}(Pv:Nat->List V->Hp->Prop)(h0:Pv 0 [] H)(hl:∀i ys H,i<=xs.length->Pv i ys H->ao K H a xs)
  (hs:∀i x ys H,xs[i]?=some x->Pv i ys H->tt (some x::cE js σ) H λb H2=>if b=true then te (some x::cE js σ) H2 λy H3=>ys.length<sizeLine/\Pv (i+1) (ys++[y]) H3 else Pv (i+1) ys H2)
  (hd:∀ys H,Pv xs.length ys H->∀p,H p=none->Q (.ref p) (ag H p (.lst ys))) :
  iG (io K a) js tt te σ H Q:=by
 refine⟨λi m ys H=>m=xs.length-i/\i<=xs.length/\Pv i ys H,⟨xs.length,by simp,Qy _,h0⟩,?_⟩;rintro i m ys H ⟨rfl,hi,p⟩;have q:=hl i ys H hi p;by_cases HS:i<xs.length
 ·refine .inr ⟨⟨xs,xs[i],q,by simp[HS]⟩,Pv (i+1),λIb H' p'=>⟨xs.length-(i+1),by omega,rfl,HS,p'⟩,λx H' y=>?_⟩;obtain⟨e,y⟩:=y;subst e;exact hs i x ys _ (y xs q) p
 have e:i=xs.length:=by omega
 subst e;exact .inl ⟨⟨xs,q,Qh _⟩,hd ys H p⟩
theorem lu{σ:St}(h:b D (σ.set i (some v)) H):jF (kU (tC v) (aP i)) b D σ H:=h
theorem gU{t u b:TS}(P:St->Hp->Prop)(h1:∀R:St->Hp->Prop,(∀σ' H',P σ' H'->R σ' H')->o4 c t u {D with nx:=R} σ H)(h2:∀σ' H',P σ' H'->b D σ' H'):jF (o4 c t u) b D σ H:=h1 (b D) h2
theorem gW{g:TG}(P:St->Hp->Prop)(h1:∀R:St->Hp->Prop,(∀σ' H',P σ' H'->R σ' H')->o6 wi g tb {D with nx:=R} σ H)(h2:∀σ' H',P σ' H'->b D σ' H'):jF (o6 wi g tb) b D σ H:=h1 (b D) h2
end Mm
namespace L2
open PySem PySem.Spec PyProof.Rows
theorem B3{X:Cx}{K:W.Frag}{es:List Expr}{k:Nat}{pos:Pos}{t:im}{n:Nat}(hK:X.K=K)(hc:X.calm=true)(h:jG X es t)
  (hn:(assignEach es X.env).length=n:=by rfl) (hst:(assignEach es X.env).findIdx? (·.1)=none:=by rfl):PG X (.Tuple es k pos) (mE K n t):=by
 subst hK;exact mF hc h hn hst
section
variable {k:Nat}{js:List Nat}{g:TG}{tt:TT}{te:TE}
theorem mW{K:W.Frag}{a:Addr}{xs:List V}{σ:St}{H:Hp}{Q:VK}(Pv:Nat->List V->Hp->Prop)(h0:Pv 0 [] H)(hl:∀i ys H,i<=xs.length->Pv i ys H->am K H a xs)
  (hs:∀i x ys H,xs[i]?=some x->Pv i ys H->jQ k js g tt te σ ys (Pv (i+1)) x H)
  (hd:∀ys H,Pv xs.length ys H->∀p,H p=none->Q (.ref p) (ag H p (.lst ys))):jR (cL K a) k js g tt te σ H Q:=by
 refine⟨λi m ys H=>m=xs.length-i/\i<=xs.length/\Pv i ys H,⟨xs.length,by simp,Qy _,h0⟩,?_⟩;rintro i m ys H ⟨rfl,hi,p⟩;have q:=hl i ys H hi p;by_cases HS:i<xs.length
 ·refine .inr ⟨⟨xs,xs[i],q,by simp[HS]⟩,Pv (i+1),λIb H' p'=>⟨xs.length-(i+1),by lia,rfl,HS,p'⟩,λx H' y=>?_⟩;obtain⟨e,y⟩:=y;subst e;exact hs i x ys _ (y xs q) p
 have e:i=xs.length:=by lia
 subst e;exact .inl ⟨⟨xs,q,Qh _⟩,hd ys H p⟩
end
section
variable {prog:Program}{w:World}{A:Around}{E:Value->Shared->Prop}{s:Shared}
theorem p6{c t:Addr}(g:s.heap.IsTupleIter c t i)(gt:s.heap.IsTuple t zs)(gx:zs[i]?=some x)
  (k:∀hp,hp.IsTupleIter c t (i+1)->Heap.SameBut c s.heap hp->Q x {s with heap:=hp}):wpAny (model prog w) A (Builtin.SmallTypes.nextOf (.ref c)) Q E s:=by
 have ty:=g.typeIs;obtain⟨o,h1,h2,h3⟩:=id g;obtain⟨q,hq,_,m,hm⟩:=gt;unfold Builtin.SmallTypes.nextOf;refine Qa (wpAny_callSpecial?_slot (name:=Str.ofString "__next__") ty F.slot_tuple_iterator_next (wpAny_call_entry F.slot_tuple_iterator_next ty F.entry_tuple_iterator_next ?_ (F.args_tuple_iterator_next_1 _)));change wpAny _ _ (field (.ref c) 0>>=_) _ _ _;refine Qa (wpAny_field h1 h3 (x:=.ref t) rfl ?_);change wpAny _ _ (if(Value.ref t==Value.none)=true then _ else _) _ _ _;rw[if_neg (by exact Qz)];change wpAny _ _ (field (.ref c) 1>>=_) _ _ _;refine Qa (wpAny_field h1 h3 (x:=.int i 0) rfl ?_);change wpAny _ _ (seqItems? (.ref t)>>=_) _ _ _;refine Qa (wpAny_seqItems hq hm ?_);simp only[QF,gx];have z:=λhp a b=>Qe (M:=model prog w) (A:=A) (E:=E) (k hp a b);refine Qa (wpAny_setField h1 h3 (by simp) (Qe ⟨x,rfl,z _ ⟨_,Heap.get?_update_self _ h1 (Obj.isFreed_of_fields (Obj.data_mapFields h3 _)),(Obj.cls_mapFields ..).trans h2,?_⟩ (Heap.SameBut.update ..)⟩));rw[Obj.data_mapFields h3];simp[rawInt]
theorem uO{c t:Addr}(hh:A.handled=none)(g:s.heap.IsTupleIter c t i)(gt:s.heap.IsTuple t zs)(gx:zs[i]?=none)
  (k:∀hp e,Heap.ExtBut c s.heap hp->(∃o,hp.get? e=some o/\o.cls=.type "StopIteration")->E (.ref e) {s with heap:=hp}):wpAny (model prog w) A (Builtin.SmallTypes.nextOf (.ref c)) Q E s:=by
 have ty:=g.typeIs;obtain⟨o,h1,h2,h3⟩:=id g;obtain⟨q,hq,_,m,hm⟩:=gt;unfold Builtin.SmallTypes.nextOf;refine Qa (wpAny_callSpecial?_slot (name:=Str.ofString "__next__") ty F.slot_tuple_iterator_next (wpAny_call_entry F.slot_tuple_iterator_next ty F.entry_tuple_iterator_next ?_ (F.args_tuple_iterator_next_1 _)));change wpAny _ _ (field (.ref c) 0>>=_) _ _ _;refine Qa (wpAny_field h1 h3 (x:=.ref t) rfl ?_);change wpAny _ _ (if(Value.ref t==Value.none)=true then _ else _) _ _ _;rw[if_neg (by exact Qz)];change wpAny _ _ (field (.ref c) 1>>=_) _ _ _;refine Qa (wpAny_field h1 h3 (x:=.int i 0) rfl ?_);change wpAny _ _ (seqItems? (.ref t)>>=_) _ _ _;refine Qa (wpAny_seqItems hq hm ?_);simp only[QF,gx];refine Qa (wpAny_rule (Qa (wpAny_setField h1 h3 (by simp) ?_)));change wpAny _ _ (newExc (.type "StopIteration") []>>=_) _ _ _;refine Qa ?_;simp only[newTuple,newExc];refine Qa (wpAny_newObj_type ?_ (by size_fits));refine Qa (m:=firstArgMember _ _) (wpAny_of_eq (a:=Value.none) rfl ?_);refine wpAny_newObj_type ?_ (by size_fits);simp only[raiseNew];refine Qa (wpAny_handled ?_)
 first|rw[hh] | rw[show A.in1.handled=none from hh]
 exact Qa (Qe (wpAny_throw (k _ _ (((Heap.SameBut.update ..).extBut.push _).push _) ⟨_,Qm _ rfl,rfl⟩)))
def dh(l:Bool)(h:Heap)(b:Addr)(ys:Array Value):Prop:=∃o,h.get? b=some o/\o.cls=.type (bif l then "list" else "tuple")/\∃n,o.data=.seq ys n
def fJ(l:Bool)(h:Heap)(d b:Addr)(k:Nat):Prop:=∃o,h.get? d=some o/\o.cls=.type (bif l then "list_iterator" else "tuple_iterator")/\o.data=.fields #[.ref b,.int k 0]
def gX(l:Bool)(K:W.Frag)(H:Hp)(b:Addr)(ys:List V):Prop:=bif l then am K H b ys else ao K H b ys
theorem dh.extBut(p:dh l h b ys)(e:Heap.ExtBut c h h')(n:b≠c):dh l h' b ys:=
 let ⟨o,q,r⟩:=p;⟨o,e b o n q,r⟩
theorem fJ.at{l:Bool}{h h':Heap}{d b:Addr}{k:Nat}(p:fJ l h d b k)(e:∀o,h.get? d=some o->h'.get? d=some o):fJ l h' d b k:=
 let ⟨o,q,r⟩:=p;⟨o,e o q,r⟩
theorem fJ.extBut{d b c:Addr}{k:Nat}(p:fJ l h d b k)(e:Heap.ExtBut c h h')(n:d≠c):fJ l h' d b k:=p.at λo r=>e d o n r
theorem B5{c t:Addr}(g:fJ l s.heap c t i)(gt:dh l s.heap t zs)(gx:zs[i]?=some x)
  (k:∀hp,fJ l hp c t (i+1)->Heap.SameBut c s.heap hp->Q x {s with heap:=hp}):wpAny (model prog w) A (Builtin.SmallTypes.nextOf (.ref c)) Q E s:=by
 cases l
 ·exact p6 g gt gx k
 exact wpAny_nextOf_list_item g gt gx k
theorem B6{c t:Addr}(hh:A.handled=none)(g:fJ l s.heap c t i)(gt:dh l s.heap t zs)(gx:zs[i]?=none)
  (k:∀hp e,Heap.ExtBut c s.heap hp->(∃o,hp.get? e=some o/\o.cls=.type "StopIteration")->E (.ref e) {s with heap:=hp}):wpAny (model prog w) A (Builtin.SmallTypes.nextOf (.ref c)) Q E s:=by
 cases l
 ·exact uO hh g gt gx k
 exact wpAny_nextOf_list_end hh g gt gx k
theorem Inv.seqS{X:Cx}{xs:List V}(I:Inv X HJ σ H s)(h:gX l X.K H a xs):∃its:List Value,az xs its/\dh l s.heap a its.toArray/\xs.length<=sizeLine:=by
 cases l
 ·exact I.tuple h
 obtain⟨its,r,⟨o,n,e,c,_,d⟩,z⟩:=I.list h;exact⟨its,r,⟨o,e,c,n,d⟩,z⟩
theorem Inv.seqS_inj{X:Cx}(I:Inv X HJ σ H s)(h:gX l X.K H a xs)(h':gX l X.K H a ys):xs=ys:=by
 cases l
 ·exact I.tuple_inj h h'
 exact I.list_inj h h'
structure ZT(l:Bool)(h:Heap)(z TI TO c d a b:Addr)(k:Nat)(f:Value):Prop where
 zip:IsZip h z TI TO f
 its:IsPair h TI (.ref c) (.ref d)
 own:∃p q,IsPair h TO p q
 fst:h.IsTupleIter c a k
 snd:fJ l h d b k
theorem ZT.zip_item{l:Bool}{z TI TO c d a b:Addr}{k:Nat}{xs ys:Array Value}{x y:Value}{Q:Value->Shared->Prop}(D:ZipApart z TI TO c d a b)(Z:ZT l s.heap z TI TO c d a b k .none)
  (ha:s.heap.IsTuple a xs) (hb:dh l s.heap b ys) (hx:xs[k]?=some x) (hy:ys[k]?=some y)
  (kq:∀hp,ZT l hp z TI TO c d a b (k+1) (rawInt s.heap.objs.size)->IsPair hp s.heap.objs.size x y->(∀e o,e≠z->e≠TO->e≠c->e≠d->s.heap.get? e=some o->hp.get? e=some o)->Q (.ref s.heap.objs.size) {s with heap:=hp}) :
  wpAny (model prog w) A (Builtin.«zip.__next__» ⟨[.ref z],[]⟩) (λfin s'=>∃v,fin=.done (.ret v)/\Q v s') E s:=by
 obtain⟨Zz,Zi,⟨p,q,Zo⟩,Z1,Z2⟩:=Z;change wpAny _ _ (field (.ref z) 2>>=_) _ _ _;refine Qa (wpAny_field Zz rfl (x:=.bool false) rfl ?_);change wpAny _ _ (field (.ref z) 3>>=_) _ _ _;refine Qa (wpAny_field Zz rfl (x:=.ref TI) rfl (Qa (wpAny_seqItems Zi rfl ?_)));change wpAny _ _ (Builtin.SmallTypes.ownedTupleIsFree (.ref z)>>=_) _ _ _;refine Qa ?_;unfold Builtin.SmallTypes.ownedTupleIsFree;refine Qa (wpAny_field Zz rfl (x:=.none) rfl (Qe ?_));simp only[if_true];refine Qa (wpAny_rule (Qa (wpAny_field Zz rfl (x:=.ref TO) rfl ?_)));refine Qa (wpAny_setField_rec Zz (by simp) λg1 Zz1 e1=>?_);have Zz1:IsZip g1 z TI TO .ellipsis:=Zz1;refine Qa ?_;simp only[List.zipIdx_cons,List.zipIdx_nil,List.forIn_cons,List.forIn_nil];refine Qa (Qa (wpAny_onRaise ?_));change wpAny _ _ (Builtin.SmallTypes.nextOf (.ref c)>>=_) _ _ _;refine Qa (p6 (Z1.extBut e1.extBut D.i1z) (ha.extBut e1.extBut D.l1z) hx λg2 Y1 e2=>Qe ?_);have O2:IsPair g2 TO p q:=e2.extBut _ _ D.TOi1 (e1.extBut _ _ D.TOz Zo);refine Qa (wpAny_seqItems O2 rfl (Qa (wpAny_updateSeq_pair O2 λg3 O3 e3=>?_)));have O3:IsPair g3 TO x q:=O3;refine Qa (wpAny_letGo (Qe (Qa (Qa (wpAny_onRaise ?_)))));change wpAny _ _ (Builtin.SmallTypes.nextOf (.ref d)>>=_) _ _ _;refine Qa (B5 (((Z2.extBut e1.extBut D.i2z).extBut e2.extBut D.i12.symm).extBut e3.extBut D.TOi2.symm) (((hb.extBut e1.extBut D.l2z).extBut e2.extBut D.l2i1).extBut e3.extBut D.l2TO) hy λg4 Y2 e4=>Qe ?_);have O4:IsPair g4 TO x q:=e4.extBut _ _ D.TOi2 O3;refine Qa (wpAny_seqItems O4 rfl (Qa (wpAny_updateSeq_pair O4 λg5 O5 e5=>?_)));have O5:IsPair g5 TO x y:=O5;refine Qa (wpAny_letGo (Qe (Qe (Qa (wpAny_seqItems O5 rfl (Qa (wpAny_newTuple ?_)))))));have sz:g5.objs.size=s.heap.objs.size:=by rw[e5.1,e4.1,e3.1,e2.1,e1.1]
 have Zz5:IsZip g5 z TI TO .ellipsis:=e5.extBut _ _ D.TOz.symm (e4.extBut _ _ D.i2z.symm (e3.extBut _ _ D.TOz.symm (e2.extBut _ _ D.i1z.symm Zz1)));have up5:∀e o,e≠z->e≠TO->e≠c->e≠d->s.heap.get? e=some o->g5.get? e=some o:=λe o n1 n2 n3 n4 r=>e5.extBut _ _ n2 (e4.extBut _ _ n4 (e3.extBut _ _ n2 (e2.extBut _ _ n3 (e1.extBut _ _ n1 r))));have Y15:g5.IsTupleIter c a (k+1):=((Y1.extBut e3.extBut D.TOi1.symm).extBut e4.extBut D.i12).extBut e5.extBut D.TOi1.symm;have Y25:fJ l g5 d b (k+1):=Y2.extBut e5.extBut D.TOi2.symm;have zl:z<g5.objs.size:=Qt Zz5;change wpAny _ _ (Builtin.SmallTypes.ownedTupleHandOut (.ref z) (.ref g5.objs.size)>>=_) _ _ _;refine Qa ?_;unfold Builtin.SmallTypes.ownedTupleHandOut;have Zz6:IsZip (g5.push {cls:=.type "tuple",data:=.seq #[x,y]}) z TI TO .ellipsis:=Qf _ Zz5;refine Qa (wpAny_setField_rec Zz6 (by simp) λg7 Zz7 e7=>?_);have Zz7:IsZip g7 z TI TO (rawInt g5.objs.size):=Zz7;refine wpAny_setField_rec Zz7 (by simp) λg8 Zz8 e8=>?_;have Zz8:IsZip g8 z TI TO (rawInt g5.objs.size):=Zz8;have up:∀e o,e≠z->g5.get? e=some o->g8.get? e=some o:=λe o n r=>e8.extBut _ _ n (e7.extBut _ _ n (Qf _ r));have T8:IsPair g8 g5.objs.size x y:=e8.extBut _ _ (Nat.ne_of_gt zl) (e7.extBut _ _ (Nat.ne_of_gt zl) (Qm _ rfl));rw[sz] at Zz8 T8;refine Qe ⟨_,rfl,?_⟩;change Q (.ref g5.objs.size) _;rw[sz];exact kq g8 ⟨Zz8,up _ _ D.TIz (up5 _ _ D.TIz D.TITO D.TIi1 D.TIi2 Zi),⟨_,_,up _ _ D.TOz O5⟩,Y15.at λo r=>up _ o D.i1z r,Y25.at λo r=>up _ o D.i2z r⟩ T8 λe o n1 n2 n3 n4 r=>up e o n1 (up5 e o n1 n2 n3 n4 r)
theorem ZT.zip_end{z TI TO c d a b:Addr}{k:Nat}(hh:A.handled=none)(D:ZipApart z TI TO c d a b)(Z:ZT l s.heap z TI TO c d a b k .none)
  (ha:s.heap.IsTuple a xs) (hb:dh l s.heap b ys) (JN:xs[k]?=none∨ys[k]?=none)
  (kq:∀hp e,(∀e o,e≠z->e≠TO->e≠c->e≠d->s.heap.get? e=some o->hp.get? e=some o)->(∃o,hp.get? e=some o/\o.cls=.type "StopIteration")->E (.ref e) {s with heap:=hp}) :
  wpAny (model prog w) A (Builtin.«zip.__next__» ⟨[.ref z],[]⟩) Q E s:=by
 obtain⟨Zz,Zi,⟨p,q,Zo⟩,Z1,Z2⟩:=Z;change wpAny _ _ (field (.ref z) 2>>=_) _ _ _;refine Qa (wpAny_field Zz rfl (x:=.bool false) rfl ?_);change wpAny _ _ (field (.ref z) 3>>=_) _ _ _;refine Qa (wpAny_field Zz rfl (x:=.ref TI) rfl (Qa (wpAny_seqItems Zi rfl ?_)));change wpAny _ _ (Builtin.SmallTypes.ownedTupleIsFree (.ref z)>>=_) _ _ _;refine Qa ?_;unfold Builtin.SmallTypes.ownedTupleIsFree;refine Qa (wpAny_field Zz rfl (x:=.none) rfl (Qe ?_));simp only[if_true];refine Qa (wpAny_rule (Qa (wpAny_field Zz rfl (x:=.ref TO) rfl ?_)));refine Qa (wpAny_setField_rec Zz (by simp) λg1 Zz1 e1=>?_);have Zz1:IsZip g1 z TI TO .ellipsis:=Zz1;refine Qa ?_;simp only[List.zipIdx_cons,List.zipIdx_nil,List.forIn_cons,List.forIn_nil];refine Qa (Qa (wpAny_onRaise ?_));change wpAny _ _ (Builtin.SmallTypes.nextOf (.ref c)>>=_) _ _ _;have off:∀{hp:Heap} {e:Addr},IsZip hp z TI TO .ellipsis->(∃o,hp.get? e=some o/\o.cls=.type "StopIteration")->e≠z:=λi ⟨o,h1,h2⟩ y=>by subst y;rw[i] at h1;cases h1;simp at h2
 cases hx:xs[k]? with
 |none =>
  refine Qa (uO hh (Z1.extBut e1.extBut D.i1z) (ha.extBut e1.extBut D.l1z) hx λg2 e e2 he=>?_);have Zz2:IsZip g2 z TI TO .ellipsis:=e2 _ _ D.i1z.symm Zz1;have n:=off Zz2 he;obtain⟨oe,he1,he2⟩:=he;exact wpAny_setField_rec Zz2 (by simp) λg3 _ e3=>kq g3 e (λu o n1 _ n3 _ r=>e3.extBut _ _ n1 (e2 _ _ n3 (e1.extBut _ _ n1 r))) ⟨oe,e3.extBut _ _ n he1,he2⟩
 |some x =>
  have hy:ys[k]?=none:=JN.resolve_left (by rw[hx];simp);refine Qa (p6 (Z1.extBut e1.extBut D.i1z) (ha.extBut e1.extBut D.l1z) hx λg2 Y1 e2=>Qe ?_);have O2:IsPair g2 TO p q:=e2.extBut _ _ D.TOi1 (e1.extBut _ _ D.TOz Zo);refine Qa (wpAny_seqItems O2 rfl (Qa (wpAny_updateSeq_pair O2 λg3 O3 e3=>?_)));refine Qa (wpAny_letGo (Qe (Qa (Qa (wpAny_onRaise ?_)))));change wpAny _ _ (Builtin.SmallTypes.nextOf (.ref d)>>=_) _ _ _;refine Qa (B6 hh (((Z2.extBut e1.extBut D.i2z).extBut e2.extBut D.i12.symm).extBut e3.extBut D.TOi2.symm) (((hb.extBut e1.extBut D.l2z).extBut e2.extBut D.l2i1).extBut e3.extBut D.l2TO) hy λg4 e e4 he=>?_);have Zz4:IsZip g4 z TI TO .ellipsis:=e4 _ _ D.i2z.symm (e3.extBut _ _ D.TOz.symm (e2.extBut _ _ D.i1z.symm Zz1));have n:=off Zz4 he;obtain⟨oe,he1,he2⟩:=he;exact wpAny_setField_rec Zz4 (by simp) λg5 _ e5=>kq g5 e (λu o n1 n2 n3 n4 r=>e5.extBut _ _ n1 (e4 _ _ n4 (e3.extBut _ _ n2 (e2.extBut _ _ n3 (e1.extBut _ _ n1 r))))) ⟨oe,e5.extBut _ _ n he1,he2⟩
theorem ZT.next{z TI TO c d a b:Addr}{k:Nat}(D:ZipApart z TI TO c d a b)(Z:ZT l s.heap z TI TO c d a b k .none)
  (ha:s.heap.IsTuple a xs) (hb:dh l s.heap b ys) (hx:xs[k]?=some x) (hy:ys[k]?=some y)
  (kq:∀hp,ZT l hp z TI TO c d a b (k+1) (rawInt s.heap.objs.size)->IsPair hp s.heap.objs.size x y->(∀e o,e≠z->e≠TO->e≠c->e≠d->s.heap.get? e=some o->hp.get? e=some o)->Q (some (.ref s.heap.objs.size)) {s with heap:=hp}) :
  wpAny (model prog w) A (pyNext (.ref z)) Q E s:=by
 have ty:s.TypeIs (.ref z) "zip":=⟨_,Z.zip,rfl⟩
 unfold pyNext;refine Qa (wpAny_attempt (wpAny_callSpecial?_slot (name:=Str.ofString "__next__") ty F.slot_zip_next (wpAny_call_entry F.slot_zip_next ty F.entry_zip_next ?_ (F.args_zip_next_1 _))));exact Z.zip_item D ha hb hx hy λhp p1 p2 p3=>Qe (kq hp p1 p2 p3)
theorem ZT.ends{z TI TO c d a b:Addr}{k:Nat}(hh:A.handled=none)(D:ZipApart z TI TO c d a b)(Z:ZT l s.heap z TI TO c d a b k .none)
  (ha:s.heap.IsTuple a xs) (hb:dh l s.heap b ys) (JN:xs[k]?=none∨ys[k]?=none)
  (kq:∀hp,(∀e o,e≠z->e≠TO->e≠c->e≠d->s.heap.get? e=some o->hp.get? e=some o)->Q none {s with heap:=hp}):wpAny (model prog w) A (pyNext (.ref z)) Q E s:=by
 have ty:s.TypeIs (.ref z) "zip":=⟨_,Z.zip,rfl⟩
 unfold pyNext;refine Qa (wpAny_attempt (wpAny_callSpecial?_slot (name:=Str.ofString "__next__") ty F.slot_zip_next (wpAny_call_entry F.slot_zip_next ty F.entry_zip_next (Z.zip_end hh D ha hb JN λhp e up ⟨o,h1,h2⟩=>?_) (F.args_zip_next_1 _))));exact Qa (wpAny_isInstance (T:="StopIteration") (b:=true) ⟨o,h1,h2⟩ isSubtype_stop (Qe (kq _ up)))
end
noncomputable def jV(l:Bool)(K:W.Frag)(a b:Addr):It:=⟨λi H=>∃xs ys x y,ao K H a xs/\gX l K H b ys/\xs[i]?=some x/\ys[i]?=some y,λi H v H'=>∃(t:Addr) (x y:V),(∀xs,ao K H a xs->xs[i]?=some x)/\(∀ys,gX l K H b ys->ys[i]?=some y)/\H t=none/\v=.ref t/\H'=ag H t (.tup [x,y]),λi H=>∃xs ys,ao K H a xs/\gX l K H b ys/\(xs.length<=i∨ys.length<=i)⟩
theorem B7{l:Bool}{P:Program}{w:World}{K:W.Frag}{elts:List Expr}{n:Nat}{Lg:Pos}{z TI TO c d a b:Addr}(D:ZipApart z TI TO c d a b) :
  fX P w K (.Tuple elts n Lg) (jV l K a b) [z,TI,TO,c,d] z (λi h=>ZT l h z TI TO c d a b i .none) where
 mem:=by simp
 obj:=λi h st e he=>by
  obtain⟨Zz,Zi,⟨p,q,Zo⟩,⟨o1,p1,p2,p3⟩,⟨o2,q1,q2,q3⟩⟩:=st;simp only[List.mem_cons,List.mem_nil_iff,or_false] at he;rcases he with rfl|rfl|rfl|rfl|rfl
  ·exact⟨_,Zz,λv y=>by cases y⟩
  ·exact⟨_,Zi,λv y=>by cases y⟩
  ·exact⟨_,Zo,λv y=>by cases y⟩
  ·exact⟨_,p1,λv y=>by rw[p3] at y;cases y⟩
  exact⟨_,q1,λv y=>by rw[q3] at y;cases y⟩
 keep:=λi h h' st kk=>by obtain⟨Zz,Zi,⟨p,q,Zo⟩,Z1,Z2⟩:=st;exact⟨kk z (by simp) _ Zz,kk TI (by simp) _ Zi,⟨p,q,kk TO (by simp) _ Zo⟩,Z1.at λo r=>kk c (by simp) o r,Z2.at λo r=>kk d (by simp) o r⟩
 item:=by
  intro X hP hw hK hc i HJ s σ H E I hf st hg;subst hP hw hK;obtain⟨xs,ys,x,y,hqx,hqy,hx,hy⟩:=hg;obtain⟨its,rv,pa,hz⟩:=I.tuple hqx;obtain⟨jts,JB,pb,hz'⟩:=I.seqS hqy;obtain⟨u,hu,ru⟩:=rv.get hx;obtain⟨v,hv,rv'⟩:=JB.get hy;refine st.next D (show s.heap.IsTuple a its.toArray from pa) pb (x:=u) (y:=v) (by simpa using hu) (by simpa using hv) λh1 Z1 ht kk=>?_;refine⟨_,rfl,?_⟩
  have lt:∀e∈[z,TI,TO,c,d],e<s.heap.objs.size:=λe he=>by
   obtain⟨Zz,Zi,⟨p,q,Zo⟩,⟨o1,p1,_⟩,⟨o2,q1,_⟩⟩:=st;simp only[List.mem_cons,List.mem_nil_iff,or_false] at he;rcases he with rfl|rfl|rfl|rfl|rfl
   ·exact Qt Zz
   ·exact Qt Zi
   ·exact Qt Zo
   ·exact Qt p1
   exact Qt q1
  refine wpAny_letOwnedTupleGo_zip (s:={s with heap:=h1}) Z1.zip λh2 Zz2 IC=>?_;have IC:Heap.SameBut z h1 h2:=IC;have kk2:∀e o,e∉[z,TI,TO,c,d]->s.heap.get? e=some o->h2.get? e=some o:=λe o n r=>by simp only[List.mem_cons,List.mem_nil_iff,or_false,not_or] at n;exact(IC.2 e n.1).trans (kk e o n.1 n.2.2.1 n.2.2.2.1 n.2.2.2.2 r)
  have hzl:=lt z (by simp);have Iv:h2.get? s.heap.objs.size=some {cls:=.type "tuple",data:=.seq #[u,v]}:=(IC.2 _ (Nat.ne_of_gt hzl)).trans ht;have hT:H s.heap.objs.size=none:=I.fresh
  have I2:Inv X HJ σ (ag H s.heap.objs.size (.tup [x,y])) {s with heap:=h2}:=by
   refine I.call' (ch:=[z,TI,TO,c,d]) rfl ⟨λb o q hn hb hx=>kk2 b o hx q,λb o q hn hb hx=>⟨o.slots,kk2 b o hx q⟩,λb o q hn hx=>?_,λb o q hx=>⟨o,kk2 b o hx q⟩,λb ys q=>?_,λb o v q=>?_,λb ps q=>?_⟩ (λb v q=>?_) I.bare λb hb=>?_
   ·rw[ay (QB (Qt q))];exact hn
   ·rw[ay (eQ q hT)];exact q
   ·rw[ay (eQ q hT)];exact q
   ·exact⟨#[],by rw[ay (eQ q hT)];simpa using q⟩
   ·by_cases hb:b=s.heap.objs.size
    ·subst hb;rw[ah] at q;cases q;exact⟨bg,[u,_],.cons ru (.cons rv' .nil),⟨_,Iv,rfl,_,rfl⟩,_,Iv,rfl⟩
    rw[ay hb] at q;refine(I.hok b v q).stay (λe o hcb r=>kk2 e o (λhe=>?_) r) (λe r=>by rw[ay (eQ r hT)];exact r) λe ys r=>by rw[ay (eQ r hT)];exact r
    have e0:=(hf e he).1;rcases hcb with r|r
    ·subst r;rw[e0] at q;cases q
    rw[e0] at r;cases r
   obtain⟨f0,f1,f2,f3,f4,f5⟩:=hf b hb;exact⟨f3,f1,f4,f5⟩
  refine⟨.ref s.heap.objs.size,_,I2,rfl,⟨_,x,y,λzs hq=>by rw[I.tuple_inj hq hqx];exact hx,λzs hq=>by rw[I.seqS_inj hq hqy];exact hy,hT,rfl,rfl⟩,?_,λe he=>?_⟩
  ·obtain⟨_,Zi,⟨p,q,Zo⟩,Y1,Y2⟩:=Z1;exact⟨Zz2,IC.extBut _ _ D.TIz Zi,⟨p,q,IC.extBut _ _ D.TOz Zo⟩,Y1.extBut IC.extBut D.i1z,Y2.extBut IC.extBut D.i2z⟩
  rw[ay (QB (lt e he))];exact(hf e he).1
 done:=by
  intro X hP hw hK hc i HJ s σ H E I hf st hg;subst hP hw hK;obtain⟨xs,ys,hqx,hqy,hx⟩:=hg;obtain⟨its,rv,pa,hz⟩:=I.tuple hqx;obtain⟨jts,JB,pb,hz'⟩:=I.seqS hqy;have l1:=rv.length;have l2:=JB.length
  refine st.ends (I.ok.hd hc) D (show s.heap.IsTuple a its.toArray from pa) pb ?_ λh' up=>⟨rfl,?_⟩
  ·rcases hx with hx|hx
   ·left;simp;lia
   right;simp;lia
  have kk2:∀e o,e∉[z,TI,TO,c,d]->s.heap.get? e=some o->h'.get? e=some o:=λe o n r=>by simp only[List.mem_cons,List.mem_nil_iff,or_false,not_or] at n;exact up e o n.1 n.2.2.1 n.2.2.2.1 n.2.2.2.2 r
  refine I.call' (s':={s with heap:=h'}) (ch:=[z,TI,TO,c,d]) rfl ⟨λb o q hn hb hx=>kk2 b o hx q,λb o q hn hb hx=>⟨o.slots,kk2 b o hx q⟩,λb o q hn hx=>hn,λb o q hx=>⟨o,kk2 b o hx q⟩,λb ys q=>q,λb o v q=>q,λb ps q=>⟨#[],by simpa using q⟩⟩ (λb v q=>?_) I.bare λb hb=>?_
  ·refine(I.hok b v q).stay (λe o hcb r=>kk2 e o (λhe=>?_) r) (λe r=>r) λe ys r=>r;have e0:=(hf e he).1;rcases hcb with r|r
   ·subst r;rw[e0] at q;cases q
   rw[e0] at r;cases r
  obtain⟨f0,f1,f2,f3,f4,f5⟩:=hf b hb;exact⟨f3,f1,f4,f5⟩
 self:=λ_ _ _ _ _ st h=>wpAny_pyIter_zip st.zip h
section
variable {prog:Program}{w:World}{A:Around}{E:Value->Shared->Prop}{s:Shared}
noncomputable abbrev uP(t:Addr):Obj:={cls:=.type "tuple_iterator",data:=.fields #[.ref t,.int 0 0]}
noncomputable abbrev mX(x y:Value):Obj:={cls:=.type "tuple",data:=.seq #[x,y]}
noncomputable abbrev lv(h:Heap)(a:Addr):Heap:=h.push (uP a)
noncomputable abbrev qa(l:Bool)(t:Addr):Obj:={cls:=.type (bif l then "list_iterator" else "tuple_iterator"),data:=.fields #[.ref t,.int 0 0]}
noncomputable abbrev lw(l:Bool)(h:Heap)(a b:Addr):Heap:=(lv h a).push (qa l b)
noncomputable abbrev lx(l:Bool)(h:Heap)(a b:Addr):Heap:=(lw l h a b).push (mX (.ref h.objs.size) (.ref (lv h a).objs.size))
noncomputable abbrev mY(l:Bool)(h:Heap)(a b:Addr):Heap:=(lx l h a b).push (mX .none .none)
noncomputable abbrev jW(l:Bool)(h:Heap)(a b:Addr):Heap:=(mY l h a b).push {cls:=.type "zip",data:=.fields #[.none,.bool false,.bool false,.ref (lw l h a b).objs.size,.ref (lx l h a b).objs.size]}
theorem B8(l:Bool)(a b:Addr)(xs ys:Array Value) :
  Meets (Builtin.«zip.__new__» ⟨[.type "zip",.ref a,.ref b],[]⟩) (λ_ R s=>s.heap.IsTuple a xs/\dh l s.heap b ys/\R (.ok (.ret (.ref (mY l s.heap a b).objs.size))) {s with heap:=jW l s.heap a b}):=
 .of_wp λprog w A R s h=>by
  obtain⟨hp,g,d,tk,os⟩:=s;obtain⟨ha,hb,h⟩:=h;have JL:=sub_zip;have t1:Heap.IsTuple (Shared.heap ⟨hp,g,d,tk,os⟩) a xs:=ha;cases l
  ·have t2:Heap.IsTuple (Shared.heap ⟨hp.push {cls:=.type "tuple_iterator",data:=.fields #[.ref a,.int 0 0]},g,d,tk,os⟩) b ys:=Heap.IsTuple.push hb _
   wp_walk using wpAny_pyIter_tuple t1,wpAny_pyIter_tuple t2
   exact⟨_,rfl,h⟩
  have t2:Heap.IsList (Shared.heap ⟨hp.push {cls:=.type "tuple_iterator",data:=.fields #[.ref a,.int 0 0]},g,d,tk,os⟩) b ys:=Heap.IsList.push hb _
  wp_walk using wpAny_pyIter_tuple t1,wpAny_pyIter_list t2
  exact⟨_,rfl,h⟩
theorem B9(ha:s.heap.IsTuple a xs)(hb:dh l s.heap b ys)
  (k:∀hp,ZT l hp (s.heap.objs.size+4) (s.heap.objs.size+2) (s.heap.objs.size+3) s.heap.objs.size (s.heap.objs.size+1) a b 0 .none->(∀e o,s.heap.get? e=some o->hp.get? e=some o)->Q (.ref (s.heap.objs.size+4)) {s with heap:=hp}) :
  wpAny (model prog w) A (call (.type "zip") [.ref a,.ref b]) Q E s:=by
 refine callType_new F.called_zip (by decide) (F.typeCall_zip_2 _ _) (F.newCall_zip_2 _ _) (λobj=>F.args_object_init_3 obj _ _) F.entry_zip_new (B8 l a b xs ys) ⟨ha,hb,?_⟩;have up:∀{h:Heap} {e:Addr} {o o':Obj},h.get? e=some o->(h.push o').get? e=some o:=λr=>Qf _ r;have y1:(lv s.heap a).objs.size=s.heap.objs.size+1:=Heap.size_push ..;have y2:(lw l s.heap a b).objs.size=s.heap.objs.size+2:=by rw[Heap.size_push,y1]
 have y3:(lx l s.heap a b).objs.size=s.heap.objs.size+3:=by rw[Heap.size_push,y2]
 have y4:(mY l s.heap a b).objs.size=s.heap.objs.size+4:=by rw[Heap.size_push,y3]
 have g0:(jW l s.heap a b).get? s.heap.objs.size=some (uP a):=up (up (up (up (Qm _ rfl))));have g1:(jW l s.heap a b).get? (lv s.heap a).objs.size=some (qa l b):=up (up (up (Qm _ rfl)));have g2:(jW l s.heap a b).get? (lw l s.heap a b).objs.size=some (mX (.ref s.heap.objs.size) (.ref (lv s.heap a).objs.size)):=up (up (Qm _ rfl));have g3:(jW l s.heap a b).get? (lx l s.heap a b).objs.size=some (mX .none .none):=up (Qm _ rfl);have g4:(jW l s.heap a b).get? (mY l s.heap a b).objs.size=some {cls:=.type "zip",data:=.fields #[.none,.bool false,.bool false,.ref (lw l s.heap a b).objs.size,.ref (lx l s.heap a b).objs.size]}:=Qm _ rfl;rw[y1,y2] at g2;rw[y1] at g1;rw[y3] at g3;rw[y2,y3,y4] at g4;show _/\_;rw[y4];exact⟨⟨_,g4,rfl⟩,k _ ⟨g4,g2,⟨_,_,g3⟩,⟨_,g0,rfl,rfl⟩,⟨_,g1,rfl,rfl⟩⟩ λe o r=>up (up (up (up (up r))))⟩
end
section
variable {X:Cx}
def Ca(l:Bool)(K:W.Frag)(ta:TA):TI:=λσ H R=>ta σ H λvs H1=>∃a b xs ys,vs=[.ref a,.ref b]/\ao K H1 a xs/\gX l K H1 b ys/\R (jV l K a b) H1
theorem uQ(l:Bool){e f:Expr}{ta:TA}{p pos Lg:Pos}{elts:List Expr}{n:Nat}(hg:Gl X "zip")(hm:X.mg "zip"=none)(ha:PA X [e,f] ta)(hs:starEach [e,f] X.env=(false,eval e X.env)::starEach [f] X.env:=by rfl)
  (hp:(backTo pos (starEach [f] X.env)).any (·.1)=false:=by rfl):PI X (.Tuple elts n Lg) (.Call (.Name "zip" p) [e,f] [] pos) (Ca l X.K ta):=by
 intro HJ s σ H R I h;refine Call_ (jC I hg hm boot_zip (PyProof.Rows.callWith_type1 (aA (ha pos HJ s σ H _ I h) λus s1 hsl62=>?_) hs hp));obtain⟨vs,H1,I1,r1,q1⟩:=hsl62;obtain⟨a,b,xs,ys,rfl,hqa,hqb,q⟩:=q1
 cases r1 with
 |cons ra r2 =>
 cases r2 with
 |cons rb r3 =>
 cases r3;cases ra;cases rb;obtain⟨its,rv,pa,hz⟩:=I1.tuple hqa;obtain⟨jts,JB,pb,hz'⟩:=I1.seqS hqb;have pa':s1.heap.IsTuple a its.toArray:=pa;have pb':dh l s1.heap b jts.toArray:=pb;have al:a<s1.heap.objs.size:=by obtain⟨_,r,_⟩:=pa';exact Qt r
 have bl:b<s1.heap.objs.size:=by obtain⟨_,r,_⟩:=pb';exact Qt r
 refine B9 pa' pb' λhp Z kk=>?_;refine wpAny_pyIter_zip (s:={s1 with heap:=hp}) Z.zip ?_;refine⟨_,[s1.heap.objs.size+4,s1.heap.objs.size+2,s1.heap.objs.size+3,s1.heap.objs.size,s1.heap.objs.size+1],_,_,H1,rfl,I1.kept (t':=s1.toks) kk,B7 (zipApart_new al bl),Z,λe he=>?_,q⟩
 have K2:s1.heap.objs.size<=e:=by
  simp only[List.mem_cons,List.mem_nil_iff,or_false] at he
  rcases he with rfl|rfl|rfl|rfl|rfl<;>(show(_:Nat)<=_;lia)
 exact I1.fpOk K2 (I1.hok.fresh K2)
end
theorem Cb{l:Bool}{K:W.Frag}{a b:Addr}{xs ys:List V}{g:TG}{tb:TS}{D:cU}{σ:St}{H:Hp}(Pv:Nat->St->Hp->Prop)(h0:Pv 0 σ H)(hl:∀i σ H,Pv i σ H->ao K H a xs/\gX l K H b ys)
  (hs:∀i x y σ H t,xs[i]?=some x->ys[i]?=some y->Pv i σ H->H t=none->g (.ref t) σ (ag H t (.tup [x,y])) λσ2 H2=>tb {D with nx:=Pv (i+1),ct:=Pv (i+1),bk:=D.nx} σ2 H2) (hd:∀σ H,Pv (min xs.length ys.length) σ H->D.nx σ H) :
  ∃W:Nat->Nat->St->Hp->Prop,(∃m,W 0 m σ H)/\∀i m σ H,W i m σ H ->
   ((jV l K a b).stop i H/\D.nx σ H)∨((jV l K a b).go i H/\∃N:St->Hp->Prop,(∀σ' H',N σ' H'->∃m',m'<m/\W (i+1) m' σ' H')/\∀x H',(jV l K a b).yld i H x H'->g x σ H' λσ2 H2=>tb {D with nx:=N,ct:=N,bk:=D.nx} σ2 H2):=by
 refine⟨λi m σ H=>m=min xs.length ys.length-i/\i<=min xs.length ys.length/\Pv i σ H,⟨min xs.length ys.length,by simp,Qy _,h0⟩,?_⟩;rintro i m σ H ⟨rfl,hi,p⟩;obtain⟨q1,q2⟩:=hl i σ H p;by_cases HS:i<min xs.length ys.length
 ·have hx:i<xs.length:=by omega
  have hy:i<ys.length:=by omega
  refine .inr ⟨⟨xs,ys,xs[i],ys[i],q1,q2,by simp[hx],by simp[hy]⟩,Pv (i+1),λσ' H' p'=>⟨min xs.length ys.length-(i+1),by omega,rfl,HS,p'⟩,λv H' w=>?_⟩;obtain⟨t,x,y,h1,h2,hn,rfl,rfl⟩:=w;exact hs i x y σ _ t (h1 xs q1) (h2 ys q2) p hn
 have e:i=min xs.length ys.length:=by omega
 subst e;exact .inl ⟨⟨xs,ys,q1,q2,by omega⟩,hd σ H p⟩
section
variable {k:Nat}{js:List Nat}{g:TG}{tt:TT}{te:TE}
theorem Cc{l:Bool}{K:W.Frag}{a b:Addr}{xs ys:List V}{σ:St}{H:Hp}{Q:VK}(Pv:Nat->List V->Hp->Prop)(h0:Pv 0 [] H)(hl:∀i zs H,Pv i zs H->ao K H a xs/\gX l K H b ys)
  (hs:∀i x y zs H t,xs[i]?=some x->ys[i]?=some y->Pv i zs H->H t=none->jQ k js g tt te σ zs (Pv (i+1)) (.ref t) (ag H t (.tup [x,y])))
  (hd:∀zs H,Pv (min xs.length ys.length) zs H->∀p,H p=none->Q (.ref p) (ag H p (.lst zs))):jR (jV l K a b) k js g tt te σ H Q:=by
 refine⟨λi m zs H=>m=min xs.length ys.length-i/\i<=min xs.length ys.length/\Pv i zs H,⟨min xs.length ys.length,by simp,Qy _,h0⟩,?_⟩;rintro i m zs H ⟨rfl,hi,p⟩;have q:=hl i zs H p;by_cases HS:i<min xs.length ys.length
 ·have h1:i<xs.length:=by lia
  have h2:i<ys.length:=by lia
  refine .inr ⟨⟨xs,ys,xs[i],ys[i],q.1,q.2,by simp[h1],by simp[h2]⟩,Pv (i+1),λzs' H' p'=>⟨min xs.length ys.length-(i+1),by lia,rfl,HS,p'⟩,λv H' w=>?_⟩;obtain⟨t,x,y,hx,hy,ht,rfl,rfl⟩:=w;exact hs i x y zs H t (hx xs q.1) (hy ys q.2) p ht
 have e:i=min xs.length ys.length:=by lia
 subst e;exact .inl ⟨⟨xs,ys,q.1,q.2,by lia⟩,hd zs H p⟩
end
theorem Cd:typeLookup (.type "list") "keys"=pure none:=by rw[typeLookup_type,builtinLookup_eq_fast];kernel_rfl
theorem Ce:typeLookup (.type "list") "__getattr__"=pure none:=by rw[typeLookup_type,builtinLookup_eq_fast];kernel_rfl
section
variable {prog:Program}{w:World}{A:Around}{E:Value->Shared->Prop}{h:Heap}{g:Array GenState}{d:Drawn}{t:Nat}{os:OsState}{a:Addr}{its:Array Value}{nn:Nat}{sl:Array (Option Value)}
noncomputable abbrev mZ(its:Array Value)(nn:Nat)(sl:Array (Option Value)):Obj:={cls:=.type "list",dict:=none,data:=.seq its nn,slots:=sl}
theorem Cf(hx:h.get? a=some (mZ its nn sl))(hh:A.handled=none)
  (hq:∀hp tk e,Heap.NewAttrErr h hp e (.ref a) "keys"->E (.ref e) ⟨hp,g,d,tk,os⟩):wpAny (model prog w) A (Builtin.«object.__getattribute__» ⟨[.ref a,.str "keys" tk],[]⟩) Q E ⟨h,g,d,t,os⟩:=by
 have hT:(⟨h,g,d,t,os⟩:Shared).TypeIs (.ref a) "list":=⟨_,hx,rfl⟩
 have f4:=Cd
 repeat (any_goals (first|assumption|wp_step))
 exact wpAny_raiseAttrError hh hq (attrMsg_fits (by decide +kernel) (by decide +kernel))
theorem Cg(hx:h.get? a=some (mZ its nn sl))(hh:A.handled=none)(hq:∀hp tk e,Heap.NewAttrErr h hp e (.ref a) "keys"->R (.error (.ref e)) ⟨hp,g,d,tk,os⟩) :
  codeAny (model prog w) A (.call (.builtin "list.__getattribute__") ⟨[.ref a,.str "keys" tk],[]⟩) R ⟨h,g,d,t,os⟩:=by
 refine codeAny_call_builtin F.slot_list_getattribute.plain F.entry_list_ga (F.slot_list_getattribute.check _ _ _ _ _ _ _ _ (show(⟨h,g,d,t,os⟩:Shared).TypeIs (.ref a) "list" from⟨_,hx,rfl⟩) (F.args_list_getattribute_2 _ _) (Cf hx (by simpa using hh) hq))
theorem Ch(hx:h.get? a=some (mZ its nn sl))(hh:A.handled=none)(hq:∀hp tk e,Heap.NewAttrErr h hp e (.ref a) "keys"->E (.ref e) ⟨hp,g,d,tk,os⟩) :
  wpAny (model prog w) A (getAttrBy (.ref a) (.str "keys" tk) false) Q E ⟨h,g,d,t,os⟩:=by
 have hT:(⟨h,g,d,t,os⟩:Shared).TypeIs (.ref a) "list":=⟨_,hx,rfl⟩
 have f1:=sub_AttributeError;have f2:=F.slot_list_getattribute.lookup;have f3:=F.slot_list_getattribute.bind (.ref a);have f5:=Ce;unfold getAttrBy
 repeat (any_goals (first|assumption|wp_step))
 refine Cg hx hh λhp tk' e hn=>?_;obtain⟨t',u',he⟩:=hn.there;show wpAny _ _ (getattributeRaised _ _ _ _ _ _ _) _ _ _;unfold getattributeRaised
 repeat (any_goals (first|assumption|wp_step))
 exact hq _ _ _ hn
theorem Ci(hx:h.get? a=some (mZ its nn sl))(hh:A.handled=none)(hq:∀hp tk e,Heap.NewAttrErr h hp e (.ref a) "keys"->Q none ⟨hp,g,d,tk,os⟩) :
  wpAny (model prog w) A (getAttr? (.ref a) "keys") Q E ⟨h,g,d,t,os⟩:=by
 unfold getAttr? getAttrBy?;refine Qa (wpAny_mkText (Qa (wpAny_attempt (Ch hx hh λhp tk' e hn=>?_))));obtain⟨t',u',he⟩:=hn.there;have f1:=sub_AttributeError
 repeat (any_goals (first|assumption|wp_step))
 exact hq _ _ _ hn
end
theorem Cj:typeLookup (.type "tuple") "keys"=pure none:=by rw[typeLookup_type,builtinLookup_eq_fast];kernel_rfl
theorem Ck:typeLookup (.type "tuple") "__getattr__"=pure none:=by rw[typeLookup_type,builtinLookup_eq_fast];kernel_rfl
section
variable {prog:Program}{w:World}{A:Around}{E:Value->Shared->Prop}{h:Heap}{g:Array GenState}{d:Drawn}{t:Nat}{os:OsState}{a:Addr}{its:Array Value}{nn:Nat}{sl:Array (Option Value)}
noncomputable abbrev m4(its:Array Value)(nn:Nat)(sl:Array (Option Value)):Obj:={cls:=.type "tuple",dict:=none,data:=.seq its nn,slots:=sl}
theorem Cm(hx:h.get? a=some (m4 its nn sl))(hh:A.handled=none)
  (hq:∀hp tk e,Heap.NewAttrErr h hp e (.ref a) "keys"->E (.ref e) ⟨hp,g,d,tk,os⟩):wpAny (model prog w) A (Builtin.«object.__getattribute__» ⟨[.ref a,.str "keys" tk],[]⟩) Q E ⟨h,g,d,t,os⟩:=by
 have hT:(⟨h,g,d,t,os⟩:Shared).TypeIs (.ref a) "tuple":=⟨_,hx,rfl⟩
 have f4:=Cj
 repeat (any_goals (first|assumption|wp_step))
 exact wpAny_raiseAttrError hh hq (attrMsg_fits (by decide +kernel) (by decide +kernel))
theorem Cn(hx:h.get? a=some (m4 its nn sl))(hh:A.handled=none)(hq:∀hp tk e,Heap.NewAttrErr h hp e (.ref a) "keys"->R (.error (.ref e)) ⟨hp,g,d,tk,os⟩) :
  codeAny (model prog w) A (.call (.builtin "tuple.__getattribute__") ⟨[.ref a,.str "keys" tk],[]⟩) R ⟨h,g,d,t,os⟩:=by
 refine codeAny_call_builtin F.slot_tuple_getattribute.plain F.entry_tuple_ga (F.slot_tuple_getattribute.check _ _ _ _ _ _ _ _ (show(⟨h,g,d,t,os⟩:Shared).TypeIs (.ref a) "tuple" from⟨_,hx,rfl⟩) (F.args_tuple_getattribute_2 _ _) (Cm hx (by simpa using hh) hq))
theorem Co(hx:h.get? a=some (m4 its nn sl))(hh:A.handled=none)(hq:∀hp tk e,Heap.NewAttrErr h hp e (.ref a) "keys"->E (.ref e) ⟨hp,g,d,tk,os⟩) :
  wpAny (model prog w) A (getAttrBy (.ref a) (.str "keys" tk) false) Q E ⟨h,g,d,t,os⟩:=by
 have hT:(⟨h,g,d,t,os⟩:Shared).TypeIs (.ref a) "tuple":=⟨_,hx,rfl⟩
 have f1:=sub_AttributeError;have f2:=F.slot_tuple_getattribute.lookup;have f3:=F.slot_tuple_getattribute.bind (.ref a);have f5:=Ck;unfold getAttrBy
 repeat (any_goals (first|assumption|wp_step))
 refine Cn hx hh λhp tk' e hn=>?_;obtain⟨t',u',he⟩:=hn.there;show wpAny _ _ (getattributeRaised _ _ _ _ _ _ _) _ _ _;unfold getattributeRaised
 repeat (any_goals (first|assumption|wp_step))
 exact hq _ _ _ hn
theorem Cp(hx:h.get? a=some (m4 its nn sl))(hh:A.handled=none)(hq:∀hp tk e,Heap.NewAttrErr h hp e (.ref a) "keys"->Q none ⟨hp,g,d,tk,os⟩) :
  wpAny (model prog w) A (getAttr? (.ref a) "keys") Q E ⟨h,g,d,t,os⟩:=by
 unfold getAttr? getAttrBy?;refine Qa (wpAny_mkText (Qa (wpAny_attempt (Co hx hh λhp tk' e hn=>?_))));obtain⟨t',u',he⟩:=hn.there;have f1:=sub_AttributeError
 repeat (any_goals (first|assumption|wp_step))
 exact hq _ _ _ hn
end
theorem uR:entryFor table "dict.update.loop"=some Builtin.«dict.update.loop»:=entryFor_of_tree (by kernel_rfl)
theorem m5:plainId "dict.update.loop"=true:=by decide +kernel
noncomputable def f8(ps:List (ae×Value)):List (ae×Value):=ps.foldl (λq p=>stored q p.1 p.2) []
theorem Cq(ps:List (ae×Value))(p:ae×Value):f8 (ps++[p])=stored (f8 ps) p.1 p.2:=by unfold f8;rw[List.foldl_append];rfl
section
variable {prog:Program}{w:World}{A:Around}{E:Value->Shared->Prop}{s:Shared}{R:Result->Shared->Prop}{I:Addr}{fp wr:List Addr}{G:Array GenState->Array GenState->Prop}{n:Nat}{P:Nat->Value->Prop}{St:Nat->Shared->Prop}
theorem Cr(W:WalksS prog w A.in1 I fp wr G n P St)(S:Addr)(hSf:S∉fp)(ps:List (ae×Value))(hn:ps.length=n)(tp:Nat->Addr)(kyv:Nat->Value)(hky:∀i p,ps[i]?=some p->(bX prog w).is p.1 (kyv i)=true)
  (IH:∀i v,P i v->v=.ref (tp i)) (hw:∀i,tp i∉wr/\tp i≠S) (hsz:∀i,(f8 (ps.take i)).length<=sizeLine) :
  ∀(k i:Nat) (j:Tok) (s:Shared),n-i=k->i<=n->St i s->s.heap.DictOf (bX prog w) S (f8 (ps.take i))->(∀i p,ps[i]?=some p->s.heap.IsTuple (tp i) #[kyv i,p.2]) ->
   (∀s',Moved (S::wr) G s s'->s'.heap.DictOf (bX prog w) S (f8 ps)->R (.ok (.ret .none)) s') ->
   codeAny (model prog w) A (.builtin "dict.update.loop" ⟨[.ref S,.ref I,.int i j,.none],[]⟩) R s:=by
 have hSw:S∉wr:=λh=>hSf (W.sub _ h);have JL:∀b∈wr,b∈S::wr:=λb hb=>QG _ hb;have dk:∀{s s':Shared} {q},Moved wr G s s'->s.heap.DictOf (bX prog w) S q->s'.heap.DictOf (bX prog w) S q:=λhm hD=>by obtain⟨o,es,ep,ho,HN⟩:=hD;exact⟨o,es,ep,hm.heap S _ hSw ho,HN⟩
 intro k
 induction k with
 |zero =>
  intro i j s hk hi hst hS hT hR;have KJ:i=n:=by lia
  subst KJ;refine codeAny_builtin uR ?_;rw[Around.under_plainId m5 _];show wpAny _ A.in1 (pyNext (.ref I)>>=_) _ _ s;refine Qa (W.done s _ _ hst λs' hm=>?_);show wpAny _ _ (Builtin.Dict.addKeywords S []>>=_) _ _ _;refine Qa (Qe (Qe (hR s' (hm.mono JL) ?_)));rw[QC (by lia)] at hS;exact dk hm hS
 |succ k ih =>
  intro i j s hk hi hst hS hT hR;have HS:i<n:=by lia
  have hip:i<ps.length:=by lia
  refine codeAny_builtin uR ?_;rw[Around.under_plainId m5 _];show wpAny _ A.in1 (pyNext (.ref I)>>=_) _ _ s;refine Qa (W.item i s _ _ HS hst λv s' hP Jb hm=>?_);obtain rfl:=IH i v hP;have hT1:∀i p,ps[i]?=some p->s'.heap.IsTuple (tp i) #[kyv i,p.2]:=λi p h=>(hT i p h).at λo r=>hm.heap _ o (hw i).1 r;have hti:=hT1 i ps[i] (Qb hip);have hky:=hky i ps[i] (Qb hip);refine Qa (wpAny_holding (Qa (wpAny_tryCatch ?_)));unfold Builtin.Dict.pairItems;refine Qa (wpAny_typeOf hti.typeIs ?_);obtain⟨ot,h1,h2,nt,h3⟩:=id hti;rw[if_pos (by decide)];refine Qa (wpAny_seqItems h1 h3 (Qe ?_));show wpAny _ _ (holding [kyv i,ps[i].2] (dictSet S (kyv i) ps[i].2)) _ _ _;refine wpAny_holding (wpAny_dictSet_pairs (hsz:=hsz i) hky (dk hm hS) λh' dd hs=>?_);rw[<-Cq,<-Qo hip] at dd;refine Qe ⟨plainId_quiet m5 _,ih (i+1) _ _ (by lia) HS (W.frame _ s' _ _ Jb (Nat.le_succ _) λb hb o e=>?_) dd (λi p h=>(hT1 i p h).at λo r=>?_) λs2 hm2 Ka=>?_⟩
  ·rw[hs.2 b (λh:b=S=>hSf (by rw[<-h];exact hb))];exact e
  ·exact(hs.2 _ (hw i).2).trans r
  refine hR s2 (Moved.trans W.gtrans ((hm.mono JL).then_heap (Nat.le_succ _) λb o hb e=>?_) hm2) Ka;rw[hs.2 b (λh:b=S=>hb (by rw[h];exact QK))];exact e
end
theorem dh.at{l:Bool}{h h':Heap}{b:Addr}{ys:Array Value}(p:dh l h b ys)(e:∀o,h.get? b=some o->h'.get? b=some o):dh l h' b ys:=
 let ⟨o,q,r⟩:=p;⟨o,e o q,r⟩
theorem Cs{w:World}{s:Shared}(h:dh l s.heap a its)(hq:Q (.ref s.heap.objs.size) {s with heap:=s.heap.push (qa l a)}):wpAny (model prog w) A (pyIter (.ref a)) Q E s:=by
 cases l
 ·exact wpAny_pyIter_tuple h hq
 exact wpAny_pyIter_list h hq
theorem Cu(l:Bool){w:World}{A:Around}(hh:A.handled=none)(I ax:Addr)(HL:ax≠I)(items:Array Value) :
  Walks prog w A I [I,ax] [I] items.size (λi v=>items[i]?=some v) (λi h=>fJ l h I ax i/\dh l h ax items):=by
 cases l
 ·exact .tuple hh I ax HL items
 exact .list hh I ax HL items
section
variable {prog:Program}{w:World}{A:Around}{E:Value->Shared->Prop}{s:Shared}
noncomputable abbrev qb(l:Bool)(its:Array Value)(nn:Nat)(sl:Array (Option Value)):Obj:={cls:=.type (bif l then "list" else "tuple"),dict:=none,data:=.seq its nn,slots:=sl}
noncomputable abbrev jX:Obj:={cls:=.type "dict",data:=.dict #[]}
theorem Cv{items:Array Value}(hl:s.heap.get? l=some (qb c items nn sl))(hh:A.handled=none)(ps:List (ae×Value))(tp:Nat->Addr)(kyv:Nat->Value)
  (HM:ps.length=items.size) (hky:∀i p,ps[i]?=some p->(bX prog w).is p.1 (kyv i)=true) (Lc:∀(i:Nat) (v:Value),items[i]?=some v->v=.ref (tp i)) (Ji:∀i,tp i<s.heap.objs.size) (hsz:∀i,(f8 (ps.take i)).length<=sizeLine)
  (hT:∀i p,ps[i]?=some p->s.heap.IsTuple (tp i) #[kyv i,p.2])
  (k:∀(hp:Heap) (tk:Nat),hp.DictOf (bX prog w) s.heap.objs.size (f8 ps)->(∀b o,s.heap.get? b=some o->hp.get? b=some o)->Q (.ref s.heap.objs.size) {s with heap:=hp,toks:=tk}) :
  wpAny (model prog w) A (call (.type "dict") [.ref l]) Q E s:=by
 refine callType_codes (Q₁:=λobj s₁=>obj=.ref s.heap.objs.size/\s₁={s with heap:=s.heap.push jX}) F.kt_called_dict (F.kt_typeCall_dict_1 _) F.entry_dict_init (kt_code_dict_new _ ⟨rfl,rfl⟩) ?_;rintro obj s₁ ⟨rfl,rfl⟩;have hnew:(s.heap.push jX).DictOf (bX prog w) s.heap.objs.size []:=Heap.DictOf.new s.heap;have Kt:(s.heap.push jX).get? l=some (qb c items nn sl):=Qf _ hl;have hll:l<s.heap.objs.size:=Qt hl;refine⟨hnew.typeIs,F.args_dict_init_2 _ _,?_⟩;unfold Builtin.«dict.__init__»;refine Qa ?_;unfold Builtin.Dict.selfAndRest;refine Qa (wpAny_notOrdered_dict hnew.typeIs (Qe ?_));change wpAny _ _ (Builtin.Dict.updateFrom "dict.__init__" s.heap.objs.size (.ref l) [] .none) _ _ _;unfold Builtin.Dict.updateFrom
 have ty:Shared.TypeIs {s with heap:=s.heap.push jX} (.ref l) (bif c then "list" else "tuple"):=⟨_,Kt,rfl⟩
 refine Qa (wpAny_typeOf ty ?_);rw[if_pos (by cases c<;>decide)]
 have kn:∀{Q:Option Value->Shared->Prop} {E:Value->Shared->Prop},(∀hp tk e,Heap.NewAttrErr (s.heap.push jX) hp e (.ref l) "keys"->Q none ⟨hp,s.gens,s.drawn,tk,s.os⟩)->wpAny (model prog w) A.in1.in1 (getAttr? (.ref l) "keys") Q E {s with heap:=s.heap.push jX}:=λhq=>by
  cases c
  ·exact Cp Kt (by simpa using hh) hq
  exact Ci Kt (by simpa using hh) hq
 refine Qa (kn λhp tk e hn=>?_);have kp:∀b o,s.heap.get? b=some o->hp.get? b=some o:=λb o r=>hn.keeps b o (Qf _ r);have hD:hp.DictOf (bX prog w) s.heap.objs.size []:=by obtain⟨o,es,ep,ho,HN⟩:=hnew;exact⟨o,es,ep,hn.keeps _ _ ho,HN⟩
 have hSl:s.heap.objs.size<hp.objs.size:=by obtain⟨o,es,ep,ho,HN⟩:=hD;exact Qt ho
 rw[if_pos (by rfl)];refine Qa (wpAny_rule ?_)
 have hlp:dh c hp l items:=⟨_,kp _ _ hl,rfl,nn,rfl⟩
 refine Qa (Cs (s:=⟨hp,s.gens,s.drawn,tk,s.os⟩) hlp ?_);refine Qe ⟨plainId_quiet m5 _,?_⟩;have hneI:l≠hp.objs.size:=QB (Nat.lt_trans hll hSl);have hSf:s.heap.objs.size∉[hp.objs.size,l]:=by simp only[List.mem_cons,List.mem_singleton,List.not_mem_nil,or_false,not_or];exact⟨QB hSl,Nat.ne_of_gt hll⟩
 have W:=(Cu c (prog:=prog) (w:=w) (A:=A.in1.in1) (by simp[hh]) hp.objs.size l hneI items).toS;refine Cr W s.heap.objs.size hSf ps HM tp kyv hky Lc (λi=>?_) hsz (items.size-0) 0 0 _ (by lia) (Qy _) ⟨⟨_,Qm _ rfl,rfl,rfl⟩,hlp.at λo r=>Qf _ r⟩ ?_ (λi p h=>((hT i p h).at λo r=>kp _ o r).push _) λs' hm Ki=>?_
 ·refine⟨?_,QB (Ji i)⟩;simp only[List.mem_cons,List.mem_singleton,List.not_mem_nil,or_false];exact QB (Nat.lt_trans (Ji i) hSl)
 ·obtain⟨o,es,ep,ho,HN⟩:=hD;exact⟨o,es,ep,Qf _ ho,HN⟩
 obtain⟨h',g',d',tk',K5⟩:=s';have eg:g'=s.gens:=hm.gens;have ed:d'=s.drawn:=hm.drawn;have eo:K5=s.os:=hm.os;subst eg;subst ed;subst eo;refine⟨rfl,k h' tk' Ki λb o r=>?_⟩;have hb:b<s.heap.objs.size:=Qt r;refine hm.heap b o ?_ (Qf _ (kp b o r));simp only[List.mem_cons,List.mem_singleton,List.not_mem_nil,or_false,not_or];exact⟨QB hb,QB (Nat.lt_trans hb hSl)⟩
end
theorem qc:bootBuiltins "dict"=some (.type "dict"):=by decide +kernel
noncomputable def eR(ps:List (ae×V)):List (ae×V):=ps.foldl (λq p=>cc q p.1 p.2) []
theorem qg(ps:List (ae×V)):(eR ps).length<=ps.length:=by
 have go:∀(ps:List (ae×V)) (q:List (ae×V)),(ps.foldl (λq p=>cc q p.1 p.2) q).length<=q.length+ps.length:=λps=>by
  induction ps with
  |nil=>intro q;simp
  |cons p ps ih=>intro q;have h1:=ih (cc q p.1 p.2);have h2:=ln q p.1 p.2;simp only[List.foldl_cons,QU];lia
 simpa [eR] using go ps []
theorem uS:∀{ps:List (ae×V)} {qs:List (ae×Value)},ps.length=qs.length->(∀(i:Nat) (p:ae×V) (q:ae×Value),ps[i]?=some p->qs[i]?=some q->p.1=q.1/\RelV p.2 q.2)->KV (eR ps) (f8 qs):=by
 have go:∀ (ps:List (ae × V)) (qs:List (ae × Value)) (a:List (ae × V)) (b:List (ae × Value)),KV a b->ps.length=qs.length->(∀ (i:Nat) (p:ae × V) (q:ae × Value),ps[i]?=some p->qs[i]?=some q->p.1=q.1/\RelV p.2 q.2) ->
   KV (ps.foldl (λq p=>cc q p.1 p.2) a) (qs.foldl (λq p=>stored q p.1 p.2) b):=λps=>by
  induction ps with
  |nil=>intro qs a b h hl _;cases qs with|nil=>exact h|cons _ _=>simp at hl
  |cons p ps ih =>
   intro qs a b h hl hr
   cases qs with
   |nil=>simp at hl
   |cons q qs =>
    obtain⟨e,r⟩:=hr 0 p q rfl rfl;simp only[List.foldl_cons];refine ih qs _ _ ?_ (by simpa using hl) λi p' q' h1 h2=>hr (i+1) p' q' (by simpa using h1) (by simpa using h2);rw[e];exact h.put q.1 r
 intro ps qs hl hr;exact go ps qs [] [] .nil hl hr
section
variable {X:Cx}
theorem qh(c:Bool)(hc:X.calm=true):dM X (.type "dict") (λxs H Q=>∃(l:Addr) (ts:List Addr) (ps:List (ae×V)),xs=[V.ref l]/\H l=some (bif c then .lst (ts.map V.ref) else .tup (ts.map V.ref))/\ts.length=ps.length /\
  (∀(i:Nat) (t:Addr) (p:ae×V),ts[i]?=some t->ps[i]?=some p->H t=some (.tup [kV p.1,p.2]))/\∀q,H q=none->Q (.ref q) (ag H q (.dK (eR ps)))):=by
 intro HJ s σ H xs us Q I r h;obtain⟨l,ts,ps,rfl,hl,htl,hat,kq⟩:=h;obtain⟨u,rfl,ru⟩:=vals1 r;cases (show u=Value.ref l from ru)
 obtain⟨its,rv,n,sl,ho,hz⟩:∃its,az (ts.map V.ref) its/\∃n sl,s.heap.get? l=some (qb c its.toArray n sl)/\(ts.map V.ref).length<=sizeLine:=by
  cases c
  ·obtain⟨hz,its,rv,⟨o,ho,IM,n,hda⟩,o2,Ks,hd⟩:=(show bI X.prog X.w H s.heap l (.tup (ts.map V.ref)) from I.hok l _ hl)
   rw[ho] at Ks;cases Ks;obtain⟨ocls,Lo,odata,Kl⟩:=o;simp only at IM hd hda;subst IM;subst hd;subst hda;exact⟨its,rv,n,_,ho,hz⟩
  obtain⟨its,rv,⟨o,n,ho,IM,hd,hda⟩,hz⟩:=I.list (am.of hl);obtain⟨ocls,Lo,odata,Kl⟩:=o;simp only at IM hd hda;subst IM;subst hd;subst hda;exact⟨its,rv,n,_,ho,hz⟩
 have Il:its.length=ts.length:=by rw[<-rv.length,Qg]
 obtain⟨tp,htpe⟩:∃tp:Nat->Addr,∀i,tp i=ts.getD i l:=⟨_,λ_=>rfl⟩
 have pr:∀i:Nat,∃q:Value×Value,i<ps.length->its[i]?=some (.ref (tp i))/\IsTup s.heap (tp i) #[q.1,q.2]/\∀p,ps[i]?=some p->RelV (kV p.1) q.1/\RelV p.2 q.2:=λi=>by
  by_cases hi:i<ps.length
  ·have hti:i<ts.length:=by lia
   have h1:ts[i]?=some ts[i]:=Qb hti;have h2:ps[i]?=some ps[i]:=Qb hi;have et:tp i=ts[i]:=by rw[htpe,Qd,h1];rfl
   obtain⟨v,hv,rvv⟩:=rv.get (i:=i) (x:=.ref ts[i]) (by rw[Qr,h1];rfl);cases (show v=Value.ref ts[i] from rvv);obtain⟨jts,rj,pj,_⟩:=I.tuple (ao.of (hat i _ _ h1 h2))
   cases rj with
   |cons ra r2 =>
   cases r2 with
   |cons rb r3 =>
   cases r3;refine⟨(_,_),λ_=>⟨by rw[et];exact hv,by rw[et];exact pj,λp hp=>?_⟩⟩;rw[h2] at hp;cases hp;exact⟨ra,rb⟩
  exact⟨(.none,.none),λh=>absurd h hi⟩
 obtain⟨qv,KR⟩:=Classical.axiomOfChoice pr
 obtain⟨qs,hqs⟩:∃qs:List (ae×Value),qs=(List.range ps.length).map λi=>((ps.getD i (.inl 0,.non)).1,(qv i).2):=⟨_,rfl⟩
 have qsl:qs.length=ps.length:=by rw[hqs];simp
 have qsg:∀(i:Nat) (q:ae×Value),qs[i]?=some q->i<ps.length/\∃p,ps[i]?=some p/\q=(p.1,(qv i).2):=λi q h=>by
  have hi:i<ps.length:=by have:=(Qc h).1;lia
  refine⟨hi,ps[i],Qb hi,?_⟩;rw[hqs,Qr,List.getElem?_range hi] at h;have h:=Qs h;rw[<-h];show((ps.getD i (.inl 0,.non)).1,(qv i).2)=_;rw[Qd,Qb hi];rfl
 have Iu:KV (eR ps) (f8 qs):=uS qsl.symm λi p q h1 h2=>by obtain⟨hi,p',IB,rfl⟩:=qsg i q h2;rw[h1] at IB;cases IB;exact⟨rfl,((KR i hi).2.2 p h1).2⟩
 have relT:∀i,KV (eR (ps.take i)) (f8 (qs.take i)):=λi=>uS (by simp[qsl]) λj p q h1 h2=>by
  rw[List.getElem?_take] at h1 h2;split at h1
  ·rename_i hj;rw[if_pos hj] at h2;obtain⟨hi,p',IB,rfl⟩:=qsg j q h2;rw[h1] at IB;cases IB;exact⟨rfl,((KR j hi).2.2 p h1).2⟩
  cases h1
 have hpz:ps.length<=sizeLine:=by rw[Qg] at hz;lia
 refine Cv ho (I.ok.hd hc) qs tp (λi=>(qv i).1) (by rw[qsl];simp;lia) (λi q h=>?_) (λi v h=>?_) (λi=>?_) (λi=>?_) (λi q h=>?_) λhp tk hD kk=>?_
 ·obtain⟨hi,p,hp,rfl⟩:=qsg i q h;exact gT ((KR i hi).2.2 p hp).1
 ·have hi:i<ps.length:=by have:=(Array.getElem?_eq_some_iff.mp h).1;simp at this;lia
  have:=(KR i hi).1;have h:its[i]?=some v:=by simpa using h
  rw[this] at h;exact(Qs h).symm
 ·by_cases hi:i<ps.length
  ·obtain⟨_,⟨o,r,_⟩,_⟩:=KR i hi;exact Qt r
  have:tp i=l:=by rw[htpe,Qd,List.getElem?_eq_none (by lia)];rfl
  rw[this];exact Qt ho
 ·rw[<-(relT i).length];have:=qg (ps.take i);rw[QH] at this;lia
 ·obtain⟨hi,p,hp,rfl⟩:=qsg i q h;exact(KR i hi).2.1
 have hf:=qg ps;refine⟨.ref s.heap.objs.size,_,I.laid (a:=s.heap.objs.size) (o:=.dK (eR ps)) (t':=tk) kk (Qh _) (uL (by lia) (beq_eq_false_iff_ne.mpr (Ne.symm (QB I.big))) Iu hD),rfl,kq _ I.fresh⟩
end
structure jf(P:Program)(w:World)(K:W.Frag)(a:Addr)(kvs:List (Str×Str)):Prop where
 ns:(a==sysModules)=false
 ob:∃(o:Obj) (vs:List (ae×Value)),K.lookup a=some o/\o.cls=.type "dict"/\o.dict=none/\(∀h:Heap,h.get? a=some o->h.DictOf (bX P w) a vs) /\
  ∀k:Str,(∀i,kvs.lookup k=some i->∃t,valueAt vs (Sum.inr k:ae)=some (.str i t))/\(kvs.lookup k=none->valueAt vs (Sum.inr k:ae)=none)
abbrev jY:=Str×Tok×Str×Tok
noncomputable def m6(w:World)(e:jY):DictEntry:=⟨hashStr w e.1,.str e.1 e.2.1,.str e.2.2.1 e.2.2.2⟩
noncomputable def gw(e:jY):ae×Value:=(Sum.inr e.1,.str e.2.2.1 e.2.2.2)
theorem uT{w:World}:∀es:List jY,Pairs (bX P w) (es.map (m6 w)) (es.map gw)
 | []=>.nil
 |e::r=>.cons (mx P w e.1 e.2.1) rfl (uT r)
theorem uU(k:Str):∀es:List jY,(∀i,(es.map λe=>(e.1,e.2.2.1)).lookup k=some i->∃t,valueAt (es.map gw) (Sum.inr k:ae)=some (.str i t))/\((es.map λe=>(e.1,e.2.2.1)).lookup k=none->valueAt (es.map gw) (Sum.inr k:ae)=none)
 | []=>⟨λi h=>by simp at h,λ_=>rfl⟩
 |e::r=>by
  obtain⟨h1,h2⟩:=uU k r;simp only[List.map_cons,List.lookup_cons];by_cases hk:k=e.1
  ·subst hk;simp only[beq_self_eq_true];refine⟨λi h=>?_,λh=>nomatch h⟩;cases h;exact⟨e.2.2.2,by simp[valueAt,gw]⟩
  have hb:(k==e.1)=false:=beq_eq_false_iff_ne.mpr hk
  have hn:¬((gw e).1=(Sum.inr k:ae)):=λz=>hk (by
   have z':(Sum.inr e.1:ae)=Sum.inr k:=z;injection z' with z'
   exact z'.symm)
  have ev:valueAt (gw e::r.map gw) (Sum.inr k:ae)=valueAt (r.map gw) (Sum.inr k:ae):=by unfold valueAt;rw[List.find?_cons_of_neg (by simpa using hn)]
  rw[hb,ev];exact⟨h1,h2⟩
theorem Cw{P:Program}{w:World}{K:W.Frag}{a:Addr}{ep:Nat}{es:List jY}(hs:(a==sysModules)=false)
  (hl:K.lookup a=some ⟨.type "dict",none,.dict (es.map (m6 w)).toArray ep,#[]⟩) (nd:(es.map (·.1)).Nodup):jf P w K a (es.map λe=>(e.1,e.2.2.1)):=by
 refine⟨hs,_,es.map gw,hl,rfl,rfl,λh e=>⟨_,_,_,e,⟨rfl,rfl,rfl⟩,rfl,?_,uT es,?_⟩,λk=>uU k es⟩
 ·intro x hx;have hx':x∈es.map (m6 w):=by simpa using hx
  obtain⟨y,_,rfl⟩:=QJ hx';exact⟨Sum.inr y.1,mx P w y.1 y.2.1,rfl⟩
 have e1:(es.map gw).map (·.1)=(es.map (·.1)).map (Sum.inr:Str->ae):=by rw[QY,QY];rfl
 rw[e1];refine List.Pairwise.map _ (λx y hxy hz=>hxy ?_) nd;injection hz
section
variable {X:Cx}{a:Addr}{kvs:List (Str×Str)}{x:Str}{p pos apos HW:Pos}{e f:Expr}{ty tx:TE}
theorem jf.here{s:Shared}(D:jf X.prog X.w X.K a kvs)(I:Inv X HJ σ H s) :
  ∃vs:List (ae×Value),s.heap.DictOf (bX X.prog X.w) a vs/\(∀b,Value.ref a=.ref b->∃ob,s.heap.get? b=some ob/\ob.dict=none) /\
   ∀k:Str,(∀i,kvs.lookup k=some i->∃t,valueAt vs (Sum.inr k:ae)=some (.str i t))/\(kvs.lookup k=none->valueAt vs (Sum.inr k:ae)=none):=by
 obtain⟨o,vs,hk,hc,hd,hh,hv⟩:=D.ob;have e:=I.kIn a o hk;exact⟨vs,hh _ e,λb q=>by cases q;exact⟨o,e,hd⟩,hv⟩
def Cy(kvs:List (Str×Str))(ty:TE):TE:=λσ H Q=>ty σ H λy H1=>∃(k:Str) (i:Str),y=.str k/\kvs.lookup k=some i/\Q (.str i) H1
theorem uV(D:jf X.prog X.w X.K a kvs)(hg:Gl X x)(hm:X.mg x=some (.ref a))(he:PE X e ty)(hs:uc e)(hd:(x==("__debug__":Str))=false:=by decide):PE X (.Subscript (.Name x p) e pos) (Cy kvs ty):=by intro HJ s σ H Q I h;refine Subscript_ (kS I hg hm ?_ hd);refine aA (he HJ s σ H _ I h) λiv s1 hsl63=>?_;obtain⟨y,H1,I1,ry,k,i,ey,hk,q⟩:=hsl63;subst ey;obtain⟨t,rfl⟩:=ry;obtain⟨vs,dd,_,hv⟩:=D.here I1;obtain⟨t',e⟩:=(hv k).1 i hk;exact tail_any dd.typeIs PySem.F.slot_dict_getitem.lookup (wpAny_getItem_of (k:=(Sum.inr k:ae)) (mx _ _ k t) dd.mapOf e ⟨.str i,H1,I1.tok _,⟨t',rfl⟩,q⟩) (hs _ _)
end
theorem Cz{X:Cx}{K:W.Frag}(hK:X.K=K)(hu:X.A.units+64<cLine):bO X (compareOp .Eq) (λx y H Q=>∃(l b:Addr) (xs:List V),x=.ref l/\y=.ref b/\am K H l xs/\am K H b []/\Q (.bl (decide (xs=[]))) H):=by
 intro HJ s σ H x y v u Q I rx ry h;subst hK;obtain⟨l,b,xs,rfl,rfl,h1,h2,q⟩:=h;cases rx;cases ry;obtain⟨i1,r1,p1,_⟩:=I.list h1;obtain⟨i2,r2,p2,_⟩:=I.list h2;have l2:=r2.length;have l1:=r1.length;have e2:i2=[]:=List.eq_nil_of_length_eq_zero (by simpa using l2.symm);subst e2;by_cases h0:xs=[]
 ·subst h0;have e1:i1=[]:=List.eq_nil_of_length_eq_zero (by simpa using l1.symm);subst e1;exact SeqAt.eq_listAt (e:=λ_=>true) p1.isList p2.isList rfl (by lia) (λj hj=>by simp at hj) ⟨.bl true,H,I,rfl,q⟩
 have hp:0<i1.length:=by rw[<-l1];exact List.length_pos_iff.mpr h0
 refine SeqAt.eq_list_lengthsAt p1.isList p2.isList (by rw[Qp,Qp];simp only[List.length_nil,bne_iff_ne,ne_eq];lia) (by lia) ⟨.bl false,H,I,rfl,?_⟩;rw[Qk h0] at q;exact q
theorem CA(a v:Value):argsOk "list.sort" ⟨[a],[(Str.ofString "key",v)]⟩:=by unfold argsOk;kernel_rfl
theorem CB(a v:Value):argsOk "sorted" ⟨[a],[(Str.ofString "key",v)]⟩:=by unfold argsOk;kernel_rfl
theorem CC(a f:Addr):Builtin.«list.sort» ⟨[.ref a],[(Str.ofString "key",.ref f)]⟩=(do
  let items <- Builtin.List.listItems (.ref a)
  Builtin.List.listUpdate (.ref a) λ_=>#[]
  let before <- seqEpoch a;let held <- newTuple items.toList;let keyStore <- newList []
  holding [held,keyStore] do
   rule "list.sort.key"
   for x in items do
    match <- (call (.ref f) [x]).attempt with
    |.ok k=>Builtin.List.listUpdate keyStore (·.push k)
    |.error e =>
     rule "list.sort.key-raised"
     let made <- Builtin.List.listItems keyStore
     Builtin.List.listUpdate keyStore λ_=>#[]
     letGo made.toList.reverse [e]
     Builtin.List.listUpdate (.ref a) λ_=>items;throw e
   let keys <- Builtin.List.listItems keyStore
   let kind <- if items.size<2 then pure general' else keyKind' keys
   let ((),s) <- (if items.size<2 then pure () else sortRuns').run (SortSt.mk' kind (keys.zip items) #[] 7 none);let sorted:=(arrOf s).map (·.2)
   Builtin.List.listUpdate keyStore λ_=>#[]
   letGo ((arrOf s).map (·.1)).toList (failedOf s).toList
   let touched:=(<- seqEpoch a) != before
   Builtin.List.listUpdate (.ref a) λ_=>sorted
   if let some e:=failedOf s then rule "list.sort.comparison-raised";throw e
   if touched then rule "list.sort.modified";raiseError "ValueError" "list modified during sort"
   ret .none):=by
 first|rfl|(fail "not by rfl")
theorem Inv.adopt{X:Cx}{s:Shared}(I:Inv X HJ σ H s)(f:cK X HJ H a)(new:bI X.prog X.w (ag H a o) s.heap a o):Inv X HJ σ (ag H a o) s:=by
 obtain⟨f0,f1,f2,f3,f4,f5⟩:=f;have ne:∀b u,H b=some u->b≠a:=λb u e=>eQ e f0
 have hok:bJ X.prog X.w (ag H a o) s.heap:=λb u e=>by
  by_cases hb:b=a
  ·subst hb;rw[ah] at e;cases e;exact new
  rw[ay hb] at e;exact(I.hok b u e).stay (λc v _ q=>q) (λc q=>by rw[ay (ne c _ q)];exact q) λc xs q=>by rw[ay (ne c _ q)];exact q
 have nc:∀{b:Addr},b∉[a]->b≠a:=λh z=>h (by simp[z])
 exact I.step (g':=s.gens) (d':=s.drawn) (t':=s.toks) (h':=s.heap) (ch:=[a]) (fun b hb=>by
   have e:b=a:=by simpa using hb
   subst e
   exact⟨f3,f1,f4,f5⟩)
  (λb o _ _ _ e _=>e) (λb o _ _ _ e _=>⟨o.slots,e⟩) (λb o hc e n=>by rw[ay (nc hc)];exact n) (λb o _ e=>⟨o,e⟩)
  (λb xs e=>by rw[ay (ne b _ e)];exact e) (λb o u e=>by rw[ay (ne b _ e)];exact e) (λb ps e=>⟨#[],by rw[ay (ne b _ e),e];simp⟩) (λm hm=>hm) hok I.bare
end L2
namespace L2
open PySem PySem.Spec PyProof.Rows PySem.W
def fe(n:Nat)(p:Array Nat):Prop:=∀x∈p.toList,x<n
theorem fe.at{n:Nat}{p:Array Nat}(h0:0<n)(h:fe n p)(k:Nat):p.getD k 0<n:=by
 rw[Array.getD_eq_getD_getElem?]
 cases e:p[k]? with
 |none=>exact h0
 |some x =>
  refine h x ?_;rw[<-Array.getElem?_toList] at e;exact Qq e
structure Ev where
 κ:SortKind
 it:Array Keyed
def qi(n:Nat)(lt:Nat->Nat->Bool)(e:Ev)(prog:Program)(w:World)(A:Around)(s:Shared):Prop:=
 ∀i j,i<n->j<n->∀C:Bool->Shared->Prop,C (lt i j) s->kas_cmp prog w A e.κ e.it i j C s
def aM(n:Nat)(lt:Nat->Nat->Bool){α:Type}(m:Ev->StateT SortSt Sem α)(x:Ev->SortSt)(R:(Ev->α)->(Ev->SortSt)->Prop):Prop:=
 ∃(a:Ev->α) (y:Ev->SortSt),R a y/\∀(e:Ev) (prog:Program) (w:World) (A:Around) (E:Value->Shared->Prop) (s:Shared),qi n lt e prog w A s ->
  ∀Q:α->SortSt->Shared->Prop,Q (a e) (y e) s->kasC (model prog w) A E (m e) Q (x e) s
section
variable {n:Nat}{lt:Nat->Nat->Bool}{α β:Type}{x:Ev->SortSt}
theorem bq(h:R a x):aM n lt (λe=>pure (a e)) x R:=
 ⟨a,x,h,λe prog w A E s _ Q q=>kasC_pure q⟩
theorem aX{m:Ev->StateT SortSt Sem α}{f:Ev->α->StateT SortSt Sem β}{R:(Ev->β)->(Ev->SortSt)->Prop}(h:aM n lt m x (λa y=>aM n lt (λe=>f e (a e)) y R)):aM n lt (λe=>m e>>=f e) x R:=by obtain⟨a,y,⟨b,z,r,h2⟩,h1⟩:=h;exact⟨b,z,r,λe prog w A E s ho Q q=>kasC_bind (h1 e prog w A E s ho _ (h2 e prog w A E s ho Q q))⟩
theorem aM.mono(h:aM n lt m x R)(hr:∀a y,R a y->R' a y):aM n lt m x R':=by obtain⟨a,y,r,h1⟩:=h;exact⟨a,y,hr a y r,h1⟩
theorem uW(h:R x x):aM n lt (λ_=>(get:StateT SortSt Sem SortSt)) x R:=
 ⟨x,x,h,λe prog w A E s _ Q q=>kasC_get q⟩
theorem ly{f:Ev->SortSt->SortSt}{R:(Ev->PUnit)->(Ev->SortSt)->Prop}(h:R (λ_=>⟨⟩) (λe=>f e (x e))):aM n lt (λe=>(modify (f e):StateT SortSt Sem PUnit)) x R:=
 ⟨_,_,h,λe prog w A E s _ Q q=>kasC_modify q⟩
theorem CD(h:R (λ_=>⟨⟩) f):aM n lt (λe=>(set (f e):StateT SortSt Sem PUnit)) x R:=
 ⟨_,_,h,λe prog w A E s _ Q q=>by unfold kasC;rw[StateT.run_set];exact Qe q⟩
theorem m7{t:String}(h:R (λ_=>()) x):aM n lt (λ_=>(liftM (rule t):StateT SortSt Sem Unit)) x R:=
 ⟨_,_,h,λe prog w A E s _ Q q=>kasC_lift (wpAny_rule q)⟩
theorem cm{c:Prop}{inst:Ev->Decidable c}{p q:Ev->StateT SortSt Sem α}{R:(Ev->α)->(Ev->SortSt)->Prop}(h1:c->aM n lt p x R)(h2:¬c->aM n lt q x R):aM n lt (λe=>@ite _ c (inst e) (p e) (q e)) x R:=by
 by_cases h:c
 ·simp only[if_pos h];exact h1 h
 simp only[if_neg h];exact h2 h
theorem uX{β:Type}{f:Ev->Nat->β->StateT SortSt Sem (ForInStep β)}(I:List Nat->(Ev->β)->(Ev->SortSt)->Prop)(Q:(Ev->β)->(Ev->SortSt)->Prop)
  (Kz:∀i l c y,I (i::l) c y->aM n lt (λe=>f e i (c e)) y (λr z=>(∃c',r=(λe=>.done (c' e))/\Q c' z)∨(∃c',r=(λe=>.yield (c' e))/\I l c' z)))
  (JN:∀c y,I [] c y->Q c y):∀(l:List Nat) (c:Ev->β) (x:Ev->SortSt),I l c x->aM n lt (λe=>forIn l (c e) (f e)) x Q
 | [],c,x,h=>⟨c,x,JN c x h,λe prog w A E s _ Q q=>kasC_nil q⟩
 |i::l,c,x,h=>by
  obtain⟨r,z,hr,h1⟩:=Kz i l c x h
  rcases hr with ⟨c',rfl,hq⟩|⟨c',rfl,hi⟩
  ·exact⟨c',z,hq,λe prog w A E s ho Q q=>kasC_cons (h1 e prog w A E s ho _ q)⟩
  obtain⟨b,y,r,h2⟩:=uX I Q Kz JN l c' z hi;exact⟨b,y,r,λe prog w A E s ho Q q=>kasC_cons (h1 e prog w A E s ho _ (h2 e prog w A E s ho Q q))⟩
theorem fM{β:Type}{a b:Nat}{c:Ev->β}{f:Ev->Nat->β->StateT SortSt Sem (ForInStep β)}(I:Nat->(Ev->β)->(Ev->SortSt)->Prop)(Q:(Ev->β)->(Ev->SortSt)->Prop)
  (Kz:∀i c y,a<=i->i<b->I i c y->aM n lt (λe=>f e i (c e)) y (λr z=>(∃c',r=(λe=>.done (c' e))/\Q c' z)∨(∃c',r=(λe=>.yield (c' e))/\I (i+1) c' z)))
  (JN:∀c y,I (max a b) c y->Q c y) (h:I a c x):aM n lt (λe=>forIn [a:b] (c e) (f e)) x Q:=by
 have key:aM n lt (λe=>forIn (List.range' a (b-a)) (c e) (f e)) x Q:=by
  refine uX (λl c y=>∃i,a<=i/\i<=max a b/\l=List.range' i (max a b-i) 1/\I i c y) Q ?_ ?_ _ c x ⟨a,Qh _,by lia,by congr 1;lia,h⟩
  ·rintro j l c y ⟨i,JK,hib,hl,hI⟩
   have HS:i<max a b:=by
    rcases Nat.lt_or_ge i (max a b) with h' | h'
    ·exact h'
    rw[show max a b-i=0 by lia] at hl;simp at hl
   obtain⟨k,hk⟩:∃k,max a b-i=k+1:=⟨max a b-i-1,by lia⟩
   rw[hk,List.range'_succ] at hl;obtain⟨rfl,rfl⟩:=List.cons.inj hl;refine(Kz j c y JK (by lia) hI).mono λr z hr=>?_
   rcases hr with hr|⟨c',e',h'⟩
   ·exact .inl hr
   exact .inr ⟨c',e',j+1,by lia,by lia,by congr 1;lia,h'⟩
  rintro c y ⟨i,JK,hib,hl,hI⟩
  have:i=max a b:=by
   rcases Nat.lt_or_ge i (max a b) with h' | h'
   ·obtain⟨k,hk⟩:∃k,max a b-i=k+1:=⟨max a b-i-1,by lia⟩
    rw[hk,List.range'_succ] at hl;simp at hl
   lia
  subst this;exact JN _ _ hI
 obtain⟨b',y,r,h1⟩:=key;exact⟨b',y,r,λe prog w A E s ho Q q=>kasC_range (h1 e prog w A E s ho Q q)⟩
end
noncomputable def dP(e:Ev)(i:Nat):Keyed:=kas_item e.it i
noncomputable def bt(e:Ev)(p:Array Nat):Array Keyed:=p.map (dP e)
noncomputable def aF(p:Array Nat)(HK:Array (Nat×Nat×Nat))(g:Nat):Ev->SortSt:=λe=>SortSt.mk' e.κ (bt e p) HK g none
theorem lz{p:Array Nat}:(bt e p).size=p.size:=Array.size_map ..
section
variable {n:Nat}{lt:Nat->Nat->Bool}{p:Array Nat}{HK:Array (Nat×Nat×Nat)}{g:Nat}
theorem CF(hi:i<p.size):(bt e p)[i]?=some (dP e (p.getD i 0)):=by
 have e1:p.getD i 0=p[i]:=by simp[Array.getD,hi]
 rw[e1];simp[bt,hi]
theorem jg(hi:i<p.size)(h:R (λe=>dP e (p.getD i 0)) x):aM n lt (λe=>elem' (bt e p) i) x R:=by refine⟨_,_,h,λe prog w A E s _ Q q=>?_⟩;show kasC _ _ _ (elem' (bt e p) i) _ _ _;rw[elem'_eq,CF hi];exact kasC_pure q
theorem qj(hi:i<n)(hj:j<n)(h:R (λ_=>some (lt i j)) (aF p HK g)):aM n lt (λe=>lt' (dP e i) (dP e j)) (aF p HK g) R:=by refine⟨_,_,h,λe prog w A E s ho Q q=>?_⟩;show kasC _ _ _ (lt' (dP e i) (dP e j)) _ _ _;rw[lt'_eq];refine kasC_bind (kasC_get ?_);refine kasC_bind (kasC_lift (wpAny_attempt (QV (ho i j hi hj (λb s'=>b=lt i j/\s'=s) ⟨rfl,rfl⟩) (λc s' hc=>?_) λ_ _ hF=>hF.elim)));obtain⟨rfl,rfl⟩:=hc;exact kasC_pure q
theorem jZ{i j:Nat}{R:(Ev->Option Bool)->(Ev->SortSt)->Prop}(h0:0<n)(hp:fe n p)(hi:i<p.size)(hj:j<p.size)(h:R (λ_=>some (lt (p.getD i 0) (p.getD j 0))) (aF p HK g)):aM n lt (λ_=>ltAt' i j) (aF p HK g) R:=by refine aX (uW ?_);refine aX (jg (p:=p) hi ?_);refine aX (jg (p:=p) hj ?_);exact qj (hp.at h0 _) (hp.at h0 _) h
theorem m8(h:R (λ_=>()) (aF (kas_rev p i j) HK g)):aM n lt (λ_=>reverseSlice' i j) (aF p HK g) R:=by
 simp only[reverseSlice'_eq];refine ly ?_;have e:(λe=>setArr (aF p HK g e) (mirror (arrOf (aF p HK g e)) i j ((j-i)/2)))=aF (kas_rev p i j) HK g:=by funext e;show SortSt.mk' e.κ (mirror (bt e p) i j ((j-i)/2)) HK g none=SortSt.mk' e.κ (bt e (kas_rev p i j)) HK g none;have e1:mirror (bt e p) i j ((j-i)/2)=bt e (kas_rev p i j):=kas_swaps_map (dP e) (λk=>i+k) (λk=>j-1-k) _ p;rw[e1]
 rw[e];exact h
theorem CG{k l:Nat}(h:R (λ_=>()) (aF (bubble p k (k-l)) HK g)):aM n lt (λ_=>moveDown' k l) (aF p HK g) R:=by
 simp only[moveDown'_eq];refine ly ?_;have e:(λe=>setArr (aF p HK g e) (bubble (arrOf (aF p HK g e)) k (k-l)))=aF (bubble p k (k-l)) HK g:=by funext e;show SortSt.mk' e.κ (bubble (bt e p) k (k-l)) HK g none=SortSt.mk' e.κ (bt e (bubble p k (k-l))) HK g none;have e1:bubble (bt e p) k (k-l)=bt e (bubble p k (k-l)):=kas_swaps_map (dP e) (λi=>k-i) (λi=>k-i-1) _ p;rw[e1]
 rw[e];exact h
end
noncomputable def CH:Bool->Keyed->Array Keyed->Nat->Nat->Nat->StateT SortSt Sem (Option Nat):=sortPriv% PySem.Builtin.gallop
noncomputable def CI:Array Keyed->Array Keyed->StateT SortSt Sem (Array Keyed):=sortPriv% PySem.Builtin.mergeLo
noncomputable def CJ:Array Keyed->Array Keyed->StateT SortSt Sem (Array Keyed):=sortPriv% PySem.Builtin.mergeHi
theorem CK{p:Array Nat}:(bt e p).extract i j=bt e (p.extract i j):=by simp[bt]
section
variable {n:Nat}{lt:Nat->Nat->Bool}{α:Type}{x:Ev->SortSt}{P:Array Nat}{HK:Array (Nat×Nat×Nat)}{g:Nat}
theorem qk{a b:Nat}{inst:Ev->Decidable ((a==b)=true)}{p q:Ev->StateT SortSt Sem α}{R:(Ev->α)->(Ev->SortSt)->Prop}(h1:a=b->aM n lt p x R)(h2:a≠b->aM n lt q x R):aM n lt (λe=>@ite _ ((a==b)=true) (inst e) (p e) (q e)) x R:=
 cm (λh=>h1 (by simpa using h)) (λh=>h2 (by simpa using h))
theorem j0{γ:Type}{f:Ev->SortSt->StateT SortSt Sem γ}{R:(Ev->γ)->(Ev->SortSt)->Prop}(h:aM n lt (λe=>f e (SortSt.mk' e.κ (bt e P) HK g none)) (aF P HK g) R):aM n lt (λe=>get>>=f e) (aF P HK g) R:=aX (uW h)
variable {pa pb:Array Nat}
end
theorem CL(p:Array Nat)(i j:Nat):(kas_rev p i j).size=p.size:=mirror_size _ _ _ _
noncomputable def putN(po:List Nat)(k:Nat)(s:Nat)(p:Array Nat):Array Nat:=(po.zipIdx k).foldl (λa x=>a.setIfInBounds (s+x.2) x.1) p
theorem uY{α:Type}(f:Nat->α)(s:Nat):∀(po:List Nat) (k:Nat) (p:Array Nat),((po.map f).zipIdx k).foldl (λa (x:α×Nat)=>a.setIfInBounds (s+x.2) x.1) (p.map f)=(putN po k s p).map f
 | [],k,p=>rfl
 |a::po,k,p=>by show((po.map f).zipIdx (k+1)).foldl _ ((p.map f).setIfInBounds (s+k) (f a))=(putN po (k+1) s (p.setIfInBounds (s+k) a)).map f;rw[<-uY f s po (k+1),Array.map_setIfInBounds]
theorem uZ(s:Nat):∀(po:List Nat) (k:Nat) (p:Array Nat),(putN po k s p).size=p.size
 | [],k,p=>rfl
 |a::po,k,p=>by show(putN po (k+1) s (p.setIfInBounds (s+k) a)).size=p.size;rw[uZ s po,Array.size_setIfInBounds]
section
variable {n:Nat}{lt:Nat->Nat->Bool}{α:Type}{x:Ev->SortSt}{p:Array Nat}{HK:Array (Nat×Nat×Nat)}{g:Nat}
theorem CM(h:R (λ_=>⟨⟩) (aF p pend' g)):aM n lt (λe=>(set (SortSt.mk' e.κ (bt e p) pend' g none):StateT SortSt Sem PUnit)) x R:=CD h
theorem CN{f:Ev->SortSt->SortSt}{p':Array Nat}{pend':Array (Nat×Nat×Nat)}{g':Nat}{R:(Ev->PUnit)->(Ev->SortSt)->Prop}(e:∀e,f e (aF p HK g e)=aF p' pend' g' e)(h:R (λ_=>⟨⟩) (aF p' pend' g')):aM n lt (λe=>(modify (f e):StateT SortSt Sem PUnit)) (aF p HK g) R:=
 ly (by rw[funext e];exact h)
theorem CO{c:Prop}{inst:Decidable c}{a b:Nat}(h:a+1<b):(@ite _ c inst (a-1) a)+1<b:=by
 by_cases hc:c
 ·rw[if_pos hc];omega
 rw[if_neg hc];exact h
theorem u4(h:R (λ_=>⟨⟩) (aF p (HK.push v) g)):aM n lt (λ_=>(modify λs=>setPending s ((pendingOf s).push v):StateT SortSt Sem PUnit)) (aF p HK g) R:=ly h
theorem CP(h:R (λ_=>⟨⟩) (aF p (HK.modify (HK.size-1) f) g)):aM n lt (λ_=>(modify λs=>setPending s ((pendingOf s).modify ((pendingOf s).size-1) f):StateT SortSt Sem PUnit)) (aF p HK g) R:=ly h
end
noncomputable def bZ(left:Bool)(lt:Nat->Nat->Bool)(p:Array Nat)(k base i:Nat):Bool:=if left=true then lt (p.getD (base+i) 0) k else !(lt k (p.getD (base+i) 0))
section
variable {n:Nat}{lt:Nat->Nat->Bool}{p P:Array Nat}{HK:Array (Nat×Nat×Nat)}{g:Nat}
theorem lB{left:Bool}{k base i:Nat}{R:(Ev->Option Bool)->(Ev->SortSt)->Prop}(h0:0<n)(hk:k<n)(hp:fe n p)(hb:base+i<p.size)(h:R (λ_=>some (bZ left lt p k base i)) (aF P HK g)) :
  aM n lt (λe=>elem' (bt e p) (base+i)>>=λx=>if left=true then lt' x (dP e k) else lt' (dP e k) x>>=λr=>pure (r.map (!·))) (aF P HK g) R:=by
 refine aX (jg (p:=p) hb (cm (λz=>qj (hp.at h0 _) hk ?_) (λz=>aX (qj hk (hp.at h0 _) (bq ?_)))))
 ·rw[bZ,if_pos z] at h;exact h
 rw[bZ,if_neg z] at h;exact h
theorem u6{left:Bool}{k base m hint:Nat}{R:(Ev->Option Nat)->(Ev->SortSt)->Prop}(h0:0<n)(hk:k<n)(hp:fe n p)(hh:hint<m)(hb:base+m<=p.size)
  (hm:∀i j,i<=j->j<m->bZ left lt p k base j=true->bZ left lt p k base i=true)
  (h:∀r,r<=m->(∀i,i<r->bZ left lt p k base i=true)->(∀i,r<=i->i<m->bZ left lt p k base i=false)->R (λ_=>some r) (aF P HK g)) :
  aM n lt (λe=>CH left (dP e k) (bt e p) base m hint) (aF P HK g) R:=by
 have hm':∀i j,i<=j->j<m->bZ left lt p k base i=false->bZ left lt p k base j=false:=λi j KN hj z=>by
  cases e:bZ left lt p k base j with
  |false=>rfl
  |true=>rw[hm i j KN hj e] at z;cases z
 refine aX (lB h0 hk hp (by omega) ?_);dsimp only;refine cm (λz=>?_) (λz=>?_)
 ·refine aX (aM.mono (fM (fun i c y=>∃ la of:Nat,c=(fun _=>(none,la,of))/\y=aF P HK g/\la<of/\i+1<=of/\hint+la<m/\bZ left lt p k base (hint+la)=true)
   (λc y=>∃la of:Nat,c=(λ_=>(none,la,of))/\y=aF P HK g/\la<of/\hint+la<m/\bZ left lt p k base (hint+la)=true/\(m-hint<=of∨(hint+of<m/\bZ left lt p k base (hint+of)=false))) ?_ ?_ ⟨_,_,rfl,rfl,by omega,by omega,by omega,z⟩) ?_)
  ·rintro i c0 y0 _ _ hh;apply hid2 c0 y0;intro _ γ;obtain⟨la,of,rfl,rfl,h1,h2,h3,Jj⟩:=hh;refine γ _ _ ?_;dsimp only;refine cm (λK2=>bq (.inl ⟨_,rfl,_,_,rfl,rfl,h1,h3,Jj,.inl K2⟩)) (λHS=>?_);refine aX (lB h0 hk hp (by omega) ?_);dsimp only;exact cm (λq=>bq (.inl ⟨_,rfl,_,_,rfl,rfl,h1,h3,Jj,.inr ⟨by omega,by simpa using q⟩⟩)) (λq=>bq (.inr ⟨_,rfl,_,_,rfl,rfl,by omega,by omega,by omega,by simpa using q⟩))
  ·rintro c0 y0 hh;apply hid2 c0 y0;intro _ γ;obtain⟨la,of,rfl,rfl,h1,h2,h3,Jj⟩:=hh;refine γ _ _ ?_;exact⟨la,of,rfl,rfl,h1,h3,Jj,.inl (by omega)⟩
  rintro c0 y0 hh;apply hid2 c0 y0;intro _ γ;obtain⟨la,of,rfl,rfl,h1,h3,Jj,IT⟩:=hh;refine γ _ _ ?_;dsimp only
  refine aX (aM.mono (fM (λi c y=>∃lo hi,c=(λ_=>(none,lo,hi))/\y=aF P HK g/\lo<=hi/\hi<=m/\hi-lo<=m-i/\(∀i,i<lo->bZ left lt p k base i=true)/\(∀i,hi<=i->i<m->bZ left lt p k base i=false))
   (λc y=>∃lo hi,c=(λ_=>(none,lo,hi))/\y=aF P HK g/\lo=hi/\hi<=m/\(∀i,i<lo->bZ left lt p k base i=true)/\(∀i,hi<=i->i<m->bZ left lt p k base i=false)) ?_ ?_ ⟨_,_,rfl,rfl,by omega,by omega,by omega,?_,?_⟩) ?_)
  ·rintro i c0 y0 _ _ hh;apply hid2 c0 y0;intro _ γ;obtain⟨lo,hi,rfl,rfl,h1,h2,h3,hA,hB⟩:=hh;refine γ _ _ ?_;dsimp only;refine cm (λK2=>bq (.inl ⟨_,rfl,_,_,rfl,rfl,by omega,h2,hA,hB⟩)) (λHS=>?_);refine aX (lB h0 hk hp (by omega) ?_);dsimp only;refine cm (λq=>bq (.inr ⟨_,rfl,_,_,rfl,rfl,by omega,h2,by omega,λi hi=>hm i _ (by omega) (by omega) q,hB⟩)) (λq=>bq (.inr ⟨_,rfl,_,_,rfl,rfl,by omega,by omega,by omega,hA,λi h1 h2=>hm' _ i h1 h2 (by simpa using q)⟩))
  ·rintro c0 y0 hh;apply hid2 c0 y0;intro _ γ;obtain⟨lo,hi,rfl,rfl,h1,h2,h3,hA,hB⟩:=hh;refine γ _ _ ?_;exact⟨lo,hi,rfl,rfl,by omega,h2,hA,hB⟩
  ·exact λi hi=>hm i _ (by omega) h3 Jj
  ·intro i h4 h5
   rcases IT with IT|⟨IT,hex2⟩
   ·omega
   exact hm' _ i (by omega) h5 hex2
  rintro c0 y0 hh;apply hid2 c0 y0;intro _ γ;obtain⟨lo,hi,rfl,rfl,rfl,h2,hA,hB⟩:=hh;refine γ _ _ ?_;exact bq (h _ h2 hA hB)
 refine aX (aM.mono (fM (fun i c y=>∃ la of:Nat,c=(fun _=>(none,la,of))/\y=aF P HK g/\la<of/\i+1<=of/\la<=hint/\bZ left lt p k base (hint-la)=false)
  (λc y=>∃la of:Nat,c=(λ_=>(none,la,of))/\y=aF P HK g/\la<of/\la<=hint/\bZ left lt p k base (hint-la)=false/\(hint+1<=of∨(of<=hint/\bZ left lt p k base (hint-of)=true))) ?_ ?_ ⟨_,_,rfl,rfl,by omega,by omega,by omega,by simpa using z⟩) ?_)
 ·rintro i c0 y0 _ _ hh;apply hid2 c0 y0;intro _ γ;obtain⟨la,of,rfl,rfl,h1,h2,h3,Jj⟩:=hh;refine γ _ _ ?_;dsimp only;refine cm (λK2=>bq (.inl ⟨_,rfl,_,_,rfl,rfl,h1,h3,Jj,.inl K2⟩)) (λHS=>?_);refine aX (lB h0 hk hp (by omega) ?_);dsimp only;exact cm (λq=>bq (.inl ⟨_,rfl,_,_,rfl,rfl,h1,h3,Jj,.inr ⟨by omega,q⟩⟩)) (λq=>bq (.inr ⟨_,rfl,_,_,rfl,rfl,by omega,by omega,by omega,by simpa using q⟩))
 ·rintro c0 y0 hh;apply hid2 c0 y0;intro _ γ;obtain⟨la,of,rfl,rfl,h1,h2,h3,Jj⟩:=hh;refine γ _ _ ?_;exact⟨la,of,rfl,rfl,h1,h3,Jj,.inl (by omega)⟩
 rintro c0 y0 hh;apply hid2 c0 y0;intro _ γ;obtain⟨la,of,rfl,rfl,h1,h3,Jj,IT⟩:=hh;refine γ _ _ ?_;dsimp only
 refine aX (aM.mono (fM (λi c y=>∃lo hi,c=(λ_=>(none,lo,hi))/\y=aF P HK g/\lo<=hi/\hi<=m/\hi-lo<=m-i/\(∀i,i<lo->bZ left lt p k base i=true)/\(∀i,hi<=i->i<m->bZ left lt p k base i=false))
  (λc y=>∃lo hi,c=(λ_=>(none,lo,hi))/\y=aF P HK g/\lo=hi/\hi<=m/\(∀i,i<lo->bZ left lt p k base i=true)/\(∀i,hi<=i->i<m->bZ left lt p k base i=false)) ?_ ?_ ⟨_,_,rfl,rfl,by omega,by omega,by omega,?_,?_⟩) ?_)
 ·rintro i c0 y0 _ _ hh;apply hid2 c0 y0;intro _ γ;obtain⟨lo,hi,rfl,rfl,h1,h2,h3,hA,hB⟩:=hh;refine γ _ _ ?_;dsimp only;refine cm (λK2=>bq (.inl ⟨_,rfl,_,_,rfl,rfl,by omega,h2,hA,hB⟩)) (λHS=>?_);refine aX (lB h0 hk hp (by omega) ?_);dsimp only;refine cm (λq=>bq (.inr ⟨_,rfl,_,_,rfl,rfl,by omega,h2,by omega,λi hi=>hm i _ (by omega) (by omega) q,hB⟩)) (λq=>bq (.inr ⟨_,rfl,_,_,rfl,rfl,by omega,by omega,by omega,hA,λi h1 h2=>hm' _ i h1 h2 (by simpa using q)⟩))
 ·rintro c0 y0 hh;apply hid2 c0 y0;intro _ γ;obtain⟨lo,hi,rfl,rfl,h1,h2,h3,hA,hB⟩:=hh;refine γ _ _ ?_;exact⟨lo,hi,rfl,rfl,by omega,h2,hA,hB⟩
 ·intro i h4
  rcases IT with IT|⟨IT,hex2⟩
  ·lia
  exact hm i _ (by omega) (by omega) hex2
 ·exact λi h4 h5=>hm' _ i h4 h5 Jj
 rintro c0 y0 hh;apply hid2 c0 y0;intro _ γ;obtain⟨lo,hi,rfl,rfl,rfl,h2,hA,hB⟩:=hh;refine γ _ _ ?_;exact bq (h _ h2 hA hB)
end
structure gY(lt:Nat->Nat->Bool):Prop where
 as:∀a b,lt a b=true->lt b a=false
 tr:∀a b c,lt b a=false->lt c b=false->lt c a=false
def Sg(lt:Nat->Nat->Bool)(p:Array Nat)(i j:Nat):Prop:=∀a b,i<=a->a<b->b<j->lt (p.getD b 0) (p.getD a 0)=false
def Dg(lt:Nat->Nat->Bool)(p:Array Nat)(i j:Nat):Prop:=∀a b,i<=a->a<b->b<j->lt (p.getD a 0) (p.getD b 0)=false
structure Kp(p p':Array Nat)(lo hi:Nat):Prop where
 sz:p'.size=p.size
 pm:p'.Perm p
 out:∀k,k<lo∨hi<=k->p'.getD k 0=p.getD k 0
theorem getD_at{p q:Array Nat}{i j:Nat}(h:p[i]?=q[j]?):p.getD i 0=q.getD j 0:=by rw[Array.getD_eq_getD_getElem?,Array.getD_eq_getD_getElem?,h]
theorem f9{p:Array Nat}{i j:Nat}(hj:j<=p.size)(k:Nat):(kas_rev p i j).getD k 0=if i<=k/\k<j then p.getD (i+j-1-k) 0 else p.getD k 0:=by
 have e:=getElem?_mirror_all (xs:=p) (i:=i) hj k;unfold kas_rev;split at e<;>rename_i h
 ·rw[if_pos h];exact getD_at e
 rw[if_neg h];exact getD_at e
theorem j4{p:Array Nat}{s l:Nat}(hs:s<p.size)(hl:l<=s)(k:Nat):(bubble p s (s-l)).getD k 0=if k=l then p.getD s 0 else if l<k/\k<=s then p.getD (k-1) 0 else p.getD k 0:=by
 have e:=getElem?_bubble hs (s-l) (by (exact Nat.sub_le _ _)) k;rw[show s-(s-l)=l by (clear hs;omega)] at e;split at e<;>rename_i h
 ·rw[if_pos h];exact getD_at e
 rw[if_neg h];split at e<;>rename_i h2
 ·rw[if_pos h2];exact getD_at e
 rw[if_neg h2];exact getD_at e
section
variable {n:Nat}{lt:Nat->Nat->Bool}{p p' p'':Array Nat}{lo hi i j k:Nat}
theorem Kp.refl:Kp p p lo hi:=⟨rfl,Array.Perm.refl _,λ_ _=>rfl⟩
theorem Kp.trans(h:Kp p p' lo hi)(h':Kp p' p'' lo hi):Kp p p'' lo hi:=⟨h'.sz.trans h.sz,h'.pm.trans h.pm,λk hk=>(h'.out k hk).trans (h.out k hk)⟩
theorem Kp.mono(h:Kp p p' lo hi)(q:hi<=hi'):Kp p p' lo hi':=⟨h.sz,h.pm,λk hk=>h.out k (by lia)⟩
theorem Kp.ent(h:Kp p p' lo hi)(e:fe n p):fe n p':=λx hx=>e x ((Array.perm_iff_toList_perm.mp h.pm).mem_iff.mp hx)
theorem Kp.rev(h1:lo<=i)(h2:j<=hi)(hj:j<=p.size):Kp p (kas_rev p i j) lo hi:=⟨CL _ _ _,mirror_perm _ _ _ _,λk hk=>by rw[f9 hj,if_neg (by (clear hj;omega))]⟩
theorem Kp.bub(h1:lo<=i)(h2:j<hi)(KN:i<=j)(hj:j<p.size):Kp p (bubble p j (j-i)) lo hi:=⟨bubble_size _ _ _,bubble_perm _ _ _,λk hk=>by rw[j4 hj KN,if_neg (by lia),if_neg (by (clear hj KN;lia))]⟩
theorem Sg.out(h:Sg lt p i j)(q:Kp p p' lo hi)(d:j<=lo∨hi<=i):Sg lt p' i j:=λa b h1 h2 h3=>by rw[q.out a (by lia),q.out b (by lia)];exact h a b h1 h2 h3
theorem Sg.snoc(O:gY lt)(h:Sg lt p i j)(e:i<j->lt (p.getD j 0) (p.getD (j-1) 0)=false):Sg lt p i (j+1):=λa b h1 h2 h3=>by
 by_cases hb:b<j
 ·exact h a b h1 h2 hb
 obtain rfl:b=j:=by (clear h2 h1 e;lia)
 by_cases ha:a=b-1
 ·subst ha;exact e (by (exact QE (by assumption) (by assumption)))
 exact O.tr _ _ _ (h a (b-1) h1 (by (clear hb h3 e h1;lia)) (by (clear ha hb h3 e h1;lia))) (e (by (exact QE (by assumption) (by assumption))))
theorem Dg.snoc(O:gY lt)(h:Dg lt p i j)(e:i<j->lt (p.getD (j-1) 0) (p.getD j 0)=false):Dg lt p i (j+1):=λa b h1 h2 h3=>by
 by_cases hb:b<j
 ·exact h a b h1 h2 hb
 obtain rfl:b=j:=by lia
 by_cases ha:a=b-1
 ·subst ha;exact e (by lia)
 exact O.tr _ _ _ (e (by (exact QE (by assumption) (by assumption)))) (h a (b-1) h1 (by lia) (by lia))
theorem Sg.one:Sg lt p i (i+1):=λa b h1 h2 h3=>by omega
theorem Dg.one:Dg lt p i (i+1):=λa b h1 h2 h3=>by omega
theorem Sg.rev(h:Sg lt p i j)(hj:j<=p.size):Dg lt (kas_rev p i j) i j:=λa b h1 h2 h3=>by
 rw[f9 hj,f9 hj,if_pos (by (clear hj;lia)),if_pos (by (clear hj;lia))];exact h _ _ (by (clear h2 h1 hj;lia)) (by (clear h1 hj;lia)) (by (clear h2 hj;lia))
theorem Dg.rev(h:Dg lt p i j)(hj:j<=p.size):Sg lt (kas_rev p i j) i j:=λa b h1 h2 h3=>by rw[f9 hj,f9 hj,if_pos (by lia),if_pos (by lia)];exact h _ _ (by lia) (by lia) (by lia)
theorem Dg.tail(h:Dg lt p i j)(t:Sg lt p k j)(hk:i<=k)(hj:j<=p.size):Dg lt (kas_rev p k j) i j:=λa b h1 h2 h3=>by
 rw[f9 hj,f9 hj];by_cases ha:k<=a
 ·rw[if_pos (by (clear h1 hj hk;omega)),if_pos (by (clear h1 hj hk;omega))];exact t _ _ (by (clear ha h2 h1 hj hk;omega)) (by (clear ha h1 hj hk;omega)) (by (clear h2 h1 hj hk;omega))
 rw[if_neg (by (clear h3 h2 h1 hj hk;omega))];by_cases hb:k<=b
 ·rw[if_pos (by (solve_by_elim (maxDepth:=4) only [*,QI,QT,Nat.succ_le_of_lt,Qh]))];exact h _ _ h1 (by (clear hb h2 h1 hj hk;omega)) (by (clear ha h2 h1 hj hk;omega))
 rw[if_neg (by (clear ha h3 h2 h1 hj hk;omega))];exact h _ _ h1 h2 h3
end
section
variable {n:Nat}{lt:Nat->Nat->Bool}{p:Array Nat}{HK:Array (Nat×Nat×Nat)}{g:Nat}
theorem qm{α:Type}{c:Prop}{inst:Ev->Decidable c}{q r:Ev->StateT SortSt Sem α}{R:(Ev->α)->(Ev->SortSt)->Prop}(C:Array Nat->Prop)(c0:¬c->C p)(h:∀p',C p'->aM n lt q (aF p' HK g) R)(h1:c->(∀p',C p'->aM n lt q (aF p' HK g) R)->aM n lt r (aF p HK g) R):aM n lt (λe=>@ite _ c (inst e) (r e) (q e)) (aF p HK g) R:=
 cm (λz=>h1 z h) (λz=>h p (c0 z))
theorem CQ{lo m:Nat}{R:(Ev->Option Nat)->(Ev->SortSt)->Prop}(O:gY lt)(h0:0<n)(hp:fe n p)(hm:0<m)(HR:lo+m<=p.size)(h:∀p' k,Kp p p' lo (lo+k)->0<k->k<=m->Sg lt p' lo (lo+k)->(Sg lt p lo (lo+m)->p'=p/\k=m)->R (λ_=>some k) (aF p' HK g)) :
  aM n lt (λ_=>countRun' lo m) (aF p HK g) R:=by
 refine aX (aM.mono (fM (λi c y=>∃k,c=(λ_=>(none,k))/\y=aF p HK g/\0<k/\k=i/\Sg lt p lo (lo+k)) (λc y=>∃k,c=(λ_=>(none,k))/\y=aF p HK g/\0<k/\k<=m/\Sg lt p lo (lo+k)/\(k<m->lt (p.getD (lo+k) 0) (p.getD (lo+k-1) 0)=true)) ?_ ?_ ⟨_,rfl,rfl,by (exact Nat.lt_succ_self _),by (rfl),Sg.one⟩) ?_)
 ·rintro i c0 y0 _ _ hh;apply hid2 c0 y0;intro _ γ;obtain⟨k,rfl,rfl,h1,h2,hS⟩:=hh;refine γ _ _ ?_;refine aX (jZ h0 hp (by dsimp only;(clear h1 h hm h0;lia)) (by dsimp only;(clear h1 h hm h0;lia)) ?_);dsimp only;exact cm (λz=>bq (.inl ⟨_,rfl,_,rfl,rfl,h1,by (clear h1 h HR hm h0;lia),hS,λ_=>z⟩)) (λz=>bq (.inr ⟨_,rfl,_,rfl,rfl,by (exact Nat.lt_succ_of_lt (by assumption)),by (clear z h1 h HR hm h0;lia),hS.snoc O λ_=>by simpa using z⟩))
 ·rintro c0 y0 hh;apply hid2 c0 y0;intro _ γ;obtain⟨k,rfl,rfl,h1,h2,hS⟩:=hh;refine γ _ _ ?_;exact⟨k,rfl,rfl,h1,by (clear h1 h HR h0;lia),hS,λz=>by lia⟩
 rintro c0 y0 hh;apply hid2 c0 y0;intro _ γ;obtain⟨k,rfl,rfl,h1,h2,hS,hx⟩:=hh;refine γ _ _ ?_;dsimp only;refine qk (λe=>bq (h _ _ Kp.refl h1 h2 hS λ_=>⟨rfl,e⟩)) λHL=>?_;have hx:=hx (by (clear hx h1 h HR hm h0;lia));have no:¬Sg lt p lo (lo+m):=λq=>by have:=q (lo+k-1) (lo+k) (by (clear HL h2 h HR hm h0;lia)) (by (clear HL h2 h HR hm h0;lia)) (by (clear h1 h HR hm h0;lia));rw[hx] at this;cases this
 refine qm (λp'=>Kp p p' lo (lo+k+1)/\Dg lt p' lo (lo+k+1)) (λhk=>⟨Kp.refl,?_⟩) ?_ (λhk key=>aX (jZ h0 hp (by (clear key hk no HL h2 h1 h h0;lia)) (by (clear key hk no HL h1 h h0;lia)) ?_))
 ·obtain rfl:k=1:=by (clear no HL h2 h HR hm h0;lia)
  exact Dg.one.snoc O λ_=>O.as _ _ hx
 rotate_left
 ·dsimp only;refine cm (λ_=>bq (h _ _ Kp.refl h1 h2 hS λq=>absurd q no)) (λz=>aX (m8 (key _ ⟨Kp.rev (Qh _) (by (clear z key hk no HL h1 h HR hm h0;lia)) (by (clear z key hk no HL h1 h hm h0;lia)),?_⟩)));refine(hS.rev (by lia)).snoc O λ_=>?_;rw[f9 (by lia),f9 (by lia),if_pos (by (clear z key hk no HL h2 h1 h HR hm h0;lia)),if_neg (by (simp;done)),show lo+(lo+k)-1-(lo+k-1)=lo by (clear z key hk no HL h2 h1 h HR hm h0;lia)];exact O.tr _ _ _ (O.as _ _ hx) (by simpa using z)
 rintro p1 ⟨HU,hD1⟩;refine aX (m7 ?_)
 refine aX (aM.mono (fM (λi c y=>∃p' j q,c=(λ_=>(none,j,q))/\y=aF p' HK g/\Kp p p' lo (lo+j)/\j=i/\q+1<=j/\Dg lt p' lo (lo+j)/\Sg lt p' (lo+j-(q+1)) (lo+j))
  (λc y=>∃p' j q,c=(λ_=>(none,j,q))/\y=aF p' HK g/\Kp p p' lo (lo+j)/\j<=m/\q+1<=j/\Dg lt p' lo (lo+j)/\Sg lt p' (lo+j-(q+1)) (lo+j)) ?_ ?_ ⟨_,_,_,rfl,rfl,HU,by (rfl),by (exact Nat.lt_succ_of_lt (by assumption)),hD1,λa b h1 h2 h3=>by (clear no HL h HR hm h0;lia)⟩) ?_)
 ·rintro i c0 y0 _ _ hh;apply hid2 c0 y0;intro _ γ;obtain⟨p2,j,q,rfl,rfl,IX,h3,h4,hD,hS⟩:=hh;refine γ _ _ ?_;have JZ:=IX.ent hp;have IC:=IX.sz;dsimp only;refine aX (jZ h0 JZ (by (clear h4 no HL h2 h1 h hm h0;lia)) (by (clear h4 no HL h2 h1 h hm h0;lia)) ?_);dsimp only;refine cm (λz=>qm (λp'=>Kp p p' lo (lo+j+1)/\Dg lt p' lo (lo+j+1)) (λ_=>⟨IX.mono (Nat.le_succ _),hD.snoc O λ_=>O.as _ _ z⟩) (λp' IB=>bq (.inr ⟨_,rfl,_,_,_,rfl,rfl,IB.1,by (clear IB IC h4 no HL h2 h1 h HR hm h0;lia),by (exact Nat.le_add_left _ _),IB.2,λa b h1 h2 h3=>by (clear IB IC h4 no HL h HR hm h0;lia)⟩)) (λ_ key=>aX (m8 (key _ ⟨(IX.mono (Nat.le_succ _)).trans (Kp.rev (by (clear key IC h3 no HL h2 h1 h HR hm h0;lia)) (Nat.le_succ _) (by (clear key h4 no HL h2 h1 h hm h0;lia))),?_⟩)))) (λz=>?_)
  ·refine(hD.tail hS (by lia) (by lia)).snoc O λ_=>?_;rw[f9 (by lia),f9 (by lia),if_pos (by (clear key IC h4 h3 no HL h2 h1 h HR hm h0;lia)),if_neg (by (simp;done)),show lo+j-(q+1)+(lo+j)-1-(lo+j-1)=lo+j-(q+1) by (clear key IC h4 h3 no HL h2 h1 h HR hm h0;lia)];by_cases hq:q=0
   ·subst hq;exact O.as _ _ z
   exact O.tr _ _ _ (O.as _ _ z) (hD _ _ (by lia) (by (clear hq key IC h4 no HL h2 h HR hm h0;lia)) (by (clear hq key IC h4 h3 no HL h2 h1 h HR hm h0;lia)))
  refine aX (jZ h0 JZ (by lia) (by lia) ?_);dsimp only
  exact cm (λ_=>bq (.inl ⟨_,rfl,_,_,_,rfl,rfl,IX,by (clear z IC h4 no HL h2 h1 h HR hm h0;lia),h4,hD,hS⟩)) (λz2=>bq (.inr ⟨_,rfl,_,_,_,rfl,rfl,IX.mono (Nat.le_succ _),by lia,by (exact Nat.lt_succ_of_le (by assumption)),hD.snoc O λ_=>by simpa using z2,by
   rw[show lo+(j+1)-(q+1+1)=lo+j-(q+1) by lia]
   exact hS.snoc O λ_=>by simpa using z⟩))
 ·rintro c0 y0 hh;apply hid2 c0 y0;intro _ γ;obtain⟨p2,j,q,rfl,rfl,IX,h3,h4,hD,hS⟩:=hh;refine γ _ _ ?_;exact⟨p2,j,q,rfl,rfl,IX,by (clear h4 no h1 h HR hm h0;lia),h4,hD,hS⟩
 rintro c0 y0 hh;apply hid2 c0 y0;intro _ γ;obtain⟨p2,j,q,rfl,rfl,IX,h3,h4,hD,hS⟩:=hh;refine γ _ _ ?_;have IC:=IX.sz;dsimp only;refine qm (λp'=>Kp p p' lo (lo+j)/\Dg lt p' lo (lo+j)) (λ_=>⟨IX,hD⟩) ?_ (λ_ key=>aX (m8 (key _ ⟨IX.trans (Kp.rev (by (clear key IC h3 no HL h2 h1 h HR hm h0;lia)) (Qh _) (by (clear key h4 no HL h2 h1 h hm h0;lia))),hD.tail hS (by lia) (by lia)⟩)));rintro p3 ⟨Iy,hD3⟩;have hs3:=Iy.sz;refine aX (m8 ?_);have Lb:Kp p (kas_rev p3 lo (lo+j)) lo (lo+j):=Iy.trans (Kp.rev (Qh _) (Qh _) (by (clear IC h4 no HL h2 h1 h hm h0;lia)));have Kh:=hD3.rev (by lia);generalize kas_rev p3 lo (lo+j)=p4 at Lb Kh ⊢;have hs4:=Lb.sz;have hp4:=Lb.ent hp;refine aX (aM.mono (fM (λi c y=>∃k,c=(λ_=>(none,k))/\y=aF p4 HK g/\j<=k/\k=i/\Sg lt p4 lo (lo+k)) (λc y=>∃k,c=(λ_=>(none,k))/\y=aF p4 HK g/\j<=k/\k<=m/\Sg lt p4 lo (lo+k)) ?_ ?_ ⟨_,rfl,rfl,Qh _,by (rfl),Kh⟩) ?_)
 ·rintro i c0 y0 _ _ hh;apply hid2 c0 y0;intro _ γ;obtain⟨k,rfl,rfl,h1,h2,hS⟩:=hh;refine γ _ _ ?_;refine aX (jZ h0 hp4 (by dsimp only;(clear hs3 IC h3 no HL h hm h0;lia)) (by dsimp only;(clear hs3 IC h3 no HL h hm h0;lia)) ?_);dsimp only;exact cm (λ_=>bq (.inl ⟨_,rfl,_,rfl,rfl,h1,by (clear h1 hs4 hs3 IC h4 h3 no HL h HR hm h0;lia),hS⟩)) (λz=>bq (.inr ⟨_,rfl,_,rfl,rfl,Nat.le_succ_of_le h1,by (clear z h1 hs4 hs3 IC h4 h3 no HL h HR hm h0;lia),hS.snoc O λ_=>by simpa using z⟩))
 ·rintro c0 y0 hh;apply hid2 c0 y0;intro _ γ;obtain⟨k,rfl,rfl,h1,h2,hS⟩:=hh;refine γ _ _ ?_;exact⟨k,rfl,rfl,h1,by (clear h1 hs4 hs3 IC h4 no HL h HR hm h0;lia),hS⟩
 rintro c0 y0 hh;apply hid2 c0 y0;intro _ γ;obtain⟨k,rfl,rfl,h1,h2,hS⟩:=hh;refine γ _ _ ?_;exact bq (h _ _ (Lb.mono (Nat.add_le_add_left h1 _)) (by lia) h2 hS λq=>absurd q no)
theorem CS{lo m ok:Nat}{R:(Ev->Bool)->(Ev->SortSt)->Prop}(O:gY lt)(h0:0<n)(hp:fe n p)(HR:lo+m<=p.size)(hok:0<ok)(hm:ok<=m)(K3:Sg lt p lo (lo+ok))(h:∀p',Kp p p' lo (lo+m)->Sg lt p' lo (lo+m)->(ok=m->p'=p)->R (λ_=>true) (aF p' HK g)) :
  aM n lt (λ_=>binarySort' lo m ok) (aF p HK g) R:=by
 refine aX (aM.mono (fM (λi c y=>∃p',c=(λ_=>(none,()))/\y=aF p' HK g/\Kp p p' lo (lo+m)/\Sg lt p' lo (lo+i)/\(i<=ok->p'=p)) (λc y=>∃p',c=(λ_=>(none,()))/\y=aF p' HK g/\Kp p p' lo (lo+m)/\Sg lt p' lo (lo+m)/\(ok=m->p'=p)) ?_ ?_ ⟨_,rfl,rfl,Kp.refl,by rw[show max ok 1=ok by (clear h hm HR h0;omega)];exact K3,λ_=>rfl⟩) ?_)
 ·rintro i c0 y0 Ie hi hh;apply hid2 c0 y0;intro _ γ;obtain⟨p1,rfl,rfl,HU,Ld,_⟩:=hh;refine γ _ _ ?_;have IA:=HU.ent hp;have Im:=HU.sz;dsimp only
  refine aX (aM.mono (fM (λt c y=>∃l r,c=(λ_=>(none,l,r))/\y=aF p1 HK g/\l<=r/\r<=i/\r-l<=i-t/\(∀a,a<l->lt (p1.getD (lo+i) 0) (p1.getD (lo+a) 0)=false)/\(∀a,r<=a->a<i->lt (p1.getD (lo+i) 0) (p1.getD (lo+a) 0)=true))
   (λc y=>∃l r:Nat,c=(λ_=>(none,l,r))/\y=aF p1 HK g/\l<=i/\(∀a,a<l->lt (p1.getD (lo+i) 0) (p1.getD (lo+a) 0)=false)/\(∀a,l<=a->a<i->lt (p1.getD (lo+i) 0) (p1.getD (lo+a) 0)=true)) ?_ ?_ ⟨_,_,rfl,rfl,Qy _,Qh _,by (exact Nat.sub_le _ _),λa h=>by (contradiction),λa h1 h2=>by (clear Im hi Ie h hm hok HR h0;omega)⟩) ?_)
  ·rintro k c0 y0 _ hk hh;apply hid2 c0 y0;intro _ γ;obtain⟨l,r,rfl,rfl,h1,h2,h3,hA,hB⟩:=hh;refine γ _ _ ?_;dsimp only;refine cm (λz=>bq (.inl ⟨_,rfl,_,_,rfl,rfl,by (exact QR (by assumption) (by assumption)),hA,λa q=>hB a (by (exact QR (by assumption) (by assumption)))⟩)) (λLa=>aX (jZ h0 IA (by (clear La hB hA h3 h2 h1 hk Ie h hm hok h0;omega)) (by (clear La hB hA h3 hk Ie h hm hok h0;omega)) ?_));dsimp only;refine cm (λz=>bq (.inr ⟨_,rfl,_,_,rfl,rfl,by (clear La hB hA h3 h2 hk Im hi Ie h hm hok HR h0;omega),by (clear La hB hA h3 hk Im hi Ie h hm hok HR h0;omega),by (clear La hB hA h2 h1 hk Im hi Ie h hm hok HR h0;omega),hA,λa q1 q2=>?_⟩)) (λz=>bq (.inr ⟨_,rfl,_,_,rfl,rfl,by (clear z hB hA h3 h2 h1 hk Im hi Ie h hm hok HR h0;omega),by (assumption),by (clear z La hB hA h2 h1 hk Im hi Ie h hm hok HR h0;omega),λa q1=>?_,hB⟩))
   ·by_cases e:a=(l+r)/2
    ·subst e;exact z
    cases e2:lt (p1.getD (lo+i) 0) (p1.getD (lo+a) 0) with
    |true=>rfl
    |false=>rw[O.tr _ _ _ (Ld (lo+(l+r)/2) (lo+a) (by (exact Nat.le_add_right _ _)) (by (clear q2 La hB hA h3 h2 h1 hk Im hi Ie h hm hok HR h0;omega)) (by (clear e q1 La hB hA h3 h2 h1 hk Im hi Ie h hm hok HR h0;omega))) e2] at z;cases z
   by_cases e:a=(l+r)/2
   ·subst e;simpa using z
   exact O.tr _ _ _ (Ld (lo+a) (lo+(l+r)/2) (by (exact Nat.le_add_right _ _)) (by (clear z La hB hA h3 h2 h1 hk Im hi Ie h hm hok HR h0;omega)) (by (clear e q1 z hB hA h3 h1 hk Im hi Ie h hm hok HR h0;omega))) (by simpa using z)
  ·rintro c0 y0 hh;apply hid2 c0 y0;intro _ γ;obtain⟨l,r,rfl,rfl,h1,h2,h3,hA,hB⟩:=hh;refine γ _ _ ?_;exact⟨l,r,rfl,rfl,by (exact QR (by assumption) (by assumption)),hA,λa q=>hB a (by (clear hB hA h2 h1 Im hi Ie h hm hok HR h0;omega))⟩
  rintro c0 y0 hh;apply hid2 c0 y0;intro _ γ;obtain⟨l,r,rfl,rfl,hl,hA,hB⟩:=hh;refine γ _ _ ?_;dsimp only;refine aX (CG (bq (.inr ⟨_,rfl,_,rfl,rfl,HU.trans (Kp.bub (by (exact Nat.le_add_right _ _)) (by (clear hB hA hl Im Ie h hm hok HR h0;omega)) (by (clear hB hA Im hi Ie h hm hok HR h0;omega)) (by (clear hB hA hl Ie h hm hok h0;omega))),λa b h1 h2 h3=>?_,λq=>absurd q (by (clear q hB hA hl Im hi h hm hok HR h0;omega))⟩)));rw[j4 (by omega) (by (clear h3 h2 h1 hB hA Im hi Ie h hm hok HR h0;omega)),j4 (by omega) (by omega)];have key:∀a,lo<=a->a<lo+l->lt (p1.getD (lo+i) 0) (p1.getD a 0)=false:=λa q1 q2=>by have:=hA (a-lo) (by (clear h3 h2 h1 hB hA hl Im hi Ie h hm hok HR h0;omega));rwa [show lo+(a-lo)=a by (clear q2 h3 h2 h1 hB hA hl Im hi Ie h hm hok HR h0;omega)] at this
  have Ir:∀a,lo+l<=a->a<lo+i->lt (p1.getD (lo+i) 0) (p1.getD a 0)=true:=λa q1 q2=>by have:=hB (a-lo) (by (clear q2 key h3 h2 h1 hB hA hl Im hi Ie h hm hok HR h0;omega)) (by omega);rwa [show lo+(a-lo)=a by (clear q2 key h3 h2 h1 hB hA hl Im hi Ie h hm hok HR h0;omega)] at this
  by_cases ea:a=lo+l
  ·rw[if_pos ea,if_neg (by (clear Ir key h3 h1 hB hA hl Im hi Ie h hm hok HR h0;omega)),if_pos (by (clear Ir key h1 hB hA hl Im hi Ie h hm hok HR h0;omega))];exact O.as _ _ (Ir _ (by (clear Ir key h3 h1 hB hA hl Im hi Ie h hm hok HR h0;omega)) (by (clear ea Ir key h2 h1 hB hA hl Im hi h hm hok HR h0;omega)))
  rw[if_neg ea];by_cases eb:b=lo+l
  ·rw[if_pos eb,if_neg (by (clear ea Ir key h3 h1 hB hA hl Im hi Ie h hm hok HR h0;omega))];exact key a h1 (by (clear ea Ir key h3 h1 hB hA hl Im hi Ie h hm hok HR h0;omega))
  rw[if_neg eb];by_cases ha:lo+l<a
  ·rw[if_pos (by (clear eb ea Ir key h1 hB hA hl Im hi Ie h hm hok HR h0;omega)),if_pos (by (clear eb ea Ir key h1 hB hA hl Im hi Ie h hm hok HR h0;omega))];exact Ld _ _ (by (clear eb ea Ir key h3 h2 h1 hB hA hl Im hi Ie h hm hok HR h0;omega)) (by (clear eb ea Ir key h3 h1 hB hA hl Im hi Ie h hm hok HR h0;omega)) (by omega)
  rw[if_neg (show ¬(lo+l<a/\a<=lo+i) by (clear eb ea Ir key h3 h2 h1 hB hA hl Im hi Ie h hm hok HR h0;omega))];by_cases hb:lo+l<b
  ·rw[if_pos (by (clear ha eb ea Ir key h2 h1 hB hA hl Im hi Ie h hm hok HR h0;omega))];exact Ld _ _ (by (assumption)) (by (clear eb Ir key h3 h2 h1 hB hA hl Im hi Ie h hm hok HR h0;omega)) (by omega)
  rw[if_neg (by (clear ha eb ea Ir key h3 h2 h1 hB hA hl Im hi Ie h hm hok HR h0;omega))];exact Ld _ _ (by (assumption)) (by (assumption)) (by (clear ha ea Ir key h3 h2 h1 hB hA Im hi Ie h hm hok HR h0;omega))
 ·rintro c0 y0 hh;apply hid2 c0 y0;intro _ γ;obtain⟨p1,rfl,rfl,HU,Ld,he⟩:=hh;refine γ _ _ ?_;exact⟨p1,rfl,rfl,HU,by rwa [show max (max ok 1) m=m by (clear he h HR h0;omega)] at Ld,λq=>he (by (clear he h hm HR h0;omega))⟩
 rintro c0 y0 hh;apply hid2 c0 y0;intro _ γ;obtain⟨p1,rfl,rfl,HU,Ld,he⟩:=hh;refine γ _ _ ?_;exact bq (h _ HU Ld he)
end
theorem u7(s:Nat):∀(po:List Nat) (k:Nat) (p:Array Nat) (j:Nat),s+k+po.length<=p.size->(putN po k s p).getD j 0=if s+k<=j/\j<s+k+po.length then po.getD (j-(s+k)) 0 else p.getD j 0
 | [],k,p,j,h=>by rw[if_neg (λq=>by have:=q.2;simp at this;(clear h;lia))];rfl
 |a::po,k,p,j,h=>by
  show(putN po (k+1) s (p.setIfInBounds (s+k) a)).getD j 0=_;rw[QU] at h ⊢;rw[u7 s po (k+1) _ j (by rw[Array.size_setIfInBounds];lia)];by_cases h1:j=s+k
  ·subst h1;rw[if_neg (by (clear h;lia)),if_pos (by (simp;done))];simp[Array.getD,show s+k<p.size by lia]
  have e:(p.setIfInBounds (s+k) a).getD j 0=p.getD j 0:=getD_at (by rw[Array.getElem?_setIfInBounds];rw[if_neg (by (solve_by_elim (maxDepth:=4) only [*,QI,QT,Nat.succ_le_of_lt,Qh]))]);rw[e];by_cases h2:s+k<=j/\j<s+k+(po.length+1)
  ·rw[if_pos h2,if_pos (by (clear e h;lia)),show j-(s+k)=(j-(s+(k+1)))+1 by (clear e h;lia),List.getD_cons_succ]
  rw[if_neg h2,if_neg (by (clear e h1 h;lia))]
def lC(n:Nat)(lt:Nat->Nat->Bool):Prop:=n<64∨n<128/\∀i j k,i<j->i<k->j<n->k<n->lt j i=true->lt k i=true->j=k
theorem CT(h:n<128):n<=2*(sortPriv% PySem.Builtin.minRun) n n 0:=by
 cases n with
 |zero=>exact Qy _
 |succ n =>
  show n+1<=2*(if n+1<64 then n+1+0 else(sortPriv% PySem.Builtin.minRun) n ((n+1)/2) (max 0 ((n+1)%2)));split
  ·lia
  cases n with
  |zero=>lia
  |succ n =>
   show n+1+1<=2*(if(n+1+1)/2<64 then(n+1+1)/2+max 0 ((n+1+1)%2) else(sortPriv% PySem.Builtin.minRun) n _ _);rw[if_pos (by lia)];lia
theorem CU(h:n<64):(sortPriv% PySem.Builtin.minRun) n n 0=n:=by
 cases n with
 |zero=>rfl
 |succ n =>
  show(if n+1<64 then n+1+0 else _)=n+1;rw[if_pos h]
section
variable {n:Nat}{lt:Nat->Nat->Bool}{p p1 p2:Array Nat}{HK:Array (Nat×Nat×Nat)}{g:Nat}
theorem iJ(h:i<p.size):p.getD i 0=p.toList[i]:=by simp[Array.getD,h]
theorem vc{i j k:Nat}(hj:j<=p.size)(hk:i+k<j):(p.extract i j).toList.getD k 0=p.getD (i+k) 0:=by
 rw[Qd,Qb (by rw[QM,Array.size_extract];lia),Array.getElem_toList,Array.getElem_extract];simp[Array.getD,show i+k<p.size by lia]
theorem CV(e:∀k,k<m->p1.getD k 0=p.getD k 0)(s:p1.size=p.size):p1.toList.take m=p.toList.take m:=by refine List.ext_getElem (by simp[s]) λi h1 h2=>?_;simp at h1 h2;rw[List.getElem_take,List.getElem_take,<-iJ,<-iJ];exact e i (by lia)
theorem vd(e:∀k,m<=k->p1.getD k 0=p.getD k 0)(s:p1.size=p.size):p1.toList.drop m=p.toList.drop m:=by refine List.ext_getElem (by simp[s]) λi h1 h2=>?_;simp at h1 h2;rw[List.getElem_drop,List.getElem_drop,<-iJ (by lia),<-iJ (by lia)];exact e _ (Nat.le_add_right _ _)
theorem CW(hp:p=(List.range n).toArray)(h:∀i j k,i<j->i<k->j<n->k<n->lt j i=true->lt k i=true->j=k)(hm:0<m)(k1:Kp p p1 0 m)(k2:Kp p1 p2 m n){j k:Nat}(hj:m<=j)(hjn:j<n)(hk:m<=k)(hkn:k<n)
  (e1:lt (p2.getD j 0) (p2.getD (m-1) 0)=true) (e2:lt (p2.getD k 0) (p2.getD (m-1) 0)=true):j=k:=by
 have s1:=k1.sz;have s2:=k2.sz;have hs:p.size=n:=by rw[hp];simp
 have q1:=Array.perm_iff_toList_perm.mp k1.pm;have q2:=Array.perm_iff_toList_perm.mp k2.pm;have t1:(p1.toList.take m).Perm (p.toList.take m):=by rw[<-List.take_append_drop m p1.toList,<-List.take_append_drop m p.toList,vd (λk hk=>k1.out k (.inr hk)) s1] at q1;exact(List.perm_append_right_iff _).mp q1
 have d2:(p2.toList.drop m).Perm (p.toList.drop m):=by rw[<-List.take_append_drop m p2.toList,<-List.take_append_drop m p1.toList,CV (λk hk=>k2.out k (.inl hk)) s2] at q2;rw[<-vd (λk hk=>k1.out k (.inr hk)) s1];exact(List.perm_append_left_iff _).mp q2
 have HR:p2.getD (m-1) 0<m:=by
  rw[k2.out _ (.inl (by lia))];have:p1.getD (m-1) 0∈p1.toList.take m:=by rw[iJ (by lia)];exact List.mem_take_iff_getElem.mpr ⟨m-1,by simp;lia,rfl⟩
  have:=t1.mem_iff.mp this;rw[hp,List.toList_toArray,List.take_range] at this;have:=List.mem_range.mp this;lia
 have hhi:∀i,m<=i->i<n->m<=p2.getD i 0/\p2.getD i 0<n:=λi h1 h2=>by
  have:p2.getD i 0∈p2.toList.drop m:=by rw[iJ (by lia)];exact List.mem_drop_iff_getElem.mpr ⟨i-m,by simp;lia,by simp[show m+(i-m)=i by lia]⟩
  have:=d2.mem_iff.mp this;rw[hp] at this;simp only[List.range_eq_range',List.drop_range'] at this;have:=List.mem_range'_1.mp this;lia
 have I0:p2.toList.Nodup:=(q2.trans q1).nodup_iff.mpr (by rw[hp];exact List.nodup_range);have e:=h _ _ _ (QI HR (hhi j hj hjn).1) (QI HR (hhi k hk hkn).1) (hhi j hj hjn).2 (hhi k hk hkn).2 e1 e2;rw[iJ (by lia),iJ (by lia)] at e;exact(List.getElem_inj I0).mp e
theorem Sg.late(O:gY lt){m k:Nat}(hm:m<n)(hs:n<=p.size)(hk:k<=m)(sA:Sg lt p 0 m)(sB:Sg lt p m n)(hA:∀i,i<k->lt (p.getD m 0) (p.getD i 0)=false)(hB:∀i,k<=i->i<m->lt (p.getD m 0) (p.getD i 0)=true)
  (hC:∀i,m<i->i<n->lt (p.getD i 0) (p.getD (m-1) 0)=false):Sg lt (bubble p m (m-k)) 0 n:=λa b _ h2 h3=>by
 have low:∀b i,m<b->b<n->i<=m->lt (p.getD b 0) (p.getD i 0)=false:=λb i h1 h2 h3=>by
  by_cases e:i=m
  ·subst e;exact sB _ _ (Qh _) h1 h2
  by_cases e1:i=m-1
  ·subst e1;exact hC b h1 h2
  exact O.tr _ _ _ (sA i (m-1) (Qy _) (by lia) (by lia)) (hC b h1 h2)
 rw[j4 (by lia) hk,j4 (by lia) hk];by_cases hb:m<b
 ·rw[if_neg (show ¬b=k by lia),if_neg (show ¬(k<b/\b<=m) by lia)];by_cases ha:m<a
  ·rw[if_neg (by lia),if_neg (by lia)];exact sB a b (QT ha) h2 h3
  split
  ·exact low b m hb h3 (Qh _)
  split<;>exact low b _ hb h3 (by lia)
 by_cases ea:a=k
 ·rw[if_pos ea,if_neg (by lia),if_pos (by lia)];exact O.as _ _ (hB _ (by lia) (by lia))
 rw[if_neg ea];by_cases eb:b=k
 ·rw[if_pos eb,if_neg (by lia)];exact hA a (by lia)
 rw[if_neg eb];by_cases ha:k<a
 ·rw[if_pos (by lia),if_pos (by lia)];exact sA _ _ (Qy _) (by lia) (by lia)
 rw[if_neg (show ¬(k<a/\a<=m) by lia)];split<;>exact sA _ _ (Qy _) (by lia) (by lia)
theorem Sg.two(O:gY lt)(sA:Sg lt p 0 m)(sB:Sg lt p m n)(e:lt (p.getD m 0) (p.getD (m-1) 0)=false):Sg lt p 0 n:=λa b _ h2 h3=>by
 by_cases hb:b<m
 ·exact sA a b (Qy _) h2 hb
 by_cases ha:a<m
 ·have q:lt (p.getD m 0) (p.getD a 0)=false:=by
   by_cases e1:a=m-1
   ·subst e1;exact e
   exact O.tr _ _ _ (sA a (m-1) (Qy _) (by lia) (by lia)) e
  by_cases e2:b=m
  ·subst e2;exact q
  exact O.tr _ _ _ q (sB m b (Qh _) (by lia) h3)
 exact sB a b (by lia) h2 h3
section
variable {P pa pb:Array Nat}
theorem vf{α:Type}{x:Ev->SortSt}{c:Ev->Prop}{inst:∀e,Decidable (c e)}{p q:Ev->StateT SortSt Sem α}{R:(Ev->α)->(Ev->SortSt)->Prop}(hc:∀e,c e)(h:aM n lt p x R):aM n lt (λe=>@ite _ (c e) (inst e) (p e) (q e)) x R:=by have e:(λe=>@ite _ (c e) (inst e) (p e) (q e))=p:=funext λe=>if_pos (hc e);rw[e];exact h
theorem CY{α:Type}{x:Ev->SortSt}{c:Ev->Prop}{inst:∀e,Decidable (c e)}{p q:Ev->StateT SortSt Sem α}{R:(Ev->α)->(Ev->SortSt)->Prop}(hc:∀e,¬c e)(h:aM n lt q x R):aM n lt (λe=>@ite _ (c e) (inst e) (p e) (q e)) x R:=by have e:(λe=>@ite _ (c e) (inst e) (p e) (q e))=q:=funext λe=>if_neg (hc e);rw[e];exact h
theorem vg{α:Type}{x:Ev->SortSt}{a b:Ev->α}{R:(Ev->α)->(Ev->SortSt)->Prop}(h:R b x)(e:∀e,a e=b e):aM n lt (λe=>pure (a e)) x R:=bq ((funext e:a=b) ▸ h)
theorem CZ{R:(Ev->Array Keyed)->(Ev->SortSt)->Prop}(hb:pb.size=1)(h:R (λe=>bt e (pb++pa)) (aF P HK g)):aM n lt (λe=>CI (bt e pa) (bt e pb)) (aF P HK g) R:=by
 refine aX (m7 (aX (jg (p:=pb) (by lia) (vf (λe=>by rw[lz,hb];rfl) (vg h λe=>?_)))));obtain⟨x,rfl⟩:=Array.size_eq_one_iff.mp hb;show #[dP e x]++(bt e pa).extract 0 (bt e pa).size++(bt e #[x]).extract 1 (bt e #[x]).size=_;rw[Array.extract_size];simp[bt]
theorem C0{R:(Ev->Array Keyed)->(Ev->SortSt)->Prop}(ha:1<pa.size)(hb:pb.size=1)(h:R (λe=>bt e (pb++pa)) (aF P HK g)):aM n lt (λe=>CJ (bt e pa) (bt e pb)) (aF P HK g) R:=by
 refine aX (m7 (aX (aM.mono (R:=λa y=>a=(λe=>dP e (pa.getD (pa.size-1) 0))/\y=aF P HK g) (by simp only[lz];exact jg (by lia) ⟨rfl,rfl⟩) ?_)));rintro _ _ ⟨rfl,rfl⟩;refine CY (λe=>by rw[lz];simp;lia) (vf (λe=>by rw[lz,hb];rfl) (vg h λe=>?_));obtain⟨x,rfl⟩:=Array.size_eq_one_iff.mp hb;obtain⟨pa,y,rfl⟩:=Array.exists_push_of_size_pos (xs:=pa) (by lia);simp[bt]
end
theorem C1{i m:Nat}{u v:Nat}{R:(Ev->Bool)->(Ev->SortSt)->Prop}(O:gY lt)(h0:0<n)(hp:fe n p)(hs:p.size=n)(h1:0<m)(h2:m<n)(hi:i+1<2)(sA:Sg lt p 0 m)(sB:Sg lt p m n)
  (hU:∀j k,m<=j->j<n->m<=k->k<n->lt (p.getD j 0) (p.getD (m-1) 0)=true->lt (p.getD k 0) (p.getD (m-1) 0)=true->j=k)
  (h:∀p' pend' g',pend'.size<=1->p'.Perm p->Sg lt p' 0 n->R (λ_=>true) (aF p' pend' g')):aM n lt (λ_=>mergeAt' i) (aF p #[(0,m,u),(m,n-m,v)] g) R:=by
 obtain rfl:i=0:=by lia
 refine j0 ?_;dsimp only;refine aX (CM ?_);generalize hpe:Array.eraseIdxIfInBounds _ _=pend';have hz:pend'.size<=1:=by rw[<-hpe];simp
 clear hpe;refine aX (jg (by lia) (aX (u6 h0 (hp.at h0 _) hp h1 (by lia) ?_ λk hk hA hB=>?_)))
 ·intro i j KN hj;simp only[bZ,QS,if_false,Bool.not_eq_true',Nat.zero_add];intro z;by_cases e:i=j
  ·subst e;exact z
  exact O.tr _ _ _ (sA i j (Qy _) (by lia) hj) z
 simp only[bZ,QS,if_false,Bool.not_eq_true',Bool.not_eq_false',Nat.zero_add] at hA hB;dsimp only;simp only[Nat.zero_add];refine qk (λz=>bq (h _ _ _ hz (Array.Perm.refl _) (sA.two O sB (hA _ (by lia))))) λIX=>aX (jg (by lia) (aX (u6 h0 (hp.at h0 _) hp (by lia) (by lia) ?_ λk2 Iy hA2 hB2=>?_)))
 ·intro i j KN hj;simp only[bZ,if_true];intro z;by_cases e:i=j
  ·subst e;exact z
  have q1:=sB (m+i) (m+j) (Nat.le_add_right _ _) (by lia) (by lia)
  cases e2:lt (p.getD (m+i) 0) (p.getD (k+(m-k)-1) 0) with
  |true=>rfl
  |false=>rw[O.tr _ _ _ e2 q1] at z;cases z
 simp only[bZ,if_true] at hA2 hB2;rw[show k+(m-k)-1=m-1 by lia] at hA2 hB2;dsimp only;refine qk (λz=>bq (h _ _ _ hz (Array.Perm.refl _) (sA.two O sB (hB2 0 (by lia) (by lia))))) λLb=>?_;obtain rfl:k2=1:=by refine Classical.byContradiction λz=>?_;have:=hU m (m+1) (Qh _) h2 (by lia) (by lia) (hA2 0 (by lia)) (hA2 1 (by lia));lia
 simp only[CK];have hx:(p.extract k m).size=m-k:=by rw[Array.size_extract,Nat.min_eq_left (by lia)]
 have hy:(p.extract m (m+1)).size=1:=by rw[Array.size_extract,Nat.min_eq_left (by lia),Nat.add_sub_cancel_left]
 have hl:(p.extract m (m+1)++p.extract k m).toList=p.getD m 0::(p.extract k m).toList:=by obtain⟨x,e⟩:=Array.size_eq_one_iff.mp hy;have:=vc (p:=p) (i:=m) (j:=m+1) (k:=0) (by lia) (Nat.lt_succ_self _);rw[e] at this ⊢;rw[show p.getD m 0=x from this.symm];simp
 have hE:putN (p.extract m (m+1)++p.extract k m).toList 0 k p=bubble p m (m-k):=by
  have hz:(p.getD m 0::(p.extract k m).toList).length=m-k+1:=by rw[QU,QM,hx]
  refine Array.ext (by rw[uZ,bubble_size]) λi q1 q2=>?_;have e:∀{q:Array Nat} (h:i<q.size),q[i]=q.getD i 0:=λh=>by simp[Array.getD,h]
  rw[e,e,hl,u7 _ _ _ _ _ (by rw[hz];lia),j4 (by lia) hk,hz];by_cases c1:i=k
  ·rw[if_pos c1,if_pos (by lia),c1];simp
  rw[if_neg c1];by_cases c2:k<i/\i<=m
  ·rw[if_pos c2,if_pos (by lia),show i-(k+0)=(i-k-1)+1 by lia,List.getD_cons_succ];rw[vc (by lia) (by lia),show k+(i-k-1)=i-1 by lia]
  rw[if_neg c2,if_neg (by lia)]
 have put:∀e:Ev,(bt e (p.extract m (m+1)++p.extract k m)).toList.zipIdx.foldl (λa (x:Keyed×Nat)=>a.setIfInBounds (k+x.2) x.1) (bt e p)=bt e (bubble p m (m-k)):=λe=>by rw[<-hE,show(bt e (p.extract m (m+1)++p.extract k m)).toList=(p.extract m (m+1)++p.extract k m).toList.map (dP e) from Array.toList_map];exact uY (dP e) k _ 0 p
 have last:aM n lt (fun e=>(do
   modify λs=>SortSt.mk' (kindOf s) ((bt e (p.extract m (m+1)++p.extract k m)).toList.zipIdx.foldl (λa (x:Keyed×Nat)=>a.setIfInBounds (k+x.2) x.1) (arrOf s)) (pendingOf s) (gallopOf s) (failedOf s)
   let s <- get
   pure (failedOf s).isNone:StateT SortSt Sem Bool)) (aF p pend' g) R:=
  aX (CN (p':=bubble p m (m-k)) (pend':=pend') (g':=g) (λe=>congrArg (λa=>SortSt.mk' e.κ a pend' g none) (put e)) (j0 (bq (h _ _ _ hz (bubble_perm _ _ _) (Sg.late O h2 (by lia) hk sA sB hA hB λi q1 q2=>by
   have:=hB2 (i-m) (by lia) (by lia);rwa [show m+(i-m)=i by lia] at this)))))
 exact cm (λ_=>aX (CZ hy last)) λz=>aX (C0 (by lia) hy last)
inductive j5 (n:Nat) (lt:Nat->Nat->Bool) (p:Array Nat):Array Nat->Array (Nat×Nat×Nat)->Prop
 |one {q pe}:pe.size<=1->q.Perm p->Sg lt q 0 n->(Sg lt p 0 n->q=p)->j5 n lt p q pe
 |two {q m u v}:0<m->m<n->q.Perm p->Sg lt q 0 m->Sg lt q m n->(∀j k,m<=j->j<n->m<=k->k<n->lt (q.getD j 0) (q.getD (m-1) 0)=true->lt (q.getD k 0) (q.getD (m-1) 0)=true->j=k)->¬Sg lt p 0 n->j5 n lt p q #[(0,m,u),(m,n-m,v)]
inductive j6 (n r:Nat) (lt:Nat->Nat->Bool) (p:Array Nat):Nat->Array Nat->Array (Nat×Nat×Nat)->Prop
 |a:j6 n r lt p 0 p #[]
 |b {lo q}:0<lo->r<=lo->lo<n->Kp p q 0 lo->Sg lt q 0 lo->¬Sg lt p 0 n->j6 n r lt p lo q #[(0,lo,0)]
 |c {q pe}:j5 n lt p q pe->j6 n r lt p n q pe
theorem j6.le(h:j6 n r lt p l q pe):l<=n:=by
 cases h with
 |a=>exact Qy _
 |b _ _ h=>exact QT h
 |c=>exact Qh _
theorem C2{α:Type}{c:Nat->Prop}{inst:∀k,Ev->Decidable (c k)}{X r:Nat->Ev->StateT SortSt Sem α}{R:(Ev->α)->(Ev->SortSt)->Prop}(A C:Nat->Array Nat->Prop)(h:∀k q,C k q->aM n lt (X k) (aF q HK g) R)(c0:∀k q,A k q->¬c k->C k q)
  (h1:∀k q,A k q->c k->(∀k q,C k q->aM n lt (X k) (aF q HK g) R)->aM n lt (r k) (aF q HK g) R):∀k q,A k q->aM n lt (λe=>@ite _ (c k) (inst k e) (r k e) (X k e)) (aF q HK g) R:=
 λk q a=>cm (λz=>h1 k q a z h) (λz=>h k q (c0 k q a z))
theorem C3{R:(Ev->Unit)->(Ev->SortSt)->Prop}(O:gY lt)(h0:0<n)(hp:p=(List.range n).toArray)(hF:lC n lt)(h:∀p' pend' g',p'.Perm p->Sg lt p' 0 n->(Sg lt p 0 n->p'=p)->R (λ_=>()) (aF p' pend' g')) :
  aM n lt (λ_=>sortRuns') (aF p #[] g) R:=by
 have hs:p.size=n:=by rw[hp];simp
 have hE:fe n p:=λx hx=>by rw[hp] at hx;simpa using hx
 refine j0 ?_;dsimp only;simp only[lz,hs];generalize hr:(sortPriv% PySem.Builtin.minRun) n n 0=r;have Iz:n<=2*r:=by rw[<-hr];exact CT (by unfold lC at hF;lia)
 have hr3:n<=r∨∀i j k,i<j->i<k->j<n->k<n->lt j i=true->lt k i=true->j=k:=hF.imp (λz=>by rw[<-hr,CU z];exact Qh _) And.right;clear hr hF;refine aX (aM.mono (fM (λi c y=>∃q pe lo,c=(λ_=>(none,lo))/\y=aF q pe g/\j6 n r lt p lo q pe/\i<=lo) (λc y=>∃q pe lo,c=(λ_=>(none,lo))/\y=aF q pe g/\j5 n lt p q pe) ?_ ?_ ⟨_,_,_,rfl,rfl,.a,Qh _⟩) ?_)
 ·rintro i c0 y0 _ _ hh;apply hid2 c0 y0;intro _ γ;obtain⟨q,pe,lo,rfl,rfl,hS,hi⟩:=hh;refine γ _ _ ?_;dsimp only;have hle:=hS.le;refine cm (λz=>bq (.inl ⟨_,rfl,_,_,_,rfl,rfl,?_⟩)) (λHS=>?_)
  ·cases hS with
   |a=>lia
   |b _ _ h=>lia
   |c h=>exact h
  have hq:Kp p q 0 lo/\(pe=#[]/\lo=0/\q=p∨pe=#[(0,lo,0)]/\0<lo/\r<=lo/\Sg lt q 0 lo/\¬Sg lt p 0 n):=by
   cases hS with
   |a=>exact⟨Kp.refl,.inl ⟨rfl,rfl,rfl⟩⟩
   |b h1 h2 h3 h4 h5 h6=>exact⟨h4,.inr ⟨rfl,h1,h2,h5,h6⟩⟩
   |c h=>exact absurd (Qh _) HS
  clear hS;obtain⟨hk,hq⟩:=hq;have hqs:=hk.sz;refine aX (CQ O h0 (hk.ent hE) (by lia) (by lia) λp1 k a1 a2 a3 a4 a5=>?_);dsimp only
  have hA:Kp q p1 lo (lo+k)/\0<k/\lo+k<=n/\Sg lt p1 lo (lo+k)/\(Sg lt q lo n->p1=q/\lo+k=n):=⟨a1,a2,by lia,a4,λz=>by
   have:=a5 (by rwa [show lo+(n-lo)=n by lia]);exact⟨this.1,by lia⟩⟩
  clear a1 a2 a3 a4 a5;revert k p1;intro p1 k hA;revert hA;revert p1;revert k;refine C2 (λk p1=>Kp q p1 lo (lo+k)/\0<k/\lo+k<=n/\Sg lt p1 lo (lo+k)/\(Sg lt q lo n->p1=q/\lo+k=n)) (λk p1=>Kp q p1 lo (lo+k)/\0<k/\lo+k<=n/\Sg lt p1 lo (lo+k)/\(Sg lt q lo n->p1=q/\lo+k=n)/\(r<=k∨lo+k=n)) ?_ (λk p1 a z=>⟨a.1,a.2.1,a.2.2.1,a.2.2.2.1,a.2.2.2.2,.inl (Nat.le_of_not_lt z)⟩) ?_
  ·rintro k p1 ⟨b1,b2,b3,b4,b5,b6⟩;refine j0 ?_
   rcases hq with ⟨rfl,rfl,rfl⟩|⟨rfl,q1,q2,q3,q4⟩
   ·rw[Nat.zero_add] at b1 b3 b4 b5 b6;refine aX (u4 (bq (.inr ⟨_,rfl,_,_,_,rfl,rfl,?_,by lia⟩)));rw[Nat.zero_add];by_cases e:k=n
    ·subst e;exact .c (.one (Qh _) b1.pm b4 λz=>(b5 z).1)
    exact .b b2 (by lia) (by lia) b1 b4 λz=>e (b5 z).2
   refine aX (aM.mono (fM (λ_ c y=>c=(λ_=>(none,()))/\y=aF p1 #[(0,lo,0)] g) (λc y=>c=(λ_=>(none,()))/\y=aF p1 #[(0,lo,0)] g) ?_ (λ_ _ z=>z) ⟨rfl,rfl⟩) ?_)
   ·rintro _ _ _ _ _ ⟨rfl,rfl⟩;exact j0 (bq (.inl ⟨_,rfl,rfl,rfl⟩))
   rintro _ _ ⟨rfl,rfl⟩;refine aX (CP (aX (u4 (bq (.inr ⟨_,rfl,_,_,_,rfl,rfl,?_,by lia⟩)))));obtain rfl:k=n-lo:=by lia
   have e:lo+(n-lo)=n:=by lia
   rw[e] at b1 b4 ⊢;exact .c (.two (m:=lo) q1 (by lia) (b1.pm.trans hk.pm) (q3.out b1 (.inl (Qh _))) b4 (λj k=>CW hp (hr3.resolve_left (by lia)) q1 hk b1) q4)
  rintro k p1 ⟨b1,b2,b3,b4,b5⟩ hkr key;have hz:=b1.sz;refine aX (m7 (aX (CS O h0 (b1.ent (hk.ent hE)) (by lia) b2 (by lia) b4 λp2 c1 c2 c3=>?_)));refine cm (λz=>absurd z (by decide)) (λ_=>key _ _ ⟨(b1.mono (by lia)).trans c1,by lia,by lia,c2,λz=>?_,?_⟩)
  ·obtain⟨e1,e2⟩:=b5 z;exact⟨(c3 (by lia)).trans e1,by lia⟩
  lia
 ·rintro c0 y0 hh;apply hid2 c0 y0;intro _ γ;obtain⟨q,pe,lo,rfl,rfl,hS,hi⟩:=hh;refine γ _ _ ?_;refine⟨q,pe,lo,rfl,rfl,?_⟩
  cases hS with
  |a=>lia
  |b _ _ h=>lia
  |c h=>exact h
 rintro c0 y0 hh;apply hid2 c0 y0;intro _ γ;obtain⟨q,pe,lo,rfl,rfl,hS⟩:=hh;refine γ _ _ ?_;dsimp only;refine aX (aM.mono (fM (λj c y=>∃q pe g',c=(λ_=>(none,()))/\y=aF q pe g'/\j5 n lt p q pe/\(0<j->pe.size<=1)) (λc y=>∃q pe g',c=(λ_=>(none,()))/\y=aF q pe g'/\j5 n lt p q pe/\pe.size<=1) ?_ ?_ ⟨_,_,_,rfl,rfl,hS,λz=>absurd z (Nat.lt_irrefl _)⟩) ?_)
 ·rintro j c0 y0 _ _ hh;apply hid2 c0 y0;intro _ γ;obtain⟨q,pe,g',rfl,rfl,hS,hj⟩:=hh;refine γ _ _ ?_;refine j0 ?_;dsimp +instances only;refine cm (λz=>bq (.inl ⟨_,rfl,_,_,_,rfl,rfl,hS,z⟩)) λz=>?_
  cases hS with
  |one h=>exact absurd h z
  |two h1 h2 pm sA sB hU no =>
   have hq:q.size=n:=by rw[pm.size_eq,hs]
   refine aX (C1 O h0 (λx hx=>hE x ((Array.perm_iff_toList_perm.mp pm).mem_iff.mp hx)) hq h1 h2 (CO (Nat.lt_succ_self _)) sA sB hU λp' pe' g' hz IB Ki=>?_);exact cm (λz=>absurd z (by decide)) (λ_=>bq (.inr ⟨_,rfl,_,_,_,rfl,rfl,.one hz (IB.trans pm) Ki λq=>absurd q no,λ_=>hz⟩))
 ·rintro c0 y0 hh;apply hid2 c0 y0;intro _ γ;obtain⟨q,pe,g',rfl,rfl,hS,hj⟩:=hh;refine γ _ _ ?_;exact⟨q,pe,g',rfl,rfl,hS,hj (by lia)⟩
 rintro c0 y0 hh;apply hid2 c0 y0;intro _ γ;obtain⟨q,pe,g',rfl,rfl,hS,hz⟩:=hh;refine γ _ _ ?_
 cases hS with
 |one _ h1 h2 h3=>exact bq (h _ _ _ h1 h2 h3)
 |two=>exact absurd (show 2<=1 from hz) (by decide)
end
theorem vi(n:Nat)(lt:Nat->Nat->Bool)(h0:0<n)(as:∀a b,a<n->b<n->lt a b=true->lt b a=false)(tr:∀a b c,a<n->b<n->c<n->lt b a=false->lt c b=false->lt c a=false)(few:lC n lt) :
  ∃P:Array Nat,(P.Perm (List.range n).toArray/\Sg lt P 0 n/\(Sg lt (List.range n).toArray 0 n->P=(List.range n).toArray))/\∃(HK:Array (Nat×Nat×Nat)) (g:Nat),∀(e:Ev) (prog:Program) (w:World) (A:Around) (E:Value->Shared->Prop) (s:Shared),qi n lt e prog w A s ->
  ∀Q:Unit->SortSt->Shared->Prop,Q () (aF P HK g e) s->kasC (model prog w) A E sortRuns' Q (aF (List.range n).toArray #[] 7 e) s:=by
 obtain⟨c,hc⟩:∃c:Nat->Nat,∀i,c i=if i<n then i else 0:=⟨_,λ_=>rfl⟩
 have cn:∀i,c i<n:=λi=>by rw[hc];split<;>(assumption)
 have ce:∀i,i<n->c i=i:=λi h=>by rw[hc,if_pos h]
 have O:gY λi j=>lt (c i) (c j):=⟨λa b h=>as _ _ (cn a) (cn b) h,λa b d h1 h2=>tr _ _ _ (cn a) (cn b) (cn d) h1 h2⟩
 obtain⟨a,y,⟨P,HK,g,h1,h2,h4,rfl⟩,h3⟩:=C3 (n:=n) (g:=7) (p:=(List.range n).toArray) (R:=λ_ y=>∃P HK g,P.Perm (List.range n).toArray/\Sg (λi j=>lt (c i) (c j)) P 0 n/\(Sg (λi j=>lt (c i) (c j)) (List.range n).toArray 0 n->P=(List.range n).toArray)/\y=aF P HK g) O h0 rfl (few.imp_right λz=>⟨z.1,λi j k h1 h2 h3 h4 e1 e2=>z.2 i j k h1 h2 h3 h4 (by have e1:lt (c j) (c i)=true:=e1;rwa [ce j h3,ce i (Nat.lt_trans h1 h3)] at e1) (by have e2:lt (c k) (c i)=true:=e2;rwa [ce k h4,ce i (Nat.lt_trans h1 h3)] at e2)⟩) λp' pend' g' h1 h2 h4=>⟨p',pend',g',h1,h2,h4,rfl⟩
 have hz:P.size=n:=by rw[h1.size_eq];simp
 have ent:∀i,i<n->P.getD i 0<n:=λi hi=>by
  have hm:P.getD i 0∈P.toList:=by simp[Array.getD,show i<P.size by lia]
  simpa using(Array.perm_iff_toList_perm.mp h1).mem_iff.mp hm
 refine⟨P,⟨h1,λi j q1 q2 q3=>?_,λq=>h4 λi j q1 q2 q3=>?_⟩,HK,g,λe prog w A E s ho=>h3 e prog w A E s λi j hi hj C hC=>ho i j hi hj C (by have hC:C (lt (c i) (c j)) s:=hC;rwa [ce i hi,ce j hj] at hC)⟩
 ·have:=(show lt (c (P.getD j 0)) (c (P.getD i 0))=false from h2 i j q1 q2 q3)
  rwa [ce _ (ent i (by (exact Nat.lt_trans (by assumption) (by assumption)))),ce _ (ent j q3)] at this
 have e:∀i,i<n->(List.range n).toArray.getD i 0=i:=λi h=>by simp[Array.getD,h]
 have:=q i j q1 q2 q3;show lt (c _) (c _)=false;rw[e i (by (exact Nat.lt_trans (by assumption) (by assumption))),e j q3] at this ⊢;rwa [ce i (by (exact Nat.lt_trans (by assumption) (by assumption))),ce j q3]
noncomputable def cF:ae->Bool
 |.inl _=>true
 |.inr _=>false
noncomputable def dQ:ae->ae->Bool
 |.inl i,.inl j=>decide (i<j)
 |.inr a,.inr c=>decide (a.cps.toList<c.cps.toList)
 |_,_=>false
noncomputable def bm:List ae->List ae->Bool
 |a::r,b::q=>if a=b then bm r q else dQ a b
 |_,_=>false
theorem C4{a c:Str}(h:a.cps.toList=c.cps.toList):a=c:=by obtain⟨x⟩:=a;obtain⟨y⟩:=c;have:x=y:=Array.toList_inj.mp h;rw[this]
theorem C5(h:dQ a b=true)(g:dQ b c=true):dQ a c=true:=by cases a<;>cases b<;>cases c<;>simp only[dQ,decide_eq_true_eq] at*<;>first|lia|exact List.lt_trans h g|cases h|cases g
theorem qo(h:dQ a b=true):dQ b a=false:=by cases a<;>cases b<;>simp only[dQ,decide_eq_true_eq,decide_eq_false_iff_not] at*<;>first|lia|exact List.lt_asymm h|cases h
theorem C6{a b:ae}(hs:cF a=cF b)(hn:a≠b)(h:dQ a b=false):dQ b a=true:=by
 cases a<;>cases b<;>simp only[dQ,decide_eq_true_eq,decide_eq_false_iff_not] at *
 ·rename_i i j;have:i≠j:=λe=>hn (by rw[e]);lia
 ·cases hs
 ·cases hs
 rename_i x y;refine Classical.byContradiction λg=>hn ?_;rw[C4 (List.le_antisymm (List.not_lt.mp g) (List.not_lt.mp h))]
theorem C7(a:ae):dQ a a=false:=by
 cases h:dQ a a with
 |false=>rfl
 |true=>have:=qo h;rw[h] at this;exact this
theorem vj:∀{a b c:List ae},bm a b=true->bm b c=true->bm a c=true
 |a::r,b::q,c::p,h,g=>by
  unfold bm at h g ⊢;by_cases e1:a=b
  ·subst e1;rw[if_pos rfl] at h;by_cases e2:a=c
   ·subst e2;rw[if_pos rfl] at g ⊢;exact vj h g
   rw[if_neg e2] at g ⊢;exact g
  rw[if_neg e1] at h;by_cases e2:b=c
  ·subst e2;rw[if_neg e1];exact h
  rw[if_neg e2] at g;have e3:a≠c:=λz=>by subst z;rw[qo h] at g;cases g
  rw[if_neg e3];exact C5 h g
 | [],_,_,h,_=>by unfold bm at h;cases h
 |_::_,[],_,h,_=>by unfold bm at h;cases h
 |_::_,_::_,[],_,g=>by unfold bm at g;cases g
theorem iK:∀{a b:List ae},bm a b=true->bm b a=false
 |a::r,b::q,h=>by
  unfold bm at h ⊢;by_cases e1:a=b
  ·subst e1;rw[if_pos rfl] at h ⊢;exact iK h
  rw[if_neg e1] at h;rw[if_neg (Ne.symm e1)];exact qo h
 | [],_,h=>by unfold bm at h;cases h
 |_::_,[],h=>by unfold bm at h;cases h
theorem m9:∀{a b:List ae},a.map cF=b.map cF->a≠b->bm a b=false->bm b a=true
 |a::r,b::q,hs,hn,h=>by
  unfold bm at h ⊢;have hs':=List.cons.inj hs;by_cases e1:a=b
  ·subst e1;rw[if_pos rfl] at h ⊢;exact m9 hs'.2 (λz=>hn (by rw[z])) h
  rw[if_neg e1] at h;rw[if_neg (Ne.symm e1)];exact C6 hs'.1 e1 h
 | [],[],_,hn,_=>absurd rfl hn
 | [],_::_,hs,_,_=>by cases hs
 |_::_,[],hs,_,_=>by cases hs
theorem C8{w:World}(ra:RelV (kV a) u)(rb:RelV (kV b) v)(h:cF a=cF b)(q:Q (dQ a b) s):wpAny (model prog w) A (oneLt' fl u v) Q E s:=by
 cases a with
 |inl i =>
  cases b with
  |inr y=>cases h
  |inl j =>
   obtain⟨t,rfl⟩:=(show ∃t,u=Value.int i t from ra)
   obtain⟨t',rfl⟩:=(show ∃t,v=Value.int j t from rb)
   cases fl with
   |true=>exact kat_lt_int q
   |false=>exact kat_one _ _ (lt_int q)
 |inr x =>
  cases b with
  |inl j=>cases h
  |inr y =>
   obtain⟨t,rfl⟩:=(show ∃t,u=Value.str x t from ra)
   obtain⟨t',rfl⟩:=(show ∃t,v=Value.str y t from rb)
   cases fl with
   |true=>exact kas_lt_str q
   |false=>exact kat_one _ _ (lt_str q)
theorem vk{w:World}:∀{a b:List ae} {us vs:List Value} (i:Nat),az (a.map kV) us->az (b.map kV) vs->a.map cF=b.map cF->Q (bm a b) s->KatLex prog w A fl false Q (us.zip vs) i s
 | [],[],us,vs,i,ra,rb,h,q=>by cases ra;cases rb;unfold KatLex;exact q
 | [],_::_,us,vs,i,ra,rb,h,q=>by cases h
 |_::_,[],us,vs,i,ra,rb,h,q=>by cases h
 |a::r,b::t,us,vs,i,ra,rb,h,q=>by
  cases ra with
  | @cons _ u _ us ra1 ra2 =>
   cases rb with
   | @cons _ v _ vs rb1 rb2 =>
    simp only[List.map_cons,List.cons.injEq] at h;show KatLex prog w A fl false Q ((u,v)::us.zip vs) i s;unfold KatLex;refine(bX prog w).eqBool (gT ra1) (gT rb1) ?_;unfold bm at q;by_cases e:a=b
    ·rw[if_pos e] at q;rw[if_pos (Qn e)];exact vk (i+1) ra2 rb2 h.2 q
    rw[if_neg e] at q;rw[if_neg (by rw[Qk e];exact Qz)];exact C8 ra1 rb1 h.1 q
noncomputable def dR(ds:List (List ae))(i j:Nat):Bool:=bm (ds.getD i []) (ds.getD j [])
structure gZ(n:Nat)(lt:Nat->Nat->Bool):Prop where
 as:∀a b,a<n->b<n->lt a b=true->lt b a=false
 tr:∀a b c,a<n->b<n->c<n->lt b a=false->lt c b=false->lt c a=false
 few:lC n lt
open Classical in
noncomputable def dF(n:Nat)(lt:Nat->Nat->Bool):Array Nat:=if h:0<n/\gZ n lt then Classical.choose (vi n lt h.1 h.2.as h.2.tr h.2.few) else(List.range n).toArray
theorem ng{lt:Nat->Nat->Bool}(h0:0<n)(o:gZ n lt):((dF n lt).Perm (List.range n).toArray/\Sg lt (dF n lt) 0 n/\(Sg lt (List.range n).toArray 0 n->dF n lt=(List.range n).toArray))/\∃(HK:Array (Nat×Nat×Nat)) (g:Nat),∀(e:Ev) (prog:Program) (w:World) (A:Around) (E:Value->Shared->Prop) (s:Shared),qi n lt e prog w A s ->
  ∀Q:Unit->SortSt->Shared->Prop,Q () (aF (dF n lt) HK g e) s->kasC (model prog w) A E sortRuns' Q (aF (List.range n).toArray #[] 7 e) s:=by
 unfold dF;rw[dif_pos ⟨h0,o⟩];exact Classical.choose_spec (vi n lt h0 o.as o.tr o.few)
theorem vm(n:Nat)(lt:Nat->Nat->Bool):(dF n lt).Perm (List.range n).toArray:=by
 by_cases h:0<n/\gZ n lt
 ·exact(ng h.1 h.2).1.1
 unfold dF;rw[dif_neg h]
theorem vn(n:Nat)(lt:Nat->Nat->Bool):(dF n lt).size=n:=by rw[(vm n lt).size_eq];simp
theorem vq(lt:Nat->Nat->Bool)(h0:0<n):fe n (dF n lt):=λx hx=>by simpa using(Array.perm_iff_toList_perm.mp (vm n lt)).mem_iff.mp hx
def gy(ds:List (List ae)):Prop:=lC ds.length (dR ds)
theorem vt{ds:List (List ae)}(h:ds.length<128)(nd:ds.Nodup)(G:List ae->List ae)(p:ds.Pairwise λa b=>bm b a=true->b=G a):gy ds:=.inr ⟨h,λi j k h1 h2 h3 h4 e1 e2=>by
 have g:∀{i},(h:i<ds.length)->ds.getD i []=ds[i]:=λh=>by rw[Qd,Qb h];rfl
 unfold dR at e1 e2;rw[g h3,g (Nat.lt_trans h1 h3)] at e1;rw[g h4,g (Nat.lt_trans h1 h3)] at e2;have q:=List.pairwise_iff_getElem.mp p
 exact(List.getElem_inj nd).mp ((q i j _ h3 h1 e1).trans (q i k _ h4 h2 e2).symm)⟩
theorem nh{ds:List (List ae)}(Iq:∀d∈ds,d.map cF=sh)(hf:gy ds):gZ ds.length (dR ds):=by
 have gd:∀i,i<ds.length->(ds.getD i []).map cF=sh:=λi hi=>Iq _ (by
  rw[Qd,Qb hi]
  exact QN hi)
 have ir:∀x:List ae,bm x x=false:=λx=>by
  cases e:bm x x with
  |false=>rfl
  |true=>rw[iK e] at e;cases e
 refine⟨λa b _ _ h=>iK h,λa b c ha hb hc h1 h2=>?_,hf⟩;unfold dR at h1 h2 ⊢;have s1:=gd a ha;have s2:=gd b hb;have s3:=gd c hc;generalize ds.getD a []=x at *;generalize ds.getD b []=y at *;generalize ds.getD c []=z at *;by_cases e1:y=x
 ·subst e1;exact h2
 by_cases e2:z=y
 ·subst e2;exact h1
 exact iK (vj (m9 (s2.trans s1.symm) e1 h1) (m9 (s3.trans s2.symm) e2 h2))
theorem C9{w:World}{κ:SortKind}{ks vs:List Value}{lt:Nat->Nat->Bool}(hl:ks.length=vs.length)(h2:2<=vs.length)(ho:gZ vs.length lt)
  (hc:∀i j,i<vs.length->j<vs.length->∀C:Bool->Shared->Prop,C (lt i j) s->kas_ask prog w A κ ks i j C s) :
  wpAny (model prog w) A ((sortRuns').run (SortSt.mk' κ (ks.toArray.zip vs.toArray) #[] 7 none)) (λr s'=>s'=s/\failedOf r.2=none/\(arrOf r.2).size=vs.length/\arrOf r.2=Array.map (kas_item (ks.toArray.zip vs.toArray)) (dF vs.length lt)) E s:=by
 obtain⟨⟨h3,h4⟩,HK,g,run⟩:=ng (n:=vs.length) (lt:=lt) (by lia) ho;have est:SortSt.mk' κ (ks.toArray.zip vs.toArray) #[] 7 none=aF (List.toArray (List.range vs.length)) #[] 7 ⟨κ,ks.toArray.zip vs.toArray⟩:=by have e:=kas_range (ks.toArray.zip vs.toArray);rw[show(ks.toArray.zip vs.toArray).size=vs.length by simp[hl]] at e;exact congrArg (λa=>SortSt.mk' κ a #[] 7 none) e.symm
 rw[est];rw[kat_ask_eq hl] at hc;exact run ⟨κ,ks.toArray.zip vs.toArray⟩ prog w A E s hc (λr Ix s'=>s'=s/\failedOf Ix=none/\(arrOf Ix).size=vs.length/\arrOf Ix=Array.map (kas_item (ks.toArray.zip vs.toArray)) (dF vs.length lt)) ⟨rfl,rfl,by show(Array.map _ _).size=_;rw[Array.size_map];exact vn _ _,rfl⟩
noncomputable def cW(ds:List (List ae)):List Nat:=if ds.length<2 then List.range ds.length else(dF ds.length (dR ds)).toList
noncomputable def b7(ds:List (List ae))(xs:List V):List V:=(cW ds).map λi=>xs.getD i .non
def bA(H:Hp)(xs:List V)(ds:List (List ae)):Prop:=xs.length=ds.length/\∀(i:Nat) (x:V) (d:List ae),xs[i]?=some x->ds[i]?=some d->∃t,x=.ref t/\H t=some (.tup (d.map kV))
theorem vv{s:Shared}(I:Inv X HJ σ H s){t:Addr}{d:List ae}(h:H t=some (.tup (d.map kV))):∃(o:Obj) (vs:List Value) (n:Nat),s.heap.get? t=some o/\o.cls=.type "tuple"/\o.data=.seq vs.toArray n/\az (d.map kV) vs:=by obtain⟨_,its,rv,⟨o,ho,hc,n,hd⟩,_⟩:=I.hok t _ h;exact⟨o,its,n,ho,hc,hd,rv⟩
theorem vx{s:Shared}(I:Inv X HJ σ H s):∀{xs:List V} {ds:List (List ae)} {its:List Value},az xs its->bA H xs ds->(∀d∈ds,d≠[])->∃fs:List Value,KatTups s.heap its fs/\fs.length=ds.length/\∀(i:Nat) (f:Value) (d:List ae),fs[i]?=some f->ds[i]?=some d->∃k r,d=k::r/\RelV (kV k) f
 | [],[],_,rv,h,_=>by cases rv;exact⟨[],KatTups.nil,rfl,λi f d h=>by simp at h⟩
 | [],_::_,_,_,h,_=>by simp[bA] at h
 |_::_,[],_,_,h,_=>by simp[bA] at h
 |x::xs,d::ds,_,rv,h,hn=>by
  cases rv with
  | @cons _ u _ us r1 r2 =>
   obtain⟨t,rfl,ht⟩:=h.2 0 x d rfl rfl;cases (show u=Value.ref t from r1);obtain⟨o,vs,n,ho,hc,hd,rd⟩:=vv I ht;obtain⟨fs,k1,k2,k3⟩:=vx I r2 (ds:=ds) ⟨by simpa using h.1,λi y e a b=>h.2 (i+1) y e a b⟩ λe he=>hn e (QG _ he)
   cases d with
   |nil=>exact absurd rfl (hn [] (by simp))
   |cons k r =>
    cases rd with
    | @cons _ f _ gs q1 q2 =>
     refine⟨f::fs,KatTups.cons ho hc hd (by simp) k1,by simp[k2],λi g e a b=>?_⟩
     cases i with
     |zero =>
      have e1:f=g:=by simpa using a
      have e2:k::r=e:=by simpa using b
      subst e1 e2;exact⟨k,r,rfl,q1⟩
     |succ i=>exact k3 i g e a b
theorem ni:∀{xs:List V} {vs:List Value},az xs vs->∀i,i<xs.length->RelV (xs.getD i .non) (vs.getD i Value.none)
 |_,_,.nil,i,h=>by simp at h
 |_,_,.cons r1 r2,0,_=>r1
 |_,_,.cons r1 r2,i+1,h=>ni r2 i (by simpa using h)
theorem vz{xs:List V}{vs:List Value}(r:az xs vs):∀p:List Nat,(∀i∈p,i<xs.length)->az (p.map λi=>xs.getD i .non) (p.map λi=>vs.getD i Value.none)
 | [],_=>.nil
 |i::p,h=>.cons (ni r i (h i (by simp))) (vz r p λj hj=>h j (QG _ hj))
theorem nj{α:Type}(d:α):∀xs:List α,(List.range xs.length).map (λi=>xs.getD i d)=xs:=by intro xs;refine List.ext_getElem (by simp) λi h1 h2=>?_;simp[Qb h2]
section
variable {X:Cx}{HJ:List (Addr×Obj)}{σ:St}{H:Hp}{s:Shared}{xs:List V}{ds:List (List ae)}{sh:List Bool}
def np(X:Cx)(A:Around)(E:Value->Shared->Prop)(kv:List Value)(ds:List (List ae))(s:Shared):Prop:=∃κ:SortKind,(∀Q:SortKind->Shared->Prop,Q κ s->wpAny (model X.prog X.w) A (keyKind' kv.toArray) Q E s)/\∀i j,i<kv.length->j<kv.length->∀C:Bool->Shared->Prop,C (dR ds i j) s->kas_ask X.prog X.w A κ kv i j C s
theorem vA{kv:List Value}(I:Inv X HJ σ H s)(rk:az kx kv)(tk:bA H kx ds)(Iq:∀d∈ds,d.map cF=sh)(HL:sh≠[])(h2:2<=kv.length):np X A E kv ds s:=by
 have Jy:ds.length=kv.length:=by rw[<-rk.length,tk.1]
 have hnn:∀d∈ds,d≠[]:=λd hd z=>HL (by rw[<-Iq d hd,z];rfl);obtain⟨fs,kt,kl,kf⟩:=vx I rk tk hnn
 obtain⟨b0,sh',rfl⟩:∃b r,sh=b::r:=by
  cases sh with
  |nil=>exact absurd rfl HL
  |cons b r=>exact⟨b,r,rfl⟩
 refine⟨_,λQ q=>kat_kind (T:=if b0=true then Value.type "int" else Value.type "str") kt (by rw[kl,Jy];lia) (λv hv=>?_) (by cases b0<;>rfl) q,λi j hi hj C hC=>?_⟩
 ·obtain⟨i,hi⟩:=List.mem_iff_getElem?.mp hv;have hil2:=(Qc hi).1;have hid:i<ds.length:=by rw[<-kl];exact hil2
  obtain⟨k,r,ed,rk⟩:=kf i v ds[i] hi (Qb hid);have hs:=Iq ds[i] (QN hid);rw[ed,List.map_cons] at hs;have hb:cF k=b0:=(List.cons.inj hs).1
  cases k with
  |inl m =>
   obtain⟨t,rfl⟩:=(show ∃t,v=Value.int m t from rk)
   rw[<-hb];exact λA Q E s _ q=>Qe q
  |inr z =>
   obtain⟨t,rfl⟩:=(show ∃t,v=Value.str z t from rk)
   rw[<-hb];exact λA Q E s _ q=>Qe q
 have one:∀ i,i<kv.length->∃ (t:Addr) (o:Obj) (vs:List Value) (m:Nat),kv.getD i Value.none=.ref t/\s.heap.get? t=some o/\o.data=.seq vs.toArray m/\az ((ds.getD i []).map kV) vs/\(ds.getD i []).map cF=b0::sh':=fun i hi=>by
  have hid:i<ds.length:=by rw[Jy];exact hi
  have Ke:i<kx.length:=by rw[tk.1];exact hid
  obtain⟨t,ex,hH⟩:=tk.2 i kx[i] ds[i] (Qb Ke) (Qb hid);obtain⟨o,vs,m,ho,hc,hd,rd⟩:=vv I hH;have rg:=ni rk i Ke;have e1:kx.getD i .non=.ref t:=by rw[Qd,Qb Ke,ex];rfl
  have e2:ds.getD i []=ds[i]:=by rw[Qd,Qb hid];rfl
  rw[e1] at rg;exact⟨t,o,vs,m,rg,ho,hd,by rw[e2];exact rd,by rw[e2];exact Iq _ (QN hid)⟩
 obtain⟨t1,o1,v1,m1,a1,a2,a3,a4,a5⟩:=one i hi;obtain⟨t2,o2,v2,m2,c1,c2,c3,c4,c5⟩:=one j hj;show wpAny (model X.prog X.w) A (keyLt' _ (kv.getD i Value.none) (kv.getD j Value.none)) C _ s;rw[a1,c1];have hl:v1.length=v2.length:=by have q1:=a4.length;have q2:=c4.length;have q3:=congrArg List.length (a5.trans c5.symm);simp only[Qg] at q1 q2 q3;lia
 refine kat_lt a2 a3 c2 c3 ?_;rw[Qk (by simp[hl])];exact vk 0 a4 c4 (a5.trans c5.symm) hC
theorem vB{A:Around}{E:Value->Shared->Prop}{α:Type}{R:Unit×SortSt->Sem α}{P:α->Shared->Prop}{kv its:List Value}(rv:az xs its)(Jp:kv.length=its.length)(Jy:ds.length=its.length)(ho:gZ ds.length (dR ds))(hk:2<=its.length->np X A E kv ds s)
  (hR:∀Ix:SortSt,failedOf Ix=none->((arrOf Ix).map (·.2)).size=its.length->az (b7 ds xs) ((arrOf Ix).map (·.2)).toList->wpAny (model X.prog X.w) A (R ((),Ix)) P E s) :
  wpAny (model X.prog X.w) A (if its.toArray.size<2 then(pure general'>>=λκ=>(if its.toArray.size<2 then pure () else sortRuns').run (SortSt.mk' κ (kv.toArray.zip its.toArray) #[] 7 none)>>=R) else(keyKind' kv.toArray>>=λκ=>(if its.toArray.size<2 then pure () else sortRuns').run (SortSt.mk' κ (kv.toArray.zip its.toArray) #[] 7 none)>>=R)) P E s:=by
 have Il:its.length=xs.length:=rv.length.symm;by_cases h2:its.toArray.size<2
 ·rw[if_pos h2];refine Qa (Qe ?_);rw[if_pos h2,StateT.run_pure];refine Qa (Qe ?_);have e:((arrOf (SortSt.mk' general' (kv.toArray.zip its.toArray) #[] 7 none)).map (·.2))=its.toArray:=by show(kv.toArray.zip its.toArray).map (·.2)=its.toArray;rw[<-Array.toList_inj];simp[List.map_snd_zip,Jp]
  refine hR _ rfl (by rw[e,Qp]) ?_;rw[e];rw[Qp] at h2;unfold b7 cW;rw[if_pos (by rw[Jy];exact h2),Jy,Il,nj];exact rv
 rw[if_neg h2];have h3:=h2;rw[Qp] at h2;obtain⟨κ,k1,k2⟩:=hk (by lia);refine Qa (k1 _ ?_);rw[if_neg h3];refine Qa (QV (C9 (vs:=its) (ks:=kv) (lt:=dR ds) Jp (by lia) (by rw[<-Jy];exact ho) λi j hi hj=>k2 i j (by lia) (by lia)) ?_ λ_ _ e=>e);rintro⟨⟨⟩,Ix⟩ s2 ⟨rfl,hf,hsz,ha⟩;have hp:fe its.length (dF its.length (dR ds)):=vq _ (by lia);have em:((arrOf Ix).map (·.2)).toList=(dF its.length (dR ds)).toList.map λi=>its.getD i Value.none:=by rw[ha,Array.toList_map,Array.toList_map,QY];refine List.map_congr_left λi _=>?_;show(kas_item (kv.toArray.zip its.toArray) i).2=_;rw[kat_item Jp]
 refine hR Ix hf (by rw[Array.size_map,hsz]) ?_;rw[em];unfold b7 cW;rw[if_neg (by rw[Jy];exact h2),Jy];exact vz rv _ λi hi=>by rw[<-Il];exact hp i hi
theorem vC{A:Around}{E:Value->Shared->Prop}{a:Addr}{its:List Value}{n:Nat}{P:Fin->Shared->Prop}
  (I:Inv X HJ σ H s) (fa:cK X HJ H a) (ho:s.heap.get? a=some (seqObj "list" its.toArray n)) (rv:az xs its) (hz:xs.length<=sizeLine) (Jy:ds.length=xs.length) (ho':gZ ds.length (dR ds)) (hk:∀s',Inv X HJ σ H s'->2<=its.length->np X A E its ds s')
  (fin:∀(s':Shared) (out:Array Value) (n':Nat),Inv X HJ σ H s'->s'.heap.get? a=some (seqObj "list" out n')->out.size<=sizeLine->az (b7 ds xs) out.toList->P (.done (.ret .none)) s') :
  wpAny (model X.prog X.w) A (Builtin.«list.sort» ⟨[.ref a],[]⟩) P E s:=by
 have Il:its.length=xs.length:=rv.length.symm;rw[<-Il] at hz;obtain⟨f0,f1,f2,f3,f4,f5⟩:=id fa;rw[list_sort_plain];refine Qa (listItems_at ho rfl ?_);refine Qa (listUpdate_at ho rfl ?_ (by rw[Qp];exact hz) (by show(#[]:Array Value).size<=_;simp))
 obtain⟨e1,K9⟩:∃e1,(s.heap.update a (Obj.mapSeq λ_=>#[])).get? a=some (seqObj "list" #[] e1):=⟨_,get?_update_seq ho (λ_=>#[])⟩
 have I1:Inv X HJ σ H {s with heap:=s.heap.update a (Obj.mapSeq λ_=>#[])}:=I.turned (t':=s.toks) (λb o hb e=>by rw[QW _ _ _ _ hb];exact e) f0 f1 f3 f4 f5;generalize s.heap.update a (Obj.mapSeq λ_=>#[])=h1 at K9 I1;refine Qa (seqEpoch_at (s:={s with heap:=h1}) K9 rfl ?_);refine Qa (wpAny_newTuple (s:={s with heap:=h1}) ?_ (by simpa using hz));have Ks:=Qf (seqObj "tuple" its.toArray.toList.toArray 0) K9;have I2:Inv X HJ σ H {s with heap:=h1.push (seqObj "tuple" its.toArray.toList.toArray 0)}:=I1.kept (t':=s.toks) λb o e=>Qf _ e;change wpAny _ _ _ _ _ {s with heap:=h1.push (seqObj "tuple" its.toArray.toList.toArray 0)};generalize h1.push (seqObj "tuple" its.toArray.toList.toArray 0)=h2 at Ks I2;refine Qa (wpAny_newList (s:={s with heap:=h2}) ?_ (by simp));have ho3:=Qf (seqObj "list" #[] 0) Ks;have I3:Inv X HJ σ H {s with heap:=h2.push (seqObj "list" #[] 0)}:=I2.kept (t':=s.toks) λb o e=>Qf _ e;change wpAny _ _ _ _ _ {s with heap:=h2.push (seqObj "list" #[] 0)};generalize h2.push (seqObj "list" #[] 0)=h3 at ho3 I3;dsimp only;refine wpAny_holding ?_;have ho3:({s with heap:=h3}:Shared).heap.get? a=some (seqObj "list" #[] e1):=ho3;generalize {s with heap:=h3}=s3 at I3 ho3 ⊢;refine vB rv rfl (Jy.trans Il.symm) ho' (hk s3 I3) λIx hf hsz hv=>?_;rw[<-hsz] at hz;refine Qa (seqEpoch_at ho3 rfl ?_);refine Qa (listUpdate_at ho3 rfl ?_ (by simp) (Nat.le_succ_of_le hz));rw[hf];simp only[bne_self_eq_false,QS,if_false];exact Qe (fin _ _ _ (I3.turned (t':=s3.toks) (λb o hb e=>by rw[QW _ _ _ _ hb];exact e) f0 f1 f3 f4 f5) (get?_update_seq ho3 (λ_=>(arrOf Ix).map (·.2))) hz hv)
theorem vD{its:List Value}
  (I:Inv X HJ σ H s) (fa:cK X HJ H a) (ho:s.heap.get? a=some (seqObj "list" its.toArray n)) (rv:az xs its) (hz:xs.length<=sizeLine) (ht:bA H xs ds) (Iq:∀d∈ds,d.map cF=sh) (hf:gy ds) (HL:sh≠[])
  (fin:∀(s':Shared) (out:Array Value) (n':Nat),Inv X HJ σ H s'->s'.heap.get? a=some (seqObj "list" out n')->out.size<=sizeLine->az (b7 ds xs) out.toList->P (.done (.ret .none)) s') :
  wpAny (model X.prog X.w) A (Builtin.«list.sort» ⟨[.ref a],[]⟩) P E s:=vC I fa ho rv hz ht.1.symm (nh Iq hf) (λs' I' h2=>vA I' rv ht Iq HL h2) fin
theorem Da{K:W.Frag}(hK:X.K=K):dM X (.builtin "sorted") (λas H Q=>∃(l:Addr) (xs:List V) (ds:List (List ae)) (sh:List Bool),as=[.ref l]/\am K H l xs/\bA H xs ds/\(∀d∈ds,d.map cF=sh)/\gy ds/\sh≠[] /\
  ∀p,H p=none->Q (.ref p) (ag H p (.lst (b7 ds xs)))):=by
 subst hK;intro HJ s σ H as us Q I r h;obtain⟨l,xs,ds,sh,rfl,hq,ht,Iq,hf,HL,q⟩:=h;obtain⟨u,rfl,ru⟩:=vals1 r;cases (show u=Value.ref l from ru);obtain⟨its,rv,pl,hz⟩:=I.list hq;have Il:its.length=xs.length:=rv.length.symm;refine Calls.call_function_entry kind_sorted plain_sorted entry_sorted (args_sorted1 _) ?_;unfold Builtin.«sorted»;refine Qa (m:=checkCount "sorted" 1 1 _) (Qe ?_);refine Qa (collect_list pl.isList ?_ (by rw[Il];exact hz));have I1:Inv X HJ σ H {s with heap:=(s.heap.push (seqObj "list" #[] 0)).update s.heap.objs.size (Obj.mapSeq (·++its.toArray))}:=I.kept (t':=s.toks) λb o e=>by rw[QW _ _ _ _ (QB (Qt e))];exact Qf _ e
 generalize (s.heap.push (seqObj "list" #[] 0)).update s.heap.objs.size (Obj.mapSeq (·++its.toArray))=h1 at I1;refine Qa (wpAny_newList (s:={s with heap:=h1}) ?_ (by rw[Il];exact hz));have Jo:(h1.push (seqObj "list" its.toArray 0)).get? h1.objs.size=some (seqObj "list" its.toArray 0):=Qm _ rfl;have I2:Inv X HJ σ H {s with heap:=h1.push (seqObj "list" its.toArray 0)}:=I1.kept (t':=s.toks) λb o e=>Qf _ e;have fL:cK X HJ H h1.objs.size:=I1.fpOk (Qh _) (I1.hok.fresh (Qh _));change wpAny _ _ _ _ _ {s with heap:=h1.push (seqObj "list" its.toArray 0)};dsimp only;generalize h1.push (seqObj "list" its.toArray 0)=h2 at Jo I2;generalize h1.objs.size=L at Jo fL;refine Qa (wpAny_holding (wpAny_call_entry (s:={s with heap:=h2}) slot_list_sort ⟨_,Jo,rfl⟩ entry_list_sort (vD I2 fL Jo rv hz ht Iq hf HL λs' out n' I' KY Ij vy=>⟨_,rfl,?_⟩) (args_list_sort _)));refine Qe ⟨_,rfl,.ref L,ag H L (.lst (b7 ds xs)),I'.adopt fL ?_,rfl,q L fL.1⟩;have IG:(b7 ds xs).length<=sizeLine:=by rw[vy.length,QM];exact Ij
 exact⟨IG,out.toList,n',vy,by simpa using KY⟩
end
section
variable {X:Cx}{k:Nat}{f:Addr}{fd:FuncData}{ps:List Str}{sp:Sp}{Io:List V}{ds:List Value}{HJ:List (Addr×Obj)}{σ:St}{H:Hp}{s:Shared}{xs:List V}{HV:List (List ae)}{sh:List Bool}
theorem Db{A:Around}{E:Value->Shared->Prop}{a:Addr}{its:List Value}{n:Nat}{P:Fin->Shared->Prop}(F:aE X.prog X.w X.K X.mg X.base aG k f fd ps sp)(hr:aB k A)
  (hA:∀s H,fD X.prog X.w X.K X.mg X.base X.A X.stack s H->fD X.prog X.w X.K X.mg X.base A X.stack s H) (hb:Binds X.K fd ps ds) (hd:az Io ds)
  (I:Inv X HJ σ H s) (fa:cK X HJ H a) (ho:s.heap.get? a=some (seqObj "list" its.toArray n)) (rv:az xs its) (Lf:xs.length<64) (hl:HV.length=xs.length) (Iq:∀d∈HV,d.map cF=sh) (HL:sh≠[])
  (hk:∀(i:Nat) (x:V) (d:List ae) (H':Hp),Same H H'->xs[i]?=some x->HV[i]?=some d->∀Q':VK,(∀t H2,Same H' H2->H2 t=some (.tup (d.map kV))->Q' (.ref t) H2)->sp ([x]++Io) H' Q' E0)
  (fin:∀(s':Shared) (H':Hp) (out:Array Value) (n':Nat),Same H H'->H' a=none->Inv X HJ σ H' s'->s'.heap.get? a=some (seqObj "list" out n')->out.size<=sizeLine->az (b7 HV xs) out.toList->P (.done (.ret .none)) s') :
  wpAny (model X.prog X.w) A (Builtin.«list.sort» ⟨[.ref a],[(Str.ofString "key",.ref f)]⟩) P E s:=by
 have Il:its.length=xs.length:=rv.length.symm;have hz:its.length<=sizeLine:=by rw[sizeLine_eq];lia
 obtain⟨f0,f1,f2,f3,f4,f5⟩:=id fa;rw[CC];refine Qa (listItems_at ho rfl ?_);refine Qa (listUpdate_at ho rfl ?_ (by rw[Qp];exact hz) (by show(#[]:Array Value).size<=_;simp))
 obtain⟨e1,K9⟩:∃e1,(s.heap.update a (Obj.mapSeq λ_=>#[])).get? a=some (seqObj "list" #[] e1):=⟨_,get?_update_seq ho (λ_=>#[])⟩
 have I1:Inv X HJ σ H {s with heap:=s.heap.update a (Obj.mapSeq λ_=>#[])}:=I.turned (t':=s.toks) (λb o hb e=>by rw[QW _ _ _ _ hb];exact e) f0 f1 f3 f4 f5;generalize s.heap.update a (Obj.mapSeq λ_=>#[])=h1 at K9 I1;refine Qa (seqEpoch_at (s:={s with heap:=h1}) K9 rfl ?_);refine Qa (wpAny_newTuple (s:={s with heap:=h1}) ?_ (by simpa using hz));have Ks:=Qf (seqObj "tuple" its.toArray.toList.toArray 0) K9;have I2:Inv X HJ σ H {s with heap:=h1.push (seqObj "tuple" its.toArray.toList.toArray 0)}:=I1.kept (t':=s.toks) λb o e=>Qf _ e;change wpAny _ _ _ _ _ {s with heap:=h1.push (seqObj "tuple" its.toArray.toList.toArray 0)};generalize h1.push (seqObj "tuple" its.toArray.toList.toArray 0)=h2 at Ks I2;refine Qa (wpAny_newList (s:={s with heap:=h2}) ?_ (by simp));have ho3:=Qf (seqObj "list" #[] 0) Ks;have Kj:(h2.push (seqObj "list" #[] 0)).get? h2.objs.size=some (seqObj "list" #[] 0):=Qm _ rfl;have fK:cK X HJ H h2.objs.size:=I2.fpOk (Qh _) (I2.hok.fresh (Qh _));have naK:a≠h2.objs.size:=QB (Qt Ks);have I3:Inv X HJ σ H {s with heap:=h2.push (seqObj "list" #[] 0)}:=I2.kept (t':=s.toks) λb o e=>Qf _ e;change wpAny _ _ _ _ _ {s with heap:=h2.push (seqObj "list" #[] 0)};generalize h2.push (seqObj "list" #[] 0)=h3 at ho3 Kj I3;dsimp only;generalize h2.objs.size=K at Kj fK naK;obtain⟨g0,g1,g2,g3,g4,g5⟩:=id fK;refine wpAny_holding ?_;refine Qa (wpAny_rule ?_);refine Qa ?_;rw[<-Array.forIn_toList]
 refine wpAny_forIn_list _ (λHN _ s'=>∃(i:Nat) (kv:List Value) (kx:List V) (n':Nat) (H':Hp),HN=its.drop i/\Same H H'/\H' a=none/\H' K=none/\Inv X HJ σ H' s'/\s'.heap.get? a=some (seqObj "list" #[] e1)/\s'.heap.get? K=some (seqObj "list" kv.toArray n')/\az kx kv/\bA H' kx (HV.take i)/\i<=its.length) _ ?_ ?_ _ _
  ⟨0,[],[],0,H,by simp,Same.refl _,f0,g0,I3,ho3,Kj,.nil,⟨by simp,λi x d h=>by simp at h⟩,Qy _⟩
 ·rintro x HN b s' ⟨i,kv,kx,n',H1,er,sm,na1,nK1,I',KY,hoK,rk,tk,hi⟩;have HS:i<its.length:=by have:=congrArg List.length er;simp at this;lia
  have e2:its[i]?=some x/\its.drop (i+1)=HN:=by rw[List.drop_eq_getElem_cons HS] at er;obtain⟨z1,z2⟩:=List.cons.inj er;exact⟨by rw[Qb HS,z1],z2.symm⟩
  have Ke:i<xs.length:=by lia
  have KM:i<HV.length:=by lia
  obtain⟨u,eu,ru⟩:=rv.get (Qb Ke);rw[e2.1] at eu;cases eu;have r1:az ([xs[i]]++Io) ([x]++ds):=az.append (.cons ru .nil) hd
  have K8:=hk i xs[i] HV[i] H1 sm (Qb Ke) (Qb KM) (λv H2=>∃t,v=.ref t/\Same H1 H2/\H2 t=some (.tup (HV[i].map kV))) λt H2 a b=>⟨t,rfl,a,b⟩
  have HM:([x]++ds).length=ps.length:=by rw[<-r1.length];exact F.len _ _ _ _ K8
  have ho2':∀b∈[a,K],∃o,s'.heap.get? b=some o/\∀v,o.data≠.cell v:=by
   intro b hb;rcases Qx hb with z|z
   ·subst z;exact⟨_,KY,λv z=>nomatch z⟩
   have z:b=K:=by simpa using z
   subst z;exact⟨_,hoK,λv z=>nomatch z⟩
  have hf2:∀b∈[a,K],cK X HJ H1 b:=by
   intro b hb;rcases Qx hb with z|z
   ·subst z;exact⟨na1,fa.2⟩
   have z:b=K:=by simpa using z
   subst z;exact⟨nK1,fK.2⟩
  have Ip:=I'.pinned hf2 ho2';refine Qa (wpAny_attempt ?_);refine wpAny_call (codeAny_mono (F.run A X.stack s' H1 ⟨[x],[]⟩ ([x]++ds) ([xs[i]]++Io) _ E0 hr (hA _ _ I'.env0) (hb s' [x] I'.kIn HM) r1 K8) λr s2 hq=>?_)
  cases r with
  |error e=>exact False.elim hq
  |ok fl =>
   cases fl with
   |next=>exact False.elim hq
   |brk=>exact False.elim hq
   |cont=>exact False.elim hq
   |ret u =>
    obtain⟨v,H2,os,bare,un,hok,rr,t,ev,sm2,Iv⟩:=(show CE X.stack X.prog X.w H1 s' _ u s2 from hq)
    subst ev;cases (show u=Value.ref t from rr);have I2':=Ip.call' os un hok bare (λb z=>absurd z (by simp));have pa:=I2'.pin (a,_) (Qu _ (Qu _ (ip (by simp) KY)));have pK:=I2'.pin (K,_) (Qu _ (Qu _ (ip (by simp) hoK)));have Lj:=pa.1;have hoK2:=pK.1;have I3':=I2'.unpinned;have K7:kx.length=i:=by have:=tk.1;rw[QH] at this;lia
    have Jp:kv.length<=64:=by have:=rk.length;lia
    dsimp only;refine Qa (listUpdate_at hoK2 rfl ?_ (by rw[Qp,sizeLine_eq];lia) (by rw[Array.size_push,Qp,sizeLine_eq];lia))
    obtain⟨n2,hn2⟩:∃n2,(s2.heap.update K (Obj.mapSeq (·.push (Value.ref t)))).get? K=some (seqObj "list" (kv++[Value.ref t]).toArray n2):=⟨_,(get?_update_seq hoK2 (·.push (Value.ref t))).trans (by rw[List.push_toArray])⟩
    refine Qe ⟨i+1,kv++[Value.ref t],kx++[.ref t],n2,H2,e2.2.symm,sm.trans sm2,pa.2.1,pK.2.1,I3'.turned (t':=s2.toks) (λb o hb e=>by rw[QW _ _ _ _ hb];exact e) pK.2.1 g1 g3 g4 g5,?_,hn2,rk.append (.cons (show RelV (.ref t) (Value.ref t) from rfl) .nil),?_,HS⟩
    ·show(s2.heap.update K _).get? a=_;rw[QW _ _ _ _ naK];exact Lj
    rw[Qo KM];refine⟨by simp only[Qi,QH,QU,List.length_nil];lia,λj y d hy hd'=>?_⟩;by_cases hj:j<i
    ·rw[Ql (by lia)] at hy;rw[Ql (by rw[QH];lia)] at hd';obtain⟨t',a1,a2⟩:=tk.2 j y d hy hd';exact⟨t',a1,sm2 _ _ a2⟩
    rw[Qw (by lia)] at hy;rw[Qw (by rw[QH];lia)] at hd';have hj2:=(Qc hy).1;have hji:j-kx.length=0:=by simp at hj2;lia
    rw[hji] at hy;rw[show j-(List.take i HV).length=0 by rw[QH];lia] at hd';have y1:V.ref t=y:=by simpa using hy
    have d1:HV[i]=d:=by simpa using hd'
    exact⟨t,y1.symm,by rw[<-d1];exact Iv⟩
 rintro b s' ⟨i,kv,kx,n',H1,er,sm,na1,nK1,I',KY,hoK,rk,tk,hi⟩;have hi':i=its.length:=by have:=congrArg List.length er;simp at this;lia
 have tk':bA H1 kx HV:=by rw[hi',QC (by lia)] at tk;exact tk
 have Jp:kv.length=its.length:=by rw[<-rk.length,tk'.1];lia
 clear tk er hi hi';have Jy:HV.length=its.length:=by lia
 refine Qa (listItems_at hoK rfl ?_);refine vB rv Jp Jy (nh Iq (.inl (by rw[hl];exact Lf))) (λ_=>vA I' rk tk' Iq HL (by lia)) λIx hf hsz vy=>?_;refine Qa (listUpdate_at hoK rfl ?_ (by rw[Qp];lia) (by show(#[]:Array Value).size<=_;simp));refine Qa (wpAny_letGo ?_);have Lj:(s'.heap.update K (Obj.mapSeq λ_=>#[])).get? a=some (seqObj "list" #[] e1):=by rw[QW _ _ _ _ naK];exact KY
 have I2:Inv X HJ σ H1 {s' with heap:=s'.heap.update K (Obj.mapSeq λ_=>#[])}:=I'.turned (t':=s'.toks) (λb o hb e=>by rw[QW _ _ _ _ hb];exact e) nK1 g1 g3 g4 g5;refine Qa (seqEpoch_at (s:={s' with heap:=s'.heap.update K (Obj.mapSeq λ_=>#[])}) Lj rfl ?_);refine Qa (listUpdate_at (s:={s' with heap:=s'.heap.update K (Obj.mapSeq λ_=>#[])}) Lj rfl ?_ (by simp) (by rw[hsz];lia));rw[hf];simp only[bne_self_eq_false,QS,if_false];exact Qe (fin _ H1 _ _ sm na1 (I2.turned (t':=s'.toks) (λb o hb e=>by rw[QW _ _ _ _ hb];exact e) na1 f1 f3 f4 f5) (get?_update_seq Lj (λ_=>(arrOf Ix).map (·.2))) (by show((arrOf Ix).map (·.2)).size<=_;rw[hsz];exact hz) vy)
theorem Dc(F:aE X.prog X.w X.K X.mg X.base aG k f fd ps sp)(hr:aB (k+2) X.A)(hb:Binds X.K fd ps ds)(hd:az Io ds)
  (I:Inv X HJ σ H s) (hq:am X.K H l xs) (Lf:xs.length<64) (hl:HV.length=xs.length) (Iq:∀d∈HV,d.map cF=sh) (HL:sh≠[])
  (hk:∀(i:Nat) (x:V) (d:List ae) (H':Hp),Same H H'->xs[i]?=some x->HV[i]?=some d->∀Q':VK,(∀t H2,Same H' H2->H2 t=some (.tup (d.map kV))->Q' (.ref t) H2)->sp ([x]++Io) H' Q' E0)
  (q:∀p H',Same H H'->H' p=none->Q (.ref p) (ag H' p (.lst (b7 HV xs)))) :
  wpAny (model X.prog X.w) X.A (call (.builtin "sorted") [.ref l] [(Str.ofString "key",.ref f)]) (EP X HJ σ Q) X.xe s:=by
 obtain⟨its,rv,pl,hz⟩:=I.list hq;have Il:its.length=xs.length:=rv.length.symm;refine call_function_entry_kw kind_sorted plain_sorted entry_sorted (CB _ _) ?_;unfold Builtin.«sorted»;refine Qa (m:=checkCount "sorted" 1 1 _) (Qe ?_);refine Qa (collect_list pl.isList ?_ (by rw[Il];exact hz));have I1:Inv X HJ σ H {s with heap:=(s.heap.push (seqObj "list" #[] 0)).update s.heap.objs.size (Obj.mapSeq (·++its.toArray))}:=I.kept (t':=s.toks) λb o e=>by rw[QW _ _ _ _ (QB (Qt e))];exact Qf _ e
 generalize (s.heap.push (seqObj "list" #[] 0)).update s.heap.objs.size (Obj.mapSeq (·++its.toArray))=h1 at I1;refine Qa (wpAny_newList (s:={s with heap:=h1}) ?_ (by rw[Il];exact hz));have Jo:(h1.push (seqObj "list" its.toArray 0)).get? h1.objs.size=some (seqObj "list" its.toArray 0):=Qm _ rfl;have I2:Inv X HJ σ H {s with heap:=h1.push (seqObj "list" its.toArray 0)}:=I1.kept (t':=s.toks) λb o e=>Qf _ e;have fL:cK X HJ H h1.objs.size:=I1.fpOk (Qh _) (I1.hok.fresh (Qh _));change wpAny _ _ _ _ _ {s with heap:=h1.push (seqObj "list" its.toArray 0)};dsimp only;generalize h1.push (seqObj "list" its.toArray 0)=h2 at Jo I2;generalize h1.objs.size=L at Jo fL;have Iz:aB k X.A.in1.in1:=(aB.in1 (k:=k+1) hr).in1;refine Qa (wpAny_holding (wpAny_call_entry_kw (s:={s with heap:=h2}) slot_list_sort ⟨_,Jo,rfl⟩ entry_list_sort (Db F Iz (λ_ _ e=>e.in1.in1) hb hd I2 fL Jo rv Lf hl Iq HL hk λs' H' out n' sm nL I' KY Ij vy=>⟨_,rfl,?_⟩) (CA _ _)));refine Qe ⟨_,rfl,.ref L,ag H' L (.lst (b7 HV xs)),I'.adopt ⟨nL,fL.2⟩ ?_,rfl,q L H' sm nL⟩;have IG:(b7 HV xs).length<=sizeLine:=by rw[vy.length,QM];exact Ij
 exact⟨IG,out.toList,n',vy,by simpa using KY⟩
end
def Dd(sp:Sp)(Io:List V)(K:W.Frag)(t:TE):TE:=λσ H Q=>t σ H λx H1=>∃(l:Addr) (xs:List V) (HV:List (List ae)) (sh:List Bool),x=.ref l/\am K H1 l xs/\xs.length<64/\HV.length=xs.length/\(∀d∈HV,d.map cF=sh)/\sh≠[] /\
 (∀(i:Nat) (x:V) (d:List ae) (H':Hp),Same H1 H'->xs[i]?=some x->HV[i]?=some d->∀Q':VK,(∀t H2,Same H' H2->H2 t=some (.tup (d.map kV))->Q' (.ref t) H2)->sp ([x]++Io) H' Q' E0)/\∀p H',Same H1 H'->H' p=none->Q (.ref p) (ag H' p (.lst (b7 HV xs)))
theorem De{X:Cx}{k:Nat}{f:Addr}{fd:FuncData}{ps:List Str}{sp:Sp}{Io:List V}{ds:List Value}{K:W.Frag}{e:Expr}{t:TE}{y:Str}{p p2 p3 pos:Pos}(hK:X.K=K)(F:aE X.prog X.w X.K X.mg X.base aG k f fd ps sp)(hr:aB (k+2) X.A)(hb:Binds X.K fd ps ds)(hd:az Io ds)
  (hg:Gl X "sorted") (hm:X.mg "sorted"=none) (hgf:Gl X y) (hmf:X.mg y=some (.ref f)) (he:PE X e t) (hy:(y==("__debug__":Str))=false:=by decide)
  (hs:starEach [e] X.env=(false,eval e X.env)::starEach [] X.env:=by rfl) :
  PE X (.Call (.Name "sorted" p) [e] [⟨some "key",.Name y p2,p3⟩] pos) (Dd sp Io K t):=by
 intro HJ s σ H Q I h;subst hK;refine wpAny_Call_Name_kw (jC I hg hm (show bootBuiltins "sorted"=some (.builtin "sorted") from by decide +kernel) ?_);refine callWith_kw ?_ (by rw[hs];rfl) (by rw[hs];rfl);rw[hs];show wpAny _ _ (spliced ((false,eval e X.env)::backTo pos (starEach [] X.env))) _ _ s;refine Calls.spliced_cons (aA (he HJ s σ H _ I h) λu s1 ⟨x,H1,I1,r1,q1⟩=>Calls.spliced_nil ?_);obtain⟨l,xs,HV,sh,e1,hq,Lf,hl,Iq,HL,hk,q⟩:=q1;subst e1;cases (show u=Value.ref l from r1);refine aA ((AX (te:=λ_ H Q=>Q (.ref f) H) (λHJ s σ H Q I h=>kS I hgf hmf ⟨.ref f,H,I,rfl,h⟩ hy) AW) pos HJ s1 σ H1 (λzs H2=>zs=[.ref f]/\H2=H1) I1 ⟨rfl,rfl⟩) λws s2 hsl64=>?_;obtain⟨zs,H2,I2,rz,ez,eH⟩:=hsl64;subst ez eH;obtain⟨u,rfl,ru⟩:=vals1 rz;cases (show u=Value.ref f from ru);exact Dc F hr hb hd I2 hq Lf hl Iq HL hk q
end L2
namespace L2
open PySem PySem.Spec PyProof.Rows
noncomputable def qp(z:Str)(i:Nat):V:=.str ⟨#[z.cps.toList.getD i 0]⟩
theorem Df{P:Program}{w:World}{K:W.Frag}{tg:Expr}(it:Addr)(z:Str)(t:Tok) :
  fX P w K tg (pY z.length (qp z)) [it] it (λi h=>i<=z.length/\h.IsStrIter it "str_ascii_iterator" z t i) where
 mem:=by simp
 obj:=λi h st b hb=>by
  have e:b=it:=by simpa using hb
  subst e;obtain⟨_,o,e,c,d⟩:=st;exact⟨o,e,λv z=>by rw[d] at z;cases z⟩
 keep:=λi h h' st k=>⟨st.1,by obtain⟨o,e,r⟩:=st.2;exact⟨o,k it (by simp) o e,r⟩⟩
 item:=by
  intro X hP hw hK hc i HJ s σ H E I hf st hg;subst hP hw hK;have hg:i<z.length:=hg;obtain⟨f0,f1,f2,f3,f4,f5⟩:=hf it (by simp);have hl:z.cps.toList.length=z.length:=by simp[Str.length]
  have hcc:z.cps[i]?=some (z.cps.toList.getD i 0):=by rw[Qd,Qb (by lia),<-Array.getElem?_toList,Qb (by lia)];rfl
  refine wpAny_pyNext_ascii_item st.2 hcc λh' Ix sb=>?_;have I1:Inv X HJ σ H {s with heap:=h',toks:=s.toks+1}:=I.turned (λb o hb e=>(sb.2 b hb).trans e) f0 f1 f3 f4 f5;obtain⟨o,e,c,d⟩:=id Ix;exact⟨_,rfl,mG (s:={s with heap:=h',toks:=s.toks+1}) e c d (by decide) ⟨qp z i,H,I1,⟨s.toks,rfl⟩,⟨rfl,rfl⟩,⟨hg,Ix⟩,λb hb=>(hf b hb).1⟩⟩
 done:=by
  intro X hP hw hK hc i HJ s σ H E I hf st hg;subst hP hw hK;have hg:z.length<=i:=hg;obtain⟨f0,f1,f2,f3,f4,f5⟩:=hf it (by simp)
  exact wpAny_pyNext_ascii_end (I.ok.hd hc) st.2 (Array.getElem?_eq_none (by show z.length<=i;exact hg)) λh' eb=>⟨rfl,I.turned (t':=s.toks) (λb o hb e=>eb b o hb e) f0 f1 f3 f4 f5⟩
 self:=λ_ _ _ _ _ st h=>wpAny_pyIter_striter_ascii st.2 h
section
variable {X:Cx}{tg:Expr}
def Dh(te:TE):TI:=λσ H R=>te σ H λx H1=>∃z:Str,x=.str z/\z.cps.all (·<128)=true/\R (pY z.length (qp z)) H1
theorem Di{e:Expr}{te:TE}(he:PE X e te):PI X tg e (Dh te):=by
 intro HJ s σ H R I h;refine aA (he HJ s σ H _ I h) λv s1 hsl65=>?_;obtain⟨x,H1,I1,r1,q1⟩:=hsl65;obtain⟨z,e,ha,q⟩:=q1;subst e;obtain⟨t,rfl⟩:=r1;refine wpAny_pyIter_ascii ha ?_;refine⟨s1.heap.objs.size,[s1.heap.objs.size],_,_,H1,rfl,I1.kept (t':=s1.toks) λb o e=>Qf _ e,Df _ z t,⟨Qy _,_,Qm _ rfl,rfl,rfl⟩,λb hb=>?_,q⟩;have e:b=s1.heap.objs.size:=by simpa using hb
 subst e;exact I1.fpOk (Qh _) (I1.hok.fresh (Qh _))
end
section
variable {X:Cx}
theorem Dj{K:W.Frag}(hK:X.K=K):bO X (compareOp .NotIn) (lf K true):=by subst hK;exact Be
end
section
variable {js:List Nat}{tt:TT}{te:TE}
theorem Dk(Pv:Nat->List V->Hp->Prop)(h0:Pv 0 [] H)
  (hs:∀i ys H,i<n->Pv i ys H->tt (some (y i)::cE js σ) H λb H2=>if b=true then te (some (y i)::cE js σ) H2 λz H3=>ys.length<sizeLine/\Pv (i+1) (ys++[z]) H3 else Pv (i+1) ys H2)
  (hd:∀ys H,Pv n ys H->∀p,H p=none->Q (.ref p) (ag H p (.lst ys))):iG (pY n y) js tt te σ H Q:=by
 refine⟨λi m ys H=>i+m=n/\Pv i ys H,⟨n,by simp,h0⟩,?_⟩;rintro i m ys H1 ⟨e,q⟩;rcases Nat.lt_or_ge i n with HS|K2
 ·refine .inr ⟨HS,λIb H'=>Pv (i+1) Ib H',λIb H' q'=>⟨m-1,by lia,by lia,q'⟩,?_⟩;rintro x H' ⟨rfl,rfl⟩;exact hs i ys _ HS q
 have:i=n:=by lia
 subst this;exact .inl ⟨K2,hd ys H1 q⟩
end
end L2
namespace Mm
open PySem L2 PyProof.Rows
noncomputable def j7:List Str:=["+","-","*","less","same","and","or"]
inductive Ex where
 |num (n:Int)
 |truth (z:Str)
 |name (z:Str)
 |not (e:Ex)
 |op (w:Str) (a b:Ex)
 |of (n:Str) (e:Ex)
 |many (w n:Str) (es:List Ex)
mutual
inductive aU (H:Hp):V->Ex->Prop where
 |num {t:Addr} {n:Int}:H t=some (.tup [.str "num",.int n])->aU H (.ref t) (.num n)
 |truth {t:Addr} {z:Str}:H t=some (.tup [.str "truth",.str z])->aU H (.ref t) (.truth z)
 |name {t:Addr} {z:Str}:H t=some (.tup [.str "name",.str z])->aU H (.ref t) (.name z)
 |not {t:Addr} {v:V} {e:Ex}:H t=some (.tup [.str "not",v])->aU H v e->aU H (.ref t) (.not e)
 |op {t:Addr} {z:Str} {v u:V} {a b:Ex}:H t=some (.tup [.str z,v,u])->aU H v a->aU H u b->aU H (.ref t) (.op z a b)
 |of {t:Addr} {n:Str} {v:V} {e:Ex}:H t=some (.tup [.str "of",.str n,v])->aU H v e->aU H (.ref t) (.of n e)
 |many {t l:Addr} {z n:Str} {vs:List V} {es:List Ex}:H t=some (.tup [.str z,.str n,.ref l])->H l=some (.tup vs)->ExsAt H vs es->aU H (.ref t) (.many z n es)
inductive ExsAt (H:Hp):List V->List Ex->Prop where
 |nil:ExsAt H [] []
 |cons {v:V} {vs:List V} {e:Ex} {es:List Ex}:aU H v e->ExsAt H vs es->ExsAt H (v::vs) (e::es)
end
def lF(H H':Hp):Prop:=∀b xs,H b=some (.tup xs)->H' b=some (.tup xs)
mutual
theorem aU.kept(s:lF H H'):∀{v:V} {e:Ex},aU H v e->aU H' v e
 |_,_,.num h=>.num (s _ _ h)
 |_,_,.truth h=>.truth (s _ _ h)
 |_,_,.name h=>.name (s _ _ h)
 |_,_,.not h a=>.not (s _ _ h) (a.kept s)
 |_,_,.op h a b=>.op (s _ _ h) (a.kept s) (b.kept s)
 |_,_,.of h a=>.of (s _ _ h) (a.kept s)
 |_,_,.many h l a=>.many (s _ _ h) (s _ _ l) (a.kept s)
theorem ExsAt.kept(s:lF H H'):∀{vs:List V} {es:List Ex},ExsAt H vs es->ExsAt H' vs es
 |_,_,.nil=>.nil
 |_,_,.cons a b=>.cons (a.kept s) (b.kept s)
end
theorem _root_.L2.Same.tups(s:Same H H'):lF H H':=λ_ _ h=>s _ _ h
end Mm
namespace L2
open PySem PySem.Spec PyProof.Rows PySem.W
theorem qr:bootBuiltins "sorted"=some (.builtin "sorted"):=by decide +kernel
theorem Dm(ds:List (List ae)):(cW ds).length=ds.length:=by
 unfold cW;split
 ·simp
 rw[QM];exact vn _ _
theorem vE(h:i<n):(List.toArray (List.range n)).getD i 0=i:=by simp[Array.getD,h]
theorem Dn{lt:Nat->Nat->Bool}(hn:0<n)(h:∀i,i+1<n->lt (i+1) i=false):dF n lt=(List.range n).toArray:=by
 by_cases o:0<n/\gZ n lt
 ·refine(ng o.1 o.2).1.2.2 λi j _ KN hj=>?_;rw[vE hj,vE (by omega)]
  obtain⟨k,rfl⟩:∃k,j=i+k+1:=⟨j-i-1,by omega⟩
  clear KN
  induction k with
  |zero=>exact h i hj
  |succ k ih=>exact o.2.tr _ _ _ (by omega) (by omega) hj (ih (by omega)) (h _ hj)
 unfold dF;rw[dif_neg o]
theorem Do{ds:List (List ae)}{xs:List V}(Lf:ds.length<1000)(hl:ds.length=xs.length)(h:∀i,i+1<ds.length->bm (ds.getD (i+1) []) (ds.getD i [])=false):b7 ds xs=xs:=by
 unfold b7 cW;split
 ·rw[hl,nj]
 rw[Dn (by lia) (lt:=dR ds) h];show(List.range ds.length).map _=_;rw[hl,nj]
theorem vF:∀{a b:List (List ae)},a.Pairwise (λx y=>bm x y=true)->b.Pairwise (λx y=>bm x y=true)->(∀d,d∈a↔d∈b)->a=b
 | [],[],_,_,_=>rfl
 | [],y::b,_,_,h=>nomatch (h y).mpr QK
 |x::a,[],_,_,h=>nomatch (h x).mp QK
 |x::a,y::b,ha,hb,h=>by
  have ha':=List.pairwise_cons.mp ha;have KO:=List.pairwise_cons.mp hb
  have e:x=y:=by
   rcases Qx ((h x).mp QK) with e|h1
   ·exact e
   rcases Qx ((h y).mpr QK) with e|h2
   ·exact e.symm
   have g1:=KO.1 x h1;have g2:=ha'.1 y h2;rw[iK g1] at g2;cases g2
  subst e;have nx:∀{l:List (List ae)},(∀z∈l,bm x z=true)->x∉l:=λhl hm=>by have:=hl x hm;have g:=iK this;rw[this] at g;cases g
  rw[vF ha'.2 KO.2 λd=>?_];constructor
  ·intro hd;rcases Qx ((h d).mp (QG _ hd)) with e|g
   ·subst e;exact absurd hd (nx ha'.1)
   exact g
  intro hd;rcases Qx ((h d).mpr (QG _ hd)) with e|g
  ·subst e;exact absurd hd (nx KO.1)
  exact g
theorem qt{ds:List (List ae)}(Iq:∀d∈ds,d.map cF=sh)(hf:gy ds)(nd:ds.Nodup) :
  ((cW ds).map λi=>ds.getD i []).Pairwise (λx y=>bm x y=true)/\(∀i∈cW ds,i<ds.length)/\∀j,j<ds.length->j∈cW ds:=by
 unfold cW;by_cases h2:ds.length<2
 ·rw[if_pos h2];refine⟨?_,λi hi=>List.mem_range.mp hi,λj hj=>List.mem_range.mpr hj⟩
  match ds,h2 with
  | [],_=>exact .nil
  | [a],_=>exact List.pairwise_singleton ..
 rw[if_neg h2];have gd:∀i,i<ds.length->ds.getD i []∈ds:=λi hi=>by rw[Qd,Qb hi];exact QN hi
 have ok:=(ng (by omega) (nh Iq hf)).1;generalize dF ds.length (dR ds)=q at ok;obtain⟨pm,sg,_⟩:=ok;have pl:=Array.perm_iff_toList_perm.mp pm;have hm:∀i,i∈q.toList↔i<ds.length:=λi=>by rw[pl.mem_iff];simp
 refine⟨?_,λi hi=>(hm i).mp hi,λj hj=>(hm j).mpr hj⟩;rw[List.pairwise_map];refine List.pairwise_iff_getElem.mpr λi j hi hj KN=>?_;have ndq:q.toList.Nodup:=pl.nodup_iff.mpr (by simpa using List.nodup_range);have HL:q.toList[i]≠q.toList[j]:=List.pairwise_iff_getElem.mp ndq i j hi hj KN;have li:=(hm _).mp (QN hi);have lj:=(hm _).mp (QN hj);have hq:∀i (h:i<q.toList.length),q.toList[i]=q.getD i 0:=λi h=>by rw[QM] at h;simp[Array.getD,h]
 have hz:q.toList.length=ds.length:=by rw[pl.length_eq];simp
 have h1:=sg i j (Qy _) KN (by omega);rw[<-hq i hi,<-hq j hj] at h1;refine m9 ((Iq _ (gd _ lj)).trans (Iq _ (gd _ li)).symm) (λe=>HL ?_) h1;rw[Qd,Qd,Qb li,Qb lj] at e;have pw:=List.pairwise_iff_getElem.mp nd;rcases Nat.lt_trichotomy q.toList[i] q.toList[j] with g|g|g
 ·exact absurd e.symm (pw _ _ li lj g)
 ·exact g
 exact absurd e (pw _ _ lj li g)
end L2
namespace Mm
open PySem L2 PyProof.Rows
inductive Tr where
 |set (r:Nat) (n:Str) (e:Ex)
 |tell (r:Nat) (e:Ex)
 |iff (r:Nat) (e:Ex) (b o:List Tr)
 |whl (r:Nat) (e:Ex) (b:List Tr)
 |give (r:Nat) (e:Ex)
 |df (r:Nat) (n k:Str) (ps:List (Str×Str)) (b:List Tr)
 |kd (r:Nat) (n:Str) (ps:List (Str×Str))
noncomputable def Tr.row:Tr->Nat
 |.set r _ _=>r
 |.tell r _=>r
 |.iff r _ _ _=>r
 |.whl r _ _=>r
 |.give r _=>r
 |.df r _ _ _ _=>r
 |.kd r _ _=>r
mutual
noncomputable def Tr.deep:Tr->Nat
 |.set _ _ _=>0
 |.tell _ _=>0
 |.iff _ _ b o=>max (deeps b) (deeps o)
 |.whl _ _ b=>deeps b
 |.give _ _=>0
 |.df _ _ _ _ b=>deeps b
 |.kd _ _ _=>0
noncomputable def deeps:List Tr->Nat
 | []=>0
 |t::ts=>max (t.deep+1) (deeps ts)
end
inductive bw where
 |s (z:Str)
 |i (n:Nat)
 |e (x:Ex)
 |b (ts:List Tr)
 |p (ps:List (Str×Str))
noncomputable def Tr.parts:Tr->List bw
 |.set r n e=>[.s "set",.i r,.s n,.e e]
 |.tell r e=>[.s "tell",.i r,.e e]
 |.iff r e b o=>[.s "if",.i r,.e e,.b b,.b o]
 |.whl r e b=>[.s "while",.i r,.e e,.b b]
 |.give r e=>[.s "give",.i r,.e e]
 |.df r n k ps b=>[.s "def",.i r,.s n,.s k,.p ps,.b b]
 |.kd r n ps=>[.s "kind",.i r,.s n,.p ps]
theorem Tr.parts_len(t:Tr):t.parts.length<=6:=by cases t<;>simp[Tr.parts]
def eS(H:Hp)(v:V)(ps:List (Str×Str)):Prop:=∃(t:Addr) (us:List Addr),v=.ref t/\H t=some (.tup (us.map V.ref))/\us.length=ps.length/\∀(i:Nat) (u:Addr) (q:Str×Str),us[i]?=some u->ps[i]?=some q->H u=some (.tup [.str q.1,.str q.2])
mutual
inductive bx (H:Hp) (sh:Bool):V->Tr->Prop where
 |mk {t:Addr} {vs:List V} {x:Tr}:H t=some (.tup vs)->PsAt H sh vs x.parts->bx H sh (.ref t) x
inductive PsAt (H:Hp) (sh:Bool):List V->List bw->Prop where
 |nil:PsAt H sh [] []
 |cons {v:V} {vs:List V} {p:bw} {ps:List bw}:PAt H sh v p->PsAt H sh vs ps->PsAt H sh (v::vs) (p::ps)
inductive PAt (H:Hp) (sh:Bool):V->bw->Prop where
 |s (z:Str):PAt H sh (.str z) (.s z)
 |i (n:Nat):PAt H sh (.int (n:Int)) (.i n)
 |e {v:V} {x:Ex}:aU H v x->PAt H sh v (.e x)
 |b {l:Addr} {xs:List V} {ts:List Tr}:H l=some (.lst xs)->LAt H sh xs ts->PAt H sh (.ref l) (.b ts)
 |p {v:V} {ps:List (Str×Str)}:eS H v ps->PAt H sh v (.p ps)
inductive LAt (H:Hp) (sh:Bool):List V->List Tr->Prop where
 |nil:LAt H sh [] []
 |cons {v:V} {vs:List V} {t:Tr} {ts:List Tr}:OAt H sh v t->LAt H sh vs ts->LAt H sh (v::vs) (t::ts)
inductive OAt (H:Hp) (sh:Bool):V->Tr->Prop where
 |plain {v:V} {t:Tr}:sh=false->bx H sh v t->OAt H sh v t
 |shared {p:Addr} {v:V} {t:Tr}:sh=true->H p=some (.tup [.int 1,v])->bx H sh v t->OAt H sh (.ref p) t
end
structure bK(H H':Hp):Prop where
 t:∀b xs,H b=some (.tup xs)->H' b=some (.tup xs)
 l:∀b xs,H b=some (.lst xs)->H' b=some (.lst xs)
 z:∀b o x,H b=some (.frz o x)->H' b=some (.frz o x)
 b:∀b ps,H b=some (.tbl ps)->H' b=some (.tbl ps)
theorem bK.refl(H:Hp):bK H H:=⟨λ_ _ h=>h,λ_ _ h=>h,λ_ _ _ h=>h,λ_ _ h=>h⟩
theorem bK.trans{H H1 H2:Hp}(a:bK H H1)(b:bK H1 H2):bK H H2:=⟨λ_ _ h=>b.1 _ _ (a.1 _ _ h),λ_ _ h=>b.2 _ _ (a.2 _ _ h),λ_ _ _ h=>b.z _ _ _ (a.z _ _ _ h),λ_ _ h=>b.b _ _ (a.b _ _ h)⟩
theorem bK.seq{K:W.Frag}{H H':Hp}(s:bK H H'){a:Addr}{xs:List V}(h:am K H a xs):am K H' a xs:=by
 rcases h with (h|⟨o,h⟩)|h
 ·exact .inl (.inl (s.2 _ _ h))
 ·exact .inl (.inr ⟨o,s.z _ _ _ h⟩)
 exact .inr h
theorem _root_.L2.Same.ls(s:Same H H'):bK H H':=⟨λ_ _ h=>s _ _ h,λ_ _ h=>s _ _ h,λ_ _ _ h=>s _ _ h,λ_ _ h=>s _ _ h⟩
structure jh(H H':Hp):Prop where
 t:∀b xs,H b=some (.tup xs)->H' b=some (.tup xs)
 l:∀b xs,H b=some (.lst xs)->H' b=some (.lst xs)
theorem bK.w{H H':Hp}(s:bK H H'):jh H H':=⟨s.1,s.2⟩
theorem eS.keep(h:eS H v ps)(s:jh H H'):eS H' v ps:=by obtain⟨t,us,a,b,c,d⟩:=h;exact⟨t,us,a,s.1 _ _ b,c,λi u q x y=>s.1 _ _ (d i u q x y)⟩
mutual
theorem bx.keep(s:jh H H'):∀{v:V} {t:Tr},bx H sh v t->bx H' sh v t
 |_,_,.mk h a=>.mk (s.1 _ _ h) (a.keep s)
theorem PsAt.keep(s:jh H H'):∀{vs:List V} {ps:List bw},PsAt H sh vs ps->PsAt H' sh vs ps
 |_,_,.nil=>.nil
 |_,_,.cons a b=>.cons (a.keep s) (b.keep s)
theorem PAt.keep(s:jh H H'):∀{v:V} {p:bw},PAt H sh v p->PAt H' sh v p
 |_,_,.s z=>.s z
 |_,_,.i n=>.i n
 |_,_,.e a=>.e (a.kept s.1)
 |_,_,.b l a=>.b (s.2 _ _ l) (a.keep s)
 |_,_,.p a=>.p (a.keep s)
theorem LAt.keep(s:jh H H'):∀{vs:List V} {ts:List Tr},LAt H sh vs ts->LAt H' sh vs ts
 |_,_,.nil=>.nil
 |_,_,.cons a b=>.cons (a.keep s) (b.keep s)
theorem OAt.keep(s:jh H H'):∀{v:V} {t:Tr},OAt H sh v t->OAt H' sh v t
 |_,_,.plain e a=>.plain e (a.keep s)
 |_,_,.shared e h a=>.shared e (s.1 _ _ h) (a.keep s)
end
theorem eS.kept(h:eS H v ps)(s:bK H H'):eS H' v ps:=h.keep s.w
theorem bx.kept(s:bK H H'){t:Tr}(h:bx H sh v t):bx H' sh v t:=h.keep s.w
theorem PsAt.kept(s:bK H H')(h:PsAt H sh vs ps):PsAt H' sh vs ps:=h.keep s.w
theorem PAt.kept{H H':Hp}{sh:Bool}(s:bK H H'){v:V}{p:bw}(h:PAt H sh v p):PAt H' sh v p:=h.keep s.w
theorem LAt.kept(s:bK H H')(h:LAt H sh vs ts):LAt H' sh vs ts:=h.keep s.w
theorem OAt.kept(s:bK H H'){t:Tr}(h:OAt H sh v t):OAt H' sh v t:=h.keep s.w
theorem PsAt.length{H:Hp}{sh:Bool}:∀{vs:List V} {ps:List bw},PsAt H sh vs ps->vs.length=ps.length
 |_,_,.nil=>rfl
 |_,_,.cons _ b=>by simp[b.length]
theorem PsAt.get{H:Hp}{sh:Bool}:∀{vs:List V} {ps:List bw},PsAt H sh vs ps->∀{i:Nat} {v:V},vs[i]?=some v->∃p,ps[i]?=some p/\PAt H sh v p
 |_,_,.nil,i,v,h=>by simp at h
 |_,_,.cons a b,0,v,h=>by cases (show some _=some v from h);exact⟨_,rfl,a⟩
 |_,_,.cons a b,i+1,v,h=>b.get h
theorem PsAt.snoc:∀{vs:List V} {ps:List bw} {v:V} {p:bw},PsAt H sh vs ps->PAt H sh v p->PsAt H sh (vs++[v]) (ps++[p])
 |_,_,_,_,.nil,h=>.cons h .nil
 |_,_,_,_,.cons a b,h=>.cons a (b.snoc h)
theorem PAt.other{H:Hp}{sh sh':Bool}{v:V}{p:bw}(h:PAt H sh v p)(n:∀ts,p≠.b ts):PAt H sh' v p:=by
 cases h with
 |s z=>exact .s z
 |i m=>exact .i m
 |e a=>exact .e a
 |b _ _=>exact absurd rfl (n _)
 |p a=>exact .p a
theorem aU.tup{H:Hp}{v:V}{e:Ex}(h:aU H v e):∃t xs,v=.ref t/\H t=some (.tup xs):=by
 cases h with
 |num h=>exact⟨_,_,rfl,h⟩
 |truth h=>exact⟨_,_,rfl,h⟩
 |name h=>exact⟨_,_,rfl,h⟩
 |not h _=>exact⟨_,_,rfl,h⟩
 |op h _ _=>exact⟨_,_,rfl,h⟩
 |of h _=>exact⟨_,_,rfl,h⟩
 |many h _ _=>exact⟨_,_,rfl,h⟩
theorem Dp(K:W.Frag):PySem.W.kitOne K (.type "int") (.type "list")=some false:=by rfl
theorem Dq(K:W.Frag):PySem.W.kitOne K (.type "str") (.type "list")=some false:=by rfl
theorem vG(K:W.Frag):PySem.W.kitOne K (.type "tuple") (.type "list")=some false:=by rfl
theorem PAt.isL{K:W.Frag}{H:Hp}{sh:Bool}{v:V}{p:bw}(h:PAt H sh v p):(∃ts l xs,p=.b ts/\v=.ref l/\H l=some (.lst xs)/\LAt H sh xs ts/\dE K H v (.type "list")/\PySem.W.kitOne K (.type "list") (.type "list")=some true) ∨
  (∀ts,p≠.b ts)/\∃t,dE K H v t/\PySem.W.kitOne K t (.type "list")=some false:=by
 cases h with
 |s z=>exact .inr ⟨λ_ h=>(nomatch h),_,.str z,Dq K⟩
 |i n=>exact .inr ⟨λ_ h=>(nomatch h),_,.int _,Dp K⟩
 |e a =>
  obtain⟨t,xs,rfl,ht⟩:=aU.tup a;exact .inr ⟨λ_ h=>(nomatch h),_,.tup ht,vG K⟩
 |b h a=>exact .inl ⟨_,_,_,rfl,rfl,h,a,.lst h,by rfl⟩
 |p a =>
  obtain⟨t,us,rfl,ht,_⟩:=a;exact .inr ⟨λ_ h=>(nomatch h),_,.tup ht,vG K⟩
theorem LAt.length{H:Hp}{sh:Bool}:∀{vs:List V} {ts:List Tr},LAt H sh vs ts->vs.length=ts.length
 |_,_,.nil=>rfl
 |_,_,.cons _ b=>by simp[b.length]
theorem LAt.get{H:Hp}{sh:Bool}:∀{vs:List V} {ts:List Tr},LAt H sh vs ts->∀{i:Nat} {v:V},vs[i]?=some v->∃t,ts[i]?=some t/\OAt H sh v t
 |_,_,.nil,i,v,h=>by simp at h
 |_,_,.cons a b,0,v,h=>by cases (show some _=some v from h);exact⟨_,rfl,a⟩
 |_,_,.cons a b,i+1,v,h=>b.get h
theorem LAt.snoc:∀{vs:List V} {ts:List Tr} {v:V} {t:Tr},LAt H sh vs ts->OAt H sh v t->LAt H sh (vs++[v]) (ts++[t])
 |_,_,_,_,.nil,h=>.cons h .nil
 |_,_,_,_,.cons a b,h=>.cons a (b.snoc h)
mutual
noncomputable def Tr.cnt:Tr->Nat
 |.set _ _ _=>1
 |.tell _ _=>1
 |.iff _ _ b o=>1+(cnts b+cnts o)
 |.whl _ _ b=>1+cnts b
 |.give _ _=>1
 |.df _ _ _ _ b=>1+cnts b
 |.kd _ _ _=>1
noncomputable def cnts:List Tr->Nat
 | []=>0
 |t::ts=>t.cnt+cnts ts
end
theorem nq:∀(a b:List Tr),cnts (a++b)=cnts a+cnts b
 | [],b=>by simp[cnts]
 |t::a,b=>by simp[cnts,nq a b];lia
mutual
noncomputable def Ex.deep:Ex->Nat
 |.num _=>0
 |.truth _=>0
 |.name _=>0
 |.not e=>e.deep+1
 |.op _ a b=>max a.deep b.deep+1
 |.of _ e=>e.deep+1
 |.many _ _ es=>g6 es+1
noncomputable def g6:List Ex->Nat
 | []=>0
 |e::es=>max e.deep (g6 es)
end
mutual
def Ex.good:Ex->Prop
 |.num _=>True
 |.truth _=>True
 |.name _=>True
 |.not e=>e.good
 |.op w a b=>w∈j7/\a.good/\b.good
 |.of _ e=>e.good
 |.many w _ es=>(w="do"∨w="new")/\es.length<=20/\qu es
def qu:List Ex->Prop
 | []=>True
 |e::es=>e.good/\qu es
end
theorem qw:∀{es:List Ex} {e:Ex},e∈es->e.deep<=g6 es
 |x::es,e,h=>by
  rcases Qx h with z|z
  ·subst z;simp[g6];lia
  have:=qw z;simp[g6];lia
def Ex.fit(e:Ex):Prop:=e.good/\e.deep<8
mutual
def Tr.asc:Tr->Prop
 |.set _ _ e=>e.fit
 |.tell _ e=>e.fit
 |.iff _ e b o=>e.fit/\(b.length<=40/\ascs b)/\o.length<=40/\ascs o
 |.whl _ e b=>e.fit/\b.length<=40/\ascs b
 |.give _ e=>e.fit
 |.df _ _ _ ps b=>ps.length<=20/\b.length<=40/\ascs b
 |.kd _ _ ps=>ps.length<=20
def ascs:List Tr->Prop
 | []=>True
 |t::ts=>t.asc/\(∀u∈ts,t.row<u.row)/\ascs ts
end
theorem ExsAt.get{H:Hp}:∀{vs:List V} {es:List Ex},ExsAt H vs es->∀{i:Nat} {v:V},vs[i]?=some v->∃e,es[i]?=some e/\aU H v e
 |_,_,.nil,i,v,h=>by simp at h
 |_,_,.cons a b,0,v,h=>by cases (show some _=some v from h);exact⟨_,rfl,a⟩
 |_,_,.cons a b,i+1,v,h=>ExsAt.get b h
theorem ExsAt.len{H:Hp}:∀{vs:List V} {es:List Ex},ExsAt H vs es->vs.length=es.length
 |_,_,.nil=>rfl
 |_,_,.cons a b=>by simp[ExsAt.len b]
theorem nr{t:Tr}(h:bw.b ts∈t.parts):deeps ts<=t.deep:=by
 cases t with
 |set r n e=>simp[Tr.parts] at h
 |tell r e=>simp[Tr.parts] at h
 |iff r e b o =>
  simp[Tr.parts] at h;rcases h with h|h<;>subst h<;>simp[Tr.deep]<;>lia
 |whl r e b=>simp[Tr.parts] at h;subst h;simp[Tr.deep]
 |give r e=>simp[Tr.parts] at h
 |df r n k ps b=>simp[Tr.parts] at h;subst h;simp[Tr.deep]
 |kd r n ps=>simp[Tr.parts] at h
theorem lG{t:Tr}{ts:List Tr}(a:t.asc)(h:bw.b ts∈t.parts):ts.length<=40/\ascs ts:=by
 cases t with
 |set r n e=>simp[Tr.parts] at h
 |tell r e=>simp[Tr.parts] at h
 |iff r e b o =>
  simp[Tr.parts] at h;rcases h with h|h<;>subst h
  ·exact a.2.1
  exact a.2.2
 |whl r e b=>simp[Tr.parts] at h;subst h;exact a.2
 |give r e=>simp[Tr.parts] at h
 |df r n k ps b=>simp[Tr.parts] at h;subst h;exact a.2
 |kd r n ps=>simp[Tr.parts] at h
theorem nv:∀{ts:List Tr} {t:Tr},t∈ts->t.deep+1<=deeps ts
 |u::ts,t,h=>by
  rcases Qx h with z|z
  ·subst z;simp[deeps];lia
  have:=nv z;simp[deeps];lia
theorem nw:∀{ts:List Tr} {t:Tr},ascs ts->t∈ts->t.asc
 |u::ts,t,a,h=>by
  rcases Qx h with z|z
  ·subst z;exact a.1
  exact nw a.2.2 z
theorem vH{us:List Tr}{d:Nat}:∀{vs:List Tr},(∀t∈vs,t.deep+1<=d)->deeps vs<=d
 | [],_=>by simp[deeps]
 |t::ts,h=>by have h1:=h t (by simp);have h2:=vH (us:=us) (vs:=ts) λx hx=>h x (by simp[hx]);rw[deeps];lia
noncomputable def Dr:Tr:=.kd 0 "" []
theorem vI:∀{ts:List Tr},(∀t∈ts,t.asc)->ts.Pairwise (λt u=>t.row<u.row)->ascs ts
 | [],_,_=>trivial
 |t::ts,h,p=>by rw[List.pairwise_cons] at p;exact⟨h t (.head _),p.1,vI (λx hx=>h x (.tail _ hx)) p.2⟩
theorem vJ:∀{ts:List Tr},ascs ts->ts.Pairwise λt u=>t.row<u.row
 | [],_=>.nil
 |t::ts,h=>.cons h.2.1 (vJ h.2.2)
end Mm
namespace L2
open PySem PySem.Spec PyProof.Rows
section
variable {prog:Program}{w:World}{A:Around}{E:Value->Shared->Prop}{s:Shared}{it d:Addr}{i ep:Nat}{es:Array DictEntry}{od:Obj}
theorem Ds(Lc:s.heap.IsKeyIter it d i es.size ep)(KH:s.heap.get? d=some od)(Kv:od.data=.dict es ep)(HS:i<es.size)
  (hQ:∀h',h'.IsKeyIter it d (i+1) es.size ep->Heap.SameBut it s.heap h'->Q (some es[i].key) {s with heap:=h'}):wpAny (model prog w) A (pyNext (.ref it)) Q E s:=by
 have hT:=Lc.typeIs;obtain⟨o,ho,hc,hd⟩:=Lc;unfold pyNext;refine Qa (wpAny_attempt (wpAny_callSpecial?_slot (name:=Str.ofString "__next__") hT F.slot_dict_keyiterator_next (wpAny_call_entry F.slot_dict_keyiterator_next hT F.entry_dict_keyiterator_next ?_ (F.args_dict_keyiterator_next_1 _))));refine Qa (Qe (Qa (Qa ?_)))
 first|refine Qa (wpAny_typeNameOfWhole_keyiter hT (Qe (Qa (wpAny_fieldsOf ho hd ?_))))|refine Qa (wpAny_typeNameOf_keyiter hT (Qe (Qa (wpAny_fieldsOf ho hd ?_))))
 simp only[show Builtin.Dict_items.ownsTuple "dict_keyiterator"=false by decide,QS,if_false];show wpAny _ _ (if(Value.ref d==Value.none)=true then _ else _) _ _ _;rw[if_neg (show ¬(Value.ref d==Value.none)=true from λz=>by cases z)];refine Qa (Qe (Qa (wpAny_dictEntries KH Kv ?_)));rw[if_neg (by simp)];refine Qa (Qe (Qa (wpAny_dictEpoch KH Kv ?_)));rw[if_neg (by simp)];refine Qe ?_;simp only[show ¬((i:Int)<0) by lia,if_false,QF,Array.getElem?_eq_getElem HS];refine Qa ?_
 first|refine Qa (wpAny_typeNameOfWhole_keyiter hT (Qe (Qa (wpAny_isOneOf_keyiter hT ?_))))|refine Qa (wpAny_typeNameOf_keyiter hT (Qe (Qa (wpAny_isOneOf_keyiter hT ?_))))
 show wpAny _ _ (setField (.ref it) 1 (rawInt ((i:Int)+1))>>=_) _ _ _;refine Qa (wpAny_setField ho hd (by simp) (Qa (wpAny_holding ?_)));have hi2:(s.heap.update it (Obj.mapFields (·.setIfInBounds 1 (rawInt ((i:Int)+1))))).IsKeyIter it d (i+1) es.size ep:=by refine⟨_,Heap.get?_update_self _ ho (Obj.isFreed_of_fields (Obj.data_mapFields hd _)),(Obj.cls_mapFields ..).trans hc,?_⟩;rw[Obj.data_mapFields hd];simp[rawInt]
 refine Qa (wpAny_isOneOf_keyiter (s:={s with heap:=s.heap.update it (Obj.mapFields (·.setIfInBounds 1 (rawInt ((i:Int)+1))))}) hi2.typeIs ?_);show wpAny _ _ (pure es[i].key) _ _ _;exact Qe (Qe ⟨_,rfl,Qe (hQ _ hi2 (Heap.SameBut.update ..))⟩)
theorem Dt(hh:A.handled=none)(Lc:s.heap.IsKeyIter it d i es.size ep)(KH:s.heap.get? d=some od)(Kv:od.data=.dict es ep)(K2:es.size<=i)
  (hQ:∀h',Heap.ExtBut it s.heap h'->Q none {s with heap:=h'}):wpAny (model prog w) A (pyNext (.ref it)) Q E s:=by
 have hT:=Lc.typeIs;obtain⟨o,ho,hc,hd⟩:=Lc;unfold pyNext;refine Qa (wpAny_attempt (wpAny_callSpecial?_slot (name:=Str.ofString "__next__") hT F.slot_dict_keyiterator_next (wpAny_call_entry F.slot_dict_keyiterator_next hT F.entry_dict_keyiterator_next ?_ (F.args_dict_keyiterator_next_1 _))));refine Qa (Qe (Qa (Qa ?_)))
 first|refine Qa (wpAny_typeNameOfWhole_keyiter hT (Qe (Qa (wpAny_fieldsOf ho hd ?_))))|refine Qa (wpAny_typeNameOf_keyiter hT (Qe (Qa (wpAny_fieldsOf ho hd ?_))))
 simp only[show Builtin.Dict_items.ownsTuple "dict_keyiterator"=false by decide,QS,if_false];show wpAny _ _ (if(Value.ref d==Value.none)=true then _ else _) _ _ _;rw[if_neg (show ¬(Value.ref d==Value.none)=true from λz=>by cases z)];refine Qa (Qe (Qa (wpAny_dictEntries KH Kv ?_)));rw[if_neg (by simp)];refine Qa (Qe (Qa (wpAny_dictEpoch KH Kv ?_)));rw[if_neg (by simp)];refine Qe ?_;simp only[show ¬((i:Int)<0) by omega,if_false,QF,Array.getElem?_eq_none K2];refine Qa ?_
 first|refine Qa (wpAny_typeNameOfWhole_keyiter hT (Qe ?_))|refine Qa (wpAny_typeNameOf_keyiter hT (Qe ?_))
 show wpAny _ _ (setField (.ref it) 0 .none>>=_) _ _ _;refine Qa (wpAny_setField ho hd (by simp) ?_);show wpAny _ _ (newExc (.type "StopIteration") []>>=_) _ _ _;refine Qa ?_;simp only[newExc,newTuple];refine Qa (wpAny_newObj_type (Qa (m:=firstArgMember _ _) (wpAny_of_eq (a:=Value.none) (by first|rfl|(simp only[firstArgMember];rfl)) (wpAny_newObj_type ?_ (by size_fits)))) (by size_fits));simp only[raiseNew];refine Qa (wpAny_handled ?_);rw[show A.in1.handled=none from hh];refine(Qa (Qe (wpAny_throw ?_)));refine(Qa (wpAny_isInstance (T:="StopIteration") (b:=true) ⟨_,Qm _ rfl,rfl⟩ isSubtype_stop (Qe (hQ _ ?_))));exact((Heap.SameBut.update ..).extBut.push _).push _
theorem Du(hT:s.TypeIs (.ref d) "dict")(hd:(d==sysModules)=false)(KH:s.heap.get? d=some od)(Kv:od.data=.dict es ep)
  (hQ:Q (.ref s.heap.objs.size) {s with heap:=s.heap.push {cls:=.type "dict_keyiterator",data:=.fields #[.ref d,.int 0 0,.int es.size 0,.int ep 0]} }):wpAny (model prog w) A (pyIter (.ref d)) Q E s:=by
 refine wpAny_pyIter_slot hT F.slot_dict_iter (wpAny_call_entry F.slot_dict_iter hT F.entry_dict_iter ?_ (F.args_dict_iter_1 _));unfold Builtin.«dict.__iter__» Builtin.Dict.dictSlotNone;refine Qa (Qa (wpAny_notOrdered_dict hT ?_));show wpAny _ _ (pure (Value.ref d)) _ _ _;refine Qe ?_;show wpAny _ _ (Builtin.Dict.showsAll d>>=_) _ _ _;unfold Builtin.Dict.showsAll;rw[if_neg (show ¬(d==sysModules)=true by rw[hd];decide)];refine Qa (Qe (Qa (wpAny_dictEntries KH Kv (Qa (wpAny_dictEpoch KH Kv ?_)))));refine Qa (wpAny_newObj_type (Qe ⟨_,rfl,"dict_keyiterator",_,⟨_,Qm _ rfl,rfl⟩,F.slot_dict_keyiterator_next.lookup,?_⟩));simpa [rawInt] using hQ
end
theorem Dv{w:World}{h:Heap}{d:Addr}{od:Obj}{kvs:List (List ae×V)}{es:Array DictEntry}(ok:bJ P w H h)(e:H d=some (.frz od (.dT kvs)))(Kv:od.data=.dict es ep) :
  h.get? d=some od/\es.size=kvs.length/\∀(i:Nat) (hi:i<es.size) kv,kvs[i]?=some kv->∃b,es[i].key=.ref b/\H b=some (.tup (kv.1.map kV)):=by
 obtain⟨KH,_,_,xs,r,o,KP,ep',h1,_,h3,h4,_⟩:=(show bI P w H h d (.frz od (.dT kvs)) from ok d _ e)
 rw[KH] at h1;cases h1;rw[Kv] at h3;cases h3;have hl:es.size=xs.length:=by rw[<-QM,h4,Qg]
 refine⟨KH,by rw[hl];exact(Paired.length r).symm,λi hi kv hk=>?_⟩;have Ke:i<xs.length:=by lia
 have ek:es[i]=entryOfKey (tupleKind (bX P w)) xs[i]:=by have:=congrArg (λl=>l[i]?) h4;simp only[Qr,Qb Ke] at this;rw[Array.getElem?_toList,Array.getElem?_eq_getElem hi] at this;exact Qs this
 have pr:∀{l:List (List ae×V)} {m:List (List ae×Addr×Value)},Paired (λ(p:List ae×V) (q:List ae×Addr×Value)=>p.1=q.1/\H q.2.1=some (.tup (p.1.map kV))/\RelV p.2 q.2.2) l m->∀(i:Nat) p q,l[i]?=some p->m[i]?=some q->H q.2.1=some (.tup (p.1.map kV)):=by
  intro l m pq
  induction pq with
  |nil=>intro i p q h;simp at h
  |cons hq _ ih =>
   intro i p q h1 h2
   cases i with
   |zero =>
    simp only[List.getElem?_cons_zero,Option.some.injEq] at h1 h2;subst h1 h2;exact hq.2.1
   |succ j =>
    simp only[List.getElem?_cons_succ] at h1 h2;exact ih j p q h1 h2
 exact⟨xs[i].2.1,by rw[ek];rfl,pr r i kv xs[i] hk (Qb Ke)⟩
section
variable {X:Cx}{tg:Expr}
theorem Inv.freeze{s:Shared}{d:Addr}(I:Inv X HJ σ H s)(e:H d=some (.dT kvs))(ho:s.heap.get? d=some od):Inv X HJ σ (ag H d (.frz od (.dT kvs))) s:=by
 have h0:∀{t:Nat},Inv X HJ σ (ag H d (.frz od (.dT kvs))) {s with heap:=s.heap,toks:=t}:=by intro t;refine I.write (x:=d) (e:=d) (by rw[e];trivial) (.inl rfl) (λb q hb z=>z) ⟨_,ho⟩ ⟨ho,?_⟩;have q:=I.hok d _ e;exact q.stay (λ_ _ _ z=>z) (λc z=>by rw[ay (λy=>by rw[y,e] at z;cases z)];exact z) λc xs z=>by rw[ay (λy=>by rw[y,e] at z;cases z)];exact z
 exact h0 (t:=s.toks)
end
end L2
namespace L2
open PySem PySem.Spec PyProof.Rows PySem.W
theorem Dw{w:World}{d:Addr}{od:Obj}{es:Array DictEntry}(hc:od.cls=.type "dict")(Kv:od.data=.dict es ep)(hs:(d==sysModules)=false) :
  KdlSrc prog w "dict" d d es.size (λi v=>∃h:i<es.size,v=es[i].key) (λh=>h.get? d=some od) where
 type:=λs h=>⟨od,h,hc⟩
 there:=λh e=>⟨Qt e,Qt e⟩
 keep:=λh h' e k=>k d (.inl rfl) _ e
 notList:=by decide
 notTuple:=by decide
 hint:=λA E s Q h q=>kdl_hint_dict ⟨od,h,hc⟩ q
 iter:=λA s hh h=>by
  refine⟨_,λi h'=>h'.IsKeyIter s.heap.objs.size d i es.size ep/\h'.get? d=some od,λE Q q=>Du ⟨od,h,hc⟩ hs h Kv q,?_,?_⟩
  ·have HL:d≠s.heap.objs.size:=QB (Qt h);refine⟨λb hb=>List.mem_cons.mpr (.inl (by simpa using hb)),λi h1 h2 st k=>⟨st.1.at λo e=>k _ (by simp) o e,k d (by simp) _ st.2⟩,?_,?_,?_⟩
   ·intro i s1 Q E hi st q;refine Ds st.1 st.2 Kv hi λh' Ix sb=>?_;exact q _ h' s1.toks ⟨hi,rfl⟩ ⟨Ix,(sb.2 d HL).trans st.2⟩ λb o hb e=>(sb.2 b (by simpa using hb)).trans e
   ·intro s1 Q E st q;refine Dt hh st.1 st.2 Kv (Qh _) λh' eb=>?_;exact q h' s1.toks λb o hb e=>eb b o (by simpa using hb) e
   intro i s1 Q E st q;exact wpAny_pyIter_keyiter st.1 q
  exact⟨⟨_,Qm _ rfl,rfl,rfl⟩,Qf _ h⟩
section
variable {X:Cx}
theorem Dx(hc:X.calm=true):dM X (.builtin "sorted") (λas H Q=>∃(d:Addr) (kvs:List (List ae×V)) (sh:List Bool),as=[.ref d]/\H d=some (.dT kvs)/\kvs.length<1000000/\(∀kv∈kvs,kv.1.map cF=sh)/\gy (kvs.map (·.1))/\sh≠[] /\
  ∀p xs,H p=none->bA H xs (kvs.map (·.1))->Q (.ref p) (ag H p (.lst (b7 (kvs.map (·.1)) xs)))):=by
 intro HJ s σ H as us Q I r h;obtain⟨d,kvs,sh,rfl,hd,Lf,Iq,hf,HL,q⟩:=h;obtain⟨u,rfl,ru⟩:=vals1 r;cases (show u=Value.ref d from ru);obtain⟨z,hs,ys,Iu,dd⟩:=uJ I.hok hd;have hT:=dd.typeIs;obtain⟨od,es,ep,ho,IM,hdat,_⟩:=dd;have IM:od.cls=.type "dict":=by obtain⟨o,e,c⟩:=hT;rw[ho] at e;cases e;exact c
 have If:=I.freeze hd ho;obtain⟨_,hsz,hat⟩:=Dv If.hok ah hdat;refine Calls.call_function_entry kind_sorted plain_sorted entry_sorted (args_sorted1 _) ?_;unfold Builtin.«sorted»;refine Qa (m:=checkCount "sorted" 1 1 _) (Qe ?_);refine Qa (kdu_collect (Dw IM hdat hs) (I.ok.hd hc) ho (by rw[hsz,sizeLine_eq];lia) λh1 tk Ia hk Jt=>?_);obtain⟨hal,hav⟩:=Jt;have I1:Inv X HJ σ H {s with heap:=h1,toks:=tk}:=I.kept (t':=tk) hk
 have each:∀(i:Nat) (v:Value),Ia.toList[i]?=some v->∃b kv,v=.ref b/\kvs[i]?=some kv/\H b=some (.tup (kv.1.map kV)):=λi v hv=>by
  rw[Array.getElem?_toList] at hv;obtain⟨hi,rfl⟩:=hav i v hv;have KM:i<kvs.length:=by rw[<-hsz];exact hi
  obtain⟨b,e1,e2⟩:=hat i hi kvs[i] (Qb KM);have hbd:b≠d:=λz=>by rw[z,ah] at e2;cases e2
  rw[ay hbd] at e2;exact⟨b,kvs[i],e1,Qb KM,e2⟩
 obtain⟨xs,rv,hxt⟩:∃xs:List V,az xs Ia.toList/\∀(i:Nat) (x:V),xs[i]?=some x->∃b kv,x=.ref b/\kvs[i]?=some kv/\H b=some (.tup (kv.1.map kV)):=by
  have go:∀(vs:List Value) (f:Nat->Option (List ae×V)),(∀(i:Nat) (v:Value),vs[i]?=some v->∃b kv,v=.ref b/\f i=some kv/\H b=some (.tup (kv.1.map kV)))->∃xs:List V,az xs vs/\∀(i:Nat) (x:V),xs[i]?=some x->∃b kv,x=.ref b/\f i=some kv/\H b=some (.tup (kv.1.map kV)):=by
   intro vs
   induction vs with
   |nil=>intro f _;exact⟨[],.nil,λi x h=>by simp at h⟩
   |cons v vs ih =>
    intro f h;obtain⟨b,kv,rfl,e2,e3⟩:=h 0 v rfl;obtain⟨xs,r1,r2⟩:=ih (λi=>f (i+1)) λi v hv=>h (i+1) v hv;refine⟨.ref b::xs,.cons rfl r1,λi x hx=>?_⟩
    cases i with
    |zero =>
     have:V.ref b=x:=by simpa using hx
     subst this;exact⟨b,kv,rfl,e2,e3⟩
    |succ i=>exact r2 i x hx
  exact go Ia.toList (λi=>kvs[i]?) each
 have K7:xs.length=kvs.length:=by rw[rv.length,QM,hal,hsz]
 have ht:bA H xs (kvs.map (·.1)):=⟨by rw[K7,Qg],λi x k hx hk=>by
  obtain⟨b,kv,e1,e2,e3⟩:=hxt i x hx;rw[Qr,e2] at hk;have:kv.1=k:=by simpa using hk
  exact⟨b,e1,by rw[<-this];exact e3⟩⟩
 have hsh2:∀k∈kvs.map (·.1),k.map cF=sh:=λk hk=>by obtain⟨kv,h1,rfl⟩:=QJ hk;exact Iq kv h1
 have h64x:xs.length<1000000:=by rw[K7];exact Lf
 generalize Ia.toList=its at rv;have Il:its.length=xs.length:=rv.length.symm;have hz:its.length<=sizeLine:=by rw[sizeLine_eq];lia
 refine Qa (wpAny_newList (s:={s with heap:=h1,toks:=tk}) ?_ hz);have Jo:(h1.push (seqObj "list" its.toArray 0)).get? h1.objs.size=some (seqObj "list" its.toArray 0):=Qm _ rfl;have I2:Inv X HJ σ H {s with heap:=h1.push (seqObj "list" its.toArray 0),toks:=tk}:=I1.kept (t':=tk) λb o e=>Qf _ e;have fL:cK X HJ H h1.objs.size:=I1.fpOk (Qh _) (I1.hok.fresh (Qh _));change wpAny _ _ _ _ _ {s with heap:=h1.push (seqObj "list" its.toArray 0),toks:=tk};dsimp only;generalize h1.push (seqObj "list" its.toArray 0)=h2 at Jo I2;generalize h1.objs.size=L at Jo fL;refine Qa (wpAny_holding (wpAny_call_entry (s:={s with heap:=h2,toks:=tk}) slot_list_sort ⟨_,Jo,rfl⟩ entry_list_sort (vD I2 fL Jo rv (by rw[<-Il];exact hz) ht hsh2 hf HL λs' out n' I' KY Ij vy=>⟨_,rfl,?_⟩) (args_list_sort _)));refine Qe ⟨_,rfl,.ref L,ag H L (.lst (b7 (kvs.map (·.1)) xs)),I'.adopt fL ?_,rfl,q L xs fL.1 ht⟩;have IG:(b7 (kvs.map (·.1)) xs).length<=sizeLine:=by rw[vy.length,QM];exact Ij
 exact⟨IG,out.toList,n',vy,by simpa using KY⟩
end
end L2
namespace L2
open PySem PySem.Spec PyProof.Rows
theorem ny{X:Cx}{K:W.Frag}{n:String}(hK:X.K=K):dM X (.builtin "isinstance") (λxs H Q=>∃x t b,xs=[x,.ty n]/\dE K H x t/\PySem.W.kitOne K t (.type n)=some b/\Q (.bl b) H):=by subst hK;exact Bu
end L2
namespace L2
theorem Dy{α:Type}:∀{us:List α},us.length=1->∃a,us=[a]
 | [a],_=>⟨a,rfl⟩
theorem vK{α:Type}{n:Nat}:∀{us:List α},us.length=n+1->∃a r,us=a::r/\r.length=n
 |a::r,h=>⟨a,r,rfl,Nat.succ.inj h⟩
theorem g9{α:Type}{us:List α}(h:us.length=2):∃a b,us=[a,b]:=by obtain⟨a,r,rfl,k⟩:=vK h;obtain⟨b,rfl⟩:=Dy k;exact⟨a,b,rfl⟩
theorem Dz{α:Type}{us:List α}(h:us.length=3):∃a b c,us=[a,b,c]:=by obtain⟨a,r,rfl,k⟩:=vK h;obtain⟨b,c,rfl⟩:=g9 k;exact⟨a,b,c,rfl⟩
end L2
namespace L2
open PySem
theorem nz{K:W.Frag}{a:Addr}{xs:List V}{g:TG}{tb:TS}{D:cU}{σ:St}{H:Hp}(Pv:Nat->St->Hp->Prop)(h0:Pv 0 σ H)(hl:∀i σ H,i<=xs.length->Pv i σ H->am K H a xs)
  (hs:∀i x σ H,xs[i]?=some x->Pv i σ H->∀E:cU,(∀σ H,Pv (i+1) σ H->E.nx σ H)->g x σ H λσ2 H2=>tb E σ2 H2) (hd:∀σ H,Pv xs.length σ H->D.nx σ H) :
  ∃W:Nat->Nat->St->Hp->Prop,(∃m,W 0 m σ H)/\∀i m σ H,W i m σ H ->
   ((cL K a).stop i H/\D.nx σ H)∨((cL K a).go i H/\∃N:St->Hp->Prop,(∀σ' H',N σ' H'->∃m',m'<m/\W (i+1) m' σ' H')/\∀x H',(cL K a).yld i H x H'->g x σ H' λσ2 H2=>tb {D with nx:=N,ct:=N,bk:=D.nx} σ2 H2):=
 iq Pv h0 hl (λi x σ H hx hp=>hs i x σ H hx hp _ λ_ _ h=>h) hd
theorem vL{lo:Int}{n:Nat}{g:TG}{tb:TS}{D:cU}{σ:St}{H:Hp}(Pv:Nat->St->Hp->Prop)(h0:Pv 0 σ H)
  (hs:∀i σ H,i<n->Pv i σ H->∀E:cU,(∀σ H,Pv (i+1) σ H->E.nx σ H)->g (.int (lo+i)) σ H λσ2 H2=>tb E σ2 H2) (hd:∀σ H,Pv n σ H->D.nx σ H) :
  ∃W:Nat->Nat->St->Hp->Prop,(∃m,W 0 m σ H)/\∀i m σ H,W i m σ H ->
   ((fY lo n).stop i H/\D.nx σ H)∨((fY lo n).go i H/\∃N:St->Hp->Prop,(∀σ' H',N σ' H'->∃m',m'<m/\W (i+1) m' σ' H')/\∀x H',(fY lo n).yld i H x H'->g x σ H' λσ2 H2=>tb {D with nx:=N,ct:=N,bk:=D.nx} σ2 H2):=
 tq Pv h0 (λi σ H hi hp=>hs i σ H hi hp _ λ_ _ h=>h) hd
theorem j8{α β:Type}{f:α->β}{l:List α}{i:Nat}{x:β}(h:(l.map f)[i]?=some x):∃h:i<l.length,x=f l[i]:=by rw[Qr] at h;obtain⟨a,h1,h2⟩:=Option.map_eq_some_iff.mp h;obtain⟨h3,h4⟩:=Qc h1;exact⟨h3,by rw[h4,h2]⟩
end L2
namespace L2
open PySem PySem.Spec PyProof.Rows
noncomputable def K0:PySem.W.Frag:=[]
theorem am.up{K:W.Frag}{H:Hp}{a:Addr}{xs:List V}(h:am K0 H a xs):am K H a xs:=h.elim .inl λhsl66=>by obtain⟨_,_,_,e,_⟩:=hsl66;exact nomatch e
theorem ao.up{K:W.Frag}{H:Hp}{a:Addr}{xs:List V}(h:ao K0 H a xs):ao K H a xs:=h.elim .inl λhsl67=>by obtain⟨_,_,_,e,_⟩:=hsl67;exact nomatch e
section
variable {X:Cx}{tg:Expr}
theorem DB:iA X (jK K0):=by rintro va sl HJ s σ H x y v u Q I rx ry ⟨p,xs,i,v,e1,e2,h,e3,q⟩;exact uf va sl HJ s σ H x y _ u Q I rx ry ⟨p,xs,i,v,e1,e2,h.up,e3,q⟩
theorem eF:iA X (k7 K0):=by rintro va sl HJ s σ H x y v u Q I rx ry ⟨p,xs,i,v,e1,e2,h,e3,q⟩;exact ue va sl HJ s σ H x y _ u Q I rx ry ⟨p,xs,i,v,e1,e2,h.up,e3,q⟩
theorem av{j}(ha:PE X a ta):PE X (.Subscript a (.Constant (.int i) j p2) pos) (i8 (jK K0) ta (tC (.int i))):=bY DB ha ar (λ_ _=>rfl)
theorem j9{j}(ha:PE X a ta):PE X (.Subscript a (.Constant (.int i) j p2) pos) (i8 (k7 K0) ta (tC (.int i))):=bY eF ha ar (λ_ _=>rfl)
theorem aw{t:Addr}(j:Nat)(h1:σ[i]?=some (some (.ref t)))(h2:H t=some (.tup xs))(h3:xs[j]?=some v)(k:Q v H):i8 (jK K0) (mz i) (tC (.int (j:Int))) σ H Q:=⟨_,h1,t,xs,_,v,rfl,rfl,ao.of h2,aY h3,k⟩
theorem vM:fE X (mN K0):=by rintro HJ s σ H x v vl vu lo hi sl Q I rx hs pl pu ⟨a,xs,e,h,n,q⟩;exact ub HJ s σ H x v vl vu lo hi sl Q I rx hs pl pu ⟨a,xs,e,h.up,n,q⟩
theorem lH:bO X (compareOp .In) (lf K0 false):=by rintro HJ s σ H x y v u Q I rx ry ⟨p,xs,e,h,f,g,q⟩;exact Bc HJ s σ H x y v u Q I rx ry ⟨p,xs,e,h.imp am.up ao.up,f,g,q⟩
theorem DE:bO X (binaryOp .Add) (pH K0):=by rintro HJ s σ H x y v u Q I rx ry ⟨a,b,xs,ys,e1,e2,h1,h2,n,l,q1,q2⟩;exact A6 HJ s σ H x y v u Q I rx ry ⟨a,b,xs,ys,e1,e2,h1.up,h2.up,n,l,q1,q2⟩
inductive vN (xs:List V) (H:Hp) (Q:VK):Prop
 |mk:∀p ys,xs=[.ref p]->(am K0 H p ys∨ao K0 H p ys)->Q (.int ys.length) H->vN xs H Q
theorem lI:dM X (.builtin "len") vN:=by rintro HJ s σ H xs us Q I r ⟨p,ys,e,h,q⟩;exact pM HJ s σ H xs us Q I r ⟨p,ys,e,h.imp am.up ao.up,q⟩
theorem vO:dM X (.type "tuple") (λxs H Q=>∃p ys,xs=[.ref p]/\((am K0 H p ys/\∀l,H l=none->Q (.ref l) (ag H l (.tup ys)))∨(ao K0 H p ys/\Q (.ref p) H))):=by rintro HJ s σ H xs us Q I r ⟨p,ys,e,h⟩;exact uj HJ s σ H xs us Q I r ⟨p,ys,e,h.imp (λh=>⟨h.1.up,h.2⟩) λh=>⟨h.1.up,h.2⟩⟩
theorem dG{k:Nat}{t:im}(hc:X.calm=true)(h:jG X es t)
  (hn:(assignEach es X.env).length=n:=by rfl) (hst:(assignEach es X.env).findIdx? (·.1)=none:=by rfl):PG X (.Tuple es k pos) (mE K0 n t):=by
 rintro HJ s σ H v u Q I r ⟨a,xs,e1,hq,hl,hw⟩;exact mF hc h hn hst HJ s σ H v u Q I r ⟨a,xs,e1,hq.up,hl,hw⟩
theorem fX.mono{P:Program}{w:World}{K:W.Frag}{J J':It}{fp:List Addr}{it:Addr}{tn:Nat->Heap->Prop}(T:fX P w K tg J fp it tn)(g:∀i H,J'.go i H->J.go i H)(y:∀i H x H',J.yld i H x H'->J'.yld i H x H')(d:∀i H,J'.stop i H->J.stop i H):fX P w K tg J' fp it tn:=
 ⟨T.mem,T.obj,T.keep,λX a b c cl i HJ s σ H E I f t h=>QV (T.item X a b c cl i HJ s σ H E I f t (g i H h)) (λ_ _ hsl68=>by obtain⟨u,e,z⟩:=hsl68;exact⟨u,e,QV z (λ_ _ hsl69=>by obtain⟨x,H',q1,q2,q3,q4⟩:=hsl69;exact⟨x,H',q1,q2,y _ _ _ _ q3,q4⟩) λ_ _ z=>z⟩) λ_ _ z=>z,λX a b c cl i HJ s σ H E I f t h=>T.done X a b c cl i HJ s σ H E I f t (d i H h),T.self⟩
theorem cG{l:Expr}{tl:TE}(hl:PE X l tl):PI X tg l (tf K0 tl):=by intro HJ s σ H R I h;refine aA (hl HJ s σ H _ I h) λv s1 hsl70=>?_;obtain⟨x,H1,I1,r1,a,e,⟨xs,hq⟩,q⟩:=hsl70;subst e;cases r1;obtain⟨its,rv,p,hz⟩:=I1.list hq.up;refine wpAny_pyIter_list p.isList ⟨s1.heap.objs.size,[s1.heap.objs.size],_,cL K0 a,H1,rfl,I1.kept (t':=s1.toks) λb o e=>Qf _ e,(sZ a _).mono (λi H hsl71=>by obtain⟨xs,x,h,e⟩:=hsl71;exact⟨xs,x,h.up,e⟩) (λi H x H' hsl72=>by obtain⟨e,h⟩:=hsl72;exact⟨e,λxs z=>h xs z.up⟩) (λi H hsl73=>by obtain⟨xs,h,e⟩:=hsl73;exact⟨xs,h.up,e⟩),⟨_,Qm _ rfl,rfl,rfl⟩,λb hb=>?_,q⟩;rw[Qj hb];exact I1.fpOk (Qh _) (I1.hok.fresh (Qh _))
theorem kc{l:Expr}{tl:TE}(hl:PE X l tl):PI X tg l (Al K0 tl):=by intro HJ s σ H R I h;refine aA (hl HJ s σ H _ I h) λv s1 hsl74=>?_;obtain⟨x,H1,I1,r1,a,e,⟨xs,hq⟩,q⟩:=hsl74;subst e;cases r1;obtain⟨its,rv,p,hz⟩:=I1.tuple hq.up;refine wpAny_pyIter_tuple (show s1.heap.IsTuple a its.toArray from p) ⟨s1.heap.objs.size,[s1.heap.objs.size],_,io K0 a,H1,rfl,I1.kept (t':=s1.toks) λb o e=>Qf _ e,(Aj a _).mono (λi H hsl75=>by obtain⟨xs,x,h,e⟩:=hsl75;exact⟨xs,x,h.up,e⟩) (λi H x H' hsl76=>by obtain⟨e,h⟩:=hsl76;exact⟨e,λxs z=>h xs z.up⟩) (λi H hsl77=>by obtain⟨xs,h,e⟩:=hsl77;exact⟨xs,h.up,e⟩),⟨_,Qm _ rfl,rfl,rfl⟩,λb hb=>?_,q⟩;rw[Qj hb];exact I1.fpOk (Qh _) (I1.hok.fresh (Qh _))
theorem jL.up{K:W.Frag}{T:String}{x:V}{H:Hp}(h:jL K0 T x H):jL K T x H:=by
 cases x with
 |ref p=>exact h.elim (λ⟨e,xs,z⟩=>.inl ⟨e,xs,z.up⟩) λh=>h.elim (λ⟨_,_,e,_⟩=>nomatch e) λh=>.inr (.inr h)
 |_=>exact h
section
variable {o e:Expr}{es:List Expr}{to:TE}{t:TA}{apos HW:Pos}
theorem gc(ho:PE X o to)(ha:PA X (e::es) t)
  (Je:attributeBase o "append" X.env (eval o X.env)=eval o X.env:=by rfl)
  (hfew:((backTo HW (starEach (e::es) X.env)).all (λx=>!x.1)&&(backToKw HW (keywordEach [] X.env)).all (λx=>x.1.isSome)
   && decide ((e::es).length+([]:List Keyword).length+(if([]:List Keyword).isEmpty then 0 else 1)<30))=true:=by rfl)
  (Jd:(apos.endLine==HW.line)=true:=by rfl) (hs:starEach (e::es) X.env=(false,eval e X.env)::starEach es X.env:=by rfl) (Km:(backTo HW (starEach es X.env)).any (·.1)=false:=by rfl) :
  PE X (.Call (.Attribute o "append" apos) (e::es) [] HW) (um K0 "list" pN to t):=by
 intro HJ s σ H Q I h;refine wpAny_Call_method_late Je hfew Jd rfl (aA (ho HJ s σ H _ I h) λv s1 hsl78=>?_);obtain⟨x,H1,I1,r1,ty,q1⟩:=hsl78;obtain⟨h1,h2⟩:=mP I1 r1 ty.up;refine⟨_,_,PySem.F.plainAttrs_list,PySem.F.slot_list_append,PySem.F.type_list_append,h1,h2,?_⟩;have hA:=ha HW HJ s1 σ H1 _ I1 q1;rw[hs] at hA ⊢;refine Calls.callWith_builtin (by show(false||(backTo HW (starEach es X.env)).any (·.1))=false;rw[Km]<;>rfl) (Calls.evalArgs_plain ?_);exact aA hA λus s2 hsl79=>by obtain⟨vs,H2,I2,r2,q2⟩:=hsl79;exact pO HJ s2 σ H2 x vs v us Q I2 r1 r2 q2
theorem vP(ho:PE X o to)(Je:attributeBase o "pop" X.env (eval o X.env)=eval o X.env:=by rfl)(Jd:(apos.endLine==HW.line)=true:=by rfl):PE X (.Call (.Attribute o "pop" apos) [] [] HW) (uk K0 "list" pQ to):=by intro HJ s σ H Q I h;refine wpAny_Call_method0_late Je Jd (aA (ho HJ s σ H _ I h) λv s1 hsl80=>?_);obtain⟨x,H1,I1,r1,ty,q1⟩:=hsl80;obtain⟨h1,h2⟩:=mP I1 r1 ty.up;exact⟨_,_,PySem.F.plainAttrs_list,PySem.F.slot_list_pop,PySem.F.type_list_pop,h1,h2,Calls.callWith_builtin rfl (PySem.evalArgs_none (Bj HJ s1 σ H1 x [] v [] Q I1 r1 .nil q1))⟩
end
end
end L2
namespace L2
open PySem PySem.Spec PyProof.Rows PySem.W
section
variable {X:Cx}
theorem vQ{α β:Type}{R:α->β->Prop}:∀{as:List α} {bs:List β},Paired R as bs->∀(i:Nat) (b:β),bs[i]?=some b->∃a,as[i]?=some a/\R a b
 |_,_,.nil,i,b,h=>by simp at h
 |_,_,.cons r rs,0,b,h=>by have:=Qs h;subst this;exact⟨_,rfl,r⟩
 |_,_,.cons r rs,i+1,b,h=>vQ rs i b (by simpa using h)
theorem DF(hc:X.calm=true):dM X (.type "list") (λas H Q=>∃(d:Addr) (kvs:List (ae×V)),as=[.ref d]/\H d=some (.dK kvs)/\∀q,H q=none->Q (.ref q) (ag H q (.lst (kvs.map λkv=>kV kv.1)))):=by
 intro HJ s σ H as us Q I r h;obtain⟨d,kvs,rfl,hd,q⟩:=h;obtain⟨u,rfl,ru⟩:=vals1 r;cases (show u=Value.ref d from ru);obtain⟨hz,hs,vs,Iu,dd⟩:=I.hok d _ hd;obtain⟨ep,hat⟩:=dd.dictAt;have hlv:kvs.length=vs.length:=Paired.length Iu;refine kdl_call (kdl_dict (kvs:=vs) (ep:=ep) hs) (I.ok.hd hc) hat (by rw[<-hlv];exact hz) λh' tk KS c' hk hS Jt=>?_;refine⟨.ref s.heap.objs.size,_,I.laid (t':=tk) (o:=.lst (kvs.map λkv=>kV kv.1)) hk (Qh _) ⟨by rw[Qg];exact hz,KS.toList,c',?_,by simpa using hS⟩,rfl,q _ I.fresh⟩
 have go:∀(kvs:List (ae×V)) (l:List Value),l.length=kvs.length->(∀(i:Nat) (v:Value) (kv:ae×V),l[i]?=some v->kvs[i]?=some kv->RelV (kV kv.1) v)->az (kvs.map λkv=>kV kv.1) l:=by
  intro kvs
  induction kvs with
  |nil=>intro l hl _;rw[List.eq_nil_of_length_eq_zero hl];exact .nil
  |cons kv kvs ih =>
   intro l hl h
   match l,hl with
   |v::l,hl=>exact .cons (h 0 v kv rfl rfl) (ih l (by simpa using hl) λi v kv a b=>h (i+1) v kv a b)
 refine go kvs KS.toList (by rw[QM,Jt.1,hlv]) λi v kv hv hkv=>?_;rw[Array.getElem?_toList] at hv;obtain⟨k,x,e1,e2⟩:=Jt.2 i v hv;obtain⟨kv',e3,e4,_⟩:=vQ Iu i _ e1;rw[hkv] at e3;have e3:=Qs e3;subst e3;rw[e4]
 rcases gl e2 with ⟨j,t,ek,rfl⟩|⟨z,t,ek,rfl⟩
 ·have ek:k=Sum.inl j:=ek;rw[ek];exact⟨t,rfl⟩
 have ek:k=Sum.inr z:=ek;rw[ek];exact⟨t,rfl⟩
end
end L2
namespace L2
open PySem PySem.Spec PyProof.Rows
section
variable {X:Cx}
theorem DH(hu:X.A.units+1<cLine):bO X (compareOp .NotEq) (λx y H Q=>∃(a b:Addr) (kvs:List (ae×V)),x=.ref a/\y=.ref b/\H a=some (.dK kvs)/\H b=some (.dK [])/\Q (.bl (!kvs.isEmpty)) H):=by
 intro HJ s σ H x y v u Q I rx ry h;obtain⟨a,b,kvs,rfl,rfl,ha,hb,q⟩:=h;cases (show v=Value.ref a from rx);cases (show u=Value.ref b from ry)
 obtain⟨_,na,va,ka,da⟩:=(show bI X.prog X.w H s.heap a (.dK kvs) from I.hok a _ ha)
 obtain⟨_,nb,vb,kb,db⟩:=(show bI X.prog X.w H s.heap b (.dK []) from I.hok b _ hb)
 cases kb;refine PySem.W.keq_ne (r:=true) na nb da db (by omega) (λe=>?_) ⟨.bl _,H,I,?_,q⟩
 ·have:va=[]:=List.length_eq_zero_iff.mp (by simpa using e);subst this;exact .nil
 have e:=ka.length;show Value.bool _=Value.bool _
 cases kvs with
 |nil =>
  have:va=[]:=List.length_eq_zero_iff.mp (by simpa using e.symm);subst this;rfl
 |cons p r =>
  cases va with
  |nil=>simp at e
  |cons z va=>rfl
end
end L2
namespace HT
open PySem PyProof.Rows
open PySem.SeqAt
open PySem.AutoSeq1 (wpAny_loadPart')
open PySem.MeetsSeq PySem.MeetsSeq2 PySem.MeetsSeq3
section
variable {prog:Program}{w:World}{A:Around}{E:Value->Shared->Prop}{s:Shared}
theorem getItem_tuple_all{t sl:Addr}{items:Array Value}{vl vu:Value}{lo hi:Option Int}{Q:Value->Shared->Prop}(ht:IsTup s.heap t items)(hs:s.heap.IsSliceOf sl vl vu .none)(pl:IsPart vl lo)(pu:IsPart vu hi)
  (h0:sIx items.size 0 lo=0) (h1:sIx items.size items.size hi=items.size) (h:Q (.ref t) s):wpAny (model prog w) A (getItem (.ref t) (.ref sl)) Q E s:=by
 obtain⟨os,Ij,hcs,hds⟩:=id hs
 have hTs:s.TypeIs (.ref sl) "slice":=⟨os,Ij,hcs⟩
 unfold getItem
 try with_reducible refine wpAny_holding ?_
 first|refine Qa (Qe ?_)|skip
 refine Qa (wpAny_sequenceKey ht.typeIs (by decide) ?_)
 refine Qa (wpAny_callSpecial?_slot (name:=Str.ofString "__getitem__") ht.typeIs PyProof.Rows.slot_tuple_getitem
  (wpAny_call_entry PyProof.Rows.slot_tuple_getitem ht.typeIs entry_tuple_getitem ?_ (args_tuple_getitem _ _)))
 show wpAny _ _ (Builtin.Tuple.tupleItemsOf (.ref t)>>=_) _ _ s;refine Qa (tupleItemsOf_ ht ?_);refine Qa (wpAny_typeOf hTs ?_);rw[if_pos (by decide)];refine Qa (tZ hs pl pu ?_);have hy:((((sIx items.size 0 lo:Nat):Int)==0&&(1:Int)==1&&(sIx items.size items.size hi-sIx items.size 0 lo)==items.size)=true):=by rw[h0,h1];simp
 show wpAny _ _ (if(((sIx items.size 0 lo:Nat):Int)==0&&(1:Int)==1&&(sIx items.size items.size hi-sIx items.size 0 lo)==items.size)=true then _ else _) _ _ s;rw[if_pos hy];unfold Builtin.Tuple.tupleIsExact;refine Qa (Qa (wpAny_typeOf ht.typeIs ?_));refine Qe ?_;rw[if_pos (by decide)]
 first
  |exact Qa (wpAny_rule (Qe ⟨_,rfl,Qe h⟩))
  |exact Qa (wpAny_rule (wpAny_ret ⟨_,rfl,Qe h⟩))
  |exact Qa (Qe (Qe ⟨_,rfl,Qe h⟩))
end
end HT
namespace L2
open PySem PySem.Spec PyProof.Rows
section
variable {X:Cx}
def vR(K:W.Frag):V->Option Int->Option Int->Hp->VK->Prop:=λx lo hi H Q=>∃a xs,x=.ref a/\ao K H a xs/\HT.sIx xs.length 0 lo=0/\HT.sIx xs.length xs.length hi=xs.length/\Q (.ref a) H
theorem DI:fE X (vR X.K):=by
 intro HJ s σ H x v vl vu lo hi sl Q I rx hs pl pu h;obtain⟨a,xs,rfl,hx,h0,h1,q⟩:=h;cases rx;obtain⟨its,r,ht,hz⟩:=I.tuple hx;have HM:its.toArray.size=xs.length:=by rw[Qp];exact r.length.symm
 refine⟨"tuple",_,PyProof.Rows.slot_tuple_getitem.lookup,ht.typeIs,?_⟩;exact HT.getItem_tuple_all ht hs pl pu (by rw[HM];exact h0) (by rw[HM];exact h1) ⟨.ref a,H,I,rfl,q⟩
theorem DJ:fE X (λx lo hi H Q=>mN X.K x lo hi H Q∨vR X.K x lo hi H Q):=fE.or ub DI
end
theorem vS:∀{zs:List Str} {us:List Value},az (zs.map V.str) us->∀(i:Nat) (u:Value),us[i]?=some u->∃z t,zs[i]?=some z/\u=.str z t
 | [],_,.nil,i,u,h=>by simp at h
 | z::zs,_,.cons (b:=x) ⟨t,e⟩ _,0,u,h=>⟨z,t,rfl,by
   have:x=u:=by simpa using h
   rw[<-this];exact e⟩
 |z::zs,_,.cons _ r,i+1,u,h=>by obtain⟨z',t,e,f⟩:=vS r i u (by simpa using h);exact⟨z',t,by simpa using e,f⟩
section
variable {X:Cx}
theorem DK:mQ X "list.index" (λx vs H Q=>∃(l:Addr) (zs:List Str) (z:Str) (j:Nat),x=.ref l/\vs=[.str z]/\H l=some (.lst (zs.map V.str))/\zs[j]?=some z/\(∀m,m<j->zs[m]?≠some z)/\j<1000/\Q (.int ((j:Nat):Int)) H):=by
 intro HJ s σ H x vs v us Q I rx rv h;obtain⟨l,zs,z,j,rfl,rfl,hH,hj,KZ,hb,q⟩:=h;cases rx;obtain⟨u,rfl,t,rfl⟩:=rv.one;obtain⟨_,its,n,r,hl,e⟩:=I.lstM hH;have hjl:j<its.length:=by rw[<-hl,Qg];exact(Qc hj).1
 have hs:∀m (hm:m<its.length),∃y t,zs[m]?=some y/\its[m]=.str y t:=λm hm=>vS r m _ (Qb hm);refine call_meets F.slot_list_index ⟨_,e,rfl⟩ F.entry_list_index (F.args_list_index_2 _ _) (SeqAt.list_indexAt l its.toArray n none #[] (.str z t) (λy=>match y with|.str y _=>y==z|_=>false) j (by simpa using hjl) (by omega) ?_ ?_) ⟨e,λy hy=>?_,?_⟩
 ·obtain⟨y,t',h1,h2⟩:=hs j hjl;rw[hj] at h1;cases h1;simp[h2]
 ·intro m hm hmj;have hm:m<its.length:=by simpa using hm
  obtain⟨y,t',h1,h2⟩:=hs m hm;have:y≠z:=λw=>KZ m hmj (by rw[h1,w]);simp[h2,this]
 ·obtain⟨m,hm,rfl⟩:=List.mem_iff_getElem.mp (show y∈its by simpa using hy);obtain⟨y',t',h1,h2⟩:=hs m hm;rw[h2];exact SeqAt.EqAt.str_str _ _ _ _
 exact⟨.int ((j:Nat):Int),H,I.tok _,⟨_,rfl⟩,q⟩
end
noncomputable def ff(σ:List Str)(v:Str):List Str:=if σ.any (· == v) then σ else σ++[v]
noncomputable def eT(val:Nat->Str)(i:Nat):List Str:=((List.range i).map val).foldl ff []
theorem nA(val:Nat->Str)(i:Nat):eT val (i+1)=ff (eT val i) (val i):=by unfold eT;rw[List.range_succ,QD,List.foldl_append];rfl
theorem DL(σ:List Str)(v:Str):(ff σ v).length=if σ.any (· == v) then σ.length else σ.length+1:=by unfold ff;split<;>simp
theorem qx(val:Nat->Str):∀i,(eT val i).length<=i
 |0=>Qh _
 |i+1=>by have ih:=qx val i;rw[nA,DL];split<;>omega
theorem vT:∀{vs:List Value} {zs:List Str},StrsAre vs zs->∀(i:Nat) (v:Value),vs[i]?=some v->∃t,v=.str (zs.getD i ⟨#[]⟩) t
 |_,_,.nil,i,v,h=>by simp at h
 |_,_,.cons n t hr,0,v,h=>by simp at h;exact⟨t,by rw[<-h];rfl⟩
 |_,_,.cons n t hr,i+1,v,h=>by obtain⟨t',e⟩:=vT hr i v (by simpa using h);exact⟨t',by rw[e];rfl⟩
noncomputable abbrev newSet(led:Bool):Obj:={cls:=.type "set",dict:=none,data:=.set #[] 0 (.fresh 0 0 led)}
theorem vU:∀{zs:List Str} {us:List Value},az (zs.map V.str) us->StrsAre us zs
 | [],_,r=>by cases r;exact .nil
 |z::zs,_,r=>by
  cases r with
  |cons r1 r2 =>
   obtain⟨t,rfl⟩:=(show ∃t,_=Value.str z t from r1)
   exact .cons z t (vU r2)
def Tb(t t':SetTable):Prop:=t'.led=t.led/\(t'.plain=true->t.plain=true)
theorem Tb.refl(t:SetTable):Tb t t:=⟨rfl,id⟩
theorem Tb.trans{a b c:SetTable}(h:Tb a b)(g:Tb b c):Tb a c:=⟨g.1.trans h.1,λq=>h.2 (g.2 q)⟩
theorem nB(t:SetTable)(n:Nat):Tb t (t.standIn n):=⟨rfl,λq=>by cases q⟩
theorem DM(t:SetTable)(n:Nat):Tb t (t.orStandIn n):=by
 unfold SetTable.orStandIn;split
 ·exact .refl _
 exact nB _ _
theorem DN(t:SetTable)(es:Array (Int×Value))(h:Int)(x:Value):Tb t (layNew t es h x).2.1:=by
 unfold layNew;split
 ·exact Tb.trans (b:=(t.put _).1) ⟨rfl,id⟩ (DM _ _)
 exact nB _ _
theorem DO{mask finger moves:Nat}{led plain:Bool}{hs:Array Int}{t':SetTable}{o:Array Nat}(h:SetTable.laid mask finger moves led plain hs=some (t',o)):t'.led=led/\t'.plain=plain:=by
 unfold SetTable.laid at h
 cases e:SetTable.layClean mask hs with
 |none=>rw[e] at h;cases h
 |some ow=>rw[e] at h;cases h;exact⟨rfl,rfl⟩
theorem DP(t:SetTable)(es:Array (Int×Value))(w:Nat):Tb t (relayAll t es w).2.1:=by
 unfold relayAll;split
 ·rename_i t' o e;obtain⟨h1,h2⟩:=DO e;dsimp only;split
  ·exact⟨h1,λq=>by rw[<-h2];exact q⟩
  exact nB _ _
 exact nB _ _
noncomputable def ji:Value->Str
 |.str z _=>z
 |_=>⟨#[]⟩
section
variable {prog:Program}{w:World}
def ke(prog:Program)(w:World)(es:List (Int×Value)):Prop:=∀e∈es,∃z u,e.2=.str z u/\e.1=(strKind prog w).hash z
theorem ke.elems(h:ke prog w es):ElemsOf (strKind prog w) es:=λe he=>by obtain⟨z,u,e1,e2⟩:=h e he;exact⟨⟨z,by rw[e1];exact strKind_is _ _ _ _,e2⟩,by rw[e1];rfl⟩
structure cO(prog:Program)(w:World)(h:Heap)(a:Addr)(zs:List Str)(led:Bool)(o:Obj)(es:Array (Int×Value))(ep:Nat)(t:SetTable):Prop where
 ob:h.get? a=some o
 ex:o.ExactSet
 da:o.data=.set es ep t
 el:ke prog w es.toList
 pm:(es.toList.map λe=>ji e.2).Perm zs
 sz:es.size<scanBound
 ft:t.fits es.size=true
 ld:t.led=led
 pl:es.size=0∨t.plain=false
theorem cO.size{h:Heap}{a:Addr}{zs:List Str}{led:Bool}{o:Obj}{es:Array (Int×Value)}{ep:Nat}{t:SetTable}(T:cO prog w h a zs led o es ep t):es.size=zs.length:=by have:=T.pm.length_eq;simpa using this
theorem vV:(strKind prog w).is z (.str y u)=decide (z=y):=KeyKind.is_eq_decide (strKind_is _ _ _ _) z
theorem cO.find{es:Array (Int×Value)}{t:SetTable}(T:cO prog w h a zs led o es ep t)(z:Str):(∃e∈es.toList,(strKind prog w).is z e.2=true)↔z∈zs:=by
 rw[<-T.pm.mem_iff,List.mem_map];constructor
 ·rintro⟨e,he,q⟩;obtain⟨y,u,e1,_⟩:=T.el e he;rw[e1,vV] at q;exact⟨e,he,by rw[e1];exact(QO q).symm⟩
 rintro⟨e,he,q⟩;obtain⟨y,u,e1,_⟩:=T.el e he;rw[e1] at q;refine⟨e,he,?_⟩;rw[e1,vV];exact Qn q.symm
theorem cO.store{h:Heap}{es KP:Array (Int×Value)}{t t':SetTable}(T:cO prog w h a zs led o es ep t)(el:ke prog w KP.toList)(pm:(KP.toList.map λe=>ji e.2).Perm zs')(sz:KP.size<scanBound)(ft:t'.fits KP.size=true)(ld:t'.led=led)(pl:t'.plain=false) :
  cO prog w (h.update a (Obj.putSet KP t')) a zs' led {o with data:=.set KP (ep+1) t'} KP (ep+1) t':=
 ⟨(SetOf_store (knd:=strKind prog w) (S':=λk=>(KP.toList.any λe=>(strKind prog w).is k e.2)) T.ob T.ex T.da el.elems (λk=>List.any_eq_true) sz ft).1,T.ex,rfl,el,pm,sz,ft,ld,.inr pl⟩
theorem vW{s:Shared}{es IZ:Array (Int×Value)}{t t2:SetTable}{g:Bool->Sem Unit}(hg:∀(b:Bool) (s₁:Shared) (Q':Unit->Shared->Prop),Q' () s₁->wpAny (model prog w) A (g b) Q' E s₁)
  (T:cO prog w s.heap a zs led o es ep t) (el:ke prog w IZ.toList) (pm:(IZ.toList.map λe=>ji e.2).Perm zs') (sz:IZ.size<scanBound) (ft:t2.fits IZ.size=true) (ld:t2.led=led) (pl:t2.plain=false)
  (k:∀h',Heap.SameBut a s.heap h'->(∃o es ep t,cO prog w h' a zs' led o es ep t)->R (some true) {s with heap:=h'}) :
  wpAny (model prog w) A (do
    storeSet a IZ t2
    if (!was&&t2.tooFull)=true then do
        g (relayAll t2 IZ (SetTable.grown IZ.size)).2.2
        storeSet a (relayAll t2 IZ (SetTable.grown IZ.size)).1 (relayAll t2 IZ (SetTable.grown IZ.size)).2.1
        pure (some true)
     else pure (some true)) R E s:=by
 have T1:=T.store el pm sz ft ld pl;refine Qa (wpAny_storeSet_of T.ob T.da ?_ (fits_of_scanBound sz));have sb:=Heap.SameBut.update s.heap a (Obj.putSet IZ t2);by_cases hc:(!was&&t2.tooFull)=true
 ·rw[if_pos hc];have hp:=relayAll_perm t2 IZ (SetTable.grown IZ.size);have hf:=relayAll_fits t2 IZ (SetTable.grown IZ.size);have hb:=DP t2 IZ (SetTable.grown IZ.size);generalize relayAll t2 IZ (SetTable.grown IZ.size)=L at hp hf hb ⊢;obtain⟨es2,t3,gave⟩:=L;dsimp only at hp hf hb ⊢;have sz2:es2.size<scanBound:=by have:=hp.length_eq;simp at this;omega
  have T2:=T1.store (λe he=>el e (hp.mem_iff.mp he)) ((hp.map _).trans pm) sz2 hf (hb.1.trans ld) (by
   cases q:t3.plain with
   |false=>rfl
   |true=>have:=hb.2 q;rw[pl] at this;cases this)
  refine Qa (hg _ _ _ (Qa (wpAny_storeSet_of T1.ob T1.da ?_ (fits_of_scanBound sz2))));exact Qe (k _ (sb.trans (Heap.SameBut.update _ a _)) ⟨_,_,_,_,T2⟩)
 rw[if_neg hc];exact Qe (k _ sb ⟨_,_,_,_,T1⟩)
theorem DQ{s:Shared}{zs:List Str}(hS:∃o es ep t,cO prog w s.heap a zs led o es ep t)(hroom:zs.length+1<scanBound)
  (k:∀b h',Heap.SameBut a s.heap h'->(∃o es ep t,cO prog w h' a (ff zs z) led o es ep t)->Q b {s with heap:=h'}):wpAny (model prog w) A (setAddHashed a (.str z u) ((strKind prog w).hash z)) Q E s:=by
 obtain⟨o,es,ep,t,T⟩:=hS;have hsz:=T.size;unfold setAddHashed setAddHashedIn;refine wpAny_holding (Qa (wpAny_setState_of T.ob T.da T.ft ?_));dsimp only;rw[byScan_of (knd:=strKind prog w) (x:=.str z u) rfl T.sz T.el.elems];simp only[↓reduceIte];unfold setAddByScan;refine Qa (Qa (wpAny_rule ?_));refine Qa (wpAny_setScan_of (knd:=strKind prog w) (strKind_is _ _ _ _) T.ob T.da T.ft T.el.elems ?_)
 cases hr:List.findIdx? (λe=>(strKind prog w).is z e.2) es.toList with
 |some j =>
  dsimp only;obtain⟨hj,hpj,_⟩:=List.findIdx?_eq_some_iff_getElem.mp hr;have hz:z∈zs:=(T.find z).mp ⟨_,QN hj,hpj⟩;have e:ff zs z=zs:=if_pos (by simpa using hz);refine Qe (Qe ?_);exact k _ s.heap (Heap.SameBut.refl a s.heap) ⟨o,es,ep,t,by rw[e];exact T⟩
 |none =>
  dsimp only;have hz:z∉zs:=λh=>by obtain⟨e,he,hp⟩:=(T.find z).mpr h;have:=List.findIdx?_eq_none_iff.mp hr e he;rw[hp] at this;cases this
  have ed:ff zs z=zs++[z]:=if_neg (by simpa using hz)
  have way:∀(b:Bool) {s₁:Shared} {Q':Unit->Shared->Prop},Q' () s₁->wpAny (model prog w) A (match b with|true=>rule "set.scan.the-table-gave-way" | false=>pure ()) Q' E s₁:=
   λb s₁ Q' hq=>by cases b<;>first|exact Qe hq|exact wpAny_rule hq
  have hp:=layNew_perm t es ((strKind prog w).hash z) (.str z u);have hf:=layNew_fits t es ((strKind prog w).hash z) (.str z u);have hb:=DN t es ((strKind prog w).hash z) (.str z u);generalize layNew t es ((strKind prog w).hash z) (.str z u)=L at hp hf hb ⊢;obtain⟨IZ,t1,was,gave⟩:=L;dsimp only at hp hf hb ⊢;rw[Array.toList_push] at hp
  have el1:ke prog w IZ.toList:=λe he=>by
   rcases Qv (hp.mem_iff.mp he) with h|h
   ·exact T.el e h
   rw[List.mem_singleton] at h;subst h;exact⟨z,u,rfl,rfl⟩
  have pm1:(IZ.toList.map λe=>ji e.2).Perm (ff zs z):=by rw[ed];refine(hp.map _).trans ?_;rw[QD];exact T.pm.append_right _
  have sz1:IZ.size<scanBound:=by have:=pm1.length_eq;rw[ed] at this;simp at this;omega
  refine Qa (way _ ?_);have fin:∀h',Heap.SameBut a s.heap h'->(∃o es ep t,cO prog w h' a (ff zs z) led o es ep t)->Q true {s with heap:=h'}:=λh' sb h=>k true h' sb h;split
  ·refine Qa ?_;rw[hashByValue_scannable 8 (x:=.str z u) rfl];refine Qe ?_;refine vW ?_ T el1 pm1 sz1 (t2:={t1 with plain:=false}) (SetTable.fits_plain_off hf) (hb.1.trans T.ld) rfl λh' sb h=>?_
   ·intro b s₁ Q' hq;cases b<;>first|exact Qe hq|exact wpAny_rule hq
   dsimp only;exact Qe (fin h' sb h)
  rename_i ID;refine Qa (Qe ?_);simp only[↓reduceIte];refine vW ?_ T el1 pm1 sz1 hf (hb.1.trans T.ld) (by simpa using ID) λh' sb h=>?_
  ·intro b s₁ Q' hq;cases b<;>first|exact Qe hq|exact wpAny_rule hq
  dsimp only;exact Qe (fin h' sb h)
end
section
variable {prog:Program}{w:World}{A:Around}{R:Result->Shared->Prop}{I:Addr}{fp wr:List Addr}{G:Array GenState->Array GenState->Prop}{n:Nat}{P:Nat->Value->Prop}{St:Nat->Shared->Prop}
theorem DR(W:WalksS prog w A.in1 I fp wr G n P St)(S:Addr)(hSf:S∉fp)(val:Nat->Str)(IH:∀i v,P i v->∃t,v=.str (val i) t)(hb:n+1<scanBound) :
  ∀(k i:Nat) (s:Shared),n-i=k->i<=n->St i s->(∃o es ep t,cO prog w s.heap S (eT val i) led o es ep t) ->
   (∀s',Moved (S::wr) G s s'->(∃o es ep t,cO prog w s'.heap S (eT val n) led o es ep t)->R (.ok (.ret .none)) s') ->
   codeAny (model prog w) A (.builtin "set.update.loop" ⟨[.ref S,.ref I],[]⟩) R s:=by
 have hSw:S∉wr:=λh=>hSf (W.sub _ h);have JL:∀b∈wr,b∈S::wr:=λb hb=>QG _ hb;intro k
 induction k with
 |zero =>
  intro i s hk hi hst hS hR;have KJ:i=n:=by omega
  subst KJ;refine codeAny_builtin F.entry_set_update_loop ?_;rw[Around.under_plainId F.plain_set_update_loop _];show wpAny _ A.in1 (pyNext (.ref I)>>=_) _ _ s;refine Qa (W.done s _ _ hst λs' hm=>?_);refine Qe (hR s' (hm.mono JL) ?_);obtain⟨o,es,ep,t,T⟩:=hS;exact⟨o,es,ep,t,{T with ob:=hm.heap S _ hSw T.ob}⟩
 |succ k ih =>
  intro i s hk hi hst hS hR;have HS:i<n:=by omega
  refine codeAny_builtin F.entry_set_update_loop ?_;rw[Around.under_plainId F.plain_set_update_loop _];show wpAny _ A.in1 (pyNext (.ref I)>>=_) _ _ s;refine Qa (W.item i s _ _ HS hst λv s' hP Jb hm=>?_);obtain⟨t,rfl⟩:=IH i v hP;have Ld:∃o es ep t,cO prog w s'.heap S (eT val i) led o es ep t:=by obtain⟨o,es,ep,tb,T⟩:=hS;exact⟨o,es,ep,tb,{T with ob:=hm.heap S _ hSw T.ob}⟩
  show wpAny _ A.in1 (holding [Value.str (val i) t] (setAdd S (.str (val i) t))>>=_) _ _ s';refine Qa (wpAny_holding ?_);unfold setAdd;refine wpAny_holding ?_;refine Qa ((strKind prog w).pyHash (k:=val i) (strKind_is _ _ _ _) ?_);have hroom:(eT val i).length+1<scanBound:=by have:=qx val i;omega
  refine DQ (s:={s' with toks:=s'.toks+1}) Ld hroom λ_ h' hsb IE=>?_;have hSi:∃o es ep t,cO prog w h' S (eT val (i+1)) led o es ep t:=by rw[nA];exact IE
  refine Qe ⟨plainId_quiet F.plain_set_update_loop _,ih (i+1) _ (by omega) HS (W.frame _ s' _ _ Jb (Nat.le_succ _) λb hb o e=>?_) hSi λs2 hm2 Ka=>?_⟩
  ·rw[hsb.2 b (λh:b=S=>hSf (by rw[<-h];exact hb))];exact e
  refine hR s2 (Moved.trans W.gtrans ((hm.mono JL).then_heap (Nat.le_succ _) λb o hb e=>?_) hm2) Ka;rw[hsb.2 b (λh:b=S=>hb (by rw[h];exact QK))];exact e
end
noncomputable def di(w:World):Bool:=w.params.followText "set-order"
section
variable {prog:Program}{w:World}{A:Around}{E:Value->Shared->Prop}{s:Shared}
open PySem in
theorem DS(a:Value)(h:Q₁ (.ref s.heap.objs.size) {s with heap:=s.heap.push (newSet (!di w))}) :
  codeAny (model prog w) A (.call (.builtin "set.__new__") ⟨[.type "set",a],[]⟩) (wants Q₁ E) s:=by
 refine codeAny_of_tree ?_;show wpAny _ A.in1 (do checkBuiltinCall "set.__new__" ⟨[.type "set",a],[]⟩;again (.builtin "set.__new__" ⟨[.type "set",a],[]⟩)) _ _ s;refine Qa (wpAny_of_eq (F.newCall_set_1 a) (Qe ⟨plainId_quiet F.plain_set_new _,codeAny_builtin F.entry_set_new ?_⟩));rw[Around.under_plainId F.plain_set_new _];unfold Builtin.«set.__new__» Builtin.Frozenset.newClass;have JL:=sub_set_self;obtain⟨hp,g,d,tk,os⟩:=s;dsimp only
 wp_walk
 refine wpAny_askSetting (Qe ?_);dsimp only;simp only[newObj];exact Qa (wpAny_alloc (Qe (Qe h)))
open PySem in
theorem DT{items:Array Value}{zs:List Str}(hh:A.handled=none)(hl:s.heap.IsList l items)(hi:StrsAre items.toList zs)(hb:items.size+1<scanBound)
  (h:∀(h':Heap) (tk:Nat),(∃o es ep t,cO prog w h' s.heap.objs.size (eT (λi=>zs.getD i ⟨#[]⟩) items.size) (!di w) o es ep t) ->
   (∀b o,b<s.heap.objs.size->s.heap.get? b=some o->h'.get? b=some o)->Q (.ref s.heap.objs.size) {s with heap:=h',toks:=tk}):wpAny (model prog w) A (call (.type "set") [.ref l]) Q E s:=by
 obtain⟨c,tl,hmro⟩:=F.called_set.mro;have hmade:=F.called_set.made;have JL:=F.called_set.sub;refine wpAny_call (codeAny_of_tree ?_);show wpAny _ _ (callAny (.type "set") _) _ _ _;refine Qe ⟨Code.quiet_builtin _ (by decide +kernel),codeAny_builtin F.entry_type_call ?_⟩;rw[Around.under_plain (weight_type_call_type "set" [.ref l] []) rfl];have h1:=F.called_set.notType;have h2:=F.called_set.canCreate;have hct:=F.typeCall_set_1 (.ref l)
 repeat (any_goals (first|assumption|wp_step))
 refine codeAny_mono (DS (.ref l) (E:=E) (Q₁:=λobj s1=>∃led:Bool,led=(!di w)/\obj=.ref s.heap.objs.size/\s1={s with heap:=s.heap.push (newSet led)}) ⟨_,rfl,rfl,rfl⟩) λr s1 hr=>?_
 cases r with
 |error e=>exact hr
 |ok fl =>
  cases fl with
  |ret obj =>
   obtain⟨led,eled,rfl,rfl⟩:=hr;have hS:(s.heap.push (newSet led)).get? s.heap.objs.size=some (newSet led):=Qm _ rfl
   have hT:Shared.TypeIs {s with heap:=s.heap.push (newSet led)} (.ref s.heap.objs.size) "set":=⟨_,hS,rfl⟩
   have hli:=F.called_set.init.lookup;have hbi:=F.called_set.init.bind (.ref s.heap.objs.size)
   repeat (any_goals (first|assumption|wp_step))
   refine codeAny_mono (codeAny_call_builtin (R:=wants (fun r s2=>r=.none/\∃ h' tk,s2={ s with heap:=h',toks:=tk }/\(∃ o es ep t,cO prog w h' s.heap.objs.size (eT (fun i=>zs.getD i ⟨#[]⟩) items.size) (!di w) o es ep t) /\
     (∀b o,b<s.heap.objs.size->s.heap.get? b=some o->h'.get? b=some o)) E) F.called_set.init.plain F.entry_set_init (check_set_init_1 hT ?_)) λr2 s2 Iz=>?_
   ·obtain⟨ol,hol,IM,nl,Jy⟩:=hl;obtain⟨ocls,Lo,odata,Kl⟩:=ol;simp only at IM Jy;subst IM;subst Jy;have hol':(s.heap.push (newSet led)).get? l=some {cls:=.type "list",dict:=Lo,data:=.seq items nl,slots:=Kl}:=Qf _ hol;have hsls:=F.sub_list_set;have hslf:=F.sub_list_frozenset;have HL:(Value.type "list" == Value.type "dict")=false:=by decide
    have Kt:(s.heap.push (newSet led)).IsList l items:=⟨_,hol',rfl,nl,rfl⟩
    unfold Builtin.«set.__init__» noKeywords Builtin.Frozenset.updateFrom;generalize hPI:pyIter=PI
    wp_walk
    subst hPI;refine wpAny_pyIter_list Kt (Qa (wpAny_runValue ?_));have hlS:l<s.heap.objs.size:=Qt hol;have hh3:A.in1.in1.in1.handled=none:=by simp[hh]
    have hneI:l≠(s.heap.push (newSet led)).objs.size:=by rw[Heap.size_push];exact QB (Nat.lt_succ_of_lt hlS)
    have hSf:s.heap.objs.size∉[(s.heap.push (newSet led)).objs.size,l]:=by rw[Heap.size_push];simp only[List.mem_cons,List.mem_singleton,List.not_mem_nil,or_false,not_or];exact⟨QB (Nat.lt_succ_self _),Nat.ne_of_gt hlS⟩
    have IH:∀(i:Nat) (v:Value),items[i]?=some v->∃t,v=.str ((λi=>zs.getD i ⟨#[]⟩) i) t:=λi v hv=>vT hi i v (by rw[Array.getElem?_toList];exact hv);refine DR (led:=!di w) ((Walks.list hh3 _ l hneI items).toS) s.heap.objs.size hSf (λi=>zs.getD i ⟨#[]⟩) IH hb (items.size-0) 0 _ (by omega) (Qy _) ⟨⟨_,Qm _ rfl,rfl,rfl⟩,(Kt.push _)⟩ ?K3 ?hR
    case K3 =>
     have hget:=Qf {cls:=.type "list_iterator",data:=.fields #[.ref l,.int 0 0]} hS;exact⟨_,#[],0,_,hget,⟨rfl,rfl,rfl⟩,rfl,λe he=>by simp at he,List.Perm.refl _,by unfold scanBound;decide,rfl,eled,.inl rfl⟩
    case hR =>
     intro s' hm Ki;obtain⟨h',g',d',tk',K5⟩:=s';have eg:g'=s.gens:=hm.gens;have ed:d'=s.drawn:=hm.drawn;have eo:K5=s.os:=hm.os;subst eg;subst ed;subst eo;refine Qe (Qe ⟨rfl,h',tk',rfl,Ki,λb o hb e=>?_⟩);have Jj:b≠s.heap.objs.size:=QB hb;have hb2:b≠(s.heap.push (newSet led)).objs.size:=by rw[Heap.size_push];exact QB (Nat.lt_succ_of_lt hb)
     exact hm.heap b o (by simp only[List.mem_cons,List.mem_singleton,List.not_mem_nil,or_false,not_or];exact⟨Jj,hb2⟩) (Qf _ (Qf _ e))
   cases r2 with
   |error e=>exact Iz
   |ok fl2 =>
    cases fl2 with
    |ret r =>
     obtain⟨rfl,h',tk,rfl,Ki,Jx⟩:=Iz
     repeat (any_goals (first|assumption|wp_step))
     exact h _ _ Ki Jx
    |_=>exact Iz.elim
  |_=>exact hr.elim
end
noncomputable def nC(prog:Program)(w:World)(q:Addr)(zs:List Str):HO:=.ext λh=>∃o es ep t,cO prog w h q zs (!di w) o es ep t
noncomputable def iL(zs:List Str):List Str:=eT (λi=>zs.getD i ⟨#[]⟩) zs.length
section
variable {X:Cx}
theorem DU{K:W.Frag}(hK:X.K=K)(hc:X.calm=true):dM X (.type "set") (λxs H Q=>∃(p:Addr) (zs:List Str),xs=[.ref p]/\am K H p (zs.map V.str)/\zs.length<=1000/\∀q,H q=none->Q (.ref q) (ag H q (nC X.prog X.w q (iL zs)))):=by
 intro HJ s σ H xs us Q I r h;subst hK;obtain⟨p,zs,rfl,hq,hl,q⟩:=h;obtain⟨u,rfl,ru⟩:=vals1 r;cases (show u=Value.ref p from ru);obtain⟨its,rv,pl,hz⟩:=I.list hq;have HM:its.toArray.size=zs.length:=by rw[Qp,<-rv.length,Qg]
 refine DT (I.ok.hd hc) pl.isList (by simpa using vU rv) (by rw[HM];unfold scanBound;omega) λh' tk hS hk=>?_;rw[HM] at hS;have k2:∀b u,s.heap.get? b=some u->h'.get? b=some u:=λb u e=>hk b u (Qt e) e;obtain⟨o,es,ep,t,T⟩:=hS;refine⟨.ref s.heap.objs.size,_,I.laid (t':=tk) (o:=nC X.prog X.w s.heap.objs.size (iL zs)) k2 (Qh _) ⟨⟨o,es,ep,t,T⟩,⟨o,T.ob⟩,λh1 h2 hsl81 kk=>by obtain⟨o,es,ep,t,T⟩:=hsl81;exact⟨o,es,ep,t,{T with ob:=kk o T.ob}⟩⟩,rfl,q _ I.fresh⟩
end
theorem qy{α:Type}:∀(xs:List α) (i:Nat) (x:α),xs[i]?=some x->List.Perm (x::xs.eraseIdx i) xs
 | [],i,x,h=>by simp at h
 |a::xs,0,x,h=>by cases h;exact .refl _
 |a::xs,i+1,x,h=>by have:=qy xs i x (by simpa using h);simp only[List.eraseIdx_cons_succ];exact(List.Perm.swap a x _).trans (this.cons a)
section
variable {prog:Program}{w:World}{A:Around}{E:Value->Shared->Prop}
theorem DV(hn:n≠0)(h:∀i d',i<n->Q i {s with drawn:=d'}):wpAny (model prog w) A (choose src n) Q E s:=
 λ_ _ _=>⟨hn,h _ _ (Nat.mod_lt _ (Nat.pos_of_ne_zero hn))⟩
theorem vX{α:Type}:∀(n:Nat) (xs:List α) (s:Shared) (Q:List α->Shared->Prop),n=xs.length->(∀ys d',List.Perm ys xs->Q ys {s with drawn:=d'})->wpAny (model prog w) A (drawOrder n xs) Q E s
 |0,xs,s,Q,hn,h=>by
  have:xs=[]:=by cases xs with|nil=>rfl|cons _ _=>simp at hn
  subst this;exact Qe (h [] s.drawn (.refl _))
 |n+1,[],s,Q,hn,h=>by simp at hn
 |n+1,a::xs,s,Q,hn,h=>by unfold drawOrder;refine Qa (DV (by simp) λi d' hi=>?_);have e:(a::xs)[i]?=some (a::xs)[i]:=Qb hi;rw[e];refine Qa (vX n _ _ _ (by rw[List.length_eraseIdx_of_lt hi];simp at hn ⊢;omega) λys d'' hp=>Qe ?_);exact h _ _ ((hp.cons _).trans (qy _ i _ e))
end
theorem gA:Slot "set_iterator" "__next__" "set_iterator.__next__" :=
 .of (owner:="set_iterator") (n:="__next__") (by rw[typeLookup_type,builtinLookup_eq_fast];kernel_rfl) (by decide +kernel) (by decide +kernel) (by decide +kernel)
  (by first|exact .inl (by decide +kernel)|exact .inr (by decide +kernel)) (by rw[isSubtype_type];kernel_rfl)
theorem vY:Slot "set_iterator" "__iter__" "set_iterator.__iter__" :=
 .of (owner:="set_iterator") (n:="__iter__") (by rw[typeLookup_type,builtinLookup_eq_fast];kernel_rfl) (by decide +kernel) (by decide +kernel) (by decide +kernel)
  (by first|exact .inl (by decide +kernel)|exact .inr (by decide +kernel)) (by rw[isSubtype_type];kernel_rfl)
theorem nE:entryFor table "set_iterator.__next__"=some Builtin.«set_iterator.__next__»:=entryFor_of_tree (by kernel_rfl)
theorem DW:entryFor table "set.__iter__"=some Builtin.«frozenset.__iter__» :=
 entryFor_alias (id':="frozenset.__iter__") (by kernel_rfl) rfl (by decide +kernel) (by kernel_rfl)
theorem nF(a:Value):argsOk "set_iterator.__next__" ⟨[a],[]⟩:=by
 unfold argsOk
 kernel_rfl
theorem vZ{α:Type}(next:Nat->Nat):∀(n k:Nat) (xs:List α) (out:Array α),n=xs.length->List.Perm (pickOrder.go next n k xs out).toList (out.toList++xs)
 |0,k,xs,out,hn=>by
  have:xs=[]:=by cases xs with|nil=>rfl|cons _ _=>simp at hn
  subst this;simp[pickOrder.go]
 |n+1,k,xs,out,hn=>by
  have hp:0<xs.length:=by lia
  have hi:next k%xs.length<xs.length:=Nat.mod_lt _ hp
  have e:xs[next k%xs.length]?=some xs[next k%xs.length]:=Qb hi;rw[pickOrder.go,e];dsimp only;refine(vZ next n (k+1) _ _ (by rw[List.length_eraseIdx_of_lt hi];lia)).trans ?_;rw[Array.toList_push,QX];exact(qy xs _ _ e).append_left _
theorem qz{α:Type}(next:Nat->Nat)(xs:Array α):List.Perm (pickOrder next xs).toList xs.toList:=by
 have:=vZ next xs.size 0 xs.toList #[] (by simp)
 simpa [pickOrder] using this
noncomputable def iM(ys:List Nat):Obj:={cls:=.type "tuple",data:=.seq (ys.map λ(i:Nat)=>Value.int (i:Int) 0).toArray}
noncomputable def dS(first:Value)(i:Nat)(S:Addr)(n ep:Nat):Obj:={cls:=.type "set_iterator",data:=.fields #[first,.int i 0,.ref S,.int n 0,.int ep 0]}
structure SW(w:World)(h:Heap)(S:Addr)(o:Obj)(es:Array (Int×Value))(ep:Nat)(t:SetTable):Prop where
 ob:h.get? S=some o
 ex:o.ExactSet
 da:o.data=.set es ep t
 ft:t.fits es.size=true
 ld:t.led=!di w
 pl:es.size=0∨t.plain=false
theorem SW.at{w:World}{h h':Heap}{S:Addr}{o:Obj}{es:Array (Int×Value)}{ep:Nat}{t:SetTable}(T:SW w h S o es ep t)(k:∀o,h.get? S=some o->h'.get? S=some o):SW w h' S o es ep t:=⟨k o T.ob,T.ex,T.da,T.ft,T.ld,T.pl⟩
theorem cO.sw{w:World}{t:SetTable}(T:cO prog w h S zs (!di w) o es ep t):SW w h S o es ep t:=⟨T.ob,T.ex,T.da,T.ft,T.ld,T.pl⟩
section
variable {prog:Program}{w:World}{A:Around}{E:Value->Shared->Prop}{s:Shared}{S:Addr}{zs:List Str}{o:Obj}{es:Array (Int×Value)}{ep:Nat}{t:SetTable}
theorem SW.typeIs(T:SW w s.heap S o es ep t):s.TypeIs (.ref S) "set":=⟨o,T.ob,T.ex.1⟩
theorem DX(T:SW w s.heap S o es ep t)(hn:es.size<=5000)
  (h1:di w=true∨es.size<=1->Q (.ref s.heap.objs.size) {s with heap:=s.heap.push (dS (.int 0 0) 0 S es.size ep)})
  (h2:di w=false->1<es.size->∀(ys:List Nat) d',List.Perm ys (List.range es.size)->Q (.ref (s.heap.push (iM ys)).objs.size) {s with heap:=(s.heap.push (iM ys)).push (dS (.ref s.heap.objs.size) 0 S es.size ep),drawn:=d'}) :
  wpAny (model prog w) A (pyIter (.ref S)) Q E s:=by
 refine wpAny_pyIter_slot T.typeIs PySem.F.slot_set_iter (wpAny_call_entry PySem.F.slot_set_iter T.typeIs DW ?_ (PySem.F.args_set_iter_1 _));unfold Builtin.«frozenset.__iter__»;refine Qa (wpAny_of_eq (a:=S) (by rfl) ?_);unfold Builtin.Frozenset.sizeOf;refine Qa (Qa (wpAny_setEntries_of T.ob T.da T.ft (Qe ?_)));unfold setDrawn setsByText;refine Qa (Qa (wpAny_setState_of T.ob T.da T.ft (Qa (Qa (wpAny_askSetting (Qe (Qe ?_)))))));show wpAny _ _ (if(!di w&&(!t.plain&&decide (es.size>1)))=true then _ else _) _ _ _
 have fin:∀ (first:Value) (s1:Shared),s1.heap.get? S=some o->Q (.ref s1.heap.objs.size) { s1 with heap:=s1.heap.push (dS first 0 S es.size ep) } ->
   wpAny (model prog w) A.in1 (do
    let e <- setEpoch S;let x <- newFields "set_iterator" [first,rawInt 0,Value.ref S,rawInt (es.size:Nat),rawInt (e:Nat)]
    ret x) (λfin s'=>∃v,fin=.done (.ret v)/\∃T' r,s'.TypeIs v T'/\typeLookup (.type T') "__next__"=pure (some r)/\Q v s') E s1:=λfirst s1 ho q=>by
  refine Qa (wpAny_setEpoch_of ho T.da T.ft ?_);exact Qa (wpAny_newObj_type (Qe ⟨_,rfl,"set_iterator",_,⟨_,Qm _ rfl,rfl⟩,gA.lookup,q⟩))
 by_cases hb:di w=true
 ·rw[hb];simp only[Bool.not_true,Bool.false_and,QS,if_false];refine Qa (Qe ?_);exact fin (rawInt 0) s T.ob (h1 (.inl hb))
 have hb:di w=false:=by simpa using hb
 by_cases hz:es.size<=1
 ·rw[show decide (es.size>1)=false from Qk (by lia)];simp only[Bool.and_false,QS,if_false];refine Qa (Qe ?_);exact fin (rawInt 0) s T.ob (h1 (.inr hz))
 have hp:t.plain=false:=by
  rcases T.pl with h|h
  ·lia
  exact h
 rw[hb,hp,show decide (es.size>1)=true from Qn (by lia)];simp only[Bool.not_false,Bool.and_self,if_true];refine Qa (vX es.size (List.range es.size) s _ (by simp) λys d' hy=>?_);simp only[newTuple];refine Qa (wpAny_newObj_type ?_ ?_)
 ·exact fin _ _ (Qf _ T.ob) (h2 hb (by lia) ys d' hy)
 have hl:ys.length=es.size:=by rw[hy.length_eq];simp
 show(ys.map λ(i:Nat)=>rawInt (i:Int)).toArray.size<=sizeLine;rw[Qp,Qg,hl];exact QT (QE (m:=5000) hn (by decide))
end
section
variable {prog:Program}{w:World}{A:Around}{E:Value->Shared->Prop}{s:Shared}{S I:Addr}{o:Obj}{es:Array (Int×Value)}{ep:Nat}{t:SetTable}
theorem jj(hI:s.heap.get? I=some (dS first i S n ep)):s.TypeIs (.ref I) "set_iterator":=⟨_,hI,rfl⟩
theorem v4(hb:di w=true)(T:SW w s.heap S o es ep t)(h:Q (((pickOrder (w.params.setOrder S ep) es)[i]?).map λe=>(e.2,slot)) s):wpAny (model prog w) A (setNext S slot i ep) Q E s:=by have KO:w.params.followText "set-order"=true:=hb;unfold setNext setsByText;refine Qa (wpAny_setState_of T.ob T.da T.ft ?_);dsimp only;refine Qa (Qa (wpAny_askSetting (Qe ?_)));rw[if_pos (show(model prog w).w.params.followText "set-order"=true from KO)];rw[if_neg (by simp)];unfold setWalk setsByText;refine Qa (Qa (wpAny_setState_of T.ob T.da T.ft ?_));dsimp only;refine Qa (Qa (wpAny_askSetting (Qe ?_)));rw[if_pos (show(model prog w).w.params.followText "set-order"=true from KO)];exact Qa (wpAny_askSetting (Qe (Qe h)))
theorem v5(hb:di w=false)(hz:es.size<=1)(T:SW w s.heap S o es ep t) (h:Q (match es[SetTable.below t.place slot]?,t.place[SetTable.below t.place slot]? with
  |some (_,x),some j=>some (x,j+1)
  |_,_=>none) s):wpAny (model prog w) A (setNext S slot i ep) Q E s:=by
 have KO:w.params.followText "set-order"=false:=hb;unfold setNext setsByText;refine Qa (wpAny_setState_of T.ob T.da T.ft ?_);dsimp only;refine Qa (Qa (wpAny_askSetting (Qe ?_)));rw[if_neg (show ¬(model prog w).w.params.followText "set-order"=true by show ¬w.params.followText "set-order"=true;rw[KO];decide)];show wpAny _ _ (if(!t.plain&&decide (es.size>1))=true then _ else _) _ _ _;rw[show decide (es.size>1)=false from Qk (by omega),Bool.and_false,if_neg (by decide)];show wpAny _ _ ((if(!t.led&&!es.isEmpty)=true then unsupported _ else pure PUnit.unit)>>=_) _ _ _;rw[T.ld,hb];exact Qa (Qe (Qe h))
theorem v6{Q:Option Value->Shared->Prop}{slot i nx:Nat}{x:Value}(hI:s.heap.get? I=some (dS (.int slot 0) i S es.size ep))(T:SW w s.heap S o es ep t)
  (hsn:∀(A:Around) (E:Value->Shared->Prop) (Q:Option (Value×Nat)->Shared->Prop),Q (some (x,nx)) s->wpAny (model prog w) A (setNext S slot i ep) Q E s)
  (hQ:∀h',h'.get? I=some (dS (.int nx 0) (i+1) S es.size ep)->Heap.SameBut I s.heap h'->Q (some x) {s with heap:=h'}):wpAny (model prog w) A (pyNext (.ref I)) Q E s:=by
 have hT:=jj hI;unfold pyNext;refine Qa (wpAny_attempt (wpAny_callSpecial?_slot (name:=Str.ofString "__next__") hT gA (wpAny_call_entry gA hT nE ?_ (nF _))));unfold Builtin.«set_iterator.__next__»;refine Qa (Qe (Qa (wpAny_fieldsOf hI rfl ?_)));show wpAny _ _ (setEntries S>>=_) _ _ _;refine Qa (wpAny_setEntries_of T.ob T.da T.ft ?_);rw[if_neg (by simp)];show wpAny _ _ (setNext S (slot:Int).toNat (i:Int).toNat (ep:Int).toNat>>=_) _ _ _;simp only[QF];refine Qa (hsn _ _ _ ?_);dsimp only;refine Qa (wpAny_setField hI rfl (by simp) ?_);have h1:(s.heap.update I (Obj.mapFields (·.setIfInBounds 0 (rawInt (nx:Nat))))).get? I=some (dS (.int nx 0) i S es.size ep):=Heap.get?_update_self _ hI rfl;refine Qa (wpAny_setField (s:={s with heap:=s.heap.update I (Obj.mapFields (·.setIfInBounds 0 (rawInt (nx:Nat))))}) h1 rfl (by simp) ?_);refine Qe ⟨_,rfl,Qe (hQ _ (Heap.get?_update_self _ h1 rfl) ?_)⟩;exact(Heap.SameBut.update ..).trans (Heap.SameBut.update ..)
theorem v7{Q:Option Value->Shared->Prop}{slot i:Nat}(hh:A.handled=none)(hI:s.heap.get? I=some (dS (.int slot 0) i S es.size ep))(T:SW w s.heap S o es ep t)
  (hsn:∀(A:Around) (E:Value->Shared->Prop) (Q:Option (Value×Nat)->Shared->Prop),Q none s->wpAny (model prog w) A (setNext S slot i ep) Q E s)
  (hQ:∀h',Heap.ExtBut I s.heap h'->Q none {s with heap:=h'}):wpAny (model prog w) A (pyNext (.ref I)) Q E s:=by
 have hT:=jj hI;unfold pyNext;refine Qa (wpAny_attempt (wpAny_callSpecial?_slot (name:=Str.ofString "__next__") hT gA (wpAny_call_entry gA hT nE ?_ (nF _))));unfold Builtin.«set_iterator.__next__»;refine Qa (Qe (Qa (wpAny_fieldsOf hI rfl ?_)));show wpAny _ _ (setEntries S>>=_) _ _ _;refine Qa (wpAny_setEntries_of T.ob T.da T.ft ?_);rw[if_neg (by simp)];show wpAny _ _ (setNext S (slot:Int).toNat (i:Int).toNat (ep:Int).toNat>>=_) _ _ _;simp only[QF];refine Qa (hsn _ _ _ ?_);dsimp only;refine Qa (wpAny_setField hI rfl (by simp) ?_);refine Qa ?_;simp only[newExc,newTuple];refine Qa (wpAny_newObj_type (Qa (m:=firstArgMember _ _) (wpAny_of_eq (a:=Value.none) (by first|rfl|(simp only[firstArgMember];rfl)) (wpAny_newObj_type ?_ (by size_fits)))) (by size_fits));simp only[raiseNew];refine Qa (wpAny_handled ?_);rw[show A.in1.handled=none from hh];refine(Qa (Qe (wpAny_throw ?_)));refine(Qa (wpAny_isInstance (T:="StopIteration") (b:=true) ⟨_,Qm _ rfl,rfl⟩ isSubtype_stop (Qe (hQ _ ?_))));exact((Heap.SameBut.update ..).extBut.push _).push _
theorem DY(hI:s.heap.get? I=some (dS (.ref P) i S es.size ep))(hP:s.heap.get? P=some (iM ys))(T:SW w s.heap S o es ep t)(hy:ys[i]?=some y)(he:es[y]?=some e)
  (hQ:∀h',h'.get? I=some (dS (.ref P) (i+1) S es.size ep)->Heap.SameBut I s.heap h'->Q (some e.2) {s with heap:=h'}):wpAny (model prog w) A (pyNext (.ref I)) Q E s:=by
 have hT:=jj hI;unfold pyNext;refine Qa (wpAny_attempt (wpAny_callSpecial?_slot (name:=Str.ofString "__next__") hT gA (wpAny_call_entry gA hT nE ?_ (nF _))));unfold Builtin.«set_iterator.__next__»;refine Qa (Qe (Qa (wpAny_fieldsOf hI rfl ?_)));show wpAny _ _ (setEntries S>>=_) _ _ _;refine Qa (wpAny_setEntries_of T.ob T.da T.ft ?_);rw[if_neg (by simp)];show wpAny _ _ (seqItems? (Value.ref P)>>=_) _ _ _;unfold seqItems?;refine Qa (Qa (wpAny_load hP ?_));show wpAny _ _ (pure (some (ys.map λ(i:Nat)=>Value.int (i:Int) 0).toArray)) _ _ _;refine Qe ?_;dsimp only;rw[show((ys.map λ(i:Nat)=>Value.int (i:Int) 0).toArray)[(i:Int).toNat]?=some (Value.int (y:Int) 0) by rw[QF,List.getElem?_toArray,Qr,hy];rfl];dsimp only;unfold setNextDrawn;refine Qa (Qa (wpAny_setState_of T.ob T.da T.ft ?_));dsimp only;simp only[QF];rw[if_neg (by simp)];rw[he];dsimp only;refine Qe ?_;refine Qa (wpAny_setField hI rfl (by simp) ?_);exact Qe ⟨_,rfl,Qe (hQ _ (Heap.get?_update_self _ hI rfl) (Heap.SameBut.update ..))⟩
theorem DZ(hh:A.handled=none)(hI:s.heap.get? I=some (dS (.ref P) i S es.size ep))(hP:s.heap.get? P=some (iM ys))(T:SW w s.heap S o es ep t)(hy:ys[i]?=none)
  (hQ:∀h',Heap.ExtBut I s.heap h'->Q none {s with heap:=h'}):wpAny (model prog w) A (pyNext (.ref I)) Q E s:=by
 have hT:=jj hI;unfold pyNext;refine Qa (wpAny_attempt (wpAny_callSpecial?_slot (name:=Str.ofString "__next__") hT gA (wpAny_call_entry gA hT nE ?_ (nF _))));unfold Builtin.«set_iterator.__next__»;refine Qa (Qe (Qa (wpAny_fieldsOf hI rfl ?_)));show wpAny _ _ (setEntries S>>=_) _ _ _;refine Qa (wpAny_setEntries_of T.ob T.da T.ft ?_);rw[if_neg (by simp)];show wpAny _ _ (seqItems? (Value.ref P)>>=_) _ _ _;unfold seqItems?;refine Qa (Qa (wpAny_load hP ?_));show wpAny _ _ (pure (some (ys.map λ(i:Nat)=>Value.int (i:Int) 0).toArray)) _ _ _;refine Qe ?_;dsimp only;rw[show((ys.map λ(i:Nat)=>Value.int (i:Int) 0).toArray)[(i:Int).toNat]?=none by rw[QF,List.getElem?_toArray,Qr,hy];rfl];dsimp only;refine Qa (wpAny_setField hI rfl (by simp) ?_);have h1:(s.heap.update I (Obj.mapFields (·.setIfInBounds 0 (rawInt 0)))).get? I=some (dS (.int 0 0) i S es.size ep):=Heap.get?_update_self _ hI rfl;refine Qa (wpAny_setField (s:={s with heap:=s.heap.update I (Obj.mapFields (·.setIfInBounds 0 (rawInt 0)))}) h1 rfl (by simp) ?_);refine Qa ?_;simp only[newExc,newTuple];refine Qa (wpAny_newObj_type (Qa (m:=firstArgMember _ _) (wpAny_of_eq (a:=Value.none) (by first|rfl|(simp only[firstArgMember];rfl)) (wpAny_newObj_type ?_ (by size_fits)))) (by size_fits));simp only[raiseNew];refine Qa (wpAny_handled ?_);rw[show A.in1.handled=none from hh];refine(Qa (Qe (wpAny_throw ?_)));refine(Qa (wpAny_isInstance (T:="StopIteration") (b:=true) ⟨_,Qm _ rfl,rfl⟩ isSubtype_stop (Qe (hQ _ ?_))));exact(((Heap.SameBut.update ..).trans (Heap.SameBut.update ..)).extBut.push _).push _
end
end L2
namespace L2
open PySem PySem.Spec PyProof.Rows PySem.W
theorem D0:entryFor table "set_iterator.__iter__"=some Builtin.«dict_keyiterator.__iter__» :=
 entryFor_alias (id':="dict_keyiterator.__iter__") (by kernel_rfl) (by first|rfl|decide +kernel|(unfold String.splitOn;simp +decide [String.splitOnAux])) (by decide +kernel) (by kernel_rfl)
theorem D3(a:Value):argsOk "set_iterator.__iter__" ⟨[a],[]⟩:=by
 unfold argsOk
 kernel_rfl
section
variable {prog:Program}{w:World}{A:Around}{E:Value->Shared->Prop}{s:Shared}{S I:Addr}{o:Obj}{es:Array (Int×Value)}{ep:Nat}{t:SetTable}
theorem qA(hI:s.heap.get? I=some (dS first i S n ep))(h:Q (.ref I) s):wpAny (model prog w) A (pyIter (.ref I)) Q E s:=by refine wpAny_pyIter_slot (jj hI) vY (wpAny_call_entry vY (jj hI) D0 ?_ (D3 _));show wpAny _ _ (ret (.ref I)) _ _ s;exact Qe ⟨_,rfl,"set_iterator",_,jj hI,gA.lookup,h⟩
theorem D4(hh:A.handled=none)(HL:S≠I)(hb:di w=true):Walks prog w A I [I,S] [I] es.size (λi v=>((pickOrder (w.params.setOrder S ep) es).toList.map (·.2))[i]?=some v) (λi h=>h.get? I=some (dS (.int 0 0) i S es.size ep)/\SW w h S o es ep t) where
 sub:=λb hb=>by simp at hb;simp[hb]
 frame:=λi h h' st k=>⟨k I (by simp) _ st.1,st.2.at λo e=>k S (by simp) o e⟩
 item:=λi s Q E hi st hQ=>by
  have hl:(pickOrder (w.params.setOrder S ep) es).size=es.size:=by simpa using(qz (w.params.setOrder S ep) es).length_eq
  have e:(pickOrder (w.params.setOrder S ep) es)[i]?=some (pickOrder (w.params.setOrder S ep) es)[i]:=Array.getElem?_eq_getElem (by omega);refine v6 (nx:=0) (x:=(pickOrder (w.params.setOrder S ep) es)[i].2) st.1 st.2 (λA E Q q=>v4 hb st.2 (by rw[e];exact q)) λh' h1 sb=>?_;refine hQ _ h' s.toks ?_ ⟨h1,st.2.at λo e=>(sb.2 S HL).trans e⟩ λb o hb e=>(sb.2 b (by simpa using hb)).trans e;rw[Qr,Array.getElem?_toList,e];rfl
 done:=λs Q E st hQ=>by
  have hl:(pickOrder (w.params.setOrder S ep) es).size=es.size:=by simpa using(qz (w.params.setOrder S ep) es).length_eq
  refine v7 hh st.1 st.2 (λA E Q q=>v4 hb st.2 (by rw[Array.getElem?_eq_none (by omega)];exact q)) λh' eb=>?_;exact hQ h' s.toks λb o hb e=>eb b o (by simpa using hb) e
 self:=λi s Q E st q=>qA st.1 q
theorem v8(hp:p=#[j]):SetTable.below p 0=0/\SetTable.below p (j+1)=1:=by
 subst hp;constructor
 ·simp[SetTable.below,SetTable.below.go]
 simp[SetTable.below,SetTable.below.go]
theorem D6(hh:A.handled=none)(HL:S≠I)(hb:di w=false)(hz:es.size<=1):Walks prog w A I [I,S] [I] es.size (λi v=>(es.toList.map (·.2))[i]?=some v) (λi h=>∃slot:Nat,(i=0->slot=0)/\(0<i->∀j:Nat,t.place[0]?=some j->slot=j+1)/\h.get? I=some (dS (.int slot 0) i S es.size ep)/\SW w h S o es ep t) where
 sub:=λb hb=>by simp at hb;simp[hb]
 frame:=λi h h' hsl82 k=>by obtain⟨sl,a,b,c,d⟩:=hsl82;exact⟨sl,a,b,k I (by simp) _ c,d.at λo e=>k S (by simp) o e⟩
 item:=λi s Q E hi ⟨sl,a,b,c,d⟩ hQ=>by
  have Ie:i=0:=by lia
  subst Ie;have hsl:=a rfl;subst hsl;have hf:t.place.size=es.size:=by have:=d.ft;unfold SetTable.fits at this;simp at this;exact this.1
  have hn:es.size=1:=by lia
  obtain⟨j,hj⟩:∃j,t.place=#[j]:=by
   refine⟨t.place[0]'(by lia),?_⟩;refine Array.ext (by simp;lia) λk h1 h2=>?_;have:k=0:=by lia
   subst this;rfl
  have e:es[0]?=some es[0]:=Array.getElem?_eq_getElem (by lia);refine v6 (nx:=j+1) (x:=es[0].2) c d (λA E Q q=>v5 hb hz d (by rw[(v8 hj).1,e,hj];exact q)) λh' h1 sb=>?_;refine hQ _ h' s.toks (by rw[Qr,Array.getElem?_toList,e];rfl) ⟨j+1,λz=>absurd z (by lia),λ_ j' h=>by rw[hj] at h;simp at h;lia,h1,d.at λo e=>(sb.2 S HL).trans e⟩ λb o hb e=>(sb.2 b (by simpa using hb)).trans e
 done:=λs Q E ⟨sl,a,b,c,d⟩ hQ=>by
  have hf:t.place.size=es.size:=by have:=d.ft;unfold SetTable.fits at this;simp at this;exact this.1
  refine v7 hh c d (λA E Q q=>v5 hb hz d ?_) λh' eb=>hQ h' s.toks λb o hb e=>eb b o (by simpa using hb) e
  have e:es[SetTable.below t.place sl]?=none:=by
   by_cases h0:es.size=0
   ·exact Array.getElem?_eq_none (by lia)
   obtain ⟨j,hj⟩:∃ j,t.place=#[j]:=by
    refine⟨t.place[0]'(by lia),?_⟩;refine Array.ext (by simp;lia) λk h1 h2=>?_;have:k=0:=by lia
    subst this;rfl
   rw[b (by lia) j (by rw[hj];rfl),(v8 hj).2];exact Array.getElem?_eq_none (by lia)
  rw[e];exact q
 self:=λi s Q E hsl83 q=>by obtain⟨sl,a,b,c,d⟩:=hsl83;exact qA c q
theorem D7(hh:A.handled=none)(HL:S≠I)(hnp:P≠I){ys:List Nat}(hy:ys.Perm (List.range es.size)):Walks prog w A I [I,S,P] [I] es.size (λi v=>(ys.map λy=>(es.toList.map (·.2)).getD y .none)[i]?=some v)
  (λi h=>h.get? I=some (dS (.ref P) i S es.size ep)/\SW w h S o es ep t/\h.get? P=some (iM ys)) where
 sub:=λb hb=>by simp at hb;simp[hb]
 frame:=λi h h' st k=>⟨k I (by simp) _ st.1,st.2.1.at λo e=>k S (by simp) o e,k P (by simp) _ st.2.2⟩
 item:=λi s Q E hi st hQ=>by
  have hl:ys.length=es.size:=by simpa using hy.length_eq
  have e:ys[i]?=some ys[i]:=Qb (by omega);have hm:ys[i]<es.size:=List.mem_range.mp (hy.mem_iff.mp (QN _));have e2:es[ys[i]]?=some es[ys[i]]:=Array.getElem?_eq_getElem hm;refine DY st.1 st.2.2 st.2.1 e e2 λh' h1 sb=>?_;refine hQ _ h' s.toks ?_ ⟨h1,st.2.1.at λo e=>(sb.2 S HL).trans e,(sb.2 P hnp).trans st.2.2⟩ λb o hb e=>(sb.2 b (by simpa using hb)).trans e;rw[Qr,e];simp[hm]
 done:=λs Q E st hQ=>by
  have hl:ys.length=es.size:=by simpa using hy.length_eq
  refine DZ hh st.1 st.2.2 st.2.1 (List.getElem?_eq_none (by omega)) λh' eb=>?_;exact hQ h' s.toks λb o hb e=>eb b o (by simpa using hb) e
 self:=λi s Q E st q=>qA st.1 q
theorem D8(hh:A.handled=none)(T:SW w s.heap S o es ep t)(hn:es.size<=5000)
  (k:∀(I:Addr) (fp:List Addr) (h':Heap) (d':Drawn) (vs:List Value) (St:Nat->Heap->Prop),vs.Perm (es.toList.map (·.2))->s.heap.objs.size<=I->(∀b∈fp,b=S∨s.heap.objs.size<=b)->(∀b u,s.heap.get? b=some u->h'.get? b=some u) ->
   Walks prog w A I fp [I] es.size (λi v=>vs[i]?=some v) St->St 0 h'->Q (.ref I) {s with heap:=h',drawn:=d'}):wpAny (model prog w) A (pyIter (.ref S)) Q E s:=by
 have hS:=Qt T.ob;refine DX T hn (λhc=>?_) λhb hz ys d' hy=>?_
 ·have HL:S≠s.heap.objs.size:=QB hS
  have fp:∀b∈[s.heap.objs.size,S],b=S∨s.heap.objs.size<=b:=λb hb=>by
   rcases (show b=s.heap.objs.size∨b=S by simpa using hb) with z|z
   ·exact .inr (Nat.le_of_eq z.symm)
   exact .inl z
  by_cases hb:di w=true
  ·exact k _ _ _ s.drawn _ _ ((qz (w.params.setOrder S ep) es).map _) (Qh _) fp (λb u e=>Qf _ e) (D4 (o:=o) (t:=t) hh HL hb) ⟨Qm _ rfl,T.at λo e=>Qf _ e⟩
  have KO:di w=false:=by simpa using hb
  have hz:es.size<=1:=hc.resolve_left hb;exact k _ _ _ s.drawn _ _ (.refl _) (Qh _) fp (λb u e=>Qf _ e) (D6 (o:=o) (t:=t) hh HL KO hz) ⟨0,λ_=>rfl,λz=>absurd z (by lia),Qm _ rfl,T.at λo e=>Qf _ e⟩
 have hsz:(s.heap.push (iM ys)).objs.size=s.heap.objs.size+1:=Heap.size_push _ _;refine k _ [(s.heap.push (iM ys)).objs.size,S,s.heap.objs.size] _ d' (ys.map λy=>(es.toList.map (·.2)).getD y .none) _ ?_ (by rw[hsz];exact Nat.le_succ _) (λb hb=>?_) (λb u e=>Qf _ (Qf _ e)) (D7 (o:=o) (t:=t) (P:=s.heap.objs.size) hh (λz=>by rw[hsz] at z;rw[z] at hS;exact absurd hS (Nat.not_lt.mpr (Nat.le_succ _))) (λz=>by rw[hsz] at z;exact absurd z (QB (Nat.lt_succ_self _))) hy) ⟨Qm _ rfl,T.at λo e=>Qf _ (Qf _ e),Qf _ (Qm _ rfl)⟩
 ·refine(hy.map _).trans ?_;have:=nj Value.none (es.toList.map (·.2));rw[Qg,QM] at this;rw[this]
 rcases (show b=(s.heap.push (iM ys)).objs.size∨b=S∨b=s.heap.objs.size by simpa using hb) with z|z|z
 ·exact .inr (by rw[z,hsz];exact Nat.le_succ _)
 ·exact .inl z
 exact .inr (Nat.le_of_eq z.symm)
theorem Ea(hT:s.TypeIs (.ref S) "set")(h:Q false s):wpAny (model prog w) A (Builtin.List.listLengthHint (.ref S)) Q E s:=by
 unfold Builtin.List.listLengthHint;refine Qa (wpAny_specialOf hT PySem.F.slot_set_len.lookup ?_);generalize hid:("set.__len__":String)=id0
 wp_delta
 rw[show splitId id0=some ("set","__len__") from by subst hid;decide +kernel];subst hid;refine Qa (wpAny_isInstance (T:="set") (b:=true) hT (by rw[isSubtype_type];kernel_rfl) ?_);refine wpAny_ite_split (λhab=>absurd hab (by decide)) (λ_=>?_);refine wpAny_ite_split (λ_=>?_) (λhab=>absurd (by decide +kernel) hab);refine Qa (wpAny_typeOf hT ?_);exact Qe h
theorem Eb(hh:A.handled=none)(T:SW w s.heap S o es ep t)(hn:es.size<=5000)(L:Addr)(hLS:L≠S)(res:Value)(c₀:Nat)(hL:s.heap.get? L=some {cls:=.type "list",data:=.seq #[] c₀})
  (hR:∀h' tk d' (vs:List Value) c',(∀b u,b≠L->s.heap.get? b=some u->h'.get? b=some u)->h'.get? L=some {cls:=.type "list",dict:=none,data:=.seq vs.toArray c',slots:=#[]}->vs.Perm (es.toList.map (·.2))->R (.ok (.ret res)) {s with heap:=h',toks:=tk,drawn:=d'}) :
  wpAny (model prog w) A.in1 (Builtin.List.listExtendWith (.ref L) (.ref S) res)
   (λfin s'=>match fin with|.done f=>R (.ok f) s' | .again c'=>c'.quiet=true/\codeAny (model prog w) A c' R s') (λe s'=>R (.error e) s') s:=by
 unfold Builtin.List.listExtendWith;refine Qa (wpAny_typeOf (T:="set") T.typeIs ?_);have h1:Builtin.List.listSameRef (.ref L) (.ref S)=false:=by simp[Builtin.List.listSameRef,hLS]
 have h2:(Value.type "set" == Value.type "list")=false:=by decide
 have h3:(Value.type "set" == Value.type "tuple")=false:=by decide
 simp only[h1,h2,h3,Bool.or_false,QS,if_false];refine Qa (D8 (A:=A.in1) hh T hn λI fp h1 d' vs St hp hI hfp k W st=>?_);have hLl:=Qt hL
 have hLf:L∉fp:=λhm=>by
  rcases hfp L hm with z|z
  ·exact hLS z
  exact absurd hLl (Nat.not_lt.mpr z)
 refine Qa (wpAny_holding (Ea ⟨o,k _ _ T.ob,T.ex.1⟩ ?_))
 have key:∀ (h:Heap) (c₁:Nat),St 0 h->(∀ b u,b≠L->s.heap.get? b=some u->h.get? b=some u)->h.get? L=some { cls:=.type "list",data:=.seq #[] c₁ } ->
   codeAny (model prog w) A (.builtin "list.extend.loop" ⟨[.ref L,.ref I,res],[]⟩) R {s with heap:=h,drawn:=d'}:=by
  intro h c₁ st k hL1;refine codeAny_extend_loopS W.toS (QT (QE (m:=5000) hn (by decide))) L hLf res es.size 0 _ #[] c₁ rfl (Qy _) st hL1 (ItemsOf.nil _) λs' KS c' hm Ki Jt=>?_;rw[Moved.eq_with hm];have hlv:vs.length=es.size:=by simpa using hp.length_eq
  have ea:KS=vs.toArray:=by
   refine Array.ext_getElem? λi=>?_;by_cases hi:i<es.size
   ·have h1:KS[i]?=some (KS[i]'(by rw[Jt.1];exact hi)):=Array.getElem?_eq_getElem _;rw[h1,List.getElem?_toArray,Jt.2 i _ h1]
   rw[Array.getElem?_eq_none (by rw[Jt.1];lia),Array.getElem?_eq_none (by simp;lia)]
  subst ea;refine hR s'.heap s'.toks d' vs c' (λb u hb e=>hm.heap b u (λKk=>?_) (k b u hb e)) Ki hp;rcases Qx Kk with e' | Kk
  ·exact hb e'
  have:=Qt e;rw[Qj Kk] at this;exact absurd this (Nat.not_lt.mpr hI)
 have hL1:=k _ _ hL;refine wpAny_ite_split (λ_=>?_) (λ_=>Qe ⟨plainId_quiet PySem.F.plain_extend_loop _,key _ c₀ st (λb u _ e=>k b u e) hL1⟩);refine Qa (wpAny_rule ?_);refine Qa ?_;show wpAny _ _ (updateSeq L (·.push .none)>>=λ_=>updateSeq L (·.pop)) _ _ _;refine Qa (wpAny_updateSeq hL1 rfl ?_);have hL2:=Heap.get?_update_self (Obj.mapSeq (·.push Value.none)) hL1 rfl;refine wpAny_updateSeq (hz:=by seq_fits) hL2 rfl ?_;have hL3:=Heap.get?_update_self (Obj.mapSeq (·.pop)) hL2 rfl;refine Qe ⟨plainId_quiet PySem.F.plain_extend_loop _,key _ _ ?_ (λb u hb e=>?_) hL3⟩
 ·refine W.frame 0 _ _ st λb hb u e=>?_;have hbS:b≠L:=λh=>hLf (h ▸ hb);exact(Heap.get?_update_other _ _ (Ne.symm hbS)).trans ((Heap.get?_update_other _ _ (Ne.symm hbS)).trans e)
 exact(Heap.get?_update_other _ _ (Ne.symm hb)).trans ((Heap.get?_update_other _ _ (Ne.symm hb)).trans (k b u e))
theorem Ec(hh:A.handled=none)(T:SW w s.heap S o es ep t)(hn:es.size<=5000)
  (h:∀h' tk d' (vs:List Value),(∀b u,s.heap.get? b=some u->h'.get? b=some u)->vs.Perm (es.toList.map (·.2))->R vs {s with heap:=h',toks:=tk,drawn:=d'}) :
  wpAny (model prog w) A (collect (.ref S)) R E s:=by
 have HS:=Qt T.ob;unfold collect;refine Qa (wpAny_runValue (codeAny_builtin entry_proto_collect' ?_));rw[Around.under_plainId PySem.F.plain_proto_collect _];show wpAny _ A.in1 (newList []>>=λl=>again (.builtin "list.__iadd__" ⟨[l,.ref S],[]⟩)) _ _ s;refine Qa (wpAny_newObj_type ?_);refine Qe ⟨plainId_quiet PySem.F.plain_list_iadd _,codeAny_builtin entry_list_iadd' ?_⟩;rw[Around.under_plainId PySem.F.plain_list_iadd _];have hS₁:(s.heap.push {cls:=.type "list",data:=.seq ([]:List Value).toArray}).get? s.heap.objs.size=some {cls:=.type "list",data:=.seq #[]}:=Qm _ rfl;show wpAny _ A.in1 (Builtin.List.listExtendWith (.ref s.heap.objs.size) (.ref S) (.ref s.heap.objs.size)) _ _ _
 have key:=Eb (prog:=prog) (A:=A) (s:={s with heap:=s.heap.push {cls:=.type "list",data:=.seq ([]:List Value).toArray} })
  (R:=λ(q:Result) (s':Shared)=>∃(h':Heap) (tk:Nat) (d':Drawn) (vs:List Value) (c':Nat),q=.ok (.ret (.ref s.heap.objs.size))/\s'={s with heap:=h',toks:=tk,drawn:=d'} /\
   (∀b o,s.heap.get? b=some o->h'.get? b=some o)/\h'.get? s.heap.objs.size=some {cls:=.type "list",dict:=none,data:=.seq vs.toArray c',slots:=#[]}/\vs.Perm (es.toList.map (·.2)))
  hh (T.at λo e=>Qf _ e) hn s.heap.objs.size (Nat.ne_of_gt HS) (.ref s.heap.objs.size) 0 hS₁
  (λh' tk d' vs c' hk Ki hp=>⟨h',tk,d',vs,c',rfl,rfl,λb o e=>hk b o (QB (Qt e)) (Qf _ e),Ki,hp⟩)
 refine QV key (λfin s' x=>?_) λe s' x=>?_
 ·cases fin with
  |done f =>
   obtain⟨h',tk,d',vs,c',e,rfl,hk,Ki,hp⟩:=x;cases e;show wpAny _ A (load s.heap.objs.size>>=_) _ _ _;refine Qa (wpAny_load Ki ?_);exact Qe (h h' tk d' vs hk hp)
  |again c₁ =>
   refine⟨x.1,codeAny_mono x.2 λq s₂ y=>?_⟩;obtain⟨h',tk,d',vs,c',rfl,rfl,hk,Ki,hp⟩:=y;show wpAny _ A (load s.heap.objs.size>>=_) _ _ _;refine Qa (wpAny_load Ki ?_);exact Qe (h h' tk d' vs hk hp)
 obtain⟨_,_,_,_,_,e',_⟩:=x;cases e'
end
noncomputable def cJ(z:Str):List ae:=[.inr z]
theorem Ed(h:cJ a=cJ b):a=b:=by injection h with h _;injection h
theorem v9(a b:Str):bm (cJ a) (cJ b)=decide (a.cps.toList<b.cps.toList):=by
 show(if(Sum.inr a:ae)=Sum.inr b then bm [] [] else dQ (.inr a) (.inr b))=_;by_cases h:a=b
 ·subst h;rw[if_pos rfl];exact(C7 (.inr a)).symm
 rw[if_neg (λz=>h (Sum.inr.inj z))];rfl
section
variable {X:Cx}{HJ:List (Addr×Obj)}{σ:St}{H:Hp}{s:Shared}{xs:List V}{ds:List (List ae)}{zs:List Str}
theorem Ee{its:List Value}{zs:List Str}(rv:az (zs.map V.str) its)(h2:2<=its.length):np X A E its (zs.map cJ) s:=by
 have hl:=rv.length;rw[Qg] at hl
 have hstr:∀i,i<its.length->∃t,its.getD i Value.none=.str (zs.getD i ⟨#[]⟩) t/\(zs.map cJ).getD i []=cJ (zs.getD i ⟨#[]⟩):=λi hi=>by
  have hiz:i<zs.length:=by omega
  have rg:=ni rv i (by rw[Qg];exact hiz);rw[show(zs.map V.str).getD i .non=.str zs[i] by rw[Qd,Qr,Qb hiz];rfl] at rg
  obtain⟨t,et⟩:=(show ∃t,_=Value.str zs[i] t from rg)
  rw[show zs.getD i ⟨#[]⟩=zs[i] by rw[Qd,Qb hiz];rfl];exact⟨t,et,by rw[Qd,Qr,Qb hiz];rfl⟩
 refine⟨_,λQ q=>kas_kind (T:=Value.type "str") h2 (λv hv=>?_) (by decide) (by decide) q,λi j hi hj C hC=>?_⟩
 ·obtain⟨i,hi⟩:=List.mem_iff_getElem?.mp hv;obtain⟨t,e1,_⟩:=hstr i (Qc hi).1;rw[Qd,hi] at e1;rw[show v=_ from e1];exact λA Q E s _ q=>Qe q
 obtain⟨t1,a1,a2⟩:=hstr i hi;obtain⟨t2,c1,c2⟩:=hstr j hj;show wpAny (model X.prog X.w) A (keyLt' _ (its.getD i Value.none) (its.getD j Value.none)) C _ s;rw[a1,c1];refine kas_lt_str ?_;unfold dR at hC;rw[a2,c2,v9] at hC;exact hC
theorem Ef{zs:List Str}(h:zs.length<64):gZ (zs.map cJ).length (dR (zs.map cJ)):=nh (sh:=[false]) (λd hd=>by obtain⟨z,_,rfl⟩:=QJ hd;rfl) (.inl (by rw[Qg];exact h))
theorem Eg(hc:X.calm=true):dM X (.builtin "sorted") (λas H Q=>∃(q0:Addr) (zs:List Str),as=[.ref q0]/\H q0=some (nC X.prog X.w q0 zs)/\zs.Nodup/\zs.length<64 /\
  ∀(p:Addr) (rs:List Str),H p=none->rs.Pairwise (λx y=>x.cps.toList<y.cps.toList)->(∀z,z∈rs↔z∈zs)->Q (.ref p) (ag H p (.lst (rs.map V.str)))):=by
 intro HJ s σ H as us Q I r h;obtain⟨q0,zs,rfl,hq0,nd,Lf,q⟩:=h;obtain⟨u,rfl,ru⟩:=vals1 r;cases (show u=Value.ref q0 from ru);obtain⟨⟨o,es,ep,t,T⟩,_,_⟩:=I.hok q0 _ hq0;have hel:es.size=zs.length:=T.size;refine Calls.call_function_entry kind_sorted plain_sorted entry_sorted (args_sorted1 _) ?_;unfold Builtin.«sorted»;refine Qa (m:=checkCount "sorted" 1 1 _) (Qe ?_);refine Qa (Ec (I.ok.hd hc) T.sw (by omega) λh1 tk d' vs hk hp=>?_);have I1:Inv X HJ σ H {s with heap:=h1,toks:=tk,drawn:=d'}:=let J:=I.kept (t':=tk) hk;⟨J.ok,J.os,J.bare,J.base,J.loc,J.cell,J.free,J.freeC,J.pin,J.hok,J.len⟩
 obtain⟨ys,rv,ey⟩:∃ys:List Str,az (ys.map V.str) vs/\ys=vs.map ji:=by
  have hv:∀v∈vs,∃z u,v=.str z u:=λv hv=>by obtain⟨e,he,rfl⟩:=QJ (hp.mem_iff.mp hv);obtain⟨z,u,e1,_⟩:=T.el e he;exact⟨z,u,e1⟩
  have go:∀vs:List Value,(∀v∈vs,∃z u,v=.str z u)->∃ys:List Str,az (ys.map V.str) vs/\ys=vs.map ji:=by
   intro vs
   induction vs with
   |nil=>intro _;exact⟨[],.nil,rfl⟩
   |cons v vs ih =>
    intro h;obtain⟨z,u,rfl⟩:=h v QK;obtain⟨ys,e,hy⟩:=ih λu hu=>h u (QG _ hu);exact⟨z::ys,.cons ⟨u,rfl⟩ e,by rw[hy];rfl⟩
  exact go vs hv
 have hyp:ys.Perm zs:=by rw[ey];refine List.Perm.trans ?_ T.pm;have:=hp.map ji;rw[QY] at this;exact this
 have IG:ys.length<64:=by rw[hyp.length_eq];exact Lf
 have ndy:(ys.map cJ).Nodup:=by have h0:ys.Nodup:=hyp.nodup_iff.mpr nd;refine List.pairwise_map.mpr (h0.imp λh e=>h (Ed e))
 have Iq:∀d∈ys.map cJ,d.map cF=[false]:=λd hd=>by obtain⟨z,_,rfl⟩:=QJ hd;rfl
 obtain⟨u1,u2,u3⟩:=qt Iq (.inl (by rw[Qg];exact IG)) ndy;have hvl:vs.length=ys.length:=by rw[<-rv.length,Qg]
 have hz:vs.length<=sizeLine:=QT (iD (by omega));refine Qa (wpAny_newList (s:={s with heap:=h1,toks:=tk,drawn:=d'}) ?_ hz);have Jo:(h1.push (seqObj "list" vs.toArray 0)).get? h1.objs.size=some (seqObj "list" vs.toArray 0):=Qm _ rfl;have I2:Inv X HJ σ H {s with heap:=h1.push (seqObj "list" vs.toArray 0),toks:=tk,drawn:=d'}:=I1.kept (t':=tk) λb o e=>Qf _ e;have fL:cK X HJ H h1.objs.size:=I1.fpOk (Qh _) (I1.hok.fresh (Qh _));change wpAny _ _ _ _ _ {s with heap:=h1.push (seqObj "list" vs.toArray 0),toks:=tk,drawn:=d'};dsimp only;generalize h1.push (seqObj "list" vs.toArray 0)=h2 at Jo I2;generalize h1.objs.size=LL at Jo fL;refine Qa (wpAny_holding (wpAny_call_entry (s:={s with heap:=h2,toks:=tk,drawn:=d'}) slot_list_sort ⟨_,Jo,rfl⟩ entry_list_sort (vC I2 fL Jo rv (by rw[Qg];exact QT (iD (by omega))) (by simp) (Ef IG) (λs' _ h2=>Ee rv h2) λs' out n' I' KY Ij vy=>⟨_,rfl,?_⟩) (args_list_sort _)));have gz:∀i∈cW (ys.map cJ),i<ys.length:=λi hi=>by have:=u2 i hi;rwa [Qg] at this
 have esr:b7 (ys.map cJ) (ys.map V.str)=((cW (ys.map cJ)).map λi=>ys.getD i ⟨#[]⟩).map V.str:=by unfold b7;rw[QY];refine List.map_congr_left λi hi=>?_;show(ys.map V.str).getD i .non=V.str (ys.getD i ⟨#[]⟩);rw[Qd,Qd,Qr,Qb (gz i hi)];rfl
 have hmE:∀z,z∈((cW (ys.map cJ)).map λi=>ys.getD i ⟨#[]⟩)↔z∈zs:=λz=>by
  rw[<-hyp.mem_iff,List.mem_map];constructor
  ·rintro⟨i,hi,rfl⟩;rw[Qd,Qb (gz i hi)];exact QN _
  intro hd;obtain⟨j,hj,rfl⟩:=List.mem_iff_getElem.mp hd;exact⟨j,u3 j (by rw[Qg];exact hj),by rw[Qd,Qb hj];rfl⟩
 have hpw:((cW (ys.map cJ)).map λi=>ys.getD i ⟨#[]⟩).Pairwise (λx y=>x.cps.toList<y.cps.toList):=by
  rw[List.pairwise_map] at u1 ⊢;refine List.Pairwise.imp_of_mem (λ{a b} ha hb h=>?_) u1;have ga:(ys.map cJ).getD a []=cJ (ys.getD a ⟨#[]⟩):=by rw[Qd,Qd,Qr,Qb (gz a ha)];rfl
  have gb:(ys.map cJ).getD b []=cJ (ys.getD b ⟨#[]⟩):=by rw[Qd,Qd,Qr,Qb (gz b hb)];rfl
  rw[ga,gb,v9] at h;exact QO h
 rw[esr] at vy;refine Qe ⟨_,rfl,.ref LL,ag H LL (.lst (((cW (ys.map cJ)).map λi=>ys.getD i ⟨#[]⟩).map V.str)),I'.adopt fL ?_,rfl,q LL _ fL.1 hpw hmE⟩;have hyl2:(((cW (ys.map cJ)).map λi=>ys.getD i ⟨#[]⟩).map V.str).length<=sizeLine:=by rw[vy.length,QM];exact Ij
 exact⟨hyl2,out.toList,n',vy,by simpa using KY⟩
end
theorem Eh(σ:List Str)(v u:Str):u∈ff σ v↔u∈σ∨u=v:=by
 unfold ff;split
 ·rename_i h;obtain⟨x,hx,e⟩:=List.any_eq_true.mp h;have e:x=v:=by simpa using e
  exact⟨.inl,λz=>z.elim id λe2=>by rw[e2,<-e];exact hx⟩
 simp
theorem Ei{σ:List Str}(h:σ.Nodup)(v:Str):(ff σ v).Nodup:=by
 unfold ff;split
 ·exact h
 rename_i hv;rw[List.nodup_append];refine⟨h,by simp,λa ha b hb e=>hv (List.any_eq_true.mpr ⟨a,ha,?_⟩)⟩;have:b=v:=by simpa using hb
 rw[e,this];simp
theorem wa(val:Nat->Str):∀i,(eT val i).Nodup
 |0=>.nil
 |i+1=>by rw[nA];exact Ei (wa val i) _
theorem wb(val:Nat->Str)(u:Str):∀i,u∈eT val i↔∃j,j<i/\val j=u
 |0=>⟨λh=>(nomatch h),λ⟨j,h,_⟩=>absurd h (Nat.not_lt_zero _)⟩
 |i+1=>by
  rw[nA,Eh,wb val u i];constructor
  ·rintro (⟨j,h1,h2⟩|rfl)
   ·exact⟨j,by omega,h2⟩
   exact⟨i,by omega,rfl⟩
  rintro⟨j,h1,h2⟩;by_cases e:j=i
  ·exact .inr (by rw[<-h2,e])
  exact .inl ⟨j,by omega,h2⟩
theorem Ej(zs:List Str):(iL zs).Nodup:=wa _ _
theorem Ek(zs:List Str)(z:Str):z∈iL zs↔z∈zs:=by
 unfold iL;rw[wb];constructor
 ·rintro⟨j,hj,rfl⟩;rw[Qd,Qb hj];exact QN hj
 intro h;obtain⟨j,hj,rfl⟩:=List.mem_iff_getElem.mp h;exact⟨j,hj,by rw[Qd,Qb hj];rfl⟩
theorem El(zs:List Str):(iL zs).length<=zs.length:=qx _ _
end L2
namespace Mm
open PySem L2 PyProof.Rows
variable {oo:Nat}
noncomputable def Tr.nb:Tr->Nat
 |.iff _ _ _ _=>2
 |.whl _ _ _=>1
 |.df _ _ _ _ _=>1
 |_=>0
noncomputable def Tr.pre:Tr->List bw
 |.set r n e=>[.s "set",.i r,.s n,.e e]
 |.tell r e=>[.s "tell",.i r,.e e]
 |.iff r e _ _=>[.s "if",.i r,.e e]
 |.whl r e _=>[.s "while",.i r,.e e]
 |.give r e=>[.s "give",.i r,.e e]
 |.df r n k ps _=>[.s "def",.i r,.s n,.s k,.p ps]
 |.kd r n ps=>[.s "kind",.i r,.s n,.p ps]
noncomputable def Tr.fill:Tr->List (List Tr)->Tr
 |.iff r e _ _,bs=>.iff r e (bs.getD 0 []) (bs.getD 1 [])
 |.whl r e _,bs=>.whl r e (bs.getD 0 [])
 |.df r n k ps _,bs=>.df r n k ps (bs.getD 0 [])
 |.set r n e,_=>.set r n e
 |.tell r e,_=>.tell r e
 |.give r e,_=>.give r e
 |.kd r n ps,_=>.kd r n ps
theorem wc(t:Tr)(bs:List (List Tr)):(t.fill bs).row=t.row:=by cases t<;>rfl
theorem lJ{α:Type}{l:List α}(h:l.length=0):l=[]:=List.length_eq_zero_iff.mp h
theorem lK{α:Type}{l:List α}(h:l.length=1):∃a,l=[a]:=List.length_eq_one_iff.mp h
theorem wd{α:Type}{l:List α}(h:l.length=2):∃a b,l=[a,b]:=by obtain⟨a,r,rfl⟩:=List.exists_cons_of_length_eq_add_one h;obtain⟨b,rfl⟩:=lK (l:=r) (by simpa using h);exact⟨a,b,rfl⟩
theorem Em{t:Tr}{bs:List (List Tr)}(h:bs.length=t.nb):(t.fill bs).parts=t.pre++bs.map bw.b:=by
 cases t with
 |iff r e b o=>obtain⟨a,c,rfl⟩:=wd h;rfl
 |whl r e b=>obtain⟨a,rfl⟩:=lK h;rfl
 |df r n k ps b=>obtain⟨a,rfl⟩:=lK h;rfl
 |_=>rw[lJ h];rfl
structure Bk where
 d:Nat
 rs:List (Tr×List Nat)
noncomputable def gB:Bk:=⟨0,[]⟩
noncomputable def bB(B:List Bk):Nat->Nat->List Tr
 |0,_=>[]
 |n+1,i=>(B.getD i gB).rs.map λq=>q.1.fill (q.2.map (bB B n))
structure nG(B:List Bk)(k:Nat)(b:Bk)(q:Tr×List Nat):Prop where
 asc:q.1.asc
 bare:q.1.fill []=q.1
 row:q.1.row<k
 nb:q.2.length=q.1.nb
 ch:∀j∈q.2,∃c,B[j]?=some c/\c.d=b.d+1
structure we(oo:Nat)(B:List Bk)(k:Nat)(b:Bk):Prop where
 d:b.d<=3
 len:b.rs.length+oo<=k
 pw:b.rs.Pairwise λp q=>p.1.row<q.1.row
 rw:∀q∈b.rs,nG B k b q
noncomputable def kids(b:Bk):List Nat:=b.rs.flatMap (·.2)
structure PI(oo:Nat)(B:List Bk)(k:Nat):Prop where
 b:∀b∈B,we oo B k b
 nd:∀b∈B,(kids b).Nodup
 dj:∀(i j:Nat) (a b:Bk),B[i]?=some a->B[j]?=some b->i≠j->∀c∈kids a,c∉kids b
theorem gf{B:List Bk}{i:Nat}{b:Bk}(h:B[i]?=some b):B.getD i gB=b:=by rw[Qd,h];rfl
theorem wf{B:List Bk}{i:Nat}(h:B[i]?=none):B.getD i gB=gB:=by rw[Qd,h];rfl
theorem wg(B:List Bk):∀n i,deeps (bB B n i)<=n
 |0,i=>by simp[bB,deeps]
 |n+1,i=>by
  rw[bB];refine vH (us:=[]) λt ht=>?_;obtain⟨q,hq,rfl⟩:=QJ ht
  have go:∀j,deeps ((q.2.map (bB B n)).getD j [])<=n:=λj=>by
   rw[Qd,Qr]
   cases q.2[j]? with
   |none=>simp[deeps]
   |some a=>exact wg B n a
  cases e:q.1 with
  |iff r x b o=>have h1:=go 0;have h2:=go 1;simp only[Tr.fill,Tr.deep];lia
  |whl r x b=>have h1:=go 0;simp only[Tr.fill,Tr.deep];lia
  |df r n k ps b=>have h1:=go 0;simp only[Tr.fill,Tr.deep];lia
  |_=>simp[Tr.fill,Tr.deep]
theorem PI.len{B:List Bk}{k:Nat}(h:PI oo B k)(hk:k<=oo+23)(n i:Nat):(bB B n i).length<=40:=by
 cases n with
 |zero=>simp[bB]
 |succ n =>
  rw[bB,Qg]
  cases e:B[i]? with
  |none=>rw[wf e];simp[gB]
  |some b=>rw[gf e];have:=(h.b b (Qq e)).len;lia
theorem PI.ascs{k:Nat}(h:PI oo B k)(hk:k<=oo+23):∀n i,Mm.ascs (bB B n i)
 |0,i=>by rw[bB];trivial
 |n+1,i=>by
  rw[bB]
  cases e:B[i]? with
  |none=>rw[wf e];trivial
  |some b =>
   rw[gf e];have hb:=h.b b (Qq e)
   have one:∀q∈b.rs,(q.1.fill (q.2.map (bB B n))).asc:=λq hq=>by
    have hr:=hb.rw q hq;have ha:=hr.asc;have go:∀j,j<q.2.length->((q.2.map (bB B n)).getD j []).length<=40/\Mm.ascs ((q.2.map (bB B n)).getD j []):=λj hj=>by rw[Qd,Qr,Qb hj];exact⟨h.len hk n _,h.ascs hk n q.2[j]⟩
    have hnb:=hr.nb
    cases eq:q.1 with
    |iff r x bb o =>
     rw[eq] at ha hnb;exact⟨ha.1,go 0 (by rw[hnb];show 0<2;decide),go 1 (by rw[hnb];show 1<2;decide)⟩
    |whl r x bb =>
     rw[eq] at ha hnb;exact⟨ha.1,go 0 (by rw[hnb];show 0<1;decide)⟩
    |df r nn kk ps bb =>
     rw[eq] at ha hnb;exact⟨ha.1,go 0 (by rw[hnb];show 0<1;decide)⟩
    |_=>rw[eq] at ha;exact ha
   refine vI (λt ht=>?_) ?_
   ·obtain⟨q,hq,rfl⟩:=QJ ht;exact one q hq
   refine List.pairwise_map.mpr (hb.pw.imp λ{p q} g=>?_);rw[wc,wc];exact g
theorem PI.at{B:List Bk}{k:Nat}(h:PI oo B k){i:Nat}{b:Bk}(e:B[i]?=some b):we oo B k b:=h.b b (Qq e)
noncomputable def hJ(d:Nat)(ts:List Tr):List Bk:=ts.flatMap λt=>List.replicate t.nb ⟨d,[]⟩
noncomputable def cP(n:Nat)(ts:List Tr):List (Tr×List Nat):=ts.map λt=>(t,List.range' n t.nb)
noncomputable def br(B:List Bk)(i:Nat)(ts:List Tr):List Bk:=B.set i ⟨(B.getD i gB).d,(B.getD i gB).rs++cP B.length ts⟩++hJ ((B.getD i gB).d+1) ts
def qB(ts:List Tr):Prop:=(∃t,ts=[t])∨∀t∈ts,t.nb=0
theorem kg{d:Nat}{ts:List Tr}{j:Nat}{c:Bk}(h:(hJ d ts)[j]?=some c):c.rs=[]/\c.d=d:=by obtain⟨t,_,h⟩:=List.mem_flatMap.mp (Qq h);rw[List.eq_of_mem_replicate h];exact⟨rfl,rfl⟩
theorem iN{B:List Bk}{i j:Nat}{ts:List Tr}{b:Bk}(hb:B[i]?=some b)(hj:j<B.length):(br B i ts)[j]?=if i=j then some {b with rs:=b.rs++cP B.length ts} else B[j]?:=by
 unfold br;rw[gf hb,Ql (by simpa using hj),List.getElem?_set];split
 ·rename_i e;rw[if_pos (by lia)]
 rfl
theorem lL{B:List Bk}{i j:Nat}{ts:List Tr}{b:Bk}(hb:B[i]?=some b)(hj:B.length<=j):(br B i ts)[j]?=(hJ (b.d+1) ts)[j-B.length]?:=by unfold br;rw[gf hb,Qw (by simpa using hj),List.length_set]
theorem En{B:List Bk}:(br B i ts).length=B.length+(hJ ((B.getD i gB).d+1) ts).length:=by unfold br;rw[Qi,List.length_set]
theorem wj{B:List Bk}{i j:Nat}{ts:List Tr}{b c:Bk}(hb:B[i]?=some b)(hc:B[j]?=some c):∃c',(br B i ts)[j]?=some c'/\c'.d=c.d:=by
 rw[iN hb (Qc hc).1];split
 ·rename_i e;subst e;rw[hb] at hc;cases hc;exact⟨_,rfl,rfl⟩
 exact⟨c,hc,rfl⟩
theorem qC{B:List Bk}{i:Nat}{ts:List Tr}{b:Bk}(hb:B[i]?=some b)(hl:qB ts){q:Tr×List Nat}(hq:q∈cP B.length ts):q.1∈ts/\q.2.length=q.1.nb/\∀j∈q.2,B.length<=j/\∃c,(br B i ts)[j]?=some c/\c.d=b.d+1:=by
 obtain⟨t,ht,rfl⟩:=QJ hq;refine⟨ht,List.length_range',λj hj=>?_⟩;obtain⟨h1,h2⟩:=List.mem_range'_1.mp hj;refine⟨h1,?_⟩;rcases hl with ⟨u,rfl⟩|hl
 ·rw[Qj ht] at h2;rw[lL hb h1];unfold hJ;rw[List.flatMap_cons,List.flatMap_nil,QA,List.getElem?_replicate,if_pos (by omega)];exact⟨_,rfl,rfl⟩
 have:=hl t ht;omega
theorem Eo(hl:qB ts):((cP n ts).flatMap (·.2)).Nodup/\∀j∈(cP n ts).flatMap (·.2),n<=j:=by
 refine⟨?_,λj hj=>?_⟩
 ·rcases hl with ⟨u,rfl⟩|hl
  ·unfold cP;simp only[List.map_cons,List.map_nil,List.flatMap_cons,List.flatMap_nil,QA];exact List.nodup_range'
  have:(cP n ts).flatMap (·.2)=[]:=List.flatMap_eq_nil_iff.mpr λq hq=>by obtain⟨t,ht,rfl⟩:=QJ hq;show List.range' n t.nb=[];rw[hl t ht];rfl
  rw[this];exact .nil
 obtain⟨q,hq,hj⟩:=List.mem_flatMap.mp hj;obtain⟨t,_,rfl⟩:=QJ hq;exact(List.mem_range'_1.mp hj).1
theorem PI.add{B:List Bk}{k i:Nat}{b:Bk}{ts:List Tr}(h:PI oo B k)(hb:B[i]?=some b)(hl:qB ts)(h2:ts.length<=1)(h0:oo<=k)(hd:(∃t∈ts,t.nb≠0)->b.d<=2)(hpw:ts.Pairwise λt u=>t.row<u.row)
  (hr:∀t∈ts,t.asc/\t.fill []=t/\t.row=k):PI oo (br B i ts) (k+1):=by
 have Il:=(Qc hb).1;have hbP:=h.at hb;have klt:∀j c,B[j]?=some c->∀x∈kids c,x<B.length:=λj c hc x hx=>by obtain⟨q,hq,hx⟩:=List.mem_flatMap.mp hx;obtain⟨d,hd,_⟩:=((h.at hc).rw q hq).ch x hx;exact(Qc hd).1
 have rwm:∀{c c':Bk} {q},nG B k c q->c'.d=c.d->nG (br B i ts) (k+1) c' q:=λ{c c' q} r e2=>⟨r.asc,r.bare,Nat.lt_succ_of_lt r.row,r.nb,λj hj=>by
  obtain⟨x,hx,m2⟩:=r.ch j hj;obtain⟨x',hx',n2⟩:=wj (ts:=ts) hb hx
  exact⟨x',hx',by rw[n2,m2,e2]⟩⟩
 have cas:∀{j c},(br B i ts)[j]?=some c->(j<B.length/\i=j/\c={b with rs:=b.rs++cP B.length ts})∨(j<B.length/\i≠j/\B[j]?=some c)∨(B.length<=j/\(hJ (b.d+1) ts)[j-B.length]?=some c):=λ{j c} hc=>by
  by_cases hj:j<B.length
  ·rw[iN hb hj] at hc;split at hc
   ·rename_i e;cases hc;exact .inl ⟨hj,e,rfl⟩
   rename_i e;exact .inr (.inl ⟨hj,e,hc⟩)
  rw[lL hb (by lia)] at hc;exact .inr (.inr ⟨by lia,hc⟩)
 have kn:∀{c:Bk},c.rs=[]->kids c=[]:=λ{c} e=>by unfold kids;rw[e];rfl
 have kA:kids {b with rs:=b.rs++cP B.length ts}=kids b++(cP B.length ts).flatMap (·.2):=by unfold kids;rw[List.flatMap_append]
 obtain⟨kd1,kd2⟩:=Eo (n:=B.length) hl;refine⟨λc hc=>?_,λc hc=>?_,λj j' a a' ha ha' HL x hx hx'=>?_⟩
 ·obtain⟨j,hj⟩:=List.mem_iff_getElem?.mp hc
  rcases cas hj with ⟨_,_,rfl⟩|⟨_,_,hc⟩|⟨_,hc⟩
  ·refine⟨hbP.d,?_,?_,λq hq=>?_⟩
   ·show(b.rs++cP B.length ts).length+oo<=_;have:=hbP.len;rw[Qi];unfold cP;rw[Qg];lia
   ·refine List.pairwise_append.mpr ⟨hbP.pw,?_,λp hp q hq=>?_⟩
    ·unfold cP;exact List.pairwise_map.mpr hpw
    obtain⟨t,ht,rfl⟩:=QJ hq;have h1:=(hbP.rw p hp).row;have h2:=(hr t ht).2.2;show p.1.row<t.row;lia
   rcases Qv (show q∈b.rs++cP B.length ts from hq) with hq|hq
   ·exact rwm (hbP.rw q hq) rfl
   obtain⟨m1,m2,m3⟩:=qC hb hl hq;obtain⟨n2,n3,n5⟩:=hr q.1 m1;exact⟨n2,n3,by lia,m2,λj hj=>(m3 j hj).2⟩
  ·have:=h.at hc;exact⟨this.d,by have:=this.len;lia,this.pw,λq hq=>rwm (this.rw q hq) rfl⟩
  obtain⟨e1,e2⟩:=kg hc;obtain⟨t,ht,hm⟩:=List.mem_flatMap.mp (Qq hc);have HL:t.nb≠0:=λz=>by rw[z] at hm;simp at hm
  have:=hd ⟨t,ht,HL⟩;refine⟨by lia,by rw[e1,List.length_nil];lia,by rw[e1];exact .nil,λq hq=>by rw[e1] at hq;simp at hq⟩
 ·obtain⟨j,hj⟩:=List.mem_iff_getElem?.mp hc
  rcases cas hj with ⟨_,_,rfl⟩|⟨_,_,hc⟩|⟨_,hc⟩
  ·rw[kA];refine List.nodup_append.mpr ⟨h.nd b (Qq hb),kd1,λx hx y hy e=>?_⟩;have:=klt i b hb x hx;have:=kd2 y hy;lia
  ·exact h.nd c (Qq hc)
  rw[kn (kg hc).1];exact .nil
 have split:∀ {j a},(br B i ts)[j]?=some a->x∈kids a->(∃ a0,B[j]?=some a0/\x∈kids a0/\x<B.length)∨(i=j/\B.length<=x):=fun {j a} ha hx=>by
  rcases cas ha with ⟨_,e,rfl⟩|⟨_,_,hc⟩|⟨_,hc⟩
  ·rw[kA] at hx;rcases Qv hx with q|q
   ·exact .inl ⟨b,by rw[<-e];exact hb,q,klt i b hb x q⟩
   exact .inr ⟨e,kd2 x q⟩
  ·exact .inl ⟨a,hc,hx,klt j a hc x hx⟩
  rw[kn (kg hc).1] at hx;simp at hx
 rcases split ha hx with ⟨a0,g1,g2,g3⟩|⟨g1,g2⟩<;>rcases split ha' hx' with ⟨b0,f1,f2,f3⟩|⟨f1,f2⟩
 ·exact h.dj j j' a0 b0 g1 f1 HL x g2 f2
 ·lia
 ·lia
 exact HL (by rw[<-g1,<-f1])
abbrev eG(H G:Hp):Prop:=∀b xs,H b=some (.tup xs)->G b=some (.tup xs)
def dw(H:Hp)(u:Addr)(t:Tr)(bs:List Addr):Prop:=∃vs,H u=some (.tup (vs++bs.map V.ref))/\∀G,eG H G->PsAt G false vs t.pre
theorem dw.kept{t:Tr}{bs:List Addr}(h:dw H u t bs)(s:eG H G):dw G u t bs:=by obtain⟨vs,h2,h3⟩:=h;exact⟨vs,s _ _ h2,λG' s'=>h3 G' λb xs e=>s' _ _ (s _ _ e)⟩
def eU(H:Hp)(as:List Addr)(us:List Addr)(rs:List (Tr×List Nat)):Prop:=us.length=rs.length/\∀(k:Nat) (u:Addr) (q:Tr×List Nat),us[k]?=some u->rs[k]?=some q->dw H u q.1 (q.2.map λj=>as.getD j 0)
structure FA(H:Hp)(as:List Addr)(B:List Bk):Prop where
 len:as.length=B.length
 nd:as.Nodup
 bl:∀(i:Nat) (a:Addr) (b:Bk),as[i]?=some a->B[i]?=some b->∃us:List Addr,H a=some (.lst (us.map V.ref))/\eU H as us b.rs
theorem FA.kept{as:List Addr}(h:FA H as B)(s:eG H G)(e:∀a∈as,G a=H a):FA G as B:=
 ⟨h.len,h.nd,λi a b ha hb=>by obtain⟨us,h1,h2,h3⟩:=h.bl i a b ha hb;exact⟨us,by rw[e a (Qq ha)];exact h1,h2,λk u q x y=>(h3 k u q x y).kept s⟩⟩
theorem eU.ext{as bs us:List Addr}(h:eU H as us rs)(hj:∀q∈rs,∀j∈q.2,j<as.length):eU H (as++bs) us rs:=⟨h.1,λk u q x y=>by
 have:(q.2.map λj=>(as++bs).getD j 0)=q.2.map λj=>as.getD j 0:=List.map_congr_left λj hm=>by have hl:=hj q (Qq y) j hm;rw[Qd,Qd,Ql hl]
 rw[this];exact h.2 k u q x y⟩
theorem eU.app{as us vs:List Addr}(h:eU H as us rs)(g:eU H as vs qs):eU H as (us++vs) (rs++qs):=by
 refine⟨by rw[Qi,Qi,h.1,g.1],λk u q x y=>?_⟩;have e:=h.1;by_cases hk:k<us.length
 ·rw[Ql hk] at x;rw[Ql (by lia)] at y;exact h.2 k u q x y
 rw[Qw (by lia)] at x;rw[Qw (by lia)] at y;exact g.2 (k-us.length) u q x (by rw[e];exact y)
theorem FA.add{H H3:Hp}{as us us' bs:List Addr}{B:List Bk}{k i:Nat}{a:Addr}{b:Bk}{ts:List Tr}(h:FA H as B)(hp:PI oo B k)(hi:as[i]?=some a)(hb:B[i]?=some b)(ha:H a=some (.lst (us.map V.ref)))(hT:eG H H3)(hL:∀x∈as,H3 x=H x)
  (hr:eU H3 (as++bs) us' (cP B.length ts)) (hbs:∀x∈bs,x∉as/\H3 x=some (.lst [])) (I0:bs.Nodup) (hl:bs.length=(hJ (b.d+1) ts).length):FA (ag H3 a (.lst ((us++us').map V.ref))) (as++bs) (br B i ts):=by
 have tk:eG H3 (ag H3 a (.lst ((us++us').map V.ref))):=λc xs e=>by
  rw[ay λz=>by rw[z,hL a (Qq hi),ha] at e;cases e];exact e
 have rk:∀{vs:List Addr} {rs:List (Tr×List Nat)} {as:List Addr},eU H3 as vs rs->eU (ag H3 a (.lst ((us++us').map V.ref))) as vs rs:=λr=>⟨r.1,λk u q x y=>(r.2 k u q x y).kept tk⟩
 have rk0:∀{vs:List Addr} {rs:List (Tr×List Nat)} {as:List Addr},eU H as vs rs->eU H3 as vs rs:=λr=>⟨r.1,λk u q x y=>(r.2 k u q x y).kept hT⟩
 have lt:∀c∈B,∀q∈c.rs,∀j∈q.2,j<as.length:=λc hc q hq j hj=>by obtain⟨d,hd,_⟩:=((hp.b c hc).rw q hq).ch j hj;rw[h.len];exact(Qc hd).1
 refine⟨by rw[Qi,h.len,En,gf hb,hl],List.nodup_append.mpr ⟨h.nd,I0,λx hx y hy e=>(hbs y hy).1 (by rw[<-e];exact hx)⟩,λj x c hx hc=>?_⟩;by_cases hj:j<B.length
 ·rw[Ql (by rw[h.len];exact hj)] at hx;rw[iN hb hj] at hc;by_cases e:i=j
  ·subst e;rw[if_pos rfl] at hc;rw[hi] at hx;cases hx;cases hc;obtain⟨vs,h1,h2⟩:=h.bl i a b hi hb;rw[ha] at h1
   have ev:us=vs:=by
    have h1:us.map V.ref=vs.map V.ref:=by injection h1 with h1;injection h1
    exact List.map_inj_right (λx y z=>by injection z) |>.mp h1
   subst ev;exact⟨us++us',ah,((rk (rk0 h2)).ext (lt b (Qq hb))).app (rk hr)⟩
  rw[if_neg e] at hc;obtain⟨vs,h1,h2⟩:=h.bl j x c hx hc
  have HL:x≠a:=λz=>e (by
   obtain⟨p1,p2⟩:=Qc hi;obtain⟨q1,q2⟩:=Qc hx
   exact(List.getElem_inj h.nd).mp (by rw[p2,q2,z]))
  exact⟨vs,by rw[ay HL,hL x (Qq hx)];exact h1,(rk (rk0 h2)).ext (lt c (Qq hc))⟩
 rw[Qw (by rw[h.len];lia)] at hx;rw[lL hb (by lia)] at hc;obtain⟨g1,g2⟩:=hbs x (Qq hx);refine⟨[],by rw[ay λz=>g1 (by rw[z];exact Qq hi)];exact g2,?_⟩;rw[(kg hc).1];exact⟨rfl,λk u q x=>by simp at x⟩
theorem PsAt.app:∀{vs us:List V} {ps qs:List bw},PsAt H sh vs ps->PsAt H sh us qs->PsAt H sh (vs++us) (ps++qs)
 |_,_,_,_,.nil,h=>h
 |_,_,_,_,.cons a b,h=>.cons a (b.app h)
theorem FA.lat{H:Hp}{as:List Addr}{B:List Bk}{k:Nat}(h:FA H as B)(p:PI oo B k):∀(n i:Nat) (a:Addr) (b:Bk),as[i]?=some a->B[i]?=some b->4<=b.d+n->∃us:List Addr,H a=some (.lst (us.map V.ref))/\LAt H false (us.map V.ref) (bB B n i)
 |0,i,a,b,ha,hb,hd=>by have:=(p.at hb).d;lia
 |n+1,i,a,b,ha,hb,hd=>by
  obtain⟨us,h1,h2,h3⟩:=h.bl i a b ha hb;refine⟨us,h1,?_⟩;rw[bB,gf hb]
  have blk:∀{js:List Nat},(∀j∈js,∃c,B[j]?=some c/\c.d=b.d+1)->PsAt H false ((js.map λj=>as.getD j 0).map V.ref) ((js.map (bB B n)).map bw.b):=λ{js}=>by
   induction js with
   |nil=>intro _;exact .nil
   |cons j js ih =>
    intro hj;obtain⟨c,hc,IY⟩:=hj j (by simp);have hjl:j<as.length:=by rw[h.len];exact(Qc hc).1
    obtain⟨ws,g1,g2⟩:=FA.lat h p n j as[j] c (Qb hjl) hc (by lia);refine .cons ?_ (ih λx hx=>hj x (by simp[hx]));show PAt H false (V.ref (as.getD j 0)) _;rw[Qd,Qb hjl];exact .b g1 g2
  have go:∀{rs:List (Tr×List Nat)} {us:List Addr},eU H as us rs->(∀q∈rs,nG B k b q)->LAt H false (us.map V.ref) (rs.map λq=>q.1.fill (q.2.map (bB B n))):=λ{rs}=>by
   induction rs with
   |nil=>intro us g _;rw[List.length_eq_zero_iff.mp g.1];exact .nil
   |cons q rs ih =>
    intro us g hr;obtain⟨u,us,rfl⟩:=List.exists_cons_of_length_eq_add_one g.1;have hq:=hr q (by simp);obtain⟨vs,e2,e3⟩:=g.2 0 u q rfl rfl;refine .cons (.plain rfl (.mk e2 ?_)) (ih ⟨by simpa using g.1,λk u q x y=>g.2 (k+1) u q x y⟩ λq hq=>hr q (by simp[hq]));rw[Em (by rw[Qg];exact hq.nb)];exact(e3 H λ_ _ e=>e).app (blk λj hj=>hq.ch j hj)
  exact go ⟨h2,h3⟩ (p.at hb).rw
abbrev Bd:=Int×List Str
noncomputable def dU(b:Bd):Tr->Bd
 |.df r _ _ ps _=>(((r:Nat):Int),ps.map (·.1))
 |_=>b
mutual
noncomputable def bQ(b:Bd):Tr->List (Tr×Bd)
 |.iff r e x o=>(.iff r e [] [],b)::(seqB b x++seqB b o)
 |.whl r e x=>(.whl r e [],b)::seqB b x
 |.df r n k ps x=>(.df r n k ps [],b)::seqB (((r:Nat):Int),ps.map (·.1)) x
 |.set r n e=>[(.set r n e,b)]
 |.tell r e=>[(.tell r e,b)]
 |.give r e=>[(.give r e,b)]
 |.kd r n ps=>[(.kd r n ps,b)]
noncomputable def seqB(b:Bd):List Tr->List (Tr×Bd)
 | []=>[]
 |t::ts=>bQ b t++seqB b ts
end
theorem wk{α:Type}(b:Bd)(f:α->Tr):∀l:List α,seqB b (l.map f)=l.flatMap λa=>bQ b (f a)
 | []=>rfl
 |a::l=>by simp only[List.map_cons,seqB,wk b f l,List.flatMap_cons]
theorem Ep{t:Tr}{bs:List (List Tr)}(b:Bd)(hb:t.fill []=t)(h:bs.length=t.nb):bQ b (t.fill bs)=(t,b)::bs.flatMap (seqB (dU b t)):=by
 cases t with
 |iff r e x o =>
  obtain⟨p,q,rfl⟩:=wd h;cases hb;simp[Tr.fill,bQ,dU]
 |whl r e x =>
  obtain⟨p,rfl⟩:=lK h;cases hb;simp[Tr.fill,bQ,dU]
 |df r n k ps x =>
  obtain⟨p,rfl⟩:=lK h;cases hb;simp[Tr.fill,bQ,dU]
 |set r n e=>rw[lJ h];rfl
 |tell r e=>rw[lJ h];rfl
 |give r e=>rw[lJ h];rfl
 |kd r n ps=>rw[lJ h];rfl
noncomputable def bR(B:List Bk)(n:Nat)(b:Bd)(i:Nat):List (Tr×Bd):=seqB b (bB B n i)
theorem nH{B:List Bk}{k n i:Nat}{c:Bk}(h:PI oo B k)(hc:B[i]?=some c)(b:Bd):bR B (n+1) b i=c.rs.flatMap λq=>(q.1,b)::q.2.flatMap (bR B n (dU b q.1)):=by
 show seqB b (bB B (n+1) i)=_;rw[bB,gf hc,wk];have:∀q∈c.rs,bQ b (q.1.fill (q.2.map (bB B n)))=(q.1,b)::q.2.flatMap (bR B n (dU b q.1)):=λq hq=>by have hr:=(h.at hc).rw q hq;rw[Ep b hr.bare (by rw[Qg];exact hr.nb),List.flatMap_map];rfl
 generalize c.rs=l at this
 induction l with
 |nil=>rfl
 |cons q l ih=>rw[List.flatMap_cons,List.flatMap_cons,this q (.head _),ih λp hp=>this p (.tail _ hp)]
def jk(B:List Bk):List Nat->Prop
 | []=>False
 | [x]=>∃b,B[x]?=some b
 |x::y::r=>(∃b init q,B[x]?=some b/\b.rs=init++[q]/\(q.2=[y]∨(∃z c,q.2=[y,z]/\B[z]?=some c/\c.rs=[])∨∃z,q.2=[z,y]))/\jk B (y::r)
noncomputable def nI(B:List Bk)(x:Nat):Tr:=match (B.getD x gB).rs.getLast? with
 |some q=>q.1
 |none=>Dr
noncomputable def lM(B:List Bk):List Nat->Bd->Bd
 |x::y::r,b=>lM B (y::r) (dU b (nI B x))
 |_,b=>b
def wm(B:List Bk)(S:List Nat):Prop:=∀(e x:Nat),S[e]?=some x->∃b,B[x]?=some b/\b.d=e
theorem qD{B:List Bk}{j:Nat}{c:Bk}(hc:B[j]?=some c)(e:c.rs=[]):∀n,bB B n j=[]
 |0=>rfl
 |n+1=>by rw[bB,gf hc,e];rfl
theorem jk.link{B:List Bk}:∀{S:List Nat},jk B S->∀{e x y:Nat},S[e]?=some x->S[e+1]?=some y->∃b init q,B[x]?=some b/\b.rs=init++[q]/\(q.2=[y]∨(∃z c,q.2=[y,z]/\B[z]?=some c/\c.rs=[])∨∃z,q.2=[z,y])
 | [],h,e,x,y,hx,hy=>h.elim
 | [a],h,e,x,y,hx,hy=>by simp at hy
 |a::c::r,h,0,x,y,hx,hy=>by
  have hx:a=x:=by simpa using hx
  have hy:c=y:=by simpa using hy
  rw[<-hx,<-hy];exact h.1
 |a::c::r,h,e+1,x,y,hx,hy=>jk.link h.2 (e:=e) (by simpa using hx) (by simpa using hy)
theorem lN{α β:Type}{f g:α->List β}:∀{l:List α},(∀a∈l,f a=g a)->l.flatMap f=l.flatMap g
 | [],_=>rfl
 |a::l,h=>by rw[List.flatMap_cons,List.flatMap_cons,h a (.head _),lN λc hc=>h c (.tail _ hc)]
theorem Er{b:Bk}{init:List (Tr×List Nat)}{q:Tr×List Nat}{y:Nat}{B:List Bk}(e:b.rs=init++[q])(h:q.2=[y]∨(∃z c,q.2=[y,z]/\B[z]?=some c/\c.rs=[])∨∃z,q.2=[z,y]):y∈kids b:=by unfold kids;rw[e,List.flatMap_append];refine Qu _ ?_;rw[List.flatMap_cons,List.flatMap_nil,QA];rcases h with h|⟨z,c,h,_⟩|⟨z,h⟩<;>rw[h]<;>simp
section
variable {B:List Bk}{k i:Nat}{b:Bk}{S:List Nat}{t:Tr}(h:PI oo B k)(hb:B[i]?=some b)(hS:wm B S)(hC:jk B S)(hi:S[b.d]?=some i)(hl:S.length=b.d+1)
include h hb hS hC hi hl
theorem qE:∀(n x:Nat) (c:Bk),B[x]?=some c->(∀y,S[c.d]?=some y->y≠x)->bB (br B i [t]) n x=bB B n x
 |0,x,c,hc,hn=>rfl
 |n+1,x,c,hc,hn=>by
  have hxi:i≠x:=λe=>by subst e;rw[hb] at hc;cases hc;exact hn i hi rfl
  have hc':(br B i [t])[x]?=some c:=by rw[iN hb (Qc hc).1,if_neg hxi];exact hc
  rw[bB,bB,gf hc,gf hc'];refine List.map_congr_left λq hq=>?_;congr 1;refine List.map_congr_left λj hj=>?_;obtain⟨d,hd,h2⟩:=((h.at hc).rw q hq).ch j hj;refine qE n j d hd λy hy e=>?_;rw[h2] at hy;subst e;have HS:=(Qc hy).1;have hx':S[c.d]?=some S[c.d]:=Qb (by omega);obtain⟨b',init,q',g1,g2,g3⟩:=hC.link hx' hy;exact h.dj _ _ b' c g1 hc (hn _ hx') y (Er g2 g3) (List.mem_flatMap.mpr ⟨q,hq,hj⟩)
theorem wn(h':PI oo (br B i [t]) (k+1)):∀(L:List Nat) (e:Nat),S.drop e=L->L≠[]->∀(n:Nat) (bd:Bd),L.length<=n->bR (br B i [t]) n bd (L.headD 0)=bR B n bd (L.headD 0)++[(t,lM B L bd)]
 | [],e,hL,HL,n,bd,hn=>absurd rfl HL
 | [x],e,hL,HL,n,bd,hn=>by
  obtain⟨m,rfl⟩:∃m,n=m+1:=⟨n-1,by simp at hn;lia⟩
  have HM:S.length-e=1:=by have:=congrArg List.length hL;simpa using this
  have he:e=b.d:=by lia
  have hx:S[e]?=some x:=by have:=congrArg (λl=>l[0]?) hL;simpa using this
  rw[he,hi] at hx;cases hx;show bR (br B i [t]) (m+1) bd i=bR B (m+1) bd i++[(t,bd)];have hB':(br B i [t])[i]?=some {b with rs:=b.rs++cP B.length [t]}:=by rw[iN hb (Qc hb).1,if_pos rfl]
  rw[nH h hb,nH h' hB'];show(b.rs++cP B.length [t]).flatMap _=_;rw[List.flatMap_append];congr 1
  ·refine lN λq hq=>?_;congr 1;refine lN λj hj=>?_;obtain⟨d,hd,h2⟩:=((h.at hb).rw q hq).ch j hj;unfold bR;rw[qE h hb hS hC hi hl m j d hd λy hy=>by rw[h2,List.getElem?_eq_none (by lia)] at hy;cases hy]
  show [(t,List.range' B.length t.nb)].flatMap _=_;rw[List.flatMap_cons,List.flatMap_nil,QA];congr 1;refine List.flatMap_eq_nil_iff.mpr λj hj=>?_;obtain⟨_,_,g⟩:=qC (ts:=[t]) hb (.inl ⟨t,rfl⟩) (q:=(t,List.range' B.length t.nb)) (by unfold cP;simp);obtain⟨hj1,c,hc,_⟩:=g j hj;have hc2:=hc;rw[lL hb hj1] at hc2;unfold bR;rw[qD hc (kg hc2).1];rfl
 |x::y::r,e,hL,HL,n,bd,hn=>by
  obtain⟨m,rfl⟩:∃m,n=m+1:=⟨n-1,by simp at hn;lia⟩
  have HM:S.length-e=r.length+1+1:=by have:=congrArg List.length hL;simpa using this
  have hx:S[e]?=some x:=by have:=congrArg (λl=>l[0]?) hL;simpa using this
  have hy:S[e+1]?=some y:=by have:=congrArg (λl=>l[1]?) hL;simpa using this
  have hL':S.drop (e+1)=y::r:=by have:=congrArg (List.drop 1) hL;rw[List.drop_drop] at this;simpa using this
  obtain⟨c,hc,IY⟩:=hS e x hx;obtain⟨c',init,q,g1,g2,g3⟩:=hC.link hx hy;rw[hc] at g1;cases g1;have hxi:i≠x:=λz=>by subst z;rw[hb] at hc;cases hc;lia
  have hc':(br B i [t])[x]?=some c:=by rw[iN hb (Qc hc).1,if_neg hxi];exact hc
  have ih:=wn h' (y::r) (e+1) hL' (by simp) m (dU bd q.1) (by simp at hn ⊢;lia);have ih:bR (br B i [t]) m (dU bd q.1) y=bR B m (dU bd q.1) y++[(t,lM B (y::r) (dU bd q.1))]:=ih;have La:nI B x=q.1:=by unfold nI;rw[gf hc,g2,List.getLast?_concat]
  show bR (br B i [t]) (m+1) bd x=bR B (m+1) bd x++[(t,lM B (y::r) (dU bd (nI B x)))];rw[La,nH h hc,nH h' hc',g2,List.flatMap_append,List.flatMap_append,QX];have I0:=h.nd c (Qq hc);unfold kids at I0;rw[g2,List.flatMap_append,List.flatMap_cons,List.flatMap_nil,QA] at I0;have other:∀p∈c.rs,∀j∈p.2,j≠y->bB (br B i [t]) m j=bB B m j:=λp hp j hj HL=>by obtain⟨d,hd,h2⟩:=((h.at hc).rw p hp).ch j hj;refine qE h hb hS hC hi hl m j d hd λy' hy' z=>?_;rw[h2,IY,hy] at hy';cases hy';exact HL z.symm
  congr 1
  ·refine lN λp hp=>?_;congr 1;refine lN λj hj=>?_;unfold bR;rw[other p (by rw[g2];exact QQ _ hp) j hj λz=>?_];refine(List.nodup_append.mp I0).2.2 j (List.mem_flatMap.mpr ⟨p,hp,hj⟩) j ?_ rfl;rw[z];rcases g3 with g|⟨z',c2,g,_⟩|⟨z',g⟩<;>rw[g]<;>simp
  rw[List.flatMap_cons,List.flatMap_nil,QA,List.flatMap_cons,List.flatMap_nil,QA,List.cons_append];congr 1;have hq:q∈c.rs:=by rw[g2];simp
  have hnq:=(List.nodup_append.mp I0).2.1
  rcases g3 with g|⟨z,c2,g,hz,hz0⟩|⟨z,g⟩
  ·rw[g];simp only[List.flatMap_cons,List.flatMap_nil,QA];exact ih
  ·have hzy:z≠y:=λe=>by rw[g,e] at hnq;simp at hnq
   have e1:=other q hq z (by rw[g];simp) hzy;have e2:bR (br B i [t]) m (dU bd q.1) z=[]:=by unfold bR;rw[e1,qD hz hz0];rfl
   have e3:bR B m (dU bd q.1) z=[]:=by unfold bR;rw[qD hz hz0];rfl
   rw[g];simp only[List.flatMap_cons,List.flatMap_nil,QA];rw[e2,e3,QA,QA];exact ih
  have hzy:z≠y:=λe=>by rw[g,e] at hnq;simp at hnq
  have e1:=other q hq z (by rw[g];simp) hzy;have e2:bR (br B i [t]) m (dU bd q.1) z=bR B m (dU bd q.1) z:=by unfold bR;rw[e1]
  rw[g];simp only[List.flatMap_cons,List.flatMap_nil,QA];rw[e2,ih,QX]
end
mutual
theorem Es(b:Bd):∀t:Tr,t.cnt=(bQ b t).length
 |.set _ _ _=>by simp[bQ,Tr.cnt]
 |.tell _ _=>by simp[bQ,Tr.cnt]
 |.give _ _=>by simp[bQ,Tr.cnt]
 |.kd _ _ _=>by simp[bQ,Tr.cnt]
 |.iff r e x o=>by simp[bQ,Tr.cnt,cnt_seq b x,cnt_seq b o];omega
 |.whl r e x=>by simp[bQ,Tr.cnt,cnt_seq b x];omega
 |.df r n k ps x=>by simp[bQ,Tr.cnt,cnt_seq (((r:Nat):Int),ps.map (·.1)) x];omega
theorem cnt_seq(b:Bd):∀ts:List Tr,cnts ts=(seqB b ts).length
 | []=>by simp[seqB,cnts]
 |t::ts=>by simp[seqB,cnts,Es b t,cnt_seq b ts]
end
end Mm
namespace L2
open PySem PySem.Spec PyProof.Rows Mm
def eJ(R:V->V->Prop):List V->List V->Prop
 | [],[]=>True
 |x::xs,y::ys=>R x y/\eJ R xs ys
 |_,_=>False
noncomputable def nJ:V->Bool
 |.int _=>true
 |.str _=>true
 |_=>false
def cq(H:Hp):Nat->V->V->Prop
 |0,x,y=>x=y/\nJ x=true
 |n+1,x,y=>x=y/\nJ x=true∨∃(a b:Addr) (xs ys:List V),x=.ref a/\y=.ref b/\(H a=some (.tup xs)/\H b=some (.tup ys)∨H a=some (.lst xs)/\H b=some (.lst ys))/\eJ (cq H n) xs ys
theorem cq.at{H:Hp}{x:V}(h:nJ x=true):∀n,cq H n x x
 |0=>⟨rfl,h⟩
 |n+1=>.inl ⟨rfl,h⟩
theorem cq.tup{H:Hp}{n:Nat}{a b:Addr}{xs ys:List V}(h:H a=some (.tup xs))(h':H b=some (.tup ys))(e:eJ (cq H n) xs ys):cq H (n+1) (.ref a) (.ref b):=.inr ⟨a,b,xs,ys,rfl,rfl,.inl ⟨h,h'⟩,e⟩
theorem qF(hR:∀x y v u,R x y->RelV x v->RelV y u->SeqAt.EqAt A s v u true):∀{xs ys:List V} {vs us:List Value},eJ R xs ys->az xs vs->az ys us->vs.length=us.length/\∀(j:Nat) (h1:j<vs.toArray.size) (h2:j<us.toArray.size),SeqAt.EqAt A s vs.toArray[j] us.toArray[j] true
 | [],[],_,_,_,.nil,.nil=>⟨rfl,λj h=>absurd h (Nat.not_lt_zero _)⟩
 |x::xs,y::ys,_,_,h,.cons r rs,.cons q qs=>by
  obtain⟨i1,i2⟩:=qF hR h.2 rs qs;refine⟨congrArg (·+1) i1,λj h1 h2=>?_⟩
  cases j with
  |zero=>exact hR x y _ _ h.1 r q
  |succ j=>exact i2 j (by simpa using h1) (by simpa using h2)
 | [],_::_,_,_,h,_,_=>h.elim
 |_::_,[],_,_,h,_,_=>h.elim
section
variable {X:Cx}{HJ:List (Addr×Obj)}{σ:St}{H:Hp}{s:Shared}
theorem wo(h:nJ x=true)(r:RelV x v)(q:RelV x u):SeqAt.EqAt A s v u true:=by
 cases x with
 |int i =>
  obtain⟨t,rfl⟩:=r;obtain⟨t2,rfl⟩:=q;have:=SeqAt.EqAt.int_int (A:=A) (s:=s) i t i t2;rwa [beq_self_eq_true] at this
 |str z =>
  obtain⟨t,rfl⟩:=r;obtain⟨t2,rfl⟩:=q;have:=SeqAt.EqAt.str_str (A:=A) (s:=s) z t z t2;rwa [beq_self_eq_true] at this
 |_=>cases h
theorem wp(I:Inv X HJ σ H s){A:Around}(hu:A.units+n<cLine)(hR:∀x y v u,cq H n x y->RelV x v->RelV y u->SeqAt.EqAt A.in1 s v u true)(h:H a=some (.tup xs)/\H b=some (.tup ys)∨H a=some (.lst xs)/\H b=some (.lst ys))(e:eJ (cq H n) xs ys):SeqAt.RcAt A s (.ref a) (.ref b) true:=by
 have all:∀n,(List.range n).all (λ_=>true)=true:=λn=>List.all_eq_true.mpr λ_ _=>rfl
 rcases h with ⟨h,h'⟩|⟨h,h'⟩
 ·obtain⟨its,rv,pl,_⟩:=I.tuple (ao.of h);obtain⟨Js,rv2,pl2,_⟩:=I.tuple (ao.of h');obtain⟨z,q⟩:=qF hR e rv rv2;have:=SeqAt.RcAt.tuples (A:=A) (e:=λ_=>true) pl pl2 (by lia) q;rw[all,Bool.true_and,Qp,Qp,z,beq_self_eq_true] at this;exact this
 obtain⟨its,rv,pl,_⟩:=I.list (am.of h);obtain⟨Js,rv2,pl2,_⟩:=I.list (am.of h');obtain⟨z,q⟩:=qF hR e rv rv2;have:=SeqAt.RcAt.lists (A:=A) (e:=λ_=>true) pl.isList pl2.isList (by simp[z]) (by lia) q;rw[all] at this;exact this
theorem wq(I:Inv X HJ σ H s):∀(n:Nat) {A:Around} {x y:V} {v u:Value},A.units+n<cLine->cq H n x y->RelV x v->RelV y u->SeqAt.EqAt A s v u true
 |0,A,x,y,v,u,hu,h,r,q=>by obtain⟨rfl,h⟩:=h;exact wo h r q
 |n+1,A,x,y,v,u,hu,h,r,q=>by
  rcases h with ⟨rfl,h⟩|⟨a,b,xs,ys,rfl,rfl,h,e⟩
  ·exact wo h r q
  cases (show v=Value.ref a from r);cases (show u=Value.ref b from q);by_cases hab:a=b
  ·rw[hab];exact SeqAt.EqAt.same _
  exact SeqAt.EqAt.of_refs hab (wp I (A:=A) (by lia) (λx y v u=>wq I n (A:=A.in1) (by show A.units+1+n<cLine;lia)) h e)
theorem wt(hu:X.A.units+64<cLine):bO X (compareOp .Eq) (λx y H Q=>∃(a b:Addr) (xs ys:List V),x=.ref a/\y=.ref b/\H a=some (.lst xs)/\H b=some (.lst ys)/\eJ (cq H 60) xs ys/\Q (.bl true) H):=by intro HJ s σ H x y v u Q I rx ry h;obtain⟨p,q,xs,ys,rfl,rfl,h1,h2,e,k⟩:=h;cases (show v=Value.ref p from rx);cases (show u=Value.ref q from ry);exact wp I (A:=X.A) (n:=60) (by lia) (λx y v u=>wq I 60 (A:=X.A.in1) (by show X.A.units+1+60<cLine;lia)) (.inr ⟨h1,h2⟩) e _ _ _ _ ⟨.bl true,H,I,rfl,k⟩
end
theorem eJ.tups:∀{xs ys:List V} {ks:List (List ae)},bA H xs ks->bA H ys ks->∀n,eJ (cq H (n+1)) xs ys
 | [],[],_,_,_,_=>trivial
 | [],_::_,_,h,h',_=>by have:=h.1;have:=h'.1;simp at *;lia
 |_::_,[],_,h,h',_=>by have:=h.1;have:=h'.1;simp at *;lia
 |x::xs,y::ys,[],h,_,_=>by have:=h.1;simp at this
 |x::xs,y::ys,k::ks,h,h',n=>by
  obtain⟨a,rfl,ha⟩:=h.2 0 x k rfl rfl;obtain⟨b,rfl,hb⟩:=h'.2 0 y k rfl rfl
  have ek:∀(d:List ae),eJ (cq H n) (d.map kV) (d.map kV):=λd=>by
   induction d with
   |nil=>trivial
   |cons k d ih=>exact⟨cq.at (by cases k<;>rfl) n,ih⟩
  exact⟨cq.tup ha hb (ek k),eJ.tups ⟨by simpa using h.1,λi x d h1 h2=>h.2 (i+1) x d h1 h2⟩ ⟨by simpa using h'.1,λi x d h1 h2=>h'.2 (i+1) x d h1 h2⟩ n⟩
def Et(H:Hp)(vs:List V):Ex->Prop
 |.num n=>vs=[.str "num",.int n]
 |.truth z=>vs=[.str "truth",.str z]
 |.name z=>vs=[.str "name",.str z]
 |.not e=>∃v,vs=[.str "not",v]/\aU H v e
 |.op w a b=>∃v u,vs=[.str w,v,u]/\aU H v a/\aU H u b
 |.of n e=>∃v,vs=[.str "of",.str n,v]/\aU H v e
 |.many w z es=>∃l us,vs=[.str w,.str z,.ref l]/\H l=some (.tup us)/\ExsAt H us es
theorem wu(h:aU H v e):∃t vs,v=.ref t/\H t=some (.tup vs)/\Et H vs e:=by
 cases h with
 |num h=>exact⟨_,_,rfl,h,rfl⟩
 |truth h=>exact⟨_,_,rfl,h,rfl⟩
 |name h=>exact⟨_,_,rfl,h,rfl⟩
 |not h a=>exact⟨_,_,rfl,h,_,rfl,a⟩
 |op h a b=>exact⟨_,_,rfl,h,_,_,rfl,a,b⟩
 |of h a=>exact⟨_,_,rfl,h,_,rfl,a⟩
 |many h l a=>exact⟨_,_,rfl,h,_,_,rfl,l,a⟩
theorem wv(h:ExsAt H vs (e::es)):∃v us,vs=v::us/\aU H v e/\ExsAt H us es:=by
 cases h with
 |cons a b=>exact⟨_,_,rfl,a,b⟩
theorem ww(h:ExsAt H vs []):vs=[]:=by cases h;rfl
mutual
theorem ki(e:Ex)(n:Nat)(z:2*e.deep<n)(h:aU H v e)(h':aU H u e):cq H n v u:=by
 obtain⟨n,rfl⟩:∃k,n=k+1:=⟨n-1,by omega⟩
 obtain⟨t,vs,rfl,ht,b⟩:=wu h;obtain⟨t',us,rfl,ht',b'⟩:=wu h';refine cq.tup ht ht' ?_
 match e,z,b,b' with
 |.num k,_,b,b'=>rw[show vs=_ from b,show us=_ from b'];exact⟨.at rfl _,.at rfl _,trivial⟩
 |.truth k,_,b,b'=>rw[show vs=_ from b,show us=_ from b'];exact⟨.at rfl _,.at rfl _,trivial⟩
 |.name k,_,b,b'=>rw[show vs=_ from b,show us=_ from b'];exact⟨.at rfl _,.at rfl _,trivial⟩
 |.not e,z,b,b' =>
  simp only[Ex.deep] at z;obtain⟨v,rfl,a⟩:=b;obtain⟨u,rfl,a'⟩:=b';exact⟨.at rfl _,ki e n (by omega) a a',trivial⟩
 |.of k e,z,b,b' =>
  simp only[Ex.deep] at z;obtain⟨v,rfl,a⟩:=b;obtain⟨u,rfl,a'⟩:=b';exact⟨.at rfl _,.at rfl _,ki e n (by omega) a a',trivial⟩
 |.op w x y,z,b,b' =>
  simp only[Ex.deep] at z;obtain⟨v,v2,rfl,a,b⟩:=b;obtain⟨u,u2,rfl,a',b'⟩:=b';exact⟨.at rfl _,ki x n (by omega) a a',ki y n (by omega) b b',trivial⟩
 |.many w k es,z,b,b' =>
  simp only[Ex.deep] at z;obtain⟨l,vs,rfl,l1,a⟩:=b;obtain⟨l',us,rfl,l2,a'⟩:=b'
  obtain⟨n,rfl⟩:∃k,n=k+1:=⟨n-1,by omega⟩
  exact⟨.at rfl _,.at rfl _,cq.tup l1 l2 (wx es n (by omega) a a'),trivial⟩
theorem wx(es:List Ex)(n:Nat)(z:2*g6 es<n)(h:ExsAt H vs es)(h':ExsAt H us es):eJ (cq H n) vs us:=by
 match es,z,h,h' with
 | [],_,h,h'=>rw[ww h,ww h'];trivial
 |e::es,z,h,h' =>
  simp only[g6] at z;obtain⟨v,vs,rfl,a,b⟩:=wv h;obtain⟨u,us,rfl,a',b'⟩:=wv h';exact⟨ki e n (by lia) a a',wx es n (by lia) b b'⟩
end
theorem wy:∀{ps:List (Str×Str)} {us vs:List Addr},us.length=ps.length->vs.length=ps.length->(∀(i:Nat) (u:Addr) (q:Str×Str),us[i]?=some u->ps[i]?=some q->H u=some (.tup [.str q.1,.str q.2]))->(∀(i:Nat) (u:Addr) (q:Str×Str),vs[i]?=some u->ps[i]?=some q->H u=some (.tup [.str q.1,.str q.2]))->∀n,eJ (cq H (n+1)) (us.map V.ref) (vs.map V.ref)
 | [],[],[],_,_,_,_,_=>trivial
 |q::ps,u::us,v::vs,h1,h2,a,b,n=>⟨cq.tup (a 0 u q rfl rfl) (b 0 v q rfl rfl) ⟨.at rfl _,.at rfl _,trivial⟩,wy (by simpa using h1) (by simpa using h2) (λi x y h g=>a (i+1) x y h g) (λi x y h g=>b (i+1) x y h g) n⟩
def wz(n:Nat):bw->Prop
 |.e x=>x.deep<8
 |.b ts=>ascs ts/\deeps ts<=n
 |_=>True
theorem Eu{t:Tr}(h:t.asc)(hd:t.deep<=n):∀p∈t.parts,wz n p:=by
 cases t<;>simp only[Tr.asc,Tr.deep,Tr.parts,Ex.fit] at h hd ⊢<;>intro p hp<;>simp only[List.mem_cons,List.not_mem_nil,or_false] at hp
 ·rcases hp with rfl|rfl|rfl|rfl<;>first|trivial|exact h.2
 ·rcases hp with rfl|rfl|rfl<;>first|trivial|exact h.2
 ·rcases hp with rfl|rfl|rfl|rfl|rfl<;>first|trivial|exact h.1.2|exact⟨h.2.1.2,by lia⟩|exact⟨h.2.2.2,by lia⟩
 ·rcases hp with rfl|rfl|rfl|rfl<;>first|trivial|exact h.1.2|exact⟨h.2.2,hd⟩
 ·rcases hp with rfl|rfl|rfl<;>first|trivial|exact h.2
 ·rcases hp with rfl|rfl|rfl|rfl|rfl|rfl<;>first|trivial|exact⟨h.2.2,hd⟩
 rcases hp with rfl|rfl|rfl|rfl<;>trivial
def Ew(H:Hp)(v:V):bw->Prop
 |.s z=>v=.str z
 |.i n=>v=.int (n:Int)
 |.e x=>aU H v x
 |.b ts=>∃l xs,v=.ref l/\H l=some (.lst xs)/\LAt H false xs ts
 |.p ps=>eS H v ps
theorem wA(h:PsAt H false vs (p::ps)):∃v us,vs=v::us/\Ew H v p/\PsAt H false us ps:=by
 cases h with
 |cons a b =>
  refine⟨_,_,rfl,?_,b⟩
  cases a with
  |s=>rfl
  |i=>rfl
  |e x=>exact x
  |b l x=>exact⟨_,_,rfl,l,x⟩
  |p x=>exact x
theorem wB(h:PsAt H false vs []):vs=[]:=by cases h;rfl
theorem wC{t:Tr}(h:LAt H false vs (t::ts)):∃a us ws,vs=.ref a::us/\H a=some (.tup ws)/\PsAt H false ws t.parts/\LAt H false us ts:=by
 cases h with
 |cons a b =>
  cases a with
  |shared e=>cases e
  |plain _ a=>cases a with|mk h p=>exact⟨_,_,_,rfl,h,p,b⟩
theorem nK(h:LAt H false vs []):vs=[]:=by cases h;rfl
theorem Ey(hm:16<=m)(ih:∀(ts:List Tr) (xs ys:List V),ascs ts->deeps ts<=n->LAt H false xs ts->LAt H false ys ts->eJ (cq H m) xs ys)(ps:List bw):∀{vs us:List V},(∀p∈ps,wz n p)->PsAt H false vs ps->PsAt H false us ps->eJ (cq H (m+1)) vs us:=by
 induction ps with
 |nil=>intro vs us _ h h';rw[wB h,wB h'];trivial
 |cons p ps ihp =>
  intro vs us hb h h';obtain⟨v,vs,rfl,a,b⟩:=wA h;obtain⟨u,us,rfl,a',b'⟩:=wA h';refine⟨?_,ihp (λq hq=>hb q (.tail _ hq)) b b'⟩;have hq:=hb p (.head _)
  cases p with
  |s z=>rw[show v=_ from a,show u=_ from a'];exact .at rfl _
  |i k=>rw[show v=_ from a,show u=_ from a'];exact .at rfl _
  |e x=>exact ki x _ (by have h:_<8:=hq;lia) a a'
  |b ts =>
   obtain⟨l,xs,rfl,l1,x⟩:=a;obtain⟨l',ys,rfl,l2,x'⟩:=a';exact .inr ⟨_,_,_,_,rfl,rfl,.inr ⟨l1,l2⟩,ih _ _ _ hq.1 hq.2 x x'⟩
  |p ps =>
   obtain⟨t,us,rfl,h1,h2,h3⟩:=a;obtain⟨t',us',rfl,g1,g2,g3⟩:=a'
   obtain⟨m,rfl⟩:∃k,m=k+1:=⟨m-1,by lia⟩
   exact cq.tup h1 g1 (wy h2 g2 h3 g3 m)
theorem Ez(n:Nat):∀(ts:List Tr) (xs ys:List V),ascs ts->deeps ts<=n->LAt H false xs ts->LAt H false ys ts->eJ (cq H (2*n+16)) xs ys:=by
 induction n with
 |zero =>
  intro ts xs ys _ hd h h'
  cases ts with
  |nil=>rw[nK h,nK h'];trivial
  |cons t ts=>rw[deeps] at hd;lia
 |succ n ih =>
  intro ts
  induction ts with
  |nil=>intro xs ys _ _ h h';rw[nK h,nK h'];trivial
  |cons t ts iht =>
   intro xs ys ha hd h h';rw[deeps] at hd;obtain⟨a,xs,ws,rfl,h1,p,b⟩:=wC h;obtain⟨a',ys,ws',rfl,h1',p',b'⟩:=wC h';exact⟨cq.tup h1 h1' (Ey (by lia) ih _ (Eu ha.1 (by lia)) p p'),iht xs ys ha.2.2 (by lia) b b'⟩
end L2
namespace K46
open PySem L2 Mm
noncomputable def bn(i:Nat):Stmt:=PySem.Challenge.pw_manymakes_k46_kinds_by_bodies.main.body.getD i (.Pass ⟨0,0,0,0⟩)
noncomputable abbrev qG:Stmt:=bn 1
noncomputable abbrev qH:Stmt:=bn 2
noncomputable abbrev qI:Stmt:=bn 3
noncomputable abbrev nM:Stmt:=bn 4
noncomputable abbrev qJ:Stmt:=bn 5
noncomputable abbrev nN:Stmt:=bn 6
noncomputable abbrev nO:Stmt:=bn 8
noncomputable abbrev nP:Stmt:=bn 9
noncomputable abbrev qK:Stmt:=bn 10
noncomputable abbrev nQ:Stmt:=bn 11
noncomputable abbrev nR:Stmt:=bn 12
noncomputable abbrev nS:Stmt:=bn 13
noncomputable abbrev qL:Stmt:=bn 16
noncomputable abbrev qM:Stmt:=bn 17
noncomputable abbrev qN:Stmt:=bn 18
noncomputable abbrev qO:Stmt:=bn 19
noncomputable abbrev nT:Stmt:=bn 24
noncomputable abbrev qP:Stmt:=bn 25
noncomputable abbrev qQ:Stmt:=bn 26
noncomputable abbrev qR:Stmt:=bn 27
noncomputable abbrev nU:Stmt:=bn 28
noncomputable abbrev qS:Stmt:=bn 30
noncomputable abbrev qT:Stmt:=bn 31
noncomputable abbrev nV:Stmt:=bn 32
noncomputable abbrev qU:Stmt:=bn 33
noncomputable abbrev kj:Stmt:=bn 34
noncomputable abbrev nW:Stmt:=bn 35
noncomputable abbrev qV:Stmt:=bn 36
noncomputable abbrev qW:Stmt:=bn 37
noncomputable abbrev qX:Stmt:=bn 38
noncomputable abbrev nX:Stmt:=bn 39
noncomputable abbrev qY:Stmt:=bn 40
noncomputable abbrev qZ:Stmt:=gr (bn 23) 0
noncomputable abbrev rc:Stmt:=gr (bn 23) 1
noncomputable abbrev re:Stmt:=gr (bn 23) 2
noncomputable abbrev nY:Stmt:=gr (bn 23) 3
noncomputable abbrev nZ:Stmt:=gr (bn 23) 4
noncomputable abbrev rf:Stmt:=gr (bn 23) 5
noncomputable abbrev rh:Stmt:=gr (bn 23) 6
noncomputable abbrev lO:Stmt:=gr (bn 23) 7
noncomputable abbrev ri:Stmt:=gr (bn 23) 8
noncomputable abbrev n0:Stmt:=gr (bn 23) 9
noncomputable abbrev rm:Stmt:=bn 41
structure rn where
 ZR:Addr
 ZL:Addr
 ZO:Addr
 Zs:Addr
 ZP:Addr
 Zt:Addr
 Zv:Addr
 Zj:Addr
 Zk:Addr
 Zw:Addr
 Zh:Addr
 Zx:Addr
 Zu:Addr
 ZG:Addr
 ZM:Addr
 ZH:Addr
 ZS:Addr
 Zy:Addr
 ZQ:Addr
 Zn:Addr
 Zq:Addr
 Zr:Addr
 ZA:Addr
 ZB:Addr
 ZI:Addr
 ZC:Addr
 ZJ:Addr
 ZN:Addr
 ZD:Addr
 ZK:Addr
 ZE:Addr
 ZF:Addr
 Zl:Addr
 Zm:Addr
 Zb:Addr
 Zd:Addr
 Ze:Addr
 Zf:Addr
 Zp:Addr
 Zg:Addr
 Zc:Addr
 Za:Addr
 c_KindLook:Addr
 d_MAKES:Addr
 d_ASKS:Addr
 q_PLAIN_KINDS:Addr
structure ro where
 ZR:FuncData
 ZL:FuncData
 ZO:FuncData
 Zs:FuncData
 ZP:FuncData
 Zt:FuncData
 Zv:FuncData
 Zj:FuncData
 Zk:FuncData
 Zw:FuncData
 Zh:FuncData
 Zx:FuncData
 Zu:FuncData
 ZG:FuncData
 ZM:FuncData
 ZH:FuncData
 ZS:FuncData
 Zy:FuncData
 ZQ:FuncData
 Zn:FuncData
 Zq:FuncData
 Zr:FuncData
 ZA:FuncData
 ZB:FuncData
 ZI:FuncData
 ZC:FuncData
 ZJ:FuncData
 ZN:FuncData
 ZD:FuncData
 ZK:FuncData
 ZE:FuncData
 ZF:FuncData
 Zl:FuncData
 Zm:FuncData
 Zb:FuncData
 Zd:FuncData
 Ze:FuncData
 Zf:FuncData
 Zp:FuncData
 Zg:FuncData
 Zc:FuncData
 Za:FuncData
structure FB(K:W.Frag)(n q:Str)(st:Stmt)(ps:List Str)(f:Addr)(fd:FuncData):Prop where
 k:W.keepIn K (.ref f)=true
 F:lg K n q st f fd
 b:Binds K fd ps []
structure FZ(K:W.Frag)(mg:Str->Option Value)(n q:Str)(st:Stmt)(ps:List Str)(f:Addr)(fd:FuncData):Prop extends FB K n q st ps f fd where
 m:mg n=some (.ref f)
theorem aO{X:Cx}{k:Nat}{t:TA}(F:aE X.prog X.w X.K X.mg X.base aG k f fd ps sp)(hr:aB k X.A)(hg:Gl X x)(z:FZ X.K X.mg x q st ps f fd)(ha:PA X (e::es) t)(hdb:(x==("__debug__":Str))=false:=by decide)(he:starEach (e::es) X.env=(false,eval e X.env)::starEach es X.env:=by rfl)(ID:(backTo pos (starEach es X.env)).any (·.1)=false:=by rfl) :
  PE X (.Call (.Name x p) (e::es) [] pos) (tN sp [] E0 t):=AT F hr hg z.m z.k z.b .nil cD ha hdb he ID
structure All(P:Program)(w:World)(K:W.Frag)(mg:Str->Option Value)(A:rn)(D:ro):Prop where
 z_ZR:FZ K mg "least" "least" qG ["mask"] A.ZR D.ZR
 z_ZL:FZ K mg "without" "without" qH Yz A.ZL D.ZL
 z_ZO:FZ K mg "all_of" "all_of" qI ["pairs"] A.ZO D.ZO
 z_Zs:FZ K mg "kept_pairs" "kept_pairs" nM YA A.Zs D.Zs
 z_ZP:FZ K mg "add_to" "add_to" qJ Yu A.ZP D.ZP
 z_Zt:FZ K mg "with_masks" "with_masks" nN ["found"] A.Zt D.Zt
 z_Zv:FZ K mg "kept_tree" "kept_tree" nO Ym A.Zv D.Zv
 z_Zj:FZ K mg "kept_statement" "kept_statement" nP Yy A.Zj D.Zj
 z_Zk:FZ K mg "row_and_least" "row_and_least" qK ["pair"] A.Zk D.Zk
 z_Zw:FZ K mg "shared_of" "shared_of" nQ ["tree"] A.Zw D.Zw
 z_Zh:FZ K mg "shared_statement" "shared_statement" nR ["one"] A.Zh D.Zh
 z_Zx:FZ K mg "blocks_of" "blocks_of" nS ["one"] A.Zx D.Zx
 z_Zu:FZ K mg "first_rows" "first_rows" qL ["tree"] A.Zu D.Zu
 z_ZG:FZ K mg "pairs_of" "pairs_of" qM ["one"] A.ZG D.ZG
 z_ZM:FZ K mg "expr_of" "expr_of" qN ["one"] A.ZM D.ZM
 z_ZH:FZ K mg "exprs_in" "exprs_in" qO ["e"] A.ZH D.ZH
 z_ZS:FZ K mg "unfit" "unfit" nT YD A.ZS D.ZS
 z_Zy:FZ K mg "is_record" "is_record" qP ["kind"] A.Zy D.Zy
 z_ZQ:FZ K mg "giving" "giving" qQ ["body"] A.ZQ D.ZQ
 z_Zn:FZ K mg "shared_kinds" "shared_kinds" qR Ym A.Zn D.Zn
 z_Zq:FZ K mg "plain_kinds" "plain_kinds" nU ["tree"] A.Zq D.Zq
 z_Zr:FZ K mg "_law_cell_at" "_law_cell_at" qS Ys A.Zr D.Zr
 z_ZA:FZ K mg "_law_mixed" "_law_mixed" qT Yx A.ZA D.ZA
 z_ZB:FZ K mg "_law_names" "_law_names" nV ["_law_number"] A.ZB D.ZB
 z_ZI:FZ K mg "_law_expr" "_law_expr" qU Yb A.ZI D.ZI
 z_ZC:FZ K mg "_law_parts" "_law_parts" kj Yl A.ZC D.ZC
 z_ZJ:FZ K mg "_law_kind" "_law_kind" nW Yc A.ZJ D.ZJ
 z_ZN:FZ K mg "_law_row" "_law_row" qV Yg A.ZN D.ZN
 z_ZD:FZ K mg "_law_noted" "_law_noted" qW Ye A.ZD D.ZD
 z_ZK:FZ K mg "_law_fill" "_law_fill" qX Yd A.ZK D.ZK
 z_ZE:FZ K mg "_law_heads" "_law_heads" nX Yr A.ZE D.ZE
 z_ZF:FZ K mg "_law_built" "_law_built" qY Yp A.ZF D.ZF
 M_KindLook:Mk K A.c_KindLook A.Zl
 z_Zl:FB K "__init__" "KindLook.__init__" qZ YE A.Zl D.Zl
 M_Zm:fZ K A.c_KindLook "note" A.Zm
 z_Zm:FB K "note" "KindLook.note" rc Yq A.Zm D.Zm
 M_Zb:fZ K A.c_KindLook "look_body" A.Zb
 z_Zb:FB K "look_body" "KindLook.look_body" re Yh A.Zb D.Zb
 M_Zd:fZ K A.c_KindLook "look_def" A.Zd
 z_Zd:FB K "look_def" "KindLook.look_def" nY Yv A.Zd D.Zd
 M_Ze:fZ K A.c_KindLook "look_row" A.Ze
 z_Ze:FB K "look_row" "KindLook.look_row" nZ Yn A.Ze D.Ze
 M_Zf:fZ K A.c_KindLook "look_set" A.Zf
 z_Zf:FB K "look_set" "KindLook.look_set" rf Yt A.Zf D.Zf
 M_Zp:fZ K A.c_KindLook "ask" A.Zp
 z_Zp:FB K "ask" "KindLook.ask" rh Yi A.Zp D.Zp
 M_Zg:fZ K A.c_KindLook "kinds_of" A.Zg
 z_Zg:FB K "kinds_of" "KindLook.kinds_of" lO Yj A.Zg D.Zg
 M_Zc:fZ K A.c_KindLook "used_rows" A.Zc
 z_Zc:FB K "used_rows" "KindLook.used_rows" ri Yk A.Zc D.Zc
 M_Za:fZ K A.c_KindLook "field_kinds" A.Za
 z_Za:FB K "field_kinds" "KindLook.field_kinds" n0 Yo A.Za D.Za
 m_KindLook:mg "KindLook"=some (.ref A.c_KindLook)
 cl_KindLook:gq K A.c_KindLook
 na_KindLook_faults:iw K A.c_KindLook "faults"
 na_KindLook_firsts:iw K A.c_KindLook "firsts"
 ty_KindLook:∀(H:Hp) (a dx:Addr) (fs:List (Str×V)),H a=some (.ins A.c_KindLook dx fs)->dE K H (.ref a) (.ref A.c_KindLook)
 is_KindLook:W.kitOne K (.ref A.c_KindLook) (.ref A.c_KindLook)=some true
 m_MAKES:mg "MAKES"=some (.ref A.d_MAKES)
 D_MAKES:jf P w K A.d_MAKES [("num","num"),("truth","truth"),("+","num"),("-","num"),("*","num"),("less","truth"),("same","truth"),("and","truth"),("or","truth"),("not","truth")]
 m_ASKS:mg "ASKS"=some (.ref A.d_ASKS)
 D_ASKS:jf P w K A.d_ASKS [("+","num"),("-","num"),("*","num"),("less","num"),("same","num"),("and","truth"),("or","truth"),("not","truth")]
 m_PLAIN_KINDS:mg "PLAIN_KINDS"=some (.ref A.q_PLAIN_KINDS)
 Q_PLAIN_KINDS:∀H,ao K H A.q_PLAIN_KINDS [.str "num",.str "truth"]
 n_len:mg "len"=none
 n_range:mg "range"=none
 n_list:mg "list"=none
 n_dict:mg "dict"=none
 n_tuple:mg "tuple"=none
 n_sorted:mg "sorted"=none
 n_isinstance:mg "isinstance"=none
 n_zip:mg "zip"=none
 n_set:mg "set"=none
theorem aj(h:H p=none):Same H (ag H p o):=λb u e=>by rw[ay (eQ e h)];exact e
noncomputable def dm(fs:List (List ae)):List (List ae):=(cW fs).map λi=>fs.getD i []
theorem wD{fs:List (List ae)}:∀i∈cW fs,i<fs.length:=by
 unfold cW;split
 ·intro i hi;simpa using hi
 intro i hi;exact vq (dR fs) (by omega) i hi
theorem wE{fs:List (List ae)}(h:bA H xs fs):bA H (b7 fs xs) (dm fs):=by
 refine⟨by simp[b7,dm],λj x d hx hd=>?_⟩;unfold b7 at hx;unfold dm at hd;rw[Qr] at hx hd;obtain⟨i,hi,rfl⟩:=Option.map_eq_some_iff.mp hx;rw[hi] at hd;have hd:fs.getD i []=d:=by simpa using hd
 have HS:=wD i (Qq hi);have hlx:i<xs.length:=by rw[h.1];exact HS
 refine h.2 i _ d ?_ ?_
 ·rw[Qb hlx,Qd,Qb hlx];rfl
 rw[<-hd,Qb HS,Qd,Qb HS];rfl
section
variable {P:Program}{w:World}{K:W.Frag}{mg:Str->Option Value}{base:Heap}{AA:rn}{DD:ro}
theorem dy(h:PsAt H sh vs (p::ps)):∃v r,vs=v::r/\PAt H sh v p/\PsAt H sh r ps:=by cases h with|cons a b=>exact⟨_,_,rfl,a,b⟩
theorem lP(h:PsAt H sh vs []):vs=[]:=by cases h;rfl
theorem jl(h:PAt H sh v (.s z)):v=.str z:=by cases h;rfl
theorem EA(h:PAt H sh v (.i n)):v=.int ((n:Nat):Int):=by cases h;rfl
theorem n8(h:PAt H sh v (.e x)):aU H v x:=by cases h with|e a=>exact a
theorem og(h:PAt H sh v (.b ts)):∃l xs,v=.ref l/\H l=some (.lst xs)/\LAt H sh xs ts:=by cases h with|b l a=>exact⟨_,_,rfl,l,a⟩
theorem wF(h:PAt H sh v (.p ps)):eS H v ps:=by cases h with|p a=>exact a
theorem jm{t:Tr}(h:bx H sh v t):∃a vs,v=.ref a/\H a=some (.tup vs)/\PsAt H sh vs t.parts:=by cases h with|mk a b=>exact⟨_,_,rfl,a,b⟩
theorem fh(h:PsAt H sh vs (.s z::.i n::ps)):∃r,vs=.str z::.int ((n:Nat):Int)::r/\PsAt H sh r ps:=by obtain⟨a,r,e,h1,h⟩:=dy h;obtain⟨b,r',e',h2,h⟩:=dy h;exact⟨r',by rw[e,e',jl h1,EA h2],h⟩
theorem oh(h:PsAt H sh vs [.e x]):∃v,vs=[v]/\aU H v x:=by obtain⟨a,r,e,h1,h⟩:=dy h;exact⟨a,by rw[e,lP h],n8 h1⟩
theorem wG(h:bx H sh v (.set r z e)):∃t ve,v=.ref t/\H t=some (.tup [.str "set",.int ((r:Nat):Int),.str z,ve])/\aU H ve e:=by obtain⟨t,vs,e1,ht,h⟩:=jm h;obtain⟨q,e2,h⟩:=fh h;obtain⟨a,q',e3,h1,h⟩:=dy h;obtain⟨ve,e4,hx⟩:=oh h;exact⟨t,ve,e1,by rw[ht,e2,e3,jl h1,e4],hx⟩
theorem EB(h:bx H sh v (.tell r e)):∃t ve,v=.ref t/\H t=some (.tup [.str "tell",.int ((r:Nat):Int),ve])/\aU H ve e:=by obtain⟨t,vs,e1,ht,h⟩:=jm h;obtain⟨q,e2,h⟩:=fh h;obtain⟨ve,e4,hx⟩:=oh h;exact⟨t,ve,e1,by rw[ht,e2,e4],hx⟩
theorem EC(h:bx H sh v (.give r e)):∃t ve,v=.ref t/\H t=some (.tup [.str "give",.int ((r:Nat):Int),ve])/\aU H ve e:=by obtain⟨t,vs,e1,ht,h⟩:=jm h;obtain⟨q,e2,h⟩:=fh h;obtain⟨ve,e4,hx⟩:=oh h;exact⟨t,ve,e1,by rw[ht,e2,e4],hx⟩
theorem ED(h:bx H sh v (.iff r e b o)):∃t ve lb xb lo xo,v=.ref t/\H t=some (.tup [.str "if",.int ((r:Nat):Int),ve,.ref lb,.ref lo])/\aU H ve e/\H lb=some (.lst xb)/\LAt H sh xb b/\H lo=some (.lst xo)/\LAt H sh xo o:=by obtain⟨t,vs,e1,ht,h⟩:=jm h;obtain⟨q,e2,h⟩:=fh h;obtain⟨ve,q',e3,h1,h⟩:=dy h;obtain⟨vb,q2,e4,h2,h⟩:=dy h;obtain⟨vo,q3,e5,h3,h⟩:=dy h;obtain⟨lb,xb,f1,f2,f3⟩:=og h2;obtain⟨lo,xo,g1,g2,g3⟩:=og h3;exact⟨t,ve,lb,xb,lo,xo,e1,by rw[ht,e2,e3,e4,e5,lP h,f1,g1],n8 h1,f2,f3,g2,g3⟩
theorem EE(h:bx H sh v (.whl r e b)):∃t ve lb xb,v=.ref t/\H t=some (.tup [.str "while",.int ((r:Nat):Int),ve,.ref lb])/\aU H ve e/\H lb=some (.lst xb)/\LAt H sh xb b:=by obtain⟨t,vs,e1,ht,h⟩:=jm h;obtain⟨q,e2,h⟩:=fh h;obtain⟨ve,q',e3,h1,h⟩:=dy h;obtain⟨vb,q2,e4,h2,h⟩:=dy h;obtain⟨lb,xb,f1,f2,f3⟩:=og h2;exact⟨t,ve,lb,xb,e1,by rw[ht,e2,e3,e4,lP h,f1],n8 h1,f2,f3⟩
theorem wH{n k:Str}(h:bx H sh v (.df r n k ps b)):∃t vp lb xb,v=.ref t/\H t=some (.tup [.str "def",.int ((r:Nat):Int),.str n,.str k,vp,.ref lb])/\eS H vp ps/\H lb=some (.lst xb)/\LAt H sh xb b:=by obtain⟨t,vs,e1,ht,h⟩:=jm h;obtain⟨q,e2,h⟩:=fh h;obtain⟨a,q1,e3,h1,h⟩:=dy h;obtain⟨c,q2,e4,h2,h⟩:=dy h;obtain⟨vp,q3,e5,h3,h⟩:=dy h;obtain⟨vb,q4,e6,h4,h⟩:=dy h;obtain⟨lb,xb,f1,f2,f3⟩:=og h4;exact⟨t,vp,lb,xb,e1,by rw[ht,e2,e3,e4,e5,e6,lP h,f1,jl h1,jl h2],wF h3,f2,f3⟩
theorem rp(h:bx H sh v (.kd r n ps)):∃t vp,v=.ref t/\H t=some (.tup [.str "kind",.int ((r:Nat):Int),.str n,vp])/\eS H vp ps:=by obtain⟨t,vs,e1,ht,h⟩:=jm h;obtain⟨q,e2,h⟩:=fh h;obtain⟨a,q1,e3,h1,h⟩:=dy h;obtain⟨vp,q3,e5,h3,h⟩:=dy h;exact⟨t,vp,e1,by rw[ht,e2,e3,e5,lP h,jl h1],wF h3⟩
theorem bC(h:n<1000):n<sizeLine:=by rw[sizeLine_eq];lia
inductive km (k:Nat) (vs:List V) (H:Hp) (Q:VK) (E:XK):Prop
 |mk:∀(l:Addr) (xs:List V) (ts:List Tr),vs=[.ref l]->H l=some (.lst xs)->LAt H false xs ts->deeps ts<k->ts.length<=40->ascs ts->(∀p ys H',Same H H'->H' p=some (.lst ys)->LAt H' true ys ts->Q (.ref p) H')->km k vs H Q E
inductive rq (k:Nat) (vs:List V) (H:Hp) (Q:VK) (E:XK):Prop
 |mk:∀(v:V) (t:Tr),vs=[v]->bx H false v t->t.deep<k->t.asc->(∀v' H',Same H H'->bx H' true v' t->Q v' H')->rq k vs H Q E
noncomputable abbrev wI:List Str:=["one"]
theorem wJ:bf wI ["one"] (aJ nR):=by decide +kernel
theorem EF(T:All P w K mg AA DD)(k:Nat)(GF:aE P w K mg base aG (2*k+1) AA.Zw DD.Zw ["tree"] (km k)):aE P w K mg base aG (2*k+2) AA.Zh DD.Zh ["one"] (rq k):=by
 refine T.z_Zh.F.ok wJ (λvs H Q E h=>by cases h;subst_vars;rfl) λHQ A outer s H vs Q E hr h=>?_;obtain⟨v,t,rfl,hS,hd,ha,kq⟩:=h;have nd:=wJ.nd;have KD:aB (2*k+1) _:=hr;refine⟨_,(ap (aN (ix vO rfl T.n_tuple p5 (aa (gu (aJ nR) wI [] [] rfl (by decide +kernel) rfl rfl (kc (pv 0)) (λ_ _ _ _=>fG) (λ_ _ _ _=>(kT (mC (dO (ny (K:=K) (n:="list") rfl) rfl T.n_isinstance mS (aa (pv 0) (aa (mB (v:=.ty "list") rfl T.n_list lh rfl) af)))) (aO GF KD rfl T.z_Zw (aa (pv 0) af)) (pv 0)))) af)))),?_⟩
 cases hS with
 | @mk t0 xs _ ht IL =>
 refine⟨_,rfl,t0,rfl,⟨_,ao.of ht⟩,?_⟩;have ID:=t.parts_len;have K7:=IL.length;refine mV (K:=K0) (a:=t0) (xs:=xs) (λi ys H'=>Same H H'/\i<=xs.length/\PsAt H' true ys (t.parts.take i)) ⟨Same.refl _,Qy _,by simpa using PsAt.nil⟩ (λi ys H' _ h=>ao.of (h.1 _ _ ht)) ?_ ?_
 ·rintro i x ys H1 hx ⟨sm,hi,HY⟩;obtain⟨p,hp,hP⟩:=IL.get hx;have hP1:=hP.kept sm.ls;have hilt:=(Qc hx).1;have IG:=HY.length;rw[QH] at IG;have Il:i<t.parts.length:=by lia
  have JF:t.parts.take (i+1)=t.parts.take i++[p]:=by rw[Qo Il];rw[Qb Il] at hp;rw[Qs hp]
  refine fF ?_;rw[if_pos rfl]
  rcases hP1.isL (K:=K) with ⟨bs,l,zs,e1,e2,hl,hL,ty,kb⟩|⟨nb,ty0,ty,kb⟩
  ·subst e1 e2;have hm:bw.b bs∈t.parts:=Qq hp;refine⟨_,rfl,_,_,true,rfl,ty,kb,_,rfl,gR ?_⟩;refine⟨_,rfl,l,zs,bs,rfl,hl,hL,QE (nr hm) hd,(lG ha hm).1,(lG ha hm).2,λq us H2 s2 hq hL2=>?_⟩;refine⟨bC (by lia),sm.trans s2,by lia,?_⟩;rw[JF];exact(HY.kept s2.ls).snoc (.b hq hL2)
  refine⟨_,rfl,_,_,false,rfl,ty,kb,_,rfl,eD ?_⟩;refine⟨_,rfl,bC (by lia),sm,by lia,?_⟩;rw[JF];exact HY.snoc (hP1.other nb)
 rintro ys H1 ⟨sm,hi,HY⟩ p hp;have s1:=aj (o:=.lst ys) hp;refine⟨p,ys,rfl,.inl ⟨am.of ah,λl hl=>?_⟩⟩;have s2:=aj (o:=.tup ys) hl;refine kq _ _ ((sm.trans s1).trans s2) (.mk ah ?_);rw[QC (by lia)] at HY;exact HY.kept (s1.trans s2).ls
noncomputable abbrev wK:List Str:=["tree"]
theorem rA:bf wK ["tree"] (aJ nQ):=by decide +kernel
theorem EG(T:All P w K mg AA DD)(k:Nat)(GS:aE P w K mg base aG (2*k+2) AA.Zh DD.Zh ["one"] (rq k)):aE P w K mg base aG (2*(k+1)+1) AA.Zw DD.Zw ["tree"] (km (k+1)):=by
 refine T.z_Zw.F.ok rA (λvs H Q E h=>by cases h;subst_vars;rfl) λHQ A outer s H vs Q E hr h=>?_;obtain⟨l,xs,ts,rfl,hl,hL,hd,h20,ha,kq⟩:=h;have nd:=rA.nd;have hrS:aB (2*k+2) _:=hr;refine⟨_,(ap (aN (gu (aJ nQ) wK [] [] rfl (by decide +kernel) rfl rfl (cG (pv 0)) (λ_ _ _ _=>fG) (λ_ _ _ _=>(aR (aa ar (aa (aO GS hrS rfl T.z_Zh (aa (pv 0) af)) af))))))),?_⟩;refine⟨_,rfl,l,rfl,⟨_,am.of hl⟩,?_⟩;have K7:=hL.length;refine jO (K:=K0) (a:=l) (xs:=xs) (λi ys H'=>Same H H'/\i<=xs.length/\LAt H' true ys (ts.take i)) ⟨Same.refl _,Qy _,by simpa using LAt.nil⟩ (λi ys H' _ h=>am.of (h.1 _ _ hl)) ?_ ?_
 ·rintro i x ys H1 hx ⟨sm,hi,HY⟩;obtain⟨t,ht,hO⟩:=hL.get hx;have hilt:=(Qc hx).1;have IG:=HY.length;rw[QH] at IG;have Il:i<ts.length:=by lia
  have JF:ts.take (i+1)=ts.take i++[t]:=by rw[Qo Il];rw[Qb Il] at ht;rw[Qs ht]
  have hm:t∈ts:=Qq ht
  have hS:bx H1 false x t:=by
   cases hO with
   |plain _ a=>exact a.kept sm.ls
   |shared e _ _=>cases e
  refine fF ?_;rw[if_pos rfl];refine⟨_,rfl,x,t,rfl,hS,by have:=nv hm;lia,nw ha hm,λv' H2 s2 IE=>?_⟩;refine⟨bg,λq hq=>?_⟩;have s3:=aj (o:=.tup [.int 1,v']) hq;refine⟨bC (by lia),(sm.trans s2).trans s3,by lia,?_⟩;rw[JF];exact(HY.kept (s2.trans s3).ls).snoc (.shared rfl ah (IE.kept s3.ls))
 rintro ys H1 ⟨sm,hi,HY⟩ p hp;have s1:=aj (o:=.lst ys) hp;rw[QC (by lia)] at HY;exact kq p ys _ (sm.trans s1) ah (HY.kept s1.ls)
theorem EH(T:All P w K mg AA DD):aE P w K mg base aG 1 AA.Zw DD.Zw ["tree"] (km 0):=by
 have no:∀vs H Q E,¬km 0 vs H Q E:=λvs H Q E h=>by cases h;lia
 exact T.z_Zw.F.ok rA (λvs H Q E h=>(no _ _ _ _ h).elim) (λHQ A outer s H vs Q E hr h=>(no _ _ _ _ h).elim)
theorem wL(T:All P w K mg AA DD):∀k:Nat,aE P w K mg base aG (2*k+1) AA.Zw DD.Zw ["tree"] (km k)
 |0=>EH T
 |k+1=>EG T k (EF T k (wL T k))
theorem cQ{w z:Str}{a b:Prop}(h:w≠z)(k:b):if decide (V.str w=V.str z)=true then a else b:=by rw[Qk λq=>h (by injection q)];exact k
theorem dW{v:V}{a b:Prop}(k:a):if decide (v=v)=true then a else b:=by rw[Qn rfl];exact k
theorem bh{c:Bool}{a b:Prop}(h:c=false)(k:b):if c=true then a else b:=by rw[h];exact k
theorem bS{c:Bool}{a b:Prop}(h:c=true)(k:a):if c=true then a else b:=by rw[h];exact k
def EI:Sp:=λvs H Q _=>vs=[.int 1]/\Q (.int 0) H
theorem EJ:Builtin.bitXor (1:Int) (1-1)=1:=by decide +kernel
noncomputable abbrev EK:List Str:=["mask"]
theorem wM:bf EK ["mask"] (aJ qG):=by decide +kernel
theorem EL(T:All P w K mg AA DD):aE P w K mg base aG 1 AA.ZR DD.ZR ["mask"] EI:=by
 refine T.z_ZR.F.ok wM (λvs H Q E h=>by cases h;subst_vars;rfl) λHQ A outer s H vs Q E hr h=>?_;obtain⟨rfl,k⟩:=h;have nd:=wM.nd;refine⟨_,(aq (aV (aH bi (pv 0) ar (aI _)) (ap (aN gm)) be) (ap (aN (aD jH (Bg PySem.F.plainAttrs_int PySem.F.slot_int_bit_length PySem.F.type_int_bit_length Bx (aD tz (pv 0) (aD jH (pv 0) ar))) ar)))),?_⟩;refine⟨_,rfl,rfl,_,rfl,eD ?_⟩;refine⟨_,rfl,_,rfl,_,_,rfl,rfl,_,_,rfl,rfl,rfl,_,rfl,rfl,_,_,rfl,rfl,?_⟩;rw[EJ];exact k
noncomputable def iO(t:Tr):List ae:=[.inl ((t.row:Nat):Int),.inl 0]
inductive wN (vs:List V) (H:Hp) (Q:VK) (E:XK):Prop
 |mk:∀(v:V) (t:Tr),vs=[v]->OAt H true v t->(∀q H',Same H H'->H' q=some (.tup ((iO t).map kV))->Q (.ref q) H')->wN vs H Q E
theorem EM{t:Tr}(h:PsAt H sh vs t.parts):∃(a:V) (r:List V),vs=a::.int ((t.row:Nat):Int)::r:=by
 have g:∃a ps,t.parts=.s a::.i t.row::ps:=by cases t<;>exact⟨_,_,rfl⟩
 obtain⟨a,ps,e⟩:=g;rw[e] at h;obtain⟨r,e2,_⟩:=fh h;exact⟨_,r,e2⟩
noncomputable abbrev EN:List Str:=["pair"]
theorem wO:bf EN ["pair"] (aJ qK):=by decide +kernel
theorem EO(T:All P w K mg AA DD):aE P w K mg base aG 2 AA.Zk DD.Zk ["pair"] wN:=by
 have GL:=EL (base:=base) T;refine T.z_Zk.F.ok wO (λvs H Q E h=>by cases h;subst_vars;rfl) λHQ A outer s H vs Q E hr h=>?_;obtain⟨v,t,rfl,hO,k⟩:=h;have nd:=wO.nd;have HX:aB 1 _:=hr;refine⟨_,(ap (aN (aR (aa (av (av (pv 0))) (aa (aO GL HX rfl T.z_ZR (aa (av (pv 0)) af)) af))))),?_⟩
 cases hO with
 |plain e _=>cases e
 | @shared p x _ _ hp hS =>
 cases hS with
 | @mk t0 vs _ ht IL =>
 obtain⟨a,r,rfl⟩:=EM IL;refine⟨_,rfl,p,_,_,_,rfl,rfl,ao.of hp,rfl,?_⟩;refine⟨t0,_,_,_,rfl,rfl,ao.of ht,aY (j:=1) rfl,?_⟩;refine⟨_,rfl,p,_,_,_,rfl,rfl,ao.of hp,rfl,?_⟩;refine⟨rfl,bg,λq hq=>?_⟩;exact k q _ (aj hq) ah
inductive ku (k:Nat) (vs:List V) (H:Hp) (Q:VK) (E:XK):Prop
 |mk:∀(l:Addr) (xs:List V) (ts:List Tr),vs=[.ref l,.int 1]->H l=some (.lst xs)->LAt H true xs ts->deeps ts<k->ts.length<=40->ascs ts->(∀p ys H',Same H H'->H' p=some (.lst ys)->LAt H' true ys ts->Q (.ref p) H')->ku k vs H Q E
inductive rB (k:Nat) (vs:List V) (H:Hp) (Q:VK) (E:XK):Prop
 |mk:∀(v:V) (t:Tr),vs=[v,.int 1]->bx H true v t->t.deep<k->t.asc->(∀v' H',Same H H'->bx H' true v' t->Q v' H')->rB k vs H Q E
noncomputable abbrev wP:List Str:=Yy
theorem wR:bf wP Yy (aJ nP):=by decide +kernel
theorem EQ(T:All P w K mg AA DD)(k:Nat)(GF:aE P w K mg base aG (2*k+5) AA.Zv DD.Zv Ym (ku k)):aE P w K mg base aG (2*k+6) AA.Zj DD.Zj Yy (rB k):=by
 refine T.z_Zj.F.ok wR (λvs H Q E h=>by cases h;subst_vars;rfl) λHQ A outer s H vs Q E hr h=>?_;obtain⟨v,t,rfl,hS,hd,ha,kq⟩:=h;have nd:=wR.nd;have KD:aB (2*k+5) _:=hr;refine⟨_,(ap (aN (ix vO rfl T.n_tuple p5 (aa (gu (aJ nP) wP ["mask"] [1] rfl (by decide +kernel) rfl rfl (kc (pv 0)) (λ_ _ _ _=>fG) (λ_ _ _ _=>(kT (mC (dO (ny (K:=K) (n:="list") rfl) rfl T.n_isinstance mS (aa (pv 0) (aa (mB (v:=.ty "list") rfl T.n_list lh rfl) af)))) (aO GF KD rfl T.z_Zv (aa (pv 0) (aa (pv 1) af))) (pv 0)))) af)))),?_⟩
 cases hS with
 | @mk t0 xs _ ht IL =>
 refine⟨_,rfl,t0,rfl,⟨_,ao.of ht⟩,?_⟩;have ID:=t.parts_len;have K7:=IL.length;refine mV (K:=K0) (a:=t0) (xs:=xs) (λi ys H'=>Same H H'/\i<=xs.length/\PsAt H' true ys (t.parts.take i)) ⟨Same.refl _,Qy _,by simpa using PsAt.nil⟩ (λi ys H' _ h=>ao.of (h.1 _ _ ht)) ?_ ?_
 ·rintro i x ys H1 hx ⟨sm,hi,HY⟩;obtain⟨p,hp,hP⟩:=IL.get hx;have hP1:=hP.kept sm.ls;have hilt:=(Qc hx).1;have IG:=HY.length;rw[QH] at IG;have Il:i<t.parts.length:=by lia
  have JF:t.parts.take (i+1)=t.parts.take i++[p]:=by rw[Qo Il];rw[Qb Il] at hp;rw[Qs hp]
  refine fF ?_;rw[if_pos rfl]
  rcases hP1.isL (K:=K) with ⟨bs,l,zs,e1,e2,hl,hL,ty,kb⟩|⟨nb,ty0,ty,kb⟩
  ·subst e1 e2;have hm:bw.b bs∈t.parts:=Qq hp;refine⟨_,rfl,_,_,true,rfl,ty,kb,_,rfl,gR ?_⟩;refine⟨_,rfl,_,rfl,l,zs,bs,rfl,hl,hL,QE (nr hm) hd,(lG ha hm).1,(lG ha hm).2,λq us H2 s2 hq hL2=>?_⟩;refine⟨bC (by lia),sm.trans s2,by lia,?_⟩;rw[JF];exact(HY.kept s2.ls).snoc (.b hq hL2)
  refine⟨_,rfl,_,_,false,rfl,ty,kb,_,rfl,eD ?_⟩;refine⟨_,rfl,bC (by lia),sm,by lia,?_⟩;rw[JF];exact HY.snoc hP1
 rintro ys H1 ⟨sm,hi,HY⟩ p hp;have s1:=aj (o:=.lst ys) hp;refine⟨p,ys,rfl,.inl ⟨am.of ah,λl hl=>?_⟩⟩;have s2:=aj (o:=.tup ys) hl;refine kq _ _ ((sm.trans s1).trans s2) (.mk ah ?_);rw[QC (by lia)] at HY;exact HY.kept (s1.trans s2).ls
theorem wS:Builtin.bitAnd (1:Int) 1=1:=by decide +kernel
theorem ER(h:ascs ts){a b:Tr}(h1:ts[i]?=some a)(h2:ts[i+1]?=some b):a.row<b.row:=by have hi:=(Qc h2).1;have g:=(List.pairwise_iff_getElem.mp (vJ h)) i (i+1) (by lia) hi (by lia);rwa [(Qc h1).2,(Qc h2).2] at g
theorem ES{ts:List Tr}{ys:List V}(Lf:ts.length<=40)(h:ascs ts)(hl:ys.length=ts.length):b7 (ts.map iO) ys=ys:=by
 refine Do (by rw[Qg];lia) (by simp[hl]) λi hi=>?_;rw[Qg] at hi;have hi':i<ts.length:=by lia
 have e1:(ts.map iO).getD (i+1) []=iO ts[i+1]:=by simp[Qd,hi]
 have e2:(ts.map iO).getD i []=iO ts[i]:=by simp[Qd,hi']
 have hr:=ER h (Qb hi') (Qb hi);rw[e1,e2];show(if(Sum.inl ((ts[i+1].row:Nat):Int):ae)=Sum.inl ((ts[i].row:Nat):Int) then _ else dQ (Sum.inl ((ts[i+1].row:Nat):Int)) (Sum.inl ((ts[i].row:Nat):Int)))=false;rw[if_neg (λz=>by injection z with z;lia)];show decide (((ts[i+1].row:Nat):Int)<((ts[i].row:Nat):Int))=false;exact Qk (by lia)
noncomputable abbrev wT:List Str:=["tree","mask","kept"]
theorem rC:bf wT Ym (aJ nO):=by decide +kernel
theorem ET(T:All P w K mg AA DD)(k:Nat)(GS:aE P w K mg base aG (2*k+6) AA.Zj DD.Zj Yy (rB k)):aE P w K mg base aG (2*(k+1)+5) AA.Zv DD.Zv Ym (ku (k+1)):=by
 have GR:=EO (base:=base) T;refine T.z_Zv.F.ok rC (λvs H Q E h=>by cases h;subst_vars;rfl) λHQ A outer s H vs Q E hr h=>?_;obtain⟨l,xs,ts,rfl,hl,hL,hd,h20,ha,kq⟩:=h;have nd:=rC.nd;have hrS:aB (2*k+6) _:=hr;have hr4:aB 4 _:=hrS.mono (by lia);refine⟨_,(aq (uA (i:=2) (xs:=["there","one"]) (aJ nO) wT ["mask"] [1] rfl (by decide +kernel) rfl rfl (cG (pv 0)) (λ_ _ _ _=>(dG (n:=2) rfl (bp (ba (i:=0) (show(["there","one","mask"]:List Str).Nodup by decide +kernel) rfl (Or.inl rfl)) (bp (ba (i:=1) (show(["there","one","mask"]:List Str).Nodup by decide +kernel) rfl (Or.inl rfl)) cV)))) (λ_ _ _ _=>iF (aH dN (aD kY (pv 0) (pv 2)) ar (aI _))) (λ_ _ _ _=>(aR (aa (aD kY (pv 0) (pv 2)) (aa (aO GS hrS rfl T.z_Zj (aa (pv 1) (aa (pv 2) af))) af)))) nd rfl rfl rfl) (ap (aN (De (K:=K) rfl GR hr4 T.z_Zk.b .nil rfl T.n_sorted rfl T.z_Zk.m (pv 2))))),?_⟩;refine⟨_,rfl,l,rfl,⟨_,am.of hl⟩,?_⟩;have K7:=hL.length;refine mW (K:=K0) (a:=l) (xs:=xs) (λi ys H'=>Same H H'/\i<=xs.length/\LAt H' true ys (ts.take i)) ⟨Same.refl _,Qy _,by simpa using LAt.nil⟩ (λi ys H' _ h=>am.of (h.1 _ _ hl)) ?_ ?_
 ·rintro i x ys H1 hx ⟨sm,hi,HY⟩;obtain⟨t,ht,hO⟩:=hL.get hx;have hO:=hO.kept sm.ls;have hilt:=(Qc hx).1;have IG:=HY.length;rw[QH] at IG;have Il:i<ts.length:=by lia
  have JF:ts.take (i+1)=ts.take i++[t]:=by rw[Qo Il];rw[Qb Il] at ht;rw[Qs ht]
  have hm:t∈ts:=Qq ht
  cases hO with
  |plain e _=>cases e
  | @shared q y _ _ hq hS =>
  intro os Ij;obtain⟨a,b,rfl⟩:=g9 Ij;refine⟨q,_,rfl,ao.of hq,rfl,_,_,rfl,_,_,rfl,rfl,⟨[_,_],rfl,rfl⟩,?_⟩;refine⟨_,rfl,_,rfl,_,_,rfl,rfl,rfl,_,rfl,?_⟩
  refine bS (by
    show(!decide (V.int (Builtin.bitAnd 1 1)=V.int 0))=true
    rw[wS];rfl) ?_
  refine⟨_,rfl,_,rfl,_,_,rfl,rfl,_,rfl,_,rfl,y,t,rfl,hS,by have:=nv hm;lia,nw ha hm,λv' H2 s2 IE=>?_⟩;refine⟨bg,λq2 Iw=>?_⟩;dsimp only;rw[wS];have s3:=aj (o:=.tup [.int 1,v']) Iw;refine⟨bC (by lia),(sm.trans s2).trans s3,by lia,?_⟩;rw[JF];exact(HY.kept (s2.trans s3).ls).snoc (.shared rfl ah (IE.kept s3.ls))
 rintro ys H1 ⟨sm,hi,HY⟩ p hp;have s1:=aj (o:=.lst ys) hp;rw[QC (by lia)] at HY;have IG:=HY.length;have hys1:=HY.kept s1.ls;refine⟨_,rfl,p,ys,ts.map iO,[true,true],rfl,am.of ah,by lia,by simp[IG],λd hd=>?_,by simp,λi x d H' s2 hx hd Q' kQ=>?_,λq H' s2 hq=>?_⟩
 ·obtain⟨t,_,rfl⟩:=QJ hd;rfl
 ·obtain⟨t,ht,hO⟩:=hys1.get hx;rw[Qr,ht] at hd;cases (show some (iO t)=some d from hd);exact⟨x,t,rfl,hO.kept s2.ls,λq H2 s3 hq=>kQ q H2 s3 hq⟩
 rw[ES (by lia) ha IG];have s3:=aj (o:=.lst ys) hq;exact kq q ys _ (((sm.trans s1).trans s2).trans s3) ah (hys1.kept (s2.trans s3).ls)
theorem EU(T:All P w K mg AA DD):aE P w K mg base aG 5 AA.Zv DD.Zv Ym (ku 0):=by
 have no:∀vs H Q E,¬ku 0 vs H Q E:=λvs H Q E h=>by cases h;lia
 exact T.z_Zv.F.ok rC (λvs H Q E h=>(no _ _ _ _ h).elim) (λHQ A outer s H vs Q E hr h=>(no _ _ _ _ h).elim)
theorem wU(T:All P w K mg AA DD):∀k:Nat,aE P w K mg base aG (2*k+5) AA.Zv DD.Zv Ym (ku k)
 |0=>EU T
 |k+1=>ET T k (EQ T k (wU T k))
theorem lQ{d:Addr}(h:H d=some ob)(n1:∀xs,ob≠.tup xs)(n2:∀xs,ob≠.lst xs)(n3:∀o x,ob≠.frz o x)(n4:∀ps,ob≠.tbl ps:=by intro _ z;cases z):bK H (ag H d ob'):=
 ⟨λb xs e=>(by rw[ay (λz=>by rw[z,h] at e;exact n1 _ (Qs e))];exact e),λb xs e=>(by rw[ay (λz=>by rw[z,h] at e;exact n2 _ (Qs e))];exact e),λb o xs e=>by rw[ay (λz=>by rw[z,h] at e;exact n3 _ _ (Qs e))];exact e,λb ps e=>by rw[ay (λz=>by rw[z,h] at e;exact n4 _ (Qs e))];exact e⟩
inductive wV (vs:List V) (H:Hp) (Q:VK) (E:XK):Prop
 |mk:∀m o:Nat,vs=[.int m,.int o]->Q (.int ((m^^^(m&&&o):Nat):Int)) H->wV vs H Q E
noncomputable abbrev EV:List Str:=Yz
theorem wW:bf EV Yz (aJ qH):=by decide +kernel
theorem lR(T:All P w K mg AA DD):aE P w K mg base aG 1 AA.ZL DD.ZL Yz wV:=by
 refine T.z_ZL.F.ok wW (λvs H Q E h=>by cases h;subst_vars;rfl) λHQ A outer s H vs Q E hr h=>?_;obtain⟨m,o,rfl,k⟩:=h;have nd:=wW.nd;refine⟨_,(ap (aN (aD tz (pv 0) (aD kY (pv 0) (pv 1))))),?_⟩;refine⟨_,rfl,_,rfl,_,rfl,_,_,rfl,rfl,_,_,rfl,rfl,?_⟩;dsimp only;rw[pW,Bt];exact k
noncomputable def cR(fs:List (List ae)):List (List ae×V):=fs.map λk=>(k,.int 1)
noncomputable def cf(fs:List (List ae))(k:List ae):List (List ae):=if(fs.any λd=>decide (d=k))=true then fs else fs++[k]
theorem wX(fs:List (List ae))(k:List ae):((cR fs).any λkv=>decide (kv.1=k))=fs.any λd=>decide (d=k):=by unfold cR;rw[List.any_map];rfl
theorem EW(fs:List (List ae))(k:List ae):cc (cR fs) k (.int 1)=cR (cf fs k):=by
 unfold cc cf;rw[wX];split
 ·unfold cR;rw[QY];refine List.map_congr_left λd _=>?_;show(if d=k then(d,V.int 1) else(d,V.int 1))=_;split<;>rfl
 unfold cR;rw[QD];rfl
theorem wY(fs:List (List ae))(k:List ae):aZ (cR fs) k=if(fs.any λd=>decide (d=k))=true then some (.int 1) else none:=by
 have h:=ll k (cR fs);rw[wX] at h
 cases e:aZ (cR fs) k with
 |none=>rw[e] at h;rw[h];rfl
 |some v =>
  rw[e] at h;rw[h];have hm:∃d,(d,v)∈cR fs:=by unfold aZ at e;obtain⟨q,hq,rfl⟩:=Option.map_eq_some_iff.mp e;exact⟨q.1,List.mem_of_find?_eq_some hq⟩
  obtain⟨d,hd⟩:=hm;obtain⟨y,_,hy⟩:=QJ hd;have:v=.int 1:=(Prod.mk.inj hy).2.symm;rw[this];rfl
inductive wZ (vs:List V) (H:Hp) (Q:VK) (E:XK):Prop
 |mk:∀(d:Addr) (y:V) (m:Nat),vs=[.ref d,y,.int ((m:Nat):Int)]->pZ H d->((m=0/\Q .non H)∨(m=1/\∃o H',b9 H d y o/\(o=none∨o=some (.int 1))/\fc H d y (.int 1) H'/\Q .non H'))->wZ vs H Q E
noncomputable abbrev EX:List Str:=Yu
theorem w6:bf EX Yu (aJ qJ):=by decide +kernel
theorem EY(T:All P w K mg AA DD):aE P w K mg base aG 1 AA.ZP DD.ZP Yu wZ:=by
 refine T.z_ZP.F.ok w6 (λvs H Q E h=>by cases h;subst_vars;rfl) λHQ A outer s H vs Q E hr h=>?_;obtain⟨d,y,m,rfl,hI,h⟩:=h;have nd:=w6.nd;have hu:_+1<cLine:=QE (Nat.add_le_add_left (show 1<=16*0+200 by decide) _) (by have:=hr.un;omega);refine⟨_,(ap (aV (aH dN (pv 2) ar (aI _)) (ap (lr hu (pv 0) (pv 1) (aD pA (jT hu (pv 0) (pv 1) ar ⟨by rfl,by rfl,by rfl,by rfl⟩) (pv 2)) rfl)) be)),?_⟩;refine⟨_,rfl,rfl,_,rfl,?_⟩
 rcases h with ⟨rfl,k⟩|⟨rfl,o,H',g,ho,hp,k⟩
 ·exact eD k
 refine gR ⟨_,rfl,d,rfl,hI,_,rfl,o,g,?_⟩;rcases ho with rfl|rfl<;>exact⟨_,rfl,_,_,rfl,rfl,_,rfl,_,rfl,d,H',rfl,hp,k⟩
def _root_.Mm.Ex.bas:Ex->Prop
 |.op w _ _=>w∈j7/\True
 |.of _ _=>False
 |.many _ _ _=>False
 |_=>True
noncomputable def _root_.Mm.Ex.kids:Ex->List Ex
 |.not e=>[e]
 |.op _ a b=>[a,b]
 |_=>[]
inductive w9 (vs:List V) (H:Hp) (Q:VK) (E:XK):Prop
 |mk:∀(v:V) (e:Ex),vs=[v]->aU H v e->e.bas->(∀t ys H',Same H H'->H' t=some (.tup ys)->ExsAt H' ys e.kids->Q (.ref t) H')->w9 vs H Q E
noncomputable def ky:List Str:=["num","truth","name"]
noncomputable def oi:List Str:=["do","new"]
theorem EZ:∀z∈j7,z∉ky/\z∉oi/\z≠"of"/\z≠"name"/\z≠"do"/\z≠"new":=by decide +kernel
theorem E3:("not":Str)∉ky/\("not":Str)∉oi/\("not":Str)≠"of"/\("not":Str)≠"name"/\("not":Str)≠"do"/\("not":Str)≠"new":=by decide +kernel
theorem E4{e:Ex}(h:aU H v e)(hp:e.bas):∃(t:Addr) (z:Str) (ys:List V),v=.ref t/\H t=some (.tup (.str z::ys))/\((z∈ky/\e.kids=[]) ∨
  (z∉ky/\z∉oi/\z≠"of"/\z≠"name"/\z≠"do"/\z≠"new")/\ExsAt H ys e.kids/\ys.length<=2/\ys≠[]):=by
 cases h with
 |num h=>exact⟨_,_,_,rfl,h,.inl ⟨by decide,rfl⟩⟩
 |truth h=>exact⟨_,_,_,rfl,h,.inl ⟨by decide,rfl⟩⟩
 |name h=>exact⟨_,_,_,rfl,h,.inl ⟨by decide,rfl⟩⟩
 |not h a=>exact⟨_,_,_,rfl,h,.inr ⟨E3,.cons a .nil,by simp,by simp⟩⟩
 |op h a b=>exact⟨_,_,_,rfl,h,.inr ⟨EZ _ hp.1,.cons a (.cons b .nil),by simp,by simp⟩⟩
 |of h a=>exact hp.elim
 |many h l a=>exact hp.elim
theorem xa(a:V)(ys:List V):eZ (a::ys) (some 1) none=ys:=by
 unfold eZ;have h1:HT.sIx (a::ys).length 0 (some 1)=1:=by simp[HT.sIx]
 have h2:HT.sIx (a::ys).length (a::ys).length none=ys.length+1:=by simp[HT.sIx]
 rw[h1,h2];simp
theorem xf(z:Str)(l:List Str):ja (.str z) (l.map V.str)=decide (z∈l):=by
 induction l with
 |nil=>rfl
 |cons a r ih =>
  show((a==z)||ja (.str z) (r.map V.str))=_;rw[ih];by_cases h:a=z
  ·subst h;simp
  have:¬z=a:=λe=>h e.symm;simp[h,this]
theorem hV{z:Str}{zs:List Str}{b:Bool}(h:decide (z∈zs)=b):(if false=true then !ja (V.str z) (zs.map V.str) else ja (V.str z) (zs.map V.str))=b:=by rw[<-h];exact xf _ _
noncomputable abbrev E5:List Str:=["e"]
theorem xg:bf E5 ["e"] (aJ qO):=by decide +kernel
theorem E6(T:All P w K mg AA DD):aE P w K mg base aG 1 AA.ZH DD.ZH ["e"] w9:=by
 refine T.z_ZH.F.ok xg (λvs H Q E h=>by cases h;subst_vars;rfl) λHQ A outer s H vs Q E hr h=>?_;obtain⟨v,e,rfl,hE,ID,k⟩:=h;have nd:=xg.nd;refine⟨_,(aq (aV (aH lH (av (pv 0)) (aR (aa au (aa au (aa au af)))) rfl) (ap (aN (aR af))) be) (aq (aV (aH lH (av (pv 0)) (aR (aa au (aa au af))) rfl) (ap (aN (av (pv 0)))) be) (aq (aV (aH bi (av (pv 0)) au (aI _)) (ap (aN (aR (aa (av (pv 0)) af)))) be) (ap (aN (iy vM (pv 0) (f7 ar) k4)))))),?_⟩;obtain⟨t,z,ys,rfl,ht,hc⟩:=E4 hE ID;refine aw 0 rfl ht rfl ⟨gL,λpt KG=>⟨pt,ky.map V.str,rfl,.inr (ao.of ah),rfl,rfl,_,rfl,?_⟩⟩;have s1:=aj (o:=.tup (ky.map V.str)) KG;have Ii:=s1 _ _ ht
 change if _=true then _ else _
 generalize hH1:ag H pt _=H1;have s1:Same H H1:=by rw[<-hH1];exact aj KG
 have Ii:=s1 _ _ ht
 rcases hc with ⟨hz,hk⟩|⟨⟨n1,n2,n3,_⟩,hk,hl,hn⟩
 ·rw[hV (Qn hz)];refine gR ?_;refine⟨cT,λp hp=>?_⟩;exact k p _ _ (s1.trans (aj hp)) ah (by rw[hk];exact .nil)
 rw[hV (Qk n1)];refine eD ?_;refine aw 0 rfl Ii rfl ⟨bg,λpu hpu=>⟨pu,oi.map V.str,rfl,.inr (ao.of ah),rfl,rfl,_,rfl,?_⟩⟩
 change if _=true then _ else _
 generalize hH2:ag H1 pu _=H2;have s2:Same H1 H2:=by rw[<-hH2];exact aj hpu
 have Iv:=s2 _ _ Ii;rw[hV (Qk n2)];refine eD ?_;refine aw 0 rfl Iv rfl ⟨rfl,_,rfl,cQ n3 ?_⟩;refine⟨_,rfl,_,rfl,t,_,rfl,ao.of Iv,?_,λp hp=>?_⟩
 ·rintro⟨q,_⟩;simp[HT.sIx] at q
 rw[xa];exact k p _ _ ((s1.trans s2).trans (aj hp)) ah ((hk.kept ((s1.trans s2).trans (aj hp)).tups))
noncomputable def _root_.Mm.Tr.kw:Tr->Str
 |.set _ _ _=>"set"
 |.tell _ _=>"tell"
 |.iff _ _ _ _=>"if"
 |.whl _ _ _=>"while"
 |.give _ _=>"give"
 |.df _ _ _ _ _=>"def"
 |.kd _ _ _=>"kind"
noncomputable def _root_.Mm.Tr.ex:Tr->Option Ex
 |.set _ _ e=>some e
 |.tell _ e=>some e
 |.iff _ e _ _=>some e
 |.whl _ e _=>some e
 |.give _ e=>some e
 |.df _ _ _ _ _=>none
 |.kd _ _ _=>none
noncomputable def _root_.Mm.Tr.blocks:Tr->List (List Tr)
 |.iff _ _ b o=>[b,o]
 |.whl _ _ b=>[b]
 |.df _ _ _ _ b=>[b]
 |_=>[]
noncomputable def fW:bw->Bool
 |.b _=>true
 |_=>false
theorem xh(t:Tr):t.parts.filter fW=t.blocks.map bw.b:=by cases t<;>rfl
theorem E7(t:Tr):t.cnt=1+(t.blocks.map cnts).sum:=by cases t<;>simp[Tr.cnt,Tr.blocks]
theorem xi{t:Tr}(h:t.ex=some e):t.kw≠"def"/\t.kw≠"kind":=by cases t<;>first|(simp only[Tr.kw];decide +kernel)|cases h
theorem oj{t:Tr}(h:PsAt H sh vs t.parts):∃(r:List V),vs=.str t.kw::.int ((t.row:Nat):Int)::r:=by
 have g:∃ps,t.parts=.s t.kw::.i t.row::ps:=by cases t<;>exact⟨_,rfl⟩
 obtain⟨ps,e⟩:=g;rw[e] at h;obtain⟨r,e2,_⟩:=fh h;exact⟨r,e2⟩
inductive xj (vs:List V) (H:Hp) (Q:VK) (E:XK):Prop
 |mk:∀(v:V) (t:Tr) (e:Ex),vs=[v]->bx H true v t->t.ex=some e->(∀x,aU H x e->Q x H)->xj vs H Q E
noncomputable abbrev E8:List Str:=["one"]
theorem xk:bf E8 ["one"] (aJ qN):=by decide +kernel
theorem E9(T:All P w K mg AA DD):aE P w K mg base aG 1 AA.ZM DD.ZM ["one"] xj:=by
 refine T.z_ZM.F.ok xk (λvs H Q E h=>by cases h;subst_vars;rfl) λHQ A outer s H vs Q E hr h=>?_;obtain⟨v,t,e0,rfl,hS,hx0,k⟩:=h;have nd:=xk.nd
 obtain⟨t0,vs,j,x,ev,ht,h0,hj,hx,hb⟩:∃t0 vs j x,v=.ref t0/\H t0=some (.tup vs)/\vs[0]?=some (.str t.kw)/\vs[j]?=some x/\aU H x e0/\((t.kw="set"/\j=3)∨(t.kw≠"set"/\j=2)):=by
  cases t with
  |set r n e=>cases hx0;obtain⟨t0,ve,e1,ht,hx⟩:=wG hS;exact⟨t0,_,3,ve,e1,ht,rfl,rfl,hx,.inl ⟨rfl,rfl⟩⟩
  |tell r e=>cases hx0;obtain⟨t0,ve,e1,ht,hx⟩:=EB hS;exact⟨t0,_,2,ve,e1,ht,rfl,rfl,hx,.inr ⟨by show("tell":Str)≠"set";decide,rfl⟩⟩
  |iff r e b o=>cases hx0;obtain⟨t0,ve,_,_,_,_,e1,ht,hx,_⟩:=ED hS;exact⟨t0,_,2,ve,e1,ht,rfl,rfl,hx,.inr ⟨by show("if":Str)≠"set";decide,rfl⟩⟩
  |whl r e b=>cases hx0;obtain⟨t0,ve,_,_,e1,ht,hx,_⟩:=EE hS;exact⟨t0,_,2,ve,e1,ht,rfl,rfl,hx,.inr ⟨by show("while":Str)≠"set";decide,rfl⟩⟩
  |give r e=>cases hx0;obtain⟨t0,ve,e1,ht,hx⟩:=EC hS;exact⟨t0,_,2,ve,e1,ht,rfl,rfl,hx,.inr ⟨by show("give":Str)≠"set";decide,rfl⟩⟩
  |df r n k ps b=>cases hx0
  |kd r n ps=>cases hx0
 subst ev;refine⟨_,(ap (aN (kT (aH bi (av (pv 0)) au (aI _)) (av (pv 0)) (av (pv 0))))),?_⟩;refine⟨_,rfl,t0,_,_,_,rfl,rfl,ao.of ht,aY (j:=0) h0,rfl,_,rfl,?_⟩;rcases hb with ⟨hw,e⟩|⟨hw,e⟩<;>subst e
 ·exact bS (Qn (by rw[hw])) ⟨_,rfl,t0,_,_,_,rfl,rfl,ao.of ht,aY (j:=3) hj,k _ hx⟩
 exact cQ hw ⟨_,rfl,t0,_,_,_,rfl,rfl,ao.of ht,aY (j:=2) hj,k _ hx⟩
inductive xl (vs:List V) (H:Hp) (Q:VK) (E:XK):Prop
 |mk:∀(v:V) (t:Tr),vs=[v]->bx H true v t->(∀p ys H',Same H H'->H' p=some (.lst ys)->PsAt H' true ys (t.blocks.map bw.b)->Q (.ref p) H')->xl vs H Q E
noncomputable abbrev xm:List Str:=["one"]
theorem xn:bf xm ["one"] (aJ nS):=by decide +kernel
theorem Fa(T:All P w K mg AA DD):aE P w K mg base aG 1 AA.Zx DD.Zx ["one"] xl:=by
 refine T.z_Zx.F.ok xn (λvs H Q E h=>by cases h;subst_vars;rfl) λHQ A outer s H vs Q E hr h=>?_;obtain⟨v,t,rfl,hS,k⟩:=h;have nd:=xn.nd;refine⟨_,(ap (aN (gu (aJ nS) xm [] [] rfl (by decide +kernel) rfl rfl (kc (pv 0)) (λ_ _ _ _=>iF (mC (dO (ny (K:=K) (n:="list") rfl) rfl T.n_isinstance mS (aa (pv 0) (aa (mB (v:=.ty "list") rfl T.n_list lh rfl) af))))) (λ_ _ _ _=>(pv 0))))),?_⟩
 cases hS with
 | @mk t0 xs _ ht IL =>
 refine⟨_,rfl,t0,rfl,⟨_,ao.of ht⟩,?_⟩;have ID:=t.parts_len;have K7:=IL.length;refine mV (K:=K0) (a:=t0) (xs:=xs) (λi ys H'=>H'=H/\i<=xs.length/\ys.length<=i/\PsAt H true ys ((t.parts.take i).filter fW)) ⟨rfl,Qy _,Qy _,by simpa using PsAt.nil⟩ (λi ys H' _ h=>by rw[h.1];exact ao.of ht) ?_ ?_
 ·rintro i x ys H1 hx ⟨rfl,hi,hy,HY⟩;obtain⟨p,hp,hP⟩:=IL.get hx;have hilt:=(Qc hx).1;have Il:i<t.parts.length:=by lia
  have JF:(t.parts.take (i+1)).filter fW=(t.parts.take i).filter fW++[p].filter fW:=by rw[Qo Il,List.filter_append];rw[Qb Il] at hp;rw[Qs hp]
  rcases hP.isL (K:=K) with ⟨bs,l,zs,e1,e2,hl,hL,ty,kb⟩|⟨nb,ty0,ty,kb⟩
  ·subst e1 e2;refine⟨_,rfl,_,_,true,rfl,ty,kb,_,rfl,gR ?_⟩;refine⟨_,rfl,bC (by lia),rfl,by lia,by simp;lia,?_⟩;rw[JF];exact HY.snoc hP
  refine⟨_,rfl,_,_,false,rfl,ty,kb,_,rfl,eD ?_⟩;refine⟨rfl,by lia,by lia,?_⟩;rw[JF]
  have:[p].filter fW=[]:=by
   cases p with
   |b ts=>exact absurd rfl (nb ts)
   |s z=>rfl
   |i n=>rfl
   |e x=>rfl
   |p x=>rfl
  rw[this,QA];exact HY
 rintro ys H1 ⟨rfl,hi,hy,HY⟩ p hp;rw[QC (by lia),xh] at HY;have s1:=aj (o:=.lst ys) hp;exact k p ys _ s1 ah (HY.kept s1.ls)
def rD(H:Hp)(xs:List V):Prop:=∀x∈xs,∃(t:Addr) (y:V),x=.ref t/\H t=some (.tup [.int 1,y])
inductive rE (vs:List V) (H:Hp) (Q:VK) (E:XK):Prop
 |mk:∀(l:Addr) (xs:List V),vs=[.ref l]->H l=some (.lst xs)->rD H xs->Q (.int (if xs=[] then 0 else 1)) H->rE vs H Q E
noncomputable abbrev Fb:List Str:=["pairs","found","mask","value"]
theorem xq:bf Fb ["pairs"] (aJ qI):=by decide +kernel
theorem lS(T:All P w K mg AA DD):aE P w K mg base aG 1 AA.ZO DD.ZO ["pairs"] rE:=by
 refine T.z_ZO.F.ok xq (λvs H Q E h=>by cases h;subst_vars;rfl) λHQ A outer s H vs Q E hr h=>?_;obtain⟨l,xs,rfl,hl,hP,k⟩:=h;have nd:=xq.nd;refine⟨_,(aq (aQ (i:=1) nd rfl (Or.inl rfl) ar) (aq (dC PassesOwn.never rfl (cG (pv 0)) (dG rfl (bp (ba (i:=2) nd rfl (Or.inl rfl)) (bp (ba (i:=3) nd rfl (Or.inl rfl)) cV))) (ap (aQ (i:=1) nd rfl (Or.inl rfl) (aD pA (pv 1) (pv 2)))) (by intro _;rfl)) (ap (aN (pv 1))))),?_⟩;refine lu ?_;dsimp only[aP];refine gW (λσ' H'=>H'=H/\∃s2 s3:Option V,σ'=[some (.ref l),some (.int (if xs=[] then 0 else 1)),s2,s3]) (λR HP=>?_) ?_
 ·refine⟨_,rfl,l,rfl,⟨_,am.of hl⟩,?_⟩;refine iq (K:=K0) (a:=l) (xs:=xs) (λi σ' H'=>H'=H/\∃s2 s3:Option V,σ'=[some (.ref l),some (.int (if i=0 then 0 else 1)),s2,s3]) ⟨rfl,none,none,rfl⟩ (λi σ' H' _ hsl84=>by obtain⟨e,_⟩:=hsl84;rw[e];exact am.of hl) ?_ ?_
  ·rintro i x σ' H1 hx ⟨rfl,s2,s3,rfl⟩;obtain⟨t,y,rfl,ht⟩:=hP x (Qq hx);refine⟨t,_,rfl,ao.of ht,rfl,_,_,rfl,_,_,rfl,rfl,?_⟩;refine⟨_,rfl,_,rfl,_,_,rfl,rfl,rfl,some (.int 1),some y,?_⟩;by_cases h0:i=0
   ·subst h0;rfl
   rw[if_neg h0,if_neg (by lia)];rfl
  rintro σ' H1 ⟨rfl,s2,s3,rfl⟩;refine HP _ _ ⟨rfl,s2,s3,?_⟩;cases xs<;>rfl
 rintro σ' H1 ⟨rfl,s2,s3,rfl⟩;exact⟨_,rfl,k⟩
def aK(H:Hp)(p:Addr)(ks:List V):Prop:=∃ts:List Addr,H p=some (.lst (ts.map V.ref))/\ts.length=ks.length/\∀(i:Nat) (t:Addr) (k:V),ts[i]?=some t->ks[i]?=some k->H t=some (.tup [.int 1,k])
theorem aK.kept(h:aK H p ks)(s:bK H H'):aK H' p ks:=by obtain⟨ts,a,b,c⟩:=h;exact⟨ts,s.2 _ _ a,b,λi t k x y=>s.1 _ _ (c i t k x y)⟩
theorem aK.p1(h:aK H p ks):∃xs,H p=some (.lst xs)/\rD H xs/\(xs=[]↔ks=[]):=by
 obtain⟨ts,a,b,c⟩:=h;refine⟨_,a,λx hx=>?_,?_⟩
 ·obtain⟨t,ht,rfl⟩:=QJ hx;obtain⟨i,hi,e⟩:=List.mem_iff_getElem.mp ht;exact⟨t,(ks[i]'(by lia)),rfl,c i t _ (by rw[<-e];exact Qb hi) (Qb (by lia))⟩
 rw[List.map_eq_nil_iff,<-List.length_eq_zero_iff,b,List.length_eq_zero_iff]
theorem aK.cat{a b:List V}(ha:aK H p a)(hb:aK H q b):∃xs ys,H p=some (.lst xs)/\H q=some (.lst ys)/\xs.length=a.length/\ys.length=b.length/\∀l,H l=none->aK (ag H l (.lst (xs++ys))) l (a++b):=by
 obtain⟨ts,a1,a2,a3⟩:=ha;obtain⟨us,b1,b2,b3⟩:=hb;refine⟨_,_,a1,b1,by simpa using a2,by simpa using b2,λl hl=>⟨ts++us,by rw[ah,QD],by simp[a2,b2],λi t k x y=>?_⟩⟩;have s:=aj (o:=.lst (ts.map V.ref++us.map V.ref)) hl;by_cases hi:i<ts.length
 ·rw[Ql hi] at x;rw[Ql (by lia)] at y;exact s _ _ (a3 i t k x y)
 rw[Qw (by lia)] at x;rw[Qw (by lia),<-a2] at y;exact s _ _ (b3 _ t k x y)
section
variable {j k:Nat}{js:List Nat}{a:Addr}{x:V}{g:TG}{tt:TT}{te:TE}{tb:TS}{D:cU}{σ:St}{H:Hp}{Q:VK}
theorem lT(hp:H a=some (.lst []))(h:∀p,H p=none->Q (.ref p) (ag H p (.lst []))):jR (cL K0 a) k js g tt te σ H Q:=
 mW (K:=K0) (xs:=[]) (λi ys H'=>ys=[]/\H'=H) ⟨rfl,rfl⟩ (λi ys H' _ q=>by rw[q.2];exact am.of hp) (λi x ys H' q=>by simp at q) λys H' q=>by rw[q.1,q.2];exact h
theorem lU(hp:H a=some (.lst [x]))(h:jQ k js g tt te σ [] (λys H'=>Same H H'/\∀p,H' p=none->Q (.ref p) (ag H' p (.lst ys))) x H):jR (cL K0 a) k js g tt te σ H Q:=
 mW (K:=K0) (xs:=[x]) (λi ys H'=>match i with
  |0=>ys=[]/\H'=H
  |_=>Same H H'/\∀p,H' p=none->Q (.ref p) (ag H' p (.lst ys))) ⟨rfl,rfl⟩ (λi ys H' _ q=>match i with
  |0=>by rw[q.2];exact am.of hp
  |_+1=>am.of (q.1 _ _ hp)) (λi y ys H' e q=>match i with
  |0=>by cases e;rw[q.1,q.2];exact h
  |_+1=>by simp at e) λys H' q=>q.2
theorem Fc(hp:H a=some (.lst []))(h:∀p,H p=none->Q (.ref p) (ag H p (.lst []))):iG (cL K0 a) js tt te σ H Q:=
 jO (K:=K0) (xs:=[]) (λi ys H'=>ys=[]/\H'=H) ⟨rfl,rfl⟩ (λi ys H' _ q=>by rw[q.2];exact am.of hp) (λi x ys H' q=>by simp at q) λys H' q=>by rw[q.1,q.2];exact h
theorem Fd(hp:H a=some (.lst [x]))(h:tt (some x::cE js σ) H λb H2=>if b=true then te (some x::cE js σ) H2 λy H3=>0<sizeLine/\Same H H3/\∀p,H3 p=none->Q (.ref p) (ag H3 p (.lst [y])) else Same H H2/\∀p,H2 p=none->Q (.ref p) (ag H2 p (.lst []))):iG (cL K0 a) js tt te σ H Q:=
 jO (K:=K0) (xs:=[x]) (λi ys H'=>match i with
  |0=>ys=[]/\H'=H
  |_=>Same H H'/\∀p,H' p=none->Q (.ref p) (ag H' p (.lst ys))) ⟨rfl,rfl⟩ (λi ys H' _ q=>match i with
  |0=>by rw[q.2];exact am.of hp
  |_+1=>am.of (q.1 _ _ hp)) (λi y ys H' e q=>match i with
  |0=>by cases e;rw[q.1,q.2];exact h
  |_+1=>by simp at e) λys H' q=>q.2
theorem rF(hp:H a=some (.lst []))(h:D.nx σ H):∃W:Nat->Nat->St->Hp->Prop,(∃m,W 0 m σ H)/\∀i m σ H,W i m σ H ->
   ((cL K0 a).stop i H/\D.nx σ H)∨((cL K0 a).go i H/\∃N:St->Hp->Prop,(∀σ' H',N σ' H'->∃m',m'<m/\W (i+1) m' σ' H')/\∀x H',(cL K0 a).yld i H x H'->g x σ H' λσ2 H2=>tb {D with nx:=N,ct:=N,bk:=D.nx} σ2 H2):=
 iq (K:=K0) (xs:=[]) (λi σ' H'=>σ'=σ/\H'=H) ⟨rfl,rfl⟩ (λi σ' H' _ q=>by rw[q.2];exact am.of hp) (λi x σ' H' q=>by simp at q) λσ' H' q=>by rw[q.1,q.2];exact h
theorem rG(hp:H a=some (.lst [x]))(h:∀E:cU,(∀σ' H',H' a=some (.lst [x])->D.nx σ' H'->E.nx σ' H')->g x σ H λσ2 H2=>tb E σ2 H2):∃W:Nat->Nat->St->Hp->Prop,(∃m,W 0 m σ H)/\∀i m σ H,W i m σ H ->
   ((cL K0 a).stop i H/\D.nx σ H)∨((cL K0 a).go i H/\∃N:St->Hp->Prop,(∀σ' H',N σ' H'->∃m',m'<m/\W (i+1) m' σ' H')/\∀x H',(cL K0 a).yld i H x H'->g x σ H' λσ2 H2=>tb {D with nx:=N,ct:=N,bk:=D.nx} σ2 H2):=
 iq (K:=K0) (xs:=[x]) (λi σ' H'=>match i with
  |0=>σ'=σ/\H'=H
  |_=>H' a=some (.lst [x])/\D.nx σ' H') ⟨rfl,rfl⟩ (λi σ' H' _ q=>match i with
  |0=>by rw[q.2];exact am.of hp
  |_+1=>am.of q.1) (λi y σ' H' e q=>match i with
  |0=>by cases e;rw[q.1,q.2];exact h _ λ_ _ a b=>⟨a,b⟩
  |_+1=>by simp at e) λσ' H' q=>q.2
end
theorem aK.nil{H:Hp}{p:Addr}:aK H p []↔H p=some (.lst []):=⟨λhsl85=>by obtain⟨ts,a,b,_⟩:=hsl85;rw[List.length_eq_zero_iff.mp b] at a;exact a,λh=>⟨[],h,rfl,λi t k x=>by simp at x⟩⟩
theorem aK.one{H:Hp}{p:Addr}{y:V}:aK H p [y]↔∃t,H p=some (.lst [.ref t])/\H t=some (.tup [.int 1,y]):=⟨λ⟨ts,a,b,c⟩=>by
 obtain⟨t,rfl⟩:=List.length_eq_one_iff.mp b
 exact⟨t,a,c 0 t y rfl rfl⟩,λhsl86=>by obtain⟨t,a,b⟩:=hsl86;exact⟨[t],a,rfl,λi u k x z=>match i with
 |0=>by cases x;cases z;exact b
 |_+1=>by simp at x⟩⟩
inductive om (vs:List V) (H:Hp) (Q:VK) (E:XK):Prop
 |mk:∀(p:Addr) (ks:List V) (m:Nat),vs=[.ref p,.int ((m:Nat):Int)]->m<=1->aK H p ks->ks.length<=1->(∀q H',Same H H'->aK H' q (if m=0 then [] else ks)->Q (.ref q) H')->om vs H Q E
noncomputable abbrev xr:List Str:=YA
theorem xu:bf xr YA (aJ nM):=by decide +kernel
theorem lV(T:All P w K mg AA DD):aE P w K mg base aG 1 AA.Zs DD.Zs YA om:=by
 refine T.z_Zs.F.ok xu (λvs H Q E h=>by cases h;subst_vars;rfl) λHQ A outer s H vs Q E hr h=>?_;obtain⟨p,ks,m,rfl,hm,hp,Jp,k⟩:=h;have nd:=xu.nd;refine⟨_,(ap (aN (jd (xs:=["there","value"]) (aJ nM) xr ["mask"] [1] rfl (by decide +kernel) rfl rfl (cG (pv 0)) (λ_ _ _ _=>(dG (n:=2) rfl (bp (ba (i:=0) (show(["there","value","mask"]:List Str).Nodup by decide +kernel) rfl (Or.inl rfl)) (bp (ba (i:=1) (show(["there","value","mask"]:List Str).Nodup by decide +kernel) rfl (Or.inl rfl)) cV)))) (λ_ _ _ _=>iF (aH dN (aD kY (pv 0) (pv 2)) ar (aI _))) (λ_ _ _ _=>(aR (aa (aD kY (pv 0) (pv 2)) (aa (pv 1) af))))))),?_⟩;have hb:Builtin.bitAnd (1:Int) ((m:Nat):Int)=((1&&&m:Nat):Int):=pW 1 m
 match ks,Jp with
 | [],_ =>
  have hp:=aK.nil.mp hp;refine⟨_,rfl,p,rfl,⟨_,am.of hp⟩,lT hp λq hq=>k q _ (aj hq) ?_⟩;rw[ite_self];exact aK.nil.mpr ah
 | [y],_ =>
  obtain⟨t,hp,ht⟩:=aK.one.mp hp;refine⟨_,rfl,p,rfl,⟨_,am.of hp⟩,lU hp λos Ij=>?_⟩;obtain⟨a,b,rfl⟩:=g9 Ij;refine⟨t,_,rfl,ao.of ht,rfl,_,_,rfl,_,_,rfl,rfl,⟨[_,_],rfl,rfl⟩,?_⟩;refine⟨_,rfl,_,rfl,_,_,rfl,rfl,rfl,_,rfl,?_⟩;by_cases h0:m=0
  ·subst h0
   refine bh (by
    show(!decide (V.int (Builtin.bitAnd (1:Int) ((0:Nat):Int))=V.int 0))=false
    rw[hb];rfl) ⟨Same.refl _,λq hq=>k q _ (aj hq) (aK.nil.mpr ah)⟩
  obtain rfl:m=1:=by lia
  refine bS (by
   show(!decide (V.int (Builtin.bitAnd (1:Int) ((1:Nat):Int))=V.int 0))=true
   rw[hb];rfl) ⟨_,rfl,_,rfl,_,_,rfl,rfl,_,rfl,bg,λt2 Iv=>?_⟩
  dsimp only;rw[hb];refine⟨(by show 0<sizeLine;decide),aj Iv,λq hq=>k q _ ((aj Iv).trans (aj hq)) (aK.one.mpr ⟨t2,ah,aj hq _ _ ah⟩)⟩
 |_::_::_,h=>simp at h
abbrev Kd:=Option Str
noncomputable def dX:Kd->V
 |some k=>.str k
 |none=>.non
def KL(H:Hp)(p:Addr)(ks:List Kd):Prop:=aK H p (ks.map dX)
theorem KL.kept(h:KL H p ks)(s:bK H H'):KL H' p ks:=aK.kept h s
theorem KL.same(h:KL H p ks)(s:Same H H'):KL H' p ks:=h.kept s.ls
theorem KL.p1(h:KL H p ks):∃xs,H p=some (.lst xs)/\rD H xs/\(xs=[]↔ks=[]):=by obtain⟨xs,a,b,c⟩:=aK.p1 h;exact⟨xs,a,b,by rw[c,List.map_eq_nil_iff]⟩
theorem KL.cat{a b:List Kd}(ha:KL H p a)(hb:KL H q b):∃xs ys,H p=some (.lst xs)/\H q=some (.lst ys)/\xs.length=a.length/\ys.length=b.length/\∀l,H l=none->KL (ag H l (.lst (xs++ys))) l (a++b):=by obtain⟨xs,ys,h1,h2,h3,h4,h5⟩:=aK.cat ha hb;refine⟨xs,ys,h1,h2,by simpa using h3,by simpa using h4,λl hl=>?_⟩;have:=h5 l hl;rw[<-QD] at this;exact this
theorem rH{ks:List Kd}(hm:m<=1)(hk:KL H p ks)(hl:ks.length<=1)(k:∀q H',Same H H'->KL H' q (if m=0 then [] else ks)->Q (.ref q) H'):om [.ref p,.int ((m:Nat):Int)] H Q E:=by
 refine⟨p,ks.map dX,m,rfl,hm,hk,by simpa using hl,λq H' s h=>k q H' s ?_⟩;have e:(if m=0 then [] else ks.map dX)=(if m=0 then [] else ks).map dX:=by split<;>rfl
 rw[e] at h;exact h
noncomputable def fits(HZ:Str)(k:Kd):Bool:=decide (k=none)||decide (k=some HZ)
noncomputable def dz(ks:List Kd)(HZ:Str):Nat:=if ks.all (fits HZ) then 0 else 1
theorem oq(ks:List Kd)(HZ:Str):dz ks HZ<=1:=by unfold dz;split<;>decide
inductive xv (vs:List V) (H:Hp) (Q:VK) (E:XK):Prop
 |mk:∀(p:Addr) (ks:List Kd) (HZ:Str),vs=[.ref p,.str HZ]->KL H p ks->ks.length<=1->(∀H',Same H H'->Q (.int ((dz ks HZ:Nat):Int)) H')->xv vs H Q E
noncomputable abbrev xw:List Str:=YD
theorem xx:bf xw YD (aJ nT):=by decide +kernel
theorem rJ(T:All P w K mg AA DD):aE P w K mg base aG 2 AA.ZS DD.ZS YD xv:=by
 have GA:=lS (base:=base) T;refine T.z_ZS.F.ok xx (λvs H Q E h=>by cases h;subst_vars;rfl) λHQ A outer s H vs Q E hr h=>?_;obtain⟨p,ks,HZ,rfl,hK,Jp,k⟩:=h;have nd:=xx.nd;have HX:aB 1 _:=hr;refine⟨_,(ap (aN (aO GA HX rfl T.z_ZO (aa (jd (xs:=["mask","kind"]) (aJ nT) xw ["due"] [1] rfl (by decide +kernel) rfl rfl (cG (pv 0)) (λ_ _ _ _=>(dG (n:=2) rfl (bp (ba (i:=0) (show(["mask","kind","due"]:List Str).Nodup by decide +kernel) rfl (Or.inl rfl)) (bp (ba (i:=1) (show(["mask","kind","due"]:List Str).Nodup by decide +kernel) rfl (Or.inl rfl)) cV)))) (λ_ _ _ _=>iF (PW.pt (dB (gn (ik (pv 1))) (fC (aH dN (pv 1) (pv 2) (aI _)))))) (λ_ _ _ _=>(aR (aa (pv 0) (aa (pv 1) af))))) af)))),?_⟩;have no:∀{H1:Hp},Same H H1->dz ks HZ=0->∀q,H1 q=none->rE [.ref q] (ag H1 q (.lst [])) Q E0:=λs h0 q hq=>by have kk:=k _ (s.trans (aj (o:=.lst []) hq));rw[h0] at kk;exact⟨q,[],rfl,ah,(by intro x hx;cases hx),kk⟩
 match ks,Jp with
 | [],_ =>
  have hp:=aK.nil.mp hK;exact⟨_,rfl,p,rfl,⟨_,am.of hp⟩,lT hp (no (Same.refl _) rfl)⟩
 | [y],_ =>
  obtain⟨t,hp,ht⟩:=aK.one.mp hK;refine⟨_,rfl,p,rfl,⟨_,am.of hp⟩,lU hp λos Ij=>?_⟩;obtain⟨a,b,rfl⟩:=g9 Ij;refine⟨t,_,rfl,ao.of ht,rfl,_,_,rfl,_,_,rfl,rfl,⟨[_,_],rfl,rfl⟩,?_⟩
  cases y with
  |none=>exact⟨_,rfl,_,rfl,bh (by rw[Qn (show dX none=V.non from rfl)];rfl) ⟨Same.refl _,no (Same.refl _) rfl⟩⟩
  |some kd =>
  refine⟨_,rfl,_,rfl,bS (by rw[Qk (λz=>by cases z)];rfl) ⟨_,rfl,_,rfl,rfl,_,rfl,?_⟩⟩;by_cases JJ:kd=HZ
  ·refine bh (by
    show(!decide (V.str kd=V.str HZ))=false
    rw[Qn (by rw[JJ])];rfl) ⟨Same.refl _,no (Same.refl _) (by simp[dz,fits,JJ])⟩
  refine bS (by
   show(!decide (V.str kd=V.str HZ))=true
   rw[Qk (λz=>JJ (by injection z))];rfl) ⟨_,rfl,_,rfl,bg,λt2 Iv=>⟨(by show 0<sizeLine;decide),aj Iv,λq hq=>?_⟩⟩
  have kk:=k _ ((aj (o:=.tup [.int 1,.str kd]) Iv).trans (aj (o:=.lst [.ref t2]) hq));rw[show dz [some kd] HZ=1 by simp[dz,fits,JJ]] at kk;exact⟨q,[.ref t2],rfl,ah,λx hx=>⟨t2,_,Qj hx,aj hq _ _ ah⟩,kk⟩
 |_::_::_,h=>simp at h
noncomputable def rK:List Str:=YF
noncomputable def isRec(k:Kd):Bool:=match k with
 |none=>false
 |some z=>!decide (z∈rK)
inductive xy (vs:List V) (H:Hp) (Q:VK) (E:XK):Prop
 |mk:∀k:Kd,vs=[dX k]->Q (.bl (isRec k)) H->xy vs H Q E
noncomputable abbrev Fe:List Str:=["kind"]
theorem xz:bf Fe ["kind"] (aJ qP):=by decide +kernel
theorem Ff(T:All P w K mg AA DD):aE P w K mg base aG 1 AA.Zy DD.Zy ["kind"] xy:=by
 refine T.z_Zy.F.ok xz (λvs H Q E h=>by cases h;subst_vars;rfl) λHQ A outer s H vs Q E hr h=>?_;obtain⟨kd,rfl,k⟩:=h;have nd:=xz.nd;refine⟨_,(ap (aN (o3 (Ab (ik (pv 0))) (sW (@pE _ _ _ _ _ _ _ _ (Dj (K:=K) rfl) (pv 0) (z7 (v:=.ref AA.q_PLAIN_KINDS) rfl T.m_PLAIN_KINDS rfl) rfl))))),?_⟩
 cases kd with
 |none =>
  refine⟨_,rfl,_,rfl,bh (by rw[Qn (show dX none=V.non from rfl)];rfl) ?_⟩;exact k
 |some z =>
 refine⟨_,rfl,_,rfl,bS (by rw[Qk (λz=>by cases z)];rfl) ?_⟩;refine⟨_,rfl,AA.q_PLAIN_KINDS,[.str "num",.str "truth"],rfl,.inr (T.Q_PLAIN_KINDS H),rfl,rfl,?_⟩;show Q (V.bl (!ja (V.str z) (rK.map V.str))) H;rw[xf];exact k
structure bL(H H':Hp):Prop where
 ls:bK H H'
 dk:∀a kv,H a=some (.dK kv)->H' a=some (.dK kv)
theorem bL.refl(H:Hp):bL H H:=⟨bK.refl _,λ_ _ h=>h⟩
theorem bL.trans{H H1 H2:Hp}(a:bL H H1)(b:bL H1 H2):bL H H2:=⟨a.ls.trans b.ls,λ_ _ h=>b.dk _ _ (a.dk _ _ h)⟩
theorem bT(s:Same H H'):bL H H':=⟨s.ls,λ_ _ h=>s _ _ h⟩
structure bz(H:Hp)(C o dx d2:Addr)(F:List (List ae×V))(fs:List (List ae)):Prop where
 ins:∃d1,H o=some (.ins C dx [("firsts",.ref d1),("faults",.ref d2)])/\H d1=some (.dT F)/\d1≠d2
 flt:H d2=some (.dT (cR fs))
theorem bz.same{F:List (List ae×V)}{fs:List (List ae)}(h:bz H C o dx d2 F fs)(s:Same H H'):bz H' C o dx d2 F fs:=by obtain⟨⟨d1,h1,h3,h4⟩,h2⟩:=h;exact⟨⟨d1,s _ _ h1,s _ _ h3,h4⟩,s _ _ h2⟩
theorem bz.fault{F:List (List ae×V)}{fs fs':List (List ae)}(h:bz H C o dx d2 F fs):bz (ag H d2 (.dT (cR fs'))) C o dx d2 F fs'/\bL H (ag H d2 (.dT (cR fs'))):=by
 obtain⟨⟨d1,h1,h3,h4⟩,h2⟩:=h;refine⟨⟨⟨d1,?_,?_,h4⟩,ah⟩,⟨lQ h2 (λ_ z=>nomatch z) (λ_ z=>nomatch z) (λ_ _ z=>nomatch z),λa kv e=>by rw[ay (λz=>by rw[z,h2] at e;cases e)];exact e⟩⟩
 ·rw[ay (λz=>by rw[z,h2] at h1;cases h1)];exact h1
 rw[ay h4];exact h3
noncomputable def kk(r:Nat)(KQ:Str):List ae:=[.inl ((r:Nat):Int),.inr KQ]
inductive xA (C:Addr) (vs:List V) (H:Hp) (Q:VK) (E:XK):Prop
 |mk:∀(o dx d2:Addr) (F:List (List ae×V)) (fs:List (List ae)) (m r:Nat) (z:Str),vs=[.ref o,.int ((m:Nat):Int),.int ((r:Nat):Int),.str z]->bz H C o dx d2 F fs->fs.length<1000->m<=1->(∀H',bL H H'->bz H' C o dx d2 F (if m=0 then fs else cf fs (kk r z))->Q .non H')->xA C vs H Q E
noncomputable abbrev Fg:List Str:=Yq
theorem xB:bf Fg Yq (aJ rc):=by decide +kernel
theorem lW(T:All P w K mg AA DD):aE P w K mg base aG 2 AA.Zm DD.Zm Yq (xA AA.c_KindLook):=by
 have GD:=EY (base:=base) T;refine T.z_Zm.F.ok xB (λvs H Q E h=>by cases h;subst_vars;rfl) λHQ A outer s H vs Q E hr h=>?_;obtain⟨o,dx,d2,F,fs,m,r,z,rfl,hk,hf,hm,k⟩:=h;have nd:=xB.nd;have HX:aB 1 _:=hr;refine⟨_,(ap (bF (aO GD HX rfl T.z_ZP (aa (mM (pv 0) rfl) (aa (aR (aa (pv 2) (aa (pv 3) af))) (aa (pv 1) af)))) (by rfl))),?_⟩;obtain⟨d1,hi,_⟩:=hk.ins;refine⟨_,rfl,o,AA.c_KindLook,dx,_,_,rfl,hi,T.cl_KindLook,T.na_KindLook_faults,rfl,?_⟩;refine⟨_,rfl,_,rfl,bg,λt ht=>?_⟩;have s1:=aj (o:=.tup [.int ((r:Nat):Int),.str z]) ht;have HU:=hk.same s1;have e1:ag H t (.tup [.int ((r:Nat):Int),.str z]) t=some (.tup ((kk r z).map kV)):=ah;generalize ag H t (.tup [.int ((r:Nat):Int),.str z])=H1 at s1 HU e1 ⊢;refine⟨_,rfl,d2,.ref t,m,rfl,.inr ⟨_,.inl HU.flt⟩,?_⟩;by_cases e:m=0
 ·rw[if_pos e] at k;exact .inl ⟨e,k _ (bT s1) HU⟩
 rw[if_neg e] at k;obtain⟨a,b⟩:=HU.fault (fs':=cf fs (kk r z));refine .inr ⟨by omega,_,_,b9.t HU.flt e1,?_,fc.t HU.flt e1 ?_,?_⟩
 ·rw[wY];split
  ·exact .inr rfl
  exact .inl rfl
 ·unfold cR;rw[Qg];exact bC hf
 rw[EW];exact k _ ((bT s1).trans b) a
noncomputable def _root_.Mm.Tr.hd:Tr->Option (Str×Str)
 |.df _ n _ _ _=>some ("def",n)
 |.kd _ n _=>some ("kind",n)
 |_=>none
noncomputable def bG(k:Str×Str)(ts:List Tr):Option Tr:=ts.find? λt=>decide (t.hd=some k)
noncomputable def dY(k:Str×Str):List ae:=[.inr k.1,.inr k.2]
theorem Fh(h:dY a=dY b):a=b:=by simp[dY] at h;exact Prod.ext h.1 h.2
def fi(H:Hp)(F:List (List ae×V))(ts:List Tr):Prop:=∀k:Str×Str,(aZ F (dY k)=none/\bG k ts=none)∨∃p v t,aZ F (dY k)=some (.ref p)/\aK H p [v]/\bx H true v t/\bG k ts=some t
theorem fi.kept{F:List (List ae×V)}(h:fi H F ts)(s:bK H H'):fi H' F ts:=λk=>by
 rcases h k with h|⟨p,v,t,a,b,c,d⟩
 ·exact .inl h
 exact .inr ⟨p,v,t,a,b.kept s,c.kept s,d⟩
theorem rL(k:Str×Str)(ts:List Tr)(t:Tr):bG k (ts++[t])=(bG k ts).or (if t.hd=some k then some t else none):=by unfold bG;rw[List.find?_append];by_cases h:t.hd=some k<;>simp[h]
noncomputable def lX:List Str:=["def","kind"]
theorem Fj{t:Tr}(h:PsAt H true vs t.parts):(t.kw∉lX/\t.hd=none)∨(t.kw∈lX/\∃z r,t.hd=some (t.kw,z)/\vs=.str t.kw::.int ((t.row:Nat):Int)::.str z::r):=by
 have g:(t.kw∉lX/\t.hd=none)∨(t.kw∈lX/\∃z ps,t.hd=some (t.kw,z)/\t.parts=.s t.kw::.i t.row::.s z::ps):=by
  cases t with
  |df r n k ps b=>exact .inr ⟨by simp only[Tr.kw];decide +kernel,n,_,rfl,rfl⟩
  |kd r n ps=>exact .inr ⟨by simp only[Tr.kw];decide +kernel,n,_,rfl,rfl⟩
  |_=>exact .inl ⟨by simp only[Tr.kw];decide +kernel,rfl⟩
 rcases g with g|⟨g1,z,ps,g2,g3⟩
 ·exact .inl g
 rw[g3] at h;obtain⟨r,e,h⟩:=fh h;obtain⟨a,r',e',h1,h⟩:=dy h;exact .inr ⟨g1,z,r',g2,by rw[e,e',jl h1]⟩
inductive xC (vs:List V) (H:Hp) (Q:VK) (E:XK):Prop
 |mk:∀(l:Addr) (xs:List V) (ts:List Tr),vs=[.ref l]->H l=some (.lst xs)->LAt H true xs ts->ts.length<=50->(∀d F H',Same H H'->H' d=some (.dT F)->fi H' F ts->Q (.ref d) H')->xC vs H Q E
noncomputable abbrev Fk:List Str:=["tree","found","mask","one","key","rows"]
theorem xD:bf Fk ["tree"] (aJ qL):=by decide +kernel
theorem Fl(T:All P w K mg AA DD):aE P w K mg base aG 2 AA.Zu DD.Zu ["tree"] xC:=by
 have GA:=lS (base:=base) T;have GN:=lR (base:=base) T;have GB:=lV (base:=base) T;refine T.z_Zu.F.ok xD (λvs H Q E h=>by cases h;subst_vars;rfl) λHQ A outer s H vs Q E hr h=>?_;obtain⟨l,xs,ts,rfl,hl,hL,h50,kq⟩:=h;have nd:=xD.nd;have HX:aB 1 _:=hr;have hu:=QE (Nat.add_le_add_left (show 1<=64 by decide) _) hr.units;refine⟨_,(aq (aQ (i:=1) nd rfl (Or.inl rfl) (uN)) (aq (dC PassesOwn.never rfl (cG (pv 0)) (dG rfl (bp (ba (i:=2) nd rfl (Or.inl rfl)) (bp (ba (i:=3) nd rfl (Or.inl rfl)) cV))) (ap (aV (aH lH (av (pv 3)) (aR (aa au (aa au af))) rfl) (aq (aQ (i:=4) nd rfl (Or.inl rfl) (aR (aa (av (pv 3)) (aa (av (pv 3)) af)))) (aq (aQ (i:=5) nd rfl (Or.inl rfl) (jT hu (pv 1) (pv 4) (cb af) ⟨by rfl,by rfl,by rfl,by rfl⟩)) (ap (lr hu (pv 1) (pv 4) (aD pS (pv 5) (aO GB HX rfl T.z_Zs (aa (cb (aa (aR (aa (pv 2) (aa (pv 3) af))) af)) (aa (aO GN HX rfl T.z_ZL (aa (pv 2) (aa (aO GA HX rfl T.z_ZO (aa (pv 5) af)) af))) af)))) rfl)))) be)) (by intro _;rfl)) (ap (aN (pv 1))))),?_⟩;dsimp only[gQ];refine λd hd=>?_;have s1:=aj (o:=.dT []) hd;dsimp only[aP];have K7:=hL.length;have Jy:∀{H':Hp} {F},H' d=some (.dT F)->∀F',bK H' (ag H' d (.dT F')):=λh F'=>lQ h (λ_ z=>nomatch z) (λ_ z=>nomatch z) λ_ _ z=>nomatch z
 refine gW (λσ' H'=>(∃F,H' d=some (.dT F)/\fi H' F ts)/\(∀a,a≠d->∀o,H a=some o->H' a=some o)/\∃x2 x3 x4 x5,σ'=[some (.ref l),some (.ref d),x2,x3,x4,x5]) (λR hR=>?_) ?_
 ·refine⟨_,rfl,l,rfl,⟨_,am.of (s1 _ _ hl)⟩,?_⟩;refine iq (K:=K0) (a:=l) (xs:=xs) (λi σ' H'=>(∃F,H' d=some (.dT F)/\fi H' F (ts.take i)/\F.length<=i)/\(∀a,a≠d->∀o,H a=some o->H' a=some o)/\∃x2 x3 x4 x5,σ'=[some (.ref l),some (.ref d),x2,x3,x4,x5]) ⟨⟨[],ah,λk=>.inl ⟨rfl,rfl⟩,Qh _⟩,λa ha o h=>by rw[ay ha];exact h,_,_,_,_,rfl⟩ (λi σ' H' _ h=>am.of (h.2.1 _ (λz=>by rw[z] at hl;rw[hl] at hd;cases hd) _ hl)) ?_ ?_
  ·rintro i x σ' H1 hx ⟨⟨F,hF,hFs,hFl⟩,sm,x2,x3,x4,x5,rfl⟩;obtain⟨t,ht,hO⟩:=hL.get hx
   have ls1:bK H H1:=⟨λb xs h=>sm b (λz=>by rw[z,hd] at h;cases h) _ h,λb xs h=>sm b (λz=>by rw[z,hd] at h;cases h) _ h,λb o x h=>sm b (λz=>by rw[z,hd] at h;cases h) _ h,λb x h=>sm b (λz=>by rw[z,hd] at h;cases h) _ h⟩
   have hO1:=hO.kept ls1;obtain⟨Lc,et⟩:=Qc ht;rw[Qo Lc,et]
   cases hO1 with
   |plain e _=>cases e
   | @shared p y _ _ hp hS =>
   have K3:=hS
   cases hS with
   | @mk t0 vs _ Jn IL =>
   have hda:=Fj IL;obtain⟨vr,rfl⟩:=oj IL;refine⟨p,_,rfl,ao.of hp,rfl,_,_,rfl,_,_,rfl,rfl,?_⟩;refine aw 0 rfl Jn rfl ⟨bg,λpt KG=>⟨pt,lX.map V.str,rfl,.inr (ao.of ah),rfl,rfl,_,rfl,?_⟩⟩;have s2:=aj (o:=.tup [V.str "def",V.str "kind"]) KG;have ne:∀{a},H1 a=none->a≠d:=λh z=>by rw[z,hF] at h;cases h
   rcases hda with ⟨hh,hn⟩|⟨hh,z,r,hz,ev⟩
   ·refine bh (hV (Qk hh)) ?_;refine⟨⟨F,s2 _ _ hF,λk=>?_,by lia⟩,λa ha o h=>s2 _ _ (sm a ha o h),_,_,_,_,rfl⟩;rw[rL,hn,if_neg (by simp),Option.or_none];exact hFs.kept s2.ls k
   refine bS (hV (Qn hh)) ?_;have ev2:vr=.str z::r:=by injection ev with _ q;injection q
   subst ev2;have Iv:=s2 _ _ Jn;have hF2:=s2 _ _ hF;have hFs2:=hFs.kept s2.ls;have sm2:∀a,a≠d->∀o,H a=some o->ag H1 pt (.tup [V.str "def",V.str "kind"]) a=some o:=λa ha o h=>s2 _ _ (sm a ha o h);have IE:=K3.kept s2.ls;generalize ag H1 pt (.tup [V.str "def",V.str "kind"])=H2 at Iv hF2 hFs2 sm2 IE ⊢;refine aw 0 rfl Iv rfl (aw 2 rfl Iv rfl ⟨bg,λq hq=>?_⟩);have s3:=aj (o:=.tup [.str t.kw,.str z]) hq;dsimp only[aP];refine⟨_,rfl,d,rfl,.inr ⟨F,.inl (s3 _ _ hF2)⟩,_,rfl,cT,λq2 Iw=>?_⟩;have s4:=aj (o:=.lst []) Iw;have s34:=s3.trans s4;have hkk:ag (ag H2 q (.tup [.str t.kw,.str z])) q2 (.lst []) q=some (.tup ((dY (t.kw,z)).map kV)):=s4 _ _ ah;refine⟨_,b9.t (k:=dY (t.kw,z)) (s34 _ _ hF2) hkk,?_⟩
   obtain⟨l3,ks,el3,KI,Ku⟩:∃l3 ks,(aZ F (dY (t.kw,z))).getD (V.ref q2)=.ref l3/\aK (ag (ag H2 q (.tup [.str t.kw,.str z])) q2 (.lst [])) l3 ks/\((ks=[]/\bG (t.kw,z) (ts.take i)=none)∨∃v t',ks=[v]/\bx H2 true v t'/\bG (t.kw,z) (ts.take i)=some t'):=by
    rcases hFs2 (t.kw,z) with ⟨a,b⟩|⟨p',v',t',a,b,c,e⟩
    ·exact⟨q2,[],by rw[a];rfl,aK.nil.mpr ah,.inl ⟨rfl,b⟩⟩
    exact⟨p',[v'],by rw[a];rfl,b.kept s34.ls,.inr ⟨v',t',rfl,c,e⟩⟩
   rw[el3];dsimp only[aP];refine⟨_,rfl,_,rfl,_,rfl,bg,λtp Ji=>⟨ij,λlp hlp=>?_⟩⟩;have s6:=aj (o:=.lst [.ref tp]) hlp;have s56:=(aj (o:=.tup [.int 1,.ref t0]) Ji).trans s6;have hlp6:aK _ lp [.ref t0]:=aK.one.mpr ⟨tp,ah,s6 _ _ ah⟩;have hl6:=KI.kept s56.ls;have hkk6:=s56 _ _ hkk;have s26:=s34.trans s56;clear s6 s56 KI hkk;generalize ag (ag (ag (ag H2 _ _) _ _) _ _) _ _=H6 at hlp6 hl6 hkk6 s26 ⊢;have hF6:=s26 _ _ hF2;obtain⟨ys,hy,hP2,hye⟩:=hl6.p1;refine⟨_,rfl,_,rfl,l3,ys,rfl,hy,hP2,?_⟩;refine⟨1,(if ys=[] then 0 else 1),?_,?_⟩
   ·split<;>rfl
   generalize hm:(1^^^(1&&&(if ys=[] then 0 else 1)):Nat)=m
   have hm1:m<=1/\∃v t',ks++(if m=0 then [] else [V.ref t0])=[v]/\bx H6 true v t'/\bG (t.kw,z) (ts.take i++[t])=some t':=by
    rw[rL,if_pos hz]
    rcases Ku with ⟨e1,e2⟩|⟨v,t',e1,e2,e3⟩
    ·rw[if_pos (hye.mpr e1)] at hm;subst hm e1;exact⟨by decide,_,t,rfl,IE.kept s26.ls,by rw[e2];rfl⟩
    rw[if_neg (λq=>by have:=hye.mp q;rw[e1] at this;cases this)] at hm;subst hm e1;exact⟨by decide,v,t',rfl,e2.kept s26.ls,by rw[e3];rfl⟩
   obtain⟨hmle,v,t',ekv,hSv,Ll⟩:=hm1;refine⟨lp,[.ref t0],m,rfl,hmle,hlp6,by simp,λp3 H7 s7 hK7=>?_⟩;obtain⟨xs1,ys1,h1,h2,h3,h4,h5⟩:=(hl6.kept s7.ls).cat hK7;refine⟨l3,p3,xs1,ys1,rfl,rfl,h1,h2,?_,λl8 hl8=>?_⟩
   ·have e3:=congrArg List.length ekv;rw[Qi,<-h3,<-h4] at e3;rw[e3];show 1<=sizeLine;decide
   have hK8:=h5 l8 hl8;rw[ekv] at hK8;have s8:=aj (o:=.lst (xs1++ys1)) hl8;have K4:=s7.trans s8;have hF8:=K4 _ _ hF6;have hFs8:=hFs2.kept (s26.trans K4).ls;have lsd:=Jy hF8 (cc F (dY (t.kw,z)) (.ref l8));refine⟨_,rfl,_,rfl,d,_,rfl,fc.t hF8 (K4 _ _ hkk6) (bC (by lia)),⟨_,ah,λk=>?_,?_⟩,λa ha o h=>by rw[ay ha];exact(s26.trans K4) _ _ (sm2 a ha o h),_,_,_,_,rfl⟩
   ·rw[mT];by_cases hk:k=(t.kw,z)
    ·subst hk;rw[if_pos rfl];exact .inr ⟨l8,v,t',rfl,hK8.kept lsd,(hSv.kept K4.ls).kept lsd,Ll⟩
    rw[if_neg (λq=>hk (Fh q)),rL,if_neg (λq=>hk (by rw[hz] at q;exact(Qs q).symm)),Option.or_none];exact hFs8.kept lsd k
   have:=ln F (dY (t.kw,z)) (V.ref l8);lia
  rintro σ' H1 ⟨⟨F,a,b,_⟩,sm,x2,x3,x4,x5,rfl⟩;rw[QC (by lia)] at b;exact hR _ _ ⟨⟨F,a,b⟩,sm,_,_,_,_,rfl⟩
 rintro σ' H1 ⟨⟨F,a,b⟩,sm,x2,x3,x4,x5,rfl⟩;refine⟨_,rfl,kq d F _ (λb o h=>sm b (λz=>by rw[z,hd] at h;cases h) o h) a b⟩
noncomputable def _root_.Mm.Tr.prs:Tr->List (Str×Str)
 |.df _ _ _ ps _=>ps
 |.kd _ _ ps=>ps
 |_=>[]
inductive xF (vs:List V) (H:Hp) (Q:VK) (E:XK):Prop
 |mk:∀(v:V) (t:Tr),vs=[v]->bx H true v t->t.hd≠none->(∀x,eS H x t.prs->Q x H)->xF vs H Q E
noncomputable abbrev Fm:List Str:=["one"]
theorem xG:bf Fm ["one"] (aJ qM):=by decide +kernel
theorem Fn(T:All P w K mg AA DD):aE P w K mg base aG 1 AA.ZG DD.ZG ["one"] xF:=by
 refine T.z_ZG.F.ok xG (λvs H Q E h=>by cases h;subst_vars;rfl) λHQ A outer s H vs Q E hr h=>?_;obtain⟨v,t,rfl,hS,hn,k⟩:=h;have nd:=xG.nd
 obtain⟨t0,vs,j,x,ev,ht,h0,hj,hp,hb⟩:∃t0 vs j x,v=.ref t0/\H t0=some (.tup vs)/\vs[0]?=some (.str t.kw)/\vs[j]?=some x/\eS H x t.prs/\((t.kw="def"/\j=4)∨(t.kw≠"def"/\j=3)):=by
  cases t with
  |df r n kd ps b=>obtain⟨t0,vp,_,_,e1,ht,hp,_⟩:=wH hS;exact⟨t0,_,4,vp,e1,ht,rfl,rfl,hp,.inl ⟨rfl,rfl⟩⟩
  |kd r n ps=>obtain⟨t0,vp,e1,ht,hp⟩:=rp hS;exact⟨t0,_,3,vp,e1,ht,rfl,rfl,hp,.inr ⟨by show("kind":Str)≠"def";decide,rfl⟩⟩
  |_=>exact absurd rfl hn
 subst ev;refine⟨_,(ap (aN (kT (aH bi (av (pv 0)) au (aI _)) (av (pv 0)) (av (pv 0))))),?_⟩;refine⟨_,rfl,t0,_,_,_,rfl,rfl,ao.of ht,aY (j:=0) h0,rfl,_,rfl,?_⟩;rcases hb with ⟨hw,e⟩|⟨hw,e⟩<;>subst e
 ·exact bS (Qn (by rw[hw])) ⟨_,rfl,t0,_,_,_,rfl,rfl,ao.of ht,aY (j:=4) hj,k _ hp⟩
 exact cQ hw ⟨_,rfl,t0,_,_,_,rfl,rfl,ao.of ht,aY (j:=3) hj,k _ hp⟩
noncomputable def cy(ts:List Tr):Nat:=match ts.getLast? with
 |some (.give _ _)=>1
 |_=>0
theorem xH(ts:List Tr)(t:Tr):cy (ts++[t])=if t.kw="give" then 1 else 0:=by
 unfold cy;rw[List.getLast?_concat]
 cases t with
 |give r e=>rfl
 |_=>rw[if_neg (by simp only[Tr.kw];decide +kernel)]
theorem xI(ts:List Tr):cy ts=0∨cy ts=1:=by
 unfold cy;split
 ·exact .inr rfl
 exact .inl rfl
inductive xJ (vs:List V) (H:Hp) (Q:VK) (E:XK):Prop
 |mk:∀(l:Addr) (xs:List V) (ts:List Tr),vs=[.ref l]->H l=some (.lst xs)->LAt H true xs ts->Q (.int ((cy ts:Nat):Int)) H->xJ vs H Q E
noncomputable abbrev Fo:List Str:=["body","found","mask","one"]
theorem xK:bf Fo ["body"] (aJ qQ):=by decide +kernel
theorem Fp(T:All P w K mg AA DD):aE P w K mg base aG 2 AA.ZQ DD.ZQ ["body"] xJ:=by
 have GN:=lR (base:=base) T;refine T.z_ZQ.F.ok xK (λvs H Q E h=>by cases h;subst_vars;rfl) λHQ A outer s H vs Q E hr h=>?_;obtain⟨l,xs,ts,rfl,hl,hL,k⟩:=h;have nd:=xK.nd;have HX:aB 1 _:=hr;refine⟨_,(aq (aQ (i:=1) nd rfl (Or.inl rfl) ar) (aq (dC PassesOwn.never rfl (cG (pv 0)) (dG rfl (bp (ba (i:=2) nd rfl (Or.inl rfl)) (bp (ba (i:=3) nd rfl (Or.inl rfl)) cV))) (ap (aV (aH bi (av (pv 3)) au (aI _)) (ap (aQ (i:=1) nd rfl (Or.inl rfl) (aD pA (pv 1) (pv 2)))) (ap (aQ (i:=1) nd rfl (Or.inl rfl) (aO GN HX rfl T.z_ZL (aa (pv 1) (aa (pv 2) af))))))) (by intro _;rfl)) (ap (aN (pv 1))))),?_⟩;refine lu ?_;dsimp only[aP];have K7:=hL.length;refine gW (λσ' H'=>H'=H/\∃x2 x3,σ'=[some (.ref l),some (.int ((cy ts:Nat):Int)),x2,x3]) (λR hR=>?_) ?_
 ·refine⟨_,rfl,l,rfl,⟨_,am.of hl⟩,?_⟩;refine iq (K:=K0) (a:=l) (xs:=xs) (λi σ' H'=>H'=H/\∃x2 x3,σ'=[some (.ref l),some (.int ((cy (ts.take i):Nat):Int)),x2,x3]) ⟨rfl,_,_,rfl⟩ (λi σ' H' _ h=>by rw[h.1];exact am.of hl) ?_ ?_
  ·rintro i x σ' H1 hx ⟨rfl,x2,x3,rfl⟩;obtain⟨t,ht,hO⟩:=hL.get hx;obtain⟨Lc,et⟩:=Qc ht;rw[Qo Lc,et,xH];have h01:=xI (ts.take i);generalize cy (ts.take i)=m at h01
   cases hO with
   |plain e _=>cases e
   | @shared p y _ _ hp hS =>
   cases hS with
   | @mk t0 vs _ Jn IL =>
   obtain⟨vr,rfl⟩:=oj IL;refine⟨p,_,rfl,ao.of hp,rfl,_,_,rfl,_,_,rfl,rfl,?_⟩;refine aw 0 rfl Jn rfl ⟨rfl,_,rfl,?_⟩;by_cases hw:t.kw="give"
   ·refine bS (Qn (by rw[hw])) ?_;refine⟨_,rfl,_,rfl,_,_,rfl,rfl,rfl,some (.int 1),some (.ref t0),?_⟩;rw[if_pos hw];rcases h01 with rfl|rfl<;>rfl
   refine cQ hw ?_;refine⟨_,rfl,_,rfl,m,1,rfl,rfl,some (.int 1),some (.ref t0),?_⟩;rw[if_neg hw];rcases h01 with rfl|rfl<;>rfl
  rintro σ' H1 ⟨rfl,x2,x3,rfl⟩;rw[QC (by lia)];exact hR _ _ ⟨rfl,_,_,rfl⟩
 rintro σ' H1 ⟨rfl,x2,x3,rfl⟩;exact⟨_,rfl,k⟩
noncomputable def kz:List (Str×Str):=[("num","num"),("truth","truth"),("+","num"),("-","num"),("*","num"),("less","truth"),("same","truth"),("and","truth"),("or","truth"),("not","truth")]
noncomputable def kB:List (Str×Str):=[("+","num"),("-","num"),("*","num"),("less","num"),("same","num"),("and","truth"),("or","truth"),("not","truth")]
noncomputable def gg:Ex->Str
 |.num _=>"num"
 |.truth _=>"truth"
 |.not _=>"not"
 |.op w _ _=>w
 |_=>"num"
noncomputable def iP(e:Ex):Str:=(kz.lookup (gg e)).getD "num"
noncomputable def gC(e:Ex):Str:=(kB.lookup (gg e)).getD "truth"
theorem Fq:∀z∈j7,(kz.lookup z).isSome=true/\(kB.lookup z).isSome=true/\z≠"name"/\z≠"do"/\z≠"new"/\z≠"of":=by decide +kernel
theorem rM:∀z∈(["num","truth","not"]:List Str),(kz.lookup z).isSome=true/\z≠"name"/\z≠"do"/\z≠"new"/\z≠"of":=by decide +kernel
theorem Fs:kB.lookup ("not":Str)=some "truth":=by decide +kernel
theorem Ft{e:Ex}(h:aU H v e)(hp:e.bas)(hn:∀z,e≠.name z):∃(t:Addr) (ys:List V),v=.ref t/\H t=some (.tup (.str (gg e)::ys))/\gg e≠"name"/\gg e≠"do"/\gg e≠"new"/\gg e≠"of"/\kz.lookup (gg e)=some (iP e)/\(e.kids≠[]->kB.lookup (gg e)=some (gC e)):=by
 have g:∀{l:List (Str×Str)} {z d:Str},(l.lookup z).isSome=true->l.lookup z=some ((l.lookup z).getD d):=λ{l z d} hs=>by
  cases h:l.lookup z with
  |none=>rw[h] at hs;cases hs
  |some x=>rfl
 cases h with
 |num h =>
  obtain⟨m1,n1,n2,n3,n4⟩:=rM "num" (by simp);exact⟨_,_,rfl,h,n1,n2,n3,n4,g m1,λz=>absurd rfl z⟩
 |truth h =>
  obtain⟨m1,n1,n2,n3,n4⟩:=rM "truth" (by simp);exact⟨_,_,rfl,h,n1,n2,n3,n4,g m1,λz=>absurd rfl z⟩
 |name h=>exact(hn _ rfl).elim
 |not h a =>
  obtain⟨m1,n1,n2,n3,n4⟩:=rM "not" (by simp);exact⟨_,_,rfl,h,n1,n2,n3,n4,g m1,λ_=>g (by show(kB.lookup ("not":Str)).isSome=true;rw[Fs];rfl)⟩
 |op h a b =>
  obtain⟨m1,m2,n1,n2,n3,n4⟩:=Fq _ hp.1;exact⟨_,_,rfl,h,n1,n2,n3,n4,g m1,λ_=>g m2⟩
 |of h a=>exact hp.elim
 |many h l a=>exact hp.elim
mutual
def _root_.Mm.Ex.dos:Ex->Prop
 |.num _=>True
 |.truth _=>True
 |.name _=>True
 |.not e=>e.dos
 |.op w a b=>w∈j7/\a.dos/\b.dos
 |.of _ e=>e.dos
 |.many w _ es=>(w="do"∨w="new")/\kC es
def kC:List Ex->Prop
 | []=>True
 |e::es=>e.dos/\kC es
end
theorem xL:∀{es:List Ex} {e:Ex},kC es->e∈es->e.dos
 |x::es,e,g,h=>by
  rcases Qx h with z|z
  ·subst z;exact g.1
  exact xL g.2 z
theorem Fu{e:Ex}(h:e.dos)(hm:∀w z es,e≠.many w z es)(ho:∀n x,e≠.of n x):e.bas:=by
 cases e with
 |op w a b=>exact⟨h.1,trivial⟩
 |of n e=>exact(ho _ _ rfl).elim
 |many w z es=>exact(hm _ _ _ rfl).elim
 |_=>trivial
theorem Fv{e:Ex}(hg:e.dos):∀x∈e.kids,x.dos/\x.deep+1<=e.deep:=by
 cases e with
 |not e=>intro x h;simp[Ex.kids] at h;subst h;exact⟨hg,by simp[Ex.deep]⟩
 |op w a b =>
  intro x h;simp[Ex.kids] at h;rcases h with rfl|rfl
  ·exact⟨hg.2.1,by simp[Ex.deep];lia⟩
  exact⟨hg.2.2,by simp[Ex.deep];lia⟩
 |_=>intro x h;simp[Ex.kids] at h
abbrev Env:=Str->Option Kd
structure cS(H:Hp)(d:Addr)(ρ:Env)(n:Nat):Prop where
 ex:∃kvs:List (ae×V),H d=some (.dK kvs)/\kvs.length<=n/\∀z:Str,(aZ kvs (.inr z)=none/\ρ z=none)∨∃p,aZ kvs (.inr z)=some (.ref p)/\KL H p (ρ z).toList
theorem cS.kept{d:Addr}(h:cS H d ρ n)(s:bL H H'):cS H' d ρ n:=by
 obtain⟨⟨kvs,a,b,c⟩⟩:=h;refine⟨⟨kvs,s.dk _ _ a,b,λz=>?_⟩⟩
 rcases c z with h|⟨p,h1,h2⟩
 ·exact .inl h
 exact .inr ⟨p,h1,h2.kept s.ls⟩
theorem gD(o:Option Kd):o.toList.length<=1:=by cases o<;>simp
noncomputable def _root_.Mm.Tr.knd:Tr->Str
 |.df _ _ k _ _=>k
 |_=>""
noncomputable def dn(w:Str):Str:=if w="do" then "def" else "kind"
theorem lY:dn "do"="def":=if_pos rfl
theorem lZ:dn "new"="kind":=if_neg (by decide)
noncomputable def gh(ps:List (Str×Str))(n:Str):Option Str:=ps.foldl (λo p=>if p.1=n then some p.2 else o) none
noncomputable def dZ(ts:List Tr)(k:Kd)(n:Str):Kd:=match k with
 |none=>none
 |some k=>match bG ("kind",k) ts with
  |none=>none
  |some t=>gh t.prs n
noncomputable def cA(ts:List Tr)(ρ:Env):Ex->Option Kd
 |.name z=>ρ z
 |.many w z _=>(bG (dn w,z) ts).map λt=>some (if w="do" then t.knd else z)
 |.of n e=>(cA ts ρ e).map λk=>dZ ts k n
 |.num n=>some (some (iP (.num n)))
 |.truth n=>some (some (iP (.truth n)))
 |.not e=>some (some (iP (.not e)))
 |.op w a b=>some (some (iP (.op w a b)))
noncomputable def kD(ts:List Tr)(r:Nat)(k:Kd)(n:Str)(fs:List (List ae)):List (List ae):=match k with
 |none=>fs
 |some k=>if dZ ts (some k) n=none then cf fs (kk r "field") else fs
noncomputable def l0(ts:List Tr)(r:Nat)(o:Option Kd)(n:Str)(fs:List (List ae)):List (List ae):=match o with
 |none=>fs
 |some k=>kD ts r k n fs
noncomputable def eK(r:Nat)(k:Option Kd)(HZ:Str)(fs:List (List ae)):List (List ae):=if dz k.toList HZ=0 then fs else cf fs (kk r "kind")
mutual
noncomputable def aW(ts:List Tr)(ρ:Env)(r:Nat):Ex->List (List ae)->List (List ae)
 |.not e,fs=>eK r (cA ts ρ e) "truth" (aW ts ρ r e fs)
 |.op w a b,fs=>eK r (cA ts ρ b) (gC (.op w a b)) (aW ts ρ r b (eK r (cA ts ρ a) (gC (.op w a b)) (aW ts ρ r a fs)))
 |.many w z es,fs=>match bG (dn w,z) ts with
  |none=>fs
  |some t=>kfZ ts ρ r es t.prs fs
 |.num _,fs=>fs
 |.truth _,fs=>fs
 |.name _,fs=>fs
 |.of n e,fs=>l0 ts r (cA ts ρ e) n (aW ts ρ r e fs)
noncomputable def kfZ(ts:List Tr)(ρ:Env)(r:Nat):List Ex->List (Str×Str)->List (List ae)->List (List ae)
 | [],_,fs=>fs
 |e::es,qs,fs=>match qs with
  | []=>fs
  |q::qs=>kfZ ts ρ r es qs (eK r (cA ts ρ e) q.2 (aW ts ρ r e fs))
end
noncomputable def gE(ts:List Tr)(ρ:Env)(r:Nat)(HZ:Str)(fs:List (List ae))(c:Ex):List (List ae):=eK r (cA ts ρ c) HZ (aW ts ρ r c fs)
theorem Fw(ts:List Tr)(ρ:Env)(r:Nat)(e:Ex)(h:e.bas)(fs:List (List ae)):aW ts ρ r e fs=e.kids.foldl (gE ts ρ r (gC e)) fs:=by
 cases e with
 |of n e=>exact h.elim
 |many w n es=>exact h.elim
 |_=>simp[aW,Ex.kids,gE]<;>rfl
theorem xM(ts:List Tr)(ρ:Env)(r:Nat):∀(es:List Ex) (qs:List (Str×Str)) (fs:List (List ae)),kfZ ts ρ r es qs fs=(es.zip qs).foldl (λfs x=>gE ts ρ r x.2.2 fs x.1) fs
 | [],qs,fs=>by simp[kfZ]
 |e::es,[],fs=>by simp[kfZ]
 |e::es,q::qs,fs=>by rw[kfZ,xM ts ρ r es qs];rfl
theorem rN(fs:List (List ae))(k:List ae):(cf fs k).length<=fs.length+1:=by
 unfold cf;split
 ·lia
 simp
theorem Fx{fs:List (List ae)}{k:List ae}(h:k∈fs):cf fs k=fs:=by unfold cf;rw[if_pos (List.any_eq_true.mpr ⟨k,h,Qn rfl⟩)]
def bU(r:Nat)(fs gs:List (List ae)):Prop:=∃us,gs=fs++us/\us.Nodup/\∀u∈us,u∉fs/\(u=kk r "kind"∨u=kk r "field")
theorem bU.refl(r:Nat)(fs:List (List ae)):bU r fs fs:=⟨[],by simp,by simp,λu h=>by cases h⟩
theorem bU.add{fs gs:List (List ae)}{k:List ae}(h:bU r fs gs)(hk:k=kk r "kind"∨k=kk r "field"):bU r fs (cf gs k):=by
 obtain⟨us,rfl,nd,hu⟩:=h;by_cases hm:k∈fs++us
 ·rw[Fx hm];exact⟨us,rfl,nd,hu⟩
 have e:cf (fs++us) k=fs++(us++[k]):=by unfold cf;rw[if_neg λz=>hm (by obtain⟨x,hx,q⟩:=List.any_eq_true.mp z;have q:x=k:=QO q;exact q ▸ hx),QX]
 rw[e];refine⟨_,rfl,List.nodup_append.mpr ⟨nd,by simp,λa ha b hb z=>?_⟩,λu h=>?_⟩
 ·rw[Qj hb] at z;exact hm (Qu _ (z ▸ ha))
 rcases Qv h with q|q
 ·exact hu u q
 rw[Qj q];exact⟨λz=>hm (QQ _ z),hk⟩
theorem bU.tr{fs gs hs:List (List ae)}(a:bU r fs gs)(b:bU r gs hs):bU r fs hs:=by
 obtain⟨us,rfl,n1,h1⟩:=a;obtain⟨vs,rfl,n2,h2⟩:=b;refine⟨us++vs,by rw[QX],List.nodup_append.mpr ⟨n1,n2,λa ha b hb z=>?_⟩,λu h=>?_⟩
 ·exact(h2 b hb).1 (Qu _ (z ▸ ha))
 rcases Qv h with q|q
 ·exact h1 u q
 exact⟨λz=>(h2 u q).1 (QQ _ z),(h2 u q).2⟩
theorem bU.len{r:Nat}{fs gs:List (List ae)}(h:bU r fs gs):gs.length<=fs.length+2:=by
 obtain⟨us,rfl,nd,hu⟩:=h;rw[Qi]
 have:us.length<=2:=by
  match us,nd,hu with
  | [],_,_=>simp
  | [_],_,_=>simp
  | [_,_],_,_=>simp
  |a::b::c::us,nd,hu =>
   exfalso;simp only[List.nodup_cons,List.mem_cons,not_or] at nd;have ha:=(hu a (by simp)).2;have hb:=(hu b (by simp)).2;have hc:=(hu c (by simp)).2;obtain⟨⟨ab,ac,_⟩,⟨bc,_⟩,_⟩:=nd;rcases ha with rfl|rfl<;>rcases hb with rfl|rfl<;>rcases hc with rfl|rfl<;>first|exact ab rfl|exact ac rfl|exact bc rfl
 lia
theorem bU.ask(kd:Option Kd)(HZ:Str){fs gs:List (List ae)}(h:bU r fs gs):bU r fs (eK r kd HZ gs):=by
 unfold eK;split
 ·exact h
 exact h.add (.inl rfl)
theorem bU.fld(o:Option Kd)(n:Str){fs gs:List (List ae)}(h:bU r fs gs):bU r fs (l0 ts r o n gs):=by
 unfold l0 kD;split
 ·exact h
 split
 ·exact h
 split
 ·exact h.add (.inr rfl)
 exact h
mutual
theorem fN(ts:List Tr)(ρ:Env)(r:Nat):∀(e:Ex) (fs:List (List ae)),bU r fs (aW ts ρ r e fs)
 |.not e,fs=>by rw[aW];exact(fN ts ρ r e fs).ask _ _
 |.op w a b,fs=>by rw[aW];exact(((fN ts ρ r a fs).ask _ _).tr (fN ts ρ r b _)).ask _ _
 |.many w z es,fs=>by
  rw[aW];split
  ·exact .refl _ _
  exact kfZ_two ts ρ r es _ fs
 |.num _,fs=>by rw[aW];exact .refl _ _
 |.truth _,fs=>by rw[aW];exact .refl _ _
 |.name _,fs=>by rw[aW];exact .refl _ _
 |.of n e,fs=>by rw[aW];exact(fN ts ρ r e fs).fld _ _
theorem kfZ_two(ts:List Tr)(ρ:Env)(r:Nat):∀(es:List Ex) (qs:List (Str×Str)) (fs:List (List ae)),bU r fs (kfZ ts ρ r es qs fs)
 | [],qs,fs=>by rw[kfZ];exact .refl _ _
 |e::es,[],fs=>by rw[kfZ];exact .refl _ _
 |e::es,q::qs,fs=>by rw[kfZ];exact((fN ts ρ r e fs).ask _ _).tr (kfZ_two ts ρ r es qs _)
end
def iQ(r:Nat)(fs:List (List ae)):Prop:=∃B,bU r B fs/\B.length<890
theorem iQ.then{r:Nat}{fs gs:List (List ae)}(h:iQ r fs)(q:bU r fs gs):iQ r gs:=by obtain⟨B,a,b⟩:=h;exact⟨B,a.tr q,b⟩
theorem iQ.len{r:Nat}{fs:List (List ae)}(h:iQ r fs):fs.length<900:=by obtain⟨B,a,b⟩:=h;have:=a.len;lia
theorem bU.fold(ts:List Tr)(ρ:Env){fs:List (List ae)}:∀(xs:List (Ex×(Str×Str))) (gs:List (List ae)),bU r fs gs->bU r fs (xs.foldl (λfs x=>gE ts ρ r x.2.2 fs x.1) gs)
 | [],gs,h=>h
 |x::xs,gs,h=>bU.fold ts ρ xs _ ((h.tr (fN ts ρ r x.1 gs)).ask _ _)
inductive jn (C:Addr) (k:Nat) (vs:List V) (H:Hp) (Q:VK) (E:XK):Prop
 |mk:∀(o dx d2:Addr) (F:List (List ae×V)) (ts:List Tr) (fs:List (List ae)) (v:V) (d3:Addr) (ρ:Env) (n:Nat) (e:Ex) (r:Nat),vs=[.ref o,.int 1,v,.int ((r:Nat):Int),.ref d3]->aU H v e->e.dos->cS H d3 ρ n->fi H F ts->e.deep<k->bz H C o dx d2 F fs->iQ r fs->(∀p H',bL H H'->bz H' C o dx d2 F (aW ts ρ r e fs)->KL H' p (cA ts ρ e).toList->Q (.ref p) H')->jn C k vs H Q E
inductive ou (C:Addr) (k:Nat) (vs:List V) (H:Hp) (Q:VK) (E:XK):Prop
 |mk:∀(o dx d2:Addr) (F:List (List ae×V)) (ts:List Tr) (fs:List (List ae)) (v:V) (d3:Addr) (ρ:Env) (n:Nat) (e:Ex) (r:Nat) (HZ:Str),vs=[.ref o,.int 1,v,.str HZ,.int ((r:Nat):Int),.ref d3]->aU H v e->e.dos->cS H d3 ρ n->fi H F ts->e.deep<k->bz H C o dx d2 F fs->iQ r fs->(∀H',bL H H'->bz H' C o dx d2 F (gE ts ρ r HZ fs e)->Q .non H')->ou C k vs H Q E
noncomputable abbrev Fy:List Str:=Yi
theorem xN:bf Fy Yi (aJ rh):=by decide +kernel
theorem xO(T:All P w K mg AA DD)(k:Nat)(GKO:aE P w K mg base aG (3*k+3) AA.Zg DD.Zg Yj (jn AA.c_KindLook k)) :
  aE P w K mg base aG (3*k+4) AA.Zp DD.Zp Yi (ou AA.c_KindLook k):=by
 have GU:=rJ (base:=base) T;have GO:=lW (base:=base) T;refine T.z_Zp.F.ok xN (λvs H Q E h=>by cases h;subst_vars;rfl) λHQ A outer s H vs Q E hr h=>?_;obtain⟨o,dx,d2,F,ts,fs,v,d3,ρ,n,e,r,HZ,rfl,hE,hp,hn,hF,hd,hk,hf,k'⟩:=h;have nd:=xN.nd;have KW:aB (3*k+3) _:=hr;have Iz:aB 2 _:=KW.mono (by lia);refine⟨_,(ap (bF (cM (pv 0) T.cl_KindLook T.M_Zm GO Iz T.z_Zm.b .nil cD (aa (aO GU Iz rfl T.z_ZS (aa (cM (pv 0) T.cl_KindLook T.M_Zg GKO KW T.z_Zg.b .nil cD (aa (pv 1) (aa (pv 2) (aa (pv 4) (aa (pv 5) af))))) (aa (pv 3) af))) (aa (pv 4) (aa au af)))) (by rfl))),?_⟩;obtain⟨d1,hi,_⟩:=hk.ins;refine⟨_,rfl,o,dx,_,rfl,hi,rfl,_,rfl,o,dx,_,rfl,hi,rfl,?_⟩;refine⟨_,rfl,_,rfl,_,rfl,_,rfl,o,dx,d2,F,ts,fs,v,d3,ρ,n,e,r,rfl,hE,hp,hn,hF,hd,hk,hf,λp H1 ls1 HU Le=>?_⟩;refine⟨_,rfl,p,_,HZ,rfl,Le,gD _,λH2 s2=>⟨_,rfl,?_⟩⟩;have hl:=(hf.then (fN ts ρ r e fs)).len;exact⟨o,dx,d2,F,aW ts ρ r e fs,dz (cA ts ρ e).toList HZ,r,"kind",rfl,HU.same s2,by lia,oq _ _,λH3 K6 Iy=>k' _ ((ls1.trans (bT s2)).trans K6) Iy⟩
def Fz(H:Hp)(p:Addr)(o:Option Tr):Prop:=match o with
 |none=>aK H p []
 |some t=>∃y,aK H p [y]/\bx H true y t
inductive rO (C:Addr) (k:Nat) (vs:List V) (H:Hp) (Q:VK) (E:XK):Prop
 |mk:∀(o dx d2:Addr) (F:List (List ae×V)) (ts:List Tr) (fs:List (List ae)) (v:V) (d3:Addr) (ρ:Env) (n:Nat) (w z:Str) (es:List Ex) (r:Nat),vs=[.ref o,.int 1,v,.str (dn w),.int ((r:Nat):Int),.ref d3]->aU H v (.many w z es)->kC es->cS H d3 ρ n->fi H F ts->g6 es<k->bz H C o dx d2 F fs->iQ r fs->(∀p H',bL H H'->bz H' C o dx d2 F (aW ts ρ r (.many w z es) fs)->Fz H' p (bG (dn w,z) ts)->Q (.ref p) H')->rO C k vs H Q E
noncomputable abbrev FC:List Str:=["self","mask","e","word","at","names","rows","here","one","inner","pair"]
theorem xP:bf FC Yk (aJ ri):=by decide +kernel
theorem FE(T:All P w K mg AA DD)(k:Nat)(GAK:aE P w K mg base aG (3*k+4) AA.Zp DD.Zp Yi (ou AA.c_KindLook k)) :
  aE P w K mg base aG (3*k+5) AA.Zc DD.Zc Yk (rO AA.c_KindLook k):=by
 have GB:=lV (base:=base) T;have GPO:=Fn (base:=base) T;refine T.z_Zc.F.ok xP (λvs H Q E h=>by cases h;subst_vars;rfl) λHQ A outer s H vs Q E hr h=>?_;obtain⟨o,dx,d2,F,ts,fs,v,d3,ρ,n,w,z,es,r,rfl,hE,hg,hn,hF,hd,hk,hf,kq⟩:=h;have nd:=xP.nd;have hrA:aB (3*k+4) _:=hr;have HX:aB 1 _:=hrA.mono (by lia);have hu:=QE (Nat.add_le_add_left (show 1<=64 by decide) _) hr.units;refine⟨_,(aq (aQ (i:=6) nd rfl (Or.inl rfl) (aO GB HX rfl T.z_Zs (aa (jT hu (mM (pv 0) rfl) (aR (aa (pv 3) (aa (av (pv 2)) af))) (cb af) ⟨by rfl,by rfl,by rfl,by rfl⟩) (aa (pv 1) af)))) (aq (dC PassesOwn.never rfl (cG (pv 6)) (dG rfl (bp (ba (i:=7) nd rfl (Or.inl rfl)) (bp (ba (i:=8) nd rfl (Or.inl rfl)) cV))) (ap (dC PassesOwn.never rfl (uQ false rfl T.n_zip (aa (av (pv 2)) (aa (aO GPO HX rfl T.z_ZG (aa (pv 8) af)) af))) (dG rfl (bp (ba (i:=9) nd rfl (Or.inl rfl)) (bp (ba (i:=10) nd rfl (Or.inl rfl)) cV))) (ap (bF (cM (pv 0) T.cl_KindLook T.M_Zp GAK hrA T.z_Zp.b .nil cD (aa (pv 7) (aa (pv 9) (aa (av (pv 10)) (aa (pv 4) (aa (pv 5) af)))))) (by rfl))) (by intro _;rfl))) (by intro _;rfl)) (ap (aN (pv 6))))),?_⟩
 cases hE with
 | @many t l _ _ vs _ ht hl Jm =>
 obtain⟨d1,hi,Kg,HL⟩:=hk.ins;refine⟨_,rfl,o,AA.c_KindLook,dx,_,_,rfl,hi,T.cl_KindLook,T.na_KindLook_firsts,rfl,d1,rfl,.inr ⟨F,.inl Kg⟩,?_⟩;refine⟨_,rfl,aw 1 rfl ht rfl ⟨bg,λq hq=>⟨cT,λq2 Iw=>?_⟩⟩⟩;have s1:=aj (o:=.tup [.str (dn w),.str z]) hq;have s2:=aj (o:=.lst []) Iw;have Ko:=s1.trans s2;have hkk:ag (ag H q (.tup [.str (dn w),.str z])) q2 (.lst []) q=some (.tup ((dY (dn w,z)).map kV)):=s2 _ _ ah;refine⟨_,b9.t (k:=dY (dn w,z)) (Ko _ _ Kg) hkk,_,rfl,?_⟩
 obtain⟨l3,ks,el3,KI,Ku⟩:∃l3 ks,(aZ F (dY (dn w,z))).getD (V.ref q2)=.ref l3/\aK (ag (ag H q (.tup [.str (dn w),.str z])) q2 (.lst [])) l3 ks/\((ks=[]/\bG (dn w,z) ts=none)∨∃y t',ks=[y]/\bx H true y t'/\bG (dn w,z) ts=some t'):=by
  rcases hF (dn w,z) with ⟨a,b⟩|⟨p',v',t',a,b,c,e⟩
  ·exact⟨q2,[],by rw[a];rfl,aK.nil.mpr ah,.inl ⟨rfl,b⟩⟩
  exact⟨p',[v'],by rw[a];rfl,b.kept Ko.ls,.inr ⟨v',t',rfl,c,e⟩⟩
 rw[el3];refine⟨l3,ks,1,rfl,Qh _,KI,?_,λp H3 s3 JI=>?_⟩
 ·rcases Ku with ⟨e,_⟩|⟨y,t',e,_⟩<;>rw[e]<;>simp
 rw[if_neg (by decide)] at JI;have Jl:=Ko.trans s3;have Iy:=hk.same Jl;have Kr:=Jl _ _ ht;have hl3':=Jl _ _ hl;have hvs3:=Jm.kept Jl.ls.1;have hn3:=hn.kept (bT Jl);have hF3:=hF.kept Jl.ls;have lk3:=bT Jl;dsimp only[aP]
 rcases Ku with ⟨rfl,KZ⟩|⟨y,t',rfl,hSy,Ll⟩
 ·have hp:=aK.nil.mp JI;refine⟨_,rfl,p,rfl,⟨_,am.of hp⟩,rF hp ⟨_,rfl,kq p H3 lk3 ?_ ?_⟩⟩
  ·rw[aW,KZ];exact Iy
  rw[KZ];exact JI
 obtain⟨u0,hp,JY⟩:=aK.one.mp JI;have hSy:=hSy.kept Jl.ls;refine⟨_,rfl,p,rfl,⟨_,am.of hp⟩,rG hp λE hE=>?_⟩;refine⟨u0,_,rfl,ao.of JY,rfl,_,_,rfl,_,_,rfl,rfl,?_⟩;refine aw 2 rfl Kr rfl ⟨_,rfl,?_⟩;have Kf:t'.hd≠none:=λq=>by have:=List.find?_some Ll;rw[QO this] at q;cases q
 refine⟨y,t',rfl,hSy,Kf,λxp hxp=>?_⟩;obtain⟨tpp,uu,rfl,htpp,huul,huat⟩:=hxp;refine⟨l,tpp,vs,uu.map V.ref,rfl,ao.of hl3',ao.of htpp,?_⟩;have ekf:aW ts ρ r (.many w z es) fs=(es.zip t'.prs).foldl (λfs x=>gE ts ρ r x.2.2 fs x.1) fs:=by rw[aW,Ll];exact xM ts ρ r es t'.prs fs
 have hvl:=hvs3.len;refine Cb (K:=K) (a:=l) (b:=tpp) (xs:=vs) (ys:=uu.map V.ref) (λj σ' H'=>bL H3 H'/\j<=min vs.length uu.length/\bz H' AA.c_KindLook o dx d2 F (((es.zip t'.prs).take j).foldl (λfs x=>gE ts ρ r x.2.2 fs x.1) fs)/\∃x9 Jk,σ'=[some (.ref o),some (.int 1),some (.ref t),some (.str (dn w)),some (.int ((r:Nat):Int)),some (.ref d3),some (.ref p),some (.int 1),some y,x9,Jk]) ⟨bL.refl _,Qy _,Iy,_,_,rfl⟩ (λj σ' H' h=>⟨ao.of (h.1.ls.1 _ _ hl3'),ao.of (h.1.ls.1 _ _ htpp)⟩) ?_ ?_
 ·rintro j x y2 σ' H5 tt hx5 hy5 ⟨l5,hj,J2,x9,Jk,rfl⟩ htt;obtain⟨c,hc,hcx⟩:=hvs3.get hx5;rw[Qr] at hy5;obtain⟨u5,hu5,rfl⟩:=Option.map_eq_some_iff.mp hy5;have hju:=(Qc hu5).1;have hjp:j<t'.prs.length:=by lia
  have hq5:t'.prs[j]?=some t'.prs[j]:=Qb hjp;have htu:=huat j u5 t'.prs[j] hu5 hq5;have hje:=(Qc hc).1;have hjz:j<(es.zip t'.prs).length:=by rw[List.length_zip];lia
  have s6:=aj (o:=.tup [x,.ref u5]) htt;have l6:=l5.trans (bT s6);have Kc:=J2.same s6;obtain⟨d1',hi6,_⟩:=Kc.ins;have hone:=bU.fold (r:=r) ts ρ ((es.zip t'.prs).take j) fs (.refl _ _);refine⟨tt,_,rfl,ao.of ah,rfl,_,_,rfl,_,_,rfl,rfl,?_⟩;have hcm:c∈es:=Qq hc;refine⟨_,rfl,o,dx,_,rfl,hi6,rfl,_,rfl,_,rfl,aw 1 rfl (l6.ls.1 _ _ htu) rfl ⟨_,rfl,_,rfl,?_⟩⟩;refine⟨o,dx,d2,F,ts,_,x,d3,ρ,n,c,r,t'.prs[j].2,rfl,hcx.kept l6.ls.1,xL hg hcm,hn3.kept l6,hF3.kept l6.ls,by have:=qw hcm;lia,Kc,hf.then hone,λH7 l7 hk7=>?_⟩;refine⟨l6.trans l7,by lia,?_,_,_,rfl⟩;have ez:(es.zip t'.prs)[j]=(c,t'.prs[j]):=by rw[List.getElem_zip];obtain⟨_,ec⟩:=Qc hc;rw[ec]
  rw[Qo hjz,List.foldl_append,ez];exact hk7
 rintro σ' H5 ⟨l5,hj,J2,x9,Jk,rfl⟩;rw[Qg,QC (by rw[List.length_zip];lia),<-ekf] at J2;refine hE _ _ (l5.ls.2 _ _ hp) ⟨_,rfl,kq p H5 (lk3.trans l5) J2 ?_⟩;rw[Ll];exact⟨y,JI.kept l5.ls,hSy.kept l5.ls⟩
theorem FF(P:St->Hp->Prop)(h1:∀R:St->Hp->Prop,(∀σ' H',P σ' H'->R σ' H')->a {D with nx:=R} σ H)(h2:∀σ' H',P σ' H'->b D σ' H'):jF a b D σ H:=h1 _ λσ' H' h=>h2 σ' H' h
noncomputable def ox(ps:List (Str×Str)):List (ae×V):=eR (ps.map λp=>(Sum.inr p.1,V.str p.2))
theorem xQ(ps:List (Str×Str))(n:Str):aZ (ox ps) (.inr n)=(gh ps n).map V.str:=by
 have go:∀(ps:List (Str×Str)) (kv:List (ae×V)) (o:Option Str),aZ kv (.inr n)=o.map V.str->aZ ((ps.map λp=>((Sum.inr p.1:ae),V.str p.2)).foldl (λq p=>cc q p.1 p.2) kv) (.inr n)=(ps.foldl (λo p=>if p.1=n then some p.2 else o) o).map V.str:=by
  intro ps
  induction ps with
  |nil=>exact λkv o h=>h
  |cons p ps ih =>
   intro kv o h;refine ih _ _ ?_;rw[mT];show(if(Sum.inr n:ae)=Sum.inr p.1 then some (V.str p.2) else aZ kv (.inr n))=(if p.1=n then some p.2 else o).map V.str;by_cases hp:p.1=n
   ·rw[if_pos (by rw[hp]),if_pos hp];rfl
   rw[if_neg (λz=>hp (Sum.inr.inj z).symm),if_neg hp];exact h
 exact go ps [] none rfl
inductive xR (C:Addr) (vs:List V) (H:Hp) (Q:VK) (E:XK):Prop
 |mk:∀(o dx d2:Addr) (F:List (List ae×V)) (ts:List Tr) (fs:List (List ae)) (k:Kd) (n:Str) (r:Nat),vs=[.ref o,.int 1,dX k,.str n,.int ((r:Nat):Int)]->fi H F ts->bz H C o dx d2 F fs->fs.length<900->(∀p H',bL H H'->bz H' C o dx d2 F (kD ts r k n fs)->KL H' p [dZ ts k n]->Q (.ref p) H')->xR C vs H Q E
noncomputable abbrev xS:List Str:=["self","mask","kind","field","at","rows","kinds","missing"]
theorem xT:bf xS Yo (aJ n0):=by decide +kernel
theorem FH(T:All P w K mg AA DD):aE P w K mg base aG 3 AA.Za DD.Za Yo (xR AA.c_KindLook):=by
 have GB:=lV (base:=base) T;have GA:=lS (base:=base) T;have GN:=lR (base:=base) T;have GO:=lW (base:=base) T;refine T.z_Za.F.ok xT (λvs H Q E h=>by cases h;subst_vars;rfl) λHQ A outer s H vs Q E hr h=>?_;obtain⟨o,dx,d2,F,ts,fs,k,n,r,rfl,hF,hk,hf,kq⟩:=h;have nd:=xT.nd;have Iz:aB 2 _:=hr;have HX:aB 1 _:=Iz.mono (by lia);have hu:=QE (Nat.add_le_add_left (show 1<=64 by decide) _) hr.units;refine⟨_,(aq (aV (gn (Aa (pv 2))) (ap (aN (cb (aa (aR (aa (pv 1) (aa gm af))) af)))) be) (aq (aQ (i:=5) nd rfl (Or.inl rfl) (aO GB HX rfl T.z_Zs (aa (jT hu (mM (pv 0) rfl) (aR (aa au (aa (pv 2) af))) (cb af) ⟨by rfl,by rfl,by rfl,by rfl⟩) (aa (pv 1) af)))) (aq (uA (i:=6) (xs:=Yw) (aJ n0) xS ["field"] [3] rfl (by decide +kernel) rfl rfl (cG (pv 5)) (λ_ _ _ _=>(dG (n:=2) rfl (bp (ba (i:=0) (show(["here","one","field"]:List Str).Nodup by decide +kernel) rfl (Or.inl rfl)) (bp (ba (i:=1) (show(["here","one","field"]:List Str).Nodup by decide +kernel) rfl (Or.inl rfl)) cV)))) (λ_ _ _ _=>iF (gn (BR hu (pv 2) (ix (qh false rfl) rfl T.n_dict qc (aa (av (pv 1)) af))))) (λ_ _ _ _=>(aR (aa (pv 0) (aa (lq hu (ix (qh false rfl) rfl T.n_dict qc (aa (av (pv 1)) af)) (pv 2) (λ_ _=>rfl)) af)))) nd rfl rfl rfl) (aq (aQ (i:=7) nd rfl (Or.inl rfl) (aO GN HX rfl T.z_ZL (aa (pv 1) (aa (aO GA HX rfl T.z_ZO (aa (pv 6) af)) af)))) (aq (bF (cM (pv 0) T.cl_KindLook T.M_Zm GO Iz T.z_Zm.b .nil cD (aa (pv 7) (aa (pv 4) (aa au af)))) (by rfl)) (ap (aN (aD pS (pv 6) (aO GB HX rfl T.z_Zs (aa (cb (aa (aR (aa (pv 1) (aa gm af))) af)) (aa (pv 7) af))))))))))),?_⟩
 cases k with
 |none =>
  refine⟨_,rfl,_,rfl,bS (by rw[Qn (show dX none=V.non from rfl)]) ?_⟩;refine⟨_,rfl,bg,λt ht=>⟨ij,λp hp=>?_⟩⟩;have s1:=aj (o:=.tup [.int 1,.non]) ht;have s2:=aj (o:=.lst [.ref t]) hp;refine kq p _ (bT (s1.trans s2)) (hk.same (s1.trans s2)) (aK.one.mpr ⟨t,ah,s2 _ _ ah⟩)
 |some k =>
  refine⟨_,rfl,_,rfl,bh (by rw[Qk (λz=>by cases z)]) ?_⟩;obtain⟨d1,hi,Kg,HL⟩:=hk.ins;refine⟨_,rfl,o,AA.c_KindLook,dx,_,_,rfl,hi,T.cl_KindLook,T.na_KindLook_firsts,rfl,d1,rfl,.inr ⟨F,.inl Kg⟩,?_⟩;refine⟨_,rfl,bg,λq hq=>⟨cT,λq2 Iw=>?_⟩⟩;have s1:=aj (o:=.tup [.str "kind",.str k]) hq;have s2:=aj (o:=.lst []) Iw;have Ko:=s1.trans s2;have hkk:ag (ag H q (.tup [.str "kind",.str k])) q2 (.lst []) q=some (.tup ((dY ("kind",k)).map kV)):=s2 _ _ ah;refine⟨_,b9.t (k:=dY ("kind",k)) (Ko _ _ Kg) hkk,_,rfl,?_⟩
  obtain⟨l3,ks,el3,KI,Ku⟩:∃l3 ks,(aZ F (dY ("kind",k))).getD (V.ref q2)=.ref l3/\aK (ag (ag H q (.tup [.str "kind",.str k])) q2 (.lst [])) l3 ks/\((ks=[]/\bG ("kind",k) ts=none)∨∃y t',ks=[y]/\bx H true y t'/\bG ("kind",k) ts=some t'):=by
   rcases hF ("kind",k) with ⟨a,b⟩|⟨p',v',t',a,b,c,e⟩
   ·exact⟨q2,[],by rw[a];rfl,aK.nil.mpr ah,.inl ⟨rfl,b⟩⟩
   exact⟨p',[v'],by rw[a];rfl,b.kept Ko.ls,.inr ⟨v',t',rfl,c,e⟩⟩
  rw[el3];refine⟨l3,ks,1,rfl,Qh _,KI,?_,λp H3 s3 JI=>?_⟩
  ·rcases Ku with ⟨e,_⟩|⟨y,t',e,_⟩<;>rw[e]<;>simp
  rw[if_neg (by decide)] at JI;have Jl:=Ko.trans s3;have Iy:=hk.same Jl;dsimp only[aP];refine FF (λσ' H'=>∃q5,Same H3 H'/\KL H' q5 ((dZ ts (some k) n).toList.map some)/\σ'=[some (.ref o),some (.int 1),some (.str k),some (.str n),some (.int ((r:Nat):Int)),some (.ref p),some (.ref q5),none]) (λR hR=>?_) ?_
  ·rcases Ku with ⟨e,h⟩|⟨y,t',e,hSy,h⟩
   ·subst e;have ef:dZ ts (some k) n=none:=by show(match bG ("kind",k) ts with|none=>none|some t=>gh t.prs n)=none;rw[h]
    rw[ef] at hR;have IA:=aK.nil.mp JI;exact⟨_,rfl,p,rfl,⟨_,am.of IA⟩,lT IA λq hq=>hR _ _ ⟨q,aj hq,aK.nil.mpr ah,rfl⟩⟩
   subst e;have ef:dZ ts (some k) n=gh t'.prs n:=by show(match bG ("kind",k) ts with|none=>none|some t=>gh t.prs n)=_;rw[h]
   rw[ef] at hR;obtain⟨u0,IA,JY⟩:=aK.one.mp JI;have Kf:t'.hd=some (("kind":Str),k):=by have q:=List.find?_some h;exact QO q
   have hSy3:=hSy.kept Jl.ls
   obtain⟨t1,x0,x1,x2,vp,rfl,Ii,hvp⟩:∃t1 x0 x1 x2 vp,y=.ref t1/\H3 t1=some (.tup [x0,x1,x2,vp])/\eS H3 vp t'.prs:=by
    cases t' with
    |kd r n ps =>
     obtain⟨t1,vp,e1,Ii,hv⟩:=rp hSy3;exact⟨t1,_,_,_,vp,e1,Ii,hv⟩
    |df r n k ps b=>exact absurd (congrArg Prod.fst (Qs Kf)) (show ¬("def":Str)="kind" by decide)
    |_=>cases Kf
   obtain⟨tp,ws,rfl,Ji,Jh,hwat⟩:=hvp;have dT:∀{H':Hp},Same H3 H'->∀(i:Nat) (t:Addr) (p:ae×V),ws[i]?=some t->(t'.prs.map λp=>((Sum.inr p.1:ae),V.str p.2))[i]?=some p->H' t=some (.tup [kV p.1,p.2]):=λs i t p x y=>by rw[Qr] at y;obtain⟨c,hc,rfl⟩:=Option.map_eq_some_iff.mp y;exact s _ _ (hwat i t c x hc)
   refine⟨_,rfl,p,rfl,⟨_,am.of IA⟩,lU IA λos Ij=>?_⟩;obtain⟨a,b,rfl⟩:=g9 Ij;refine⟨u0,_,rfl,ao.of JY,rfl,_,_,rfl,_,_,rfl,rfl,⟨[_,_],rfl,rfl⟩,?_⟩;have ID:ws.length=(t'.prs.map λp=>((Sum.inr p.1:ae),V.str p.2)).length:=by rw[Qg];exact Jh
   refine⟨_,rfl,aw 3 rfl Ii rfl ⟨tp,ws,_,rfl,Ji,ID,dT (Same.refl _),λqd hqd=>?_⟩⟩;have sd:=aj (o:=.dK (ox t'.prs)) hqd;refine⟨qd,_,rfl,b9.k (k:=.inr n) ah,_,rfl,?_⟩;rw[show aZ (eR (t'.prs.map λp=>((Sum.inr p.1:ae),V.str p.2))) (.inr n)=(gh t'.prs n).map V.str from xQ _ _]
   cases hfl:gh t'.prs n with
   |none=>rw[hfl] at hR;exact eD ⟨sd,λq hq=>hR _ _ ⟨q,sd.trans (aj hq),aK.nil.mpr ah,rfl⟩⟩
   |some kd =>
    rw[hfl] at hR;refine gR ⟨_,rfl,aw 3 rfl (sd _ _ Ii) rfl ⟨tp,ws,_,rfl,sd _ _ Ji,ID,dT sd,λqe hqe=>?_⟩⟩;have se:=sd.trans (aj (o:=.dK (ox t'.prs)) hqe);refine⟨_,rfl,qe,_,rfl,by rw[show some (V.str kd)=aZ (ox t'.prs) (.inr n) from by rw[xQ,hfl];rfl];exact b9.k (k:=.inr n) ah,bg,λq2 Iw=>⟨(by show 0<sizeLine;decide),se.trans (aj Iw),λq hq=>?_⟩⟩;exact hR _ _ ⟨q,(se.trans (aj Iw)).trans (aj hq),aK.one.mpr ⟨q2,ah,aj hq _ _ ah⟩,rfl⟩
  rintro σ' H5 ⟨q5,s5,h5,rfl⟩;obtain⟨xs5,hx5,hP5,hxe⟩:=h5.p1;have s15:=Jl.trans s5;have J2:=hk.same s15
  obtain⟨m,hm⟩:∃m:Nat,m=(1^^^(1&&&(if xs5=[] then 0 else 1))):=⟨_,rfl⟩
  refine⟨_,rfl,_,rfl,q5,xs5,rfl,hx5,hP5,1,(if xs5=[] then 0 else 1),?_,?_⟩
  ·split<;>rfl
  dsimp only[aP];rw[<-hm]
  obtain⟨hm1,hmk,hmf⟩:m<=1/\((dZ ts (some k) n).toList.map some++(if m=0 then [] else [none])=[dZ ts (some k) n])/\(if m=0 then fs else cf fs (kk r "field"))=kD ts r (some k) n fs:=by
   show _/\_/\_=(if dZ ts (some k) n=none then cf fs (kk r "field") else fs)
   cases hfx:dZ ts (some k) n with
   |none =>
    rw[if_pos (hxe.mpr (by rw[hfx];rfl))] at hm;rw[hm];exact⟨by decide,rfl,rfl⟩
   |some kd =>
    rw[if_neg (λz=>by have:=hxe.mp z;rw[hfx] at this;simp at this)] at hm;rw[hm];exact⟨by decide,rfl,rfl⟩
  obtain⟨d1',hi5,_⟩:=J2.ins;refine⟨_,rfl,o,dx,_,rfl,hi5,rfl,_,rfl,_,rfl,o,dx,d2,F,fs,m,r,"field",rfl,J2,by lia,hm1,λH6 l6 Kc=>?_⟩;rw[hmf] at Kc;refine⟨_,rfl,_,rfl,bg,λt7 ht7=>⟨ij,λp7 hp7=>⟨_,rfl,?_⟩⟩⟩;have s7:=aj (o:=.tup [.int 1,.non]) ht7;have s8:=aj (o:=.lst [.ref t7]) hp7;have K4:=s7.trans s8;have hK7:KL (ag (ag H6 t7 (.tup [.int 1,.non])) p7 (.lst [.ref t7])) p7 [none]:=aK.one.mpr ⟨t7,ah,s8 _ _ ah⟩;show om [.ref p7,.int ((m:Nat):Int)] _ (λy H2=>pR (V.ref q5) y H2 Q) E0;refine rH (E:=E0) (m:=m) (ks:=[none]) hm1 hK7 (by simp) λq9 H9 s9 hK9=>?_;have h59:=(h5.kept l6.ls).same (K4.trans s9);obtain⟨xs1,ys1,e1,e2,e3,e4,e5⟩:=h59.cat hK9;refine⟨q5,q9,xs1,ys1,rfl,rfl,e1,e2,?_,λl4 hl4=>?_⟩
  ·have e6:((dZ ts (some k) n).toList.map some++(if m=0 then [] else [none]):List Kd).length=1:=by rw[hmk];rfl
   rw[Qi] at e6;exact QT (iD (by lia))
  have hK4:=e5 l4 hl4;rw[hmk] at hK4;have s4:=aj (o:=.lst (xs1++ys1)) hl4;have sf:=(K4.trans s9).trans s4;exact kq l4 _ (((bT s15).trans l6).trans (bT sf)) (Kc.same sf) hK4
theorem bL.off(l:bL H H')(h:H a=none):bL H (ag H' a o):=
 ⟨⟨λb xs hb=>by rw[ay (λz=>by rw[z,h] at hb;cases hb)];exact l.ls.1 _ _ hb,λb xs hb=>by rw[ay (λz=>by rw[z,h] at hb;cases hb)];exact l.ls.2 _ _ hb,λb o x hb=>by rw[ay (λz=>by rw[z,h] at hb;cases hb)];exact l.ls.z _ _ _ hb,λb x hb=>by rw[ay (λz=>by rw[z,h] at hb;cases hb)];exact l.ls.b _ _ hb⟩,λb kv hb=>by rw[ay (λz=>by rw[z,h] at hb;cases hb)];exact l.dk _ _ hb⟩
theorem bz.off{F:List (List ae×V)}{fs:List (List ae)}(h:bz H C o dx d2 F fs)(ha:H a=some (.lst xs)):bz (ag H a ob) C o dx d2 F fs:=by obtain⟨⟨d1,h1,h3,h4⟩,h2⟩:=h;exact⟨⟨d1,by rw[ay (λz=>by rw[z,ha] at h1;cases h1)];exact h1,by rw[ay (λz=>by rw[z,ha] at h3;cases h3)];exact h3,h4⟩,by rw[ay (λz=>by rw[z,ha] at h2;cases h2)];exact h2⟩
noncomputable abbrev rP:List Str:=["self","mask","e","at","names","rows","found","here","kind","inner"]
theorem rQ:bf rP Yj (aJ lO):=by decide +kernel
theorem FI(T:All P w K mg AA DD)(k:Nat)(GAK:aE P w K mg base aG (3*k+4) AA.Zp DD.Zp Yi (ou AA.c_KindLook k))(GUR:aE P w K mg base aG (3*k+5) AA.Zc DD.Zc Yk (rO AA.c_KindLook k))(GKO:aE P w K mg base aG (3*k+3) AA.Zg DD.Zg Yj (jn AA.c_KindLook k)) :
  aE P w K mg base aG (3*(k+1)+3) AA.Zg DD.Zg Yj (jn AA.c_KindLook (k+1)):=by
 have GI:=E6 (base:=base) T;have GB:=lV (base:=base) T;have GFK:=FH (base:=base) T;refine T.z_Zg.F.ok rQ (λvs H Q E h=>by cases h;subst_vars;rfl) λHQ A outer s H vs Q E hr h=>?_;obtain⟨o,dx,d2,F,ts,fs,v,d3,ρ,n,e,r,rfl,hE,hp,hn,hF,hd,hk,hf,k'⟩:=h;have nd:=rQ.nd;have hrU:aB (3*k+5) _:=hr;have hrA:aB (3*k+4) _:=hrU.mono (by lia);have KW:aB (3*k+3) _:=hrA.mono (by lia);have hr3:aB 3 _:=hrA.mono (by lia);have HX:aB 1 _:=hrA.mono (by lia);have hu:=QE (Nat.add_le_add_left (show 1<=64 by decide) _) hr.units;refine⟨_,(aq (aV (aH bi (av (pv 2)) au (aI _)) (ap (aN (aO GB HX rfl T.z_Zs (aa (jT hu (pv 4) (av (pv 2)) (cb af) ⟨by rfl,by rfl,by rfl,by rfl⟩) (aa (pv 1) af))))) be) (aq (aV (aH bi (av (pv 2)) au (aI _)) (aq (aQ (i:=5) nd rfl (Or.inl rfl) (cM (pv 0) T.cl_KindLook T.M_Zc GUR hrU T.z_Zc.b .nil cD (aa (pv 1) (aa (pv 2) (aa au (aa (pv 3) (aa (pv 4) af))))))) (ap (aN (jd (xs:=Yw) (aJ lO) rP [] [] rfl (by decide +kernel) rfl rfl (cG (pv 5)) (λ_ _ _ _=>(dG (n:=2) rfl (bp (ba (i:=0) (show(Yw:List Str).Nodup by decide +kernel) rfl (Or.inl rfl)) (bp (ba (i:=1) (show(Yw:List Str).Nodup by decide +kernel) rfl (Or.inl rfl)) cV)))) (λ_ _ _ _=>fG) (λ_ _ _ _=>(aR (aa (pv 0) (aa (av (pv 1)) af)))))))) be) (aq (aV (aH bi (av (pv 2)) au (aI _)) (aq (aQ (i:=5) nd rfl (Or.inl rfl) (cM (pv 0) T.cl_KindLook T.M_Zc GUR hrU T.z_Zc.b .nil cD (aa (pv 1) (aa (pv 2) (aa au (aa (pv 3) (aa (pv 4) af))))))) (ap (aN (jd (xs:=Yw) (aJ lO) rP [] [] rfl (by decide +kernel) rfl rfl (cG (pv 5)) (λ_ _ _ _=>(dG (n:=2) rfl (bp (ba (i:=0) (show(Yw:List Str).Nodup by decide +kernel) rfl (Or.inl rfl)) (bp (ba (i:=1) (show(Yw:List Str).Nodup by decide +kernel) rfl (Or.inl rfl)) cV)))) (λ_ _ _ _=>fG) (λ_ _ _ _=>(aR (aa (pv 0) (aa (av (pv 1)) af)))))))) be) (aq (aV (aH bi (av (pv 2)) au (aI _)) (aq (aQ (i:=6) nd rfl (Or.inl rfl) (cb af)) (aq (dC PassesOwn.never rfl (cG (cM (pv 0) T.cl_KindLook T.M_Zg GKO KW T.z_Zg.b .nil cD (aa (pv 1) (aa (av (pv 2)) (aa (pv 3) (aa (pv 4) af)))))) (dG rfl (bp (ba (i:=7) nd rfl (Or.inl rfl)) (bp (ba (i:=8) nd rfl (Or.inl rfl)) cV))) (ap (bF (jM PySem.F.plainAttrs_list PySem.F.slot_list_extend PySem.F.type_list_extend pP (pv 6) (aa (cM (pv 0) T.cl_KindLook T.M_Za GFK hr3 T.z_Za.b .nil cD (aa (pv 7) (aa (pv 8) (aa (av (pv 2)) (aa (pv 3) af))))) af)) (by rfl))) (by intro _;rfl)) (ap (aN (pv 6))))) be) (aq (dC PassesOwn.never rfl (kc (aO GI HX rfl T.z_ZH (aa (pv 2) af))) (ba (i:=9) nd rfl (Or.inl rfl)) (ap (bF (cM (pv 0) T.cl_KindLook T.M_Zp GAK hrA T.z_Zp.b .nil cD (aa (pv 1) (aa (pv 9) (aa (uV T.D_ASKS rfl T.m_ASKS (av (pv 2)) (λ_ _=>rfl)) (aa (pv 3) (aa (pv 4) af)))))) (by rfl))) (by intro _;rfl)) (ap (aN (cb (aa (aR (aa (pv 1) (aa (uV T.D_MAKES rfl T.m_MAKES (av (pv 2)) (λ_ _=>rfl)) af))) af))))))))),?_⟩;obtain⟨d1,hi,_⟩:=hk.ins;by_cases hnm:∃z,e=.name z
 ·obtain⟨z,rfl⟩:=hnm
  cases hE with
  | @name t _ ht =>
  refine aw 0 rfl ht rfl ⟨rfl,_,rfl,dW ?_⟩;obtain⟨kvs,hd3,hkn,hz⟩:=hn.ex;refine⟨_,rfl,d3,rfl,.inl ⟨kvs,.inl hd3⟩,aw 1 rfl ht rfl ?_⟩;refine⟨cT,λq hq=>?_⟩;have s1:=aj (o:=.lst []) hq;refine⟨_,b9.k (k:=.inr z) (s1 _ _ hd3),_,rfl,?_⟩;have fin:∀q' H',Same (ag H q (.lst [])) H'->KL H' q' (if(1:Nat)=0 then [] else(ρ z).toList)->Q (.ref q') H':=λq' H' s' hK=>by refine k' q' H' (bT (s1.trans s')) ?_ hK;have:=hk.same (s1.trans s');rw[aW];exact this
  rcases hz z with ⟨h1,h2⟩|⟨p,h1,h2⟩
  ·rw[h1];refine rH (E:=E0) (m:=1) (ks:=(ρ z).toList) (Qh _) ?_ (gD _) fin;rw[h2];exact aK.nil.mpr ah
  rw[h1];exact rH (E:=E0) (m:=1) (ks:=(ρ z).toList) (Qh _) (h2.same s1) (gD _) fin
 have hnm:∀z,e≠.name z:=λz q=>hnm ⟨z,q⟩;by_cases hmn:∃w z es,e=.many w z es
 ·obtain⟨w,z,es,rfl⟩:=hmn
  obtain⟨hw,hes⟩:=(show(w="do"∨w="new")/\kC es from hp)
  have hE0:=hE
  cases hE with
  | @many t l _ _ vs _ ht hl Jm =>
  rcases hw with hw|hw
  ·subst hw;have ekd:cA ts ρ (.many "do" z es)=(bG ("def",z) ts).map λt=>some t.knd:=by show(bG (dn "do",z) ts).map _=_;rw[lY];congr 1
   rw[ekd] at k';refine aw 0 rfl ht rfl ⟨rfl,_,rfl,cQ (by decide) ?_⟩;refine aw 0 rfl ht rfl ⟨rfl,_,rfl,dW ?_⟩;refine⟨_,rfl,o,dx,_,rfl,hi,rfl,_,rfl,_,rfl,_,rfl,_,rfl,?_⟩;refine⟨o,dx,d2,F,ts,fs,.ref t,d3,ρ,n,"do",z,es,r,by rw[lY];rfl,hE0,hes,hn,hF,(by simp[Ex.deep] at hd;lia),hk,hf,λp H1 l1 HU JW=>?_⟩;rw[lY] at JW;dsimp only[aP];have fin:∀q' H',bL H1 H'->bz H' AA.c_KindLook o dx d2 F (aW ts ρ r (.many "do" z es) fs)->KL H' q' ((bG ("def",z) ts).map λt=>(some t.knd:Kd)).toList->Q (.ref q') H':=λq' H' lk Jx hK=>k' q' H' (l1.trans lk) Jx hK
   cases hfs:bG ("def",z) ts with
   |none =>
    rw[hfs] at JW fin;have IA:=aK.nil.mp (show aK H1 p [] from JW);exact⟨_,rfl,p,rfl,⟨_,am.of IA⟩,lT IA λq hq=>fin q _ (bT (aj hq)) (HU.same (aj hq)) (aK.nil.mpr ah)⟩
   |some t' =>
    rw[hfs] at JW fin
    obtain⟨y,hy,hSy⟩:=(show ∃y,aK H1 p [y]/\bx H1 true y t' from JW)
    obtain⟨u0,IA,JY⟩:=aK.one.mp hy;have Kf:t'.hd=some (("def":Str),z):=by have q:=List.find?_some hfs;exact QO q
    obtain⟨t1,x0,x1,x2,r1,rfl,Ii⟩:∃t1 x0 x1 x2 r1,y=.ref t1/\H1 t1=some (.tup (x0::x1::x2::.str t'.knd::r1)):=by
     cases hSy with
     | @mk t1 vs _ Ii IL =>
     cases t' with
     |df r n k ps b=>cases IL with|cons a b=>cases b with|cons c d=>cases d with|cons e f=>cases f with|cons g h=>cases g;exact⟨t1,_,_,_,_,rfl,Ii⟩
     |kd r n ps=>exact absurd (congrArg Prod.fst (Qs Kf)) (show ¬("kind":Str)="def" by decide)
     |_=>cases Kf
    refine⟨_,rfl,p,rfl,⟨_,am.of IA⟩,lU IA λos Ij=>?_⟩;obtain⟨a,b,rfl⟩:=g9 Ij;refine⟨u0,_,rfl,ao.of JY,rfl,_,_,rfl,_,_,rfl,rfl,⟨[_,_],rfl,rfl⟩,fF ?_⟩;rw[if_pos rfl];refine⟨_,rfl,aw 3 rfl Ii rfl ⟨bg,λq2 Iw=>⟨(by show 0<sizeLine;decide),aj Iw,λq hq=>?_⟩⟩⟩;have sq:=(aj (o:=.tup [.int 1,.str t'.knd]) Iw).trans (aj (o:=.lst [.ref q2]) hq);exact fin q _ (bT sq) (HU.same sq) (aK.one.mpr ⟨q2,ah,aj hq _ _ ah⟩)
  subst hw;have ekd:cA ts ρ (.many "new" z es)=(bG ("kind",z) ts).map λt=>some z:=by show(bG (dn "new",z) ts).map _=_;rw[lZ];congr 1
  rw[ekd] at k';refine aw 0 rfl ht rfl ⟨rfl,_,rfl,cQ (by decide) ?_⟩;refine aw 0 rfl ht rfl ⟨rfl,_,rfl,cQ (by decide) ?_⟩;refine aw 0 rfl ht rfl ⟨rfl,_,rfl,dW ?_⟩;refine⟨_,rfl,o,dx,_,rfl,hi,rfl,_,rfl,_,rfl,_,rfl,_,rfl,?_⟩;refine⟨o,dx,d2,F,ts,fs,.ref t,d3,ρ,n,"new",z,es,r,by rw[lZ];rfl,hE0,hes,hn,hF,(by simp[Ex.deep] at hd;lia),hk,hf,λp H1 l1 HU JW=>?_⟩;rw[lZ] at JW;dsimp only[aP];have fin:∀q' H',bL H1 H'->bz H' AA.c_KindLook o dx d2 F (aW ts ρ r (.many "new" z es) fs)->KL H' q' ((bG ("kind",z) ts).map λt=>(some z:Kd)).toList->Q (.ref q') H':=λq' H' lk Jx hK=>k' q' H' (l1.trans lk) Jx hK
  cases hfs:bG ("kind",z) ts with
  |none =>
   rw[hfs] at JW fin;have IA:=aK.nil.mp (show aK H1 p [] from JW);exact⟨_,rfl,p,rfl,⟨_,am.of IA⟩,lT IA λq hq=>fin q _ (bT (aj hq)) (HU.same (aj hq)) (aK.nil.mpr ah)⟩
  |some t' =>
   rw[hfs] at JW fin
   obtain⟨y,hy,hSy⟩:=(show ∃y,aK H1 p [y]/\bx H1 true y t' from JW)
   obtain⟨u0,IA,JY⟩:=aK.one.mp hy;have Kf:t'.hd=some (("kind":Str),z):=by have q:=List.find?_some hfs;exact QO q
   obtain⟨t1,x0,x1,r1,rfl,Ii⟩:∃t1 x0 x1 r1,y=.ref t1/\H1 t1=some (.tup (x0::x1::.str z::r1)):=by
    cases t' with
    |kd r n ps =>
     obtain⟨t1,vp,e1,Ii,_⟩:=rp hSy;have en:n=z:=congrArg Prod.snd (Qs Kf);subst en;exact⟨t1,_,_,_,e1,Ii⟩
    |df r n k ps b=>exact absurd (congrArg Prod.fst (Qs Kf)) (show ¬("def":Str)="kind" by decide)
    |_=>cases Kf
   refine⟨_,rfl,p,rfl,⟨_,am.of IA⟩,lU IA λos Ij=>?_⟩;obtain⟨a,b,rfl⟩:=g9 Ij;refine⟨u0,_,rfl,ao.of JY,rfl,_,_,rfl,_,_,rfl,rfl,⟨[_,_],rfl,rfl⟩,fF ?_⟩;rw[if_pos rfl];refine⟨_,rfl,aw 2 rfl Ii rfl ⟨bg,λq2 Iw=>⟨(by show 0<sizeLine;decide),aj Iw,λq hq=>?_⟩⟩⟩;have sq:=(aj (o:=.tup [.int 1,.str z]) Iw).trans (aj (o:=.lst [.ref q2]) hq);exact fin q _ (bT sq) (HU.same sq) (aK.one.mpr ⟨q2,ah,aj hq _ _ ah⟩)
 by_cases hof:∃n x,e=.of n x
 ·obtain⟨fn,e1,rfl⟩:=hof
  cases hE with
  | @of t _ v1 _ ht hv1 =>
  have IA:e1.dos:=hp;have Kg:e1.deep<k:=by simp[Ex.deep] at hd;lia
  refine aw 0 rfl ht rfl ⟨rfl,_,rfl,cQ (by decide) ?_⟩;refine aw 0 rfl ht rfl ⟨rfl,_,rfl,cQ (by decide) ?_⟩;refine aw 0 rfl ht rfl ⟨rfl,_,rfl,cQ (by decide) ?_⟩;refine aw 0 rfl ht rfl ⟨rfl,_,rfl,dW ?_⟩;refine⟨cT,λfo hfo=>?_⟩;have s0:=aj (o:=.lst []) hfo;dsimp only[aP];have Jq:=hk.same s0;obtain⟨d1',Ie,_⟩:=Jq.ins;refine⟨_,rfl,o,dx,_,rfl,Ie,rfl,_,rfl,aw 2 rfl (s0 _ _ ht) rfl ⟨_,rfl,_,rfl,?_⟩⟩;refine⟨o,dx,d2,F,ts,fs,v1,d3,ρ,n,e1,r,rfl,hv1.kept s0.ls.1,IA,hn.kept (bT s0),hF.kept s0.ls,Kg,Jq,hf,λp H1 l1 HU Le=>?_⟩;have l01:=(bT s0).trans l1;have hfo1:H1 fo=some (.lst []):=l1.ls.2 _ _ ah;have Ii:=l01.ls.1 _ _ ht
  cases JJ:cA ts ρ e1 with
  |none =>
   have e9:aW ts ρ r (.of fn e1) fs=aW ts ρ r e1 fs:=by rw[aW,JJ];rfl
   have e8:cA ts ρ (.of fn e1)=none:=by rw[cA,JJ];rfl
   rw[e8,e9] at k';rw[JJ] at Le;have IB:=aK.nil.mp Le;exact⟨p,rfl,⟨_,am.of IB⟩,rF IB ⟨_,rfl,k' fo H1 l01 HU (aK.nil.mpr hfo1)⟩⟩
  |some kd =>
   have e9:aW ts ρ r (.of fn e1) fs=kD ts r kd fn (aW ts ρ r e1 fs):=by rw[aW,JJ];rfl
   have e8:cA ts ρ (.of fn e1)=some (dZ ts kd fn):=by rw[cA,JJ];rfl
   rw[e8,e9] at k';rw[JJ] at Le;obtain⟨u0,IB,JY⟩:=aK.one.mp Le;have hpf:p≠fo:=λz=>by rw[z,hfo1] at IB;cases IB
   refine⟨p,rfl,⟨_,am.of IB⟩,rG IB λE hE=>?_⟩;refine⟨u0,_,rfl,ao.of JY,rfl,_,_,rfl,_,_,rfl,rfl,?_⟩;obtain⟨d1'',hi1,_⟩:=HU.ins;refine⟨_,rfl,.inl ⟨rfl,_,am.of hfo1⟩,_,rfl,o,dx,_,rfl,hi1,rfl,_,rfl,_,rfl,aw 1 rfl Ii rfl ⟨_,rfl,?_⟩⟩;refine⟨o,dx,d2,F,ts,aW ts ρ r e1 fs,kd,fn,r,rfl,(hF.kept l01.ls),HU,(hf.then (fN ts ρ r e1 fs)).len,λp9 H9 l9 hk9 hK9=>?_⟩;obtain⟨v0,hp9,hv0⟩:=aK.one.mp hK9;have hfo9:=l9.ls.2 _ _ hfo1;refine⟨fo,p9,[],_,rfl,rfl,hfo9,hp9,(by show 0+1<=sizeLine;decide),hE _ _ (by rw[ay hpf];exact l9.ls.2 _ _ IB) ⟨_,rfl,k' fo _ ((l01.trans l9).off hfo) (hk9.off hfo9) (aK.one.mpr ⟨v0,ah,?_⟩)⟩⟩;rw[ay (λz=>by rw[z,hfo9] at hv0;cases hv0)];exact hv0
 have Lm:e.bas:=Fu hp (λw z es q=>hmn ⟨w,z,es,q⟩) λn x q=>hof ⟨n,x,q⟩;obtain⟨t,ys,rfl,ht,n1,n2,n3,n4,lm,la⟩:=Ft hE Lm hnm
 have ekd:cA ts ρ e=some (some (iP e)):=by
  cases e with
  |name z=>exact(hnm _ rfl).elim
  |many w z es=>exact Lm.elim
  |of n x=>exact Lm.elim
  |_=>rfl
 rw[ekd] at k';refine aw 0 rfl ht rfl ⟨rfl,_,rfl,cQ n1 ?_⟩;refine aw 0 rfl ht rfl ⟨rfl,_,rfl,cQ n2 ?_⟩;refine aw 0 rfl ht rfl ⟨rfl,_,rfl,cQ n3 ?_⟩;refine aw 0 rfl ht rfl ⟨rfl,_,rfl,cQ n4 ?_⟩;refine⟨_,rfl,_,e,rfl,hE,Lm,λtk zs H2 s2 JF HY=>⟨tk,rfl,⟨_,ao.of JF⟩,?_⟩⟩;have Jp:=HY.len;have IX:=hk.same s2;have Iv:=s2 _ _ ht
 have kfl:∀i,bU r fs ((e.kids.take i).foldl (gE ts ρ r (gC e)) fs):=by
  intro i;generalize e.kids.take i=cs
  have go:∀(cs:List Ex) (gs:List (List ae)),bU r fs gs->bU r fs (cs.foldl (gE ts ρ r (gC e)) gs):=by
   intro cs
   induction cs with
   |nil=>exact λgs h=>h
   |cons c cs ih=>exact λgs h=>ih _ ((h.tr (fN ts ρ r c gs)).ask _ _)
  exact go cs fs (.refl _ _)
 refine Ap (K:=K0) (a:=tk) (xs:=zs) (λi σ' H'=>bL H H'/\bL H2 H'/\(∃x5 x6 x7 x8 x9,σ'=[some (.ref o),some (.int 1),some (.ref t),some (.int ((r:Nat):Int)),some (.ref d3),x5,x6,x7,x8,x9])/\bz H' AA.c_KindLook o dx d2 F ((e.kids.take i).foldl (gE ts ρ r (gC e)) fs)) ⟨bT s2,bL.refl _,⟨_,_,_,_,_,rfl⟩,by simpa using IX⟩ (λi σ' H' _ h=>ao.of (h.2.1.ls.1 _ _ JF)) ?_ ?_
 ·rintro i x σ' H3 hx ⟨l3,l23,⟨x5,x6,x7,x8,x9,rfl⟩,Iy⟩;obtain⟨c,hc,hcx⟩:=HY.get hx;have hcm:=Fv hp c (Qq hc);obtain⟨d1,hi3,_⟩:=Iy.ins;have la':=la (λz=>by rw[z] at hc;simp at hc);have hll:=hf.then (kfl i);refine⟨_,rfl,o,dx,_,rfl,hi3,rfl,_,rfl,_,rfl,aw 0 rfl (l23.ls.1 _ _ Iv) rfl ⟨gg e,gC e,rfl,la',_,rfl,_,rfl,o,dx,d2,F,ts,_,x,d3,ρ,n,c,r,gC e,rfl,hcx.kept l23.ls.1,hcm.1,hn.kept l3,hF.kept l3.ls,by lia,Iy,hll,λH' ls Jx=>?_⟩⟩;refine⟨l3.trans ls,l23.trans ls,⟨_,_,_,_,_,rfl⟩,?_⟩;obtain⟨hi,ec⟩:=Qc hc;rw[Qo hi,ec,List.foldl_append];exact Jx
 rintro σ' H3 ⟨l3,l23,⟨x5,x6,x7,x8,x9,rfl⟩,Iy⟩;rw[QC (by lia),<-Fw ts ρ r e Lm] at Iy;dsimp only;refine⟨_,rfl,aw 0 rfl (l23.ls.1 _ _ Iv) rfl ⟨gg e,iP e,rfl,lm,bg,λt3 Kr=>⟨ij,λp JI=>?_⟩⟩⟩;have s3:=aj (o:=.tup [.int 1,.str (iP e)]) Kr;have s4:=aj (o:=.lst [.ref t3]) JI;refine k' p _ (l3.trans (bT (s3.trans s4))) (Iy.same (s3.trans s4)) (aK.one.mpr ⟨t3,ah,s4 _ _ ah⟩)
theorem FJ(T:All P w K mg AA DD):aE P w K mg base aG 3 AA.Zg DD.Zg Yj (jn AA.c_KindLook 0):=by
 have no:∀vs H Q E,¬jn AA.c_KindLook 0 vs H Q E:=λvs H Q E h=>by cases h;lia
 exact T.z_Zg.F.ok rQ (λvs H Q E h=>(no _ _ _ _ h).elim) (λHQ A outer s H vs Q E hr h=>(no _ _ _ _ h).elim)
theorem oy(T:All P w K mg AA DD):∀k:Nat,aE P w K mg base aG (3*k+3) AA.Zg DD.Zg Yj (jn AA.c_KindLook k)
 |0=>FJ T
 |k+1=>FI T k (xO T k (oy T k)) (FE T k (xO T k (oy T k))) (oy T k)
structure eV(d:Addr)(H H':Hp):Prop where
 ls:bK H H'
 dk:∀a kv,a≠d->H a=some (.dK kv)->H' a=some (.dK kv)
theorem eV.refl(d:Addr)(H:Hp):eV d H H:=⟨bK.refl _,λ_ _ _ h=>h⟩
theorem eV.trans{d:Addr}{H H1 H2:Hp}(a:eV d H H1)(b:eV d H1 H2):eV d H H2:=⟨a.ls.trans b.ls,λ_ _ n h=>b.dk _ _ n (a.dk _ _ n h)⟩
theorem bL.d{H H':Hp}(s:bL H H'){d:Addr}:eV d H H':=⟨s.ls,λ_ _ _ h=>s.dk _ _ h⟩
noncomputable def gF(ρ:Env)(z:Str)(k:Option Kd):Env:=λx=>if x=z then(match ρ z with|some k0=>some k0|none=>k) else ρ x
noncomputable def iR(r:Nat)(ρ:Env)(z:Str)(k:Option Kd)(fs:List (List ae)):List (List ae):=match k with
 |some (some kd)=>eK r (ρ z) kd fs
 |_=>fs
theorem FK(h:bx H true v (.set r z e)):∃t0 x,v=.ref t0/\H t0=some (.tup [.str "set",.int ((r:Nat):Int),.str z,x]):=by obtain⟨t0,x,e1,ht,_⟩:=wG h;exact⟨t0,x,e1,ht⟩
theorem cS.put{d:Addr}(h:cS H d ρ n){k:Option Kd}(hl:KL H l ks)(e:ks=(gF ρ z k z).toList)(hn:n<900) :
  ∃H',fc H d (.str z) (.ref l) H'/\bK H H'/\cS H' d (gF ρ z k) (n+1)/\(∀a,a≠d->H' a=H a)/\∃kv,H d=some (.dK kv):=by
 obtain⟨⟨kvs,a,b,c⟩⟩:=h;have lsd:∀ob',bK H (ag H d ob'):=λob'=>lQ a (λ_ z=>nomatch z) (λ_ z=>nomatch z) λ_ _ z=>nomatch z
 refine⟨_,fc.k (k:=.inr z) a (bC (by lia)),lsd _,⟨⟨_,ah,?_,λx=>?_⟩⟩,λa ha=>ay ha,kvs,a⟩
 ·exact QR (ln _ _ _) (by lia)
 rw[mT];by_cases hx:x=z
 ·subst hx;rw[if_pos rfl];exact .inr ⟨l,rfl,by rw[<-e];exact hl.kept (lsd _)⟩
 rw[if_neg (λq=>hx (by injection q))];have ex:gF ρ z k x=ρ x:=by unfold gF;rw[if_neg hx]
 rw[ex]
 rcases c x with q|⟨p,q1,q2⟩
 ·exact .inl q
 exact .inr ⟨p,q1,q2.kept (lsd _)⟩
inductive xU (C:Addr) (vs:List V) (H:Hp) (Q:VK) (E:XK):Prop
 |mk:∀(o dx d2 d3 p:Addr) (F:List (List ae×V)) (fs:List (List ae)) (ρ:Env) (n r:Nat) (v:V) (z:Str) (e:Ex) (k:Option Kd),vs=[.ref o,v,.ref p,.ref d3]->bx H true v (.set r z e)->KL H p k.toList->bz H C o dx d2 F fs->cS H d3 ρ n->fs.length<900->n<900->(∀H',eV d3 H H'->bz H' C o dx d2 F (iR r ρ z k fs)->cS H' d3 (gF ρ z k) (n+1)->Q .non H')->xU C vs H Q E
noncomputable abbrev FL:List Str:=["self","one","kinds","names","known","mask","kind"]
theorem xV:bf FL Yt (aJ rf):=by decide +kernel
theorem FM(T:All P w K mg AA DD):aE P w K mg base aG 3 AA.Zf DD.Zf Yt (xU AA.c_KindLook):=by
 have GU:=rJ (base:=base) T;have GO:=lW (base:=base) T;have GA:=lS (base:=base) T;have GB:=lV (base:=base) T;have GN:=lR (base:=base) T;refine T.z_Zf.F.ok xV (λvs H Q E h=>by cases h;subst_vars;rfl) λHQ A outer s H vs Q E hr h=>?_;obtain⟨o,dx,d2,d3,p,F,fs,ρ,n,r,v,z,e,k,rfl,hS,hK,hk,hn,hf,hn9,kq⟩:=h;have nd:=xV.nd;have Iz:aB 2 _:=hr;have HX:aB 1 _:=Iz.mono (by decide);have hu:=QE (Nat.add_le_add_left (show 1<=64 by decide) _) hr.units;refine⟨_,(aq (aQ (i:=4) nd rfl (Or.inl rfl) (jT hu (pv 3) (av (pv 1)) (cb af) ⟨by rfl,by rfl,by rfl,by rfl⟩)) (aq (dC PassesOwn.never rfl (cG (pv 2)) (dG rfl (bp (ba (i:=5) nd rfl (Or.inl rfl)) (bp (ba (i:=6) nd rfl (Or.inl rfl)) cV))) (ap (aV (gn (ik (pv 6))) (ap (bF (cM (pv 0) T.cl_KindLook T.M_Zm GO Iz T.z_Zm.b .nil cD (aa (aO GU Iz rfl T.z_ZS (aa (aO GB HX rfl T.z_Zs (aa (pv 4) (aa (pv 5) af))) (aa (pv 6) af))) (aa (av (pv 1)) (aa au af)))) (by rfl))) be)) (by intro _;rfl)) (ap (lr hu (pv 3) (av (pv 1)) (aD pS (pv 4) (aO GB HX rfl T.z_Zs (aa (pv 2) (aa (aO GN HX rfl T.z_ZL (aa (aO GA HX rfl T.z_ZO (aa (pv 2) af)) (aa (aO GA HX rfl T.z_ZO (aa (pv 4) af)) af))) af)))) rfl)))),?_⟩;obtain⟨t0,x0,rfl,Jn⟩:=FK hS;obtain⟨kvs,hd3,hkn,hz⟩:=hn.ex;refine⟨_,rfl,d3,rfl,.inl ⟨kvs,.inl hd3⟩,aw 2 rfl Jn rfl ?_⟩;refine⟨cT,λq hq=>?_⟩;have s1:=aj (o:=.lst []) hq;refine⟨_,b9.k (k:=.inr z) (s1 _ _ hd3),?_⟩
 have hkn1:∃l,(aZ kvs (Sum.inr z)).getD (V.ref q)=.ref l/\KL (ag H q (.lst [])) l (ρ z).toList:=by
  rcases hz z with ⟨h1,h2⟩|⟨l,h1,h2⟩
  ·refine⟨q,by rw[h1];rfl,?_⟩;rw[h2];exact aK.nil.mpr ah
  exact⟨l,by rw[h1];rfl,h2.same s1⟩
 obtain⟨l,el,hKl⟩:=hkn1;rw[el];have HU:=hk.same s1;have K1:=hn.kept (bT s1);have Le:=hK.same s1;have Ii:=s1 _ _ Jn;have ls1:=bT s1;generalize ag H q (.lst [])=H1 at hKl HU K1 Le Ii ls1 ⊢;dsimp only[aP];refine gW (λσ' H'=>bL H1 H'/\bz H' AA.c_KindLook o dx d2 F (iR r ρ z k fs)/\∃s5 s6:Option V,σ'=[some (.ref o),some (.ref t0),some (.ref p),some (.ref d3),some (.ref l),s5,s6]) (λR HP=>?_) ?_
 ·cases k with
  |none =>
   have hp:=aK.nil.mp Le;exact⟨_,rfl,p,rfl,⟨_,am.of hp⟩,rF hp (HP _ _ ⟨bL.refl _,HU,none,none,rfl⟩)⟩
  |some ko =>
  obtain⟨u0,hp,JY⟩:=aK.one.mp Le;refine⟨_,rfl,p,rfl,⟨_,am.of hp⟩,rG hp λE hE=>⟨u0,_,rfl,ao.of JY,rfl,_,_,rfl,_,_,rfl,rfl,?_⟩⟩
  cases ko with
  |none=>exact⟨_,rfl,_,rfl,bh (by rw[Qn (show dX none=V.non from rfl)];rfl) (hE _ _ hp (HP _ _ ⟨bL.refl _,HU,_,_,rfl⟩))⟩
  |some kd =>
  obtain⟨d1,hi2,_⟩:=HU.ins;refine⟨_,rfl,_,rfl,bS (by rw[Qk (λz=>by cases z)];rfl) ⟨_,rfl,o,dx,_,rfl,hi2,rfl,_,rfl,_,rfl,l,(ρ z).toList.map dX,1,rfl,Qh _,hKl,(by have:=gD (ρ z);simpa using this),λl3 H3 s3 Kj=>?_⟩⟩;rw[if_neg (by decide)] at Kj;have Kj:KL H3 l3 (ρ z).toList:=Kj;refine⟨_,rfl,l3,(ρ z).toList,kd,rfl,Kj,gD _,λH4 s4=>?_⟩;have s34:=s3.trans s4;refine aw 1 rfl (s34 _ _ Ii) rfl ?_;exact⟨o,dx,d2,F,fs,dz (ρ z).toList kd,r,"kind",rfl,HU.same s34,by lia,oq _ _,λH5 l5 J2=>hE _ _ (l5.ls.2 _ _ (s34 _ _ hp)) (HP _ _ ⟨(bT s34).trans l5,J2,_,_,rfl⟩)⟩
 rintro σ' H2 ⟨l2,IX,s5,s6,rfl⟩;have hK2:=Le.kept l2.ls;have hKl2:=hKl.kept l2.ls;obtain⟨xs,hx,hP,hxe⟩:=hK2.p1;obtain⟨ys,hy,hP2,hye⟩:=hKl2.p1;refine⟨_,rfl,_,rfl,_,rfl,p,xs,rfl,hx,hP,_,rfl,l,ys,rfl,hy,hP2,?_⟩;refine⟨(if xs=[] then 0 else 1),(if ys=[] then 0 else 1),?_,?_⟩
 ·split<;>split<;>rfl
 generalize hm:((if xs=[] then 0 else 1)^^^((if xs=[] then 0 else 1)&&&(if ys=[] then 0 else 1)):Nat)=m
 have hm1:m<=1/\((ρ z).toList++(if m=0 then [] else k.toList))=(gF ρ z k z).toList:=by
  unfold gF;rw[if_pos rfl]
  cases k with
  |none =>
   rw[if_pos (hxe.mpr rfl)] at hm;subst hm;cases ρ z<;>simp
  |some kd =>
   rw[if_neg (λq=>by have:=hxe.mp q;simp at this)] at hm
   cases hρ:ρ z with
   |none =>
    rw[hρ] at hye;rw[if_pos (hye.mpr rfl)] at hm;subst hm;exact⟨by decide,by simp⟩
   |some k0 =>
    rw[hρ] at hye;rw[if_neg (λq=>by have:=hye.mp q;simp at this)] at hm;subst hm;exact⟨by decide,by simp⟩
 refine⟨p,k.toList.map dX,m,rfl,hm1.1,hK2,(by have:=gD k;simpa using this),λp3 H3 s3 Kj=>?_⟩
 have Kj:KL H3 p3 (if m=0 then [] else k.toList):=by
  by_cases h0:m=0
  ·rw[if_pos h0] at Kj ⊢;exact Kj
  rw[if_neg h0] at Kj ⊢;exact Kj
 obtain⟨xs1,ys1,h1,h2,h3,h4,h5⟩:=(hKl2.same s3).cat Kj;refine⟨l,p3,xs1,ys1,rfl,rfl,h1,h2,?_,λl4 hl4=>?_⟩
 ·have e1:=gD (ρ z)
  have e2:(if m=0 then [] else k.toList).length<=1:=by
   split
   ·simp
   exact gD k
  have:=bC (n:=xs1.length+ys1.length) (by lia);lia
 have hK4:=h5 l4 hl4;have s4:=aj (o:=.lst (xs1++ys1)) hl4;have lk4:bL H1 (ag H3 l4 (.lst (xs1++ys1))):=l2.trans (bT (s3.trans s4));obtain⟨H5,hput,ls5,hn5,hoth,kv,hkv⟩:=(K1.kept lk4).put hK4 hm1.2 hn9;refine⟨_,rfl,aw 2 rfl (lk4.ls.1 _ _ Ii) rfl ⟨d3,H5,rfl,hput,?_⟩⟩;refine kq H5 ((ls1.trans lk4).d.trans ⟨ls5,λa kv n h=>by rw[hoth _ n];exact h⟩) ?_ hn5;have Lb:=IX.same (s3.trans s4);obtain⟨⟨d1,i1,i3,i4⟩,i2⟩:=Lb;refine⟨⟨d1,?_,?_,i4⟩,?_⟩
 ·rw[hoth _ (λq=>by rw[q,hkv] at i1;cases i1)];exact i1
 ·rw[hoth _ (λq=>by rw[q,hkv] at i3;cases i3)];exact i3
 rw[hoth _ (λq=>by rw[q,hkv] at i2;cases i2)];exact i2
theorem cS.mono{d:Addr}(h:cS H d ρ n)(q:n<=m):cS H d ρ m:=by obtain⟨⟨kvs,a,b,c⟩⟩:=h;exact⟨⟨kvs,a,QR b q,c⟩⟩
noncomputable def fj(r:Nat)(k:Option Kd)(KQ HZ:Str)(fs:List (List ae)):List (List ae):=if dz k.toList HZ=0 then fs else cf fs (kk r KQ)
noncomputable def hW(r:Nat)(k:Option Kd)(fs:List (List ae)):List (List ae):=if k.toList.any isRec then cf fs (kk r "tell") else fs
noncomputable def gi(t:Tr)(k:Option Kd)(ρ:Env)(du:Kd)(fs:List (List ae)):List (List ae):=match t with
 |.set r z _=>iR r ρ z k fs
 |.tell r _=>hW r k fs
 |.give r _=>fj r k "kind" (du.getD "") fs
 |t=>fj t.row k "truth" "truth" fs
noncomputable def rR(t:Tr)(k:Option Kd)(ρ:Env):Env:=match t with
 |.set _ z _=>gF ρ z k
 |_=>ρ
noncomputable def jo:Tr->Bool
 |.give _ _=>true
 |_=>false
inductive xW (C:Addr) (vs:List V) (H:Hp) (Q:VK) (E:XK):Prop
 |mk:∀(o dx d2 d3 p:Addr) (F:List (List ae×V)) (fs:List (List ae)) (ρ:Env) (n:Nat) (v:V) (t:Tr) (k:Option Kd) (du:Kd) (e:Ex),vs=[.ref o,v,.ref p,.ref d3,dX du]->bx H true v t->t.ex=some e->(jo t=true->du≠none)->KL H p k.toList->bz H C o dx d2 F fs->cS H d3 ρ n->fs.length<900->n<900->(∀H',eV d3 H H'->bz H' C o dx d2 F (gi t k ρ du fs)->cS H' d3 (rR t k ρ) (n+1)->Q .non H')->xW C vs H Q E
theorem FN{t:Tr}(he:t.ex=some e):(∃r z e,t=.set r z e)∨(t.kw≠"set"/\(∀k ρ,rR t k ρ=ρ)/\((t.kw="give"/\jo t=true/\∀k ρ du fs,gi t k ρ du fs=fj t.row k "kind" (du.getD "") fs)∨(t.kw≠"give"/\((t.kw="tell"/\∀k ρ du fs,gi t k ρ du fs=hW t.row k fs)∨(t.kw≠"tell"/\∀k ρ du fs,gi t k ρ du fs=fj t.row k "truth" "truth" fs))))):=by
 cases t with
 |set r n e=>exact .inl ⟨r,n,e,rfl⟩
 |tell r e=>exact .inr ⟨by show("tell":Str)≠"set";decide,λ_ _=>rfl,.inr ⟨by show("tell":Str)≠"give";decide,.inl ⟨rfl,λ_ _ _ _=>rfl⟩⟩⟩
 |give r e=>exact .inr ⟨by show("give":Str)≠"set";decide,λ_ _=>rfl,.inl ⟨rfl,rfl,λ_ _ _ _=>rfl⟩⟩
 |iff r e b o=>exact .inr ⟨by show("if":Str)≠"set";decide,λ_ _=>rfl,.inr ⟨by show("if":Str)≠"give";decide,.inr ⟨by show("if":Str)≠"tell";decide,λ_ _ _ _=>rfl⟩⟩⟩
 |whl r e b=>exact .inr ⟨by show("while":Str)≠"set";decide,λ_ _=>rfl,.inr ⟨by show("while":Str)≠"give";decide,.inr ⟨by show("while":Str)≠"tell";decide,λ_ _ _ _=>rfl⟩⟩⟩
 |df r n k ps b=>cases he
 |kd r n ps=>cases he
noncomputable abbrev xX:List Str:=["self","one","kinds","names","due","at"]
theorem xY:bf xX Yn (aJ nZ):=by decide +kernel
theorem FO(T:All P w K mg AA DD):aE P w K mg base aG 4 AA.Ze DD.Ze Yn (xW AA.c_KindLook):=by
 have GU:=rJ (base:=base) T;have GO:=lW (base:=base) T;have GA:=lS (base:=base) T;have GIR:=Ff (base:=base) T;have GLS:=FM (base:=base) T;refine T.z_Ze.F.ok xY (λvs H Q E h=>by cases h;subst_vars;rfl) λHQ A outer s H vs Q E hr h=>?_;obtain⟨o,dx,d2,d3,p,F,fs,ρ,n,v,t,k,du,e0,rfl,hS,IT,hgv,hK,hk,hn,hf,hn9,kq⟩:=h;have nd:=xY.nd;have hr3:aB 3 _:=hr;have Iz:aB 2 _:=hr3.mono (by decide);have HX:aB 1 _:=hr3.mono (by decide);refine⟨_,(aq (aQ (i:=5) nd rfl (Or.inl rfl) (av (pv 1))) (ap (aV (aH bi (av (pv 1)) au (aI _)) (ap (bF (cM (pv 0) T.cl_KindLook T.M_Zf GLS hr3 T.z_Zf.b .nil cD (aa (pv 1) (aa (pv 2) (aa (pv 3) af)))) (by rfl))) (ap (aV (aH bi (av (pv 1)) au (aI _)) (ap (bF (cM (pv 0) T.cl_KindLook T.M_Zm GO Iz T.z_Zm.b .nil cD (aa (aO GU Iz rfl T.z_ZS (aa (pv 2) (aa (pv 4) af))) (aa (pv 5) (aa au af)))) (by rfl))) (ap (aV (aH bi (av (pv 1)) au (aI _)) (ap (bF (cM (pv 0) T.cl_KindLook T.M_Zm GO Iz T.z_Zm.b .nil cD (aa (aO GA HX rfl T.z_ZO (aa (gu (aJ nZ) xX [] [] rfl (by decide +kernel) rfl rfl (cG (pv 2)) (λ_ _ _ _=>iF (mC (aO GIR HX rfl T.z_Zy (aa (av (pv 0)) af)))) (λ_ _ _ _=>(pv 0))) af)) (aa (pv 5) (aa au af)))) (by rfl))) (ap (bF (cM (pv 0) T.cl_KindLook T.M_Zm GO Iz T.z_Zm.b .nil cD (aa (aO GU Iz rfl T.z_ZS (aa (pv 2) (aa au af))) (aa (pv 5) (aa au af)))) (by rfl)))))))))),?_⟩;have K3:=hS
 cases hS with
 | @mk t0 vs _ Jn IL =>
 obtain⟨vr,rfl⟩:=oj IL;obtain⟨d1,hi,_⟩:=hk.ins;refine aw 1 rfl Jn rfl ?_;dsimp only[aP];refine aw 0 rfl Jn rfl ⟨rfl,_,rfl,?_⟩
 rcases FN IT with ⟨r,z,e,rfl⟩|⟨n1,hE,hc⟩
 ·refine dW ?_;refine⟨_,rfl,o,dx,_,rfl,hi,rfl,_,rfl,_,rfl,_,rfl,?_⟩;exact⟨o,dx,d2,d3,p,F,fs,ρ,n,r,.ref t0,z,e,k,rfl,K3,hK,hk,hn,hf,hn9,kq⟩
 refine cQ n1 ?_;have kq':∀H',bL H H'->bz H' AA.c_KindLook o dx d2 F (gi t k ρ du fs)->Q .non H':=λH' lk h=>kq H' lk.d h (by rw[hE];exact(hn.kept lk).mono (by lia));refine aw 0 rfl Jn rfl ⟨rfl,_,rfl,?_⟩
 rcases hc with ⟨hw,hgi,ht⟩|⟨n2,hc⟩
 ·refine bS (Qn (by rw[hw])) ?_;obtain⟨dk,rfl⟩:∃dk,du=some dk:=Option.ne_none_iff_exists'.mp (hgv hgi);refine⟨_,rfl,o,dx,_,rfl,hi,rfl,_,rfl,_,rfl,p,_,dk,rfl,hK,gD _,λH2 s2=>⟨_,rfl,?_⟩⟩;exact⟨o,dx,d2,F,fs,dz k.toList dk,t.row,"kind",rfl,hk.same s2,by lia,oq _ _,λH3 K6 Iy=>kq' _ ((bT s2).trans K6) (by rw[ht];exact Iy)⟩
 refine cQ n2 ?_;refine aw 0 rfl Jn rfl ⟨rfl,_,rfl,?_⟩
 rcases hc with ⟨hw,ht⟩|⟨hw,ht⟩
 ·refine bS (Qn (by rw[hw])) ?_;refine⟨_,rfl,o,dx,_,rfl,hi,rfl,?_⟩
  cases k with
  |none =>
   have hp:=aK.nil.mp hK;exact⟨_,rfl,p,rfl,⟨_,am.of hp⟩,Fc hp λq hq=>⟨q,[],rfl,ah,nofun,_,rfl,o,dx,d2,F,fs,0,t.row,"tell",rfl,hk.same (aj hq),by lia,by decide,λH3 K6 Iy=>kq' _ ((bT (aj hq)).trans K6) (by rw[ht];exact Iy)⟩⟩
  |some ko =>
   obtain⟨u0,hp,JY⟩:=aK.one.mp hK;refine⟨_,rfl,p,rfl,⟨_,am.of hp⟩,Fd hp (aw 1 rfl JY rfl ⟨ko,rfl,?_⟩)⟩
   cases hb:isRec ko with
   |false=>exact⟨_,rfl,bh rfl ⟨Same.refl _,λq hq=>⟨q,[],rfl,ah,nofun,_,rfl,o,dx,d2,F,fs,0,t.row,"tell",rfl,hk.same (aj hq),by lia,by decide,λH3 K6 Iy=>kq' _ ((bT (aj hq)).trans K6) (by rw[ht];unfold hW;rw[if_neg (by simp[hb])];exact Iy)⟩⟩⟩
   |true=>exact⟨_,rfl,bS rfl ⟨_,rfl,(by show 0<sizeLine;decide),Same.refl _,λq hq=>⟨q,[.ref u0],rfl,ah,λx hx=>⟨u0,_,Qj hx,aj hq _ _ JY⟩,_,rfl,o,dx,d2,F,fs,1,t.row,"tell",rfl,hk.same (aj hq),by lia,by decide,λH3 K6 Iy=>kq' _ ((bT (aj hq)).trans K6) (by rw[ht];unfold hW;rw[if_pos (by simp[hb])];exact Iy)⟩⟩⟩
 refine cQ hw ?_;refine⟨_,rfl,o,dx,_,rfl,hi,rfl,_,rfl,p,_,"truth",rfl,hK,gD _,λH2 s2=>⟨_,rfl,?_⟩⟩;exact⟨o,dx,d2,F,fs,dz k.toList "truth",t.row,"truth",rfl,hk.same s2,by lia,oq _ _,λH3 K6 Iy=>kq' _ ((bT s2).trans K6) (by rw[ht];exact Iy)⟩
theorem FP{k:Nat}{g:TG}{xs:List V}(Pv:Nat->List V->Hp->Prop)(h0:Pv 0 [] H)(hl:∀i ys H,i<=xs.length->Pv i ys H->ao K H a xs)
  (hs:∀i x ys H,xs[i]?=some x->Pv i ys H->jQ k js g tt te σ ys (Pv (i+1)) x H)
  (hd:∀ys H,Pv xs.length ys H->∀p,H p=none->Q (.ref p) (ag H p (.lst ys))):jR (io K a) k js g tt te σ H Q:=by
 refine⟨λi m ys H=>m=xs.length-i/\i<=xs.length/\Pv i ys H,⟨xs.length,by simp,Qy _,h0⟩,?_⟩;rintro i m ys H ⟨rfl,hi,p⟩;have q:=hl i ys H hi p;by_cases HS:i<xs.length
 ·refine .inr ⟨⟨xs,xs[i],q,by simp[HS]⟩,Pv (i+1),λIb H' p'=>⟨xs.length-(i+1),by lia,rfl,HS,p'⟩,λx H' y=>?_⟩;obtain⟨e,y⟩:=y;subst e;exact hs i x ys _ (y xs q) p
 have e:i=xs.length:=by lia
 subst e;exact .inl ⟨⟨xs,q,Qh _⟩,hd ys H p⟩
noncomputable def env0:Env:=λ_=>none
noncomputable def jp(ps:List (Str×Str)):Env:=ps.foldl (λρ q=>λz=>if z=q.1 then some (some q.2) else ρ z) env0
theorem FQ:∀(pv:List (ae×V)) (ps:List (Str×Str)),pv.length=ps.length->(∀(i:Nat) (p:ae×V) (q:Str×Str),pv[i]?=some p->ps[i]?=some q->∃l,p=(.inr q.1,.ref l)/\KL H l [some q.2]) ->
  ∀z:Str,(aZ (eR pv) (.inr z)=none/\jp ps z=none)∨∃p,aZ (eR pv) (.inr z)=some (.ref p)/\KL H p (jp ps z).toList:=by
 have go:∀ (pv:List (ae × V)) (ps:List (Str × Str)) (a:List (ae × V)) (ρ:Env),pv.length=ps.length->(∀ (i:Nat) (p:ae × V) (q:Str × Str),pv[i]?=some p->ps[i]?=some q->∃ l,p=(.inr q.1,.ref l)/\KL H l [some q.2]) ->
   (∀z:Str,(aZ a (.inr z)=none/\ρ z=none)∨∃p,aZ a (.inr z)=some (.ref p)/\KL H p (ρ z).toList) ->
   ∀z:Str,(aZ (pv.foldl (λq p=>cc q p.1 p.2) a) (.inr z)=none/\ps.foldl (λρ q=>λz=>if z=q.1 then some (some q.2) else ρ z) ρ z=none)∨∃p,aZ (pv.foldl (λq p=>cc q p.1 p.2) a) (.inr z)=some (.ref p)/\KL H p (ps.foldl (λρ q=>λz=>if z=q.1 then some (some q.2) else ρ z) ρ z).toList:=λpv=>by
  induction pv with
  |nil=>intro ps a ρ hl _ h;cases ps with|nil=>exact h|cons _ _=>simp at hl
  |cons p pv ih =>
   intro ps a ρ hl hr h
   cases ps with
   |nil=>simp at hl
   |cons q ps =>
    obtain⟨l,rfl,hK⟩:=hr 0 p q rfl rfl;simp only[List.foldl_cons];refine ih ps _ _ (by simpa using hl) (λi p' q' h1 h2=>hr (i+1) p' q' (by simpa using h1) (by simpa using h2)) λz=>?_;rw[mT];by_cases hz:z=q.1
    ·rw[if_pos (by rw[hz]),if_pos hz];exact .inr ⟨l,rfl,hK⟩
    rw[if_neg (λe=>hz (by injection e)),if_neg hz];exact h z
 intro pv ps hl hr;exact go pv ps [] env0 hl hr λz=>.inl ⟨rfl,rfl⟩
abbrev cX:=Env×List (List ae)
noncomputable def bN(tt:List Tr)(du:Kd)(t:Tr)(e:Ex)(s:cX):cX:=(rR t (cA tt s.1 e) s.1,gi t (cA tt s.1 e) s.1 du (aW tt s.1 t.row e s.2))
noncomputable def d0(r:Nat)(b:List Tr)(fs:List (List ae)):List (List ae):=if cy b=0 then cf fs (kk r "give") else fs
mutual
noncomputable def bV(tt:List Tr)(du:Kd):Tr->cX->cX
 |.set r n e,fs=>bN tt du (.set r n e) e fs
 |.tell r e,fs=>bN tt du (.tell r e) e fs
 |.give r e,fs=>bN tt du (.give r e) e fs
 |.iff r e b o,fs=>kfTs tt du o (kfTs tt du b (bN tt du (.iff r e b o) e fs))
 |.whl r e b,fs=>kfTs tt du b (bN tt du (.whl r e b) e fs)
 |.df r n k ps b,fs=>(fs.1,(kfTs tt (some k) b (jp ps,d0 r b fs.2)).2)
 |.kd r n ps,fs=>fs
noncomputable def kfTs(tt:List Tr)(du:Kd):List Tr->cX->cX
 | [],fs=>fs
 |t::ts,fs=>kfTs tt du ts (bV tt du t fs)
end
theorem FR(tt:List Tr)(du:Kd)(t:Tr)(h:t.ex=some e)(fs:cX):bV tt du t fs=t.blocks.foldl (λgs b=>kfTs tt du b gs) (bN tt du t e fs):=by cases t<;>first|(cases h;simp[bV,Tr.blocks];done)|cases h
theorem ma(tt:List Tr)(du:Kd):∀(a b:List Tr) (fs:cX),kfTs tt du (a++b) fs=kfTs tt du b (kfTs tt du a fs)
 | [],_,_=>by simp[kfTs]
 |t::a,b,fs=>by show kfTs tt du (a++b) (bV tt du t fs)=kfTs tt du b (kfTs tt du a (bV tt du t fs));exact ma tt du a b _
theorem FT(t:Tr)(k:Option Kd)(ρ:Env)(du:Kd)(fs:List (List ae)):(gi t k ρ du fs).length<=fs.length+1:=by
 have h1:=λr z=>rN fs (kk r z)
 have h3:∀r w d,(fj r k w d fs).length<=fs.length+1:=λr w d=>by
  unfold fj;split
  ·lia
  exact h1 _ _
 unfold gi;split
 ·unfold iR;split
  ·unfold eK;split
   ·lia
   exact h1 _ _
  lia
 ·unfold hW;split
  ·exact h1 _ _
  lia
 ·exact h3 _ _ _
 exact h3 _ _ _
theorem xZ(tt:List Tr)(ρ:Env)(r:Nat)(e:Ex)(fs:List (List ae)):(aW tt ρ r e fs).length<=fs.length+2:=(fN tt ρ r e fs).len
theorem kE(tt:List Tr)(du:Kd)(t:Tr)(e:Ex)(s:cX):(bN tt du t e s).2.length<=s.2.length+3:=by have h1:=xZ tt s.1 t.row e s.2;have h2:=FT t (cA tt s.1 e) s.1 du (aW tt s.1 t.row e s.2);unfold bN;show(gi t (cA tt s.1 e) s.1 du (aW tt s.1 t.row e s.2)).length<=_;lia
theorem ya(r:Nat)(b:List Tr)(fs:List (List ae)):(d0 r b fs).length<=fs.length+1:=by
 unfold d0;split
 ·exact rN _ _
 lia
mutual
theorem FU(tt:List Tr):∀(du:Kd) (t:Tr) (fs:cX),(bV tt du t fs).2.length<=fs.2.length+3*t.cnt
 |du,.set r n e,fs=>by have:=kE tt du (.set r n e) e fs;simp[bV,Tr.cnt];lia
 |du,.tell r e,fs=>by have:=kE tt du (.tell r e) e fs;simp[bV,Tr.cnt];lia
 |du,.give r e,fs=>by have:=kE tt du (.give r e) e fs;simp[bV,Tr.cnt];lia
 |du,.iff r e b o,fs=>by have h:=kE tt du (.iff r e b o) e fs;have h1:=kfTs_len tt du b (bN tt du (.iff r e b o) e fs);have h2:=kfTs_len tt du o (kfTs tt du b (bN tt du (.iff r e b o) e fs));simp[bV,Tr.cnt];lia
 |du,.whl r e b,fs=>by have h:=kE tt du (.whl r e b) e fs;have h1:=kfTs_len tt du b (bN tt du (.whl r e b) e fs);simp[bV,Tr.cnt];lia
 |du,.df r n k ps b,fs=>by have h:=ya r b fs.2;have h1:=kfTs_len tt (some k) b (jp ps,d0 r b fs.2);simp[bV,Tr.cnt] at h1 ⊢;lia
 |du,.kd r n ps,fs=>by simp[bV]
theorem kfTs_len(tt:List Tr):∀(du:Kd) (ts:List Tr) (fs:cX),(kfTs tt du ts fs).2.length<=fs.2.length+3*cnts ts
 |du,[],fs=>by simp[kfTs,cnts]
 |du,t::ts,fs=>by have h1:=FU tt du t fs;have h2:=kfTs_len tt du ts (bV tt du t fs);simp[kfTs,cnts];lia
end
theorem yb(tt:List Tr)(du:Kd):∀(bs:List (List Tr)) (fs:cX),(bs.foldl (λgs b=>kfTs tt du b gs) fs).2.length<=fs.2.length+3*(bs.map cnts).sum
 | [],fs=>by simp
 |b::bs,fs=>by have h1:=kfTs_len tt du b fs;have h2:=yb tt du bs (kfTs tt du b fs);simp only[List.foldl_cons,List.map_cons,List.sum_cons];lia
theorem FV{t:Tr}(h:t.asc){e:Ex}(q:t.ex=some e):e.fit:=by
 cases t with
 |set r n e=>cases q;exact h
 |tell r e=>cases q;exact h
 |iff r e b o=>cases q;exact h.1
 |whl r e b=>cases q;exact h.1
 |give r e=>cases q;exact h
 |_=>cases q
theorem yc:∀{ts:List Tr} {i:Nat} {t:Tr},ts[i]?=some t->cnts (ts.take (i+1))=cnts (ts.take i)+t.cnt/\cnts (ts.take i)+t.cnt<=cnts ts
 |x::ts,0,t,h=>by cases (show some x=some t from h);simp[cnts]
 |x::ts,i+1,t,h=>by obtain⟨a,b⟩:=yc (ts:=ts) (i:=i) h;simp[cnts,a];lia
theorem FW{t:Tr}{bs:List Tr}(h:bs∈t.blocks):bw.b bs∈t.parts:=by
 have:bw.b bs∈t.parts.filter fW:=by rw[xh];exact List.mem_map.mpr ⟨bs,h,rfl⟩
 exact(List.mem_filter.mp this).1
theorem yd:∀{bs:List (List Tr)} {i:Nat} {b:List Tr},bs[i]?=some b->((bs.take (i+1)).map cnts).sum=((bs.take i).map cnts).sum+cnts b/\((bs.take i).map cnts).sum+cnts b<=(bs.map cnts).sum
 |x::bs,0,b,h=>by cases (show some x=some b from h);simp
 |x::bs,i+1,b,h=>by obtain⟨a,c⟩:=yd (bs:=bs) (i:=i) h;simp only[List.take_succ_cons,List.map_cons,List.sum_cons,a];lia
mutual
def iS:Bool->Tr->Prop
 |_,.set _ _ e=>e.dos
 |_,.tell _ e=>e.dos
 |du,.give _ e=>du=true/\e.dos
 |du,.iff _ e b o=>e.dos/\okTs du b/\okTs du o
 |du,.whl _ e b=>e.dos/\okTs du b
 |_,.df _ _ _ _ b=>okTs true b
 |_,.kd _ _ _=>True
def okTs:Bool->List Tr->Prop
 |_,[]=>True
 |du,t::ts=>iS du t/\okTs du ts
end
theorem ye:∀{ts:List Tr} {t:Tr},okTs du ts->t∈ts->iS du t
 |u::ts,t,a,h=>by
  rcases Qx h with z|z
  ·subst z;exact a.1
  exact ye a.2 z
theorem FX{t:Tr}{e:Ex}(h:iS du t)(q:t.ex=some e):e.dos/\(jo t=true->du=true)/\∀b∈t.blocks,okTs du b:=by
 cases t with
 |set r n e=>cases q;exact⟨h,λz=>(by cases z),λb z=>by simp[Tr.blocks] at z⟩
 |tell r e=>cases q;exact⟨h,λz=>(by cases z),λb z=>by simp[Tr.blocks] at z⟩
 |give r e=>cases q;exact⟨h.2,λ_=>h.1,λb z=>by simp[Tr.blocks] at z⟩
 |iff r e b o =>
  cases q;refine⟨h.1,λz=>(by cases z),λx z=>?_⟩;simp[Tr.blocks] at z;rcases z with rfl|rfl
  ·exact h.2.1
  exact h.2.2
 |whl r e b =>
  cases q;refine⟨h.1,λz=>(by cases z),λx z=>?_⟩;simp[Tr.blocks] at z;subst z;exact h.2
 |_=>cases q
inductive jq (C:Addr) (k:Nat) (vs:List V) (H:Hp) (Q:VK) (E:XK):Prop
 |mk:∀(o dx d2 d3 l:Addr) (F:List (List ae×V)) (tt:List Tr) (n:Nat) (xs:List V) (ts:List Tr) (du:Kd) (fs:cX),vs=[.ref o,.ref l,.ref d3,dX du]->H l=some (.lst xs)->LAt H true xs ts->deeps ts<k->ascs ts->okTs du.isSome ts->bz H C o dx d2 F fs.2->fi H F tt->cS H d3 fs.1 n->fs.2.length+3*cnts ts<800->n+cnts ts+20<800->(∀H',eV d3 H H'->bz H' C o dx d2 F (kfTs tt du ts fs).2->cS H' d3 (kfTs tt du ts fs).1 (n+cnts ts)->Q .non H')->jq C k vs H Q E
inductive yf (C:Addr) (k:Nat) (vs:List V) (H:Hp) (Q:VK) (E:XK):Prop
 |mk:∀(o dx d2:Addr) (F:List (List ae×V)) (tt:List Tr) (v:V) (r:Nat) (z kd:Str) (ps:List (Str×Str)) (b:List Tr) (fs:List (List ae)),vs=[.ref o,.int 1,v]->bx H true v (.df r z kd ps b)->ps.length<=20->deeps b<k->ascs b->okTs true b->bz H C o dx d2 F fs->fi H F tt->fs.length+2+3*cnts b<800->cnts b+40<800->(∀H',bL H H'->bz H' C o dx d2 F (kfTs tt (some kd) b (jp ps,d0 r b fs)).2->Q .non H')->yf C k vs H Q E
theorem yg(r:Nat)(b:List Tr)(fs:List (List ae)):(1^^^(1&&&cy b))<=1/\(if(1^^^(1&&&cy b))=0 then fs else cf fs (kk r "give"))=d0 r b fs:=by have h:cy b=0∨cy b=1:=xI b;unfold d0;rcases h with h|h<;>rw[h]<;>exact⟨by decide,rfl⟩
noncomputable abbrev yh:List Str:=Yv
theorem yi:bf yh Yv (aJ nY):=by decide +kernel
theorem FY(T:All P w K mg AA DD)(k:Nat)(GY:aE P w K mg base aG (2*k+28) AA.Zb DD.Zb Yh (jq AA.c_KindLook k)) :
  aE P w K mg base aG (2*k+29) AA.Zd DD.Zd Yv (yf AA.c_KindLook k):=by
 have GO:=lW (base:=base) T;have GN:=lR (base:=base) T;have GGV:=Fp (base:=base) T;refine T.z_Zd.F.ok yi (λvs H Q E h=>by cases h;subst_vars;rfl) λHQ A outer s H vs Q E hr h=>?_;obtain⟨o,dx,d2,F,tt,v,r,z,kd,ps,b,fs,rfl,hS,IL,hd,ha,hok,hk,hF,hf,hc,kq⟩:=h;have nd:=yi.nd;have KF:aB (2*k+28) _:=hr;have Iz:aB 2 _:=KF.mono (by lia);have HX:aB 1 _:=KF.mono (by lia);obtain⟨t0,vp,lb,zs,ev,Jn,hp,hlb,hLb⟩:=wH hS;subst ev;refine⟨_,(aq (bF (cM (pv 0) T.cl_KindLook T.M_Zm GO Iz T.z_Zm.b .nil cD (aa (aO GN HX rfl T.z_ZL (aa (pv 1) (aa (aO GGV Iz rfl T.z_ZQ (aa (av (pv 2)) af)) af))) (aa (av (pv 2)) (aa au af)))) (by rfl)) (ap (bF (cM (pv 0) T.cl_KindLook T.M_Zb GY KF T.z_Zb.b .nil cD (aa (av (pv 2)) (aa (ix (qh true rfl) rfl T.n_dict qc (aa (jd (xs:=["name","kind"]) (aJ nY) yh ["mask"] [1] rfl (by decide +kernel) rfl rfl (kc (av (pv 2))) (λ_ _ _ _=>(dG (n:=2) rfl (bp (ba (i:=0) (show(["name","kind","mask"]:List Str).Nodup by decide +kernel) rfl (Or.inl rfl)) (bp (ba (i:=1) (show(["name","kind","mask"]:List Str).Nodup by decide +kernel) rfl (Or.inl rfl)) cV)))) (λ_ _ _ _=>fG) (λ_ _ _ _=>(aR (aa (pv 0) (aa (cb (aa (aR (aa (pv 2) (aa (pv 1) af))) af)) af))))) af)) (aa (av (pv 2)) af)))) (by rfl)))),?_⟩;obtain⟨d1,hi,_⟩:=hk.ins;refine⟨_,rfl,o,dx,_,rfl,hi,rfl,_,rfl,aw 5 rfl Jn rfl ?_⟩;refine⟨lb,zs,b,rfl,hlb,hLb,1,cy b,rfl,?_⟩;refine aw 1 rfl Jn rfl ?_;have hgl:=ya r b fs;refine⟨o,dx,d2,F,fs,1^^^(1&&&cy b),r,"give",rfl,hk,by lia,(yg r b fs).1,λH1 l1 HU=>?_⟩;rw[(yg r b fs).2] at HU;dsimp only[aP];obtain⟨tp,us,rfl,Ji,Kq,huat⟩:=hp.kept l1.ls;obtain⟨d1',hi1,_⟩:=HU.ins;have Ii:=l1.ls.1 _ _ Jn;have hlb1:=l1.ls.2 _ _ hlb;have hLb1:=hLb.kept l1.ls;refine⟨_,rfl,o,dx,_,rfl,hi1,rfl,aw 5 rfl Ii rfl ?_⟩;refine aw 4 rfl Ii rfl ⟨tp,rfl,⟨_,ao.of Ji⟩,?_⟩
 refine FP (K:=K0) (a:=tp) (xs:=us.map V.ref) (λi ys H'=>Same H1 H'/\i<=us.length/\∃(ts:List Addr) (pv:List (ae×V)),ys=ts.map V.ref/\ts.length=i/\pv.length=i/\(∀(j:Nat) (t:Addr) (p:ae×V),ts[j]?=some t->pv[j]?=some p->H' t=some (.tup [kV p.1,p.2]))/\∀(j:Nat) (p:ae×V) (q:Str×Str),pv[j]?=some p->ps[j]?=some q->∃l,p=(.inr q.1,.ref l)/\KL H' l [some q.2])
  ⟨Same.refl _,Qy _,[],[],rfl,rfl,rfl,λj t p h=>by simp at h,λj p q h=>by simp at h⟩ (λi ys H' _ h=>ao.of (h.1 _ _ Ji)) ?_ ?_
 ·rintro i x ys H2 hx ⟨s2,hi2,ts,pv,rfl,htl,ID,hat,hpat⟩;have Ke:i<us.length:=by have:=(Qc hx).1;rw[Qg] at this;exact this
  have ex:x=V.ref us[i]:=by rw[Qr,Qb Ke] at hx;exact(Qs hx).symm
  subst ex;have hip:i<ps.length:=by lia
  have hu2:=s2 _ _ (huat i us[i] ps[i] (Qb Ke) (Qb hip));intro os Ij
  obtain⟨o1,o2,rfl⟩:∃a b,os=[a,b]:=by
   match os,Ij with
   | [a,b],_=>exact⟨a,b,rfl⟩
  refine⟨us[i],_,rfl,ao.of hu2,rfl,_,_,rfl,_,_,rfl,rfl,⟨[_,_],rfl,rfl⟩,?_⟩;refine fF ?_;rw[if_pos rfl];refine⟨_,rfl,_,rfl,_,rfl,bg,λq1 hq1=>⟨ij,λq2 Iw=>⟨bg,λq3 hq3=>?_⟩⟩⟩;have s3:=aj (o:=.tup [.int 1,.str ps[i].2]) hq1;have s4:=aj (o:=.lst [.ref q1]) Iw;have s5:=aj (o:=.tup [.str ps[i].1,.ref q2]) hq3;have s345:=(s3.trans s4).trans s5;refine⟨by rw[Qg];exact bC (by lia),s2.trans s345,by lia,ts++[q3],pv++[(.inr ps[i].1,.ref q2)],by simp,by simp[htl],by simp[ID],λj t p h1 h2=>?_,λj p q h1 h2=>?_⟩
  ·by_cases hj:j<i
   ·rw[Ql (by lia)] at h1 h2;exact s345 _ _ (hat j t p h1 h2)
   have hj0:j=i:=by have:=(Qc h1).1;simp at this;lia
   subst hj0;rw[Qw (by lia)] at h1 h2;have e1:t=q3:=by simpa [htl] using h1.symm
   have e2:p=(.inr ps[j].1,.ref q2):=by simpa [ID] using h2.symm
   subst e1 e2;exact ah
  by_cases hj:j<i
  ·rw[Ql (by lia)] at h1;obtain⟨l,e,hK⟩:=hpat j p q h1 h2;exact⟨l,e,hK.same s345⟩
  have hj0:j=i:=by have:=(Qc h1).1;simp at this;lia
  subst hj0;rw[Qw (by lia)] at h1;have e2:p=(.inr ps[j].1,.ref q2):=by simpa [ID] using h1.symm
  rw[Qb hip] at h2;have e3:=Qs h2;subst e2 e3;refine⟨q2,rfl,[q1],s5 _ _ ah,rfl,λi t k x y=>?_⟩
  match i with
  |0=>cases (show some q1=some t from x);cases (show some (V.str ps[j].2)=some k from y);exact s5 _ _ (s4 _ _ ah)
  |i+1=>simp at x
 rintro ys H2 ⟨s2,_,ts,pv,rfl,htl,ID,hat,hpat⟩ q hq;rw[Qg] at htl ID;have sq:=aj (o:=.lst (ts.map V.ref)) hq;refine⟨q,ts,pv,rfl,ah,by lia,λj t p h1 h2=>sq _ _ (hat j t p h1 h2),λd3 hd3=>?_⟩;have s3:=(s2.trans sq).trans (aj (o:=.dK (eR pv)) hd3);have lk3:=bT s3;have Kg:H1 d3=none:=Same.free (s2.trans sq) hd3;have s4:=sq.trans (aj (o:=.dK (eR pv)) hd3);refine aw 3 rfl (s3 _ _ Ii) rfl ?_;refine⟨o,dx,d2,d3,lb,F,tt,ps.length,zs,b,some kd,(jp ps,d0 r b fs),rfl,s3 _ _ hlb1,hLb1.kept s3.ls,hd,ha,hok,HU.same s3,(hF.kept l1.ls).kept s3.ls,⟨⟨eR pv,ah,?_,?_⟩⟩,by show(d0 r b fs).length+3*cnts b<800;lia,by lia,λH4 l4 Lb _=>?_⟩
 ·have:=qg pv;lia
 ·exact FQ pv ps (by lia) λi p q h1 h2=>by obtain⟨l,e,hK⟩:=hpat i p q h1 h2;exact⟨l,e,hK.same s4⟩
 exact kq H4 (l1.trans ⟨lk3.ls.trans l4.ls,λa kv h=>l4.dk _ _ (λz=>by rw[z,Kg] at h;cases h) (lk3.dk _ _ h)⟩) Lb
noncomputable abbrev F0:List Str:=["self","statements","names","due","mask","one","block"]
theorem rS:bf F0 Yh (aJ re):=by decide +kernel
theorem F2(T:All P w K mg AA DD)(k:Nat)(GY:aE P w K mg base aG (2*k+28) AA.Zb DD.Zb Yh (jq AA.c_KindLook k)) :
  aE P w K mg base aG (2*(k+1)+28) AA.Zb DD.Zb Yh (jq AA.c_KindLook (k+1)):=by
 have GKO:=oy (base:=base) T 8;have GLR:=FO (base:=base) T;have GX:=E9 (base:=base) T;have GK:=Fa (base:=base) T;have GLD:=FY (base:=base) T k GY;refine T.z_Zb.F.ok rS (λvs H Q E h=>by cases h;subst_vars;rfl) λHQ A outer s H vs Q E hr h=>?_;obtain⟨o,dx,d2,d3,l,F,tt,n,xs,ts,du,fs,rfl,hl,hL,hd,ha,hg,hk,hF,hnm,hf,hn8,kq⟩:=h;have nd:=rS.nd;have hrL:aB (2*k+29) _:=hr;have KF:aB (2*k+28) _:=hrL.mono (by lia);have KW:aB (3*8+3) _:=KF.mono (by lia);have hr4:aB 4 _:=KF.mono (by lia);have HX:aB 1 _:=KF.mono (by lia);refine⟨_,(ap (dC PassesOwn.never rfl (cG (pv 1)) (dG rfl (bp (ba (i:=4) nd rfl (Or.inl rfl)) (bp (ba (i:=5) nd rfl (Or.inl rfl)) cV))) (ap (aV (aH bi (av (pv 5)) au (aI _)) (ap (bF (cM (pv 0) T.cl_KindLook T.M_Zd GLD hrL T.z_Zd.b .nil cD (aa (pv 4) (aa (pv 5) af))) (by rfl))) (ap (aV (aH dN (av (pv 5)) au (aI _)) (aq (bF (cM (pv 0) T.cl_KindLook T.M_Ze GLR hr4 T.z_Ze.b .nil cD (aa (pv 5) (aa (cM (pv 0) T.cl_KindLook T.M_Zg GKO KW T.z_Zg.b .nil cD (aa (pv 4) (aa (aO GX HX rfl T.z_ZM (aa (pv 5) af)) (aa (av (pv 5)) (aa (pv 2) af))))) (aa (pv 2) (aa (pv 3) af))))) (by rfl)) (ap (dC PassesOwn.never rfl (cG (aO GK HX rfl T.z_Zx (aa (pv 5) af))) (ba (i:=6) nd rfl (Or.inl rfl)) (ap (bF (cM (pv 0) T.cl_KindLook T.M_Zb GY KF T.z_Zb.b .nil cD (aa (pv 6) (aa (pv 2) (aa (pv 3) af)))) (by rfl))) (by intro _;rfl)))) be)))) (by intro _;rfl))),?_⟩;refine⟨_,rfl,l,rfl,⟨_,am.of hl⟩,?_⟩;have K7:=hL.length;refine iq (K:=K0) (a:=l) (xs:=xs) (λi σ' H'=>eV d3 H H'/\(∃x4 x5 x6,σ'=[some (.ref o),some (.ref l),some (.ref d3),some (dX du),x4,x5,x6])/\bz H' AA.c_KindLook o dx d2 F (kfTs tt du (ts.take i) fs).2/\cS H' d3 (kfTs tt du (ts.take i) fs).1 (n+cnts (ts.take i))) ⟨eV.refl _ _,⟨_,_,_,rfl⟩,by simpa [kfTs] using hk,by simpa [kfTs,cnts] using hnm⟩ (λi σ' H' _ h=>am.of (h.1.ls.2 _ _ hl)) ?_ ?_
 ·rintro i x σ' H1 hx ⟨l1,⟨x4,x5,x6,rfl⟩,HU,K1⟩;obtain⟨t,ht,hO⟩:=hL.get hx;have hO1:=hO.kept l1.ls;have hF1:=hF.kept l1.ls;have hm:t∈ts:=Qq ht;have hta:=nw ha hm;have htg:=ye hg hm;have hdm:=nv hm;obtain⟨ft,hnf⟩:=yc ht;have hq:=kfTs_len tt du (ts.take i) fs;obtain⟨hi',et⟩:=Qc ht;have etk:kfTs tt du (ts.take (i+1)) fs=bV tt du t (kfTs tt du (ts.take i) fs):=by rw[Qo hi',et,ma];rfl
  rw[etk,ft];generalize kfTs tt du (ts.take i) fs=gs at HU hq K1;generalize hnn:n+cnts (ts.take i)=m at K1;rw[show n+(cnts (ts.take i)+t.cnt)=m+t.cnt by lia]
  cases hO1 with
  |plain e _=>cases e
  | @shared p y _ _ hp hS =>
  have K3:=hS
  cases hS with
  | @mk t0 vs _ Jn IL =>
  obtain⟨vr,rfl⟩:=oj IL;obtain⟨d1,hi,_⟩:=HU.ins;refine⟨p,_,rfl,ao.of hp,rfl,_,_,rfl,_,_,rfl,rfl,?_⟩;refine aw 0 rfl Jn rfl ⟨rfl,_,rfl,?_⟩
  cases IT:t.ex with
  |none =>
   cases t with
   |df r z kd ps b =>
    refine dW ?_;have hb:deeps b<=(Tr.df r z kd ps b).deep:=nr (by simp[Tr.parts]);have hcn:(Tr.df r z kd ps b).cnt=1+cnts b:=by simp[Tr.cnt]
    refine⟨_,rfl,o,dx,_,rfl,hi,rfl,_,rfl,_,rfl,o,dx,d2,F,tt,.ref t0,r,z,kd,ps,b,gs.2,rfl,K3,hta.1,by lia,hta.2.2,htg,HU,hF1,by lia,by lia,λH2 l2 IX=>?_⟩;refine⟨l1.trans l2.d,⟨_,_,_,rfl⟩,?_,?_⟩
    ·rw[bV];exact IX
    rw[bV];exact(K1.kept l2).mono (by lia)
   |kd r z ps =>
    refine bh (Qk (by intro q;injection q with q;exact absurd q (by simp only[Tr.kw];decide +kernel))) ?_;refine aw 0 rfl Jn rfl ⟨rfl,_,rfl,?_⟩
    refine bh (by
     show(!decide (V.str "kind"=V.str "kind"))=false
     rw[Qn rfl];rfl) ?_
    refine⟨l1,⟨_,_,_,rfl⟩,?_,?_⟩
    ·rw[bV];exact HU
    rw[bV];exact K1.mono (by lia)
   |_=>cases IT
  |some ee =>
  refine bh (Qk λz=>(xi IT).1 (by injection z)) ?_;refine aw 0 rfl Jn rfl ⟨rfl,_,rfl,?_⟩
  refine bS (by
   show(!decide (V.str t.kw=V.str "kind"))=true
   rw[Qk λz=>(xi IT).2 (by injection z)];rfl) ?_
  obtain⟨hdos,hgiv,hblk⟩:=FX htg IT;have hfit:=FV hta IT;have hcb:=E7 t;refine⟨_,rfl,o,dx,_,rfl,hi,rfl,_,rfl,_,rfl,o,dx,_,rfl,hi,rfl,_,rfl,?_⟩;refine⟨_,rfl,.ref t0,t,ee,rfl,K3,IT,λx hx=>?_⟩;have Jj:=rN gs.2 (kk t.row "kind");have hb2:=xZ tt gs.1 t.row ee gs.2;refine aw 1 rfl Jn rfl ⟨_,rfl,o,dx,d2,F,tt,gs.2,x,d3,gs.1,_,ee,t.row,rfl,hx,hdos,K1,hF1,hfit.2,HU,⟨gs.2,.refl _ _,by lia⟩,λp2 H2 l2 IX hK2=>?_⟩;refine⟨_,rfl,_,rfl,o,dx,d2,d3,p2,F,aW tt gs.1 t.row ee gs.2,gs.1,_,.ref t0,t,cA tt gs.1 ee,du,ee,rfl,K3.kept l2.ls,IT,λz=>?_,hK2,IX,K1.kept l2,by lia,by lia,λH3 l3 Iy hn3=>?_⟩
  ·have:=hgiv z
   cases du with
   |none=>cases this
   |some x=>exact λz=>by cases z
  dsimp only;refine⟨_,rfl,.ref t0,t,rfl,(K3.kept l2.ls).kept l3.ls,λpb ys H4 s4 hpb HY=>⟨pb,rfl,⟨_,am.of hpb⟩,?_⟩⟩;have Lb:bz H4 AA.c_KindLook o dx d2 F (bN tt du t ee gs).2:=Iy.same s4;have hn4:cS H4 d3 (bN tt du t ee gs).1 (m+1):=hn3.kept (bT s4);have l4:=(l1.trans l2.d).trans (l3.trans (bT s4).d);have hF4:=hF.kept l4.ls;have IG:=HY.length;rw[Qg] at IG;have hrl:=kE tt du t ee gs;refine iq (K:=K0) (a:=pb) (xs:=ys) (λj σ' H'=>eV d3 H4 H'/\(∃x6,σ'=[some (.ref o),some (.ref l),some (.ref d3),some (dX du),some (.int 1),some (.ref t0),x6])/\bz H' AA.c_KindLook o dx d2 F ((t.blocks.take j).foldl (λgs b=>kfTs tt du b gs) (bN tt du t ee gs)).2/\cS H' d3 ((t.blocks.take j).foldl (λgs b=>kfTs tt du b gs) (bN tt du t ee gs)).1 (m+1+((t.blocks.take j).map cnts).sum)) ⟨eV.refl _ _,⟨_,rfl⟩,by simpa using Lb,by simpa using hn4⟩ (λj σ' H' _ h=>am.of (h.1.ls.2 _ _ hpb)) ?_ ?_
  ·rintro j v σ' H5 hv ⟨l5,⟨x6',rfl⟩,J2,Lk⟩;obtain⟨pp,hpp,hPP⟩:=HY.get hv;rw[Qr] at hpp;obtain⟨bs,hbs,rfl⟩:=Option.map_eq_some_iff.mp hpp;have hbm:=Qq hbs;obtain⟨fb,hn5⟩:=yd hbs;have hPP:=hPP.kept l5.ls
   cases hPP with
   | @b lb zs _ hlb hLb =>
   obtain⟨d1,hi5,_⟩:=J2.ins;have hq5:=yb tt du (t.blocks.take j) (bN tt du t ee gs);obtain⟨hj',ej⟩:=Qc hbs;rw[show(t.blocks.take (j+1)).foldl (λgs b=>kfTs tt du b gs) (bN tt du t ee gs)=kfTs tt du bs ((t.blocks.take j).foldl (λgs b=>kfTs tt du b gs) (bN tt du t ee gs)) from (by rw[Qo hj',ej,List.foldl_append];rfl),fb];generalize (t.blocks.take j).foldl (λgs b=>kfTs tt du b gs) (bN tt du t ee gs)=q5 at J2 hq5 Lk;have KG:=FW hbm;have hdb:=nr KG;refine⟨_,rfl,o,dx,_,rfl,hi5,rfl,_,rfl,_,rfl,_,rfl,o,dx,d2,d3,lb,F,tt,_,zs,bs,du,q5,rfl,hlb,hLb,by lia,(lG hta KG).2,hblk _ hbm,J2,hF4.kept l5.ls,Lk,by lia,by lia,λH' ls Jx hn'=>⟨l5.trans ls,⟨_,rfl⟩,Jx,hn'.mono (by lia)⟩⟩
  rintro σ' H5 ⟨l5,⟨x6',rfl⟩,J2,Lk⟩;rw[QC (by lia),<-FR tt du t IT] at J2 Lk;exact⟨l4.trans l5,⟨_,_,_,rfl⟩,J2,Lk.mono (by lia)⟩
 rintro σ' H1 ⟨l1,⟨x4,x5,x6,rfl⟩,HU,K1⟩;rw[QC (by lia)] at HU K1;exact kq _ l1 HU K1
theorem F3(T:All P w K mg AA DD):aE P w K mg base aG (2*0+28) AA.Zb DD.Zb Yh (jq AA.c_KindLook 0):=by
 have no:∀vs H Q E,¬jq AA.c_KindLook 0 vs H Q E:=λvs H Q E h=>by cases h;lia
 exact T.z_Zb.F.ok rS (λvs H Q E h=>(no _ _ _ _ h).elim) (λHQ A outer s H vs Q E hr h=>(no _ _ _ _ h).elim)
theorem yj(T:All P w K mg AA DD):∀k:Nat,aE P w K mg base aG (2*k+28) AA.Zb DD.Zb Yh (jq AA.c_KindLook k)
 |0=>F3 T
 |k+1=>F2 T k (yj T k)
inductive yk (C:Addr) (vs:List V) (H:Hp) (Q:VK) (E:XK):Prop
 |mk:∀(o dx l:Addr) (xs:List V) (ts:List Tr),vs=[.ref o,.ref l]->H o=some (.ins C dx [])->H l=some (.lst xs)->LAt H true xs ts->ts.length<=50->(∀d2 F H',bK H H'->bz H' C o dx d2 F []->fi H' F ts->Q .non H')->yk C vs H Q E
noncomputable abbrev F5:List Str:=YE
theorem yl:bf F5 YE (aJ qZ):=by decide +kernel
theorem F6(T:All P w K mg AA DD):aE P w K mg base aG 3 AA.Zl DD.Zl YE (yk AA.c_KindLook):=by
 have GA:=Fl (base:=base) T;refine T.z_Zl.F.ok yl (λvs H Q E h=>by cases h;subst_vars;rfl) λHQ A outer s H vs Q E hr h=>?_;obtain⟨o,dx,l,xs,ts,rfl,ho,hl,hL,h50,kq⟩:=h;have nd:=yl.nd;have Iz:aB 2 _:=hr;refine⟨_,(aq (tK (pv 0) (aO GA Iz rfl T.z_Zu (aa (pv 1) af)) rfl) (ap (tK (pv 0) (uN) rfl))),?_⟩;refine⟨_,rfl,l,xs,ts,rfl,hl,hL,h50,λd1 F H1 s1 Kg hF=>?_⟩;have K9:=s1 _ _ ho;refine⟨_,rfl,o,AA.c_KindLook,dx,_,rfl,K9,T.cl_KindLook,T.na_KindLook_firsts,(by show 0<1000;decide),?_⟩;refine λd2 hd2=>?_;have s3:=aj (o:=.dT []) hd2;refine⟨_,rfl,o,AA.c_KindLook,dx,_,rfl,s3 _ _ ah,T.cl_KindLook,T.na_KindLook_faults,(by show 1<1000;decide),?_⟩;have b1:=lQ (ob':=.ins AA.c_KindLook dx [("firsts",.ref d1)]) K9 (λ_ z=>nomatch z) (λ_ z=>nomatch z) λ_ _ z=>nomatch z
 have h3:=s3 _ _ (ah (H:=H1) (a:=o) (o:=.ins AA.c_KindLook dx [("firsts",.ref d1)]));have b2:=lQ (ob':=.ins AA.c_KindLook dx [("firsts",.ref d1),("faults",.ref d2)]) h3 (λ_ z=>nomatch z) (λ_ z=>nomatch z) λ_ _ z=>nomatch z
 have HL:d2≠o:=λz=>by rw[z,ah] at hd2;cases hd2
 have hne1:d1≠o:=λz=>by rw[z,K9] at Kg;cases Kg
 have hd12:ag H1 o (.ins AA.c_KindLook dx [("firsts",.ref d1)]) d1=some (.dT F):=by rw[ay hne1];exact Kg
 have hne2:d1≠d2:=λz=>by rw[<-z] at hd2;exact absurd (hd12.symm.trans hd2) (λz=>by cases z)
 refine kq d2 F _ (((s1.ls.trans b1).trans s3.ls).trans b2) ⟨⟨d1,ah,?_,hne2⟩,?_⟩ (((hF.kept b1).kept s3.ls).kept b2)
 ·rw[ay hne1];exact s3 _ _ hd12
 rw[ay HL,ah];rfl
theorem ym:bA H [] []:=⟨rfl,λi x d hx=>by simp at hx⟩
theorem oz(h:bA H xs ds)(g:bA H ys es):bA H (xs++ys) (ds++es):=by
 refine⟨by rw[Qi,Qi,h.1,g.1],λi x d hx hd=>?_⟩;by_cases hi:i<xs.length
 ·rw[Ql hi] at hx;rw[Ql (by rw[<-h.1];exact hi)] at hd;exact h.2 i x d hx hd
 rw[Qw (by lia)] at hx;rw[Qw (by rw[<-h.1];lia),<-h.1] at hd;exact g.2 _ x d hx hd
theorem dH(h:bA H xs ds)(s:eG H H'):bA H' xs ds:=⟨h.1,λi x d hx hd=>by obtain⟨t,a,b⟩:=h.2 i x d hx hd;exact⟨t,a,s _ _ b⟩⟩
theorem oA{t:Addr}{d:List ae}(h:H t=some (.tup (d.map kV))):bA H [.ref t] [d]:=⟨rfl,λi x k h1 h2=>by
 cases i with
 |succ i=>simp at h1
 |zero=>cases h1;cases h2;exact⟨t,rfl,h⟩⟩
def rT(k:List ae):Prop:=∃r z,k=kk r z
theorem rV{fs:List (List ae)}{k:List ae}(h:k∈dm fs):k∈fs:=by obtain⟨j,hj,e⟩:=QJ h;rw[<-e,Qd,Qb (wD j hj)];exact QN _
theorem yn(fs:List (List ae)):(dm fs).length=fs.length:=by unfold dm;rw[Qg,Dm]
inductive yo (vs:List V) (H:Hp) (Q:VK) (E:XK):Prop
 |mk:∀(d:Addr) (fs:List (List ae)),vs=[.ref d]->H d=some (.dT (cR fs))->fs.length<900->(∀k∈fs,rT k)->gy fs->(∀p ys H',Same H H'->H' p=some (.lst ys)->bA H' ys ((dm fs).map λk=>.inl 1::k)->Q (.ref p) H')->yo vs H Q E
noncomputable abbrev yp:List Str:=["found"]
theorem yq:bf yp ["found"] (aJ nN):=by decide +kernel
theorem F7(T:All P w K mg AA DD):aE P w K mg base aG 1 AA.Zt DD.Zt ["found"] yo:=by
 refine T.z_Zt.F.ok yq (λvs H Q E h=>by cases h;subst_vars;rfl) λHQ A outer s H vs Q E hr h=>?_;obtain⟨d,fs,rfl,hd,hf,Iq,hfw,kq⟩:=h;have nd:=yq.nd;have hu:=QE (Nat.add_le_add_left (show 1<=64 by decide) _) hr.units;refine⟨_,(ap (aN (gu (aJ nN) yp ["found"] [0] rfl (by decide +kernel) rfl rfl (cG (dO (Dx rfl) rfl T.n_sorted qr (aa (pv 0) af))) (λ_ _ _ _=>fG) (λ_ _ _ _=>(aD DE (aR (aa (lq hu (pv 1) (pv 0) (λ_ _=>rfl)) af)) (pv 0)))))),?_⟩;have hmp:(cR fs).map (·.1)=fs:=by unfold cR;rw[QY];exact List.map_id fs
 refine⟨_,rfl,d,cR fs,[true,false],rfl,hd,(by unfold cR;rw[Qg];lia),λkv hkv=>?_,by rw[hmp];exact hfw,by simp,λp xs hp hT=>?_⟩
 ·unfold cR at hkv;obtain⟨k,hk,rfl⟩:=QJ hkv;obtain⟨r,z,rfl⟩:=Iq k hk;rfl
 rw[hmp] at hT ⊢;have s1:=aj (o:=.lst (b7 fs xs)) hp;have hS:=wE hT;have hsl:=yn fs;refine⟨p,rfl,⟨_,am.of ah⟩,?_⟩;refine jO (K:=K0) (a:=p) (xs:=b7 fs xs) (λi ys H'=>Same (ag H p (.lst (b7 fs xs))) H'/\bA H' ys (((dm fs).take i).map λk=>.inl 1::k)) ⟨Same.refl _,ym⟩ (λi ys H' _ h=>am.of (h.1 _ _ ah)) ?_ ?_
 ·rintro i x ys H1 hx ⟨sm,HY⟩;have KM:i<(dm fs).length:=by rw[<-hS.1];exact(Qc hx).1
  obtain⟨t,rfl,ht⟩:=hS.2 i x (dm fs)[i] hx (Qb KM);have IG:=HY.1;rw[Qg,QH] at IG;have Kk:=rV (QN KM);have Ii:=sm _ _ (s1 _ _ ht);have Kg:=sm _ _ (s1 _ _ hd);rw[Qo KM,QD];generalize (dm fs)[i]=k at Ii Kk ⊢;have IH:aZ (cR fs) k=some (.int 1):=by rw[wY,if_pos (List.any_eq_true.mpr ⟨k,Kk,Qn rfl⟩)]
  obtain⟨r,z,rfl⟩:=Iq k Kk;refine fF ?_;rw[if_pos rfl];refine⟨_,rfl,_,rfl,d,.int 1,rfl,by rw[<-IH];exact b9.t Kg Ii,ij,λq hq=>?_⟩;have s2:=aj (o:=.tup [.int 1]) hq;refine⟨_,rfl,q,t,[.int 1],_,rfl,rfl,ao.of ah,ao.of (s2 _ _ Ii),by simp,(by show 1+2<=sizeLine;decide),λz=>absurd z (by simp[kk]),λ_ q2 Iw=>?_⟩;have s3:=s2.trans (aj (o:=.tup ([.int 1]++(kk r z).map kV)) Iw);exact⟨bC (by lia),sm.trans s3,oz (dH HY s3.tups) (oA ah)⟩
 rintro ys H1 ⟨sm,HY⟩ q hq;have s2:=aj (o:=.lst ys) hq;rw[QC (by rw[hS.1];exact Qh _)] at HY;exact kq q ys _ ((s1.trans sm).trans s2) ah (dH HY s2.tups)
def eL(fs:List (List ae)):Prop:=fs.Nodup/\∀k∈fs,rT k
theorem eL.add{fs:List (List ae)}(h:eL fs):eL (cf fs (kk r z)):=by
 unfold cf;split
 ·exact h
 rename_i q;refine⟨List.nodup_append.mpr ⟨h.1,by simp,λa ha b hb e=>q ?_⟩,λk hk=>?_⟩
 ·exact List.any_eq_true.mpr ⟨a,ha,Qn (by rw[e];simpa using hb)⟩
 rcases Qv hk with hk|hk
 ·exact h.2 k hk
 exact⟨r,z,by simpa using hk⟩
theorem eL.two{fs gs:List (List ae)}(h:eL fs)(t:bU r fs gs):eL gs:=by
 obtain⟨us,rfl,nd,hu⟩:=t;refine⟨List.nodup_append.mpr ⟨h.1,nd,λa ha b hb e=>(hu b hb).1 (e ▸ ha)⟩,λk hk=>?_⟩;rcases Qv hk with hk|hk
 ·exact h.2 k hk
 rcases (hu k hk).2 with q|q<;>exact⟨_,_,q⟩
theorem eL.row{t:Tr}(h:eL s.2):eL (bN tt du t e s).2:=by
 have h:=h.two (fN tt s.1 t.row e s.2);unfold bN gi iR hW fj eK;dsimp only
 repeat' split
 all_goals first|exact h|exact h.add
mutual
theorem F8(tt:List Tr):∀(du:Kd) (t:Tr) (s:cX),eL s.2->eL (bV tt du t s).2
 |du,.set r n e,s,h=>by rw[bV];exact h.row
 |du,.tell r e,s,h=>by rw[bV];exact h.row
 |du,.give r e,s,h=>by rw[bV];exact h.row
 |du,.iff r e b o,s,h=>by rw[bV];exact kfTs_ok tt du o _ (kfTs_ok tt du b _ h.row)
 |du,.whl r e b,s,h=>by rw[bV];exact kfTs_ok tt du b _ h.row
 |du,.df r n kd ps b,s,h=>by
  rw[bV];refine kfTs_ok tt (some kd) b _ ?_;show eL (d0 r b s.2);unfold d0;split
  ·exact h.add
  exact h
 |du,.kd r n ps,s,h=>by rw[bV];exact h
theorem kfTs_ok(tt:List Tr):∀(du:Kd) (ts:List Tr) (s:cX),eL s.2->eL (kfTs tt du ts s).2
 |du,[],s,h=>by rw[kfTs];exact h
 |du,t::ts,s,h=>by rw[kfTs];exact kfTs_ok tt du ts _ (F8 tt du t s h)
end
noncomputable def fK(ts:List Tr):List (List ae):=(kfTs ts none ts (env0,[])).2
theorem oB(ts:List Tr):eL (fK ts):=kfTs_ok ts none ts _ ⟨.nil,λk h=>by simp at h⟩
def rW(ts:List Tr):Prop:=deeps ts<6/\ts.length<=40/\ascs ts/\okTs false ts/\cnts ts<250/\gy (fK ts)
inductive yr (vs:List V) (H:Hp) (Q:VK) (E:XK):Prop
 |mk:∀(l:Addr) (xs:List V) (ts:List Tr),vs=[.ref l,.int 1]->H l=some (.lst xs)->LAt H true xs ts->rW ts->(∀p ys H',bK H H'->H' p=some (.lst ys)->bA H' ys ((dm (fK ts)).map λk=>.inl 1::k)->Q (.ref p) H')->yr vs H Q E
noncomputable abbrev F9:List Str:=["tree","mask","kept","look"]
theorem yt:bf F9 Ym (aJ qR):=by decide +kernel
theorem Ga(T:All P w K mg AA DD):aE P w K mg base aG 41 AA.Zn DD.Zn Ym yr:=by
 have GF:=wU (base:=base) T 6;have GC:=F6 (base:=base) T;have GY:=yj (base:=base) T 6;have GW:=F7 (base:=base) T;refine T.z_Zn.F.ok yt (λvs H Q E h=>by cases h;subst_vars;rfl) λHQ A outer s H vs Q E hr h=>?_;obtain⟨l,xs,ts,rfl,hl,hL,⟨hd,h20,ha,hg,hn,hfw⟩,kq⟩:=h;have nd:=yt.nd;have KF:aB (2*6+28) _:=hr.mono (by lia);have KD:aB 17 _:=hr.mono (by lia);have hr4:aB 4 _:=hr.mono (by lia);have hr3:aB 3 _:=hr.mono (by lia);have HX:aB 1 _:=hr.mono (by lia);have hfl:(fK ts).length<900:=by have:=kfTs_len ts none ts (env0,[]);show(kfTs ts none ts (env0,[])).2.length<900;rw[List.length_nil] at this;lia
 refine⟨_,(aq (aQ (i:=2) nd rfl (Or.inl rfl) (aO GF KD rfl T.z_Zv (aa (pv 0) (aa (pv 1) af)))) (aq (aQ (i:=3) nd rfl (Or.inl rfl) (AV T.M_KindLook GC hr4 rfl T.m_KindLook T.z_Zl.b .nil cD (aa (pv 2) af))) (aq (bF (cM (pv 3) T.cl_KindLook T.M_Zb GY KF T.z_Zb.b .nil cD (aa (pv 2) (aa mU (aa gm af)))) (by rfl)) (ap (aN (aO GW HX rfl T.z_Zt (aa (mM (pv 3) rfl) af))))))),?_⟩;refine⟨_,rfl,_,rfl,l,xs,ts,rfl,hl,hL,hd,h20,ha,λp ys H1 s1 hp HY=>?_⟩;dsimp only[aP];refine⟨_,rfl,λo dx ho hdx ne=>?_⟩;have s2:Same H1 (ag (ag H1 dx (.own o)) o (.ins AA.c_KindLook dx [])):=(aj (o:=.own o) hdx).trans (aj (by rw[ay (Ne.symm ne)];exact ho));refine⟨o,dx,p,ys,ts,rfl,ah,s2 _ _ hp,HY.kept s2.ls,by lia,λd2 F H3 l3 Iy hF3=>⟨rfl,?_⟩⟩;have JI:=l3.2 _ _ (s2 _ _ hp);have hL3:=(HY.kept s2.ls).kept l3;obtain⟨d1,hi3,_⟩:=Iy.ins;dsimp only[aP];refine⟨_,rfl,o,dx,_,rfl,hi3,rfl,_,rfl,λg hg'=>?_⟩;have s5:=aj (o:=.dK []) hg';refine⟨o,dx,d2,g,p,F,ts,0,ys,ts,none,(env0,[]),rfl,s5 _ _ JI,hL3.kept s5.ls,hd,ha,hg,Iy.same s5,hF3.kept s5.ls,⟨⟨[],ah,Qh _,λz=>.inl ⟨rfl,rfl⟩⟩⟩,(by show 0+3*cnts ts<800;lia),by lia,λH6 l6 Kc _=>?_⟩;obtain⟨d1',hi6,_⟩:=Kc.ins;refine⟨_,rfl,o,AA.c_KindLook,dx,_,_,rfl,hi6,T.cl_KindLook,T.na_KindLook_faults,rfl,d2,fK ts,rfl,Kc.flt,hfl,(oB ts).2,hfw,λq zs H7 s7 hq hT=>kq q zs H7 ?_ hq hT⟩;exact((((s1.trans s2).ls.trans l3).trans s5.ls).trans l6.ls).trans s7.ls
theorem yu{fs:List (List ae)}(hj:∀j,j<fs.length->j∈cW fs){k:List ae}(h:k∈fs):k∈dm fs:=by obtain⟨j,hl,e⟩:=List.getElem_of_mem h;unfold dm;refine List.mem_map.mpr ⟨j,hj j hl,?_⟩;rw[Qd,Qb hl];exact e
theorem Gb(hf:gy (fK ts)):(dm (fK ts)).Pairwise (λx y=>bm x y=true)/\∀k,k∈dm (fK ts)↔k∈fK ts:=by obtain⟨h1,h2⟩:=oB ts;obtain⟨u1,u2,u3⟩:=qt (ds:=fK ts) (sh:=[true,false]) (λd hd=>by obtain⟨r,z,rfl⟩:=h2 d hd;rfl) hf h1;exact⟨u1,λk=>⟨rV,yu u3⟩⟩
inductive yv (vs:List V) (H:Hp) (Q:VK) (E:XK):Prop
 |mk:∀(l:Addr) (xs:List V) (ts:List Tr),vs=[.ref l]->H l=some (.lst xs)->LAt H false xs ts->rW ts->(∀p ys ks H',bK H H'->H' p=some (.lst ys)->bA H' ys ks->ks.Pairwise (λx y=>bm x y=true)->(∀k,k∈ks↔k∈fK ts)->Q (.ref p) H')->yv vs H Q E
noncomputable abbrev yw:List Str:=["tree"]
theorem yx:bf yw ["tree"] (aJ nU):=by decide +kernel
theorem Gc(T:All P w K mg AA DD):aE P w K mg base aG 42 AA.Zq DD.Zq ["tree"] yv:=by
 have GF:=wL (base:=base) T 6;have GS:=Ga (base:=base) T;refine T.z_Zq.F.ok yx (λvs H Q E h=>by cases h;subst_vars;rfl) λHQ A outer s H vs Q E hr h=>?_;obtain⟨l,xs,ts,rfl,hl,hL,hok,kq⟩:=h;have nd:=yx.nd;have hrS:aB 41 _:=hr;have KD:aB 13 _:=hrS.mono (by lia);refine⟨_,(ap (aN (jd (xs:=YB) (aJ nU) yw [] [] rfl (by decide +kernel) rfl rfl (cG (aO GS hrS rfl T.z_Zn (aa (aO GF KD rfl T.z_Zw (aa (pv 0) af)) (aa ar af)))) (λ_ _ _ _=>(B3 (K:=K) (n:=3) rfl rfl (bp (ba (i:=0) (show(YB:List Str).Nodup by decide +kernel) rfl (Or.inl rfl)) (bp (ba (i:=1) (show(YB:List Str).Nodup by decide +kernel) rfl (Or.inl rfl)) (bp (ba (i:=2) (show(YB:List Str).Nodup by decide +kernel) rfl (Or.inl rfl)) cV))))) (λ_ _ _ _=>fG) (λ_ _ _ _=>(aR (aa (pv 1) (aa (pv 2) af))))))),?_⟩;refine⟨_,rfl,l,xs,ts,rfl,hl,hL,hok.1,hok.2.1,hok.2.2.1,λp ys H1 s1 hp HY=>?_⟩;refine⟨p,ys,ts,rfl,hp,HY,hok,λq zs H2 l2 hq hT=>?_⟩;obtain⟨f1,f2⟩:=Gb hok.2.2.2.2.2;have Iq:∀k∈dm (fK ts),rT k:=λk hk=>(oB ts).2 k ((f2 k).mp hk);have hll:=yn (fK ts);have hfl:=kfTs_len ts none ts (env0,[]);have hfl:(fK ts).length<=0+3*cnts ts:=hfl;have hcn:=hok.2.2.2.2.1;generalize dm (fK ts)=ks at hT f1 f2 Iq hll;refine⟨q,rfl,⟨_,am.of hq⟩,?_⟩;have hzl:=hT.1;rw[Qg] at hzl;refine mW (K:=K0) (a:=q) (xs:=zs) (λi ys H'=>Same H2 H'/\bA H' ys (ks.take i)) ⟨Same.refl _,ym⟩ (λi ys H' _ h=>am.of (h.1 _ _ hq)) ?_ ?_
 ·rintro i x us H3 hx ⟨sm,Ik⟩;have KM:i<ks.length:=by rw[<-hzl];exact(Qc hx).1
  obtain⟨t,rfl,ht⟩:=hT.2 i x (.inl 1::ks[i]) hx (by rw[Qr,Qb KM];rfl);have Kq:=Ik.1;rw[QH] at Kq;have ek:=Iq _ (QN KM);rw[Qo KM];generalize ks[i]=k at ht ek ⊢;obtain⟨r,z,rfl⟩:=ek;intro os Ij;obtain⟨a1,b1,c1,rfl⟩:=Dz Ij;refine⟨t,_,rfl,ao.of (sm _ _ ht),rfl,_,_,rfl,_,_,rfl,_,_,rfl,rfl,⟨[_,_,_],rfl,rfl⟩,?_⟩;refine fF ?_;rw[if_pos rfl];refine⟨_,rfl,_,rfl,bg,λq2 Iw=>?_⟩;have s3:=aj (o:=.tup ((kk r z).map kV)) Iw;exact⟨bC (by lia),sm.trans s3,oz (dH Ik s3.tups) (oA ah)⟩
 rintro us H3 ⟨sm,Ik⟩ q3 hq3;have s3:=aj (o:=.lst us) hq3;rw[QC (by lia)] at Ik;exact kq q3 us ks _ (((s1.ls.trans l2).trans sm.ls).trans s3.ls) ah (dH Ik s3.tups) f1 f2
end
theorem oC(a b:Str):(a++b).cps.toList=a.cps.toList++b.cps.toList:=Array.toList_append ..
theorem yy(a b:Str):(a++b).length=a.length+b.length:=Array.size_append ..
theorem oE(c:Nat):(⟨#[c]⟩:Str).length=1:=rfl
theorem Gd(z:Str):z.cps.toList.length=z.length:=by simp[Str.length]
theorem fm{a:Int}{n:Nat}(h:0<n):∃j:Nat,a%(n:Int)=(j:Int)/\j<n:=⟨(a%(n:Int)).toNat,by
 have:=Int.emod_nonneg a (show(n:Int)≠0 by lia)
 lia,by
 have:=Int.emod_nonneg a (show(n:Int)≠0 by lia);have:=Int.emod_lt_of_pos a (show(0:Int)<(n:Int) by lia)
 lia⟩
section
variable {P:Program}{w:World}{K:W.Frag}{mg:Str->Option Value}{base:Heap}{AA:rn}{DD:ro}
noncomputable def bH(ns:List Int)(j:Nat):Int:=ns.getD j 0
inductive yz (K:W.Frag) (vs:List V) (H:Hp) (Q:VK) (E:XK):Prop
 |mk:∀(a:Addr) (ns:List Int) (j:Nat),vs=[.ref a,.int ((j:Nat):Int)]->am K H a (ns.map V.int)->Q (.int (bH ns j)) H->yz K vs H Q E
noncomputable abbrev Ge:List Str:=Ys
theorem yA:bf Ge Ys (aJ qS):=by decide +kernel
theorem yB(T:All P w K mg AA DD):aE P w K mg base aG 1 AA.Zr DD.Zr Ys (yz K):=by
 refine T.z_Zr.F.ok yA (λvs H Q E h=>?_) (λHQ A outer s H vs Q E hr h=>?_)
 ·obtain⟨a,ns,k,rfl,_⟩:=h;rfl
 obtain⟨a,ns,j,rfl,hS,k⟩:=h;have nd:=yA.nd;refine⟨_,(aq (aV (aH jI (pv 1) (dO pM rfl T.n_len gS (aa (pv 0) af)) (aI _)) (ap (aN (bY (jP (K:=K) rfl) (pv 0) (pv 1) (λ_ _=>rfl)))) be) (ap (aN ar))),?_⟩;refine⟨_,rfl,_,rfl,a,_,rfl,.inl hS,_,_,rfl,rfl,_,rfl,?_⟩;rw[Qg];unfold bH at k;refine cN (λh1=>?_) (λh1=>?_)
 ·have h1:((j:Nat):Int)<(ns.length:Int):=QO h1;refine⟨_,rfl,_,rfl,a,_,_,_,rfl,rfl,hS,aY (j:=j) (by rw[Qr,Qb (by omega)];rfl),?_⟩;rw[Qd,Qb (by omega)] at k;exact k
 have h1:¬((j:Nat):Int)<(ns.length:Int):=λz=>h1 (Qn z);rw[Qd,List.getElem?_eq_none (by omega)] at k;exact k
noncomputable def bj(c k:Int):Int:=((c+7919*k+1)*48271%2147483647)*((c+7919*k+1)*48271%2147483647/1009+69621)%2147483647
inductive yC (vs:List V) (H:Hp) (Q:VK) (E:XK):Prop
 |mk:∀c k:Int,vs=[.int c,.int k]->Q (.int (bj c k)) H->yC vs H Q E
noncomputable abbrev Gf:List Str:=["_law_cell","_law_k","_law_number"]
theorem yD:bf Gf Yx (aJ qT):=by decide +kernel
theorem md(T:All P w K mg AA DD):aE P w K mg base aG 1 AA.ZA DD.ZA Yx yC:=by
 refine T.z_ZA.F.ok yD (λvs H Q E h=>?_) (λHQ A outer s H vs Q E hr h=>?_)
 ·obtain⟨c,k,rfl,_⟩:=h;rfl
 obtain⟨c,j,rfl,k⟩:=h;have nd:=yD.nd;unfold bj at k;refine⟨_,(aq (aQ (i:=2) nd rfl (Or.inl rfl) (aD ck (aD iu (aD dD (aD dD (pv 0) (aD iu ar (pv 1))) ar) ar) ar)) (ap (aN (aD ck (aD iu (pv 2) (aD dD (aD gO (pv 2) ar) ar)) ar)))),?_⟩;refine⟨_,rfl,_,rfl,_,_,rfl,rfl,.inl ⟨by decide,by decide⟩,_,_,rfl,rfl,_,_,rfl,rfl,_,_,rfl,rfl,.inr ⟨by decide,by decide⟩,_,_,rfl,rfl,(by show(0:Int)<2147483647;decide),?_⟩
 try dsimp only[aP]
 have b0:=Int.emod_nonneg ((c+7919*j+1)*48271) (show(2147483647:Int)≠0 by decide);have b1:=Int.emod_lt_of_pos ((c+7919*j+1)*48271) (show(0:Int)<2147483647 by decide);generalize (c+7919*j+1)*48271%2147483647=y at b0 b1 k ⊢;exact⟨_,rfl,_,rfl,_,_,rfl,rfl,⟨by decide,by decide⟩,_,_,rfl,rfl,_,_,rfl,rfl,.inl ⟨by lia,by lia⟩,_,_,rfl,rfl,(by show(0:Int)<2147483647;decide),k⟩
noncomputable abbrev gj:Str:="xyzuvwpqabcdefghijklmnorst"
theorem yE:gj.length=26:=by decide +kernel
noncomputable def wQ(x:Int):Nat->Str
 |0=>"q"
 |i+1=>wQ x i++⟨#[gj.cps.toList.getD (x/(7+25*((i:Nat):Int))%26).toNat 0]⟩
theorem rX(x:Int):∀i,(wQ x i).length=i+1
 |0=>by show("q":Str).length=1;decide +kernel
 |i+1=>by show(wQ x i++_).length=i+1+1;rw[yy,oE,rX x i]
noncomputable def cr(x:Int):Str:=wQ x (1+(x%7).toNat)
theorem yF(x:Int):2<=(cr x).length/\(cr x).length<=8:=by unfold cr;rw[rX];have:=Int.emod_lt_of_pos x (show(0:Int)<7 by decide);have:=Int.emod_nonneg x (show(7:Int)≠0 by decide);lia
noncomputable def fq(x:Int):Int:=1+x/8%(((cr x).length:Nat)-1:Int)
noncomputable abbrev me:Str:="gkvzbmcdf"
noncomputable def fO(x:Int)(i:Nat):Str:=iH (cr x) none (some (fq x))++(⟨#[me.cps.toList.getD i 0]⟩:Str)++iH (cr x) (some (fq x+1)) none
noncomputable def ca(x:Int):List Str:=(List.range 9).map (fO x)
inductive yG (vs:List V) (H:Hp) (Q:VK) (E:XK):Prop
 |mk:∀x:Int,vs=[.int x]->0<=x->(∀p H',H p=none->Same H H'->H' p=some (.lst ((ca x).map V.str))->Q (.ref p) H')->yG vs H Q E
noncomputable abbrev yH:List Str:=["_law_number","_law_some","_law_word","_law_k","_law_at"]
theorem yI:bf yH ["_law_number"] (aJ nV):=by decide +kernel
theorem Gg(T:All P w K mg AA DD):aE P w K mg base aG 1 AA.ZB DD.ZB ["_law_number"] yG:=by
 refine T.z_ZB.F.ok yI (λvs H Q E h=>by cases h;subst_vars;rfl) λHQ A outer s H vs Q E hr h=>?_;obtain⟨x,rfl,hx,k⟩:=h;have nd:=yI.nd;have hq:=yF x;refine⟨_,(aq (aQ (i:=1) nd rfl (Or.inl rfl) au) (aq (aQ (i:=2) nd rfl (Or.inr rfl) au) (aq (dC PassesOwn.never rfl (mH rfl T.n_range (aa (aD dD ar (aD ck (pv 0) ar)) af)) (ba (i:=3) nd rfl (Or.inl rfl)) (ap (aQ (i:=2) nd rfl (Or.inr rfl) (aD pF (pv 2) (bY A8 (pv 1) (aD ck (aD gO (pv 0) (aD dD ar (aD iu ar (pv 3)))) ar) (λ_ _=>rfl))))) (by intro _;rfl)) (aq (aQ (i:=4) nd rfl (Or.inr rfl) (aD dD ar (aD ck (aD gO (pv 0) ar) (aD jH (dO Bf rfl T.n_len gS (aa (pv 2) af)) ar)))) (ap (aN (gu (aJ nV) yH ["_law_word","_law_at"] [2,4] rfl (by decide +kernel) rfl rfl (Di au) (λ_ _ _ _=>fG) (λ_ _ _ _=>(aD pF (aD pF (iy uE (pv 1) k4 (f7 (pv 2))) (pv 0)) (iy uE (pv 1) (f7 (aD dD (pv 2) ar)) k4)))))))))),?_⟩;refine lu ?_
 try dsimp only[aP]
 refine lu ?_
 try dsimp only[aP]
 have hsz:gj.length<=sizeLine:=by rw[yE];decide
 have s9:∀{n:Nat},n<=100->n<=sizeLine:=λh=>QT (iD (by lia));obtain⟨m,em,hm⟩:=fm (a:=x) (n:=7) (by decide);have em:x%7=((m:Nat):Int):=em;have ew:cr x=wQ x (1+m):=by unfold cr;rw[em,QF]
 refine gW (λσ' H'=>H'=H/\∃(x3:Option V),σ'=[some (.int x),some (.str gj),some (.str (cr x)),x3,none]) (λR hR=>?_) ?_
 ·refine⟨_,rfl,_,_,rfl,rfl,(by show(0:Int)<7;decide),_,_,rfl,rfl,_,rfl,?_,?_,?_⟩
  ·rw[em];lia
  ·rw[em];lia
  rw[em,show((1:Int)+((m:Nat):Int)).toNat=1+m by lia];refine tq (D:=⟨R,_,R,R⟩) (λi σ' H'=>H'=H/\∃(x3:Option V),σ'=[some (.int x),some (.str gj),some (.str (wQ x i)),x3,none]) ⟨rfl,none,rfl⟩ ?_ ?_
  ·rintro i σ' H' hi ⟨rfl,x3,rfl⟩;rw[Int.zero_add];obtain⟨q,eq,hq⟩:=fm (a:=x/(7+25*((i:Nat):Int))) (n:=26) (by decide);have eq:x/(7+25*((i:Nat):Int))%26=((q:Nat):Int):=eq;have hql:q<gj.cps.toList.length:=by rw[Gd,yE];exact hq
   refine⟨_,rfl,_,rfl,_,rfl,_,rfl,_,_,rfl,rfl,.inl ⟨by decide,by decide⟩,_,_,rfl,rfl,_,_,rfl,rfl,⟨?_,?_⟩,_,_,rfl,rfl,(by show(0:Int)<26;decide),gj,_,gj.cps.toList[q],rfl,rfl,hsz,?_,_,_,rfl,rfl,?_,?_⟩
   ·show(0:Int)<7+25*((i:Nat):Int);lia
   ·show 7+25*((i:Nat):Int)<_;lia
   ·rw[eq];exact aY (Qb hql)
   ·rw[oE,rX];exact QT (iD (by lia))
   refine⟨rfl,some (.int ((i:Nat):Int)),?_⟩;show _=[some (V.int x),some (V.str gj),some (V.str (wQ x i++⟨#[gj.cps.toList.getD (x/(7+25*((i:Nat):Int))%26).toNat 0]⟩)),_,_];rw[eq,QF,Qd,Qb hql];rfl
  rintro σ' H' ⟨rfl,x3,rfl⟩;exact hR _ _ ⟨rfl,x3,by rw[ew]⟩
 rintro σ' H' ⟨rfl,x3,rfl⟩;refine⟨_,rfl,_,_,rfl,rfl,⟨by decide,by decide⟩,_,rfl,cr x,rfl,s9 (by lia),_,_,rfl,rfl,_,_,rfl,rfl,(by show(0:Int)<((cr x).length:Int)-1;lia),_,_,rfl,rfl,?_⟩;dsimp only[aP];show sX _ _ [some (.int x),some (.str gj),some (.str (cr x)),x3,some (.int (fq x))] _;refine⟨me,rfl,by decide +kernel,?_⟩;have hgl:me.length=9:=by decide +kernel
 rw[hgl];refine Dk (λi ys H1=>H1=H'/\i<=9/\ys=((List.range i).map (fO x)).map V.str) ⟨rfl,by lia,rfl⟩ ?_ ?_
 ·rintro i ys H1 hi ⟨rfl,_,rfl⟩;refine fF ?_;rw[if_pos rfl];have l1:=uD (cr x) none (some (fq x));have l2:=uD (cr x) (some (fq x+1)) none;refine⟨_,rfl,_,rfl,fq x,rfl,cr x,rfl,s9 (by lia),_,rfl,_,_,rfl,rfl,s9 (by rw[oE];lia),_,rfl,_,rfl,_,_,rfl,rfl,fq x+1,rfl,cr x,rfl,s9 (by lia),_,_,rfl,rfl,s9 (by rw[yy,oE];lia),?_⟩;refine⟨by rw[Qg,Qg,List.length_range];exact iD (by lia),rfl,by lia,?_⟩;rw[List.range_succ,QD,QD];rfl
 rintro ys H1 ⟨rfl,_,rfl⟩ p hp;exact k p _ hp (aj hp) ah
theorem rY(x:Int):(ca x).length=9:=by simp[ca]
theorem Gh:∀i<9,∀j<9,me.cps.toList.getD i 0=me.cps.toList.getD j 0->i=j:=by decide +kernel
theorem oF{x:Int}{i j:Nat}(hi:i<9)(hj:j<9)(h:fO x i=fO x j):i=j:=by have h1:=congrArg (λz:Str=>z.cps.toList) h;simp only[fO,oC,QX] at h1;have h2:=List.append_cancel_left h1;have h3:=List.append_cancel_right h2;exact Gh i hi j hj (by simpa using h3)
theorem Gi(h:i<9):(ca x)[i]?=some (fO x i):=by unfold ca;rw[Qr,List.getElem?_range h];rfl
theorem iT{x:Int}{i:Nat}(h:i<9):(ca x).getD i ""=fO x i:=by rw[Qd,Gi h];rfl
noncomputable abbrev yJ:List Str:=YF
theorem eM{ns:List Str}{j:Nat}(h:j<ns.length):(ns.map V.str)[j]?=some (.str (ns.getD j "")):=by rw[Qr,Qd,Qb h];rfl
def hZ(H:Hp)(p:Addr)(ps:List (Str×Str)):Prop:=∃us:List Addr,H p=some (.lst (us.map V.ref))/\us.length=ps.length/\∀(i:Nat) (u:Addr) (q:Str×Str),us[i]?=some u->ps[i]?=some q->H u=some (.tup [.str q.1,.str q.2])
theorem hZ.same(h:hZ H p ps)(s:Same H H'):hZ H' p ps:=by obtain⟨us,a,b,c⟩:=h;exact⟨us,s _ _ a,b,λi u q x y=>s _ _ (c i u q x y)⟩
theorem Gj{H:Hp}{a b:Addr}{o:HO}(h:H a=some o)(hb:H b=none):a≠b:=λz=>by rw[z,hb] at h;cases h
noncomputable def off(H:Hp)(a:Addr):Hp:=λb=>if b=a then none else H b
theorem kF(h:b≠a):off H a b=H b:=if_neg h
theorem kG:Same (off H a) H:=λb o h=>by
 unfold off at h;split at h
 ·cases h
 exact h
theorem oG(h:off H a b=some o):b≠a:=λz=>by rw[z] at h;unfold off at h;rw[if_pos rfl] at h;cases h
theorem yK(s:Same (off H a) H1)(t:Same (off H1 a) H2):Same (off H a) H2:=λb o h=>t _ _ (by rw[kF (oG h)];exact s _ _ h)
theorem yL(s:Same H H1):Same (off H a) H1:=λb o h=>s _ _ (kG _ _ h)
theorem yM(s:Same (off H a) H1):Same (off H a) (off H1 a):=λb o h=>by rw[kF (oG h)];exact s _ _ h
theorem mf(h:H a=some (.lst xs)):lF H (off H a):=λb ys hb=>by rw[kF (λz=>by rw[z,h] at hb;cases hb)];exact hb
theorem Gk:off (ag H a o) a=off H a:=by
 funext b;unfold off;by_cases h:b=a
 ·rw[if_pos h,if_pos h]
 rw[if_neg h,if_neg h,ay h]
theorem hZ.off(h:hZ H p ps)(HL:p≠a)(ha:H a=some (.lst xs)):hZ (K46.off H a) p ps:=by obtain⟨us,b,c,d⟩:=h;exact⟨us,by rw[kF HL];exact b,c,λi u q x y=>mf ha _ _ (d i u q x y)⟩
abbrev ei:=Str×Str×List (Str×Str)
def oH(H:Hp)(u:Addr)(h:ei):Prop:=∃pp,H u=some (.tup [.str h.1,.str h.2.1,.ref pp])/\hZ H pp h.2.2
theorem oH.same(g:oH H u h)(s:Same H H'):oH H' u h:=by obtain⟨p,a,b⟩:=g;exact⟨p,s _ _ a,b.same s⟩
def eA{α:Type}(f:Addr->α->Prop)(us:List Addr)(xs:List α):Prop:=us.length=xs.length/\∀(i:Nat) (u:Addr) (x:α),us[i]?=some u->xs[i]?=some x->f u x
theorem eA.nil{α:Type}{f:Addr->α->Prop}:eA f [] []:=⟨rfl,λi u x h=>by simp at h⟩
theorem eA.imp{α:Type}{f g:Addr->α->Prop}{us:List Addr}{xs:List α}(h:eA f us xs)(k:∀u x,f u x->g u x):eA g us xs:=⟨h.1,λi u x a b=>k _ _ (h.2 i u x a b)⟩
theorem eA.snoc{α:Type}{f:Addr->α->Prop}{us:List Addr}{xs:List α}{u:Addr}{x:α}(g:eA f us xs)(hh:f u x):eA f (us++[u]) (xs++[x]):=by
 refine⟨by rw[Qi,Qi,g.1];rfl,λi x y hx hy=>?_⟩;rcases Nat.lt_or_ge i us.length with hi|hi
 ·rw[Ql hi] at hx;rw[Ql (by rw[<-g.1];exact hi)] at hy;exact g.2 i x y hx hy
 rw[Qw hi] at hx;rw[Qw (by rw[<-g.1];exact hi),<-g.1] at hy
 cases e:i-us.length with
 |zero=>rw[e] at hx hy;cases hx;cases hy;exact hh
 |succ n=>rw[e] at hx;simp at hx
abbrev gG(H:Hp)(us:List Addr)(hs:List ei):Prop:=eA (oH H) us hs
theorem gG.same{H H':Hp}{us:List Addr}{hs:List ei}(g:gG H us hs)(s:Same H H'):gG H' us hs:=g.imp λ_ _ h=>h.same s
noncomputable def cY(ns:List Str):List Str:=["num","truth",ns.getD 6 ""]
noncomputable def fP(ns:List Str)(x:Int)(j:Nat):Str×Str:=(ns.getD ((x/3%4+((j:Nat):Int))%4).toNat "",(cY ns).getD (x/(12+7*((j:Nat):Int))%3).toNat "")
noncomputable def ia(ns:List Str)(c:Int)(k:Nat):ei:=(ns.getD (4+k) "",(cY ns).getD (bj c (2+((k:Nat):Int))%3).toNat "",(List.range (bj c (2+((k:Nat):Int))/200%3).toNat).map (fP ns (bj c (2+((k:Nat):Int)))))
noncomputable def oI(ns:List Str)(c:Int):List ei:=(List.range (1+(c%2).toNat)).map (ia ns c)
inductive yN (K:W.Frag) (vs:List V) (H:Hp) (Q:VK) (E:XK):Prop
 |mk:∀(a l:Addr) (is:List Int) (ns:List Str),vs=[.ref a,.ref l]->am K H a (is.map V.int)->H l=some (.lst (ns.map V.str))->ns.length=9->(∀p us H',H p=none->Same H H'->H' p=some (.lst (us.map V.ref))->gG H' us (oI ns (bH is 1))->Q (.ref p) H')->yN K vs H Q E
noncomputable abbrev yO:List Str:=["_law_script","_law_names_here","_law_kinds","_law_heads_here","_law_k","_law_number","_law_first","_law_params"]
theorem yP:bf yO Yr (aJ nX):=by decide +kernel
theorem Gm(T:All P w K mg AA DD):aE P w K mg base aG 2 AA.ZE DD.ZE Yr (yN K):=by
 have GC:=yB (base:=base) T;have GX:=md (base:=base) T;refine T.z_ZE.F.ok yP (λvs H Q E h=>by cases h;subst_vars;rfl) λHQ A outer s H vs Q E hr h=>?_;obtain⟨a,l,is,ns,rfl,hS,hl,hn,kq⟩:=h;have nd:=yP.nd;have HX:aB 1 _:=hr;refine⟨_,(aq (aQ (i:=2) nd rfl (Or.inr rfl) (cb (aa au (aa au (aa (j9 (pv 1)) af))))) (aq (aQ (i:=3) nd rfl (Or.inl rfl) (cb af)) (aq (dC PassesOwn.never rfl (mH rfl T.n_range (aa (aD dD ar (aD ck (aO GC HX rfl T.z_Zr (aa (pv 0) (aa ar af))) ar)) af)) (ba (i:=4) nd rfl (Or.inl rfl)) (aq (aQ (i:=5) nd rfl (Or.inr rfl) (aO GX HX rfl T.z_ZA (aa (aO GC HX rfl T.z_Zr (aa (pv 0) (aa ar af))) (aa (aD dD ar (pv 4)) af)))) (aq (aQ (i:=6) nd rfl (Or.inr rfl) (aD ck (aD gO (pv 5) ar) ar)) (aq (Bw (i:=7) (aJ nX) yO ["_law_names_here","_law_kinds","_law_number","_law_first"] [1,2,5,6] rfl (by decide +kernel) rfl rfl (mH rfl T.n_range (aa (aD ck (aD gO (pv 5) ar) ar) af)) (λ_ _ _ _=>fG) (λ_ _ _ _=>(aR (aa (bY eF (pv 1) (aD ck (aD dD (pv 4) (pv 0)) ar) (λ_ _=>rfl)) (aa (bY eF (pv 2) (aD ck (aD gO (pv 3) (aD dD ar (aD iu ar (pv 0)))) ar) (λ_ _=>rfl)) af)))) nd rfl rfl rfl) (ap (bF (gc (pv 3) (aa (aR (aa (bY eF (pv 1) (aD dD ar (pv 4)) (λ_ _=>rfl)) (aa (bY eF (pv 2) (aD ck (pv 5) ar) (λ_ _=>rfl)) (aa (pv 7) af)))) af)) (by rfl)))))) (by intro _;rfl)) (ap (aN (pv 3)))))),?_⟩;have lines:∀{n:Nat},n<=500->n<=sizeLine:=λh=>QT (bC (by lia));refine⟨_,rfl,l,_,_,_,rfl,rfl,am.of hl,aY (j:=6) (eM (by lia)),gL,λpk hpk=>?_⟩;dsimp only[aP];refine⟨cT,λph hph=>?_⟩;dsimp only[aP];have s1:=aj (o:=.lst ((cY ns).map V.str)) hpk;have s2:=aj (o:=.lst ([]:List V)) hph;have IX:ag (ag H pk (.lst ((cY ns).map V.str))) ph (.lst []) pk=some (.lst ((cY ns).map V.str)):=s2 _ _ ah;have hh2:ag (ag H pk (.lst ((cY ns).map V.str))) ph (.lst []) ph=some (.lst []):=ah;have s02:=s1.trans s2;have hpn:H ph=none:=s1.free hph;have HL:pk≠ph:=λz=>by rw[<-z,ah] at hph;cases hph
 have hs0:∀H',(H'=ag (ag H pk (.lst ((cY ns).map V.str))) ph (.lst []))->Same H H'/\H' pk=some (.lst ((cY ns).map V.str))/\H' ph=some (.lst []):=λH' e=>by rw[e];exact⟨s02,IX,hh2⟩
 obtain⟨m,em,hm⟩:=fm (a:=bH is 1) (n:=2) (by decide);have em:bH is 1%2=((m:Nat):Int):=em;have eh:oI ns (bH is 1)=(List.range (1+m)).map (ia ns (bH is 1)):=by unfold oI;rw[em,QF]
 rw[eh] at kq;refine gW (λσ' H'=>Same H H'/\∃us:List Addr,H' ph=some (.lst (us.map V.ref))/\gG H' us ((List.range (1+m)).map (ia ns (bH is 1)))/\∃x4 x5 x6 x7,σ'=[some (.ref a),some (.ref l),some (.ref pk),some (.ref ph),x4,x5,x6,x7]) (λR hR=>?_) ?_
 ·refine⟨_,rfl,a,is,1,rfl,s02.seq hS,?_⟩;refine⟨_,_,rfl,rfl,(by show(0:Int)<2;decide),_,_,rfl,rfl,_,rfl,?_,?_,?_⟩
  ·show _<=1+bH is 1%2;lia
  ·show 1+bH is 1%2<_;lia
  rw[em,show((1:Int)+((m:Nat):Int)).toNat=1+m by lia];refine vL (D:=⟨R,_,R,R⟩) (λi σ' H'=>Same H H'/\H' pk=some (.lst ((cY ns).map V.str))/\i<=2/\∃us:List Addr,H' ph=some (.lst (us.map V.ref))/\gG (off H' ph) us ((List.range i).map (ia ns (bH is 1)))/\∃x4 x5 x6 x7,σ'=[some (.ref a),some (.ref l),some (.ref pk),some (.ref ph),x4,x5,x6,x7]) ⟨s02,IX,Qy _,[],hh2,eA.nil,_,_,_,_,rfl⟩ ?_ ?_
  ·rintro i σ' H1 hi ⟨sm,hk,hi2,us,JM,Ik,x4,x5,x6,x7,rfl⟩ D1 hN;rw[Int.zero_add];refine⟨_,rfl,a,is,1,rfl,sm.seq hS,_,rfl,_,_,rfl,rfl,_,_,rfl,?_⟩;dsimp only[aP];rw[List.range_succ,QD,List.map_singleton] at hN;have eI:ia ns (bH is 1) i=(ns.getD (4+i) "",(cY ns).getD (bj (bH is 1) (2+((i:Nat):Int))%3).toNat "",(List.range (bj (bH is 1) (2+((i:Nat):Int))/200%3).toNat).map (fP ns (bj (bH is 1) (2+((i:Nat):Int))))):=rfl;rw[eI] at hN;generalize bj (bH is 1) (2+((i:Nat):Int))=x at hN ⊢;refine⟨_,rfl,_,_,rfl,rfl,⟨by decide,by decide⟩,_,_,rfl,rfl,(by show(0:Int)<4;decide),?_⟩;dsimp only[aP];obtain⟨p,ep,hp⟩:=fm (a:=x/200) (n:=3) (by decide);have ep:x/200%3=((p:Nat):Int):=ep;rw[ep,QF] at hN;refine⟨_,rfl,_,_,rfl,rfl,⟨by decide,by decide⟩,_,_,rfl,rfl,(by show(0:Int)<3;decide),_,rfl,?_,?_,?_⟩
   ·show _<=x/200%3;lia
   ·show x/200%3<_;lia
   show iG (fY 0 (x/200%3).toNat) _ _ _ _ _ _;rw[ep,QF];refine Br (λi ys H'=>Same H1 H'/\i<=3/\∃us:List Addr,ys=us.map V.ref/\us.length=i/\∀(j:Nat) (u:Addr),us[j]?=some u->H' u=some (.tup [.str (fP ns x j).1,.str (fP ns x j).2])) ⟨Same.refl _,Qy _,[],rfl,rfl,λj u h=>by simp at h⟩ ?_ ?_
   ·rintro j ys H2 hj ⟨s2,_,vs,rfl,Kq,Jm⟩;rw[Int.zero_add];refine fF ?_;rw[if_pos rfl];obtain⟨y,ey,hy⟩:=fm (a:=x/(12+7*((j:Nat):Int))) (n:=3) (by decide);have ey:x/(12+7*((j:Nat):Int))%3=((y:Nat):Int):=ey;obtain⟨g,eg,hg⟩:=fm (a:=x/3%4+((j:Nat):Int)) (n:=4) (by decide);have eg:(x/3%4+((j:Nat):Int))%4=((g:Nat):Int):=eg;have e12:fP ns x j=(ns.getD g "",(cY ns).getD y ""):=by unfold fP;rw[eg,ey,QF,QF]
    refine⟨_,rfl,_,rfl,_,rfl,_,_,rfl,rfl,_,_,rfl,rfl,(by show(0:Int)<4;decide),l,_,_,.str (ns.getD g ""),rfl,rfl,am.of (s2 _ _ (sm _ _ hl)),?_,?_⟩
    ·show de _ ((x/3%4+((j:Nat):Int))%4)=_;rw[eg];exact aY (eM (by lia))
    refine⟨_,rfl,_,rfl,_,rfl,_,_,rfl,rfl,.inl ⟨by decide,by decide⟩,_,_,rfl,rfl,_,_,rfl,rfl,⟨?_,?_⟩,_,_,rfl,rfl,(by show(0:Int)<3;decide),pk,_,_,.str ((cY ns).getD y ""),rfl,rfl,am.of (s2 _ _ hk),?_,bg,λq hq=>?_⟩
    ·show(0:Int)<12+7*((j:Nat):Int);lia
    ·show 12+7*((j:Nat):Int)<_;lia
    ·show de _ (x/(12+7*((j:Nat):Int))%3)=_;rw[ey];exact aY (eM (by show y<3;exact hy))
    have sq:=aj (o:=.tup [.str (ns.getD g ""),.str ((cY ns).getD y "")]) hq;refine⟨by rw[Qg];exact bC (by lia),s2.trans sq,by lia,vs++[q],by simp,by simp[Kq],λj' u h=>?_⟩;rcases Nat.lt_or_ge j' vs.length with hj' | hj'
    ·rw[Ql hj'] at h;exact sq _ _ (Jm j' u h)
    rw[Qw hj'] at h;have hje:j'-vs.length=0:=by have:=(Qc h).1;rw[QP] at this;lia
    rw[hje] at h;cases h;rw[show j'=j by lia,e12];exact ah
   rintro ys H2 ⟨s2,_,vs,rfl,Kq,Jm⟩ pp hpp;have sp:=aj (o:=.lst (vs.map V.ref)) hpp;have s3:=s2.trans sp;dsimp only[aP]
   have hLP:hZ (ag H2 pp (.lst (vs.map V.ref))) pp ((List.range p).map (fP ns x)):=⟨vs,ah,by simpa using Kq,λi u q h1 h2=>by
    rw[Qr] at h2;obtain⟨c,hc,rfl⟩:=Option.map_eq_some_iff.mp h2;have h3:=(Qc hc).1;rw[List.length_range] at h3;rw[List.getElem?_range h3] at hc;cases hc
    exact sp _ _ (Jm i u h1)⟩
   obtain⟨y,ey,hy⟩:=fm (a:=x) (n:=3) (by decide);have ey:x%3=((y:Nat):Int):=ey;rw[ey,QF] at hN;refine⟨_,rfl,.inl ⟨rfl,_,am.of (s3 _ _ JM)⟩,_,rfl,_,rfl,_,_,rfl,rfl,l,_,_,.str (ns.getD (4+i) ""),rfl,rfl,am.of (s3 _ _ (sm _ _ hl)),?_,_,rfl,_,rfl,_,_,rfl,rfl,(by show(0:Int)<3;decide),pk,_,_,.str ((cY ns).getD y ""),rfl,rfl,am.of (s3 _ _ hk),?_,_,rfl,gL,λq hq=>?_⟩
   ·show de _ ((4:Int)+((i:Nat):Int))=_;rw[show(4:Int)+((i:Nat):Int)=((4+i:Nat):Int) by lia];exact aY (eM (by lia))
   ·show de _ (x%3)=_;rw[ey];exact aY (eM (by show y<3;exact hy))
   have sq:=aj (o:=.tup [.str (ns.getD (4+i) ""),.str ((cY ns).getD y ""),.ref pp]) hq;have s4:=s3.trans sq;have hul2:=Ik.1;rw[Qg,List.length_range] at hul2;refine⟨ph,_,_,rfl,rfl,s4 _ _ JM,bC (by rw[Qg];lia),?_⟩;have hH4:=s4 _ _ JM;have hne4:pp≠ph:=λz=>by rw[z,s2 _ _ JM] at hpp;cases hpp
   refine hN _ _ ⟨λb o hb=>?_,?_,by lia,us++[q],by rw[ah,QD];rfl,?_,_,_,_,_,rfl⟩
   ·rw[ay λz=>by rw[z,hpn] at hb;cases hb];exact s4 _ _ (sm _ _ hb)
   ·rw[ay HL];exact s4 _ _ hk
   rw[Gk];exact(gG.same Ik (yM (yL s4))).snoc ⟨pp,mf hH4 _ _ ah,(hLP.same sq).off hne4 hH4⟩
  rintro σ' H1 ⟨sm,_,_,us,JM,Ik,x4,x5,x6,x7,rfl⟩;exact hR _ _ ⟨sm,us,JM,gG.same Ik kG,_,_,_,_,rfl⟩
 rintro σ' H1 ⟨sm,us,JM,Ik,x4,x5,x6,x7,rfl⟩;exact⟨_,rfl,kq ph us H1 hpn sm JM Ik⟩
noncomputable abbrev oJ:List Str:=["yes","no"]
theorem Gn(h:j<2):(oJ.map V.str)[j]?=some (.str (oJ.getD j "")):=eM (by show j<2;exact h)
noncomputable abbrev eN:List Str:=["+","-","less","and","*","same","or"]
noncomputable def bD(ks:List (Str×Str)):List (ae×V):=ks.map λp=>(.inr p.1,.str p.2)
noncomputable def jr(kn:List Str)(x:Int):Ex:=if(x%16%2==0)=true/\kn≠[] then .name (kn.getD (x/16%((kn.length:Nat):Int)).toNat "") else if(x%16%3==1)=true then .truth (oJ.getD (x/16%2).toNat "") else .num (x/16%1000000000000000000)
structure Ct where
 ns:List Str
 hs:List ei
noncomputable abbrev Ct.n6(R:Ct):Str:=R.ns.getD 6 ""
noncomputable def Ct.hd(R:Ct)(x:Int):ei:=R.hs.getD (x%((R.hs.length:Nat):Int)).toNat ("","",[])
noncomputable def cZ(R:Ct)(kn:List Str):Nat->Int->Ex
 |0,x=>jr kn x
 |d+1,x=>if decide (x%16<6)=true then jr kn x
  else if(x%16==6)=true then .not (cZ R kn d (bj x 1))
  else if decide (x%16<9)=true then .many "new" R.n6 [cZ R kn d (bj x 1),cZ R kn d (bj x 2)]
  else if decide (x%16<11)=true then .of (R.ns.getD (7+(x/16%2).toNat) "") (cZ R kn d (bj x 1))
  else if(x%16==11)=true then .many "do" (R.hd (x/16)).1 ([cZ R kn d (bj x 1),cZ R kn d (bj x 2)].take (R.hd (x/16)).2.2.length)
  else .op (eN.getD (x/16%7).toNat "") (cZ R kn d (bj x 1)) (cZ R kn d (bj x 2))
structure fQ(H:Hp)(hp l:Addr)(R:Ct):Prop where
 nl:H l=some (.lst (R.ns.map V.str))
 n9:R.ns.length=9
 hs:∃us:List Addr,H hp=some (.lst (us.map V.ref))/\gG H us R.hs
 h2:1<=R.hs.length/\R.hs.length<=2
 p2:∀h∈R.hs,h.2.2.length<=2
theorem fQ.same(h:fQ H hp l R)(s:Same H H'):fQ H' hp l R:=⟨s _ _ h.nl,h.n9,by obtain⟨us,a,b⟩:=h.hs;exact⟨us,s _ _ a,gG.same b s⟩,h.h2,h.p2⟩
theorem Go(h:c=true∨(c=false/\(p->Z)))(hp:p):if c=true then(if true=true then p else q) else Z:=by
 rcases h with h|⟨h,k⟩
 ·rw[h,if_pos rfl,if_pos rfl];exact hp
 rw[h,if_neg Qz];exact k hp
theorem yQ:∀{vs:List V} {es:List Ex} (n:Nat),ExsAt H vs es->ExsAt H (vs.take n) (es.take n)
 |_,_,0,_=>.nil
 |_,_,n+1,.nil=>.nil
 |_,_,n+1,.cons a b=>.cons a (yQ n b)
inductive kH (k:Nat) (vs:List V) (H:Hp) (Q:VK) (E:XK):Prop
 |mk:∀(x:Int) (a hp l:Addr) (ks:List (Str×Str)) (R:Ct) (d:Nat),vs=[.int x,.ref a,.ref hp,.ref l,.int ((d:Nat):Int)]->H a=some (.dK (bD ks))->ks.length<=50->fQ H hp l R->d<k->(∀v H',Same H H'->aU H' v (cZ R (ks.map (·.1)) d x)->Q v H')->kH k vs H Q E
noncomputable abbrev Gp:List Str:=["_law_number","_law_known","_law_heads_here","_law_names_here","_law_deep","_law_form","_law_more","_law_left","_law_right","_law_head"]
theorem rZ:bf Gp Yb (aJ qU):=by decide +kernel
theorem Gq(T:All P w K mg AA DD)(k:Nat)(GE:aE P w K mg base aG (k+1) AA.ZI DD.ZI Yb (kH k)) :
  aE P w K mg base aG (k+1+1) AA.ZI DD.ZI Yb (kH (k+1)):=by
 have GX:=md (base:=base) T;refine T.z_ZI.F.ok rZ (λvs H Q E h=>by cases h;subst_vars;rfl) λHQ A outer s H vs Q E hr h=>?_;obtain⟨x,a,hp,l,ks,R,d,rfl,ha,Jp,hR,hd,kq⟩:=h;have nd:=rZ.nd;have hrE:aB (k+1) _:=hr;have HX:aB 1 _:=hrE.mono (by lia);have hu:=QE (Nat.add_le_add_left (show 1<=64 by decide) _) hr.units;refine⟨_,(aq (aQ (i:=5) nd rfl (Or.inl rfl) (aD ck (pv 0) ar)) (aq (aQ (i:=6) nd rfl (Or.inl rfl) (aD gO (pv 0) ar)) (aq (aV (PW.pt (jE (aH bi (pv 4) ar (aI _)) (jD (aH jI (pv 5) ar (aI _))))) (aq (aV (PW.pt (dB (aH bi (aD ck (pv 5) ar) ar (aI _)) (fC (aH (DH hu) (pv 1) mU (aI _))))) (ap (aN (aR (aa au (aa (bY eF (ix (DF rfl) rfl T.n_list lh (aa (pv 1) af)) (aD ck (pv 6) (dO B2 rfl T.n_len gS (aa (pv 1) af))) (λ_ _=>rfl)) af))))) be) (aq (aV (aH bi (aD ck (pv 5) ar) ar (aI _)) (ap (aN (aR (aa au (aa (bY eF (cb (aa au (aa au af))) (aD ck (pv 6) ar) (λ_ _=>rfl)) af))))) be) (ap (aN (aR (aa au (aa (aD ck (pv 6) (aD At ar ar)) af))))))) be) (aq (aQ (i:=7) nd rfl (Or.inl rfl) (aO GE hrE rfl T.z_ZI (aa (aO GX HX rfl T.z_ZA (aa (pv 0) (aa ar af))) (aa (pv 1) (aa (pv 2) (aa (pv 3) (aa (aD jH (pv 4) ar) af))))))) (aq (aQ (i:=8) nd rfl (Or.inl rfl) (aO GE hrE rfl T.z_ZI (aa (aO GX HX rfl T.z_ZA (aa (pv 0) (aa ar af))) (aa (pv 1) (aa (pv 2) (aa (pv 3) (aa (aD jH (pv 4) ar) af))))))) (aq (aV (aH bi (pv 5) ar (aI _)) (ap (aN (aR (aa au (aa (pv 7) af))))) be) (aq (aV (aH jI (pv 5) ar (aI _)) (ap (aN (aR (aa au (aa (j9 (pv 3)) (aa (aR (aa (pv 7) (aa (pv 8) af))) af)))))) be) (aq (aV (aH jI (pv 5) ar (aI _)) (ap (aN (aR (aa au (aa (bY eF (pv 3) (aD dD ar (aD ck (pv 6) ar)) (λ_ _=>rfl)) (aa (pv 7) af)))))) be) (aq (aV (aH bi (pv 5) ar (aI _)) (aq (aQ (i:=9) nd rfl (Or.inl rfl) (bY eF (pv 2) (aD ck (pv 6) (dO lI rfl T.n_len gS (aa (pv 2) af))) (λ_ _=>rfl))) (ap (aN (aR (aa au (aa (av (pv 9)) (aa (iy DJ (aR (aa (pv 7) (aa (pv 8) af))) k4 (f7 (dO lI rfl T.n_len gS (aa (av (pv 9)) af)))) af))))))) be) (ap (aN (aR (aa (bY eF (cb (aa au (aa au (aa au (aa au (aa au (aa au (aa au af)))))))) (aD ck (pv 6) ar) (λ_ _=>rfl)) (aa (pv 7) (aa (pv 8) af))))))))))))))),?_⟩;refine⟨_,rfl,_,_,rfl,rfl,(by show(0:Int)<16;decide),?_⟩;dsimp only[aP];refine⟨_,rfl,_,_,rfl,rfl,⟨by decide,by decide⟩,?_⟩;dsimp only[aP];have eks:(bD ks).map (λkv=>kV kv.1)=(ks.map (·.1)).map V.str:=by unfold bD;rw[QY,QY];rfl
 by_cases hleaf:d=0∨x%16<6
 ·have el:cZ R (ks.map (·.1)) d x=jr (ks.map (·.1)) x:=by
   cases d with
   |zero=>rfl
   |succ d =>
    rcases hleaf with h|h
    ·cases h
    show(if decide (x%16<6)=true then _ else _)=_;rw[if_pos (Qn h)]
  rw[el] at kq;refine⟨_,rfl,rfl,_,rfl,?_⟩;refine Go ?_ ?_
  ·cases d with
   |zero=>exact .inl rfl
   |succ d =>
    refine .inr ⟨Qk λz=>by injection z;lia,λhp=>⟨_,rfl,_,_,rfl,rfl,_,rfl,bS (Qn (hleaf.resolve_left (by lia))) hp⟩⟩
  refine gU (λσ' H2=>Same H H2/\¬((x%16%2==0)=true/\ks.map (·.1)≠[])/\σ'=[some (.int x),some (.ref a),some (.ref hp),some (.ref l),some (.int ((d:Nat):Int)),some (.int (x%16)),some (.int (x/16)),none,none,none]) (λRR HP=>?_) ?_
  ·refine⟨_,rfl,_,_,rfl,rfl,(by show(0:Int)<2;decide),rfl,_,rfl,?_⟩;dsimp only;rw[gP];refine cN (λh1=>?_) (λh1=>?_)
   ·refine⟨_,rfl,λp0 hp0=>⟨a,p0,bD ks,rfl,rfl,(aj hp0) _ _ ha,ah,_,rfl,?_⟩⟩;have sp:=aj (o:=.dK []) hp0;have ha2:=sp _ _ ha;by_cases Jq:ks=[]
    ·refine bh (by rw[Jq];rfl) ?_;exact HP _ _ ⟨sp,λz=>z.2 (by rw[Jq];rfl),rfl⟩
    have hpos:0<ks.length:=List.length_pos_iff.mpr Jq;refine bS (by cases ks with|nil=>exact absurd rfl Jq|cons _ _=>rfl) ?_;have hn0:ks.map (·.1)≠[]:=λz=>Jq (List.map_eq_nil_iff.mp z);generalize ag H p0 (.dK [])=H2 at sp ha2 ⊢;unfold jr at kq;rw[if_pos ⟨h1,hn0⟩] at kq;have HM:(ks.map (·.1)).length=ks.length:=Qg ..;have m0:=Int.emod_nonneg (x/16) (show((ks.length:Nat):Int)≠0 by lia);have m1:=Int.emod_lt_of_pos (x/16) (show(0:Int)<((ks.length:Nat):Int) by lia)
    obtain⟨j,ej⟩:∃j:Nat,x/16%((ks.length:Nat):Int)=((j:Nat):Int):=⟨(x/16%((ks.length:Nat):Int)).toNat,by lia⟩
    have hj:j<ks.length:=by lia
    rw[HM,ej,QF] at kq;refine⟨_,rfl,a,bD ks,rfl,ha2,λq hq=>?_⟩;have sq:=aj (o:=.lst ((bD ks).map λkv=>kV kv.1)) hq;have hkl2:(bD ks).length=ks.length:=by unfold bD;rw[Qg]
    refine⟨_,rfl,_,rfl,a,bD ks,rfl,sq _ _ ha2,_,_,rfl,rfl,?_,q,_,_,.str ((ks.map (·.1)).getD j ""),rfl,rfl,am.of ah,?_,bg,λp hp=>?_⟩
    ·rw[hkl2];show(0:Int)<((ks.length:Nat):Int);lia
    ·rw[hkl2];show de _ (x/16%((ks.length:Nat):Int))=_;rw[ej,eks];exact aY (eM (by rw[HM];exact hj))
    exact kq _ _ ((sp.trans sq).trans (aj hp)) (.name ah)
   exact eD (HP _ _ ⟨Same.refl _,λz=>h1 z.1,rfl⟩)
  rintro σ' H2 ⟨SS,KZ,rfl⟩;unfold jr at kq;rw[if_neg KZ] at kq;refine⟨_,rfl,_,_,rfl,rfl,(by show(0:Int)<3;decide),rfl,_,rfl,?_⟩;dsimp only;rw[gP];refine cN (λh2=>?_) (λh2=>?_)
  ·rw[if_pos h2] at kq;obtain⟨j,ej,hj⟩:=fm (a:=x/16) (n:=2) (by decide);have ej:x/16%2=((j:Nat):Int):=ej;rw[ej,QF] at kq;refine⟨bg,λq hq=>?_⟩;refine⟨_,rfl,_,_,rfl,rfl,(by show(0:Int)<2;decide),q,_,_,.str (oJ.getD j ""),rfl,rfl,am.of ah,?_,bg,λp hp=>?_⟩
   ·rw[ej];exact aY (Gn hj)
   exact kq _ _ (SS.trans ((aj hq).trans (aj hp))) (.truth ah)
  rw[if_neg h2] at kq;refine⟨_,rfl,_,_,rfl,rfl,⟨by decide,by decide⟩,_,_,rfl,rfl,(by show(0:Int)<10^18;decide),bg,λp hp=>?_⟩;exact kq _ _ (SS.trans (aj hp)) (.num ah)
 have hd0:d≠0:=λz=>hleaf (.inl z);have h6:¬x%16<6:=λz=>hleaf (.inr z)
 obtain⟨e,rfl⟩:∃e,d=e+1:=⟨d-1,by lia⟩
 rw[cZ,if_neg (by rw[Qk h6];exact Qz)] at kq;have ed:((((e+1:Nat):Int))-1)=((e:Nat):Int):=by lia
 refine⟨_,rfl,rfl,_,rfl,?_⟩;refine bh (Qk λz=>by injection z;lia) ?_;refine⟨_,rfl,_,_,rfl,rfl,_,rfl,?_⟩;refine bh (Qk h6) ?_;dsimp only[il];refine⟨_,rfl,_,_,rfl,_,rfl,_,rfl,_,rfl,_,rfl,_,_,rfl,rfl,?_⟩;refine⟨bj x 1,a,hp,l,ks,R,e,by rw[<-ed];rfl,ha,Jp,hR,by lia,λv1 H1 s1 hE1=>?_⟩;dsimp only[aP];refine⟨_,rfl,_,_,rfl,_,rfl,_,rfl,_,rfl,_,rfl,_,_,rfl,rfl,?_⟩;refine⟨bj x 2,a,hp,l,ks,R,e,by rw[<-ed];rfl,s1 _ _ ha,Jp,hR.same s1,by lia,λv2 H2 s2 hE2=>?_⟩;dsimp only[aP];have hE1:=hE1.kept s2.ls.1;have Ko:=s1.trans s2;have hR2:=hR.same Ko;have hn9:=hR.n9;generalize cZ R (ks.map (·.1)) e (bj x 1)=e1 at hE1 kq;generalize cZ R (ks.map (·.1)) e (bj x 2)=e2 at hE2 kq;refine⟨_,rfl,rfl,_,rfl,?_⟩;dsimp only;rw[gP];refine cN (λh7=>?_) (λh7=>?_)
 ·rw[if_pos h7] at kq;refine⟨_,rfl,bg,λt ht=>?_⟩;have st:=aj (o:=.tup [.str "not",v1]) ht;exact kq _ _ (Ko.trans st) (.not ah (hE1.kept st.ls.1))
 rw[if_neg h7] at kq;refine⟨_,rfl,_,_,rfl,rfl,_,rfl,?_⟩;refine cN (λh9=>?_) (λh9=>?_)
 ·rw[if_pos h9] at kq;refine⟨_,rfl,l,_,_,.str R.n6,rfl,rfl,am.of hR2.nl,aY (j:=6) (eM (by lia)),_,rfl,_,rfl,bg,λt1 Ii=>⟨gL,λt2 Iv=>?_⟩⟩;have st1:=aj (o:=.tup [v1,v2]) Ii;have IJ:=aj (o:=.tup [.str "new",.str R.n6,.ref t1]) Iv;have st:=st1.trans IJ;exact kq _ _ (Ko.trans st) (.many ah (IJ _ _ ah) (.cons (hE1.kept st.ls.1) (.cons (hE2.kept st.ls.1) .nil)))
 rw[if_neg h9] at kq;refine⟨_,rfl,_,_,rfl,rfl,_,rfl,?_⟩;refine cN (λh11=>?_) (λh11=>?_)
 ·rw[if_pos h11] at kq;obtain⟨j,ej,hj⟩:=fm (a:=x/16) (n:=2) (by decide);have ej:x/16%2=((j:Nat):Int):=ej;rw[ej,QF] at kq;refine⟨_,rfl,_,rfl,_,_,rfl,rfl,(by show(0:Int)<2;decide),_,_,rfl,rfl,l,_,_,.str (R.ns.getD (7+j) ""),rfl,rfl,am.of hR2.nl,?_,_,rfl,gL,λt ht=>?_⟩
  ·show de _ ((7:Int)+x/16%2)=_;rw[ej,show(7:Int)+((j:Nat):Int)=((7+j:Nat):Int) by lia];exact aY (eM (by lia))
  have st:=aj (o:=.tup [.str "of",.str (R.ns.getD (7+j) ""),v1]) ht;exact kq _ _ (Ko.trans st) (.of ah (hE1.kept st.ls.1))
 rw[if_neg h11] at kq;refine⟨_,rfl,rfl,_,rfl,?_⟩;dsimp only;rw[gP];refine cN (λh12=>?_) (λh12=>?_)
 ·rw[if_pos h12] at kq;obtain⟨us,Ik,hH⟩:=hR2.hs;have h2:=hR.h2;have Kq:=hH.1;have m0:=Int.emod_nonneg (x/16) (show((R.hs.length:Nat):Int)≠0 by lia);have m1:=Int.emod_lt_of_pos (x/16) (show(0:Int)<((R.hs.length:Nat):Int) by lia)
  obtain⟨j,ej⟩:∃j:Nat,x/16%((R.hs.length:Nat):Int)=((j:Nat):Int):=⟨(x/16%((R.hs.length:Nat):Int)).toNat,by lia⟩
  have hj:j<R.hs.length:=by lia
  have hju:j<us.length:=by lia
  have eh:R.hd (x/16)=R.hs[j]:=by unfold Ct.hd;rw[ej,QF,Qd,Qb hj];rfl
  have JZ:=hR.p2 _ (QN hj);rw[eh] at kq;obtain⟨pp,g1,ws,g2,g3,_⟩:=hH.2 j us[j] R.hs[j] (Qb hju) (Qb hj);generalize R.hs[j]=h at kq g1 g3 JZ;refine⟨_,rfl,_,rfl,_,rfl,hp,_,rfl,.inl (am.of Ik),_,_,rfl,rfl,?_,hp,_,_,.ref us[j],rfl,rfl,am.of Ik,?_,?_⟩
  ·show(0:Int)<(((us.map V.ref).length:Nat):Int);rw[Qg];lia
  ·show de _ (x/16%(((us.map V.ref).length:Nat):Int))=_;rw[Qg,Kq,ej];exact aY (by rw[Qr,Qb hju];rfl)
  dsimp only[aP];refine⟨_,rfl,us[j],_,_,_,rfl,rfl,ao.of g1,aY (j:=0) rfl,_,rfl,_,rfl,bg,λt1 Ii=>?_⟩;have st1:=aj (o:=.tup [v1,v2]) Ii;refine⟨_,rfl,us[j],_,_,_,rfl,rfl,ao.of (st1 _ _ g1),aY (j:=2) rfl,pp,_,rfl,.inl (am.of (st1 _ _ g2)),?_⟩;have Jh:(ws.map V.ref).length=h.2.2.length:=by rw[Qg];exact g3
  rw[Jh];refine⟨_,rfl,?_⟩
  have fin:∀(q:Addr) (vs:List V) (H3:Hp),Same H2 H3->H3 q=some (.tup vs)->vs=[v1,v2].take h.2.2.length->3<=sizeLine/\∀t2,H3 t2=none->Q (.ref t2) (ag H3 t2 (.tup [.str "do",.str h.1,.ref q])):=λq vs H3 s3 hq ev=>⟨by decide,λt2 Iv=>by
   have IJ:=aj (o:=.tup [.str "do",.str h.1,.ref q]) Iv;refine kq _ _ ((Ko.trans s3).trans IJ) (.many ah (IJ _ _ hq) ?_);rw[ev]
   exact yQ _ (.cons (hE1.kept (s3.trans IJ).ls.1) (.cons (hE2.kept (s3.trans IJ).ls.1) .nil))⟩
  rcases (show h.2.2.length=0∨h.2.2.length=1∨h.2.2.length=2 by lia) with e0|e0|e0<;>rw[e0] at fin ⊢
  ·exact .inl ⟨t1,_,rfl,ao.of ah,by rintro⟨_,z⟩;exact absurd z (by simp[HT.sIx]),λq hq=>fin q _ _ (st1.trans (aj hq)) ah rfl⟩
  ·exact .inl ⟨t1,_,rfl,ao.of ah,by rintro⟨_,z⟩;exact absurd z (by simp[HT.sIx]),λq hq=>fin q _ _ (st1.trans (aj hq)) ah rfl⟩
  exact .inr ⟨t1,_,rfl,ao.of ah,rfl,rfl,fin t1 _ _ st1 ah rfl⟩
 rw[if_neg h12] at kq;obtain⟨j,ej,hj⟩:=fm (a:=x/16) (n:=7) (by decide);have ej:x/16%7=((j:Nat):Int):=ej;rw[ej,QF] at kq;refine⟨(by show 7<=sizeLine;decide),λq hq=>?_⟩;have sq:=aj (o:=.lst (eN.map V.str)) hq;refine⟨_,rfl,_,_,rfl,rfl,(by show(0:Int)<7;decide),q,_,_,.str (eN.getD j ""),rfl,rfl,am.of ah,?_,_,rfl,_,rfl,gL,λt ht=>?_⟩
 ·rw[ej];exact aY (eM (ns:=eN) (by show j<7;exact hj))
 have st:=sq.trans (aj (o:=.tup [.str (eN.getD j ""),v1,v2]) ht);exact kq _ _ (Ko.trans st) (.op ah (hE1.kept st.ls.1) (hE2.kept st.ls.1))
theorem Gr(T:All P w K mg AA DD):aE P w K mg base aG 1 AA.ZI DD.ZI Yb (kH 0):=by
 have no:∀vs H Q E,¬kH 0 vs H Q E:=λvs H Q E h=>by cases h;lia
 exact T.z_ZI.F.ok rZ (λvs H Q E h=>(no _ _ _ _ h).elim) (λHQ A outer s H vs Q E hr h=>(no _ _ _ _ h).elim)
theorem yR(T:All P w K mg AA DD):∀k:Nat,aE P w K mg base aG (k+1) AA.ZI DD.ZI Yb (kH k)
 |0=>Gr T
 |k+1=>Gq T k (yR T k)
noncomputable def Ct.find(R:Ct)(z:Str):Option ei:=R.hs.find? λh=>decide (h.1=z)
mutual
def c6(R:Ct)(kn:List Str):Ex->Prop
 |.num _=>True
 |.truth _=>True
 |.name z=>z∈kn
 |.not e=>c6 R kn e
 |.op w a b=>w∈eN/\c6 R kn a/\c6 R kn b
 |.of n e=>(n=R.ns.getD 7 ""∨n=R.ns.getD 8 "")/\c6 R kn e
 |.many w z es=>((w="new"/\z=R.n6/\es.length=2)∨(w="do"/\∃h,R.find z=some h/\es.length=h.2.2.length))/\mh R kn es
def mh(R:Ct)(kn:List Str):List Ex->Prop
 | []=>True
 |e::es=>c6 R kn e/\mh R kn es
end
theorem yS:∀{es:List Ex} {e:Ex},mh R kn es->e∈es->c6 R kn e
 |x::es,e,g,h=>by
  rcases Qx h with z|z
  ·subst z;exact g.1
  exact yS g.2 z
noncomputable def r6:List Str:=["+","-","*","less","same"]
noncomputable def dI(w:Str):Str:=if w∈r6 then "num" else "truth"
noncomputable def c7(R:Ct):Ex->List (Ex×Str)
 |.many w z es=>if w="new" then es.zip YF else(es.zip (((R.find z).map λh=>h.2.2).getD [])).map λp=>(p.1,p.2.2)
 |.op w a b=>[(a,dI w),(b,dI w)]
 |.not e=>[(e,"truth")]
 |_=>[]
def Pt(H:Hp)(u:Addr)(q:Ex×Str):Prop:=∃v,H u=some (.tup [v,.str q.2])/\aU H v q.1
theorem Pt.same(h:Pt H u q)(s:Same H H'):Pt H' u q:=by obtain⟨v,a,b⟩:=h;exact⟨v,s _ _ a,b.kept s.ls.1⟩
def mi:Ex->Prop
 |.not _=>True
 |.many _ _ _=>True
 |.op _ _ _=>True
 |_=>False
theorem Gs{H:Hp}{v:V}{e:Ex}{R:Ct}{kn:List Str}(hE:aU H v e)(hg:c6 R kn e)(hN:mi e) :
  (∃t lt va vb a b,v=.ref t/\H t=some (.tup [.str "new",.str R.n6,.ref lt])/\H lt=some (.tup [va,vb])/\aU H va a/\aU H vb b/\c7 R e=([(a,"num"),(b,"truth")]:List (Ex×Str))) ∨
  (∃t lt z vs es h,v=.ref t/\H t=some (.tup [.str "do",.str z,.ref lt])/\H lt=some (.tup vs)/\ExsAt H vs es/\R.find z=some h/\es.length=h.2.2.length/\c7 R e=(es.zip h.2.2).map λp=>(p.1,p.2.2)) ∨
  ∃t w vs es,v=.ref t/\H t=some (.tup (.str w::vs))/\ExsAt H vs es/\vs≠[]/\vs.length<=2/\w≠"new"/\w≠"do"/\c7 R e=es.map λx=>(x,dI w):=by
 cases hE with
 |num h=>exact hN.elim
 |truth h=>exact hN.elim
 |name h=>exact hN.elim
 |of h a=>exact hN.elim
 |not h a=>exact .inr (.inr ⟨_,_,_,[_],rfl,h,.cons a .nil,by simp,by simp,by decide,by decide,by show [(_,("truth":Str))]=[(_,dI "not")];rw[show dI "not"="truth" from if_neg (by decide)]⟩)
 | @op t w va a vb b h ha hb =>
  have n:∀z∈eN,z≠"new"/\z≠"do":=by decide +kernel
  exact .inr (.inr ⟨_,_,_,[_,_],rfl,h,.cons ha (.cons hb .nil),by simp,by simp,(n _ hg.1).1,(n _ hg.1).2,rfl⟩)
 | @many t lt w z vs es h hl Jm =>
  rcases hg.1 with ⟨rfl,rfl,HM⟩|⟨rfl,hh,e1,e2⟩
  ·obtain⟨a,b,rfl⟩:=g9 HM
   cases Jm with
   |cons ha Jm =>
   cases Jm with
   |cons hb Jm =>
   cases Jm;exact .inl ⟨_,_,_,_,a,b,rfl,h,hl,ha,hb,by rw[c7,if_pos rfl];rfl⟩
  refine .inr (.inl ⟨_,_,z,_,es,hh,rfl,h,hl,Jm,e1,e2,?_⟩);rw[c7,if_neg (by decide),e1];rfl
inductive yT (vs:List V) (H:Hp) (Q:VK) (E:XK):Prop
 |mk:∀(v:V) (e:Ex) (hp l:Addr) (R:Ct) (kn:List Str),vs=[v,.ref hp,.ref l]->aU H v e->c6 R kn e->mi e->fQ H hp l R->(∀p us H',H p=none->Same H H'->H' p=some (.lst (us.map V.ref))->eA (Pt H') us (c7 R e)->Q (.ref p) H')->yT vs H Q E
noncomputable abbrev oK:List Str:=["_law_e","_law_heads_here","_law_names_here","_law_params","_law_due"]
theorem yU:bf oK Yl (aJ kj):=by decide +kernel
theorem Gu(T:All P w K mg AA DD):aE P w K mg base aG 1 AA.ZC DD.ZC Yl yT:=by
 refine T.z_ZC.F.ok yU (λvs H Q E h=>by cases h;subst_vars;rfl) λHQ A outer s H vs Q E hr h=>?_;obtain⟨v,e,hp,l,R,kn,rfl,hE,hg,hN,hR,kq⟩:=h;have nd:=yU.nd;have hu:=QE (Nat.add_le_add_left (show 1<=64 by decide) _) hr.units;refine⟨_,(aq (aV (aH bi (av (pv 0)) au (aI _)) (ap (aN (cb (aa (aR (aa (av (av (pv 0))) (aa au af))) (aa (aR (aa (av (av (pv 0))) (aa au af))) af))))) be) (aq (aV (aH bi (av (pv 0)) au (aI _)) (aq (aQ (i:=3) nd rfl (Or.inl rfl) (j9 (gu (aJ kj) oK ["_law_e"] [0] rfl (by decide +kernel) rfl rfl (cG (pv 1)) (λ_ _ _ _=>iF (aH bi (av (pv 0)) (av (pv 1)) (aI _))) (λ_ _ _ _=>(av (pv 0)))))) (ap (aN (jd (xs:=YC) (aJ kj) oK [] [] rfl (by decide +kernel) rfl rfl (uQ true rfl T.n_zip (aa (av (pv 0)) (aa (pv 3) af))) (λ_ _ _ _=>(dG (n:=2) rfl (bp (ba (i:=0) (show(YC:List Str).Nodup by decide +kernel) rfl (Or.inl rfl)) (bp (ba (i:=1) (show(YC:List Str).Nodup by decide +kernel) rfl (Or.inl rfl)) cV)))) (λ_ _ _ _=>fG) (λ_ _ _ _=>(aR (aa (pv 0) (aa (av (pv 1)) af)))))))) be) (aq (aQ (i:=4) nd rfl (Or.inr rfl) au) (aq (aV (aH lH (av (pv 0)) (aR (aa au (aa au (aa au (aa au (aa au af)))))) rfl) (ap (aQ (i:=4) nd rfl (Or.inr rfl) au)) be) (ap (aN (gu (aJ kj) oK ["_law_due"] [4] rfl (by decide +kernel) rfl rfl (kc (iy vM (pv 0) (f7 ar) k4)) (λ_ _ _ _=>fG) (λ_ _ _ _=>(aR (aa (pv 0) (aa (pv 1) af))))))))))),?_⟩;rcases Gs hE hg hN with ⟨t,lt,va,vb,a,b,rfl,ht,hl,hva,hvb,ep⟩|⟨t,lt,z,vs,es,h,rfl,ht,hl,Jm,hz,HM,ep⟩|⟨t,w,vs,es,rfl,ht,Jm,HL,h2,n1,n2,ep⟩<;>rw[ep] at kq
 ·refine aw 0 rfl ht rfl ⟨rfl,_,rfl,dW ?_⟩;refine aw 2 rfl ht rfl ⟨lt,_,_,_,rfl,rfl,ao.of hl,aY (j:=0) rfl,bg,λq1 h1=>?_⟩;have s1:=aj (o:=.tup [va,.str "num"]) h1;refine aw 2 rfl (s1 _ _ ht) rfl ⟨lt,_,_,_,rfl,rfl,ao.of (s1 _ _ hl),aY (j:=1) rfl,bg,λq2 h2=>⟨bg,λp hp=>?_⟩⟩;have s2:=aj (o:=.tup [vb,.str "truth"]) h2;have s3:=aj (o:=.lst [.ref q1,.ref q2]) hp;have Jl:=(s1.trans s2).trans s3;exact kq p [q1,q2] _ ((s1.trans s2).free hp) Jl ah ((eA.nil.snoc (x:=(a,("num":Str))) ⟨va,s3 _ _ (s2 _ _ ah),hva.kept Jl.ls.1⟩).snoc ⟨vb,s3 _ _ ah,hvb.kept Jl.ls.1⟩)
 ·refine aw 0 rfl ht rfl ⟨rfl,_,rfl,bh (Qk λz=>by injection z with z;exact absurd z (by decide)) ?_⟩;refine aw 0 rfl ht rfl ⟨rfl,_,rfl,dW ?_⟩;obtain⟨us,Ik,hH⟩:=hR.hs;have hh2:=hR.h2;refine⟨_,rfl,hp,rfl,⟨_,am.of Ik⟩,?_⟩;refine jO (K:=K0) (a:=hp) (xs:=us.map V.ref) (λi ys H'=>H'=H/\ys.length<=i/\i<=us.length/\(((R.hs.take i).find? λh=>decide (h.1=z))=none/\ys=[]∨∃h pp ws,((R.hs.take i).find? λh=>decide (h.1=z))=some h/\ys=V.ref pp::ws/\hZ H pp h.2.2)) ⟨rfl,Qh _,Qy _,.inl ⟨rfl,rfl⟩⟩ (λi ys H' _ h=>by rw[h.1];exact am.of Ik) ?_ ?_
  ·rintro i x ys H1 hx ⟨rfl,IG,_,hc⟩;obtain⟨hi,ex⟩:=j8 hx;subst ex;have hih:i<R.hs.length:=by rw[<-hH.1];exact hi
   obtain⟨pp,g1,g2⟩:=hH.2 i us[i] R.hs[i] (Qb hi) (Qb hih);have ul:=hH.1;rw[Qo hih,List.find?_append,List.find?_singleton];generalize R.hs[i]=h1 at g1 g2;refine⟨_,rfl,us[i],_,_,_,rfl,rfl,ao.of g1,aY (j:=0) rfl,aw 1 rfl ht rfl ⟨rfl,_,rfl,?_⟩⟩;by_cases hz1:h1.1=z
   ·refine bS (Qn (by rw[hz1])) ⟨_,rfl,us[i],_,_,_,rfl,rfl,ao.of g1,aY (j:=2) rfl,bC (by lia),rfl,by simp;lia,hi,.inr ?_⟩;rw[Qn hz1,if_pos rfl]
    rcases hc with ⟨e1,rfl⟩|⟨h,p2,ws,e1,rfl,hL⟩
    ·exact⟨h1,pp,[],by rw[e1];rfl,rfl,g2⟩
    exact⟨h,p2,ws++[.ref pp],by rw[e1];rfl,rfl,hL⟩
   refine cQ hz1 ⟨rfl,by lia,hi,?_⟩;rw[Qk hz1,if_neg Qz,Option.or_none];exact hc
  rintro ys H1 ⟨rfl,_,_,hc⟩ p hp0;have hz:R.hs.find? (λh=>decide (h.1=z))=some h:=hz;rw[Qg,hH.1,List.take_length,hz] at hc
  rcases hc with ⟨e1,_⟩|⟨h',pp,ws,e1,rfl,us2,g2,g3,g4⟩
  ·cases e1
  cases e1;have s1:=aj (o:=.lst (V.ref pp::ws)) hp0;refine⟨p,_,_,.ref pp,rfl,rfl,am.of ah,aY (j:=0) rfl,?_⟩;dsimp only[aP];have Ii:=s1 _ _ ht;have Kt:=s1 _ _ hl;have g21:=s1 _ _ g2;generalize ag H1 p (.lst (V.ref pp::ws))=H2 at s1 Ii Kt g21;refine aw 2 rfl Ii rfl ⟨_,rfl,lt,pp,vs,us2.map V.ref,rfl,ao.of Kt,am.of g21,?_⟩;have hvl:=Jm.len;have JZ:h.2.2.length<=2:=hR.p2 h (List.mem_of_find?_eq_some hz);refine Cc (K:=K) (a:=lt) (b:=pp) (xs:=vs) (ys:=us2.map V.ref) (λi zs H'=>Same H2 H'/\∃ws:List Addr,zs=ws.map V.ref/\eA (Pt H') ws (((es.zip h.2.2).take i).map λp=>(p.1,p.2.2))) ⟨Same.refl _,[],rfl,eA.nil⟩ (λi zs H' h=>⟨ao.of (h.1 _ _ Kt),am.of (h.1 _ _ g21)⟩) ?_ ?_
  ·rintro i x y zs H3 tt hx hy ⟨sm,ws,rfl,hws⟩ htt;obtain⟨c,hc,hcx⟩:=Jm.get hx;rw[Qr] at hy;obtain⟨u5,hu5,rfl⟩:=Option.map_eq_some_iff.mp hy;have hif:i<h.2.2.length:=by have:=(Qc hu5).1;lia
   have htu:=s1 _ _ (g4 i u5 _ hu5 (Qb hif));have st:=aj (o:=.tup [x,.ref u5]) htt;intro os Ij;obtain⟨o1,o2,rfl⟩:=g9 Ij;refine⟨tt,_,rfl,ao.of ah,rfl,_,_,rfl,_,_,rfl,rfl,⟨[_,_],rfl,rfl⟩,?_⟩;refine fF ?_;rw[if_pos rfl];refine⟨_,rfl,aw 1 rfl (st _ _ (sm _ _ htu)) rfl ⟨bg,λt2 Iv=>?_⟩⟩;have sn:=st.trans (aj (o:=.tup [x,.str (h.2.2[i]).2]) Iv);have Jh:=hws.1;rw[Qg,QH] at Jh;have hie:i<(es.zip h.2.2).length:=by rw[List.length_zip];lia
   have ez:(es.zip h.2.2)[i]=(c,h.2.2[i]):=by rw[List.getElem_zip];rw[(Qc hc).2]
   refine⟨by rw[Qg];exact bC (by lia),sm.trans sn,ws++[t2],by simp,?_⟩;rw[Qo hie,ez,QD];exact(hws.imp λ_ _ h=>h.same sn).snoc ⟨x,ah,hcx.kept ((s1.trans sm).trans sn).ls.1⟩
  rintro zs H3 ⟨sm,ws,rfl,hws⟩ p hp;have sp:=aj (o:=.lst (ws.map V.ref)) hp;rw[QC (by rw[List.length_zip,Qg,g3,hvl];exact Qh _)] at hws;exact kq p ws _ ((s1.trans sm).free hp) ((s1.trans sm).trans sp) ah (hws.imp λ_ _ h=>h.same sp)
 refine aw 0 rfl ht rfl ⟨rfl,_,rfl,cQ n1 ?_⟩;refine aw 0 rfl ht rfl ⟨rfl,_,rfl,cQ n2 ?_⟩;refine lu ?_;dsimp only[aP];refine gU (λσ' H'=>Same H H'/\σ'=[some (.ref t),some (.ref hp),some (.ref l),none,some (.str (dI w))]) (λRR HP=>?_) ?_
 ·refine aw 0 rfl ht rfl ⟨sS,λpt KG=>⟨pt,r6.map V.str,rfl,.inr (ao.of ah),rfl,rfl,_,rfl,?_⟩⟩;unfold dI at HP;by_cases hz:w∈r6
  ·refine bS (hV (Qn hz)) ?_;rw[if_pos hz] at HP;exact HP _ _ ⟨aj KG,rfl⟩
  refine bh (hV (Qk hz)) ?_;rw[if_neg hz] at HP;exact HP _ _ ⟨aj KG,rfl⟩
 rintro σ' H1 ⟨s1,rfl⟩;refine⟨_,rfl,_,rfl,t,_,rfl,ao.of (s1 _ _ ht),?_,λq hq=>⟨q,rfl,⟨_,ao.of ah⟩,?_⟩⟩
 ·rintro⟨q,_⟩;simp[HT.sIx] at q
 rw[xa];have s2:=s1.trans (aj (o:=.tup vs) hq);have Iw:ag H1 q (.tup vs) q=some (.tup vs):=ah;generalize ag H1 q (.tup vs)=H2 at s2 Iw;refine mV (K:=K0) (a:=q) (xs:=vs) (λi ys H'=>Same H2 H'/\∃us:List Addr,ys=us.map V.ref/\eA (Pt H') us ((es.take i).map λx=>(x,dI w))) ⟨Same.refl _,[],rfl,eA.nil⟩ (λi ys H' _ h=>ao.of (h.1 _ _ Iw)) ?_ ?_
 ·rintro i x ys H3 hx ⟨s3,us,rfl,Ik⟩;obtain⟨c,hc,hcx⟩:=Jm.get hx;obtain⟨hi,ec⟩:=Qc hc;refine fF ?_;rw[if_pos rfl];refine⟨_,rfl,_,rfl,bg,λu hu=>?_⟩;have s4:=aj (o:=.tup [x,.str (dI w)]) hu;have Kq:=Ik.1;rw[Qg,QH] at Kq;have hvl:=Jm.len;refine⟨by rw[Qg];exact bC (by lia),s3.trans s4,us++[u],by simp,?_⟩;rw[Qo hi,ec,QD];exact(Ik.imp λ_ _ h=>h.same s4).snoc ⟨x,ah,hcx.kept ((s2.trans s3).trans s4).ls.1⟩
 rintro ys H3 ⟨s3,us,rfl,Ik⟩ p hp;have s4:=aj (o:=.lst (us.map V.ref)) hp;rw[QC (by rw[Jm.len];exact Qh _)] at Ik;exact kq p us _ ((s2.trans s3).free hp) ((s2.trans s3).trans s4) ah (Ik.imp λ_ _ h=>h.same s4)
noncomputable def iU(ks:List (Str×Str))(z:Str):Str:=(ks.lookup z).getD ""
noncomputable def gH(R:Ct)(n:Str):Str:=if n=R.ns.getD 7 "" then "num" else "truth"
noncomputable def kI:List Str:=["+","-","*"]
noncomputable def aS(R:Ct)(ks:List (Str×Str)):Ex->Str
 |.num _=>"num"
 |.truth _=>"truth"
 |.name z=>iU ks z
 |.not _=>"truth"
 |.op w _ _=>if w∈kI then "num" else "truth"
 |.of n e=>if aS R ks e=R.n6 then gH R n else ""
 |.many w z _=>if w="new" then z else((R.find z).map λh=>h.2.1).getD ""
noncomputable def eO(k HZ:Str):List Str:=if k≠""/\k≠HZ then ["kind"] else []
noncomputable def ib(R:Ct)(k:Str):List Str:=if k≠R.n6/\k≠"" then ["field"] else []
mutual
noncomputable def aT(R:Ct)(ks:List (Str×Str)):Ex->List Str
 |.op w a b=>(aT R ks a++eO (aS R ks a) (dI w))++(aT R ks b++eO (aS R ks b) (dI w))
 |.not e=>aT R ks e++eO (aS R ks e) "truth"
 |.many w z es=>wrZ R ks es (if w="new" then YF else(((R.find z).map λh=>h.2.2).getD []).map (·.2))
 |.of _ e=>aT R ks e++ib R (aS R ks e)
 |.num _=>[]
 |.truth _=>[]
 |.name _=>[]
noncomputable def wrZ(R:Ct)(ks:List (Str×Str)):List Ex->List Str->List Str
 | [],_=>[]
 |e::es,ds=>match ds with
  | []=>[]
  |d::ds=>(aT R ks e++eO (aS R ks e) d)++wrZ R ks es ds
end
noncomputable def dq(R:Ct)(ks:List (Str×Str))(xs:List (Ex×Str)):List Str:=xs.flatMap λp=>aT R ks p.1++eO (aS R ks p.1) p.2
theorem yV(R:Ct)(ks:List (Str×Str)):∀(es:List Ex) (ds:List Str),wrZ R ks es ds=dq R ks (es.zip ds)
 | [],ds=>by simp[wrZ,dq]
 |e::es,[]=>by simp[wrZ,dq]
 |e::es,d::ds=>by rw[wrZ,yV R ks es ds];simp[dq]
theorem Gv(hn:mi e):aT R ks e=dq R ks (c7 R e):=by
 cases e with
 |num _=>exact hn.elim
 |truth _=>exact hn.elim
 |name _=>exact hn.elim
 |of n x=>exact hn.elim
 |not e=>rw[aT];simp[dq,c7]
 |op w a b=>rw[aT];simp[dq,c7]
 |many w z es =>
  rw[aT,yV,c7];by_cases h:w="new"
  ·rw[if_pos h,if_pos h]
  rw[if_neg h,if_neg h,List.zip_map_right];rfl
theorem Gw{xs:List (Ex×Str)}(h:xs[i]?=some p):dq R ks (xs.take (i+1))=dq R ks (xs.take i)++(aT R ks p.1++eO (aS R ks p.1) p.2)/\(dq R ks (xs.take (i+1))).length<=(dq R ks xs).length:=by
 obtain⟨hi,e⟩:=Qc h;refine⟨?_,?_⟩
 ·rw[Qo hi,e];unfold dq;rw[List.flatMap_append,List.flatMap_singleton]
 have e1:dq R ks xs=dq R ks (xs.take (i+1))++dq R ks (xs.drop (i+1)):=by unfold dq;rw[<-List.flatMap_append,List.take_append_drop]
 rw[e1,Qi];lia
theorem Gx(hp:p∈c7 R e):(∃w a b,e=.op w a b/\(p.1=a∨p.1=b))∨(∃a,e=.not a/\p.1=a)∨∃w z es,e=.many w z es/\p.1∈es:=by
 cases e with
 |op w a b =>
  refine .inl ⟨w,a,b,rfl,?_⟩;rcases Qx (show p∈[(a,dI w),(b,dI w)] from hp) with z|z
  ·rw[z];exact .inl rfl
  rw[Qj z];exact .inr rfl
 |not a=>exact .inr (.inl ⟨a,rfl,by rw[Qj (show p∈[(a,("truth":Str))] from hp)]⟩)
 |many w z es =>
  refine .inr (.inr ⟨w,z,es,rfl,?_⟩);rw[c7] at hp;split at hp
  ·exact(List.of_mem_zip hp).1
  obtain⟨q,hq,rfl⟩:=QJ hp;exact(List.of_mem_zip hq).1
 |_=>simp[c7] at hp
theorem Gy{e:Ex}(hg:c6 R kn e):∀p∈c7 R e,p.1.deep<e.deep/\c6 R kn p.1:=λp hp=>by
 rcases Gx hp with ⟨w,a,b,rfl,h⟩|⟨a,rfl,h⟩|⟨w,z,es,rfl,h⟩
 ·rcases h with h|h<;>rw[h]
  ·exact⟨by simp[Ex.deep];lia,hg.2.1⟩
  exact⟨by simp[Ex.deep];lia,hg.2.2⟩
 ·rw[h];exact⟨by simp[Ex.deep],hg⟩
 exact⟨by have:=qw h;simp[Ex.deep];lia,yS hg.2 h⟩
inductive kJ (k:Nat) (vs:List V) (H:Hp) (Q:VK) (E:XK):Prop
 |mk:∀(v:V) (e:Ex) (a hp l wr:Addr) (ks:List (Str×Str)) (R:Ct) (ws:List Str),vs=[v,.ref a,.ref hp,.ref l,.ref wr]->aU H v e->c6 R (ks.map (·.1)) e->off H wr a=some (.dK (bD ks))->fQ (off H wr) hp l R->R.ns.Nodup->H wr=some (.lst (ws.map V.str))->ws.length+(aT R ks e).length<=900->e.deep<k->(∀H',Same (off H wr) H'->H' wr=some (.lst ((ws++aT R ks e).map V.str))->Q (.str (aS R ks e)) H')->kJ k vs H Q E
theorem oM(z:Str):∀ks:List (Str×Str),aZ (bD ks) (.inr z)=(ks.lookup z).map V.str
 | []=>rfl
 |p::ks=>by
  show aZ ((.inr p.1,.str p.2)::bD ks) (.inr z)=((match z==p.1 with|true=>some p.2|false=>ks.lookup z).map V.str);by_cases h:z=p.1
  ·subst h;rw[fH rfl,BEq.rfl];rfl
  rw[fI (λq=>h (Sum.inr.inj q).symm),show(z==p.1)=false from beq_eq_false_iff_ne.mpr h];exact oM z ks
theorem mj{ks:List (Str×Str)}(h:z∈ks.map (·.1)):∃k,ks.lookup z=some k:=by
 induction ks with
 |nil=>simp at h
 |cons p ks ih =>
  show ∃k,(match z==p.1 with|true=>some p.2|false=>ks.lookup z)=some k
  cases hb:z==p.1 with
  |true=>exact⟨_,rfl⟩
  |false =>
   refine ih ?_;rcases Qx (show z∈p.1::ks.map (·.1) from h) with q|q
   ·rw[q] at hb;simp at hb
   exact q
noncomputable def jt:Ex->Str
 |.num _=>"num"
 |.truth _=>"truth"
 |.name _=>"name"
 |.not _=>"not"
 |.op w _ _=>w
 |.of _ _=>"of"
 |.many w _ _=>w
theorem Gz(h:aU H v e):∃t ys,v=.ref t/\H t=some (.tup (.str (jt e)::ys)):=by
 cases h with
 |num h=>exact⟨_,_,rfl,h⟩
 |truth h=>exact⟨_,_,rfl,h⟩
 |name h=>exact⟨_,_,rfl,h⟩
 |not h a=>exact⟨_,_,rfl,h⟩
 |op h a b=>exact⟨_,_,rfl,h⟩
 |of h a=>exact⟨_,_,rfl,h⟩
 |many h l a=>exact⟨_,_,rfl,h⟩
theorem GG(hg:c6 R kn e):(∃n,e=.num n)∨(∃n,e=.truth n)∨(∃n,e=.name n)∨(∃n x,e=.of n x)∨(mi e/\jt e≠"num"/\jt e≠"truth"/\jt e≠"name"/\jt e≠"of"):=by
 have n:∀z∈eN,z≠"num"/\z≠"truth"/\z≠"name"/\z≠"of":=by decide +kernel
 cases e with
 |num n=>exact .inl ⟨n,rfl⟩
 |truth n=>exact .inr (.inl ⟨n,rfl⟩)
 |name n=>exact .inr (.inr (.inl ⟨n,rfl⟩))
 |of n e=>exact .inr (.inr (.inr (.inl ⟨n,e,rfl⟩)))
 |not e=>exact .inr (.inr (.inr (.inr ⟨trivial,by simp only[jt];decide +kernel⟩)))
 |op w a b=>exact .inr (.inr (.inr (.inr ⟨trivial,n w hg.1⟩)))
 |many w z es =>
  refine .inr (.inr (.inr (.inr ⟨trivial,?_⟩)))
  rcases hg.1 with ⟨rfl,_⟩|⟨rfl,_⟩<;>(simp only[jt];decide +kernel)
theorem GH{t:Addr}{R:Ct}(hE:aU H (.ref t) e)(hg:c6 R kn e)(hN:mi e) :
  (∃z ys,H t=some (.tup (.str "new"::.str z::ys))/\aS R ks e=z)∨(∃z ys h,H t=some (.tup (.str "do"::.str z::ys))/\R.find z=some h/\aS R ks e=h.2.1) ∨
  ∃w ys,H t=some (.tup (.str w::ys))/\w≠"new"/\w≠"do"/\aS R ks e=if w∈kI then("num":Str) else "truth":=by
 cases hE with
 |num h=>exact hN.elim
 |truth h=>exact hN.elim
 |name h=>exact hN.elim
 |of h a=>exact hN.elim
 |not h a=>exact .inr (.inr ⟨_,_,h,by decide,by decide,by rw[aS,if_neg (by decide)]⟩)
 | @op t w va a vb b h ha hb =>
  have n:∀z∈eN,z≠"new"/\z≠"do":=by decide +kernel
  exact .inr (.inr ⟨_,_,h,(n _ hg.1).1,(n _ hg.1).2,by rw[aS]⟩)
 | @many t lt w z vs es h hl Jm =>
  rcases hg.1 with ⟨rfl,rfl,HM⟩|⟨rfl,hh,e1,e2⟩
  ·exact .inl ⟨_,_,h,by rw[aS,if_pos rfl]⟩
  exact .inr (.inl ⟨z,_,hh,h,e1,by rw[aS,if_neg (by decide),e1];rfl⟩)
noncomputable abbrev yW:List Str:=["_law_e","_law_known","_law_heads_here","_law_names_here","_law_wrong","_law_kind_here","_law_part","_law_due"]
theorem r9:bf yW Yc (aJ nW):=by decide +kernel
theorem GJ(T:All P w K mg AA DD)(k:Nat)(GKD:aE P w K mg base aG (k+2) AA.ZJ DD.ZJ Yc (kJ k)) :
  aE P w K mg base aG (k+1+2) AA.ZJ DD.ZJ Yc (kJ (k+1)):=by
 have GPT:=Gu (base:=base) T;refine T.z_ZJ.F.ok r9 (λvs H Q E h=>by cases h;subst_vars;rfl) λHQ A outer s H vs Q E hr h=>?_;obtain⟨v,e,a,hp,l,wr,ks,R,ws,rfl,hE,hg,ha,hR,I0,hw,Jh,hd,kq⟩:=h;have nd:=r9.nd;have KW:aB (k+2) _:=hr;have HX:aB 1 _:=KW.mono (by lia);have hu:=QE (Nat.add_le_add_left (show 1<=64 by decide) _) hr.units;have F:∀(z1 z2:Str),z1≠z2->decide (V.str z1=V.str z2)=false:=λz1 z2 h=>Qk λq=>h (by injection q);refine⟨_,(aq (aV (PW.pt (jE (aH bi (av (pv 0)) au (aI _)) (jD (aH bi (av (pv 0)) au (aI _))))) (ap (aN (av (pv 0)))) be) (aq (aV (aH bi (av (pv 0)) au (aI _)) (ap (aN (lq hu (pv 1) (av (pv 0)) (λ_ _=>rfl)))) be) (aq (aV (aH bi (av (pv 0)) au (aI _)) (aq (aQ (i:=5) nd rfl (Or.inl rfl) (aO GKD KW rfl T.z_ZJ (aa (av (pv 0)) (aa (pv 1) (aa (pv 2) (aa (pv 3) (aa (pv 4) af))))))) (aq (aV (aH bi (pv 5) (j9 (pv 3)) (aI _)) (ap (aN (bY eF (cb (aa au (aa au af))) (aD jH (jM PySem.F.plainAttrs_list PySem.F.slot_list_index PySem.F.type_list_index DK (pv 3) (aa (av (pv 0)) af)) ar) (λ_ _=>rfl)))) be) (aq (aV (aH dN (pv 5) au (aI _)) (ap (bF (gc (pv 4) (aa au af)) (by rfl))) be) (ap (aN au))))) be) (aq (dC PassesOwn.never rfl (cG (aO GPT HX rfl T.z_ZC (aa (pv 0) (aa (pv 2) (aa (pv 3) af))))) (dG rfl (bp (ba (i:=6) nd rfl (Or.inl rfl)) (bp (ba (i:=7) nd rfl (Or.inl rfl)) cV))) (aq (aQ (i:=5) nd rfl (Or.inl rfl) (aO GKD KW rfl T.z_ZJ (aa (pv 6) (aa (pv 1) (aa (pv 2) (aa (pv 3) (aa (pv 4) af))))))) (ap (aV (PW.pt (dB (aH dN (pv 5) au (aI _)) (fC (aH dN (pv 5) (pv 7) (aI _))))) (ap (bF (gc (pv 4) (aa au af)) (by rfl))) be))) (by intro _;rfl)) (aq (aV (aH bi (av (pv 0)) au (aI _)) (ap (aN (av (pv 0)))) be) (aq (aV (aH bi (av (pv 0)) au (aI _)) (ap (aN (j9 (gu (aJ nW) yW ["_law_e"] [0] rfl (by decide +kernel) rfl rfl (cG (pv 2)) (λ_ _ _ _=>iF (aH bi (av (pv 0)) (av (pv 1)) (aI _))) (λ_ _ _ _=>(av (pv 0))))))) be) (aq (aV (aH lH (av (pv 0)) (aR (aa au (aa au (aa au af)))) rfl) (ap (aN au)) be) (ap (aN au))))))))),?_⟩;have stay:aT R ks e=[]->∀z,aS R ks e=z->Q (.str z) H:=λh0 z hz=>by rw[h0,QA,hz] at kq;exact kq H kG hw
 rcases GG hg with ⟨n,rfl⟩|⟨n,rfl⟩|⟨n,rfl⟩|⟨n,x,rfl⟩|⟨hN,h1,h2,h3,h4⟩
 ·cases hE with
  | @num t _ ht =>
  refine aw 0 rfl ht rfl ⟨rfl,_,rfl,dW (gR ?_)⟩;exact aw 0 rfl ht rfl (stay rfl _ rfl)
 ·cases hE with
  | @truth t _ ht =>
  refine aw 0 rfl ht rfl ⟨rfl,_,rfl,bh (by decide +kernel) ?_⟩;refine aw 0 rfl ht rfl ⟨rfl,_,rfl,dW ?_⟩;exact aw 0 rfl ht rfl (stay rfl _ rfl)
 ·cases hE with
  | @name t _ ht =>
  obtain⟨kd,JJ⟩:=mj hg;refine aw 0 rfl ht rfl ⟨rfl,_,rfl,bh (by decide +kernel) ?_⟩;refine aw 0 rfl ht rfl ⟨rfl,_,rfl,bh (by decide +kernel) ?_⟩;dsimp only[il];refine aw 0 rfl ht rfl ⟨rfl,_,rfl,dW ?_⟩;refine⟨_,rfl,aw 1 rfl ht rfl ⟨a,_,rfl,by rw[show some (V.str kd)=aZ (bD ks) (.inr n) from by rw[oM,JJ];rfl];exact b9.k (k:=.inr n) (kG _ _ ha),stay rfl _ ?_⟩⟩;show(ks.lookup n).getD ""=kd;rw[JJ];rfl
 ·cases hE with
  | @of t _ v1 _ ht hv1 =>
  refine aw 0 rfl ht rfl ⟨rfl,_,rfl,bh (by decide +kernel) ?_⟩;refine aw 0 rfl ht rfl ⟨rfl,_,rfl,bh (by decide +kernel) ?_⟩;dsimp only[il];refine aw 0 rfl ht rfl ⟨rfl,_,rfl,bh (by decide +kernel) ?_⟩;refine aw 0 rfl ht rfl ⟨rfl,_,rfl,dW ?_⟩;rw[aT] at kq Jh;rw[Qi] at Jh;refine aw 2 rfl ht rfl ⟨_,rfl,_,rfl,_,rfl,_,rfl,v1,x,a,hp,l,wr,ks,R,ws,rfl,hv1,hg.2,ha,hR,I0,hw,by lia,by simp[Ex.deep] at hd;lia,λH5 s5 hw5=>?_⟩;dsimp only[aP];rw[aS] at kq;have ht5:=s5 _ _ ((mf hw) _ _ ht);have hl5:=s5 _ _ hR.nl;have hn9:=hR.n9;generalize aS R ks x=kh at kq Jh ⊢;refine⟨_,rfl,_,rfl,l,_,_,.str R.n6,rfl,rfl,am.of hl5,aY (j:=6) (eM (by lia)),rfl,_,rfl,?_⟩;by_cases Kc:kh=R.n6
  ·refine bS (Qn (by rw[Kc])) ⟨bg,λq hq=>?_⟩;have sq:=aj (o:=.lst [V.str "num",.str "truth"]) hq;have e0:ib R kh=[]:=if_neg λz=>z.1 Kc;rw[e0,QA,if_pos Kc] at kq
   obtain⟨j,h7,h9,hj,ef⟩:∃j:Nat,7<=j/\j<9/\R.ns.getD j ""=n/\gH R n=yJ.getD (j-7) "":=by
    rcases hg.1 with h|h
    ·exact⟨7,by lia,by lia,h.symm,by unfold gH;rw[if_pos h];rfl⟩
    refine⟨8,by lia,by lia,h.symm,?_⟩;unfold gH;rw[if_neg λz=>?_]
    ·rfl
    rw[h,Qd,Qd,Qb (show 8<R.ns.length by lia),Qb (show 7<R.ns.length by lia)] at z;exact List.pairwise_iff_getElem.mp I0 7 8 (by lia) (by lia) (by lia) z.symm
   have hjl:j<R.ns.length:=by lia
   have hjn:R.ns[j]?=some n:=by rw[<-hj,Qd,Qb hjl];rfl
   refine⟨_,rfl,.inl ⟨rfl,_,am.of (sq _ _ hl5)⟩,aw 1 rfl (sq _ _ ht5) rfl ⟨l,R.ns,n,j,rfl,rfl,sq _ _ hl5,hjn,λm hm z=>?_,by lia,_,_,rfl,rfl,q,_,_,.str (gH R n),rfl,rfl,am.of ah,?_,kq _ (λb o hb=>sq _ _ (s5 _ _ hb)) (sq _ _ hw5)⟩⟩
   ·have hml:m<R.ns.length:=by lia
    rw[Qb hml] at z;rw[Qb hjl] at hjn;exact List.pairwise_iff_getElem.mp I0 m j hml hjl hm ((Qs z).trans (Qs hjn).symm)
   show de _ (((j:Nat):Int)-7)=_;rw[show((j:Nat):Int)-7=((j-7:Nat):Int) by lia,ef];exact aY (eM (ns:=yJ) (by show j-7<2;lia))
  refine bh (F _ _ Kc) ?_;rw[if_neg Kc] at kq;dsimp only[il];refine gU (λσ' H'=>Same (off H wr) H'/\H' wr=some (.lst ((ws++(aT R ks x++ib R kh)).map V.str))) (λRR HP=>?_) ?_
  ·refine⟨_,rfl,rfl,_,rfl,?_⟩;unfold ib at HP Jh;by_cases Jq:kh=""
   ·refine bh (by
     show(!decide (V.str kh=V.str ""))=false
     rw[Qn (by rw[Jq])];rfl) ?_
    rw[if_neg (λz=>z.2 Jq),QA] at HP;exact HP _ _ ⟨s5,hw5⟩
   refine bS (by
    show(!decide (V.str kh=V.str ""))=true
    rw[F _ _ Jq];rfl) ?_
   rw[if_pos ⟨Kc,Jq⟩] at HP Jh;refine⟨_,rfl,.inl ⟨rfl,_,am.of hw5⟩,wr,_,_,rfl,rfl,hw5,?_,?_⟩
   ·rw[Qg,Qi];exact bC (by rw[QP] at Jh;lia)
   exact HP _ _ ⟨λb o hb=>by rw[ay (oG hb)];exact s5 _ _ hb,by rw[ah];simp⟩
  rintro σ' H7 ⟨s7,hw7⟩;exact kq _ s7 hw7
 obtain⟨t,ys,rfl,ht⟩:=Gz hE;refine aw 0 rfl ht rfl ⟨rfl,_,rfl,bh (F _ _ h1) ?_⟩;refine aw 0 rfl ht rfl ⟨rfl,_,rfl,bh (F _ _ h2) ?_⟩;dsimp only[il];refine aw 0 rfl ht rfl ⟨rfl,_,rfl,bh (F _ _ h3) ?_⟩;refine aw 0 rfl ht rfl ⟨rfl,_,rfl,bh (F _ _ h4) ?_⟩;dsimp only[il];rw[Gv hN] at kq Jh;have hok:=Gy hg;refine gW (λσ' H'=>Same (off H wr) H'/\H' wr=some (.lst ((ws++dq R ks (c7 R e)).map V.str))/\∃x5 x6 x7,σ'=[some (.ref t),some (.ref a),some (.ref hp),some (.ref l),some (.ref wr),x5,x6,x7]) (λRR HP=>?_) ?_
 ·refine⟨_,rfl,_,rfl,_,rfl,.ref t,e,hp,l,R,ks.map (·.1),rfl,hE,hg,hN,hR.same kG,λp us H1 hp0 s1 IA Ik=>⟨p,rfl,⟨_,am.of IA⟩,?_⟩⟩;have hpw:p≠wr:=(Gj hw hp0).symm;have hp1':off H1 wr p=some (.lst (us.map V.ref)):=by rw[kF hpw];exact IA
  have tw:lF H1 (off H1 wr):=mf (s1 _ _ hw);refine nz (K:=K0) (a:=p) (xs:=us.map V.ref) (λi σ' H'=>Same (off H wr) H'/\Same (off H1 wr) H'/\H' wr=some (.lst ((ws++dq R ks ((c7 R e).take i)).map V.str))/\∃x5 x6 x7,σ'=[some (.ref t),some (.ref a),some (.ref hp),some (.ref l),some (.ref wr),x5,x6,x7]) ⟨yL s1,kG,by simpa [dq] using s1 _ _ hw,_,_,_,rfl⟩ (λi σ' H' _ h=>am.of (h.2.1 _ _ hp1')) ?_ ?_
  ·rintro i x σ' H3 hx ⟨s03,Jl,hw3,x5,x6,x7,rfl⟩ D1 hM;obtain⟨hi,ex⟩:=j8 hx;subst ex;have Il:i<(c7 R e).length:=by rw[<-Ik.1];exact hi
   have hq:(c7 R e)[i]?=some (c7 R e)[i]:=Qb Il;generalize (c7 R e)[i]=pe at hq;obtain⟨vp,a1,a2⟩:=Ik.2 i us[i] pe (Qb hi) hq;have b1:=Jl _ _ (tw _ _ a1);have b2:aU H3 vp pe.1:=(a2.kept tw).kept Jl.ls.1;obtain⟨o1,o2⟩:=hok pe (Qq hq);obtain⟨e1,e2⟩:=Gw (R:=R) (ks:=ks) hq;rw[e1] at hM e2;rw[Qi,Qi] at e2;refine⟨us[i],_,rfl,ao.of b1,rfl,_,_,rfl,_,_,rfl,rfl,?_⟩;have so:=yM s03;refine⟨_,rfl,_,rfl,_,rfl,_,rfl,_,rfl,vp,pe.1,a,hp,l,wr,ks,R,_,rfl,b2,o2,so _ _ ha,hR.same so,I0,hw3,by rw[Qi];lia,by lia,λH4 s4 hw4=>?_⟩;dsimp only[aP];have s04:=yK s03 s4;have s14:=yK Jl s4;generalize aS R ks pe.1=kk0 at hM e2 ⊢;refine⟨_,rfl,rfl,_,rfl,?_⟩;unfold eO at hM e2;by_cases Jq:kk0=""
   ·refine bh (by
     show(!decide (V.str kk0=V.str ""))=false
     rw[Qn (by rw[Jq])];rfl) (eD ?_)
    rw[if_neg λz=>z.1 Jq] at hM;exact hM _ _ ⟨s04,s14,by rw[hw4];simp,_,_,_,rfl⟩
   refine bS (by
    show(!decide (V.str kk0=V.str ""))=true
    rw[F _ _ Jq];rfl) ?_
   refine⟨_,rfl,_,rfl,rfl,_,rfl,?_⟩;by_cases HU:kk0=pe.2
   ·refine bh (by
     show(!decide (V.str kk0=V.str pe.2))=false
     rw[Qn (by rw[HU])];rfl) ?_
    rw[if_neg λz=>z.2 HU] at hM;exact hM _ _ ⟨s04,s14,by rw[hw4];simp,_,_,_,rfl⟩
   refine bS (by
    show(!decide (V.str kk0=V.str pe.2))=true
    rw[F _ _ HU];rfl) ?_
   rw[if_pos ⟨Jq,HU⟩] at hM e2;refine⟨_,rfl,.inl ⟨rfl,_,am.of hw4⟩,wr,_,_,rfl,rfl,hw4,?_,?_⟩
   ·rw[Qg,Qi,Qi];exact bC (by rw[QP] at e2;lia)
   have su:∀{Ha:Hp} {o:HO},Same (off Ha wr) H4->Same (off Ha wr) (ag H4 wr o):=λs b o hb=>by rw[ay (oG hb)];exact s _ _ hb
   exact hM _ _ ⟨su s04,su s14,by rw[ah];simp,_,_,_,rfl⟩
  rintro σ' H3 ⟨s03,Jl,hw3,x5,x6,x7,rfl⟩;rw[Qg,Ik.1,List.take_length] at hw3;exact HP _ _ ⟨s03,hw3,x5,x6,x7,rfl⟩
 rintro σ' H3 ⟨s3,hw3,x5,x6,x7,rfl⟩;have kq:∀H',Same H3 H'->Q (.str (aS R ks e)) H':=λH' s=>kq _ (λb o hb=>s _ _ (s3 _ _ hb)) (s _ _ hw3);have hE3:aU H3 (.ref t) e:=(hE.kept (mf hw)).kept s3.ls.1;have hR3:=hR.same s3;rcases GH (ks:=ks) hE3 hg hN with ⟨z,zs,Kr,ek⟩|⟨z,zs,h,Kr,hz,ek⟩|⟨w,zs,Kr,n1,n2,ek⟩<;>rw[ek] at kq
 ·refine aw 0 rfl Kr rfl ⟨rfl,_,rfl,dW ?_⟩;exact aw 1 rfl Kr rfl (kq _ (Same.refl _))
 ·refine aw 0 rfl Kr rfl ⟨rfl,_,rfl,bh (F _ _ (by decide)) ?_⟩;refine aw 0 rfl Kr rfl ⟨rfl,_,rfl,dW ?_⟩;obtain⟨us,Ik,hH⟩:=hR3.hs;have hh2:=hR.h2;refine⟨_,rfl,hp,rfl,⟨_,am.of Ik⟩,?_⟩;refine jO (K:=K0) (a:=hp) (xs:=us.map V.ref) (λi ys H'=>H'=H3/\ys.length<=i/\i<=us.length/\(((R.hs.take i).find? λh=>decide (h.1=z))=none/\ys=[]∨∃h ws,((R.hs.take i).find? λh=>decide (h.1=z))=some h/\ys=V.str h.2.1::ws)) ⟨rfl,Qh _,Qy _,.inl ⟨rfl,rfl⟩⟩ (λi ys H' _ h=>by rw[h.1];exact am.of Ik) ?_ ?_
  ·rintro i x ys H1 hx ⟨rfl,IG,_,hc⟩;obtain⟨hi,ex⟩:=j8 hx;subst ex;have hih:i<R.hs.length:=by rw[<-hH.1];exact hi
   obtain⟨pp,g1,g2⟩:=hH.2 i us[i] R.hs[i] (Qb hi) (Qb hih);have ul:=hH.1;rw[Qo hih,List.find?_append,List.find?_singleton];generalize R.hs[i]=h1 at g1 g2;refine⟨_,rfl,us[i],_,_,_,rfl,rfl,ao.of g1,aY (j:=0) rfl,aw 1 rfl Kr rfl ⟨rfl,_,rfl,?_⟩⟩;by_cases hz1:h1.1=z
   ·refine bS (Qn (by rw[hz1])) ⟨_,rfl,us[i],_,_,_,rfl,rfl,ao.of g1,aY (j:=1) rfl,bC (by lia),rfl,by simp;lia,hi,.inr ?_⟩;rw[Qn hz1,if_pos rfl]
    rcases hc with ⟨e1,rfl⟩|⟨h,ws,e1,rfl⟩
    ·exact⟨h1,[],by rw[e1];rfl,rfl⟩
    exact⟨h,ws++[.str h1.2.1],by rw[e1];rfl,rfl⟩
   refine cQ hz1 ⟨rfl,by lia,hi,?_⟩;rw[Qk hz1,if_neg Qz,Option.or_none];exact hc
  rintro ys H1 ⟨rfl,_,_,hc⟩ p hp0;have hz:R.hs.find? (λh=>decide (h.1=z))=some h:=hz;rw[Qg,hH.1,List.take_length,hz] at hc
  rcases hc with ⟨e1,_⟩|⟨h',ws,e1,rfl⟩
  ·cases e1
  cases e1;exact⟨p,_,_,.str h.2.1,rfl,rfl,am.of ah,aY (j:=0) rfl,kq _ (aj hp0)⟩
 refine aw 0 rfl Kr rfl ⟨rfl,_,rfl,bh (F _ _ n1) ?_⟩;refine aw 0 rfl Kr rfl ⟨rfl,_,rfl,bh (F _ _ n2) ?_⟩;dsimp only[il];refine aw 0 rfl Kr rfl ⟨gL,λpt KG=>⟨pt,kI.map V.str,rfl,.inr (ao.of ah),rfl,rfl,_,rfl,?_⟩⟩;by_cases hz:w∈kI
 ·refine bS (hV (Qn hz)) ?_;rw[if_pos hz] at kq;exact kq _ (aj KG)
 refine bh (hV (Qk hz)) ?_;rw[if_neg hz] at kq;exact kq _ (aj KG)
theorem GM(T:All P w K mg AA DD):aE P w K mg base aG 2 AA.ZJ DD.ZJ Yc (kJ 0):=by
 have no:∀vs H Q E,¬kJ 0 vs H Q E:=λvs H Q E h=>by cases h;lia
 exact T.z_ZJ.F.ok r9 (λvs H Q E h=>(no _ _ _ _ h).elim) (λHQ A outer s H vs Q E hr h=>(no _ _ _ _ h).elim)
theorem yX(T:All P w K mg AA DD):∀k:Nat,aE P w K mg base aG (k+2) AA.ZJ DD.ZJ Yc (kJ k)
 |0=>GM T
 |k+1=>GJ T k (yX T k)
noncomputable def iV(x:Int):Nat:=(x/12%4).toNat
noncomputable def cg(R:Ct)(kn:List Str)(x:Int):Ex:=cZ R kn (iV x) (bj x 5)
noncomputable def iW(R:Ct)(kn:List Str)(gv:Bool)(r:Nat)(x:Int):Option Tr:=
 if decide (x%12<4)=true then some (.set r (R.ns.getD (x/48%4).toNat "") (cg R kn x))
 else if(x%12==4)=true then some (.tell r (cg R kn x))
 else if(decide (x%12<7)&&gv)=true then some (.give r (cg R kn x))
 else if(x%12==7)=true then some (.iff r (cg R kn x) [] [])
 else if(x%12==8)=true then some (.whl r (cg R kn x) [])
 else none
theorem gI{b1 b2:Bool}{T U E:Prop}(k:b1=true->(if b2=true then T else U)->E)(h:if(b1&&b2)=true then T else U):if b1=true then E else(if false=true then T else U):=by
 cases b1
 ·rw[if_neg (by simp),if_neg (by simp)];simpa using h
 rw[if_pos rfl];exact k rfl (by simpa using h)
inductive yY (vs:List V) (H:Hp) (Q:VK) (E:XK):Prop
 |mk:∀(x:Int) (r:Nat) (a hp l:Addr) (vh:V) (gv:Bool) (ks:List (Str×Str)) (R:Ct),vs=[.int x,.int ((r:Nat):Int),.ref a,vh,.ref hp,.ref l]->H a=some (.dK (bD ks))->ks.length<=50->fQ H hp l R->((gv=false/\vh=.non)∨(gv=true/\∃q,vh=.ref q))->(iW R (ks.map (·.1)) gv r x=none->∀H',Same H H'->Q .non H')->(∀t,iW R (ks.map (·.1)) gv r x=some t->∀(u:Addr) (bs:List Addr) H',H u=none->Same H H'->dw H' u t bs->bs.length=t.nb->bs.Nodup->(∀b∈bs,H b=none/\H' b=some (.lst []))->Q (.ref u) H')->yY vs H Q E
noncomputable abbrev GP:List Str:=["_law_number","_law_at","_law_known","_law_head","_law_heads_here","_law_names_here","_law_form","_law_e"]
theorem yZ:bf GP Yg (aJ qV):=by decide +kernel
theorem GQ(T:All P w K mg AA DD):aE P w K mg base aG 6 AA.ZN DD.ZN Yg yY:=by
 have GX:=md (base:=base) T;have GE:=yR (base:=base) T 4;refine T.z_ZN.F.ok yZ (λvs H Q E h=>by cases h;subst_vars;rfl) λHQ A outer s H vs Q E hr h=>?_;obtain⟨x,r,a,hp,l,vh,gv,ks,R,rfl,ha,Jp,hR,hv,kn,kr⟩:=h;have nd:=yZ.nd;have hrE:aB 5 _:=hr;have HX:aB 1 _:=hrE.mono (by lia);refine⟨_,(aq (aQ (i:=6) nd rfl (Or.inl rfl) (aD ck (pv 0) ar)) (aq (aQ (i:=7) nd rfl (Or.inl rfl) (aO GE hrE rfl T.z_ZI (aa (aO GX HX rfl T.z_ZA (aa (pv 0) (aa ar af))) (aa (pv 2) (aa (pv 4) (aa (pv 5) (aa (aD ck (aD gO (pv 0) ar) ar) af))))))) (aq (aV (aH jI (pv 6) ar (aI _)) (ap (aN (aR (aa au (aa (pv 1) (aa (bY eF (pv 5) (aD ck (aD gO (pv 0) ar) ar) (λ_ _=>rfl)) (aa (pv 7) af))))))) be) (aq (aV (aH bi (pv 6) ar (aI _)) (ap (aN (aR (aa au (aa (pv 1) (aa (pv 7) af)))))) be) (aq (aV (PW.pt (dB (aH jI (pv 6) ar (aI _)) (fC (gn (ik (pv 3)))))) (ap (aN (aR (aa au (aa (pv 1) (aa (pv 7) af)))))) be) (aq (aV (aH bi (pv 6) ar (aI _)) (ap (aN (aR (aa au (aa (pv 1) (aa (pv 7) (aa (cb af) (aa (cb af) af)))))))) be) (aq (aV (aH bi (pv 6) ar (aI _)) (ap (aN (aR (aa au (aa (pv 1) (aa (pv 7) (aa (cb af) af))))))) be) (ap (aN gm))))))))),?_⟩;refine⟨_,rfl,_,_,rfl,rfl,(by show(0:Int)<12;decide),?_⟩;dsimp only[aP];obtain⟨d,ed,hd⟩:=fm (a:=x/12) (n:=4) (by decide);have ed:x/12%4=((d:Nat):Int):=ed;have ed2:iV x=d:=by unfold iV;rw[ed];rfl
 refine⟨_,rfl,_,_,rfl,_,rfl,_,rfl,_,rfl,_,rfl,_,_,rfl,rfl,⟨by decide,by decide⟩,_,_,rfl,rfl,(by show(0:Int)<4;decide),?_⟩;refine⟨bj x 5,a,hp,l,ks,R,d,by rw[<-ed];rfl,ha,Jp,hR,hd,λv H1 s1 hE=>?_⟩;dsimp only[aP];have ee:cZ R (ks.map (·.1)) d (bj x 5)=cg R (ks.map (·.1)) x:=by unfold cg;rw[ed2]
 rw[ee] at hE;unfold iW at kn kr;generalize cg R (ks.map (·.1)) x=e at hE kn kr;have hn9:=hR.n9;refine⟨_,rfl,_,_,rfl,rfl,_,rfl,?_⟩;refine cN (λh4=>?_) (λh4=>?_)
 ·rw[if_pos h4] at kr;obtain⟨j,ej,hj⟩:=fm (a:=x/48) (n:=4) (by decide);have ej:x/48%4=((j:Nat):Int):=ej;rw[ej,QF] at kr;refine⟨_,rfl,_,rfl,_,rfl,_,_,rfl,rfl,⟨by decide,by decide⟩,_,_,rfl,rfl,(by show(0:Int)<4;decide),l,_,_,.str (R.ns.getD j ""),rfl,rfl,am.of (s1 _ _ hR.nl),?_,_,rfl,oY,λu hu=>?_⟩
  ·show de _ (x/48%4)=_;rw[ej];exact aY (eM (by lia))
  have su:=aj (o:=.tup [.str "set",.int ((r:Nat):Int),.str (R.ns.getD j ""),v]) hu;exact kr _ rfl u [] _ (s1.free hu) (s1.trans su) ⟨[.str "set",.int ((r:Nat):Int),.str (R.ns.getD j ""),v],ah,λG g=>.cons (.s _) (.cons (.i _) (.cons (.s _) (.cons (.e ((hE.kept su.ls.1).kept g)) .nil)))⟩ rfl .nil λb hb=>by simp at hb
 rw[if_neg h4] at kn kr;refine⟨_,rfl,rfl,_,rfl,?_⟩;dsimp only;rw[gP];refine cN (λh5=>?_) (λh5=>?_)
 ·rw[if_pos h5] at kr;refine⟨_,rfl,_,rfl,gL,λu hu=>?_⟩;have su:=aj (o:=.tup [.str "tell",.int ((r:Nat):Int),v]) hu;exact kr _ rfl u [] _ (s1.free hu) (s1.trans su) ⟨[.str "tell",.int ((r:Nat):Int),v],ah,λG g=>.cons (.s _) (.cons (.i _) (.cons (.e ((hE.kept su.ls.1).kept g)) .nil))⟩ rfl .nil λb hb=>by simp at hb
 rw[if_neg h5] at kn kr;refine⟨_,rfl,_,_,rfl,rfl,_,rfl,?_⟩;refine gI (b2:=gv) (λ_ h=>?_) ?_
 ·refine⟨_,rfl,_,rfl,?_⟩
  rcases hv with ⟨rfl,rfl⟩|⟨rfl,q,rfl⟩
  ·exact bh (by rw[Qn rfl];rfl) (by simpa using h)
  exact bS (by rw[Qk λz=>nomatch z];rfl) (by simpa using h)
 refine cN (λh7=>?_) (λh7=>?_)
 ·rw[if_pos h7] at kr;refine⟨_,rfl,_,rfl,gL,λu hu=>?_⟩;have su:=aj (o:=.tup [.str "give",.int ((r:Nat):Int),v]) hu;exact kr _ rfl u [] _ (s1.free hu) (s1.trans su) ⟨[.str "give",.int ((r:Nat):Int),v],ah,λG g=>.cons (.s _) (.cons (.i _) (.cons (.e ((hE.kept su.ls.1).kept g)) .nil))⟩ rfl .nil λb hb=>by simp at hb
 rw[if_neg h7] at kn kr;refine⟨_,rfl,rfl,_,rfl,?_⟩;dsimp only;rw[gP];refine cN (λh8=>?_) (λh8=>?_)
 ·rw[if_pos h8] at kr;refine⟨_,rfl,_,rfl,cT,λb1 Jj=>⟨cT,λb2 hb2=>⟨sS,λu hu=>?_⟩⟩⟩;have t1:=aj (o:=.lst ([]:List V)) Jj;have t2:=aj (o:=.lst ([]:List V)) hb2;have su:=aj (o:=.tup [.str "if",.int ((r:Nat):Int),v,.ref b1,.ref b2]) hu;have ss:=(t1.trans t2).trans su;refine kr _ rfl u [b1,b2] _ (((s1.trans t1).trans t2).free hu) (s1.trans ss) ⟨[.str "if",.int ((r:Nat):Int),v],ah,λG g=>.cons (.s _) (.cons (.i _) (.cons (.e ((hE.kept ss.ls.1).kept g)) .nil))⟩ rfl ?_ λb hb=>?_
  ·have:b1≠b2:=λz=>by rw[<-z,ah] at hb2;cases hb2
   simp[this]
  rcases Qx hb with rfl|hb
  ·exact⟨s1.free Jj,su _ _ (t2 _ _ ah)⟩
  rw[Qj hb];exact⟨(s1.trans t1).free hb2,su _ _ ah⟩
 rw[if_neg h8] at kn kr;refine⟨_,rfl,rfl,_,rfl,?_⟩;dsimp only;rw[gP];refine cN (λh9=>?_) (λh9=>?_)
 ·rw[if_pos h9] at kr;refine⟨_,rfl,_,rfl,cT,λb1 Jj=>⟨oY,λu hu=>?_⟩⟩;have t1:=aj (o:=.lst ([]:List V)) Jj;have su:=aj (o:=.tup [.str "while",.int ((r:Nat):Int),v,.ref b1]) hu;have ss:=t1.trans su;refine kr _ rfl u [b1] _ ((s1.trans t1).free hu) (s1.trans ss) ⟨[.str "while",.int ((r:Nat):Int),v],ah,λG g=>.cons (.s _) (.cons (.i _) (.cons (.e ((hE.kept ss.ls.1).kept g)) .nil))⟩ rfl (by simp) λb hb=>?_;rw[Qj hb];exact⟨s1.free Jj,su _ _ ah⟩
 rw[if_neg h9] at kn;exact kn rfl _ s1
noncomputable def eW(k d:Str)(z:Str):List Str:=if k≠""/\k≠d then [z] else []
noncomputable def fu(R:Ct)(ks:List (Str×Str))(hk:Str)(t:Tr)(k:Str):List Str:=match t with
 |.set _ n _=>if n∈ks.map (·.1) then(if k≠""/\iU ks n≠""/\k≠iU ks n then ["kind"] else []) else []
 |.tell _ _=>if k=R.n6 then ["tell"] else []
 |.give _ _=>eW k hk "kind"
 |.iff _ _ _ _=>eW k "truth" "truth"
 |.whl _ _ _=>eW k "truth" "truth"
 |_=>[]
noncomputable def dr(R:Ct)(ks:List (Str×Str))(hk:Str)(t:Tr)(e:Ex):List Str:=aT R ks e++fu R ks hk t (aS R ks e)
noncomputable def fR(R:Ct)(ks:List (Str×Str))(t:Tr)(e:Ex):List (Str×Str):=match t with
 |.set _ n _=>if n∈ks.map (·.1) then ks else ks++[(n,aS R ks e)]
 |_=>ks
noncomputable def bE(H:Hp)(L:List Addr):Hp:=λb=>if b∈L then none else H b
theorem eB(h:bE H L b=some o):b∉L/\H b=some o:=by
 unfold bE at h;split at h
 ·cases h
 exact⟨by assumption,h⟩
theorem c8(h:b∉L)(g:H b=some o):bE H L b=some o:=by unfold bE;rw[if_neg h];exact g
theorem dJ:decide (V.str a=V.str b)=decide (a=b):=by
 by_cases h:a=b
 ·rw[Qn h,h];exact Qn rfl
 rw[Qk h];exact Qk λz=>h (by injection z)
theorem si{ks:List (Str×Str)}(h:z∉ks.map (·.1)):ks.lookup z=none:=by
 cases e:ks.lookup z with
 |none=>rfl
 |some v=>exact absurd (List.mem_map.mpr ⟨(z,v),PySem.mem_of_lookup e,rfl⟩) h
theorem y6{ks:List (Str×Str)}{n k:Str}(h:n∉ks.map (·.1)):cc (bD ks) (.inr n) (.str k)=bD (ks++[(n,k)]):=by
 unfold cc;rw[if_neg λz=>?_]
 ·unfold bD;rw[QD];rfl
 obtain⟨q,hq,e⟩:=List.any_eq_true.mp z;unfold bD at hq;obtain⟨p,hp,rfl⟩:=QJ hq;have e:=QO e;exact h (List.mem_map.mpr ⟨p,hp,by injection e⟩)
theorem y7{b1 b2 b3:Bool}{T U E1 E2:Prop}(k:(if b2=true then E2 else(if false=true then T else U))->E1)(k2:(if b3=true then T else U)->E2)(h:if((b1||b2)&&b3)=true then T else U):if b1=true then(if true=true then E2 else(if false=true then T else U)) else E1:=by
 cases b1
 ·rw[if_neg (by simp)];refine k ?_;cases b2
  ·rw[if_neg (by simp),if_neg (by simp)];simpa using h
  rw[if_pos rfl];exact k2 (by simpa using h)
 rw[if_pos rfl,if_pos rfl];exact k2 (by simpa using h)
noncomputable def kK:List Str:=["kind","field","truth","tell"]
theorem oN{k d z:Str}(h:z∈eO k d):z∈kK:=by
 unfold eO at h;split at h
 ·rw[Qj h];decide +kernel
 simp at h
mutual
theorem kL(R:Ct)(ks:List (Str×Str)):∀(e:Ex),∀z∈aT R ks e,z∈kK
 |.op w a b,z,h=>by
  rw[aT] at h;rcases Qv h with h|h<;>rcases Qv h with h|h
  ·exact kL R ks a z h
  ·exact oN h
  ·exact kL R ks b z h
  exact oN h
 |.not e,z,h=>by
  rw[aT] at h;rcases Qv h with h|h
  ·exact kL R ks e z h
  exact oN h
 |.many w n es,z,h=>by rw[aT] at h;exact wrZ_w R ks es _ z h
 |.of n e,z,h=>by
  rw[aT] at h;rcases Qv h with h|h
  ·exact kL R ks e z h
  unfold ib at h;split at h
  ·rw[Qj h];decide +kernel
  simp at h
 |.num _,z,h=>by simp[aT] at h
 |.truth _,z,h=>by simp[aT] at h
 |.name _,z,h=>by simp[aT] at h
theorem wrZ_w(R:Ct)(ks:List (Str×Str)):∀(es:List Ex) (ds:List Str),∀z∈wrZ R ks es ds,z∈kK
 | [],ds,z,h=>by simp[wrZ] at h
 |e::es,[],z,h=>by simp[wrZ] at h
 |e::es,d::ds,z,h=>by
  rw[wrZ] at h;rcases Qv h with h|h
  ·rcases Qv h with h|h
   ·exact kL R ks e z h
   exact oN h
  exact wrZ_w R ks es ds z h
end
theorem GT{t:Tr}{k z:Str}(h:z∈fu R ks hk t k):z∈kK:=by
 unfold fu eW at h
 repeat' split at h
 all_goals first|(rw[Qj h];decide +kernel)|simp at h
theorem y9(R:Ct)(ks:List (Str×Str))(hk:Str)(t:Tr)(e:Ex):∀z∈dr R ks hk t e,z∈kK:=λz h=>(Qv h).elim (kL R ks e z) GT
theorem za(P:L2.St->Hp->Prop)(h1:∀R:L2.St->Hp->Prop,(∀σ' H',P σ' H'->R σ' H')->a {D with nx:=R} σ H)(h2:∀σ' H',P σ' H'->b D σ' H'):jF a b D σ H:=h1 (b D) h2
theorem F(z1 z2:Str)(h:z1≠z2):decide (V.str z1=V.str z2)=false:=Qk λq=>h (by injection q)
structure fw(H:Hp)(a du wr:Addr)(ys:List V)(ws:List Str)(ks:List (Str×Str))(H':Hp):Prop where
 sm:Same (bE H [a,du]) H'
 ka:H' a=some (.dK (bD ks))
 dl:H' du=some (.lst ys)
 wl:H' wr=some (.lst (ws.map V.str))
theorem fw.app{ws:List Str}(h:fw H a du wr ys ws ks H')(n1:wr≠a)(n2:wr≠du)(hn:H wr=none):fw H a du wr ys (ws++[z]) ks (ag H' wr (.lst (ws.map V.str++[.str z]))):=
 ⟨λb o hb=>by rw[ay λe=>by rw[e] at hb;rw[(eB hb).2] at hn;cases hn];exact h.sm _ _ hb,by rw[ay (Ne.symm n1)];exact h.ka,by rw[ay (Ne.symm n2)];exact h.dl,by rw[ah,QD];rfl⟩
theorem fw.put(h:fw H a du wr ys ws ks H')(n1:a≠du)(n2:wr≠a):fw H a du wr ys ws KC (ag H' a (.dK (bD KC))):=
 ⟨λb o hb=>by rw[ay λe=>(eB hb).1 (by rw[e];simp)];exact h.sm _ _ hb,ah,by rw[ay (Ne.symm n1)];exact h.dl,by rw[ay n2];exact h.wl⟩
theorem GV:bootBuiltins "set"=some (.type "set"):=by decide +kernel
theorem GZ{t:Tr}{bs:List Addr}(h:dw H u t bs)(he:t.ex=some e):∃HN v,H u=some (.tup (.str t.kw::.int ((t.row:Nat):Int)::HN))/\aU H v e/\((∃r n,t=.set r n e/\HN[0]?=some (.str n)/\HN[1]?=some v)∨(t.kw≠"set"/\HN[0]?=some v)):=by
 obtain⟨vs,h1,h2⟩:=h;have h2:=h2 H λ_ _ z=>z;have ex:∀{ps:List bw} {n:Nat},t.pre=.s t.kw::.i n::.e e::ps->n=t.row->t.kw≠"set"->∃HN v,H u=some (.tup (.str t.kw::.int ((t.row:Nat):Int)::HN))/\aU H v e/\((∃r n,t=.set r n e/\HN[0]?=some (.str n)/\HN[1]?=some v)∨(t.kw≠"set"/\HN[0]?=some v)):=λ{ps n} ep en hk=>by rw[ep] at h2;obtain⟨q,e1,h2⟩:=fh h2;obtain⟨v,q2,e2,hv,h2⟩:=dy h2;exact⟨_,v,by rw[h1,e1,e2,en];rfl,n8 hv,.inr ⟨hk,rfl⟩⟩
 cases t with
 |set r n e' =>
  cases he;obtain⟨q,e1,h2⟩:=fh h2;obtain⟨a,q2,e2,ha,h2⟩:=dy h2;obtain⟨v,e3,hv⟩:=oh h2;exact⟨_,v,by rw[h1,e1,e2,e3,jl ha];rfl,hv,.inl ⟨r,n,rfl,rfl,rfl⟩⟩
 |tell r e'=>cases he;exact ex rfl rfl (by simp only[Tr.kw];decide +kernel)
 |give r e'=>cases he;exact ex rfl rfl (by simp only[Tr.kw];decide +kernel)
 |iff r e' b o=>cases he;exact ex rfl rfl (by simp only[Tr.kw];decide +kernel)
 |whl r e' b=>cases he;exact ex rfl rfl (by simp only[Tr.kw];decide +kernel)
 |_=>cases he
inductive zb (vs:List V) (H:Hp) (Q:VK) (E:XK):Prop
 |mk:∀(u a hp l du:Addr) (vh:V) (hk:Str) (ks:List (Str×Str)) (R:Ct) (t:Tr) (e:Ex) (bs:List Addr) (ys:List V) (ds:List (List ae)),vs=[.ref u,.ref a,vh,.ref hp,.ref l,.ref du]->dw H u t bs->t.ex=some e->c6 R (ks.map (·.1)) e->e.deep<5->a≠du->H a=some (.dK (bD ks))->ks.length<=50->fQ (bE H [a,du]) hp l R->R.ns.Nodup->(jo t=true->∃q z pp,vh=.ref q/\H q=some (.tup [.str z,.str hk,.ref pp]))->H du=some (.lst ys)->bA H ys ds->ds.length<=500->(dr R ks hk t e).length<=60->(∀(Ib:List V) (rs:List Str) (H':Hp),Same (bE H [a,du]) H'->H' a=some (.dK (bD (fR R ks t e)))->H' du=some (.lst Ib)->bA H' Ib (ds++rs.map (kk t.row))->rs.Pairwise (λx y=>x.cps.toList<y.cps.toList)->(∀z,z∈rs↔z∈dr R ks hk t e)->Q .non H')->zb vs H Q E
noncomputable abbrev G0:List Str:=["_law_row_here","_law_known","_law_head","_law_heads_here","_law_names_here","_law_due","_law_wrong","_law_e","_law_kind_here","_law_what"]
theorem zc:bf G0 Ye (aJ qW):=by decide +kernel
theorem G1(T:All P w K mg AA DD):aE P w K mg base aG 8 AA.ZD DD.ZD Ye zb:=by
 have GKD:=yX (base:=base) T 5;refine T.z_ZD.F.ok zc (λvs H Q E h=>by cases h;subst_vars;rfl) λHQ A outer s H vs Q E hr h=>?_;obtain⟨u,a,hp,l,du,vh,hk,ks,R,t,e,bs,ys,ds,rfl,JY,IT,hg,hd,HL,ha,Jp,hR,I0,hgv,Jr,hds,Jy,Jh,kq⟩:=h;have nd:=zc.nd;have KW:aB 7 _:=hr;have hu:=QE (Nat.add_le_add_left (show 1<=64 by decide) _) hr.units;refine⟨_,(aq (aQ (i:=6) nd rfl (Or.inl rfl) (cb af)) (aq (aQ (i:=7) nd rfl (Or.inl rfl) (kT (aH bi (av (pv 0)) au (aI _)) (av (pv 0)) (av (pv 0)))) (aq (aQ (i:=8) nd rfl (Or.inl rfl) (aO GKD KW rfl T.z_ZJ (aa (pv 7) (aa (pv 1) (aa (pv 3) (aa (pv 4) (aa (pv 6) af))))))) (aq (aV (aH bi (av (pv 0)) au (aI _)) (ap (aV (gn (BS hu (av (pv 0)) (pv 1))) (ap (lr hu (pv 1) (av (pv 0)) (pv 8) rfl)) (ap (aV (PW.pt (dB (aH dN (pv 8) au (aI _)) (dB (aH dN (lq hu (pv 1) (av (pv 0)) (λ_ _=>rfl)) au (aI _)) (fC (aH dN (pv 8) (lq hu (pv 1) (av (pv 0)) (λ_ _=>rfl)) (aI _)))))) (ap (bF (gc (pv 6) (aa au af)) (by rfl))) be)))) be) (aq (aV (PW.pt (dB (PW.pt (jE (aH bi (av (pv 0)) au (aI _)) (jD (aH bi (av (pv 0)) au (aI _))))) (dB (aH dN (pv 8) au (aI _)) (fC (aH dN (pv 8) au (aI _)))))) (ap (bF (gc (pv 6) (aa au af)) (by rfl))) be) (aq (aV (PW.pt (dB (aH bi (av (pv 0)) au (aI _)) (fC (aH bi (pv 8) (j9 (pv 4)) (aI _))))) (ap (bF (gc (pv 6) (aa au af)) (by rfl))) be) (aq (aV (PW.pt (dB (aH bi (av (pv 0)) au (aI _)) (dB (aH dN (pv 8) au (aI _)) (fC (aH dN (pv 8) (av (pv 2)) (aI _)))))) (ap (bF (gc (pv 6) (aa au af)) (by rfl))) be) (ap (dC PassesOwn.never rfl (cG (dO (Eg rfl) rfl T.n_sorted qr (aa (ix (DU (K:=K) rfl rfl) rfl T.n_set GV (aa (pv 6) af)) af))) (ba (i:=9) nd rfl (Or.inl rfl)) (ap (bF (gc (pv 5) (aa (aR (aa (av (pv 0)) (aa (pv 9) af))) af)) (by rfl))) (by intro _;rfl)))))))))),?_⟩
 have Kq:∀{b:Addr} {xs:List V},H b=some (.tup xs)->b∉[a,du]:=λ{b xs} hb z=>by
  rcases Qx z with z|z
  ·rw[z,ha] at hb;cases hb
  rw[Qj z,Jr] at hb;cases hb
 obtain⟨HN,v,JW,hv,hcase⟩:=GZ JY IT;refine⟨cT,λwr hwr=>?_⟩;dsimp only[aP];have s1:=aj (o:=.lst ([]:List V)) hwr;have hw1:ag H wr (.lst ([]:List V)) wr=some (.lst (([]:List Str).map V.str)):=ah;have sof:∀{G:Hp},Same (off (ag H wr (.lst ([]:List V))) wr) G->Same H G:=λs b o hb=>s _ _ (by rw[kF (λz=>by rw[z,hwr] at hb;cases hb)];exact s1 _ _ hb);have hsm:Same H (off (ag H wr (.lst ([]:List V))) wr):=sof (Same.refl _);have hu2:=s1 _ _ JW;have hv2:=hv.kept s1.ls.1;have ha2:=hsm _ _ ha;have KJ:Same (bE H [a,du]) H:=λb o hb=>(eB hb).2;have hR2:=(hR.same KJ).same hsm;generalize ag H wr (.lst ([]:List V))=H1 at s1 hw1 sof hsm hu2 hv2 ha2 hR2 ⊢;have hwl1:(aT R ks e).length<=60:=by unfold dr at Jh;rw[Qi] at Jh;lia
 refine za (λσ' H'=>H'=H1/\σ'=[some (.ref u),some (.ref a),some vh,some (.ref hp),some (.ref l),some (.ref du),some (.ref wr),some v,none,none]) (λRR HP=>?_) ?_
 ·refine aw 0 rfl hu2 rfl ⟨rfl,_,rfl,?_⟩
  rcases hcase with ⟨r,n,rfl,r0,r1⟩|⟨hk,r0⟩
  ·exact dW ⟨_,rfl,u,_,_,_,rfl,rfl,ao.of hu2,aY (j:=3) r1,HP _ _ ⟨rfl,rfl⟩⟩
  exact bh (F _ _ hk) ⟨_,rfl,u,_,_,_,rfl,rfl,ao.of hu2,aY (j:=2) r0,HP _ _ ⟨rfl,rfl⟩⟩
 rintro σ' H' ⟨rfl,rfl⟩;refine⟨_,rfl,_,rfl,_,rfl,_,rfl,_,rfl,v,e,a,hp,l,wr,ks,R,[],rfl,hv2,hg,ha2,hR2,I0,hw1,by rw[List.length_nil];lia,hd,λH2 s2 hw2=>?_⟩;dsimp only[aP];have s02:=sof s2;have hwa:wr≠a:=λz=>by rw[z,ha] at hwr;cases hwr
 have hwd:wr≠du:=λz=>by rw[z,Jr] at hwr;cases hwr
 have IE:fw H a du wr ys (aT R ks e) ks H2:=⟨λb o hb=>s02 _ _ (KJ _ _ hb),s02 _ _ ha,s02 _ _ Jr,hw2⟩
 have uat:∀{ws KC} {G:Hp},fw H a du wr ys ws KC G->G u=some (.tup (.str t.kw::.int ((t.row:Nat):Int)::HN)):=λh=>h.sm _ _ (c8 (Kq JW) JW);have Kb:=Jh;unfold dr at Kb;rw[Qi] at Kb;generalize JJ:aS R ks e=kd at Kb;refine gU (λσ' H'=>σ'=[some (.ref u),some (.ref a),some vh,some (.ref hp),some (.ref l),some (.ref du),some (.ref wr),some v,some (.str kd),none]/\fw H a du wr ys (aT R ks e++(if t.kw="set" then fu R ks hk t kd else [])) (fR R ks t e) H') (λRR HP=>?_) ?_
 ·refine aw 0 rfl (uat IE) rfl ⟨rfl,_,rfl,?_⟩
  rcases hcase with ⟨r,n,rfl,r0,r1⟩|⟨HU,r0⟩
  ·refine dW ⟨_,rfl,u,_,_,_,rfl,rfl,ao.of (uat IE),aY (j:=2) r0,_,rfl,a,_,rfl,b9.k (k:=.inr n) IE.ka,_,rfl,?_⟩;have HU:(Tr.set r n e).kw="set":=rfl;rw[if_pos HU] at HP;unfold fR at HP;unfold fu at HP Kb;dsimp only at HP Kb;by_cases hn:n∈ks.map (·.1)
   ·obtain⟨k0,Jq⟩:=mj hn;have IH:aZ (bD ks) (.inr n)=some (.str k0):=by rw[oM,Jq];rfl
    have hlk:iU ks n=k0:=by unfold iU;rw[Jq];rfl
    rw[if_pos hn,if_pos hn,hlk] at HP;rw[if_pos hn,hlk] at Kb;refine bh (by rw[IH];rfl) ?_;refine⟨_,rfl,rfl,_,rfl,?_⟩;refine gI (b2:=!decide (k0="")&&!decide (kd=k0)) (λ_ h=>?_) ?_
    ·refine⟨_,rfl,_,rfl,u,_,_,_,rfl,rfl,ao.of (uat IE),aY (j:=2) r0,a,.str k0,rfl,by rw[<-IH];exact b9.k (k:=.inr n) IE.ka,rfl,_,rfl,?_⟩;rw[dJ];refine gI (b2:=!decide (kd=k0)) (λ_ h=>?_) h;refine⟨_,rfl,_,rfl,_,rfl,u,_,_,_,rfl,rfl,ao.of (uat IE),aY (j:=2) r0,a,.str k0,rfl,by rw[<-IH];exact b9.k (k:=.inr n) IE.ka,rfl,_,rfl,?_⟩;rw[dJ];exact h
    rw[dJ];refine cN (λhc=>?_) (λhc=>?_)
    ·rw[if_pos (by simpa using hc)] at HP Kb;exact⟨_,rfl,.inl ⟨rfl,_,am.of IE.wl⟩,wr,_,_,rfl,rfl,IE.wl,bC (by rw[Qg];lia),HP _ _ ⟨rfl,IE.app hwa hwd hwr⟩⟩
    rw[if_neg (by simpa using hc),QA] at HP;exact HP _ _ ⟨rfl,IE⟩
   have IH:aZ (bD ks) (.inr n)=none:=by rw[oM,si hn];rfl
   rw[if_neg hn,if_neg hn,QA] at HP;refine bS (by rw[IH];rfl) ?_;refine⟨_,rfl,_,rfl,_,rfl,u,_,_,_,rfl,rfl,ao.of (uat IE),aY (j:=2) r0,a,_,rfl,fc.k (k:=.inr n) IE.ka (bC ?_),HP _ _ ⟨rfl,?_⟩⟩
   ·unfold bD;rw[Qg];lia
   rw[y6 hn,JJ];exact IE.put HL hwa
  refine bh (F _ _ HU) (HP _ _ ⟨rfl,?_⟩);rw[if_neg HU,QA]
  have e1:fR R ks t e=ks:=by
   cases t with
   |set r n e'=>exact absurd rfl HU
   |_=>rfl
  rw[e1];exact IE
 rintro σ' H3 ⟨rfl,Ka⟩;have KI:∀{ws KC} {G:Hp},fw H a du wr ys ws KC G->G l=some (.lst (R.ns.map V.str)):=λh=>h.sm _ _ hR.nl;have hn9:=hR.n9;generalize fR R ks t e=ks1 at Ka kq;refine gU (λσ' H'=>σ'=[some (.ref u),some (.ref a),some vh,some (.ref hp),some (.ref l),some (.ref du),some (.ref wr),some v,some (.str kd),none]/\fw H a du wr ys (aT R ks e++(if t.kw="set"∨t.kw="if"∨t.kw="while" then fu R ks hk t kd else [])) ks1 H') (λRR HP=>?_) ?_
 ·refine aw 0 rfl (uat Ka) rfl ⟨rfl,_,rfl,?_⟩;rw[dJ];refine y7 (b2:=decide (t.kw="while")) (b3:=!decide (kd="")&&!decide (kd="truth")) (λh=>(aw 0 rfl (uat Ka) rfl ⟨rfl,_,rfl,by rw[dJ];exact h⟩)) (λh=>⟨_,rfl,rfl,_,rfl,by rw[dJ];exact gI (b2:=!decide (kd="truth")) (λ_ h=>⟨_,rfl,rfl,_,rfl,by rw[dJ];exact h⟩) h⟩) ?_;by_cases hw:t.kw="if"∨t.kw="while"
  ·have hns:t.kw≠"set":=by rcases hw with h|h<;>rw[h]<;>decide +kernel
   have ewM:fu R ks hk t kd=eW kd "truth" "truth":=by
    cases t with
    |iff r e' b o=>rfl
    |whl r e' b=>rfl
    |_=>rcases hw with h|h<;>exact absurd h (by simp only[Tr.kw];decide +kernel)
   rw[if_neg hns,QA] at Ka;rw[if_pos (.inr hw),ewM] at HP;rw[ewM] at Kb;unfold eW at HP Kb;refine cN (λhc=>?_) (λhc=>?_)
   ·rw[if_pos (by rw[QL] at hc;simpa using hc.2)] at HP Kb;exact⟨_,rfl,.inl ⟨rfl,_,am.of Ka.wl⟩,wr,_,_,rfl,rfl,Ka.wl,bC (by rw[Qg];lia),HP _ _ ⟨rfl,Ka.app hwa hwd hwr⟩⟩
   rw[if_neg (λz=>hc (by rw[QL];exact⟨by simpa using hw,by simpa using z⟩)),QA] at HP;exact HP _ _ ⟨rfl,Ka⟩
  refine bh (by simp only[not_or] at hw;simp[hw.1,hw.2]) (HP _ _ ⟨rfl,?_⟩)
  have:(t.kw="set"∨t.kw="if"∨t.kw="while")↔t.kw="set":=⟨λz=>z.resolve_right hw,.inl⟩
  simp only[this];exact Ka
 rintro σ' H4 ⟨rfl,Kh⟩;clear Ka;refine gU (λσ' H'=>σ'=[some (.ref u),some (.ref a),some vh,some (.ref hp),some (.ref l),some (.ref du),some (.ref wr),some v,some (.str kd),none]/\fw H a du wr ys (aT R ks e++(if t.kw≠"give" then fu R ks hk t kd else [])) ks1 H') (λRR HP=>?_) ?_
 ·refine aw 0 rfl (uat Kh) rfl ⟨rfl,_,rfl,?_⟩;rw[dJ];refine gI (b2:=decide (kd=R.n6)) (λ_ h=>⟨_,rfl,_,rfl,l,_,_,.str R.n6,rfl,rfl,am.of (KI Kh),aY (j:=6) (eM (by lia)),rfl,_,rfl,by rw[dJ];exact h⟩) ?_;by_cases hw:t.kw="tell"
  ·have ewM:fu R ks hk t kd=(if kd=R.n6 then ["tell"] else []:List Str):=by
    cases t with
    |tell r e'=>rfl
    |_=>exact absurd hw (by simp only[Tr.kw];decide +kernel)
   rw[if_neg (by rw[hw];decide +kernel),QA] at Kh;rw[if_pos (by rw[hw];decide +kernel),ewM] at HP;rw[ewM] at Kb;refine cN (λhc=>?_) (λhc=>?_)
   ·rw[if_pos (by rw[QL] at hc;simpa using hc.2)] at HP Kb;exact⟨_,rfl,.inl ⟨rfl,_,am.of Kh.wl⟩,wr,_,_,rfl,rfl,Kh.wl,bC (by rw[Qg];lia),HP _ _ ⟨rfl,Kh.app hwa hwd hwr⟩⟩
   rw[if_neg (λz=>hc (by rw[QL];exact⟨Qn hw,Qn z⟩)),QA] at HP;exact HP _ _ ⟨rfl,Kh⟩
  refine bh (by simp[hw]) (HP _ _ ⟨rfl,?_⟩);by_cases hw2:t.kw="give"
  ·rw[if_neg (λz=>z hw2)];rw[if_neg (by rw[hw2];decide +kernel)] at Kh;exact Kh
  rw[if_pos hw2]
  rw[if_pos (by
   cases t with
   |set r n e'=>exact .inl rfl
   |iff r e' b o=>exact .inr (.inl rfl)
   |whl r e' b=>exact .inr (.inr rfl)
   |tell r e'=>exact absurd rfl hw
   |give r e'=>exact absurd rfl hw2
   |df r n k ps b=>cases IT
   |kd r n ps=>cases IT)] at Kh
  exact Kh
 rintro σ' H5 ⟨rfl,hS5⟩;clear Kh;refine gU (λσ' H'=>σ'=[some (.ref u),some (.ref a),some vh,some (.ref hp),some (.ref l),some (.ref du),some (.ref wr),some v,some (.str kd),none]/\fw H a du wr ys (dr R ks hk t e) ks1 H') (λRR HP=>?_) ?_
 ·have ewN:dr R ks hk t e=aT R ks e++fu R ks hk t kd:=by unfold dr;rw[JJ]
  rw[ewN] at HP;refine aw 0 rfl (uat hS5) rfl ⟨rfl,_,rfl,?_⟩;rw[dJ];by_cases hw:t.kw="give"
  ·have hgi:jo t=true/\fu R ks hk t kd=eW kd hk "kind":=by
    cases t with
    |give r e'=>exact⟨rfl,rfl⟩
    |_=>exact absurd hw (by simp only[Tr.kw];decide +kernel)
   obtain⟨q,z,pp,rfl,hq⟩:=hgv hgi.1;have hq5:=hS5.sm _ _ (c8 (Kq hq) hq);rw[hgi.2] at HP Kb;unfold eW at HP Kb;rw[if_neg (λz=>z hw),QA] at hS5;refine gI (b2:=!decide (kd="")&&!decide (kd=hk)) (λ_ h=>⟨_,rfl,rfl,_,rfl,by rw[dJ];exact gI (b2:=!decide (kd=hk)) (λ_ h=>⟨_,rfl,aw 1 rfl hq5 rfl ⟨rfl,_,rfl,by rw[dJ];exact h⟩⟩) h⟩) ?_;refine cN (λhc=>?_) (λhc=>?_)
   ·rw[if_pos (by rw[QL] at hc;simpa using hc.2)] at HP Kb;exact⟨_,rfl,.inl ⟨rfl,_,am.of hS5.wl⟩,wr,_,_,rfl,rfl,hS5.wl,bC (by rw[Qg];lia),HP _ _ ⟨rfl,hS5.app hwa hwd hwr⟩⟩
   rw[if_neg (λz=>hc (by rw[QL];exact⟨Qn hw,by simpa using z⟩)),QA] at HP;exact HP _ _ ⟨rfl,hS5⟩
  refine bh (Qk hw) (eD (HP _ _ ⟨rfl,?_⟩));rw[if_pos hw] at hS5;exact hS5
 rintro σ' H6 ⟨rfl,hS6⟩;clear hS5;have hw4:=y9 R ks hk t e;generalize dr R ks hk t e=ws at hS6 kq Jh hw4;refine⟨_,rfl,wr,ws,rfl,am.of hS6.wl,by lia,λq0 hq0=>?_⟩;generalize hX:nC _ _ q0 (iL ws)=so;have sq:=aj (o:=so) hq0;refine⟨q0,iL ws,rfl,by rw[ah,<-hX],Ej ws,by have:=El ws;lia,λpr rs hpr hrp hrm=>?_⟩;have spr:=sq.trans (aj (o:=.lst (rs.map V.str)) hpr);have hrm':∀z,z∈rs↔z∈ws:=λz=>(hrm z).trans (Ek ws z);have hrn:rs.Nodup:=hrp.imp λh e=>by rw[e] at h;exact absurd h (List.lt_irrefl _)
 have hr4:rs.length<=4:=hrn.length_le_of_subset λz hz=>hw4 z ((hrm' z).mp hz);have hprd:pr≠du:=λz=>by rw[z,sq _ _ hS6.dl] at hpr;cases hpr
 have hpr7:ag (ag H6 q0 so) pr (.lst (rs.map V.str)) pr=some (.lst (rs.map V.str)):=ah;have S7:Same (bE H [a,du]) (ag (ag H6 q0 so) pr (.lst (rs.map V.str))):=hS6.sm.trans spr;have a7:=spr _ _ hS6.ka;have d7:=spr _ _ hS6.dl;generalize ag (ag H6 q0 so) pr (.lst (rs.map V.str))=H7 at hpr7 S7 a7 d7 ⊢;have tpk:∀{G:Hp},Same (bE H [a,du]) G->eG H G:=λs b xs hb=>s _ _ (c8 (Kq hb) hb);refine⟨pr,rfl,⟨_,am.of hpr7⟩,?_⟩;refine nz (K:=K0) (a:=pr) (xs:=rs.map V.str) (λm σ' H'=>Same (bE H [a,du]) H'/\H' a=some (.dK (bD ks1))/\H' pr=some (.lst (rs.map V.str))/\(∃Ib,H' du=some (.lst Ib)/\bA H' Ib (ds++(rs.take m).map (kk t.row)))/\∃x9,σ'=[some (.ref u),some (.ref a),some vh,some (.ref hp),some (.ref l),some (.ref du),some (.ref wr),some v,some (.str kd),x9]) ⟨S7,a7,hpr7,⟨ys,d7,by rw[List.take_zero,List.map_nil,QA];exact dH hds (tpk S7)⟩,_,rfl⟩ (λm σ' H' _ h=>am.of h.2.2.1) ?_ ?_
 ·rintro m y σ' H8 hy ⟨S8,a8,p8,⟨Ib,d8,T8⟩,x9,rfl⟩ D1 hN;obtain⟨hm,ey⟩:=j8 hy;subst ey;have IG:=T8.1;rw[Qi,Qg,QH] at IG;refine⟨_,rfl,.inl ⟨rfl,_,am.of d8⟩,aw 1 rfl (tpk S8 _ _ JW) rfl ⟨_,rfl,bg,λt2 Iv=>?_⟩⟩;have st:=aj (o:=.tup ((kk t.row rs[m]).map kV)) Iv;refine⟨du,Ib,_,rfl,rfl,st _ _ d8,bC (by lia),hN _ _ ⟨λb o hb=>?_,?_,?_,⟨_,ah,?_⟩,_,rfl⟩⟩
  ·rw[ay λz=>(eB hb).1 (by rw[z];simp)];exact st _ _ (S8 _ _ hb)
  ·rw[ay HL];exact st _ _ a8
  ·rw[ay hprd];exact st _ _ p8
  have tk:eG (ag H8 t2 (.tup ((kk t.row rs[m]).map kV))) (ag (ag H8 t2 (.tup ((kk t.row rs[m]).map kV))) du (.lst (Ib++[.ref t2]))):=fun b xs hb=>by
   rw[ay λz=>by rw[z,st _ _ d8] at hb;cases hb];exact hb
  rw[Qo hm,QD,<-QX];exact oz (dH (dH T8 st.tups) tk) (oA (tk _ _ ah))
 rintro σ' H8 ⟨S8,a8,p8,⟨Ib,d8,T8⟩,x9,rfl⟩;rw[Qg,List.take_length] at T8;exact kq Ib rs H8 S8 a8 d8 T8 hrp hrm'
noncomputable def bo(k:Str):Kd:=if k="" then none else some k
noncomputable def a9(ks:List (Str×Str)):Env:=λz=>(ks.lookup z).map bo
noncomputable def eP(R:Ct):List Str:=["","num","truth",R.n6]
structure gJ(R:Ct):Prop where
 n78:R.ns.getD 7 ""≠R.ns.getD 8 ""
 n6:R.n6≠""/\R.n6≠"num"/\R.n6≠"truth"
 hk:∀h∈R.hs,h.2.1∈eP R/\h.2.1≠""
structure ic(R:Ct)(tt:List Tr):Prop where
 k6:∃t,bG ("kind",R.n6) tt=some t/\t.prs=([(R.ns.getD 7 "","num"),(R.ns.getD 8 "","truth")]:List (Str×Str))
 kn:∀z,z≠R.n6->bG ("kind",z) tt=none
 df:∀z h,R.find z=some h->∃t,bG ("def",z) tt=some t/\t.knd=h.2.1/\t.prs=h.2.2
theorem fz{k:Str}(h:k≠""):bo k=some k:=if_neg h
theorem zd{R:Ct}(e:R.find z=some h):h∈R.hs:=List.mem_of_find?_eq_some e
theorem ze:∀w∈eN,(kz.lookup w).getD "num"=(if w∈kI then "num" else "truth":Str)/\(kB.lookup w).getD "truth"=dI w:=by decide +kernel
theorem zf{R:Ct}(hO:gJ R)(hT:ic R tt)(hn:n=R.ns.getD 7 ""∨n=R.ns.getD 8 "")(k:Str):dZ tt (bo k) n=bo (if k=R.n6 then gH R n else ""):=by
 by_cases h6:k=R.n6
 ·subst h6;obtain⟨t,e1,e2⟩:=hT.k6;rw[fz hO.n6.1,if_pos rfl];show(match bG ("kind",R.n6) tt with|none=>none|some t=>gh t.prs n)=_;rw[e1];show gh t.prs n=_;rw[e2];unfold gh gH;simp only[List.foldl_cons,List.foldl_nil];rcases hn with rfl|rfl
  ·rw[if_neg (Ne.symm hO.n78),if_pos rfl,if_pos rfl];rfl
  rw[if_pos rfl,if_neg (Ne.symm hO.n78)];rfl
 rw[if_neg h6];unfold bo;rw[if_pos rfl];split
 ·rfl
 show(match bG ("kind",k) tt with|none=>none|some t=>gh t.prs n)=_;rw[hT.kn k h6]
theorem ju{R:Ct}{tt:List Tr}(hO:gJ R)(hT:ic R tt){ks:List (Str×Str)}:∀{e:Ex},c6 R (ks.map (·.1)) e->cA tt (a9 ks) e=some (bo (aS R ks e))
 |.num _,_=>rfl
 |.truth _,_=>rfl
 |.not _,_=>rfl
 |.op w a b,h=>by show some (some ((kz.lookup w).getD "num"))=some (bo (if w∈kI then "num" else "truth"));rw[(ze w h.1).1,fz (by split<;>decide)]
 |.name z,h=>by obtain⟨k0,hk⟩:=mj h;show(ks.lookup z).map bo=some (bo ((ks.lookup z).getD ""));rw[hk];rfl
 |.of n e,h=>by show(cA tt (a9 ks) e).map (λk=>dZ tt k n)=some (bo (if aS R ks e=R.n6 then gH R n else ""));rw[ju hO hT h.2,<-zf hO hT h.1];rfl
 |.many w z es,h=>by
  show(bG (dn w,z) tt).map (λt=>some (if w="do" then t.knd else z))=some (bo (if w="new" then z else((R.find z).map λh=>h.2.1).getD ""))
  rcases h.1 with ⟨rfl,rfl,_⟩|⟨rfl,hh,e1,_⟩
  ·obtain⟨t,e1,_⟩:=hT.k6;rw[lZ,e1,if_pos rfl,fz hO.n6.1];show some (some (if("new":Str)="do" then _ else R.n6))=_;rw[if_neg (by decide)]
  obtain⟨t,e2,e3,_⟩:=hT.df z hh e1;rw[lY,e2,if_neg (by decide),e1];show some (some (if("do":Str)="do" then t.knd else z))=some (bo hh.2.1);rw[if_pos rfl,e3,fz (hO.hk hh (zd e1)).2]
def kM(R:Ct)(ks:List (Str×Str)):Prop:=∀p∈ks,p.2∈eP R
theorem zg{R:Ct}(hO:gJ R){ks:List (Str×Str)}(hk:kM R ks):∀{e:Ex},c6 R (ks.map (·.1)) e->aS R ks e∈eP R
 |.num _,_=>by simp[aS,eP]
 |.truth _,_=>by simp[aS,eP]
 |.not _,_=>by simp[aS,eP]
 |.op w a b,h=>by rw[aS];split<;>simp[eP]
 |.name z,h=>by obtain⟨k0,e⟩:=mj h;show(ks.lookup z).getD ""∈eP R;rw[e];exact hk _ (PySem.mem_of_lookup e)
 |.of n e,h=>by
  rw[aS];split
  ·unfold gH;split<;>simp[eP]
  simp[eP]
 |.many w z es,h=>by
  rw[aS]
  rcases h.1 with ⟨rfl,rfl,_⟩|⟨rfl,hh,e1,_⟩
  ·rw[if_pos rfl];simp[eP]
  rw[if_neg (by decide),e1];exact(hO.hk hh (zd e1)).1
theorem ml{fs:List (List ae)}{c k:List ae}:k∈cf fs c↔k∈fs∨k=c:=by
 unfold cf;split
 ·rename_i h;obtain⟨d,hd,e⟩:=List.any_eq_true.mp h;have e:=QO e;subst e;exact⟨.inl,λq=>q.elim id λz=>by rw[z];exact hd⟩
 simp
def bM(r:Nat)(ws:List Str)(k:List ae):Prop:=∃z∈ws,k=kk r z
theorem fS{k:List ae}:bM r (a++b) k↔bM r a k∨bM r b k:=by
 constructor
 ·rintro⟨z,hz,e⟩
  exact(Qv hz).imp (λh=>⟨z,h,e⟩) λh=>⟨z,h,e⟩
 rintro (⟨z,hz,e⟩|⟨z,hz,e⟩)
 ·exact⟨z,QQ _ hz,e⟩
 exact⟨z,Qu _ hz,e⟩
theorem oO(x HZ:Str):dz [bo x] HZ=0↔¬(x≠""/\x≠HZ):=by
 unfold dz bo;by_cases h:x=""
 ·simp[h,fits]
 by_cases h2:x=HZ<;>simp[h,h2,fits]
theorem mm{fs:List (List ae)}{k:List ae}:k∈eK r (some (bo x)) HZ fs↔k∈fs∨bM r (eO x HZ) k:=by
 unfold eK eO;show k∈(if dz [bo x] HZ=0 then fs else _)↔_;by_cases h:x≠""/\x≠HZ
 ·rw[if_neg (λz=>(oO x HZ).mp z h),if_pos h,ml];unfold bM;simp
 rw[if_pos ((oO x HZ).mpr h),if_neg h];unfold bM;simp
theorem sj{fs:List (List ae)}{k:List ae}:k∈fj r (some (bo x)) KQ HZ fs↔k∈fs∨bM r (eW x HZ KQ) k:=by
 unfold fj eW;show k∈(if dz [bo x] HZ=0 then fs else _)↔_;by_cases h:x≠""/\x≠HZ
 ·rw[if_neg (λz=>(oO x HZ).mp z h),if_pos h,ml];unfold bM;simp
 rw[if_pos ((oO x HZ).mpr h),if_neg h];unfold bM;simp
theorem G2{R:Ct}(hO:gJ R)(hT:ic R tt)(hn:n=R.ns.getD 7 ""∨n=R.ns.getD 8 ""){fs:List (List ae)}{k:List ae}:k∈l0 tt r (some (bo x)) n fs↔k∈fs∨bM r (ib R x) k:=by
 unfold l0 kD ib;dsimp only;by_cases h0:x=""
 ·rw[if_neg λz=>z.2 h0];unfold bo;rw[if_pos h0];unfold bM;simp
 have hx:=zf hO hT hn x;rw[fz h0] at hx ⊢;dsimp only;by_cases h6:x=R.n6
 ·rw[if_pos h6] at hx
  have h1:¬(dZ tt (some x) n=none):=by rw[hx];unfold gH;split<;>(rw[fz (by decide)];simp)
  have h2:¬(x≠R.n6/\x≠""):=λz=>z.1 h6;rw[if_neg h1,if_neg h2];unfold bM;simp
 rw[if_neg h6] at hx;have h1:dZ tt (some x) n=none:=by rw[hx];exact if_pos rfl
 have h2:x≠R.n6/\x≠"":=⟨h6,h0⟩
 rw[if_pos h1,if_pos h2,ml];unfold bM;simp
mutual
theorem gK(hO:gJ R)(hT:ic R tt){ks:List (Str×Str)}{k:List ae}:∀{e:Ex},c6 R (ks.map (·.1)) e->∀{fs:List (List ae)},k∈aW tt (a9 ks) r e fs↔k∈fs∨bM r (aT R ks e) k
 |.num _,_,fs=>by rw[aW,aT];unfold bM;simp
 |.truth _,_,fs=>by rw[aW,aT];unfold bM;simp
 |.name _,_,fs=>by rw[aW,aT];unfold bM;simp
 |.not e,h,fs=>by rw[aW,aT,ju hO hT (e:=e) h,mm,gK hO hT (e:=e) h,fS,or_assoc]
 |.of n e,h,fs=>by rw[aW,aT,ju hO hT h.2,G2 hO hT h.1,gK hO hT h.2,fS,or_assoc]
 |.op w a b,h,fs=>by have ea:gC (.op w a b)=dI w:=(ze w h.1).2;rw[aW,aT,ju hO hT h.2.1,ju hO hT h.2.2,ea,mm,gK hO hT h.2.2,mm,gK hO hT h.2.1,fS,fS,fS];simp only[or_assoc]
 |.many w z es,h,fs=>by
  rw[aW,aT]
  rcases h.1 with ⟨rfl,rfl,_⟩|⟨rfl,hh,e1,_⟩
  ·obtain⟨t,e1,e2⟩:=hT.k6;rw[lZ,e1,if_pos rfl];show k∈kfZ tt (a9 ks) r es t.prs fs↔_;rw[e2];exact wrZ_eq hO hT h.2
  obtain⟨t,e2,_,e4⟩:=hT.df z hh e1;rw[lY,e2,if_neg (by decide),e1];show k∈kfZ tt (a9 ks) r es t.prs fs↔_;rw[e4];exact wrZ_eq hO hT h.2
theorem wrZ_eq(hO:gJ R)(hT:ic R tt){ks:List (Str×Str)}{k:List ae}:∀{es:List Ex},mh R (ks.map (·.1)) es->∀{qs:List (Str×Str)} {fs:List (List ae)},k∈kfZ tt (a9 ks) r es qs fs↔k∈fs∨bM r (wrZ R ks es (qs.map (·.2))) k
 | [],_,qs,fs=>by rw[kfZ,wrZ];unfold bM;simp
 |e::es,h,[],fs=>by rw[kfZ,List.map_nil,wrZ];unfold bM;simp
 |e::es,h,q::qs,fs=>by rw[kfZ,List.map_cons,wrZ,wrZ_eq hO hT h.2,ju hO hT h.1,mm,gK hO hT h.1,fS,fS];simp only[or_assoc]
end
theorem zh{ks:List (Str×Str)}{n:Str}(h:n∈ks.map (·.1)):a9 ks n=some (bo (iU ks n)):=by obtain⟨k0,e⟩:=mj h;show(ks.lookup n).map bo=some (bo ((ks.lookup n).getD ""));rw[e];rfl
theorem G3{ks:List (Str×Str)}{n k:Str}:gF (a9 ks) n (some (bo k))=a9 (if n∈ks.map (·.1) then ks else ks++[(n,k)]):=by
 funext x;unfold gF;by_cases hn:n∈ks.map (·.1)
 ·rw[if_pos hn];split
  ·rename_i e;rw[e,zh hn]
  rfl
 rw[if_neg hn];have e0:ks.lookup n=none:=si hn;show(if x=n then(match (ks.lookup n).map bo with|some k0=>some k0|none=>some (bo k)) else(ks.lookup x).map bo)=((ks++[(n,k)]).lookup x).map bo;rw[e0,List.lookup_append];by_cases hx:x=n
 ·rw[if_pos hx,hx,e0];simp
 rw[if_neg hx];have:List.lookup x [(n,k)]=none:=by show(match x==n with|true=>some k|false=>none)=none;rw[beq_eq_false_iff_ne.mpr hx]
 rw[this,Option.or_none]
theorem G4(hO:gJ R)(hT:ic R tt){ks:List (Str×Str)}(hk:kM R ks){t:Tr}(IT:t.ex=some e)(hg:c6 R (ks.map (·.1)) e){hd:Str}(Jr:jo t=true->du=some hd)(fs:List (List ae)) :
  (bN tt du t e (a9 ks,fs)).1=a9 (fR R ks t e)/\∀k,k∈(bN tt du t e (a9 ks,fs)).2↔k∈fs∨bM t.row (dr R ks hd t e) k:=by
 unfold bN dr;dsimp only;rw[ju hO hT hg];have KJ:aS R ks e∈(""::"num"::"truth"::R.n6::[]:List Str):=zg hO hk hg
 cases t with
 |set r n e' =>
  refine⟨G3,λk=>?_⟩;show k∈iR r (a9 ks) n (some (bo (aS R ks e))) (aW tt (a9 ks) r e fs)↔k∈fs∨bM r (aT R ks e++(if n∈ks.map (·.1) then _ else [])) k;rw[fS,<-or_assoc,<-gK hO hT hg];generalize aW tt (a9 ks) r e fs=gs;unfold iR;by_cases h0:aS R ks e=""
  ·have:bo (aS R ks e)=none:=if_pos h0;rw[this];simp only[h0,ne_eq,not_true_eq_false,false_and,if_false,ite_self];unfold bM;simp
  rw[fz h0];show k∈eK r (a9 ks n) (aS R ks e) gs↔_;by_cases hn:n∈ks.map (·.1)
  ·rw[zh hn,mm,if_pos hn];unfold eO;by_cases h1:iU ks n≠""/\iU ks n≠aS R ks e
   ·rw[if_pos h1,if_pos ⟨h0,h1.1,Ne.symm h1.2⟩]
   rw[if_neg h1,if_neg λz=>h1 ⟨z.2.1,Ne.symm z.2.2⟩]
  rw[if_neg hn];have:a9 ks n=none:=by show(ks.lookup n).map bo=none;rw[si hn];rfl
  rw[this];unfold bM;simp[eK,dz]
 |tell r e' =>
  refine⟨rfl,λk=>?_⟩;show k∈hW r (some (bo (aS R ks e))) (aW tt (a9 ks) r e fs)↔k∈fs∨bM r (aT R ks e++(if aS R ks e=R.n6 then ["tell"] else []:List Str)) k;rw[fS,<-or_assoc,<-gK hO hT hg];generalize aW tt (a9 ks) r e fs=gs
  have hr:(some (bo (aS R ks e))).toList.any isRec=decide (aS R ks e=R.n6):=by
   have n6:=hO.n6;generalize R.n6=q at n6 KJ ⊢;generalize aS R ks e=z at KJ ⊢;simp only[List.mem_cons,List.not_mem_nil,or_false] at KJ;rcases KJ with h|h|h|h<;>rw[h]
   ·rw[Qk (Ne.symm n6.1)];rfl
   ·rw[fz (by decide),Qk (Ne.symm n6.2.1)];rfl
   ·rw[fz (by decide),Qk (Ne.symm n6.2.2)];rfl
   rw[fz n6.1];simp[isRec,rK,n6.2.1,n6.2.2]
  unfold hW;rw[hr];by_cases h6:aS R ks e=R.n6
  ·rw[if_pos (Qn h6),if_pos h6,ml];unfold bM;simp
  rw[if_neg (by simpa using h6),if_neg h6];unfold bM;simp
 |give r e' =>
  refine⟨rfl,λk=>?_⟩;rw[Jr rfl];show k∈fj r (some (bo (aS R ks e))) "kind" hd (aW tt (a9 ks) r e fs)↔k∈fs∨bM r (aT R ks e++eW (aS R ks e) hd "kind") k;rw[fS,<-or_assoc,<-gK hO hT hg,sj]
 |iff r e' b o =>
  refine⟨rfl,λk=>?_⟩;show k∈fj r (some (bo (aS R ks e))) "truth" "truth" (aW tt (a9 ks) r e fs)↔k∈fs∨bM r (aT R ks e++eW (aS R ks e) "truth" "truth") k;rw[fS,<-or_assoc,<-gK hO hT hg,sj]
 |whl r e' b =>
  refine⟨rfl,λk=>?_⟩;show k∈fj r (some (bo (aS R ks e))) "truth" "truth" (aW tt (a9 ks) r e fs)↔k∈fs∨bM r (aT R ks e++eW (aS R ks e) "truth" "truth") k;rw[fS,<-or_assoc,<-gK hO hT hg,sj]
 |df r n k ps b=>cases IT
 |kd r n ps=>cases IT
structure Fr where
 x:Nat
 w:Str
 t:Tr
 ks:List Nat
structure kN(B:List Bk)(p:Nat)(f:Fr):Prop where
 row:∃b init,B[p]?=some b/\b.rs=init++[(f.t,f.ks)]
 way:(f.w="def"/\f.ks=[f.x]/\f.t.hd≠none)∨(f.w="if"/\(∃z c,f.ks=[f.x,z]/\B[z]?=some c/\c.rs=[])/\f.t.hd=none)∨(f.w="while"/\f.ks=[f.x]/\f.t.hd=none)∨(f.w="else"/\(∃z,f.ks=[z,f.x])/\f.t.hd=none)
noncomputable def ci(r:List Fr):List Nat:=0::r.map Fr.x
structure Sk(B:List Bk)(r:List Fr):Prop where
 b0:∃b,B[0]?=some b/\b.d=0
 ok:∀(e p:Nat) (f:Fr),(ci r)[e]?=some p->r[e]?=some f->kN B p f
theorem kN.alt{f:Fr}(h:kN B p f):f.ks=[f.x]∨(∃z c,f.ks=[f.x,z]/\B[z]?=some c/\c.rs=[])∨∃z,f.ks=[z,f.x]:=by
 rcases h.way with ⟨_,h,_⟩|⟨_,h,_⟩|⟨_,h,_⟩|⟨_,h,_⟩
 ·exact .inl h
 ·exact .inr (.inl h)
 ·exact .inl h
 exact .inr (.inr h)
theorem kN.kid{f:Fr}(h:kN B p f):f.x∈f.ks:=by rcases h.alt with e|⟨z,c,e,_⟩|⟨z,e⟩<;>rw[e]<;>simp
theorem sv{r:List Fr}{e:Nat}{f:Fr}(h:r[e]?=some f):(ci r)[e+1]?=some f.x:=by show(0::r.map Fr.x)[e+1]?=_;rw[List.getElem?_cons_succ,Qr,h];rfl
theorem sx{r:List Fr}{e:Nat}{f:Fr}(h:r[e]?=some f):∃p,(ci r)[e]?=some p:=by
 have hl:=(Qc h).1;have:e<(ci r).length:=by show e<(0::r.map Fr.x).length;simp;lia
 exact⟨_,Qb this⟩
theorem sy(r:List Fr):(ci r).length=r.length+1:=by simp[ci]
theorem Sk.pt{B:List Bk}{r:List Fr}{oo k:Nat}(s:Sk B r)(h:PI oo B k):wm B (ci r)
 |0,x,hx=>by
  have:0=x:=by simpa [ci] using hx
  rw[<-this];exact s.b0
 |e+1,x,hx=>by
  have hr:(r.map Fr.x)[e]?=some x:=by simpa [ci] using hx
  rw[Qr] at hr
  cases hf:r[e]? with
  |none=>rw[hf] at hr;cases hr
  |some f =>
   rw[hf] at hr;have hr:f.x=x:=by simpa using hr
   obtain⟨p,hp⟩:=sx hf;obtain⟨b,hb,hd⟩:=Sk.pt s h e p hp;have g:=s.ok e p f hp hf;obtain⟨b',init,g1,g2⟩:=g.row;rw[hb] at g1;cases g1;obtain⟨c,hc,h2⟩:=((h.at hb).rw (f.t,f.ks) (by rw[g2];simp)).ch f.x g.kid;rw[<-hr];exact⟨c,hc,by rw[h2,hd]⟩
theorem zi:∀(L:List Nat),L≠[]->(∀x∈L,∃b,B[x]?=some b)->(∀(e x y:Nat),L[e]?=some x->L[e+1]?=some y->∃b init q,B[x]?=some b/\b.rs=init++[q]/\(q.2=[y]∨(∃z c,q.2=[y,z]/\B[z]?=some c/\c.rs=[])∨∃z,q.2=[z,y]))->jk B L
 | [],h,_,_=>absurd rfl h
 | [x],_,h,_=>h x (.head _)
 |x::y::r,_,h,g=>⟨g 0 x y rfl rfl,zi (y::r) (by simp) (λz hz=>h z (.tail _ hz)) λe a b ha hb=>g (e+1) a b (by simpa using ha) (by simpa using hb)⟩
theorem Sk.chn{oo k:Nat}(s:Sk B r)(h:PI oo B k):jk B (ci r):=by
 refine zi _ (by simp[ci]) (λx hx=>?_) λe x y hx hy=>?_
 ·obtain⟨e,he⟩:=List.mem_iff_getElem?.mp hx;obtain⟨b,hb,_⟩:=s.pt h e x he;exact⟨b,hb⟩
 have hr:(r.map Fr.x)[e]?=some y:=by simpa [ci] using hy
 rw[Qr] at hr
 cases hf:r[e]? with
 |none=>rw[hf] at hr;cases hr
 |some f =>
  rw[hf] at hr;have hr:f.x=y:=by simpa using hr
  have g:=s.ok e x f hx hf;obtain⟨b,init,g1,g2⟩:=g.row;exact⟨b,init,(f.t,f.ks),g1,g2,by rw[<-hr];exact g.alt⟩
noncomputable def b8(r:List Fr):Nat:=(ci r).getLastD 0
theorem jv(r:List Fr):(ci r)[r.length]?=some (b8 r):=by have h:(ci r).length=r.length+1:=sy r;unfold b8;rw[List.getLastD_eq_getLast?,List.getLast?_eq_getElem?,h,Nat.add_sub_cancel,Qb (by lia)];rfl
theorem Sk.step{B:List Bk}{r N:List Fr}{oo k:Nat}{b:Bk}{t:Tr}(s:Sk B r)(h:PI oo B k)(hb:B[b8 r]?=some b)
  (hN:N=[]∨∃w,N=[⟨B.length,w,t,List.range' B.length t.nb⟩]/\t.nb≠0/\((w="def"/\t.nb=1/\t.hd≠none)∨(w="if"/\t.nb=2/\t.hd=none)∨(w="while"/\t.nb=1/\t.hd=none))):Sk (br B (b8 r) [t]) (r++N):=by
 have hP:=s.pt h;have hl:=jv r;obtain⟨b',KO,hd⟩:=hP _ _ hl;rw[hb] at KO;cases KO;have old:∀{x:Nat} {c:Bk},B[x]?=some c->x≠b8 r->(br B (b8 r) [t])[x]?=some c:=λ{x c} hc HL=>by rw[iN hb (Qc hc).1,if_neg (Ne.symm HL)];exact hc
 have keep:∀(e p:Nat) (f:Fr),(ci r)[e]?=some p->r[e]?=some f->kN (br B (b8 r) [t]) p f:=λe p f hp hf=>by
  have g:=s.ok e p f hp hf;obtain⟨c,hc,IY⟩:=hP e p hp;have he:=(Qc hf).1;have HL:p≠b8 r:=λz=>by rw[z,hb] at hc;cases hc;omega
  obtain⟨c',init,g1,g2⟩:=g.row;rw[hc] at g1;cases g1;refine⟨⟨c,init,old hc HL,g2⟩,?_⟩;rcases g.way with w|⟨w1,⟨z,cz,w2,w3,w4⟩,w5⟩|w|w
  ·exact .inl w
  ·refine .inr (.inl ⟨w1,⟨z,cz,w2,old w3 λzz=>?_,w4⟩,w5⟩);have hq:(f.t,f.ks)∈c.rs:=by rw[g2];simp
   obtain⟨d,hdz,h2⟩:=((h.at hc).rw _ hq).ch z (by show z∈f.ks;rw[w2];simp);rw[zz,hb] at hdz;cases hdz;have hx:=sv hf;rw[<-IY,<-h2,hd,hl] at hx;have hx:b8 r=f.x:=by simpa using hx
   have I0:=h.nd c (Qq hc);unfold kids at I0;rw[g2,List.flatMap_append,List.flatMap_cons,List.flatMap_nil,QA] at I0;have:=(List.nodup_append.mp I0).2.1;rw[show(f.t,f.ks).2=f.ks from rfl,w2,zz,hx] at this;simp at this
  ·exact .inr (.inr (.inl w))
  exact .inr (.inr (.inr w))
 have b0:∃b,(br B (b8 r) [t])[0]?=some b/\b.d=0:=by obtain⟨b0,h0,h1⟩:=s.b0;obtain⟨c,hc,e⟩:=wj (ts:=[t]) hb h0;exact⟨c,hc,by rw[e,h1]⟩
 refine⟨b0,λe p f hp hf=>?_⟩;by_cases he:e<r.length
 ·rw[Ql he] at hf;refine keep e p f ?_ hf;rw[<-hp];unfold ci;rw[QD,<-List.cons_append,Ql (by simp;omega)]
 rw[Qw (by omega)] at hf
 rcases hN with rfl|⟨w,rfl,h0,hw⟩
 ·simp at hf
 have hz:e-r.length=0:=by
  cases hz:e-r.length with
  |zero=>rfl
  |succ n=>rw[hz] at hf;simp at hf
 rw[hz] at hf;have hf:(⟨B.length,w,t,List.range' B.length t.nb⟩:Fr)=f:=by simpa using hf
 have he:e=r.length:=by omega
 subst he
 have hp:b8 r=p:=by
  have e1:(ci (r++[⟨B.length,w,t,List.range' B.length t.nb⟩]))[r.length]?=(ci r)[r.length]?:=by unfold ci;rw[QD,<-List.cons_append,Ql (by simp)]
  rw[e1,hl] at hp;simpa using hp
 subst hp;subst hf;have hB':(br B (b8 r) [t])[b8 r]?=some {b with rs:=b.rs++cP B.length [t]}:=by rw[iN hb (Qc hb).1,if_pos rfl]
 obtain⟨_,_,g⟩:=qC (ts:=[t]) hb (.inl ⟨t,rfl⟩) (q:=(t,List.range' B.length t.nb)) (by unfold cP;simp);refine⟨⟨_,b.rs,hB',rfl⟩,?_⟩
 rcases hw with ⟨rfl,hn,hh⟩|⟨rfl,hn,hh⟩|⟨rfl,hn,hh⟩
 ·exact .inl ⟨rfl,by show List.range' B.length t.nb=[B.length];rw[hn];rfl,hh⟩
 ·rw[hn] at g;obtain⟨h2,c2,hc2,_⟩:=g (B.length+1) (by simp);refine .inr (.inl ⟨rfl,⟨B.length+1,c2,by show List.range' B.length t.nb=[B.length,B.length+1];rw[hn];rfl,hc2,?_⟩,hh⟩);rw[lL hb h2] at hc2;exact(kg hc2).1
 exact .inr (.inr (.inl ⟨rfl,by show List.range' B.length t.nb=[B.length];rw[hn];rfl,hh⟩))
theorem mn{r N:List Fr}(h:e<=r.length):(ci (r++N))[e]?=(ci r)[e]?:=by unfold ci;rw[QD,<-List.cons_append,Ql (by simp;omega)]
theorem Sk.pop{B:List Bk}{r:List Fr}{f:Fr}(s:Sk B (r++[f])):Sk B r:=⟨s.b0,λe p g hp hg=>by
 have he:=(Qc hg).1
 exact s.ok e p g (by rw[mn (by lia)];exact hp) (by rw[Ql he];exact hg)⟩
theorem Sk.els{B:List Bk}{r:List Fr}{f:Fr}{z:Nat}(s:Sk B (r++[f]))(hw:f.w="if")(hz:f.ks=[f.x,z]):Sk B (r++[⟨z,"else",f.t,f.ks⟩]):=⟨s.b0,λe p g hp hg=>by
 by_cases he:e<r.length
 ·rw[Ql he] at hg;exact s.ok e p g (by rw[mn (by lia)];rw[mn (by lia)] at hp;exact hp) (by rw[Ql he];exact hg)
 rw[Qw (by lia)] at hg
 have hq:e-r.length=0:=by
  cases hq:e-r.length with
  |zero=>rfl
  |succ n=>rw[hq] at hg;simp at hg
 rw[hq] at hg;have hg:(⟨z,"else",f.t,f.ks⟩:Fr)=g:=by simpa using hg
 have he:e=r.length:=by lia
 subst he;subst hg;have k:=s.ok r.length p f (by rw[mn (Qh _)];rw[mn (Qh _)] at hp;exact hp) (by rw[Qw (Qh _)];simp);refine⟨k.row,.inr (.inr (.inr ⟨rfl,⟨f.x,hz⟩,?_⟩))⟩
 rcases k.way with ⟨w,_,_⟩|⟨_,_,w⟩|⟨_,_,w⟩|⟨_,_,w⟩
 ·rw[hw] at w;exact absurd w (by decide +kernel)
 ·exact w
 ·exact w
 exact w⟩
theorem zj{as bs:List Addr}(h:j<as.length):(as++bs).getD j 0=as.getD j 0:=by rw[Qd,Qd,Ql h]
theorem sC:∀(bs as:List Addr),((List.range' as.length bs.length).map λj=>(as++bs).getD j 0)=bs
 | [],as=>rfl
 |b::bs,as=>by
  rw[QU,List.range'_succ,List.map_cons];have h1:(as++b::bs).getD as.length 0=b:=by rw[Qd,Qw (Qh _)];simp
  have h2:=sC bs (as++[b]);rw[Qi,QP] at h2;rw[h1];congr 1;have e:as++b::bs=(as++[b])++bs:=by simp
  rw[e];exact h2
theorem zk{t:Tr}{bs:List Addr}(h:dw H a t bs):∃vs,H a=some (.tup (vs++bs.map V.ref))/\PsAt H false vs t.pre:=by obtain⟨vs,h1,h2⟩:=h;exact⟨vs,h1,h2 H (λ_ _ e=>e)⟩
theorem G5(t:Tr):∃ps,t.pre=.s t.kw::.i t.row::ps:=by cases t<;>exact⟨_,rfl⟩
theorem zm{t:Tr}{bs:List Addr}(h:dw H a t (b::bs))(hh:t.hd=none)(hn:t.nb≠0):∃x y z,H a=some (.tup (x::y::z::.ref b::bs.map V.ref)):=by
 obtain⟨vs,h1,h2⟩:=h;have h2:=h2 H (λ_ _ e=>e);have hl:=h2.length;have hl:vs.length=3:=by cases t<;>first|exact hl|exact absurd rfl hn|cases hh
 match vs,hl,h1 with
 | [x,y,z],_,h1=>exact⟨x,y,z,h1⟩
structure LJ(oo:Nat)(H0 H:Hp)(a du st tp:Addr)(ks:List (Str×Str))(ds:List (List ae))(k:Nat)(as:List Addr)(B:List Bk)(r:List Fr)(qs:List Addr):Prop where
 sm:Same (bE H0 [a,du]) H
 ka:H a=some (.dK (bD ks))
 dl:∃ys,H du=some (.lst ys)/\bA H ys ds
 fa:FA H as B
 pi:PI oo B k
 ok:oo<=k
 sk:Sk B r
 tp0:as[0]?=some tp
 hst:H st=some (.lst (qs.map V.ref))
 ql:qs.length=r.length+1
 q0:∀q,qs[0]?=some q->H q=some (.tup [.ref tp,.non])
 qf:∀(e:Nat) (q:Addr) (f:Fr),qs[e+1]?=some q->r[e]?=some f->∃u,H q=some (.tup [.ref (as.getD f.x 0),if f.w="else" then .non else .ref u])/\dw H u f.t (f.ks.map λj=>as.getD j 0)
 ne:st∉as/\a∉as/\du∉as/\st≠a/\st≠du/\a≠du
 new:H0 st=none/\∀x∈as,H0 x=none
section
variable {oo:Nat}{H0 H G:Hp}{a du st tp:Addr}{ks KC:List (Str×Str)}{ds HV:List (List ae)}{k:Nat}{as:List Addr}{B:List Bk}{r r':List Fr}{qs qs':List Addr}
theorem LJ.bls(h:LJ oo H0 H a du st tp ks ds k as B r qs):∀x∈as,∃ys,H x=some (.lst ys):=λx hx=>by
 obtain⟨i,hx⟩:=List.mem_iff_getElem?.mp hx;have HS:i<B.length:=by rw[<-h.fa.len];exact(Qc hx).1
 obtain⟨ys,e,_⟩:=h.fa.bl i x B[i] hx (Qb HS);exact⟨_,e⟩
theorem LJ.tpk(h:LJ oo H0 H a du st tp ks ds k as B r qs)(s:Same (bE H [a,du]) G):eG H G:=λb xs hb=>s _ _ (c8 (λz=>by
 obtain⟨ys,e,_⟩:=h.dl;rcases Qx z with z|z
 ·rw[z,h.ka] at hb;cases hb
 rw[Qj z,e] at hb;cases hb) hb)
theorem LJ.to(h:LJ oo H0 H a du st tp ks ds k as B r qs)(s:Same (bE H [a,du]) G)(ka:G a=some (.dK (bD KC)))(dl:∃ys,G du=some (.lst ys)/\bA G ys HV):LJ oo H0 G a du st tp KC HV k as B r qs:=by
 have t:=h.tpk s;have n:=h.ne;have off:∀{b:Addr} {o:HO},b≠a->b≠du->H b=some o->G b=some o:=λn1 n2 e=>s _ _ (c8 (by simp[n1,n2]) e);refine⟨λb o hb=>?_,ka,dl,h.fa.kept t λx hx=>?_,h.pi,h.ok,h.sk,h.tp0,off n.2.2.2.1 n.2.2.2.2.1 h.hst,h.ql,λq hq=>t _ _ (h.q0 q hq),λe q f hq hf=>?_,n,h.new⟩
 ·have hn:=(eB hb).1;exact off (λz=>hn (by rw[z];simp)) (λz=>hn (by rw[z];simp)) (h.sm _ _ hb)
 ·obtain⟨ys,e⟩:=h.bls x hx;rw[e,off (λz=>n.2.1 (by rw[<-z];exact hx)) (λz=>n.2.2.1 (by rw[<-z];exact hx)) e]
 obtain⟨u,h1,h2⟩:=h.qf e q f hq hf;exact⟨u,t _ _ h1,h2.kept t⟩
theorem LJ.same(h:LJ oo H0 H a du st tp ks ds k as B r qs)(s:Same H G):LJ oo H0 G a du st tp ks ds k as B r qs:=by obtain⟨ys,e1,e2⟩:=h.dl;exact h.to (λb o hb=>s _ _ (eB hb).2) (s _ _ h.ka) ⟨ys,s _ _ e1,dH e2 s.tups⟩
theorem LJ.up(h:LJ oo H0 H a du st tp ks ds k as B r qs):LJ oo H0 H a du st tp ks ds (k+1) as B r qs:=
 {h with ok:=Nat.le_succ_of_le h.ok,pi:=⟨λb hb=>let g:=h.pi.b b hb;⟨g.d,by have:=g.len;lia,g.pw,λq hq=>let r:=g.rw q hq;⟨r.asc,r.bare,Nat.lt_succ_of_lt r.row,r.nb,r.ch⟩⟩,h.pi.nd,h.pi.dj⟩}
theorem LJ.stk(h:LJ oo H0 H a du st tp ks ds k as B r qs)(sk:Sk B r')(ql:qs'.length=r'.length+1)(q0:∀q,qs'[0]?=some q->H q=some (.tup [.ref tp,.non]))
  (qf:∀(e:Nat) (q:Addr) (f:Fr),qs'[e+1]?=some q->r'[e]?=some f->∃u,H q=some (.tup [.ref (as.getD f.x 0),if f.w="else" then .non else .ref u])/\dw H u f.t (f.ks.map λj=>as.getD j 0)):LJ oo H0 (ag H st (.lst (qs'.map V.ref))) a du st tp ks ds k as B r' qs':=by
 have n:=h.ne;have t:eG H (ag H st (.lst (qs'.map V.ref))):=λx xs e=>by rw[ay λz=>by rw[z,h.hst] at e;cases e];exact e
 obtain⟨ys,e1,e2⟩:=h.dl;refine⟨λb o hb=>?_,by rw[ay (Ne.symm n.2.2.2.1)];exact h.ka,⟨ys,by rw[ay (Ne.symm n.2.2.2.2.1)];exact e1,dH e2 t⟩,h.fa.kept t λx hx=>by rw[ay λz=>n.1 (by rw[<-z];exact hx)],h.pi,h.ok,sk,h.tp0,ah,ql,λq hq=>t _ _ (q0 q hq),λe q f hq hf=>?_,n,h.new⟩
 ·rw[ay λz=>by rw[z] at hb;have e:=(eB hb).2;rw[h.new.1] at e;cases e];exact h.sm _ _ hb
 obtain⟨u,h1,h2⟩:=qf e q f hq hf;exact⟨u,t _ _ h1,h2.kept t⟩
theorem LJ.add{H3:Hp}{t:Tr}{bs vs:List Addr}{u ai:Addr}(h:LJ oo H0 H a du st tp ks ds k as B r qs)(s:Same H H3)(hr:dw H3 u t bs)(hl:bs.length=t.nb)(I0:bs.Nodup)(hbs:∀x∈bs,H x=none/\H3 x=some (.lst []))
  (c:t.asc/\t.fill []=t/\t.row=k) (hnb:t.nb≠0->r.length<=2) (hi:as[b8 r]?=some ai) (ha:H ai=some (.lst (vs.map V.ref))):LJ oo H0 (ag H3 ai (.lst ((vs++[u]).map V.ref))) a du st tp ks ds (k+1) (as++bs) (br B (b8 r) [t]) r qs:=by
 obtain⟨b,hb,hd⟩:=h.sk.pt h.pi _ _ (jv r);have JK:ai∈as:=Qq hi;have n:=h.ne;have nb:∀{x y:Addr} {o:HO},H x=some o->y∈bs->x≠y:=λ{x y o} e hy z=>by rw[z,(hbs y hy).1] at e;cases e
 have hai3:=s _ _ ha;have t3G:eG H3 (ag H3 ai (.lst ((vs++[u]).map V.ref))):=λx xs e=>by rw[ay λz=>by rw[z,hai3] at e;cases e];exact e
 have tHG:eG H (ag H3 ai (.lst ((vs++[u]).map V.ref))):=λx xs e=>t3G _ _ (s.tups _ _ e);have sG:∀{x:Addr} {o:HO},H x=some o->x≠ai->ag H3 ai (.lst ((vs++[u]).map V.ref)) x=some o:=λe n=>by rw[ay n];exact s _ _ e
 have Jp:∀{x:Nat} {c:Bk},B[x]?=some c->x<as.length:=λe=>by rw[h.fa.len];exact(Qc e).1
 have hnbl:(hJ (b.d+1) [t]).length=t.nb:=by unfold hJ;simp
 have hpi:PI oo (br B (b8 r) [t]) (k+1):=h.pi.add hb (.inl ⟨t,rfl⟩) (by simp) h.ok (λhsl87=>by obtain⟨t',h1,h2⟩:=hsl87;rw[Qj h1] at h2;have:=hnb h2;lia) (List.pairwise_singleton _ _) λt' h1=>by rw[Qj h1];exact c
 obtain⟨ys,d1,d2⟩:=h.dl;have apart:∀{x:Addr} {o:HO},x∉as->H x=some o->x∉as++bs:=λh1 h2 z=>(Qv z).elim h1 λz=>nb h2 z rfl;refine⟨λx o hx=>sG (h.sm _ _ hx) λz=>?_,sG h.ka λz=>n.2.1 (by rw[z];exact JK),⟨ys,sG d1 λz=>n.2.2.1 (by rw[z];exact JK),dH d2 tHG⟩,?_,hpi,Nat.le_succ_of_le h.ok,?_,?_,sG h.hst λz=>n.1 (by rw[z];exact JK),h.ql,λq hq=>tHG _ _ (h.q0 q hq),λe q f hq hf=>?_,⟨apart n.1 h.hst,apart n.2.1 h.ka,apart n.2.2.1 d1,n.2.2.2⟩,h.new.1,λx hx=>?_⟩
 ·rw[z] at hx;have e:=(eB hx).2;rw[h.new.2 ai JK] at e;cases e
 ·refine h.fa.add h.pi hi hb ha s.tups (λx hx=>?_) ?_ (λx hx=>⟨λz=>?_,(hbs x hx).2⟩) I0 (by rw[hl,hnbl])
  ·obtain⟨ys,e⟩:=h.bls x hx;rw[s _ _ e,e]
  ·refine⟨rfl,λj v q hv hq=>?_⟩
   have hj:j=0:=by
    cases j with
    |zero=>rfl
    |succ n=>simp at hv
   subst hj;have hv:u=v:=by simpa using hv
   have hq:(t,List.range' B.length t.nb)=q:=by simpa [cP] using hq
   rw[<-hv,<-hq];show dw _ u t ((List.range' B.length t.nb).map _);rw[<-hl,<-h.fa.len,sC];exact hr
  obtain⟨ys,e⟩:=h.bls x z;exact nb e hx rfl
 ·have:=h.sk.step (N:=[]) (t:=t) h.pi hb (.inl rfl);rwa [QA] at this
 ·rw[Ql (by have:=h.tp0;exact(Qc this).1)];exact h.tp0
 ·obtain⟨x,h1,h2⟩:=h.qf e q f hq hf;obtain⟨p,hp⟩:=sx hf;obtain⟨cp,hcp,_⟩:=h.sk.pt h.pi e p hp;obtain⟨cx,hcx,_⟩:=h.sk.pt h.pi (e+1) f.x (sv hf);have g:=h.sk.ok e p f hp hf;obtain⟨c',init,g1,g2⟩:=g.row;rw[hcp] at g1;cases g1;refine⟨x,by rw[zj (Jp hcx)];exact tHG _ _ h1,?_⟩
  have e2:(f.ks.map λj=>(as++bs).getD j 0)=f.ks.map λj=>as.getD j 0:=List.map_congr_left λj hj=>by
   obtain⟨cj,hcj,_⟩:=((h.pi.at hcp).rw (f.t,f.ks) (by rw[g2];simp)).ch j hj;exact zj (Jp hcj)
  rw[e2];exact h2.kept tHG
 rcases Qv hx with hx|hx
 ·exact h.new.2 x hx
 cases e:H0 x with
 |none=>rfl
 |some o =>
  have HL:x∉[a,du]:=λz=>by
   rcases Qx z with z|z
   ·exact nb h.ka hx z.symm
   exact nb d1 hx (Qj z).symm
  have:=h.sm _ _ (c8 HL e);exact absurd rfl (nb this hx)
theorem LJ.last(h:LJ oo H0 H a du st tp ks ds k as B r qs):∃(JC:List Addr) (q ai:Addr) (y:V) (vs:List Addr),qs=JC++[q]/\H q=some (.tup [.ref ai,y])/\as[b8 r]?=some ai/\H ai=some (.lst (vs.map V.ref))/\vs.length+oo<=k/\((r=[]/\y=.non)∨∃(r0:List Fr) (f:Fr),r=r0++[f]/\JC.length=r0.length+1/\((f.w="else"/\y=.non)∨(f.w≠"else"/\∃u,y=.ref u/\dw H u f.t (f.ks.map λj=>as.getD j 0)))):=by
 have ql:=h.ql
 obtain⟨JC,q,eq⟩:∃JC q,qs=JC++[q]:=⟨qs.dropLast,qs.getLast (λz=>by rw[z] at ql;simp at ql),(List.dropLast_concat_getLast _).symm⟩
 have hq0l:JC.length=r.length:=by rw[eq] at ql;simpa using ql
 obtain⟨b,hb,hd⟩:=h.sk.pt h.pi _ _ (jv r);have hlx:b8 r<as.length:=by rw[h.fa.len];exact(Qc hb).1
 obtain⟨ai,JK⟩:∃ai,as[b8 r]?=some ai:=⟨_,Qb hlx⟩
 obtain⟨vs,e1,e2⟩:=h.fa.bl _ ai b JK hb;have hvl:vs.length+oo<=k:=by have:=(h.pi.at hb).len;rw[e2.1];exact this
 rcases List.eq_nil_or_concat r with er|⟨r0,f,er⟩
 ·subst er;have e0:JC=[]:=List.length_eq_zero_iff.mp hq0l;subst e0;subst eq;have hl0:b8 []=0:=rfl;have ht:ai=tp:=by rw[hl0,h.tp0] at JK;exact(Qs JK).symm
  subst ht;exact⟨[],q,ai,.non,vs,rfl,h.q0 q rfl,JK,e1,hvl,.inl ⟨rfl,rfl⟩⟩
 have er:r=r0++[f]:=by simpa using er
 subst er;subst eq;have hf:(r0++[f])[r0.length]?=some f:=by simp
 have hqf:(JC++[q])[r0.length+1]?=some q:=by
  have hl:JC.length=r0.length+1:=by simpa using hq0l
  rw[<-hl];simp
 obtain⟨u,g1,g2⟩:=h.qf r0.length q f hqf hf;have hlf:b8 (r0++[f])=f.x:=by have h1:=jv (r0++[f]);rw[Qi,QP,sv hf] at h1;exact(Qs h1).symm
 have ea:as.getD f.x 0=ai:=by rw[<-hlf,Qd,JK];rfl
 rw[ea] at g1;refine⟨JC,q,ai,_,vs,rfl,g1,JK,e1,hvl,.inr ⟨r0,f,rfl,by simpa using hq0l,?_⟩⟩;by_cases hw:f.w="else"
 ·exact .inl ⟨hw,if_pos hw⟩
 exact .inr ⟨hw,u,if_neg hw,g2⟩
end
theorem jw(h:r'<r):bm (kk r z) (kk r' z')=false:=by show(if(Sum.inl ((r:Nat):Int):ae)=.inl ((r':Nat):Int) then _ else decide (((r:Nat):Int)<((r':Nat):Int)))=false;rw[if_neg (λe=>by injection e;lia)];exact Qk (by lia)
theorem mo:bm (kk r z) (kk r z')=bm [.inr z] [.inr z']:=if_pos rfl
noncomputable def oP(a:List ae):List ae:=a.take 1++[.inr "field"]
structure cB(m:Nat)(fs:List (List ae)):Prop where
 pw:fs.Pairwise λa b=>bm b a=true->b=oP a
 lo:∀k∈fs,∃r z,k=kk r z/\r<m
theorem cB.mono{fs:List (List ae)}(h:cB m fs)(q:m<=n):cB n fs:=⟨h.pw,λk hk=>by obtain⟨r,z,e,l⟩:=h.lo k hk;exact⟨r,z,e,QI l q⟩⟩
theorem cB.add{fs us:List (List ae)}(h:fs.Pairwise λa b=>bm b a=true->b=oP a)(hl:∀k∈fs++us,∃q z,k=kk q z/\q<r+1)(hp:∀b∈us,∀a∈fs++us,bm b a=true->b=oP a):cB (r+1) (fs++us):=
 ⟨List.pairwise_append.mpr ⟨h,List.pairwise_iff_getElem.mpr λi j hi hj _=>hp _ (QN hj) _ (Qu _ (QN hi)),λa ha b hb=>hp b hb a (QQ _ ha)⟩,hl⟩
theorem cB.one{r:Nat}{w:Str}{fs:List (List ae)}(h:cB (r+1) fs)(hp:∀a∈fs,bm (kk r w) a=false):cB (r+1) (cf fs (kk r w)):=by
 unfold cf;split
 ·exact h
 refine cB.add h.pw (λk hk=>?_) λb hb a ha=>?_
 ·rcases Qv hk with hk|hk
  ·exact h.lo k hk
  exact⟨r,w,Qj hk,Nat.lt_succ_self _⟩
 rw[Qj hb];intro z;rcases Qv ha with ha|ha
 ·rw[hp a ha] at z;cases z
 rw[Qj ha] at z;rw[iK z] at z;cases z
theorem cB.row{t:Tr}(h:cB t.row s.2):cB (t.row+1) (bN tt du t e s).2:=by
 obtain⟨us,e1,_,hu⟩:=fN tt s.1 t.row e s.2;have wh:∀a∈aW tt s.1 t.row e s.2,(∃q z,a=kk q z/\q<t.row)∨a=kk t.row "kind"∨a=kk t.row "field":=λa ha=>by rw[e1] at ha;exact(Qv ha).imp (h.lo a) λha=>(hu a ha).2
 have h0:cB (t.row+1) (aW tt s.1 t.row e s.2):=by
  rw[e1] at wh ⊢;refine cB.add h.pw (λk hk=>?_) λb hb a ha z=>?_
  ·rcases wh k hk with ⟨q,z,e,l⟩|e|e
   ·exact⟨q,z,e,Nat.lt_succ_of_lt l⟩
   ·exact⟨_,_,e,Nat.lt_succ_self _⟩
   exact⟨_,_,e,Nat.lt_succ_self _⟩
  rcases (hu b hb).2 with rfl|rfl<;>rcases wh a ha with ⟨q,y,rfl,l⟩|rfl|rfl
  ·rw[jw l] at z;cases z
  ·rw[mo] at z;exact absurd z (by decide +kernel)
  ·rw[mo] at z;exact absurd z (by decide +kernel)
  ·rw[jw l] at z;cases z
  ·rfl
  rfl
 have h1:∀w∈(["kind","tell","truth"]:List Str),cB (t.row+1) (cf (aW tt s.1 t.row e s.2) (kk t.row w)):=λw hw=>h0.one λa ha=>by
  have q:∀w∈(["kind","tell","truth"]:List Str),bm [.inr w] [.inr "kind"]=false/\bm [.inr w] [.inr "field"]=false:=by decide +kernel
  rcases wh a ha with ⟨q,y,rfl,l⟩|rfl|rfl
  ·exact jw l
  ·rw[mo];exact(q w hw).1
  rw[mo];exact(q w hw).2
 unfold bN gi iR hW fj eK;dsimp only
 repeat' split
 all_goals first|exact h0|exact h1 _ (by simp)
structure jx(R:Ct):Prop where
 h1:1<=R.hs.length
 p2:∀h∈R.hs,h.2.2.length<=2
 fd:∀h∈R.hs,R.find h.1=some h
def sD(R:Ct)(kn:List Str)(d:Nat)(e:Ex):Prop:=c6 R kn e/\e.good/\e.deep<=d/\e.dos/\∀ks,(aT R ks e).length+2<=2^(d+1)
theorem oQ(k d:Str):(eO k d).length<=1:=by unfold eO;split<;>simp
theorem G6(R:Ct)(k:Str):(ib R k).length<=1:=by unfold ib;split<;>simp
theorem ie{x:Int}{n:Nat}(h:0<n):(x%((n:Nat):Int)).toNat<n:=by have h1:=Int.emod_lt_of_pos x (show(0:Int)<(n:Int) by omega);have h2:=Int.emod_nonneg x (show((n:Nat):Int)≠0 by omega);omega
theorem getD_mem'{α:Type}{l:List α}{i:Nat}{d:α}(h:i<l.length):l.getD i d∈l:=by rw[Qd,Qb h];exact QN h
theorem zn(d:Nat):2<=2^(d+1):=by have:=Nat.one_le_two_pow (n:=d);rw[Nat.pow_succ];lia
theorem zo(R:Ct)(kn:List Str)(d:Nat)(x:Int):sD R kn d (jr kn x):=by
 have h2:=zn d;unfold jr;split
 ·rename_i h;have hl:0<kn.length:=List.length_pos_iff.mpr h.2;exact⟨getD_mem' (ie hl),trivial,Qy _,trivial,λks=>by rw[aT,List.length_nil];omega⟩
 split
 ·exact⟨trivial,trivial,Qy _,trivial,λks=>by rw[aT,List.length_nil];omega⟩
 exact⟨trivial,trivial,Qy _,trivial,λks=>by rw[aT,List.length_nil];omega⟩
theorem G7(R:Ct)(ks:List (Str×Str))(a b:Ex)(n:Nat)(ds:List Str):(wrZ R ks ([a,b].take n) ds).length<=(aT R ks a).length+(aT R ks b).length+2:=by
 have one:∀(e:Ex) (d:Str),(aT R ks e++eO (aS R ks e) d).length<=(aT R ks e).length+1:=λe d=>by rw[Qi];have:=oQ (aS R ks e) d;lia
 match n,ds with
 |0,ds=>rw[List.take_zero,wrZ];simp
 |n+1,[]=>rw[List.take_succ_cons,wrZ];simp
 |n+1,d::ds =>
  rw[List.take_succ_cons,wrZ,Qi];have h1:=one a d
  match n,ds with
  |0,ds=>rw[List.take_zero,wrZ,List.length_nil];lia
  |n+1,[]=>rw[List.take_succ_cons,wrZ,List.length_nil];lia
  |n+1,d2::ds =>
   rw[List.take_succ_cons,List.take_nil,wrZ,wrZ,QA];have h2:=one b d2;lia
theorem zp:∀w∈eN,w∈j7:=by decide +kernel
theorem sE{R:Ct}(g:jx R)(kn:List Str):∀(d:Nat) (x:Int),sD R kn d (cZ R kn d x)
 |0,x=>zo R kn 0 x
 |d+1,x=>by
  have l:=sE g kn d (bj x 1);have r:=sE g kn d (bj x 2);have hp:2^(d+1+1)=2*2^(d+1):=by rw[Nat.pow_succ];lia
  have h2:=zn d;rw[cZ];generalize cZ R kn d (bj x 1)=a at l ⊢;generalize cZ R kn d (bj x 2)=b at r ⊢;obtain⟨l1,l2,l3,l4,l5⟩:=l;obtain⟨r1,r2,r3,r4,r5⟩:=r
  have many:∀{w z:Str} (n:Nat),((w="new"/\z=R.n6/\([a,b].take n).length=2)∨(w="do"/\∃h,R.find z=some h/\([a,b].take n).length=h.2.2.length))->sD R kn (d+1) (.many w z ([a,b].take n)):=λ{w z} n h=>by
   have hw:w="do"∨w="new":=h.elim (λh=>.inr h.1) λh=>.inl h.1
   have hz:mh R kn ([a,b].take n)/\qu ([a,b].take n)/\g6 ([a,b].take n)<=d/\kC ([a,b].take n):=by
    match n with
    |0=>exact⟨trivial,trivial,Qy _,trivial⟩
    |1=>exact⟨⟨l1,trivial⟩,⟨l2,trivial⟩,by show max a.deep 0<=d;lia,⟨l4,trivial⟩⟩
    |n+2 =>
     rw[List.take_succ_cons,List.take_succ_cons,List.take_nil];exact⟨⟨l1,r1,trivial⟩,⟨l2,r2,trivial⟩,by show max a.deep (max b.deep 0)<=d;lia,⟨l4,r4,trivial⟩⟩
   refine⟨⟨h,hz.1⟩,⟨hw,?_,hz.2.1⟩,Nat.succ_le_succ hz.2.2.1,⟨hw,hz.2.2.2⟩,λks=>?_⟩
   ·rw[QH];simp;lia
   rw[aT];have:=G7 R ks a b n (if w="new" then YF else(((R.find z).map λh=>h.2.2).getD []).map (·.2));have:=l5 ks;have:=r5 ks;lia
  by_cases c1:decide (x%16<6)=true
  ·rw[if_pos c1];exact zo R kn _ x
  rw[if_neg c1];by_cases c2:(x%16==6)=true
  ·rw[if_pos c2];exact⟨l1,l2,Nat.succ_le_succ l3,l4,λks=>by rw[aT,Qi];have:=oQ (aS R ks a) "truth";have:=l5 ks;lia⟩
  rw[if_neg c2];by_cases c3:decide (x%16<9)=true
  ·rw[if_pos c3];exact many 2 (.inl ⟨rfl,rfl,rfl⟩)
  rw[if_neg c3];by_cases c4:decide (x%16<11)=true
  ·rw[if_pos c4];have hn:(x/16%2).toNat=0∨(x/16%2).toNat=1:=by have:=ie (x:=x/16) (n:=2) (by decide);lia
   exact⟨⟨hn.elim (λh=>.inl (by rw[h])) λh=>.inr (by rw[h]),l1⟩,l2,Nat.succ_le_succ l3,l4,λks=>by rw[aT,Qi];have:=G6 R (aS R ks a);have:=l5 ks;lia⟩
  rw[if_neg c4];by_cases c5:(x%16==11)=true
  ·rw[if_pos c5];have hm:R.hd (x/16)∈R.hs:=getD_mem' (ie g.h1);have JZ:=g.p2 _ hm;refine many _ (.inr ⟨rfl,_,g.fd _ hm,?_⟩);rw[QH];simp;lia
  rw[if_neg c5];have ho:eN.getD (x/16%7).toNat ""∈eN:=getD_mem' (ie (n:=7) (by decide));refine⟨⟨ho,l1,r1⟩,⟨zp _ ho,l2,r2⟩,by show max a.deep b.deep+1<=d+1;lia,⟨zp _ ho,l4,r4⟩,λks=>?_⟩;rw[aT,Qi,Qi,Qi];have:=oQ (aS R ks a) (dI (eN.getD (x/16%7).toNat ""));have:=oQ (aS R ks b) (dI (eN.getD (x/16%7).toNat ""));have:=l5 ks;have:=r5 ks;lia
theorem G8(x:Int):iV x<=3:=by have:=ie (x:=x/12) (n:=4) (by decide);unfold iV;lia
theorem oR(g:jx R)(kn:List Str)(x:Int):c6 R kn (cg R kn x)/\(cg R kn x).good/\(cg R kn x).deep<=3/\(cg R kn x).dos/\∀ks,(aT R ks (cg R kn x)).length<=14:=by
 obtain⟨h1,h2,h3,h4,h5⟩:=sE g kn (iV x) (bj x 5);have hd:=G8 x;refine⟨h1,h2,QR h3 hd,h4,λks=>?_⟩;have h6:=h5 ks;have:2^(iV x+1)<=2^4:=Nat.pow_le_pow_right (by decide) (by lia);show(aT R ks (cZ R kn (iV x) (bj x 5))).length<=14;have e:(2:Nat)^4=16:=by decide
 lia
structure G9(R:Ct)(kn:List Str)(gv:Bool)(n:Nat)(x:Int)(t:Tr):Prop where
 row:t.row=n
 ex:t.ex=some (cg R kn x)
 bare:t.fill []=t
 hd:t.hd=none
 giv:jo t=true->gv=true
 lt:x%12<9
 way:(t.nb=0/\t.kw≠"if"/\t.kw≠"while")∨(t.nb=2/\t.kw="if")∨(t.nb=1/\t.kw="while")
 asc:t.asc
 ok:iS gv t
theorem sF(g:jx R){t:Tr}(h:iW R kn gv n x=some t):G9 R kn gv n x t:=by
 obtain⟨_,e2,e3,e4,_⟩:=oR g kn x
 have fit:(cg R kn x).fit:=⟨e2,by lia⟩
 unfold iW at h;by_cases c1:decide (x%12<4)=true
 ·rw[if_pos c1] at h;cases h;exact⟨rfl,rfl,rfl,rfl,λz=>(by cases z),by have:=QO c1;lia,.inl ⟨rfl,by simp only[Tr.kw];decide +kernel,by simp only[Tr.kw];decide +kernel⟩,fit,e4⟩
 rw[if_neg c1] at h;by_cases c2:(x%12==4)=true
 ·rw[if_pos c2] at h;cases h;exact⟨rfl,rfl,rfl,rfl,λz=>(by cases z),by have:=eq_of_beq c2;lia,.inl ⟨rfl,by simp only[Tr.kw];decide +kernel,by simp only[Tr.kw];decide +kernel⟩,fit,e4⟩
 rw[if_neg c2] at h;by_cases c3:(decide (x%12<7)&&gv)=true
 ·rw[if_pos c3] at h;cases h;rw[QL] at c3;exact⟨rfl,rfl,rfl,rfl,λ_=>c3.2,by have:=QO c3.1;lia,.inl ⟨rfl,by simp only[Tr.kw];decide +kernel,by simp only[Tr.kw];decide +kernel⟩,fit,⟨c3.2,e4⟩⟩
 rw[if_neg c3] at h;by_cases c4:(x%12==7)=true
 ·rw[if_pos c4] at h;cases h;exact⟨rfl,rfl,rfl,rfl,λz=>(by cases z),by have:=eq_of_beq c4;lia,.inr (.inl ⟨rfl,rfl⟩),⟨fit,⟨Qy _,trivial⟩,Qy _,trivial⟩,⟨e4,trivial,trivial⟩⟩
 rw[if_neg c4] at h;by_cases c5:(x%12==8)=true
 ·rw[if_pos c5] at h;cases h;exact⟨rfl,rfl,rfl,rfl,λz=>(by cases z),by have:=eq_of_beq c5;lia,.inr (.inr ⟨rfl,rfl⟩),⟨fit,Qy _,trivial⟩,⟨e4,trivial⟩⟩
 rw[if_neg c5] at h;cases h
theorem Hb(g:jx R)(ks:List (Str×Str))(hk:Str)(t:Tr)(x:Int):(dr R ks hk t (cg R kn x)).length<=60:=by
 have h1:=(oR g kn x).2.2.2.2 ks
 have h2:∀k,(fu R ks hk t k).length<=1:=λk=>by
  unfold fu eW
  repeat' split
  all_goals simp
 unfold dr;rw[Qi];have:=h2 (aS R ks (cg R kn x));lia
structure FS where
 B:List Bk
 r:List Fr
 ks:List (Str×Str)
 fs:List (List ae)
 ts:List Tr
noncomputable def jy(R:Ct)(kn:List Str)(gv:Bool)(n:Nat)(x:Int)(d:Nat):Option Tr:=match iW R kn gv n x with
 |none=>none
 |some t=>if t.nb≠0/\2<d then none else some t
noncomputable def iX(r:List Fr):List Fr:=match r.getLast? with
 |none=>r
 |some f=>if f.w≠"else"/\f.t.nb=2 then r.dropLast++[⟨f.ks.getD 1 0,"else",f.t,f.ks⟩] else r
noncomputable def fT(r:List Fr)(x:Int):List Fr:=if x%12=9 then iX r else if 9<x%12 then r.dropLast else r
noncomputable def iY(n:Nat)(r:List Fr)(t:Tr):List Fr:=if t.nb≠0 then r++[⟨n,t.kw,t,List.range' n t.nb⟩] else r
noncomputable def cw(R:Ct)(hk:Str)(x:Int)(q:FS)(t:Tr):FS:=⟨br q.B (b8 q.r) [t],iY q.B.length q.r t,fR R q.ks t (cg R (q.ks.map (·.1)) x),q.fs++(dr R q.ks hk t (cg R (q.ks.map (·.1)) x)).map (kk t.row),q.ts++[t]⟩
noncomputable def iZ(R:Ct)(gv:Bool)(hk:Str)(n:Nat)(x:Int)(q:FS):FS:=match jy R (q.ks.map (·.1)) gv n x q.r.length with
 |none=>{q with r:=fT q.r x}
 |some t=>cw R hk x q t
noncomputable def zq(ks:List (Str×Str)):FS:=⟨[⟨0,[]⟩],[],ks,[],[]⟩
noncomputable def cC(R:Ct)(gv:Bool)(hk:Str)(n:Nat)(ks:List (Str×Str))(cs:List Int):Nat->FS
 |0=>zq ks
 |i+1=>iZ R gv hk (n+i) (bj (cs.getD i 0) ((n+i:Nat):Int)) (cC R gv hk n ks cs i)
theorem zr{d:Nat}{t:Tr}(h:jy R kn gv n x d=some t):iW R kn gv n x=some t/\¬(t.nb≠0/\2<d):=by
 unfold jy at h;split at h
 ·cases h
 rename_i e;split at h
 ·cases h
 cases h;exact⟨e,by assumption⟩
theorem Hc(r:List Fr)(x:Int):(fT r x).length<=r.length:=by
 unfold fT iX
 repeat' split
 ·exact Qh _
 ·rename_i f hf _;have:r≠[]:=λz=>by rw[z] at hf;cases hf
  have:=List.length_pos_iff.mpr this;rw[Qi,List.length_dropLast,QP];omega
 ·exact Qh _
 ·rw[List.length_dropLast];omega
 exact Qh _
theorem Hd(h:∀f∈r,f.t.hd=none/\f.t.nb≠0):∀f∈fT r x,f.t.hd=none/\f.t.nb≠0:=by
 intro f hf;unfold fT iX at hf
 repeat' split at hf
 ·exact h f hf
 ·rename_i g hg _;rcases Qv hf with hf|hf
  ·exact h f (List.dropLast_subset _ hf)
  rw[Qj hf];exact h g (List.mem_of_getLast? hg)
 ·exact h f hf
 ·exact h f (List.dropLast_subset _ hf)
 exact h f hf
noncomputable def c9(tt:List Tr)(du:Kd)(ts:List Tr)(s:cX):cX:=ts.foldl (λs t=>match t.ex with
 |some e=>bN tt du t e s
 |none=>s) s
structure zt(R:Ct)(gv:Bool)(hk:Str)(n:Nat)(ks:List (Str×Str))(i:Nat)(q:FS):Prop where
 kl:q.ks.length<=ks.length+i
 ko:kM R q.ks
 rl:q.r.length<=3
 fr:∀f∈q.r,f.t.hd=none/\f.t.nb≠0
 tl:q.ts.length<=i
 ts:∀t∈q.ts,n<=t.row/\t.row<n+i/\iS gv t/\t.hd=none/\t.ex≠none/\t.fill []=t
 fs:∀k∈q.fs,∃r z,k=kk r z/\n<=r/\r<n+i
 eq:∀(tt:List Tr) (du:Kd),ic R tt->(gv=true->du=some hk)->∀f0,(c9 tt du q.ts (a9 ks,f0)).1=a9 q.ks/\(cB n f0->cB (n+i) (c9 tt du q.ts (a9 ks,f0)).2)/\∀k,k∈(c9 tt du q.ts (a9 ks,f0)).2↔k∈f0∨k∈q.fs
theorem mq(hO:gJ R)(g:jx R)(Ku:kM R ks):∀i,zt R gv hk n ks i (cC R gv hk n ks cs i)
 |0=>⟨Qh _,Ku,Qy _,λf h=>(by cases h),Qh _,λt h=>(by cases h),λk h=>(by cases h),λtt du _ _ f0=>⟨rfl,id,λk=>⟨.inl,λh=>h.elim id λh=>by cases h⟩⟩⟩
 |i+1=>by
  have h:=mq hO g (gv:=gv) (hk:=hk) (n:=n) Ku (cs:=cs) i;rw[cC];generalize cC R gv hk n ks cs i=q at h ⊢;generalize bj (cs.getD i 0) ((n+i:Nat):Int)=x;unfold iZ;split
  ·exact⟨by have:=h.kl;show q.ks.length<=_;lia,h.ko,QR (Hc _ _) h.rl,λf hf=>Hd h.fr f hf,by have:=h.tl;show q.ts.length<=_;lia,λt ht=>let z:=h.ts t ht;⟨z.1,by have:=z.2.1;lia,z.2.2⟩,λk hk=>by obtain⟨r,w,a,b,c⟩:=h.fs k hk;exact⟨r,w,a,b,by lia⟩,λtt du a b f0=>let z:=h.eq tt du a b f0;⟨z.1,λq=>(z.2.1 q).mono (Nat.le_succ _),z.2.2⟩⟩
  rename_i t ht;obtain⟨e1,e2⟩:=zr ht;have L:=sF g e1;obtain⟨w1,w2,w3,w4,w5⟩:=oR g (q.ks.map (·.1)) x;have KJ:=zg hO h.ko w1;unfold cw;refine⟨?_,?_,?_,λf hf=>?_,?_,λt' h'=>?_,λk h'=>?_,λtt du hT Jr f0=>?_⟩
  ·show(fR R q.ks t _).length<=_;have:=h.kl;unfold fR
   repeat' split
   ·lia
   ·rw[Qi,QP];lia
   lia
  ·show kM R (fR R q.ks t _);unfold fR
   repeat' split
   ·exact h.ko
   ·intro p hp;rcases Qv hp with hp|hp
    ·exact h.ko p hp
    rw[Qj hp];exact KJ
   exact h.ko
  ·show(iY _ q.r t).length<=3;have:=h.rl;unfold iY;split
   ·rename_i h0;have:¬2<q.r.length:=λz=>e2 ⟨h0,z⟩;rw[Qi,QP];lia
   exact this
  ·have hf:f∈iY q.B.length q.r t:=hf;unfold iY at hf;split at hf
   ·rename_i h0;rcases Qv hf with hf|hf
    ·exact h.fr f hf
    rw[Qj hf];exact⟨L.hd,h0⟩
   exact h.fr f hf
  ·show(q.ts++[t]).length<=_;have:=h.tl;rw[Qi,QP];lia
  ·rcases Qv h' with h' | h'
   ·have z:=h.ts t' h';exact⟨z.1,by have:=z.2.1;lia,z.2.2⟩
   rw[Qj h'];exact⟨by rw[L.row];lia,by rw[L.row];lia,L.ok,L.hd,by rw[L.ex];simp,L.bare⟩
  ·rcases Qv h' with h' | h'
   ·obtain⟨r,w,a,b,c⟩:=h.fs k h';exact⟨r,w,a,b,by lia⟩
   obtain⟨z,_,rfl⟩:=QJ h';exact⟨t.row,z,rfl,by rw[L.row];lia,by rw[L.row];lia⟩
  obtain⟨i1,i3,i2⟩:=h.eq tt du hT Jr f0;show(c9 tt du (q.ts++[t]) (a9 ks,f0)).1=_/\_
  have e:c9 tt du (q.ts++[t]) (a9 ks,f0)=bN tt du t (cg R (q.ks.map (·.1)) x) (a9 q.ks,(c9 tt du q.ts (a9 ks,f0)).2):=by
   unfold c9;rw[List.foldl_append,List.foldl_cons,List.foldl_nil];show(match t.ex with|some e=>bN tt du t e (c9 tt du q.ts (a9 ks,f0))|none=>_)=_;rw[L.ex];show bN tt du t _ (c9 tt du q.ts (a9 ks,f0))=_;have e3:(a9 q.ks,(c9 tt du q.ts (a9 ks,f0)).2)=c9 tt du q.ts (a9 ks,f0):=by rw[<-i1]
   exact congrArg (bN tt du t _) e3.symm
  obtain⟨j1,j2⟩:=G4 hO hT h.ko (t:=t) L.ex w1 (hd:=hk) (du:=du) (λz=>Jr (L.giv z)) (c9 tt du q.ts (a9 ks,f0)).2;show(c9 tt du (q.ts++[t]) (a9 ks,f0)).1=_/\(_->cB _ (c9 tt du (q.ts++[t]) (a9 ks,f0)).2)/\∀k,k∈(c9 tt du (q.ts++[t]) (a9 ks,f0)).2↔_;rw[e];refine⟨j1,λz=>?_,λk=>?_⟩
  ·have:=i3 z;rw[<-L.row] at this;have:=this.row (tt:=tt) (du:=du) (e:=cg R (q.ks.map (·.1)) x) (s:=(a9 q.ks,_));rw[L.row] at this;exact this
  rw[j2 k,i2 k];show _↔k∈f0∨k∈q.fs++(dr R q.ks hk t _).map (kk t.row);rw[List.mem_append,or_assoc];have:bM t.row (dr R q.ks hk t (cg R (q.ks.map (·.1)) x)) k↔k∈(dr R q.ks hk t (cg R (q.ks.map (·.1)) x)).map (kk t.row):=by unfold bM;rw[List.mem_map];exact⟨λhsl88=>by obtain⟨z,a,b⟩:=hsl88;exact⟨z,a,b.symm⟩,λhsl89=>by obtain⟨z,a,b⟩:=hsl89;exact⟨z,a,b.symm⟩⟩
  rw[this]
theorem zu(x:Int):∀i,(wQ x i).cps.toList.head?=some 113
 |0=>by show("q":Str).cps.toList.head?=some 113;decide +kernel
 |i+1=>by show(wQ x i++_).cps.toList.head?=_;rw[oC,List.head?_append,zu x i];rfl
theorem zv(x:Int)(i:Nat):(fO x i).cps.toList.head?=some 113:=by
 have hl:=yF x;have hA:1<=fq x:=by unfold fq;have:=Int.emod_nonneg (x/8) (show((((cr x).length:Nat):Int)-1)≠0 by lia);lia
 have hq:(cr x).cps.toList.head?=some 113:=zu x _
 have h1:(iH (cr x) none (some (fq x))).cps.toList.head?=some 113:=by
  rw[BA];have e0:HT.sIx (cr x).length 0 none=0:=rfl;have e1:1<=HT.sIx (cr x).length (cr x).length (some (fq x)):=by show 1<=HT.sIx _ _ (some (fq x));unfold HT.sIx;simp only;split<;>lia
  rw[e0,List.drop_zero,Nat.sub_zero]
  cases hc:(cr x).cps.toList with
  |nil=>rw[hc] at hq;cases hq
  |cons c cs =>
   rw[hc] at hq
   obtain⟨m,em⟩:∃m,HT.sIx (cr x).length (cr x).length (some (fq x))=m+1:=⟨_,(Nat.succ_pred_eq_of_pos e1).symm⟩
   rw[em];exact hq
 unfold fO;rw[oC,oC,List.head?_append,List.head?_append,h1];rfl
theorem oS{z y:Str}(h:z.cps.toList.head?=some 113)(hy:y.cps.toList.head?≠some 113):z≠y:=λe=>hy (by rw[<-e];exact h)
theorem zw:∀{hs:List ei},(hs.map (·.1)).Nodup->∀h∈hs,(hs.find? λx=>decide (x.1=h.1))=some h
 |x::hs,nd,h,hm=>by
  rw[List.map_cons,List.nodup_cons] at nd;rcases Qx hm with rfl|hm
  ·rw[List.find?_cons_of_pos (by simp)]
  have HL:x.1≠h.1:=λz=>nd.1 (z ▸ List.mem_map.mpr ⟨h,hm,rfl⟩);rw[List.find?_cons_of_neg (by simpa using HL)];exact zw nd.2 h hm
noncomputable def He:ei:=("","",[])
noncomputable def aL(is:List Int):Ct:=⟨ca (bj (bH is 0) 9),oI (ca (bj (bH is 0) 9)) (bH is 1)⟩
structure zx(R:Ct)(h:ei):Prop where
 kd:h.2.1∈eP R/\h.2.1≠""
 p2:h.2.2.length<=2
 pn:(h.2.2.map (·.1)).Nodup
 pk:∀p∈h.2.2,p.2∈eP R/\p.2≠""
theorem zy(x:Int){R:Ct}(hR:R.ns=ca x)(h:z∈cY (ca x)):z∈eP R/\z≠"":=by
 have h6:(ca x).getD 6 ""=fO x 6:=iT (by decide);unfold cY at h;unfold eP Ct.n6;rw[hR];simp only[List.mem_cons,List.not_mem_nil,or_false] at h ⊢;rcases h with rfl|rfl|rfl
 ·exact⟨.inr (.inl rfl),by decide⟩
 ·exact⟨.inr (.inr (.inl rfl)),by decide⟩
 exact⟨.inr (.inr (.inr rfl)),by rw[h6];exact oS (zv x 6) (by decide +kernel)⟩
theorem Hf{R:Ct}{x:Int}(hR:R.ns=ca x)(c:Int)(k:Nat):zx R (ia (ca x) c k):=by
 have kin:∀y:Int,(cY (ca x)).getD (y%3).toNat ""∈cY (ca x):=λy=>getD_mem' (ie (n:=3) (by decide));generalize hy:bj c (2+((k:Nat):Int))=y;have e:ia (ca x) c k=((ca x).getD (4+k) "",(cY (ca x)).getD (y%3).toNat "",(List.range (y/200%3).toNat).map (fP (ca x) y)):=by unfold ia;rw[hy]
 rw[e];have h3:(y/200%3).toNat<3:=ie (n:=3) (by decide);generalize (y/200%3).toNat=m at h3;refine⟨zy x hR (kin y),by simp;lia,?_,λp hp=>?_⟩
 ·show(((List.range m).map (fP (ca x) y)).map (·.1)).Nodup;rw[QY];refine List.Pairwise.map _ (λa b (h:a<b/\a<m/\b<m) z=>?_) ((List.pairwise_lt_range (n:=m)).imp_of_mem λha hb h=>⟨h,List.mem_range.mp ha,List.mem_range.mp hb⟩);have z:(fP (ca x) y a).1=(fP (ca x) y b).1:=z;unfold fP at z;simp only at z;obtain⟨f,ef,hf⟩:=fm (a:=y/3) (n:=4) (by decide);have ef:y/3%4=((f:Nat):Int):=ef;rw[ef] at z;have ea:((((f:Nat):Int)+((a:Nat):Int))%4).toNat=(f+a)%4:=by lia
  have eb:((((f:Nat):Int)+((b:Nat):Int))%4).toNat=(f+b)%4:=by lia
  rw[ea,eb,iT (by lia),iT (by lia)] at z;have:=oF (by lia) (by lia) z;lia
 obtain⟨j,_,rfl⟩:=QJ hp;have:=zy x hR (kin (y/(12+7*((j:Nat):Int))));exact this
theorem kO(is:List Int):∀h∈(aL is).hs,zx (aL is) h:=λh hh=>by obtain⟨k,_,rfl⟩:=QJ (show h∈(List.range _).map _ from hh);exact Hf rfl _ _
theorem jz(is:List Int):1<=(aL is).hs.length/\(aL is).hs.length<=2:=by
 show 1<=((List.range (1+(bH is 1%2).toNat)).map _).length/\_<=2;have:(bH is 1%2).toNat<2:=ie (n:=2) (by decide);have e:(aL is).hs.length=1+(bH is 1%2).toNat:=by show((List.range _).map _).length=_;simp
 rw[e];simp;lia
theorem Hg(is:List Int):((aL is).hs.map (·.1)).Nodup:=by have h2:=(jz is).2;show(((List.range (1+(bH is 1%2).toNat)).map (ia (ca (bj (bH is 0) 9)) (bH is 1))).map (·.1)).Nodup;have:(bH is 1%2).toNat<2:=ie (n:=2) (by decide);rw[QY];refine List.Pairwise.map _ (λa b (h:a<b/\a<2/\b<2) z=>?_) ((List.pairwise_lt_range (n:=1+(bH is 1%2).toNat)).imp_of_mem λha hb h=>⟨h,by have:=List.mem_range.mp ha;lia,by have:=List.mem_range.mp hb;lia⟩);have z:(ca (bj (bH is 0) 9)).getD (4+a) ""=(ca (bj (bH is 0) 9)).getD (4+b) "":=z;rw[iT (by lia),iT (by lia)] at z;have:=oF (by lia) (by lia) z;lia
theorem Hh(is:List Int):gJ (aL is):=by
 have h6:(aL is).n6=fO (bj (bH is 0) 9) 6:=iT (by decide);have hh:=zv (bj (bH is 0) 9) 6;refine⟨?_,?_,λh hh=>(kO is h hh).kd⟩
 ·show(ca _).getD 7 ""≠(ca _).getD 8 "";rw[iT (by decide),iT (by decide)];exact λz=>absurd (oF (by decide) (by decide) z) (by decide)
 rw[h6];exact⟨oS hh (by decide +kernel),oS hh (show("num":Str).cps.toList.head?≠_ by decide +kernel),oS hh (show("truth":Str).cps.toList.head?≠_ by decide +kernel)⟩
theorem Hi(is:List Int):jx (aL is):=⟨(jz is).1,λh hh=>(kO is h hh).p2,λh hh=>zw (Hg is) h hh⟩
theorem sI(is:List Int):(aL is).ns.Nodup:=by show((List.range 9).map (fO _)).Nodup;refine List.Pairwise.map _ (λa b (h:a<b/\a<9/\b<9) z=>?_) ((List.pairwise_lt_range (n:=9)).imp_of_mem λha hb h=>⟨h,List.mem_range.mp ha,List.mem_range.mp hb⟩);have:=oF h.2.1 h.2.2 z;omega
theorem zA(tt:List Tr)(du:Kd)(a b:List Tr)(s:cX):c9 tt du (a++b) s=c9 tt du b (c9 tt du a s):=List.foldl_append
mutual
theorem Hj(tt:List Tr)(du:Kd)(bd:Bd):∀(t:Tr),(∀x∈bQ bd t,x.1.ex≠none)->∀s,bV tt du t s=c9 tt du ((bQ bd t).map (·.1)) s
 |.set r n e,_,s=>rfl
 |.tell r e,_,s=>rfl
 |.give r e,_,s=>rfl
 |.kd r n ps,_,s=>rfl
 |.df r n k ps b,h,s=>absurd rfl (h (.df r n k ps [],bd) (by rw[bQ];exact .head _))
 |.whl r e b,h,s=>by rw[bQ] at h ⊢;rw[bV,kfTs_seq tt du bd b λx hx=>h x (.tail _ hx)];rfl
 |.iff r e b o,h,s=>by rw[bQ] at h ⊢;rw[bV,kfTs_seq tt du bd o λx hx=>h x (.tail _ (Qu _ hx)),kfTs_seq tt du bd b λx hx=>h x (.tail _ (QQ _ hx)),List.map_cons,QD,<-zA];rfl
theorem kfTs_seq(tt:List Tr)(du:Kd)(bd:Bd):∀(ts:List Tr),(∀x∈seqB bd ts,x.1.ex≠none)->∀s,kfTs tt du ts s=c9 tt du ((seqB bd ts).map (·.1)) s
 | [],_,s=>rfl
 |t::ts,h,s=>by rw[seqB] at h ⊢;rw[kfTs,kfTs_seq tt du bd ts λx hx=>h x (Qu _ hx),Hj tt du bd t λx hx=>h x (QQ _ hx),QD,zA]
end
mutual
theorem Hk(gv:Bool)(bd:Bd):∀(t:Tr),(∀x∈bQ bd t,iS gv x.1/\x.1.ex≠none)->iS gv t
 |.set r n e,h=>(h (.set r n e,bd) (by rw[bQ];exact .head _)).1
 |.tell r e,h=>(h (.tell r e,bd) (by rw[bQ];exact .head _)).1
 |.give r e,h=>(h (.give r e,bd) (by rw[bQ];exact .head _)).1
 |.kd r n ps,h=>(h (.kd r n ps,bd) (by rw[bQ];exact .head _)).1
 |.df r n k ps b,h=>absurd rfl (h (.df r n k ps [],bd) (by rw[bQ];exact .head _)).2
 |.whl r e b,h=>by rw[bQ] at h;exact⟨(h _ (.head _)).1.1,okTs_seq gv bd b λx hx=>h x (.tail _ hx)⟩
 |.iff r e b o,h=>by rw[bQ] at h;exact⟨(h _ (.head _)).1.1,okTs_seq gv bd b λx hx=>h x (.tail _ (QQ _ hx)),okTs_seq gv bd o λx hx=>h x (.tail _ (Qu _ hx))⟩
theorem okTs_seq(gv:Bool)(bd:Bd):∀(ts:List Tr),(∀x∈seqB bd ts,iS gv x.1/\x.1.ex≠none)->okTs gv ts
 | [],_=>trivial
 |t::ts,h=>by rw[seqB] at h;exact⟨Hk gv bd t λx hx=>h x (QQ _ hx),okTs_seq gv bd ts λx hx=>h x (Qu _ hx)⟩
end
theorem zB(bd:Bd):∀{ts:List Tr} {t:Tr},t∈ts->∃x∈seqB bd ts,x.1.row=t.row/\x.1.hd=t.hd
 |u::ts,t,h=>by
  rw[seqB];rcases Qx h with rfl|h
  ·have:∃x∈bQ bd t,x.1.row=t.row/\x.1.hd=t.hd:=by cases t<;>exact⟨_,by rw[bQ];exact .head _,rfl,rfl⟩
   obtain⟨x,hx,e⟩:=this;exact⟨x,QQ _ hx,e⟩
  obtain⟨x,hx,e⟩:=zB bd h;exact⟨x,Qu _ hx,e⟩
theorem Hl(t:Tr):1<=t.cnt:=by cases t<;>simp[Tr.cnt]<;>omega
theorem mr:∀(ts:List Tr),ts.length<=cnts ts
 | []=>Qh _
 |t::ts=>by have:=Hl t;have:=mr ts;rw[cnts,QU];lia
structure ig(R:Ct)(gv:Bool)(hk:Str)(n:Nat)(ks:List (Str×Str))(i:Nat)(q:FS)(ts:List Tr):Prop where
 kf:∀(tt:List Tr) (du:Kd),ic R tt->(gv=true->du=some hk)->∀f0,(kfTs tt du ts (a9 ks,f0)).1=a9 q.ks/\(cB n f0->cB (n+i) (kfTs tt du ts (a9 ks,f0)).2)/\∀k,k∈(kfTs tt du ts (a9 ks,f0)).2↔k∈f0∨k∈q.fs
 ok:okTs gv ts
 as:ascs ts
 dp:deeps ts<=4
 cn:cnts ts<=i
 rw:∀t∈ts,n<=t.row/\t.row<n+i/\t.hd=none
theorem sJ{q:FS}(F:zt R gv hk n ks i q)(p:PI n q.B (n+i))(hi:i<=7)(hs:∀bd,(bR q.B 4 bd 0).map (·.1)=q.ts):ig R gv hk n ks i q (bB q.B 4 0):=by
 have hs0:(seqB ((0,[]):Bd) (bB q.B 4 0)).map (·.1)=q.ts:=hs (0,[]);have hm:∀x∈seqB ((0,[]):Bd) (bB q.B 4 0),x.1∈q.ts:=λx hx=>by rw[<-hs0];exact List.mem_map.mpr ⟨x,hx,rfl⟩
 refine⟨λtt du hT Jr f0=>?_,okTs_seq gv (0,[]) _ λx hx=>?_,p.ascs (by lia) 4 0,wg _ _ _,?_,λt ht=>?_⟩
 ·rw[kfTs_seq tt du (0,[]) _ (λx hx=>(F.ts _ (hm x hx)).2.2.2.2.1),hs0];exact F.eq tt du hT Jr f0
 ·have g:=F.ts _ (hm x hx);exact⟨g.2.2.1,g.2.2.2.2.1⟩
 ·rw[cnt_seq (0,[]),<-Qg (f:=(·.1)),hs0];exact F.tl
 obtain⟨x,hx,e1,e2⟩:=zB (0,[]) ht;have g:=F.ts _ (hm x hx);rw[<-e1,<-e2];exact⟨g.1,g.2.1,g.2.2.2.1⟩
noncomputable def eX(is:List Int):List Int:=(is.drop 2).take 6
noncomputable def cutD(is:List Int)(j:Nat):List Int:=(is.drop (8+7*j)).take 7
noncomputable def fA(is:List Int):List Int:=(is.drop 22).take 6
noncomputable def cu(is:List Int)(j:Nat):ei:=(aL is).hs.getD j He
noncomputable def cv(is:List Int):FS:=cC (aL is) false "" (1+1) [] (eX is) (eX is).length
noncomputable def bW(is:List Int)(j:Nat):FS:=cC (aL is) true (cu is j).2.1 (20+20*j+1) (cu is j).2.2 (cutD is j) (cutD is j).length
noncomputable def fU(is:List Int):FS:=cC (aL is) false "" (70+1) (cv is).ks (fA is) (fA is).length
noncomputable def bu(q:FS):List Tr:=bB q.B 4 0
noncomputable def cH(is:List Int)(j:Nat):Tr:=.df (20+20*j) (cu is j).1 (cu is j).2.1 (cu is j).2.2 (bu (bW is j))
noncomputable def fV(is:List Int):Tr:=.kd 0 (aL is).n6 [((aL is).ns.getD 7 "","num"),((aL is).ns.getD 8 "","truth")]
noncomputable def dL(is:List Int)(m:Nat):List Tr:=fV is::(bu (cv is)++(List.range m).map (cH is))
noncomputable def bv(is:List Int):List Tr:=dL is (aL is).hs.length++bu (fU is)
noncomputable def i0(is:List Int)(j:Nat):List (List ae):=if cy (bu (bW is j))=0 then [kk (20+20*j) "give"] else []
noncomputable def gk(is:List Int)(m:Nat):List (List ae):=(cv is).fs++(List.range m).flatMap λj=>(bW is j).fs++i0 is j
noncomputable def oT(is:List Int):List (List ae):=gk is (aL is).hs.length++(fU is).fs
structure ii(is:List Int):Prop where
 b1:ig (aL is) false "" (1+1) [] (eX is).length (cv is) (bu (cv is))
 bd:∀j<(aL is).hs.length,ig (aL is) true (cu is j).2.1 (20+20*j+1) (cu is j).2.2 (cutD is j).length (bW is j) (bu (bW is j))
 b4:ig (aL is) false "" (70+1) (cv is).ks (fA is).length (fU is) (bu (fU is))
theorem sK(h:j<(aL is).hs.length):cu is j∈(aL is).hs:=getD_mem' h
theorem oU(is:List Int):(eX is).length<=6:=by unfold eX;rw[QH];lia
theorem sM(is:List Int)(j:Nat):(cutD is j).length<=7:=by unfold cutD;rw[QH];lia
theorem oV(is:List Int):(fA is).length<=6:=by unfold fA;rw[QH];lia
theorem Hm:∀{ps:List (Str×Str)},ps.length<=2->(ps.map (·.1)).Nodup->(∀p∈ps,p.2≠"")->jp ps=a9 ps
 | [],_,_,_=>rfl
 | [a],_,_,h=>by
  funext z;show(if z=a.1 then some (some a.2) else none)=(List.lookup z [a]).map bo;have ha:=fz (h a (.head _));by_cases hz:z=a.1
  ·rw[if_pos hz,hz,List.lookup_cons_self];show _=some (bo a.2);rw[ha]
  rw[if_neg hz,List.lookup_cons,beq_eq_false_iff_ne.mpr hz];rfl
 | [a,b],_,nd,h=>by
  funext z;show(if z=b.1 then some (some b.2) else if z=a.1 then some (some a.2) else none)=(List.lookup z [a,b]).map bo;have ha:=fz (h a (.head _));have hb:=fz (h b (.tail _ (.head _)));have hab:a.1≠b.1:=by simpa using nd
  by_cases hz:z=a.1
  ·rw[if_neg (by rw[hz];exact hab),if_pos hz,hz,List.lookup_cons_self];show _=some (bo a.2);rw[ha]
  rw[List.lookup_cons,beq_eq_false_iff_ne.mpr hz];by_cases hz2:z=b.1
  ·rw[if_pos hz2,hz2];show _=(List.lookup b.1 [b]).map bo;rw[List.lookup_cons_self];show _=some (bo b.2);rw[hb]
  rw[if_neg hz2,if_neg hz];show none=(List.lookup z [b]).map bo;rw[List.lookup_cons,beq_eq_false_iff_ne.mpr hz2];rfl
 |_::_::_::_,h,_,_=>by simp at h
theorem zC{ts:List Tr}(h:∀t∈ts,t.hd=none)(k:Str×Str):(ts.find? λt=>decide (t.hd=some k))=none:=List.find?_eq_none.mpr λt ht=>by rw[h t ht];simp
theorem Hn(is:List Int):(aL is).hs=(List.range (aL is).hs.length).map (cu is):=by refine List.ext_getElem (by simp) λi h1 h2=>?_;rw[List.getElem_map,List.getElem_range];unfold cu;rw[Qd,Qb h1];rfl
theorem zD(T:ii is):ic (aL is) (bv is):=by
 have e1:=λk=>zC (λt ht=>(T.b1.rw t ht).2.2) k;have e4:=λk=>zC (λt ht=>(T.b4.rw t ht).2.2) k;have ek:∀z:Str,((List.range (aL is).hs.length).map (cH is)).find? (λt=>decide (t.hd=some (("kind":Str),z)))=none:=λz=>List.find?_eq_none.mpr λt ht=>by obtain⟨j,_,rfl⟩:=QJ ht;show ¬decide (some (("def":Str),(cu is j).1)=some (("kind":Str),z))=true;rw[decide_eq_true_eq];intro h;exact absurd (Prod.mk.inj (Qs h)).1 (by decide)
 have fs:∀k,bG k (bv is)=if(fV is).hd=some k then some (fV is) else((List.range (aL is).hs.length).map (cH is)).find? (λt=>decide (t.hd=some k)):=λk=>by
  unfold bG bv dL;rw[List.cons_append,List.find?_cons];by_cases h:(fV is).hd=some k
  ·rw[if_pos h,Qn h]
  rw[if_neg h,Qk h,List.find?_append,List.find?_append,e1,e4,Option.or_none,Option.none_or]
 have hk:(fV is).hd=some (("kind":Str),(aL is).n6):=rfl;refine⟨⟨fV is,by rw[fs,if_pos hk],rfl⟩,λz hz=>?_,λz h hf=>?_⟩
 ·rw[fs,if_neg (λe=>hz (by rw[hk] at e;have:=Qs e;exact(Prod.mk.inj this).2.symm)),ek]
 rw[fs,if_neg (λe=>by rw[hk] at e;have:=(Prod.mk.inj (Qs e)).1;exact absurd this (by decide))];unfold Ct.find at hf;rw[Hn is,List.find?_map] at hf;rw[List.find?_map];have ep:((λt:Tr=>decide (t.hd=some (("def":Str),z)))∘cH is)=((λh:ei=>decide (h.1=z))∘cu is):=by funext j;show decide (some (("def":Str),(cu is j).1)=some (("def":Str),z))=decide ((cu is j).1=z);exact decide_eq_decide.mpr ⟨λe=>(Prod.mk.inj (Qs e)).2,λe=>by rw[e]⟩
 rw[ep]
 cases e:(List.range (aL is).hs.length).find? ((λh:ei=>decide (h.1=z))∘cu is) with
 |none=>rw[e] at hf;cases hf
 |some j =>
  rw[e] at hf;cases hf;exact⟨cH is j,rfl,rfl,rfl⟩
theorem zE(T:ii is)(s0:Env):∀(m:Nat),m<=(aL is).hs.length->∀f0,(kfTs (bv is) none ((List.range m).map (cH is)) (s0,f0)).1=s0/\(cB 20 f0->cB (20+20*m) (kfTs (bv is) none ((List.range m).map (cH is)) (s0,f0)).2)/\∀k,k∈(kfTs (bv is) none ((List.range m).map (cH is)) (s0,f0)).2↔k∈f0∨k∈(List.range m).flatMap λj=>(bW is j).fs++i0 is j
 |0,_,f0=>⟨rfl,id,λk=>⟨.inl,λh=>h.elim id λh=>by cases h⟩⟩
 |m+1,hm,f0=>by
  obtain⟨i1,i3,i2⟩:=zE T s0 m (by lia) f0;rw[List.range_succ,QD,ma];have hG:=kO is _ (sK (is:=is) (j:=m) (by lia));have ep:=Hm hG.p2 hG.pn λp hp=>(hG.pk p hp).2;obtain⟨j1,j3,j2⟩:=(T.bd m (by lia)).kf (bv is) (some (cu is m).2.1) (zD T) (λ_=>rfl) (d0 (20+20*m) (bu (bW is m)) (kfTs (bv is) none ((List.range m).map (cH is)) (s0,f0)).2);generalize kfTs (bv is) none ((List.range m).map (cH is)) (s0,f0)=S at i1 i2 i3 j2 j3;have e:kfTs (bv is) none ([m].map (cH is)) S=(S.1,(kfTs (bv is) (some (cu is m).2.1) (bu (bW is m)) (a9 (cu is m).2.2,d0 (20+20*m) (bu (bW is m)) S.2)).2):=by rw[<-ep];rfl
  rw[e];refine⟨i1,λz=>?_,λk=>?_⟩
  ·have lD:=sM is m;refine cB.mono (j3 ?_) (by lia);have z:=i3 z;unfold d0;split
   ·exact(z.mono (Nat.le_succ _)).one λa ha=>by obtain⟨r,w,rfl,l⟩:=z.lo a ha;exact jw l
   exact z.mono (Nat.le_succ _)
  show k∈(kfTs _ _ _ _).2↔_;rw[j2 k,List.flatMap_append,List.mem_append,<-or_assoc,<-i2 k,List.flatMap_cons,List.flatMap_nil,QA,List.mem_append]
  have:k∈d0 (20+20*m) (bu (bW is m)) S.2↔k∈S.2∨k∈i0 is m:=by
   unfold d0 i0;split
   ·rw[ml,List.mem_singleton]
   simp
  rw[this,or_assoc,or_comm (a:=k∈i0 is m)]
theorem sN(T:ii is):cB 80 (fK (bv is))/\∀k,k∈fK (bv is)↔k∈oT is:=by
 have hT:=zD T;have e0:(env0:Env)=a9 []:=rfl;obtain⟨a1,a3,a2⟩:=T.b1.kf (bv is) none hT (λz=>by cases z) []
 have e:fK (bv is)=(kfTs (bv is) none (bu (fU is)) (kfTs (bv is) none ((List.range (aL is).hs.length).map (cH is)) (kfTs (bv is) none (bu (cv is)) (a9 [],[])))).2:=by
  unfold fK
  conv=>lhs;arg 1;arg 3;unfold bv dL
  rw[ma,kfTs,ma];rw[e0];rfl
 rw[e];generalize hS:kfTs (bv is) none (bu (cv is)) (a9 [],[])=S at a1 a2 a3;obtain⟨b1,b3,b2⟩:=zE T S.1 _ (Qh _) S.2;have IE:(S.1,S.2)=S:=rfl;rw[IE] at b1 b2 b3;generalize kfTs (bv is) none ((List.range (aL is).hs.length).map (cH is)) S=S' at b1 b2 b3;obtain⟨c1,c3,c2⟩:=T.b4.kf (bv is) none hT (λz=>by cases z) S'.2;have Ka:(a9 (cv is).ks,S'.2)=S':=by rw[<-a1,<-b1]
 rw[Ka] at c2 c3;have h2:=(jz is).2;have l1:=oU is;have l4:=oV is;refine⟨(c3 ((b3 ((a3 ⟨.nil,λk h=>by cases h⟩).mono (by lia))).mono (by lia))).mono (by lia),λk=>?_⟩;rw[c2 k,b2 k,a2 k];unfold oT gk;rw[List.mem_append,List.mem_append];simp
theorem ms:∀{a b:List Tr},ascs a->ascs b->(∀x∈a,∀y∈b,x.row<y.row)->ascs (a++b)
 | [],b,_,h,_=>h
 |t::a,b,h,g,k=>⟨h.1,λu hu=>(Qv hu).elim (h.2.1 u) λhu=>k t (.head _) u hu,ms h.2.2 g λx hx y hy=>k x (.tail _ hx) y hy⟩
theorem mv:∀{a b:List Tr},okTs du a->okTs du b->okTs du (a++b)
 | [],b,_,h=>h
 |t::a,b,h,g=>⟨h.1,mv h.2 g⟩
theorem oW:∀(a b:List Tr),deeps (a++b)=max (deeps a) (deeps b)
 | [],b=>by rw[List.nil_append,deeps];lia
 |t::a,b=>by rw[List.cons_append,deeps,deeps,oW a b];lia
theorem sO(T:ii is):∀(m:Nat),m<=(aL is).hs.length->ascs ((List.range m).map (cH is))/\okTs false ((List.range m).map (cH is))/\deeps ((List.range m).map (cH is))<=5/\cnts ((List.range m).map (cH is))<=8*m
 |0,_=>⟨trivial,trivial,Qy _,Qh _⟩
 |m+1,hm=>by
  obtain⟨i1,i2,i4,i5⟩:=sO T m (by lia);have B:=T.bd m (by lia);have hG:=kO is _ (sK (is:=is) (j:=m) (by lia));have hl:=sM is m;have hcn:=B.cn;have hln:=mr (bu (bW is m));have hdp:=B.dp;rw[List.range_succ,QD];refine⟨ms i1 ⟨⟨by have:=hG.p2;lia,by lia,B.as⟩,λu hu=>(by cases hu),trivial⟩ λx hx y hy=>?_,mv i2 ⟨B.ok,trivial⟩,?_,?_⟩
  ·obtain⟨j,hj,rfl⟩:=QJ hx;rw[Qj hy];have:=List.mem_range.mp hj;show 20+20*j<20+20*m;lia
  ·rw[oW];show max _ (max (deeps (bu (bW is m))+1) 0)<=5;lia
  rw[nq];show _+(1+cnts (bu (bW is m))+0)<=_;lia
theorem zF(T:ii is):cnts (bv is)<=29:=by have h2:=(jz is).2;have d5:=(sO T _ (Qh _)).2.2.2;have c1:=T.b1.cn;have c4:=T.b4.cn;have l1:=oU is;have l4:=oV is;unfold bv dL;rw[nq,cnts,nq];have:(fV is).cnt=1:=rfl;lia
theorem zG(is:List Int)(T:ii is)(h:cnts (bv is)<=29):(fK (bv is)).length<=87:=by have:(fK (bv is)).length<=0+3*cnts (bv is):=kfTs_len (bv is) none (bv is) (env0,[]);lia
theorem zH(T:ii is):rW (bv is):=by
 have h2:=(jz is).2;obtain⟨d1,d2,d4,d5⟩:=sO T _ (Qh _);have c1:=T.b1.cn;have c4:=T.b4.cn;have l1:=oU is;have l4:=oV is;have p1:=T.b1.dp;have p4:=T.b4.dp;have hcn:=zF T;have hdp:deeps (bv is)<=5:=by unfold bv dL;rw[oW,deeps,oW];have:(fV is).deep=0:=rfl;lia
 have hln:=mr (bv is);have rd:∀y∈(List.range (aL is).hs.length).map (cH is),20<=y.row/\y.row<=40:=λy hy=>by obtain⟨j,hj,rfl⟩:=QJ hy;have:=List.mem_range.mp hj;show 20<=20+20*j/\20+20*j<=40;lia
 have ak:((fV is)::[])++(bu (cv is)++(List.range (aL is).hs.length).map (cH is))++bu (fU is)=bv is:=rfl;refine⟨by lia,by lia,?_,?_,by lia,?_⟩
 ·rw[<-ak];refine ms (ms ⟨by show 2<=20;decide,λu hu=>(by cases hu),trivial⟩ (ms T.b1.as d1 λx hx y hy=>?_) λx hx y hy=>?_) T.b4.as λx hx y hy=>?_
  ·have:=(T.b1.rw x hx).2.1;have:=(rd y hy).1;lia
  ·rw[Qj hx];show 0<y.row;rcases Qv hy with hy|hy
   ·have:=(T.b1.rw y hy).1;lia
   have:=(rd y hy).1;lia
  have h4:=(T.b4.rw y hy).1;rcases Qv hx with hx|hx
  ·rw[Qj hx];show 0<y.row;lia
  rcases Qv hx with hx|hx
  ·have:=(T.b1.rw x hx).2.1;lia
  have:=(rd x hx).2;lia
 ·rw[<-ak];exact mv (mv ⟨trivial,trivial⟩ (mv T.b1.ok d2)) T.b4.ok
 refine vt (QE (zG is T hcn) (by decide)) (oB _).1 oP (sN T).1.pw
theorem LJ.sq{k:Nat}{as:List Addr}{r:List Fr}(h:LJ oo H0 H a du st tp ks ds k as B r qs){t:Tr}(hpi:PI oo (br B (b8 r) [t]) (k+1))(hr:r.length<=3)(bd:Bd):(bR (br B (b8 r) [t]) 4 bd 0).map (·.1)=(bR B 4 bd 0).map (·.1)++[t]:=by obtain⟨b,hb,hd⟩:=h.sk.pt h.pi _ _ (jv r);have e:=wn h.pi hb (h.sk.pt h.pi) (h.sk.chn h.pi) (t:=t) (by rw[hd];exact jv r) (by rw[sy,hd]) hpi (ci r) 0 rfl (by simp[ci]) 4 bd (by rw[sy];lia);have e:bR (br B (b8 r) [t]) 4 bd 0=bR B 4 bd 0++[(t,lM B (ci r) bd)]:=e;rw[e,QD];rfl
section
variable {oo:Nat}{H0 H:Hp}{a du st tp:Addr}{ks:List (Str×Str)}{ds:List (List ae)}{k:Nat}{as:List Addr}{B:List Bk}{r:List Fr}{qs:List Addr}
theorem LJ.pop{f:Fr}{q:Addr}(h:LJ oo H0 H a du st tp ks ds k as B (r++[f]) (qs++[q])):LJ oo H0 (ag H st (.lst (qs.map V.ref))) a du st tp ks ds k as B r qs:=by
 have hql:qs.length=r.length+1:=by have:=h.ql;simpa using this
 refine h.stk h.sk.pop hql (λx hx=>h.q0 x (by rw[Ql (by lia)];exact hx)) λe x g hx hg=>?_;have he:=(Qc hg).1;exact h.qf e x g (by rw[Ql (by lia)];exact hx) (by rw[Ql he];exact hg)
theorem LJ.push{f:Fr}(h:LJ oo H0 H a du st tp ks ds k as B r qs)(hq:H q=none)(sk:Sk B (r++[f]))(hu:dw H u f.t (f.ks.map λj=>as.getD j 0)):LJ oo H0 (ag (ag H q (.tup [.ref (as.getD f.x 0),if f.w="else" then .non else .ref u])) st (.lst ((qs++[q]).map V.ref))) a du st tp ks ds k as B (r++[f]) (qs++[q]):=by
 have s:=aj (o:=.tup [.ref (as.getD f.x 0),if f.w="else" then .non else .ref u]) hq;have h1:=h.same s;refine h1.stk sk (by rw[Qi,Qi,h.ql];rfl) (λx hx=>h1.q0 x (by rw[Ql (by have:=h.ql;lia)] at hx;exact hx)) λe x g hx hg=>?_;by_cases he:e<r.length
 ·exact h1.qf e x g (by rw[Ql (by have:=h.ql;lia)] at hx;exact hx) (by rw[Ql he] at hg;exact hg)
 have he2:=(Qc hg).1;have he3:e=r.length:=by rw[Qi,QP] at he2;lia
 subst he3;have hg:f=g:=by simpa using hg
 have hx:q=x:=by rw[<-h.ql] at hx;simpa using hx
 rw[<-hg,<-hx];exact⟨u,ah,hu.kept s.tups⟩
end
def zI(H:Hp)(o:Option Tr)(v:V)(H':Hp):Prop:=Same H H'/\((o=none/\v=.non)∨∃t u bs,o=some t/\v=.ref u/\H u=none/\dw H' u t bs/\bs.length=t.nb/\bs.Nodup/\∀b∈bs,H b=none/\H' b=some (.lst []))
theorem Ho{b1 b2:Bool}{T U E:Prop}(k:(if b2=true then T else U)->E)(h:if(b1||b2)=true then T else U):if b1=true then(if true=true then T else U) else E:=by
 cases b1
 ·rw[if_neg (by simp)];exact k (by simpa using h)
 rw[if_pos rfl,if_pos rfl];simpa using h
theorem Hq(h:kk r a=kk r b):a=b:=by unfold kk at h;simpa using h
theorem oX(h:kk r a=kk s b):r=s:=by unfold kk at h;have:=(List.cons.inj h).1;injection this with this;lia
theorem zJ{t:Tr}{bs:List Addr}(h:dw H u t bs):∃HN,H u=some (.tup (.str t.kw::.int ((t.row:Nat):Int)::HN)):=by obtain⟨vs,h1,h2⟩:=zk h;obtain⟨ps,e⟩:=G5 t;rw[e] at h2;obtain⟨q,e1,_⟩:=fh h2;exact⟨_,by rw[h1,e1];rfl⟩
def Hr(H:Hp)(vh:V)(gv:Bool)(hk:Str):Prop:=(gv=false/\vh=.non)∨(gv=true/\∃q z pp,vh=.ref q/\H q=some (.tup [.str z,.str hk,.ref pp]))
noncomputable def sP:List ae->List ae
 |.inl r::_=>[.inl (r/20*20),.inr "give"]
 |_=>[]
def i6(fs ds:List (List ae)):Prop:=ds.Nodup/\(∀k,k∈ds↔k∈fs)/\ds.Pairwise λa b=>bm b a=true->b=sP a
theorem lt_str{x y:Str}(h:x.cps.toList<y.cps.toList):bm (kk r y) (kk r x)=false:=by refine iK ?_;rw[mo];show(if(Sum.inr x:ae)=.inr y then _ else decide (x.cps.toList<y.cps.toList))=true;rw[if_neg (λe=>by injection e with e;rw[e] at h;exact absurd h (List.lt_irrefl _))];exact Qn h
inductive zK (vs:List V) (H:Hp) (Q:VK) (E:XK):Prop
 |mk:∀(cl a hp l du:Addr) (vh:V) (gv:Bool) (hk:Str) (cs:List Int) (Ic:Nat) (ks:List (Str×Str)) (R:Ct) (ys:List V) (ds:List (List ae)),vs=[.ref cl,.int ((Ic:Nat):Int),.ref a,vh,.ref hp,.ref l,.ref du]->H cl=some (.lst (cs.map V.int))->cs.length<=7->cl≠du->a≠du->H a=some (.dK (bD ks))->ks.length<=10->kM R ks->fQ (bE H [a,du]) hp l R->R.ns.Nodup->gJ R->jx R->Hr H vh gv hk->H du=some (.lst ys)->bA H ys ds->ds.length<=200->(∀(tp:Addr) (us:List Addr) (Ib:List V) (HV:List (List ae)) (H':Hp),H tp=none->Same (bE H [a,du]) H'->H' a=some (.dK (bD (cC R gv hk (Ic+1) ks cs cs.length).ks))->H' du=some (.lst Ib)->bA H' Ib (ds++HV)->i6 (cC R gv hk (Ic+1) ks cs cs.length).fs HV->HV.length<=28->PI (Ic+1) (cC R gv hk (Ic+1) ks cs cs.length).B (Ic+1+cs.length)->H' tp=some (.lst (us.map V.ref))->(∀L:List Addr,(∀x∈L,H x≠none/\∀zs,H' x≠some (.tup zs))->LAt (bE H' L) false (us.map V.ref) (bB (cC R gv hk (Ic+1) ks cs cs.length).B 4 0))->(∀bd,(bR (cC R gv hk (Ic+1) ks cs cs.length).B 4 bd 0).map (·.1)=(cC R gv hk (Ic+1) ks cs cs.length).ts)->Q (.ref tp) H')->zK vs H Q E
noncomputable abbrev Hs:List Str:=["_law_cells","_law_at","_law_known","_law_head","_law_heads_here","_law_names_here","_law_due","_law_top","_law_stack","_law_cell","_law_number","_law_row_here","_law_opener"]
theorem zL:bf Hs Yd (aJ qX):=by decide +kernel
theorem Ht(T:All P w K mg AA DD):aE P w K mg base aG 9 AA.ZK DD.ZK Yd zK:=by
 have GX:=md (base:=base) T;have GRW:=GQ (base:=base) T;have GNT:=G1 (base:=base) T;refine T.z_ZK.F.ok zL (λvs H Q E h=>by cases h;subst_vars;rfl) λHQ A outer s H vs Q E hr h=>?_;obtain⟨cl,a,hp,l,du,vh,gv,hk,cs,Ic,ks,R,ys,ds,rfl,IM,hcs,IY,HL,ha,Jp,hko,hR,I0,hO,hG,hv,Jr,hds,Jy,kq⟩:=h;have nd:=zL.nd;have hrN:aB 8 _:=hr;have hrR:aB 6 _:=hrN.mono (by lia);have HX:aB 1 _:=hrN.mono (by lia);have hu:=QE (Nat.add_le_add_left (show 1<=64 by decide) _) hr.units;have F:=λi=>mq hO hG (gv:=gv) (hk:=hk) (n:=Ic+1) hko (cs:=cs) i;have hf0:cC R gv hk (Ic+1) ks cs 0=zq ks:=rfl;refine⟨_,(aq (aQ (i:=7) nd rfl (Or.inl rfl) (cb af)) (aq (aQ (i:=8) nd rfl (Or.inl rfl) (cb (aa (aR (aa (pv 7) (aa gm af))) af))) (aq (dC PassesOwn.never rfl (cG (pv 0)) (ba (i:=9) nd rfl (Or.inl rfl)) (aq (aQ (i:=1) nd rfl (Or.inl rfl) (aD dD (pv 1) ar)) (aq (aQ (i:=10) nd rfl (Or.inl rfl) (aO GX HX rfl T.z_ZA (aa (pv 9) (aa (pv 1) af)))) (aq (aQ (i:=11) nd rfl (Or.inl rfl) (aO GRW hrR rfl T.z_ZN (aa (pv 10) (aa (pv 1) (aa (pv 2) (aa (pv 3) (aa (pv 4) (aa (pv 5) af)))))))) (aq (aV (PW.pt (dB (gn (ik (pv 11))) (dB (PW.pt (jE (aH bi (av (pv 11)) au (aI _)) (jD (aH bi (av (pv 11)) au (aI _))))) (fC (aH pB (dO lI rfl T.n_len gS (aa (pv 8) af)) ar (aI _)))))) (ap (aQ (i:=11) nd rfl (Or.inl rfl) gm)) be) (aq (aV (gn (ik (pv 11))) (aq (bF (gc (av (bY eF (pv 8) (mI mK ar) (λ_ _=>rfl))) (aa (pv 11) af)) (by rfl)) (ap (bF (aO GNT hrN rfl T.z_ZD (aa (pv 11) (aa (pv 2) (aa (pv 3) (aa (pv 4) (aa (pv 5) (aa (pv 6) af))))))) (by rfl)))) be) (ap (aV (PW.pt (dB (gn (ik (pv 11))) (fC (PW.pt (jE (aH bi (av (pv 11)) au (aI _)) (jD (aH bi (av (pv 11)) au (aI _)))))))) (ap (bF (gc (pv 8) (aa (aR (aa (av (pv 11)) (aa (pv 11) af))) af)) (by rfl))) (ap (aV (PW.pt (dB (aH bi (aD ck (pv 10) ar) ar (aI _)) (dB (gn (ik (av (bY eF (pv 8) (mI mK ar) (λ_ _=>rfl))))) (fC (aH bi (dO lI rfl T.n_len gS (aa (av (bY eF (pv 8) (mI mK ar) (λ_ _=>rfl))) af)) ar (aI _)))))) (aq (aQ (i:=12) nd rfl (Or.inl rfl) (av (vP (pv 8)))) (ap (bF (gc (pv 8) (aa (aR (aa (av (pv 12)) (aa gm af))) af)) (by rfl)))) (ap (aV (PW.pt (dB (aH pB (aD ck (pv 10) ar) ar (aI _)) (fC (aH pB (dO lI rfl T.n_len gS (aa (pv 8) af)) ar (aI _))))) (ap (bF (vP (pv 8)) (by rfl))) be))))))))))) (by intro _;rfl)) (ap (aN (pv 7)))))),?_⟩;refine⟨cT,λtp Ji=>?_⟩;dsimp only[aP];refine⟨_,rfl,bg,λq0 hq0=>⟨ij,λst hst=>?_⟩⟩;dsimp only[aP]
 have J0:LJ (Ic+1) H (ag (ag (ag H tp (.lst ([]:List V))) q0 (.tup [.ref tp,.non])) st (.lst [.ref q0])) a du st tp ks (ds++[]) (Ic+1) [tp] [⟨0,[]⟩] [] [q0]:=by
  have s1:=aj (o:=.lst ([]:List V)) Ji;have s2:=aj (o:=.tup [.ref tp,.non]) hq0;have s3:=aj (o:=.lst [.ref q0]) hst;have ss:=(s1.trans s2).trans s3;have hst0:H st=none:=(s1.trans s2).free hst;have ntp:st≠tp:=λz=>by rw[z] at hst;have:=s2 _ _ (ah (H:=H) (a:=tp) (o:=.lst ([]:List V)));rw[hst] at this;cases this
  have htps:ag (ag (ag H tp (.lst ([]:List V))) q0 (.tup [.ref tp,.non])) st (.lst [.ref q0]) tp=some (.lst []):=s3 _ _ (s2 _ _ ah)
  have one:∀{i:Nat} {b:Bk},[(⟨0,[]⟩:Bk)][i]?=some b->i=0/\b=⟨0,[]⟩:=λ{i b} h=>by
   cases i with
   |zero=>exact⟨rfl,(Qs h).symm⟩
   |succ n=>simp at h
  refine⟨λb o hb=>ss _ _ (eB hb).2,ss _ _ ha,⟨ys,ss _ _ Jr,by rw[QA];exact dH hds ss.tups⟩,⟨rfl,by simp,λi x b hx hb=>?_⟩,⟨λb hb=>?_,λb hb=>?_,λi j x y hi hj KN=>?_⟩,Qh _,⟨⟨_,rfl,rfl⟩,λe p f hp hf=>by simp at hf⟩,rfl,ah,rfl,λq hq=>?_,λe q f hq hf=>by simp at hf,⟨by simpa using ntp,λz=>?_,λz=>?_,λz=>?_,λz=>?_,HL⟩,hst0,λx hx=>?_⟩
  ·obtain⟨rfl,rfl⟩:=one hb;have hx:tp=x:=by simpa using hx
   rw[<-hx];exact⟨[],htps,rfl,λk u q h1 h2=>by simp at h1⟩
  ·rw[Qj hb];exact⟨Qy _,by simp,.nil,λq hq=>by simp at hq⟩
  ·rw[Qj hb];exact .nil
  ·exact absurd ((one hi).1.trans (one hj).1.symm) KN
  ·have hq:q0=q:=by simpa using hq
   rw[<-hq];exact s3 _ _ ah
  ·rw[Qj z,Ji] at ha;cases ha
  ·rw[Qj z,Ji] at Jr;cases Jr
  ·rw[<-z,hst0] at ha;cases ha
  ·rw[<-z,hst0] at Jr;cases Jr
  rw[Qj hx];exact Ji
 have hcl1:ag (ag (ag H tp (.lst ([]:List V))) q0 (.tup [.ref tp,.non])) st (.lst [.ref q0]) cl=some (.lst (cs.map V.int)):=aj hst _ _ (aj hq0 _ _ (aj Ji _ _ IM));generalize ag (ag (ag H tp (.lst ([]:List V))) q0 (.tup [.ref tp,.non])) st (.lst [.ref q0])=H1 at J0 hcl1 ⊢
 have hcna:cl∉[a,du]:=λz=>by
  rcases Qx z with z|z
  ·rw[z,ha] at IM;cases IM
  exact IY (Qj z)
 refine⟨_,rfl,cl,rfl,⟨_,am.of hcl1⟩,?_⟩;refine nz (K:=K0) (a:=cl) (xs:=cs.map V.int) (λi σ' H'=>∃as qs HV x9 Jk JG Kn,i<=7/\LJ (Ic+1) H H' a du st tp (cC R gv hk (Ic+1) ks cs i).ks (ds++HV) (Ic+1+i) as (cC R gv hk (Ic+1) ks cs i).B (cC R gv hk (Ic+1) ks cs i).r qs/\i6 (cC R gv hk (Ic+1) ks cs i).fs HV/\HV.length<=4*i/\(∀bd,(bR (cC R gv hk (Ic+1) ks cs i).B 4 bd 0).map (·.1)=(cC R gv hk (Ic+1) ks cs i).ts)/\σ'=[some (.ref cl),some (.int ((Ic+i:Nat):Int)),some (.ref a),some vh,some (.ref hp),some (.ref l),some (.ref du),some (.ref tp),some (.ref st),x9,Jk,JG,Kn]) ⟨[tp],[q0],[],_,_,_,_,Qy _,J0,⟨.nil,λk=>Iff.rfl,.nil⟩,Qh _,λbd=>rfl,rfl⟩ (λi σ' H' _ h=>?_) ?_ ?_
 ·obtain⟨as,qs,HV,x9,Jk,JG,Kn,_,h,_⟩:=h;exact am.of (h.sm _ _ (c8 hcna IM))
 ·rintro i y σ' H2 hy ⟨as,qs,HV,x9,Jk,JG,Kn,hi7,J,hD,hdsl,hsq,rfl⟩ D1 hN;obtain⟨hm,ey⟩:=j8 hy;subst ey;refine⟨_,rfl,_,_,rfl,rfl,?_⟩;dsimp only[aP];refine⟨_,rfl,_,rfl,_,_,rfl,?_⟩;dsimp only[aP];have Fi:=F i;have hfn:cC R gv hk (Ic+1) ks cs (i+1)=iZ R gv hk (Ic+1+i) (bj cs[i] ((Ic+1+i:Nat):Int)) (cC R gv hk (Ic+1) ks cs i):=by show iZ _ _ _ _ (bj (cs.getD i 0) _) _=_;rw[Qd,Qb hm];rfl
  rw[hfn] at hN;have ea:Ic+(i+1)=Ic+1+i:=by lia
  simp only[ea] at hN;have eat:((Ic+i:Nat):Int)+1=((Ic+1+i:Nat):Int):=by lia
  rw[eat];generalize bj cs[i] ((Ic+1+i:Nat):Int)=x at hN ⊢;generalize cC R gv hk (Ic+1) ks cs i=q at J hD hsq hN Fi;refine za (λσ' H'=>∃v,σ'=[some (.ref cl),some (.int ((Ic+1+i:Nat):Int)),some (.ref a),some vh,some (.ref hp),some (.ref l),some (.ref du),some (.ref tp),some (.ref st),some (.int cs[i]),some (.int x),some v,Kn]/\zI H2 (iW R (q.ks.map (·.1)) gv (Ic+1+i) x) v H') (λRR HP=>⟨_,rfl,_,rfl,_,rfl,_,rfl,_,rfl,_,rfl,x,Ic+1+i,a,hp,l,vh,gv,q.ks,R,rfl,J.ka,by have:=Fi.kl;lia,hR.same J.sm,hv.imp id λhsl90=>by obtain⟨g,q',_,_,e,_⟩:=hsl90;exact⟨g,q',e⟩,λhn H3 s3=>HP _ _ ⟨_,rfl,s3,.inl ⟨hn,rfl⟩⟩,λt ht u bs H3 h1 s3 h2 h3 h4 h5=>HP _ _ ⟨_,rfl,s3,.inr ⟨t,u,bs,ht,rfl,h1,h2,h3,h4,h5⟩⟩⟩) ?_;rintro σ' H3 ⟨v,rfl,s3,ho⟩;have hql:=J.ql;have hrl:=Fi.rl;refine gU (λσ' H'=>∃v,σ'=[some (.ref cl),some (.int ((Ic+1+i:Nat):Int)),some (.ref a),some vh,some (.ref hp),some (.ref l),some (.ref du),some (.ref tp),some (.ref st),some (.int cs[i]),some (.int x),some v,Kn]/\zI H2 (jy R (q.ks.map (·.1)) gv (Ic+1+i) x q.r.length) v H') (λRR HP=>?_) ?_
  ·rcases ho with ⟨hn,rfl⟩|⟨t,u,bs,ht,rfl,h1,h2,h3,h4,h5⟩
   ·refine⟨_,rfl,_,rfl,bh (by rw[Qn rfl];rfl) (eD (HP _ _ ⟨_,rfl,s3,.inl ⟨by unfold jy;rw[hn],rfl⟩⟩))⟩
   obtain⟨HN,hu3⟩:=zJ h2;have L:=sF hG ht;have hst3:=s3 _ _ J.hst;have hln:(((qs.map V.ref).length:Nat):Int)=((q.r.length+1:Nat):Int):=by rw[Qg,hql]
   have l2:decide ((3:Int)<((q.r.length+1:Nat):Int))=decide (2<q.r.length):=decide_eq_decide.mpr (by lia);refine⟨_,rfl,_,rfl,bS (by rw[Qk λz=>nomatch z];rfl) ?_⟩;refine aw 0 rfl hu3 rfl ⟨rfl,_,rfl,?_⟩;rw[dJ];refine y7 (b2:=decide (t.kw="while")) (b3:=decide (2<q.r.length)) (λh=>(aw 0 rfl hu3 rfl ⟨rfl,_,rfl,by rw[dJ];exact h⟩)) (λh=>⟨_,rfl,st,_,rfl,.inl (am.of hst3),_,_,rfl,rfl,_,rfl,by rw[hln,l2];exact h⟩) ?_
   have hk:(decide (t.kw="if")||decide (t.kw="while"))=decide (t.nb≠0):=by
    rcases L.way with ⟨e1,e2,e3⟩|⟨e1,e2⟩|⟨e1,e2⟩
    ·rw[Qk e2,Qk e3,e1];rfl
    ·rw[e1,e2];rfl
    rw[e1,e2];rfl
   rw[hk];refine cN (λhc=>?_) (λhc=>?_)
   ·rw[QL] at hc;exact HP _ _ ⟨_,rfl,s3,.inl ⟨by unfold jy;rw[ht];exact if_pos ⟨QO hc.1,QO hc.2⟩,rfl⟩⟩
   exact HP _ _ ⟨_,rfl,s3,.inr ⟨t,u,bs,by unfold jy;rw[ht];exact if_neg (λz=>hc (by rw[QL];exact⟨Qn z.1,Qn z.2⟩)),rfl,h1,h2,h3,h4,h5⟩⟩
  clear ho s3;rintro σ' H3 ⟨v,rfl,s3,ho⟩
  rcases ho with ⟨hn,rfl⟩|⟨t,u,bs,ht,rfl,h1,h2,h3,h4,h5⟩
  ·
   have hst:iZ R gv hk (Ic+1+i) x q={q with r:=fT q.r x}:=by unfold iZ;rw[hn]
   rw[hst] at hN;have J3:=(J.same s3).up;refine⟨_,rfl,_,rfl,bh (by rw[Qn rfl];rfl) ?_⟩;refine⟨_,rfl,_,rfl,bh (by rw[Qn rfl];rfl) (eD ?_)⟩;obtain⟨JC,qq,ai,y,vs,eqq,hqq,JK,hav,hvl,Lp⟩:=J3.last;have Jb:H3 st=some (.lst (JC.map V.ref++[V.ref qq])):=by rw[J3.hst,eqq];simp
   have hls:(y=.non/\iX q.r=q.r)∨∃(r0:List Fr) (f:Fr) (u:Addr),q.r=r0++[f]/\JC.length=r0.length+1/\f.w≠"else"/\y=.ref u/\dw H3 u f.t (f.ks.map λj=>as.getD j 0):=by
    rcases Lp with ⟨er,ey⟩|⟨r0,f,er,hl0,⟨ew,ey⟩|⟨ew,u,ey,hu⟩⟩
    ·exact .inl ⟨ey,by rw[er];rfl⟩
    ·refine .inl ⟨ey,?_⟩;unfold iX;rw[er,List.getLast?_concat];exact if_neg λz=>z.1 ew
    exact .inr ⟨r0,f,u,er,hl0,ew,ey,hu⟩
   have hfo:∀{r0:List Fr} {f:Fr},q.r=r0++[f]->f.w≠"else"->f.t.hd=none/\f.t.nb≠0/\f.ks.length=f.t.nb/\(f.t.nb=2->f.w="if"/\∃zz,f.ks=[f.x,zz]):=λ{r0 f} er ew=>by
    have hf:q.r[r0.length]?=some f:=by rw[er];simp
    obtain⟨pp,hpp⟩:=sx hf;have fo:=J3.sk.ok r0.length pp f hpp hf;have hd:=Fi.fr f (Qq hf);have hn:f.ks.length=f.t.nb:=by obtain⟨bb,init,e1,e2⟩:=fo.row;exact((J3.pi.at e1).rw (f.t,f.ks) (by rw[e2];simp)).nb
    refine⟨hd.1,hd.2,hn,λh2=>?_⟩
    rcases fo.way with ⟨_,_,w'⟩|⟨w',⟨z',_,e',_⟩,_⟩|⟨_,w',_⟩|⟨w',_⟩
    ·exact absurd hd.1 w'
    ·exact⟨w',z',e'⟩
    ·rw[w',h2] at hn;cases hn
    exact absurd w' ew
   refine⟨_,rfl,_,_,rfl,rfl,(by show(0:Int)<12;decide),rfl,_,rfl,?_⟩;have dint:decide (V.int (x%12)=V.int 9)=decide (x%12=9):=decide_eq_decide.mpr ⟨λh=>by injection h,λh=>by rw[h]⟩;rw[dint];refine gI (b2:=!decide (y=.non)&&decide ((q.r.getLast?.map λf=>f.t.nb).getD 0=2)) (λ_ h=>?_) ?_
   ·refine⟨_,rfl,_,rfl,st,_,_,_,rfl,rfl,am.of Jb,mO _ _,qq,_,_,_,rfl,rfl,ao.of hqq,aY (j:=1) rfl,_,rfl,?_⟩;refine gI (b2:=decide ((q.r.getLast?.map λf=>f.t.nb).getD 0=2)) (λhy h=>?_) h
    rcases hls with ⟨ey,_⟩|⟨r0,f,u,er,hl0,ew,ey,hu⟩
    ·rw[ey] at hy;simp at hy
    subst ey;obtain⟨hd,hn0,hn,_⟩:=hfo er ew;rw[er,List.getLast?_concat] at h
    have hrow:∃xs,H3 u=some (.tup xs)/\decide (V.int ((xs.length:Nat):Int)=V.int 5)=decide (f.t.nb=2):=by
     obtain⟨ws,e1,e2⟩:=zk hu;have hl:=e2.length;have hl:ws.length=3:=by generalize f.t=t at hl hd hn0;cases t<;>first|exact hl|exact absurd rfl hn0|cases hd
     refine⟨_,e1,decide_eq_decide.mpr ?_⟩;rw[Qi,Qg,Qg,hl,hn];constructor
     ·intro h;injection h with h;lia
     intro h;rw[h];rfl
    obtain⟨xs,hx1,hx2⟩:=hrow;refine⟨_,rfl,_,rfl,st,_,_,_,rfl,rfl,am.of Jb,mO _ _,qq,_,_,_,rfl,rfl,ao.of hqq,aY (j:=1) rfl,u,_,rfl,.inr (ao.of hx1),rfl,_,rfl,?_⟩;rw[hx2];exact h
   refine cN (λhg=>?_) (λhg=>?_)
   ·
    simp only[QL,decide_eq_true_eq,Bool.not_eq_true',decide_eq_false_iff_not] at hg
    rcases hls with ⟨ey,_⟩|⟨r0,f,u,er,hl0,ew,ey,hu⟩
    ·exact absurd ey hg.2.1
    subst ey;subst eqq;obtain⟨hd,hn0,hn,hif⟩:=hfo er ew;have hg2:=hg.2.2;rw[er,List.getLast?_concat] at hg2;have hg2:f.t.nb=2:=hg2;obtain⟨hfw,zz,Ku⟩:=hif hg2;have Li:fT q.r x=r0++[⟨zz,"else",f.t,f.ks⟩]:=by unfold fT iX;rw[if_pos hg.1,er,List.getLast?_concat];show(if f.w≠"else"/\f.t.nb=2 then _ else _)=_;rw[if_pos ⟨ew,hg2⟩,List.dropLast_concat,Ku];rfl
    rw[Li] at hN;rw[er] at J3;have h2':=hu;rw[Ku] at h2';obtain⟨y1,y2,y3,hrow⟩:=zm (bs:=[as.getD zz 0]) h2' hd hn0;have IP:=J3.pop;have tP:eG H3 (ag H3 st (.lst (JC.map V.ref))):=λx xs e=>by rw[ay λz=>by rw[z,J3.hst] at e;cases e];exact e
    refine⟨_,rfl,.inl ⟨rfl,_,am.of Jb⟩,st,_,.ref qq,rfl,rfl,Jb,by simp,?_⟩;rw[List.dropLast_concat];refine⟨qq,_,_,_,rfl,rfl,ao.of (tP _ _ hqq),aY (j:=1) rfl,?_⟩;dsimp only[aP];refine⟨_,rfl,.inl ⟨rfl,_,am.of ah⟩,aw 4 rfl (tP _ _ hrow) rfl ⟨bg,λq2 Iw=>⟨st,_,_,rfl,rfl,(aj Iw) _ _ ah,bC (by rw[Qg];rw[er] at hrl;simp at hrl;lia),?_⟩⟩⟩;have II:=IP.push (f:=⟨zz,"else",f.t,f.ks⟩) Iw (J3.sk.els hfw Ku) (hu.kept tP);rw[QD] at II;exact hN _ _ ⟨as,_,HV,_,_,_,_,by lia,II,hD,by lia,hsq,rfl⟩
   have hnp:iX q.r=q.r∨x % 12≠9:=by
    by_cases h9:x%12=9
    ·refine .inl ?_
     rcases hls with ⟨_,e⟩|⟨r0,f,u,er,hl0,ew,ey,hu⟩
     ·exact e
     unfold iX;rw[er,List.getLast?_concat];refine if_neg λz=>hg ?_;rw[ey,er,List.getLast?_concat];simp only[QL,decide_eq_true_eq,Bool.not_eq_true',decide_eq_false_iff_not];exact⟨h9,(λz=>nomatch z),z.2⟩
    exact .inr h9
   have hln:(((JC.map V.ref++[V.ref qq]).length:Nat):Int)=((q.r.length+1:Nat):Int):=by
    have:(JC.map V.ref++[V.ref qq]).length=qs.length:=by rw[eqq];simp
    rw[this,hql]
   have l2:decide ((1:Int)<((q.r.length+1:Nat):Int))=decide (1<q.r.length+1):=decide_eq_decide.mpr (by lia);refine⟨_,rfl,_,_,rfl,rfl,(by show(0:Int)<12;decide),_,_,rfl,rfl,_,rfl,gI (b2:=decide (1<q.r.length+1)) (λ_ h=>⟨_,rfl,st,_,rfl,.inl (am.of Jb),_,_,rfl,rfl,_,rfl,by rw[hln,l2];exact h⟩) ?_⟩;refine cN (λhc=>?_) (λhc=>?_)
   ·simp only[QL,decide_eq_true_eq] at hc;have Li:fT q.r x=q.r.dropLast:=by unfold fT;rw[if_neg (by lia),if_pos hc.1]
    rw[Li] at hN
    rcases Lp with ⟨er,_⟩|⟨r0,f,er,hl0,_⟩
    ·rw[er] at hc;simp at hc
    rw[er,List.dropLast_concat] at hN;rw[er] at J3;subst eqq;refine⟨_,rfl,.inl ⟨rfl,_,am.of Jb⟩,st,_,.ref qq,rfl,rfl,Jb,by simp,?_⟩;rw[List.dropLast_concat];exact hN _ _ ⟨as,_,HV,_,_,_,_,by lia,J3.pop,hD,by lia,hsq,rfl⟩
   have Li:fT q.r x=q.r:=by
    unfold fT;by_cases h9:x%12=9
    ·rw[if_pos h9];exact hnp.resolve_right (λz=>z h9)
    rw[if_neg h9];by_cases h10:9<x%12
    ·rw[if_pos h10];have:¬1<q.r.length+1:=λz=>hc (by simp only[QL,decide_eq_true_eq];exact⟨h10,z⟩);have:q.r=[]:=List.length_eq_zero_iff.mp (by lia);rw[this];rfl
    rw[if_neg h10]
   rw[Li] at hN;exact hN _ _ ⟨as,qs,HV,_,_,_,_,by lia,J3,hD,by lia,hsq,rfl⟩
  have hrd:=zr ht;have L:=sF hG hrd.1;have hst:iZ R gv hk (Ic+1+i) x q=cw R hk x q t:=by unfold iZ;rw[ht]
  rw[hst] at hN;obtain⟨JC,qq,ai,y,vs,eqq,hqq,JK,hav,hvl,Lp⟩:=J.last;have hst3:H3 st=some (.lst (JC.map V.ref++[V.ref qq])):=by rw[s3 _ _ J.hst,eqq];simp
  have hav3:=s3 _ _ hav;refine⟨_,rfl,_,rfl,bS (by rw[Qk λz=>nomatch z];rfl) ?_⟩;refine⟨_,rfl,_,rfl,st,_,_,_,rfl,rfl,am.of hst3,mO _ _,qq,_,_,_,rfl,rfl,ao.of (s3 _ _ hqq),aY (j:=0) rfl,.inl ⟨rfl,_,am.of hav3⟩,_,rfl,ai,_,_,rfl,rfl,hav3,bC (by rw[Qg];lia),?_⟩;have J5:=J.add s3 h2 h3 h4 h5 ⟨L.asc,L.bare,L.row⟩ (λh0=>by have:=hrd.2;have:¬2<q.r.length:=λz=>this ⟨h0,z⟩;lia) JK hav;rw[QD] at J5;have t35:eG H3 (ag H3 ai (.lst (vs.map V.ref++[u].map V.ref))):=λx xs e=>by rw[ay λz=>by rw[z,hav3] at e;cases e];exact e
  have hu5:=h2.kept t35;have goal5:ag H3 ai (.lst (vs.map V.ref++[V.ref u]))=ag H3 ai (.lst (vs.map V.ref++[u].map V.ref)):=rfl;rw[goal5];generalize ag H3 ai (.lst (vs.map V.ref++[u].map V.ref))=H5 at J5 hu5 ⊢;clear t35 goal5;obtain⟨w1,w2,w3,w4,w5⟩:=oR hG (q.ks.map (·.1)) x;obtain⟨ys5,d5,T5⟩:=J5.dl;refine⟨_,rfl,_,rfl,_,rfl,_,rfl,_,rfl,_,rfl,u,a,hp,l,du,vh,hk,q.ks,R,t,cg R (q.ks.map (·.1)) x,bs,ys5,ds++HV,rfl,hu5,L.ex,w1,by lia,HL,J5.ka,by have:=Fi.kl;lia,hR.same (λb o hb=>c8 (eB hb).1 (J5.sm _ _ hb)),I0,λhgi=>?_,d5,T5,by rw[Qi];lia,Hb hG _ _ _ _,λIb rs H6 S6 a6 d6 T6 hrp hrm=>?_⟩
  ·rcases hv with ⟨g,_⟩|⟨_,q',z,pp,e1,e2⟩
   ·rw[L.giv hgi] at g;cases g
   refine⟨q',z,pp,e1,J5.sm _ _ (c8 (λzz=>?_) e2)⟩;rcases Qx zz with zz|zz
   ·rw[zz,ha] at e2;cases e2
   rw[Qj zz,Jr] at e2;cases e2
  rw[QX] at T6;have J6:=J5.to S6 a6 ⟨Ib,d6,T6⟩;have hu6:=hu5.kept (J5.tpk S6);obtain⟨HN,hhu⟩:=zJ hu6;have hrow:=L.row;have hrn:rs.Nodup:=hrp.imp λh e=>by rw[e] at h;exact absurd h (List.lt_irrefl _)
  have hD6:i6 (cw R hk x q t).fs (HV++rs.map (kk t.row)):=by
   refine⟨List.nodup_append.mpr ⟨hD.1,List.pairwise_map.mpr (hrn.imp λh e=>h (Hq e)),λk h k' h' e=>?_⟩,λk=>?_,List.pairwise_append.mpr ⟨hD.2.2,List.pairwise_map.mpr (hrp.imp λh z=>by rw[lt_str h] at z;cases z),λk h k' h' z=>?_⟩⟩
   ·obtain⟨z,_,rfl⟩:=QJ h';obtain⟨r',w',rfl,_,HS⟩:=Fi.fs k ((hD.2.1 k).mp h);have:=oX e;lia
   ·show _↔k∈q.fs++(dr R q.ks hk t _).map (kk t.row);rw[List.mem_append,List.mem_append,hD.2.1 k,List.mem_map,List.mem_map];exact or_congr Iff.rfl ⟨λhsl91=>by obtain⟨z,h,e⟩:=hsl91;exact⟨z,(hrm z).mp h,e⟩,λhsl92=>by obtain⟨z,h,e⟩:=hsl92;exact⟨z,(hrm z).mpr h,e⟩⟩
   obtain⟨_,_,rfl⟩:=QJ h';obtain⟨r',w',rfl,_,HS⟩:=Fi.fs k ((hD.2.1 k).mp h);rw[jw (by lia)] at z;cases z
  have hl6:(HV++rs.map (kk t.row)).length<=4*(i+1):=by have h4':rs.length<=4:=hrn.length_le_of_subset (l₂:=kK) λz hz=>y9 _ _ _ _ _ z ((hrm z).mp hz);rw[Qi,Qg];lia
  have hsq6:∀bd,(bR (cw R hk x q t).B 4 bd 0).map (·.1)=(cw R hk x q t).ts:=λbd=>by show(bR (br q.B (b8 q.r) [t]) 4 bd 0).map (·.1)=q.ts++[t];rw[J.sq J5.pi hrl bd,hsq bd]
  refine⟨_,rfl,_,rfl,bS (by rw[Qk λz=>nomatch z];rfl) ?_⟩;refine aw 0 rfl hhu rfl ⟨rfl,_,rfl,?_⟩;rw[dJ];refine Ho (b2:=decide (t.kw="while")) (λh=>(aw 0 rfl hhu rfl ⟨rfl,_,rfl,by rw[dJ];exact h⟩)) ?_
  have hkb:(decide (t.kw="if")||decide (t.kw="while"))=decide (t.nb≠0):=by
   rcases L.way with ⟨e1,e2,e3⟩|⟨e1,e2⟩|⟨e1,e2⟩
   ·rw[Qk e2,Qk e3,e1];rfl
   ·rw[e1,e2];rfl
   rw[e1,e2];rfl
  rw[hkb];have hput:cw R hk x q t=⟨br q.B (b8 q.r) [t],iY q.B.length q.r t,fR R q.ks t (cg R (q.ks.map (·.1)) x),q.fs++(dr R q.ks hk t (cg R (q.ks.map (·.1)) x)).map (kk t.row),q.ts++[t]⟩:=rfl;refine cN (λhc=>?_) (λhc=>?_)
  ·have hc:t.nb≠0:=QO hc
   obtain⟨b1,bs',ebs⟩:∃b1 bs',bs=b1::bs':=by
    cases bs with
    |nil=>exact absurd h3.symm hc
    |cons b1 bs'=>exact⟨b1,bs',rfl⟩
   have hu6':=hu6;rw[ebs] at hu6';obtain⟨y1,y2,y3,hrow3⟩:=zm hu6' L.hd hc;have IL:iY q.B.length q.r t=q.r++[⟨q.B.length,t.kw,t,List.range' q.B.length t.nb⟩]:=if_pos hc;rw[hput,IL] at hN hD6 hsq6;obtain⟨b,hb,_⟩:=J.sk.pt J.pi _ _ (jv q.r)
   have sk:Sk (br q.B (b8 q.r) [t]) (q.r++[⟨q.B.length,t.kw,t,List.range' q.B.length t.nb⟩]):=J.sk.step J.pi hb (.inr ⟨t.kw,rfl,hc,by
    rcases L.way with ⟨e1,e2,e3⟩|⟨e1,e2⟩|⟨e1,e2⟩
    ·exact absurd e1 hc
    ·exact .inr (.inl ⟨e2,e1,L.hd⟩)
    exact .inr (.inr ⟨e2,e1,L.hd⟩)⟩)
   have hkw:t.kw≠"else":=by
    rcases L.way with ⟨e1,e2,e3⟩|⟨e1,e2⟩|⟨e1,e2⟩
    ·exact absurd e1 hc
    ·rw[e2];decide +kernel
    rw[e2];decide +kernel
   have hfk:((List.range' q.B.length t.nb).map λj=>(as++bs).getD j 0)=bs:=by rw[<-h3,<-J.fa.len,sC]
   have hgd:(as++bs).getD q.B.length 0=b1:=by rw[<-J.fa.len,ebs,Qd,Qw (Qh _)];simp
   refine⟨_,rfl,.inl ⟨rfl,_,am.of J6.hst⟩,aw 3 rfl hrow3 rfl ⟨_,rfl,bg,λq2 Iw=>⟨st,_,_,rfl,rfl,(aj Iw) _ _ J6.hst,bC (by rw[Qg];lia),?_⟩⟩⟩;have II:=J6.push (f:=⟨q.B.length,t.kw,t,List.range' q.B.length t.nb⟩) (u:=u) Iw sk (by rw[hfk];exact hu6);rw[QD] at II;have II2:LJ _ _ (ag (ag H6 q2 (.tup [.ref ((as++bs).getD q.B.length 0),if t.kw="else" then .non else .ref u])) st (.lst (qs.map V.ref++[V.ref q2]))) _ _ _ _ _ _ _ _ _ _ _:=II;rw[hgd,if_neg hkw] at II2;exact hN _ _ ⟨as++bs,_,HV++rs.map (kk t.row),_,_,_,_,by lia,II2,hD6,hl6,hsq6,rfl⟩
  have hc:t.nb=0:=by
   cases e:t.nb with
   |zero=>rfl
   |succ n=>exact absurd (Qn (by rw[e];simp)) hc
  have IL:iY q.B.length q.r t=q.r:=if_neg (by rw[hc];simp);rw[hput,IL] at hN hD6 hsq6;have HS:=L.lt;have dint:decide (V.int (x%12)=V.int 9)=false:=Qk λh=>by injection h with h;lia
  refine⟨_,rfl,_,_,rfl,rfl,(by show(0:Int)<12;decide),rfl,_,rfl,bh dint (eD ?_)⟩;refine⟨_,rfl,_,_,rfl,rfl,(by show(0:Int)<12;decide),_,_,rfl,rfl,_,rfl,bh (Qk (by lia)) (eD ?_)⟩;exact hN _ _ ⟨as++bs,qs,HV++rs.map (kk t.row),_,_,_,_,by lia,J6,hD6,hl6,hsq6,rfl⟩
 rintro σ' H2 ⟨as,qs,HV,x9,Jk,JG,Kn,hi7,J,hD,hdsl,hsq,rfl⟩;rw[Qg] at J hD hsq;obtain⟨b0,hb0,hd0⟩:=J.sk.b0;obtain⟨us,h1,h2⟩:=J.fa.lat J.pi 4 0 tp b0 J.tp0 hb0 (by lia);obtain⟨Ib,e1,e2⟩:=J.dl;refine⟨_,rfl,kq tp us Ib HV H2 Ji J.sm J.ka e1 e2 hD (by rw[Qg] at hdsl;lia) J.pi h1 (λL hL=>?_) hsq⟩;have KZ:∀x∈as,x∉L:=λx hx z=>(hL x z).1 (J.new.2 x hx);have fa:=J.fa.kept (G:=bE H2 L) (λb xs hb=>c8 (λz=>(hL b z).2 xs hb) hb) (λx hx=>by obtain⟨ys,e⟩:=J.bls x hx;rw[e];exact c8 (KZ x hx) e);obtain⟨us',g1,g2⟩:=fa.lat J.pi 4 0 tp b0 J.tp0 hb0 (by lia);have g1:=(eB g1).2;rw[h1] at g1;have eu:us.map V.ref=us'.map V.ref:=by injection g1 with g1;injection g1
 rw[eu];exact g2
theorem zM(len d n:Nat):HT.sIx len d (some ((n:Nat):Int))=min n len:=by unfold HT.sIx;simp only;split<;>lia
theorem sQ(is:List Int)(lo hi:Nat):eZ (is.map V.int) (some ((lo:Nat):Int)) (some ((hi:Nat):Int))=((is.drop lo).take (hi-lo)).map V.int:=by
 unfold eZ;rw[zM,zM,Qg,<-List.map_drop,<-List.map_take];congr 1;by_cases h:is.length<lo
 ·rw[List.drop_of_length_le (by lia),List.drop_of_length_le (by lia)];simp
 rw[show min lo is.length=lo by lia];by_cases h3:is.length<=hi
 ·rw[show min hi is.length=is.length by lia,QC (by simp),QC (by simp;lia)]
 rw[show min hi is.length=hi by lia]
theorem zN:∀{a b:List V} {ts us:List Tr},LAt H sh a ts->LAt H sh b us->LAt H sh (a++b) (ts++us)
 |_,_,_,_,.nil,h=>h
 |_,_,_,_,.cons x y,h=>.cons x (zN y h)
theorem sR{fs fs' ds HV:List (List ae)}(h:i6 fs ds)(h':i6 fs' HV)(r:∀k∈fs,∃(r:Nat) (z:Str),k=kk r z/\r<lo)(r':∀k∈fs',∃(r:Nat) (z:Str),k=kk r z/\lo<=r):i6 (fs++fs') (ds++HV):=by
 have q:∀k∈ds,∀k'∈HV,bm k' k=false/\k≠k':=λk hk k' Jx=>by obtain⟨a,z,rfl,h1⟩:=r k ((h.2.1 k).mp hk);obtain⟨b,y,rfl,h2⟩:=r' k' ((h'.2.1 k').mp Jx);exact⟨jw (by lia),λe=>by have:=oX e;lia⟩
 exact⟨List.nodup_append.mpr ⟨h.1,h'.1,λk hk k' Jx=>(q k hk k' Jx).2⟩,λk=>by rw[List.mem_append,List.mem_append,h.2.1 k,h'.2.1 k],List.pairwise_append.mpr ⟨h.2.2,h'.2.2,λk hk k' Jx e=>by rw[(q k hk k' Jx).1] at e;cases e⟩⟩
theorem Hu(h1:20+20*i<=r)(h2:r<40+20*i):kk (20+20*i) "give"=sP (kk r z):=by show [Sum.inl (((20+20*i:Nat)):Int),_]=[Sum.inl (((r:Nat):Int)/20*20),_];rw[show((20+20*i:Nat):Int)=((r:Nat):Int)/20*20 by omega]
structure BI(HB H:Hp)(ka du tr:Addr)(ts:List Tr)(ks:List (Str×Str))(fs:List (List ae))(n hi:Nat):Prop where
 sb:Same HB H
 hk:H ka=some (.dK (bD ks))
 hd:∃ys ds,H du=some (.lst ys)/\bA H ys ds/\i6 fs ds/\ds.length<=n
 ht:∃xs,H tr=some (.lst xs)/\LAt (bE H [ka,du,tr]) false xs ts
 rb:∀k∈fs,∃(r:Nat) (z:Str),k=kk r z/\r<hi
structure BN(HB:Hp)(ka du tr:Addr):Prop where
 nk:HB ka=none
 nu:HB du=none
 nt:HB tr=none
 kd:ka≠du
 kt:ka≠tr
 dt:du≠tr
section
variable {HB H H':Hp}{ka du tr:Addr}{ts:List Tr}{ks:List (Str×Str)}{fs:List (List ae)}{n hi:Nat}
theorem kP(s:∀b o,b∉L->H b=some o->H' b=some o):Same (bE H L) (bE H' L):=λb o hb=>c8 (eB hb).1 (s b o (eB hb).1 (eB hb).2)
theorem BI.to{fs' HV:List (List ae)}(N:BN HB ka du tr)(h:BI HB H ka du tr ts ks fs n hi)(sa:∀b o,b≠ka->b≠du->H b=some o->H' b=some o)(k':H' ka=some (.dK (bD KC)))(d':H' du=some (.lst Ib))(T':bA H' Ib HV)(D':i6 fs' HV)(l':HV.length<=n+30)(r':∀k∈fs',∃(r:Nat) (z:Str),k=kk r z/\r<hi'):BI HB H' ka du tr ts KC fs' (n+30) hi':=by obtain⟨xs,x1,x2⟩:=h.ht;refine⟨λb o hb=>sa b o (λz=>by rw[z,N.nk] at hb;cases hb) (λz=>by rw[z,N.nu] at hb;cases hb) (h.sb _ _ hb),k',⟨Ib,HV,d',T',D',l'⟩,⟨xs,sa _ _ (Ne.symm N.kt) (Ne.symm N.dt) x1,x2.kept (kP λb o hb e=>sa b o (λz=>hb (by rw[z];simp)) (λz=>hb (by rw[z];simp)) e).ls⟩,r'⟩
theorem BI.app(N:BN HB ka du tr)(h:BI HB H ka du tr ts ks fs n hi)(hx:H tr=some (.lst xs))(hv:LAt (bE H [ka,du,tr]) false vs us):BI HB (ag H tr (.lst (xs++vs))) ka du tr (ts++us) ks fs n hi:=by
 obtain⟨xs',x1,x2⟩:=h.ht;rw[hx] at x1;have ex:xs=xs':=by injection x1 with x1;injection x1
 subst ex;obtain⟨ys,ds,d1,d2,d3,d4⟩:=h.hd;have st:∀{b:Addr} {o:HO},b≠tr->H b=some o->ag H tr (.lst (xs++vs)) b=some o:=λn e=>by rw[ay n];exact e
 have sL:Same (bE H [ka,du,tr]) (bE (ag H tr (.lst (xs++vs))) [ka,du,tr]):=kP λb o hb e=>st (λz=>hb (by rw[z];simp)) e;exact⟨λb o hb=>st (λz=>by rw[z,N.nt] at hb;cases hb) (h.sb _ _ hb),st N.kt h.hk,⟨ys,ds,st N.dt d1,dH d2 (λb zs e=>st (λz=>by rw[z,hx] at e;cases e) e),d3,d4⟩,⟨_,ah,zN (x2.kept sL.ls) (hv.kept sL.ls)⟩,h.rb⟩
theorem BI.same(N:BN HB ka du tr)(h:BI HB H ka du tr ts ks fs n hi)(s:Same H H'):BI HB H' ka du tr ts ks fs n hi:=by obtain⟨ys,ds,d1,d2,d3,d4⟩:=h.hd;obtain⟨xs,x1,x2⟩:=h.ht;exact⟨h.sb.trans s,s _ _ h.hk,⟨ys,ds,s _ _ d1,dH d2 s.tups,d3,d4⟩,⟨xs,s _ _ x1,x2.kept (kP λb o _ e=>s b o e).ls⟩,h.rb⟩
theorem BI.ct(N:BN HB ka du tr)(h:BI HB H ka du tr ts ks fs n hi)(c:fQ HB hp l R)(ha:HB a=none)(s:Same H H'):fQ (bE H' [a,du]) hp l R:=c.same λb o hb=>c8 (λz=>by
 rcases Qx z with z|z
 ·rw[z,ha] at hb;cases hb
 rw[Qj z,N.nu] at hb;cases hb) (s _ _ (h.sb _ _ hb))
end
theorem Hv{b1 b2:Bool}{T U E:Prop}(k:b1=false->(if b2=true then T else U)->E)(h:if(b1||b2)=true then T else U):if b1=true then(if true=true then T else U) else E:=by
 cases b1
 ·rw[if_neg (by simp)];exact k rfl (by simpa using h)
 rw[if_pos rfl,if_pos rfl];simpa using h
theorem Hw{us:List Addr}(h:LAt H false (us.map V.ref) ts)(HL:us≠[]):∃(us0:List Addr) (u:Addr) (t:Tr) (HN:List V),us=us0++[u]/\cy ts=(if t.kw="give" then 1 else 0)/\H u=some (.tup (.str t.kw::HN)):=by
 obtain⟨us0,u,eu⟩:∃us0 u,us=us0++[u]:=⟨us.dropLast,us.getLast HL,(List.dropLast_concat_getLast _).symm⟩
 have hl:=h.length;have hn:ts≠[]:=λz=>by rw[z,Qg] at hl;exact HL (List.length_eq_zero_iff.mp hl)
 obtain⟨ts0,t,et⟩:∃ts0 t,ts=ts0++[t]:=⟨ts.dropLast,ts.getLast hn,(List.dropLast_concat_getLast _).symm⟩
 subst eu;subst et;have hl2:us0.length=ts0.length:=by simpa using hl
 obtain⟨t',g1,g2⟩:=h.get (i:=us0.length) (v:=.ref u) (by rw[Qr];simp);have g1:t=t':=by rw[hl2] at g1;simpa using g1
 subst g1
 cases g2 with
 |shared e _ _=>cases e
 |plain _ g =>
  cases g with
  |mk a b =>
   obtain⟨ps,ep⟩:∃ps,t.parts=.s t.kw::ps:=by cases t<;>exact⟨_,rfl⟩
   rw[ep] at b
   cases b with
   |cons c d =>
    cases c;exact⟨us0,u,t,_,rfl,xH ts0 t,a⟩
inductive zO (K:W.Frag) (vs:List V) (H:Hp) (Q:VK) (E:XK):Prop
 |mk:∀(a:Addr) (is:List Int),vs=[.ref a]->am K H a (is.map V.int)->is.length<=63->(∀(t p pd:Addr) (xs ys:List V) (ks:List (List ae)) (H':Hp),Same H H'->H' t=some (.tup [.ref p,.ref pd])->H' p=some (.lst xs)->LAt H' false xs (bv is)->H' pd=some (.lst ys)->bA H' ys ks->ks.Pairwise (λx y=>bm x y=true)->(∀k,k∈ks↔k∈oT is)->ii is->Q (.ref t) H')->zO K vs H Q E
noncomputable abbrev Hx:List Str:=["_law_script","_law_names_here","_law_heads_here","_law_due","_law_known","_law_tree","_law_k","_law_at","_law_head","_law_own","_law_name","_law_kind_here","_law_body"]
theorem zP:bf Hx Yp (aJ qY):=by decide +kernel
theorem Hy(T:All P w K mg AA DD):aE P w K mg base aG 10 AA.ZF DD.ZF Yp (zO K):=by
 have GC:=yB (base:=base) T;have GX:=md (base:=base) T;have GNA:=Gg (base:=base) T;have GHS:=Gm (base:=base) T;have GFL:=Ht (base:=base) T;refine T.z_ZF.F.ok zP (λvs H Q E h=>?_) (λHQ A outer s H vs Q E hr h=>?_)
 ·obtain⟨a,is,rfl,_⟩:=h;rfl
 obtain⟨a,is,rfl,hS,HM,kq⟩:=h;have nd:=zP.nd;have KD:aB 9 _:=hr;have Iz:aB 2 _:=KD.mono (by lia);have HX:aB 1 _:=KD.mono (by lia);have hu:=QE (Nat.add_le_add_left (show 1<=64 by decide) _) hr.units;refine⟨_,(aq (aQ (i:=1) nd rfl (Or.inl rfl) (aO GNA HX rfl T.z_ZB (aa (aO GX HX rfl T.z_ZA (aa (aO GC HX rfl T.z_Zr (aa (pv 0) (aa ar af))) (aa ar af))) af))) (aq (aQ (i:=2) nd rfl (Or.inl rfl) (aO GHS Iz rfl T.z_ZE (aa (pv 0) (aa (pv 1) af)))) (aq (aQ (i:=3) nd rfl (Or.inl rfl) (cb af)) (aq (aQ (i:=4) nd rfl (Or.inl rfl) mU) (aq (aQ (i:=5) nd rfl (Or.inl rfl) (cb (aa (aR (aa au (aa ar (aa (bY (jP (K:=K) rfl) (pv 1) ar (λ_ _=>rfl)) (aa (aR (aa (aR (aa (bY (jP (K:=K) rfl) (pv 1) ar (λ_ _=>rfl)) (aa au af))) (aa (aR (aa (bY (jP (K:=K) rfl) (pv 1) ar (λ_ _=>rfl)) (aa au af))) af))) af))))) af))) (aq (bF (jM PySem.F.plainAttrs_list PySem.F.slot_list_extend PySem.F.type_list_extend pP (pv 5) (aa (aO GFL KD rfl T.z_ZK (aa (iy pL (pv 0) (f7 ar) (f7 ar)) (aa ar (aa (pv 4) (aa gm (aa (pv 2) (aa (pv 1) (aa (pv 3) af)))))))) af)) (by rfl)) (aq (dC PassesOwn.never rfl (mH rfl T.n_range (aa (dO pM rfl T.n_len gS (aa (pv 2) af)) af)) (ba (i:=6) nd rfl (Or.inl rfl)) (aq (aQ (i:=7) nd rfl (Or.inl rfl) (aD dD ar (aD iu ar (pv 6)))) (aq (aQ (i:=8) nd rfl (Or.inl rfl) (bY (jP (K:=K) rfl) (pv 2) (pv 6) (λ_ _=>rfl))) (aq (aQ (i:=9) nd rfl (Or.inl rfl) mU) (aq (dC PassesOwn.never rfl (Am (bY (jU (K:=K) rfl) (pv 8) ar (λ_ _=>rfl))) (mF rfl (bp (ba (i:=10) nd rfl (Or.inl rfl)) (bp (ba (i:=11) nd rfl (Or.inl rfl)) cV))) (ap (lr hu (pv 9) (pv 10) (pv 11) rfl)) (by intro _;rfl)) (aq (aQ (i:=12) nd rfl (Or.inl rfl) (aO GFL KD rfl T.z_ZK (aa (iy pL (pv 0) (f7 (aD dD ar (aD iu ar (pv 6)))) (f7 (aD dD ar (aD iu ar (pv 6))))) (aa (pv 7) (aa (pv 9) (aa (pv 8) (aa (pv 2) (aa (pv 1) (aa (pv 3) af))))))))) (aq (aV (PW.pt (jE (aH (Cz (K:=K) rfl hr.units) (pv 12) (cb af) (aI _)) (jD (aH dN (bY (jU (K:=K) rfl) (bY (jP (K:=K) rfl) (pv 12) (mI mK ar) (λ_ _=>rfl)) ar (λ_ _=>rfl)) au (aI _))))) (ap (bF (jM PySem.F.plainAttrs_list PySem.F.slot_list_append PySem.F.type_list_append pO (pv 3) (aa (aR (aa (pv 7) (aa au af))) af)) (by rfl))) be) (ap (bF (jM PySem.F.plainAttrs_list PySem.F.slot_list_append PySem.F.type_list_append pO (pv 5) (aa (aR (aa au (aa (pv 7) (aa (bY (jU (K:=K) rfl) (pv 8) ar (λ_ _=>rfl)) (aa (bY (jU (K:=K) rfl) (pv 8) ar (λ_ _=>rfl)) (aa (ix uj rfl T.n_tuple p5 (aa (bY (jU (K:=K) rfl) (pv 8) ar (λ_ _=>rfl)) af)) (aa (pv 12) af))))))) af)) (by rfl))))))))) (by intro _;rfl)) (aq (bF (jM PySem.F.plainAttrs_list PySem.F.slot_list_extend PySem.F.type_list_extend pP (pv 5) (aa (aO GFL KD rfl T.z_ZK (aa (iy pL (pv 0) (f7 ar) (f7 ar)) (aa ar (aa (pv 4) (aa gm (aa (pv 2) (aa (pv 1) (aa (pv 3) af)))))))) af)) (by rfl)) (ap (aN (aR (aa (pv 5) (aa (dO (Da (K:=K) rfl) rfl T.n_sorted qr (aa (pv 3) af)) af))))))))))))),?_⟩;dsimp only[gQ];have hx0:0<=bj (bH is 0) 9:=Int.emod_nonneg _ (by decide);refine⟨_,rfl,a,is,0,rfl,hS,_,_,rfl,_,rfl,hx0,λl H1 hl0 s1 Kt=>?_⟩;dsimp only[aP];refine⟨_,rfl,_,rfl,a,l,is,_,rfl,s1.seq hS,Kt,rY _,λhp us H2 hp0 s2 JZ hHs=>?_⟩;dsimp only[aP]
 have hC:fQ H2 hp l (aL is):=⟨s2 _ _ Kt,rY _,⟨us,JZ,hHs⟩,jz is,λh hh=>(kO is h hh).p2⟩
 have sH:=s1.trans s2;clear Kt JZ hHs hl0 hp0 s1 s2;refine⟨cT,λdu Jr=>?_⟩;dsimp only[aP];refine λka hka=>?_;dsimp only[aP];have sd:=aj (o:=.lst ([]:List V)) Jr;have sk:=aj (o:=.dK []) hka;have sdk:=sd.trans sk;have KI:=sdk _ _ hC.nl;have n9:=rY (bj (bH is 0) 9);have gt:∀{j:Nat},j<9->de ((aL is).ns.map V.str) ((j:Nat):Int)=some (.str ((aL is).ns.getD j "")):=λ{j} hj=>aY (eM (by rw[show(aL is).ns.length=9 from n9];exact hj));refine⟨_,rfl,l,_,_,.str (aL is).n6,rfl,rfl,am.of KI,gt (j:=6) (by decide),_,rfl,l,_,_,.str ((aL is).ns.getD 7 ""),rfl,rfl,am.of KI,gt (j:=7) (by decide),bg,λt7 h7=>?_⟩;have s7:=aj (o:=.tup [.str ((aL is).ns.getD 7 ""),.str "num"]) h7;refine⟨_,rfl,l,_,_,.str ((aL is).ns.getD 8 ""),rfl,rfl,am.of (s7 _ _ KI),gt (j:=8) (by decide),bg,λt8 h8=>⟨bg,λt9 h9=>⟨oY,λt6 h6=>⟨ij,λtr htr=>?_⟩⟩⟩⟩;have s8:=aj (o:=.tup [.str ((aL is).ns.getD 8 ""),.str "truth"]) h8;have s9:=aj (o:=.tup [.ref t7,.ref t8]) h9;have s6:=aj (o:=.tup [.str "kind",.int 0,.str (aL is).n6,.ref t9]) h6;have sr:=aj (o:=.lst [.ref t6]) htr;dsimp only[aP]
 have N:BN H2 ka du tr:=by
  have fk:=sd.free hka;have ft:=((((sdk.trans s7).trans s8).trans s9).trans s6).free htr;refine⟨fk,Jr,ft,λz=>?_,λz=>?_,λz=>?_⟩
  ·rw[z,ah] at hka;cases hka
  ·rw[<-z] at htr;have:=(((s7.trans s8).trans s9).trans s6) _ _ (ah (H:=ag H2 du (.lst ([]:List V))) (a:=ka) (o:=.dK []));rw[htr] at this;cases this
  rw[<-z] at htr;have:=((((sk.trans s7).trans s8).trans s9).trans s6) _ _ (ah (H:=H2) (a:=du) (o:=.lst ([]:List V)));rw[htr] at this;cases this
 have e7:=(((s8.trans s9).trans s6).trans sr) _ _ (ah (a:=t7));have e8:=((s9.trans s6).trans sr) _ _ (ah (a:=t8));have e9:=(s6.trans sr) _ _ (ah (a:=t9));have e6:=sr _ _ (ah (a:=t6));have ek:=((((s7.trans s8).trans s9).trans s6).trans sr) _ _ (ah (a:=ka));have ed:=(((((sk.trans s7).trans s8).trans s9).trans s6).trans sr) _ _ (ah (a:=du))
 have sb:=(((((sdk.trans s7).trans s8).trans s9).trans s6).trans sr)
 clear s6 s7 s8 s9 sr sd sk sdk KI;generalize hHF:ag (ag (ag (ag (ag (ag (ag H2 _ _) _ _) _ _) _ _) _ _) _ _) _ _=HF at e7 e8 e9 e6 ek ed sb ⊢;have et:HF tr=some (.lst [.ref t6]):=by rw[<-hHF];exact ah
 clear hHF
 have J:BI H2 HF ka du tr [fV is] [] [] 0 20:=by
  have nL:∀{b:Addr} {zs:List V},HF b=some (.tup zs)->bE HF [ka,du,tr] b=some (.tup zs):=λ{b zs} hb=>c8 (λz=>by
   simp only[List.mem_cons,List.not_mem_nil,or_false] at z;rcases z with z|z|z
   ·rw[z,ek] at hb;cases hb
   ·rw[z,ed] at hb;cases hb
   rw[z,et] at hb;cases hb) hb
  refine⟨sb,ek,⟨[],[],ed,⟨rfl,λi x d h=>by simp at h⟩,⟨.nil,λk=>Iff.rfl,.nil⟩,Qh _⟩,⟨_,et,.cons (.plain rfl (.mk (nL e6) (.cons (.s _) (.cons (.i 0) (.cons (.s _) (.cons (.p ⟨t9,[t7,t8],rfl,nL e9,rfl,λi u q hu hq=>?_⟩) .nil)))))) .nil⟩,λk hk=>by cases hk⟩
  match i with
  |0=>cases hu;cases hq;exact nL e7
  |1=>cases hu;cases hq;exact nL e8
  |i+2=>simp at hu
 clear h6 h7 h8 h9 htr hka Jr;have hO:=Hh is;have hG:=Hi is;obtain⟨xs3,x31,_⟩:=J.ht;refine⟨_,rfl,.inl ⟨rfl,_,am.of x31⟩,?_⟩;have hsHF:=(sH.trans J.sb).seq hS;refine⟨_,rfl,_,rfl,_,rfl,a,_,rfl,hsHF,λcl IM=>?_⟩;rw[show eZ (is.map V.int) (some 2) (some 8)=(eX is).map V.int from sQ is 2 8];have J4:=J.same N (aj (o:=.lst ((eX is).map V.int)) IM);have hcl4:=ah (H:=HF) (a:=cl) (o:=.lst ((eX is).map V.int));have IY:cl≠du:=λz=>by obtain⟨ys,_,e,_⟩:=J.hd;rw[<-z,IM] at e;cases e
 generalize ag HF cl (.lst ((eX is).map V.int))=H4 at J4 hcl4 ⊢;have F1:=mq hO hG (gv:=false) (hk:="") (n:=1+1) (ks:=[]) (λp hp=>by cases hp) (cs:=eX is) (eX is).length;have l1:=oU is;obtain⟨ys4,ds4,d41,d42,d43,d44⟩:=J4.hd;refine⟨_,rfl,_,rfl,_,rfl,_,rfl,cl,ka,hp,l,du,.non,false,"",eX is,1,[],aL is,ys4,ds4,rfl,hcl4,by lia,IY,N.kd,J4.hk,by decide,λp hp=>(by cases hp),J4.ct N hC N.nk (Same.refl _),sI is,hO,hG,.inl ⟨rfl,rfl⟩,d41,d42,by lia,λtp us ys5 ds5 H5 Ji S5 k5 d5 T5 D5 l5 pi5 tp5 lat5 sq5=>?_⟩;have sa5:∀b o,b≠ka->b≠du->H4 b=some o->H5 b=some o:=λb o n1 n2 e=>S5 _ _ (c8 (by simp[n1,n2]) e);have B1:ig (aL is) false "" (1+1) [] (eX is).length (cv is) (bu (cv is)):=sJ F1 pi5 (by lia) sq5;have J5:=J4.to N sa5 k5 d5 T5 (sR (lo:=2) d43 D5 (λk hk=>by cases hk) (λk hk=>by obtain⟨r,z,e1,e2,_⟩:=F1.fs k hk;exact⟨r,z,e1,e2⟩)) (by rw[Qi];lia) (hi':=20) (λk hk=>by obtain⟨r,z,e1,_,e2⟩:=F1.fs k (by simpa using hk);exact⟨r,z,e1,by lia⟩);obtain⟨xs5,x51,x52⟩:=J5.ht
 have nn:∀{G G':Hp} {t1 t2:List Tr} {k1 k2:List (Str×Str)} {f1 f2:List (List ae)} {n1 n2 h1 h2:Nat},BI H2 G ka du tr t1 k1 f1 n1 h1->BI H2 G' ka du tr t2 k2 f2 n2 h2->∀x∈[ka,du,tr],G x≠none/\∀zs,G' x≠some (.tup zs):=λJ J' x hx=>by
  obtain⟨_,_,e1,_⟩:=J.hd;obtain⟨_,e2,_⟩:=J.ht;obtain⟨_,_,e3,_⟩:=J'.hd;obtain⟨_,e4,_⟩:=J'.ht;simp only[List.mem_cons,List.not_mem_nil,or_false] at hx;rcases hx with rfl|rfl|rfl
  ·exact⟨by rw[J.hk];simp,λzs e=>by rw[J'.hk] at e;cases e⟩
  ·exact⟨by rw[e1];simp,λzs e=>by rw[e3] at e;cases e⟩
  exact⟨by rw[e2];simp,λzs e=>by rw[e4] at e;cases e⟩
 have J6:=J5.app N x51 (lat5 [ka,du,tr] (nn J4 J5));have hln:∀{G:Hp} {xs:List V} {ts:List Tr},LAt G false xs ts->ts.length<=40->xs.length<=40:=λh hl=>by rw[h.length];exact hl
 have u5:=(lat5 [ka,du,tr] (nn J4 J5)).length;have c1:=mr (bu (cv is));have b1c:=B1.cn;refine⟨tr,tp,_,_,rfl,rfl,x51,tp5,?_,?_⟩
 ·have h1:=x52.length;have:(us.map V.ref).length=(bu (cv is)).length:=u5;rw[h1,this];refine QT (iD ?_);show [fV is].length+(bu (cv is)).length<=1000;rw[QP];lia
 rw[List.nil_append] at J6;have e6:[fV is]++bu (cv is)=dL is 0:=by unfold dL;simp
 have e7:(cv is).fs=gk is 0:=by unfold gk;simp
 have J6:BI H2 (ag H5 tr (.lst (xs5++us.map V.ref))) ka du tr (dL is 0) (cv is).ks (gk is 0) (30+60*0) (20+20*0):=by rw[<-e6,<-e7];exact J6
 generalize ag H5 tr (.lst (xs5++us.map V.ref))=H6 at J6 ⊢;clear x51 x52 J5 sa5 lat5 tp5 T5 d5 k5 S5 Ji d41 d42 d43 d44 J4 hcl4 IM IY hsHF J x31;dsimp only;obtain⟨ush,Ik,hHs⟩:=hC.hs;have h2:=jz is;refine gW (λσ' H'=>(∃x6 x7 x8 x9 Jk JG Kn,σ'=[some (.ref a),some (.ref l),some (.ref hp),some (.ref du),some (.ref ka),some (.ref tr),x6,x7,x8,x9,Jk,JG,Kn])/\BI H2 H' ka du tr (dL is (aL is).hs.length) (cv is).ks (gk is (aL is).hs.length) (30+60*(aL is).hs.length) (20+20*(aL is).hs.length)/\∀j<(aL is).hs.length,ig (aL is) true (cu is j).2.1 (20+20*j+1) (cu is j).2.2 (cutD is j).length (bW is j) (bu (bW is j))) (λRR HP=>?_) ?_
 ·have hlu:(ush.map V.ref).length=(aL is).hs.length:=by rw[Qg,hHs.1]
  refine⟨_,rfl,hp,_,rfl,.inl (am.of (J6.sb _ _ Ik)),_,rfl,?_,?_,?_⟩
  ·rw[hlu];lia
  ·rw[hlu];lia
  rw[hlu,QF];refine vL (D:=⟨RR,_,RR,RR⟩) (λi σ' H'=>(∃x6 x7 x8 x9 Jk JG Kn,σ'=[some (.ref a),some (.ref l),some (.ref hp),some (.ref du),some (.ref ka),some (.ref tr),x6,x7,x8,x9,Jk,JG,Kn])/\BI H2 H' ka du tr (dL is i) (cv is).ks (gk is i) (30+60*i) (20+20*i)/\∀j<i,ig (aL is) true (cu is j).2.1 (20+20*j+1) (cu is j).2.2 (cutD is j).length (bW is j) (bu (bW is j))) ⟨⟨_,_,_,_,_,_,_,rfl⟩,J6,λj hj=>absurd hj (by lia)⟩ ?_ (λσ' H' h=>HP _ _ h);rintro i σ' H7 hi ⟨⟨x6,x7,x8,x9,Jk,JG,Kn,rfl⟩,J,hB⟩ D1 hN;rw[Int.zero_add];have hi:i<(aL is).hs.length:=by lia
  refine⟨_,rfl,_,_,rfl,rfl,.inl ⟨by decide,by decide⟩,_,_,rfl,rfl,?_⟩;dsimp only[aP];have eat:(20:Int)+20*((i:Nat):Int)=((20+20*i:Nat):Int):=by lia
  rw[eat];have Il:i<ush.length:=by rw[hHs.1];exact hi
  obtain⟨pp,hu7,hpp⟩:=hHs.2 i ush[i] (cu is i) (Qb Il) (by unfold cu;rw[Qd,Qb hi];rfl);have hGh:=kO is _ (sK hi);refine⟨_,rfl,_,rfl,hp,_,_,.ref ush[i],rfl,rfl,am.of (J.sb _ _ Ik),aY (by rw[Qr,Qb Il];rfl),?_⟩;dsimp only[aP];refine λown Jc=>?_;dsimp only[aP];generalize ush[i]=uh at hu7 ⊢;have so:=aj (o:=.dK []) Jc;have hown2:H2 own=none:=J.sb.free Jc;obtain⟨ups,IA,JZ,JI⟩:=hpp;generalize Kf:cu is i=hh at hu7 JZ JI hGh;refine gW (λσ' H'=>(∃Jk JG,σ'=[some (.ref a),some (.ref l),some (.ref hp),some (.ref du),some (.ref ka),some (.ref tr),some (.int ((i:Nat):Int)),some (.int ((20+20*i:Nat):Int)),some (.ref uh),some (.ref own),Jk,JG,Kn])/\(∀b o,b≠own->H7 b=some o->H' b=some o)/\H' own=some (.dK (bD hh.2.2))) (λR3 hR3=>?_) ?_
  ·refine⟨_,rfl,uh,_,_,_,rfl,rfl,ao.of (so _ _ (J.sb _ _ hu7)),aY (j:=2) rfl,pp,rfl,⟨_,am.of (so _ _ (J.sb _ _ IA))⟩,?_⟩;refine nz (K:=K) (a:=pp) (xs:=ups.map V.ref) (λm σ' H'=>(∃Jk JG,σ'=[some (.ref a),some (.ref l),some (.ref hp),some (.ref du),some (.ref ka),some (.ref tr),some (.int ((i:Nat):Int)),some (.int ((20+20*i:Nat):Int)),some (.ref uh),some (.ref own),Jk,JG,Kn])/\(∀b o,b≠own->H7 b=some o->H' b=some o)/\H' own=some (.dK (bD (hh.2.2.take m)))) ⟨⟨_,_,rfl⟩,λb o n e=>so _ _ e,ah⟩ (λm σ' H' _ h=>am.of (h.2.1 _ _ (λz=>by rw[<-z,J.sb _ _ IA] at Jc;cases Jc) (J.sb _ _ IA))) ?_ ?_
   ·rintro m y σ' H8 hy ⟨⟨Jk,JG,rfl⟩,S8,o8⟩ D2 hN2;obtain⟨hm,ey⟩:=j8 hy;subst ey;have hm2:m<hh.2.2.length:=by rw[<-JZ];exact hm
    have hq:=J.sb _ _ (JI m ups[m] hh.2.2[m] (Qb hm) (Qb hm2));have hq8:=S8 _ _ (λz=>by rw[<-z,hq] at Jc;cases Jc) hq;refine⟨ups[m],_,rfl,ao.of hq8,rfl,_,_,rfl,_,_,rfl,rfl,?_⟩;dsimp only[mD,aP,o5];have hnk:hh.2.2[m].1∉(hh.2.2.take m).map (·.1):=λz=>by have nd:=hGh.pn;rw[<-List.take_append_drop m hh.2.2,QD,List.drop_eq_getElem_cons hm2,List.map_cons] at nd;exact(List.nodup_append.mp nd).2.2 _ z _ (.head _) rfl
    refine⟨_,rfl,_,rfl,_,rfl,own,_,rfl,fc.k (k:=.inr hh.2.2[m].1) o8 (bC ?_),hN2 _ _ ⟨⟨_,_,rfl⟩,λb o n e=>by rw[ay n];exact S8 _ _ n e,?_⟩⟩
    ·unfold bD;rw[Qg,QH];have:=hGh.p2;lia
    rw[ah,y6 hnk,Qo hm2]
   rintro σ' H8 ⟨h1,h2,h3⟩;rw[Qg,JZ,List.take_length] at h3;exact hR3 _ _ ⟨h1,h2,h3⟩
  rintro σ' H8 ⟨⟨Jk,JG,rfl⟩,S8,o8⟩;have K4:Same H7 H8:=λb o e=>S8 b o (λz=>by rw[z,Jc] at e;cases e) e;have J8:=J.same N K4;refine⟨_,rfl,_,rfl,_,_,rfl,rfl,.inl ⟨by decide,by decide⟩,_,_,rfl,rfl,_,rfl,_,rfl,_,_,rfl,rfl,.inl ⟨by decide,by decide⟩,_,_,rfl,rfl,_,rfl,a,_,rfl,(sH.trans J8.sb).seq hS,λcl IM=>?_⟩;have ecs:eZ (is.map V.int) (some (8+7*((i:Nat):Int))) (some (15+7*((i:Nat):Int)))=(cutD is i).map V.int:=by rw[show(8:Int)+7*((i:Nat):Int)=((8+7*i:Nat):Int) by lia,show(15:Int)+7*((i:Nat):Int)=((15+7*i:Nat):Int) by lia,sQ,show 15+7*i-(8+7*i)=7 by lia];rfl
  rw[ecs];have s89:=aj (o:=.lst ((cutD is i).map V.int)) IM;have J9:=J8.same N s89;have hcl9:=ah (H:=H8) (a:=cl) (o:=.lst ((cutD is i).map V.int));have IY:cl≠du:=λz=>by obtain⟨ys,_,e,_⟩:=J8.hd;rw[<-z,IM] at e;cases e
  have o9:=s89 _ _ o8;generalize ag H8 cl (.lst ((cutD is i).map V.int))=H9 at J9 hcl9 s89 o9 ⊢;have FD:=mq hO hG (gv:=true) (hk:=hh.2.1) (n:=20+20*i+1) (ks:=hh.2.2) (λp hp=>(hGh.pk p hp).1) (cs:=cutD is i) (cutD is i).length;have lD:=sM is i;obtain⟨ys9,ds9,d91,d92,d93,d94⟩:=J9.hd;have KH:own≠du:=λz=>by obtain⟨ys,_,e,_⟩:=J.hd;rw[<-z,Jc] at e;cases e
  have hok:own≠ka:=λz=>by have e:=J.hk;rw[<-z,Jc] at e;cases e
  have hot:own≠tr:=λz=>by obtain⟨xs,e,_⟩:=J.ht;rw[<-z,Jc] at e;cases e
  refine⟨_,rfl,_,rfl,_,rfl,_,rfl,_,rfl,_,rfl,cl,own,hp,l,du,.ref uh,true,hh.2.1,cutD is i,20+20*i,hh.2.2,aL is,ys9,ds9,rfl,hcl9,lD,IY,KH,o9,by have:=hGh.p2;lia,λp hp=>(hGh.pk p hp).1,J9.ct N hC hown2 (Same.refl _),sI is,hO,hG,.inr ⟨rfl,uh,hh.1,pp,rfl,J9.sb _ _ hu7⟩,d91,d92,by lia,λtp us ys5 ds5 HA Ji SA kA dA TA DA lA piA tpA latA sqA=>?_⟩;dsimp only[aP];have eq:cC (aL is) true hh.2.1 (20+20*i+1) hh.2.2 (cutD is i) (cutD is i).length=bW is i:=by unfold bW;rw[Kf]
  rw[eq] at FD kA DA piA latA sqA;have BD:ig (aL is) true hh.2.1 (20+20*i+1) hh.2.2 (cutD is i).length (bW is i) (bu (bW is i)):=sJ FD piA (by lia) sqA
  have saA:∀b o,b≠ka->b≠du->H7 b=some o->HA b=some o:=λb o n1 n2 e=>SA _ _ (c8 (by
   simp only[List.mem_cons,List.not_mem_nil,or_false,not_or]
   exact⟨λz=>(by rw[z,Jc] at e;cases e),n2⟩) (s89 _ _ (K4 _ _ e)))
  have JA:=J.to N saA (SA _ _ (c8 (by simp[Ne.symm hok,N.kd]) J9.hk)) dA TA (sR (lo:=20+20*i) d93 DA J.rb (λk hk=>by obtain⟨r,z,e1,e2,_⟩:=FD.fs k hk;exact⟨r,z,e1,by lia⟩)) (by rw[Qi];lia) (hi':=20+20*(i+1)) (λk hk=>by
   rcases Qv hk with hk|hk
   ·obtain⟨r,z,e1,e2⟩:=J.rb k hk;exact⟨r,z,e1,by lia⟩
   obtain⟨r,z,e1,_,e2⟩:=FD.fs k hk;exact⟨r,z,e1,by lia⟩)
  have latL:=latA [ka,du,tr] (nn J9 JA);have tpL:tp∉[ka,du,tr]:=λz=>(nn J9 J9 tp z).1 Ji;refine gU (λσ' H'=>σ'=[some (.ref a),some (.ref l),some (.ref hp),some (.ref du),some (.ref ka),some (.ref tr),some (.int ((i:Nat):Int)),some (.int ((20+20*i:Nat):Int)),some (.ref uh),some (.ref own),Jk,JG,some (.ref tp)]/\BI H2 H' ka du tr (dL is i) (cv is).ks (gk is (i+1)) (30+60*(i+1)) (20+20*(i+1))/\Same (bE HA [ka,du,tr]) (bE H' [ka,du,tr])) (λR4 hR4=>?_) ?_
  ·refine⟨_,rfl,cT,λe0 he0=>⟨tp,e0,_,rfl,rfl,am.of (aj he0 _ _ tpA),am.of ah,_,rfl,?_⟩⟩;have s0:=aj (o:=.lst ([]:List V)) he0;have J0:=JA.same N s0;have tp0:=s0 _ _ tpA;have cT:Same (bE HA [ka,du,tr]) (bE (ag HA e0 (.lst ([]:List V))) [ka,du,tr]):=kP λb o _ e=>s0 _ _ e;have lat0:=latL.kept cT.ls;generalize ag HA e0 (.lst ([]:List V))=HC at s0 J0 tp0 cT lat0 ⊢;have edu:gk is (i+1)=gk is i++((bW is i).fs++i0 is i):=by unfold gk;rw[List.range_succ,List.flatMap_append,List.flatMap_cons,List.flatMap_nil,QA,QX]
   refine Hv (b2:=decide (cy (bu (bW is i))=0)) (λhb h=>?_) ?_
   ·have HL:us≠[]:=λz=>by rw[z] at hb;simp at hb
    obtain⟨us0,u,t,HN,eu,eg,hu⟩:=Hw lat0 HL;have hu:=(eB hu).2;have tp0':HC tp=some (.lst (us0.map V.ref++[V.ref u])):=by rw[tp0,eu];simp
    refine⟨_,rfl,_,rfl,tp,_,_,_,rfl,rfl,am.of tp0',mO _ _,u,_,_,_,rfl,rfl,ao.of hu,aY (j:=0) rfl,rfl,_,rfl,?_⟩;rw[dJ]
    have:decide (cy (bu (bW is i))=0)=!decide (t.kw="give"):=by
     rw[show cy (bu (bW is i))=cy (bB (bW is i).B 4 0) from rfl,eg];by_cases hk:t.kw="give"
     ·rw[if_pos hk,Qn hk];rfl
     rw[if_neg hk,Qk hk];rfl
    rw[<-this];exact h
   have eb:(decide (us.map V.ref=[])||decide (cy (bu (bW is i))=0))=decide (cy (bu (bW is i))=0):=by
    by_cases he:us.map V.ref=[]
    ·have hl:=lat0.length;rw[he] at hl;have:bu (bW is i)=[]:=List.length_eq_zero_iff.mp hl.symm;rw[Qn he,this];rfl
    rw[Qk he];rfl
   rw[eb];refine cN (λhg=>?_) (λhg=>?_)
   ·have hg:=QO hg;obtain⟨ysC,dsC,c1,c2,c3,c4⟩:=J0.hd;refine⟨_,rfl,.inl ⟨rfl,_,am.of c1⟩,_,rfl,bg,λt2 Iv=>⟨du,ysC,_,rfl,rfl,aj Iv _ _ c1,bC (by rw[c2.1];lia),hR4 _ _ ⟨rfl,?_,?_⟩⟩⟩
    ·have st:=aj (o:=.tup ((kk (20+20*i) "give").map kV)) Iv;have J1:=J0.same N st
     have tk:eG (ag HC t2 (.tup ((kk (20+20*i) "give").map kV))) (ag (ag HC t2 (.tup ((kk (20+20*i) "give").map kV))) du (.lst (ysC++[.ref t2]))):=λb xs hb=>by
      rw[ay λz=>by rw[z,st _ _ c1] at hb;cases hb];exact hb
     have eg:i0 is i=[kk (20+20*i) "give"]:=if_pos hg;have en:30+60*(i+1)=30+60*i+30+30:=by lia
     rw[edu,eg,<-QX,en]
     have KZ:∀k∈dsC,k≠kk (20+20*i) "give":=λk hk e=>by
      rcases Qv ((c3.2.1 k).mp hk) with h|h
      ·obtain⟨r,z,e1,e2⟩:=J.rb k h;rw[e1] at e;have:=oX e;lia
      obtain⟨r,z,e1,e2,_⟩:=FD.fs k h;rw[e1] at e;have:=oX e;lia
     refine J1.to N (λb o n1 n2 e=>by rw[ay n2];exact e) (by rw[ay N.kd];exact J1.hk) ah (oz (dH (dH c2 st.tups) tk) (oA (tk _ _ ah))) ⟨List.nodup_append.mpr ⟨c3.1,by simp,λk hk k' Jx e=>KZ k hk (by rw[e];exact Qj Jx)⟩,λk=>by rw[List.mem_append,List.mem_append,c3.2.1 k],List.pairwise_append.mpr ⟨c3.2.2,List.pairwise_singleton ..,λk hk k' Jx e=>?_⟩⟩ (by rw[Qi,QP];lia) (λk hk=>?_)
     ·rw[Qj Jx] at e ⊢;rcases Qv ((c3.2.1 k).mp hk) with h|h
      ·obtain⟨r,z,rfl,e2⟩:=J.rb k h;rw[jw e2] at e;cases e
      obtain⟨r,z,rfl,e2,e3⟩:=FD.fs k h;exact Hu (by lia) (by lia)
     rcases Qv hk with hk|hk
     ·exact J0.rb k hk
     exact⟨20+20*i,"give",Qj hk,by lia⟩
    exact cT.trans (kP fun b o hb e=>by
     have hb2:b≠du:=λz=>hb (by rw[z];simp)
     rw[ay hb2];exact aj Iv _ _ e)
   have eg:i0 is i=[]:=if_neg λz=>hg (Qn z);refine hR4 _ _ ⟨rfl,?_,cT⟩;rw[edu,eg,QA];obtain⟨ysC,dsC,c1,c2,c3,c4⟩:=J0.hd;exact {J0 with hd:=⟨ysC,dsC,c1,c2,c3,by lia⟩}
  rintro σ' HD ⟨rfl,JD,sLD⟩;obtain⟨xsD,xD1,xD2⟩:=JD.ht;have huD:=JD.sb _ _ hu7;have hpD:=JD.sb _ _ IA;refine⟨_,rfl,.inl ⟨rfl,_,am.of xD1⟩,_,rfl,_,rfl,uh,_,_,_,rfl,rfl,ao.of huD,aY (j:=0) rfl,_,rfl,uh,_,_,_,rfl,rfl,ao.of huD,aY (j:=1) rfl,_,rfl,uh,_,_,_,rfl,rfl,ao.of huD,aY (j:=2) rfl,pp,_,rfl,.inl ⟨am.of hpD,λtt htt=>⟨_,rfl,(by show 6<=sizeLine;decide),λtd htd=>?_⟩⟩⟩;have st1:=aj (o:=.tup (ups.map V.ref)) htt;have IJ:=aj (o:=.tup [.str "def",.int ((20+20*i:Nat):Int),.str hh.1,.str hh.2.1,.ref tt,.ref tp]) htd;have st:=st1.trans IJ;have JE:=JD.same N st;have ett:=IJ _ _ (ah (H:=HD) (a:=tt) (o:=.tup (ups.map V.ref)));have etd:=ah (H:=ag HD tt (.tup (ups.map V.ref))) (a:=td) (o:=.tup [.str "def",.int ((20+20*i:Nat):Int),.str hh.1,.str hh.2.1,.ref tt,.ref tp]);have xE:=st _ _ xD1;have sLE:Same (bE HD [ka,du,tr]) (bE (ag (ag HD tt (.tup (ups.map V.ref))) td (.tup [.str "def",.int ((20+20*i:Nat):Int),.str hh.1,.str hh.2.1,.ref tt,.ref tp])) [ka,du,tr]):=kP λb o _ e=>st _ _ e;have hlx:=xD2.length;generalize ag (ag HD tt (.tup (ups.map V.ref))) td (.tup [.str "def",.int ((20+20*i:Nat):Int),.str hh.1,.str hh.2.1,.ref tt,.ref tp])=HE at st JE ett etd xE sLE ⊢;have nL:∀{b:Addr} {zs:List V},HE b=some (.tup zs)->bE HE [ka,du,tr] b=some (.tup zs):=λ{b zs} hb=>c8 (λz=>(nn JE JE b z).2 zs hb) hb;have edf:cH is i=.df (20+20*i) hh.1 hh.2.1 hh.2.2 (bu (bW is i)):=by unfold cH;rw[Kf]
  have lE:=(latL.kept sLD.ls).kept sLE.ls;have tpE:=sLE _ _ (sLD _ _ (c8 tpL tpA));have hv:LAt (bE HE [ka,du,tr]) false [.ref td] [cH is i]:=by rw[edf];exact .cons (.plain rfl (.mk (nL etd) (.cons (.s _) (.cons (.i _) (.cons (.s _) (.cons (.s _) (.cons (.p ⟨tt,ups,rfl,nL ett,JZ,λj u q h1 h2=>nL (JE.sb _ _ (JI j u q h1 h2))⟩) (.cons (.b tpE lE) .nil)))))))) .nil
  have etr:dL is (i+1)=dL is i++[cH is i]:=by unfold dL;rw[List.range_succ,QD];simp
  have hlm:(dL is i).length<=30:=by unfold dL;rw[QU,Qi,Qg,List.length_range];lia
  refine⟨tr,xsD,_,rfl,rfl,xE,bC (by rw[hlx];lia),hN _ _ ⟨⟨_,_,_,_,_,_,_,rfl⟩,?_,λj hj=>?_⟩⟩
  ·rw[etr];exact JE.app N xE hv
  rcases Nat.lt_or_ge j i with h|h
  ·exact hB j h
  have:j=i:=by lia
  subst this;rw[Kf];exact BD
 rintro σ' H7 ⟨⟨x6,x7,x8,x9,Jk,JG,Kn,rfl⟩,J7,hBD⟩;obtain⟨xs7,x71,x72⟩:=J7.ht;refine⟨_,rfl,.inl ⟨rfl,_,am.of x71⟩,_,rfl,_,rfl,_,rfl,a,_,rfl,(sH.trans J7.sb).seq hS,λcl IM=>?_⟩;rw[show eZ (is.map V.int) (some 22) (some 28)=(fA is).map V.int from sQ is 22 28];have J8:=J7.same N (aj (o:=.lst ((fA is).map V.int)) IM);have hcl8:=ah (H:=H7) (a:=cl) (o:=.lst ((fA is).map V.int));have IY:cl≠du:=λz=>by obtain⟨ys,_,e,_⟩:=J7.hd;rw[<-z,IM] at e;cases e
 generalize ag H7 cl (.lst ((fA is).map V.int))=H8 at J8 hcl8 ⊢;have F4:=mq hO hG (gv:=false) (hk:="") (n:=70+1) (ks:=(cv is).ks) F1.ko (cs:=fA is) (fA is).length;have l4:=oV is;have k1:(cv is).ks.length<=0+(eX is).length:=F1.kl;obtain⟨ys8,ds8,d81,d82,d83,d84⟩:=J8.hd;refine⟨_,rfl,_,rfl,_,rfl,_,rfl,cl,ka,hp,l,du,.non,false,"",fA is,70,(cv is).ks,aL is,ys8,ds8,rfl,hcl8,by lia,IY,N.kd,J8.hk,by lia,F1.ko,J8.ct N hC N.nk (Same.refl _),sI is,hO,hG,.inl ⟨rfl,rfl⟩,d81,d82,by lia,λtp us ys9 ds9 H9 Ji S9 k9 d9 T9 D9 l9 pi9 tp9 lat9 sq9=>?_⟩;have sa9:∀b o,b≠ka->b≠du->H8 b=some o->H9 b=some o:=λb o n1 n2 e=>S9 _ _ (c8 (by simp[n1,n2]) e);have B4:ig (aL is) false "" (70+1) (cv is).ks (fA is).length (fU is) (bu (fU is)):=sJ F4 pi9 (by lia) sq9
 have J9:=J8.to N sa9 k9 d9 T9 (sR (lo:=71) d83 D9 (λk hk=>by obtain⟨r,z,e1,e2⟩:=J8.rb k hk;exact⟨r,z,e1,by lia⟩) (λk hk=>by obtain⟨r,z,e1,e2,_⟩:=F4.fs k hk;exact⟨r,z,e1,by lia⟩)) (by rw[Qi];lia) (hi':=100) (λk hk=>by
  rcases Qv hk with hk|hk
  ·obtain⟨r,z,e1,e2⟩:=J8.rb k hk;exact⟨r,z,e1,by lia⟩
  obtain⟨r,z,e1,_,e2⟩:=F4.fs k hk;exact⟨r,z,e1,by lia⟩)
 obtain⟨xs9,x91,x92⟩:=J9.ht;have JA:=J9.app N x91 (lat9 [ka,du,tr] (nn J8 J9));have u9:=(lat9 [ka,du,tr] (nn J8 J9)).length;have c4:=mr (bu (fU is));have b4c:=B4.cn
 have TT:ii is:=⟨B1,hBD,B4⟩
 have hkk:=(zH TT).2.1;refine⟨tr,tp,_,_,rfl,rfl,x91,tp9,?_,?_⟩
 ·have h1:=x92.length;have:(us.map V.ref).length=(bu (fU is)).length:=u9;rw[h1,this];refine QT (iD ?_);have:(dL is (aL is).hs.length++bu (fU is)).length<=40:=hkk;rw[Qi] at this;lia
 have JA:BI H2 (ag H9 tr (.lst (xs9++us.map V.ref))) ka du tr (bv is) (fU is).ks (oT is) (30+60*(aL is).hs.length+30) 100:=JA;generalize ag H9 tr (.lst (xs9++us.map V.ref))=HA at JA ⊢;dsimp only;obtain⟨ysA,dsA,e1,e2,e3,e4⟩:=JA.hd;obtain⟨xsA,y1,y2⟩:=JA.ht;have shp:∀d∈dsA,d.map cF=[true,false]:=λd hd=>by obtain⟨r,z,rfl,_⟩:=JA.rb d ((e3.2.1 d).mp hd);rfl
 have hfw:gy dsA:=by obtain⟨q1,q2⟩:=sN TT;exact vt (QE (QR (e3.1.length_le_of_subset λk hk=>(q2 k).mpr ((e3.2.1 k).mp hk)) (zG is TT (zF TT))) (by decide)) e3.1 sP e3.2.2
 refine⟨_,rfl,_,rfl,du,ysA,dsA,[true,false],rfl,am.of e1,e2,shp,hfw,by simp,λp IB=>⟨bg,λt ht=>?_⟩⟩;have sp:=aj (o:=.lst (b7 dsA ysA)) IB;have st:=aj (o:=.tup [.ref tr,.ref p]) ht;have sA:=sp.trans st;obtain⟨v1,v2,v3⟩:=qt (ds:=dsA) (sh:=[true,false]) shp hfw e3.1;exact kq t tr p xsA _ (dm dsA) _ ((sH.trans JA.sb).trans sA) ah (sA _ _ y1) ((y2.kept (show Same (bE HA [ka,du,tr]) HA from λb o hb=>(eB hb).2).ls).kept sA.ls) (st _ _ ah) (dH (wE e2) sA.tups) v1 (λk=>⟨λh=>(e3.2.1 k).mp (rV h),λh=>yu v3 ((e3.2.1 k).mpr h)⟩) TT
inductive mw (K:W.Frag) (vs:List V) (H:Hp) (Q:VK) (E:XK):Prop
 |mk:∀(a:Addr) (ns:List Int),vs=[.ref a]->am K H a (ns.map V.int)->ns.length<=63->(∀H',Q (.bl true) H')->mw K vs H Q E
noncomputable abbrev Hz:List Str:=["_law_script","_law_tree","_law_due","_law_found"]
theorem zQ:bf Hz Yp (aJ rm):=by decide +kernel
theorem HG(T:All P w K mg AA DD)(F:lg K "law" "law" rm f fd):aE P w K mg base aG 50 f fd Yp (mw K):=by
 have GB:=Hy (base:=base) T;have GPK:=Gc (base:=base) T;refine F.ok zQ (λvs H Q E h=>?_) (λHQ A outer s H vs Q E hr h=>?_)
 ·obtain⟨a,ns,rfl,_⟩:=h;rfl
 obtain⟨a,is,rfl,hS,HM,kq⟩:=h;have nd:=zQ.nd;have hu:=hr.units;have hrP:aB 42 _:=hr.mono (by decide);have KF:aB 10 _:=hr.mono (by decide);refine⟨_,(aq (Ai (aO GB KF rfl T.z_ZF (aa (pv 0) af)) (mF rfl (bp (ba (i:=1) nd rfl (Or.inl rfl)) (bp (ba (i:=2) nd rfl (Or.inl rfl)) cV)))) (aq (aQ (i:=3) nd rfl (Or.inl rfl) (aO GPK hrP rfl T.z_Zq (aa (pv 1) af))) (ap (aN (o3 (dO (ny (K:=K) (n:="list") rfl) rfl T.n_isinstance mS (aa (pv 3) (aa (mB (v:=.ty "list") rfl T.n_list lh rfl) af))) (o3 (@pE _ _ _ _ _ _ _ _ (wt hu) (pv 3) (pv 2) (aI _)) (sW (@pE _ _ _ _ _ _ _ _ (wt hu) (pv 1) (bY (jU (K:=K) rfl) (aO GB KF rfl T.z_ZF (aa (pv 0) af)) ar (λ_ _=>rfl)) (aI _))))))))),?_⟩;dsimp only[gQ];refine⟨_,rfl,a,is,rfl,hS,HM,λt l d xs ys0 ks H1 s1 ht hl hL hd hD hP hM TT=>?_⟩;have tok:=zH TT;have hfk:=(sN TT).2;refine⟨t,_,rfl,ao.of ht,rfl,_,_,rfl,_,_,rfl,rfl,?_⟩;dsimp only[mD,aP,o5];refine⟨_,rfl,l,xs,bv is,rfl,hl,hL,tok,λp ys ks2 H2 l2 hp hT hP2 hM2=>?_⟩;have ek:ks2=ks:=vF hP2 hP λk=>by rw[hM2 k,hfk k,hM k]
 subst ek;dsimp only[aP];refine⟨_,rfl,.ref p,_,true,rfl,.lst hp,by rfl,_,rfl,gR ?_⟩;refine⟨_,rfl,_,rfl,p,d,ys,ys0,rfl,rfl,hp,l2.2 _ _ hd,.tups hT (dH hD l2.1) _,_,rfl,gR ?_⟩;have IE:=l2.seq (s1.seq hS);refine⟨_,rfl,_,rfl,a,is,rfl,IE,HM,λt' l' d' xs' HV KC H4 s4 ht' hl' hL' _ _ _ _ _=>?_⟩;have l4:=l2.trans s4.ls;exact⟨t',_,_,_,rfl,rfl,ao.of ht',aY (j:=0) rfl,l,l',xs,xs',rfl,rfl,l4.2 _ _ hl,hl',Ez 22 _ _ _ tok.2.2.1 (by have:=tok.1;lia) (hL.kept l4) hL',kq _⟩
end
def FG(K:W.Frag)(n q:Str)(st:Stmt)(ps:List Str):Prop:=∃f fd,W.nsIn K mainGlobals n=some (some (.ref f))/\FB K n q st ps f fd
def MG(K:W.Frag)(c:Addr)(n q:Str)(st:Stmt)(ps:List Str):Prop:=∃f fd,W.findIn K (.ref c) n=some (some (.ref f))/\W.isFn K (.ref f)=true/\FB K n q st ps f fd
def DG(P:Program)(w:World)(K:W.Frag)(n:Str)(kvs:List (Str×Str)):Prop:=∃d,W.nsIn K mainGlobals n=some (some (.ref d))/\jf P w K d kvs
section
variable {K:W.Frag}{n q:Str}{st:Stmt}{ps:List Str}{f c:Addr}{oc kV dc pm cd ct:Value}{od an:Option Addr}{sl:Array (Option Value)}
theorem fb(l:K.lookup f=some ⟨oc,od,.func (W.fnOf n q (jN st) (jb st) (aJ st) .none kV dc pm an cd ct),sl⟩)(e:W.codeIn K cd q=true)(k:W.keepIn K (.ref f)=true)
  (b:∀us:List Value,us.length=ps.length->bindArgs (W.fnOf n q (jN st) (jb st) (aJ st) .none kV dc pm an cd ct) ⟨us,[]⟩=pure (ps.zip us)):FB K n q st ps f (W.fnOf n q (jN st) (jb st) (aJ st) .none kV dc pm an cd ct):=
 ⟨k,Bq l e k,.all b⟩
theorem fg(a:W.nsIn K mainGlobals n=some (some (.ref f)))(b:FB K n q st ps f fd):FG K n q st ps:=⟨f,fd,a,b⟩
theorem mg(a:W.findIn K (.ref c) n=some (some (.ref f)))(i:W.isFn K (.ref f)=true)(b:FB K n q st ps f fd):MG K c n q st ps:=⟨f,fd,a,i,b⟩
end
noncomputable def zR(x:DictEntry):jY:=match x with
 |⟨_,.str a b,.str c d⟩=>(a,b,c,d)
 |_=>("",0,"",0)
theorem dg{w:World}{K:W.Frag}{kvs:List (Str×Str)}{d:Addr}{A:Array DictEntry}(a:W.nsIn K mainGlobals n=some (some (.ref d)))(l:K.lookup d=some ⟨.type "dict",none,.dict A ep,#[]⟩)(s:(d==sysModules)=false)
  (e:A=((A.toList.map zR).map (m6 w)).toArray) (k:(A.toList.map zR).map (λe=>(e.1,e.2.2.1))=kvs) (nd:(kvs.map (·.1)).Nodup):DG P w K n kvs:=by
 refine⟨d,a,?_⟩;rw[<-k,QY] at nd;rw[<-k];exact Cw s (by rw[<-e];exact l) nd
theorem HH{l:W.OpenLaw}{w:World}{K:W.Frag}{h:Heap}{mg:Str->Option Value}(X:K.In h)(G:h.Ns mainGlobals mg)(hfa:mg "law"=some (.ref fa))
     
  (JV:W.nsIn K mainGlobals "KindLook"=some (some (.ref c_KindLook)))
  (g_ZR:FG K "least" "least" qG ["mask"])
  (g_ZL:FG K "without" "without" qH Yz)
  (g_ZO:FG K "all_of" "all_of" qI ["pairs"])
  (g_Zs:FG K "kept_pairs" "kept_pairs" nM YA)
  (g_ZP:FG K "add_to" "add_to" qJ Yu)
  (g_Zt:FG K "with_masks" "with_masks" nN ["found"])
  (g_Zv:FG K "kept_tree" "kept_tree" nO Ym)
  (g_Zj:FG K "kept_statement" "kept_statement" nP Yy)
  (g_Zk:FG K "row_and_least" "row_and_least" qK ["pair"])
  (g_Zw:FG K "shared_of" "shared_of" nQ ["tree"])
  (g_Zh:FG K "shared_statement" "shared_statement" nR ["one"])
  (g_Zx:FG K "blocks_of" "blocks_of" nS ["one"])
  (g_Zu:FG K "first_rows" "first_rows" qL ["tree"])
  (g_ZG:FG K "pairs_of" "pairs_of" qM ["one"])
  (g_ZM:FG K "expr_of" "expr_of" qN ["one"])
  (g_ZH:FG K "exprs_in" "exprs_in" qO ["e"])
  (g_ZS:FG K "unfit" "unfit" nT YD)
  (g_Zy:FG K "is_record" "is_record" qP ["kind"])
  (g_ZQ:FG K "giving" "giving" qQ ["body"])
  (g_Zn:FG K "shared_kinds" "shared_kinds" qR Ym)
  (g_Zq:FG K "plain_kinds" "plain_kinds" nU ["tree"])
  (g_Zr:FG K "_law_cell_at" "_law_cell_at" qS Ys)
  (g_ZA:FG K "_law_mixed" "_law_mixed" qT Yx)
  (g_ZB:FG K "_law_names" "_law_names" nV ["_law_number"])
  (g_ZI:FG K "_law_expr" "_law_expr" qU Yb)
  (g_ZC:FG K "_law_parts" "_law_parts" kj Yl)
  (g_ZJ:FG K "_law_kind" "_law_kind" nW Yc)
  (g_ZN:FG K "_law_row" "_law_row" qV Yg)
  (g_ZD:FG K "_law_noted" "_law_noted" qW Ye)
  (g_ZK:FG K "_law_fill" "_law_fill" qX Yd)
  (g_ZE:FG K "_law_heads" "_law_heads" nX Yr)
  (g_ZF:FG K "_law_built" "_law_built" qY Yp)
  (g_Zl:MG K c_KindLook "__init__" "KindLook.__init__" qZ YE)
  (g_Zm:MG K c_KindLook "note" "KindLook.note" rc Yq)
  (g_Zb:MG K c_KindLook "look_body" "KindLook.look_body" re Yh)
  (g_Zd:MG K c_KindLook "look_def" "KindLook.look_def" nY Yv)
  (g_Ze:MG K c_KindLook "look_row" "KindLook.look_row" nZ Yn)
  (g_Zf:MG K c_KindLook "look_set" "KindLook.look_set" rf Yt)
  (g_Zp:MG K c_KindLook "ask" "KindLook.ask" rh Yi)
  (g_Zg:MG K c_KindLook "kinds_of" "KindLook.kinds_of" lO Yj)
  (g_Zc:MG K c_KindLook "used_rows" "KindLook.used_rows" ri Yk)
  (g_Za:MG K c_KindLook "field_kinds" "KindLook.field_kinds" n0 Yo)
  (g_law:FG K "law" "law" rm Yp)
  (IR:W.plainGet K c_KindLook Str.empty=true)
  (IS:W.hasDictIn K c_KindLook=true)
  (IQ:W.plainOver K c_KindLook=true)
  (IN:W.findIn K (.ref c_KindLook) "__setattr__"=some (some (.builtin "object.__setattr__")))
  (JT:W.makesIn K c_KindLook=true)
  (JU:W.keepIn K (.ref c_KindLook)=true)
  (na_KindLook_faults:W.findIn K (.ref c_KindLook) "faults"=some none)
  (na_KindLook_firsts:W.findIn K (.ref c_KindLook) "firsts"=some none)
  (JS:W.findIn K (.ref c_KindLook) "__class__"=some (some (.builtin "object.__class__")))
  (JR:W.specialIn K (.builtin "object.__class__") "__get__"=some (some (.builtin "getset_descriptor.__get__")))
  (JQ:W.takesIn K (.builtin "object.__class__")=some true)
  (JP:W.mroIn K c_KindLook (.type "object")=some true)
  (g_MAKES:DG l.prog w K "MAKES" [("num","num"),("truth","truth"),("+","num"),("-","num"),("*","num"),("less","truth"),("same","truth"),("and","truth"),("or","truth"),("not","truth")])
  (g_ASKS:DG l.prog w K "ASKS" [("+","num"),("-","num"),("*","num"),("less","num"),("same","num"),("and","truth"),("or","truth"),("not","truth")])
  (Jw:W.nsIn K mainGlobals "PLAIN_KINDS"=some (some (.ref q_PLAIN_KINDS)))
  (Jv:K.lookup q_PLAIN_KINDS=some ⟨.type "tuple",Jg,.seq #[.str "num" IW,.str "truth" IV] Ju,Jf⟩)
  (z_len:W.nsIn K mainGlobals "len"=some none)
  (z_range:W.nsIn K mainGlobals "range"=some none)
  (z_list:W.nsIn K mainGlobals "list"=some none)
  (z_dict:W.nsIn K mainGlobals "dict"=some none)
  (z_tuple:W.nsIn K mainGlobals "tuple"=some none)
  (Ls:W.nsIn K mainGlobals "sorted"=some none)
  (Jz:W.nsIn K mainGlobals "isinstance"=some none)
  (z_zip:W.nsIn K mainGlobals "zip"=some none)
  (z_set:W.nsIn K mainGlobals "set"=some none)
  :
  ∃fd:FuncData,(∀(s:Shared) (v:Value),BindsTo s fd ⟨[v],[]⟩ [("_law_script",v)])/\∀base:Heap,K.In base->base.Ns mainGlobals mg->aE l.prog w K mg base aG 50 fa fd Yp (mw K):=by
 obtain⟨_,_,a_ZR,u_ZR⟩:=g_ZR;obtain⟨_,_,a_ZL,u_ZL⟩:=g_ZL;obtain⟨_,_,a_ZO,u_ZO⟩:=g_ZO;obtain⟨_,_,a_Zs,u_Zs⟩:=g_Zs;obtain⟨_,_,a_ZP,u_ZP⟩:=g_ZP;obtain⟨_,_,a_Zt,u_Zt⟩:=g_Zt;obtain⟨_,_,a_Zv,u_Zv⟩:=g_Zv;obtain⟨_,_,a_Zj,u_Zj⟩:=g_Zj;obtain⟨_,_,a_Zk,u_Zk⟩:=g_Zk;obtain⟨_,_,a_Zw,u_Zw⟩:=g_Zw;obtain⟨_,_,a_Zh,u_Zh⟩:=g_Zh;obtain⟨_,_,a_Zx,u_Zx⟩:=g_Zx;obtain⟨_,_,a_Zu,u_Zu⟩:=g_Zu;obtain⟨_,_,a_ZG,u_ZG⟩:=g_ZG;obtain⟨_,_,a_ZM,u_ZM⟩:=g_ZM;obtain⟨_,_,a_ZH,u_ZH⟩:=g_ZH;obtain⟨_,_,a_ZS,u_ZS⟩:=g_ZS;obtain⟨_,_,a_Zy,u_Zy⟩:=g_Zy;obtain⟨_,_,a_ZQ,u_ZQ⟩:=g_ZQ;obtain⟨_,_,a_Zn,u_Zn⟩:=g_Zn;obtain⟨_,_,a_Zq,u_Zq⟩:=g_Zq;obtain⟨_,_,a_Zr,u_Zr⟩:=g_Zr;obtain⟨_,_,a_ZA,u_ZA⟩:=g_ZA;obtain⟨_,_,a_ZB,u_ZB⟩:=g_ZB;obtain⟨_,_,a_ZI,u_ZI⟩:=g_ZI;obtain⟨_,_,a_ZC,u_ZC⟩:=g_ZC;obtain⟨_,_,a_ZJ,u_ZJ⟩:=g_ZJ;obtain⟨_,_,a_ZN,u_ZN⟩:=g_ZN;obtain⟨_,_,a_ZD,u_ZD⟩:=g_ZD;obtain⟨_,_,a_ZK,u_ZK⟩:=g_ZK;obtain⟨_,_,a_ZE,u_ZE⟩:=g_ZE;obtain⟨_,_,a_ZF,u_ZF⟩:=g_ZF;obtain⟨_,_,a_Zl,i_Zl,u_Zl⟩:=g_Zl;obtain⟨_,_,a_Zm,i_Zm,u_Zm⟩:=g_Zm;obtain⟨_,_,a_Zb,i_Zb,u_Zb⟩:=g_Zb;obtain⟨_,_,a_Zd,i_Zd,u_Zd⟩:=g_Zd;obtain⟨_,_,a_Ze,i_Ze,u_Ze⟩:=g_Ze;obtain⟨_,_,a_Zf,i_Zf,u_Zf⟩:=g_Zf;obtain⟨_,_,a_Zp,i_Zp,u_Zp⟩:=g_Zp;obtain⟨_,_,a_Zg,i_Zg,u_Zg⟩:=g_Zg;obtain⟨_,_,a_Zc,i_Zc,u_Zc⟩:=g_Zc;obtain⟨_,_,a_Za,i_Za,u_Za⟩:=g_Za;obtain⟨_,_,a_law,u_law⟩:=g_law;obtain⟨_,a_MAKES,D_MAKES⟩:=g_MAKES;obtain⟨_,a_ASKS,D_ASKS⟩:=g_ASKS;have e:=hfa.symm.trans (W.mg_of X G a_law);cases e
 have T:All l.prog w K mg ⟨_,_,_,_,_,_,_,_,_,_,_,_,_,_,_,_,_,_,_,_,_,_,_,_,_,_,_,_,_,_,_,_,_,_,_,_,_,_,_,_,_,_,_,_,_,_⟩ ⟨_,_,_,_,_,_,_,_,_,_,_,_,_,_,_,_,_,_,_,_,_,_,_,_,_,_,_,_,_,_,_,_,_,_,_,_,_,_,_,_,_,_⟩:=⟨⟨u_ZR,W.mg_of X G a_ZR⟩,
  ⟨u_ZL,W.mg_of X G a_ZL⟩,
  ⟨u_ZO,W.mg_of X G a_ZO⟩,
  ⟨u_Zs,W.mg_of X G a_Zs⟩,
  ⟨u_ZP,W.mg_of X G a_ZP⟩,
  ⟨u_Zt,W.mg_of X G a_Zt⟩,
  ⟨u_Zv,W.mg_of X G a_Zv⟩,
  ⟨u_Zj,W.mg_of X G a_Zj⟩,
  ⟨u_Zk,W.mg_of X G a_Zk⟩,
  ⟨u_Zw,W.mg_of X G a_Zw⟩,
  ⟨u_Zh,W.mg_of X G a_Zh⟩,
  ⟨u_Zx,W.mg_of X G a_Zx⟩,
  ⟨u_Zu,W.mg_of X G a_Zu⟩,
  ⟨u_ZG,W.mg_of X G a_ZG⟩,
  ⟨u_ZM,W.mg_of X G a_ZM⟩,
  ⟨u_ZH,W.mg_of X G a_ZH⟩,
  ⟨u_ZS,W.mg_of X G a_ZS⟩,
  ⟨u_Zy,W.mg_of X G a_Zy⟩,
  ⟨u_ZQ,W.mg_of X G a_ZQ⟩,
  ⟨u_Zn,W.mg_of X G a_Zn⟩,
  ⟨u_Zq,W.mg_of X G a_Zq⟩,
  ⟨u_Zr,W.mg_of X G a_Zr⟩,
  ⟨u_ZA,W.mg_of X G a_ZA⟩,
  ⟨u_ZB,W.mg_of X G a_ZB⟩,
  ⟨u_ZI,W.mg_of X G a_ZI⟩,
  ⟨u_ZC,W.mg_of X G a_ZC⟩,
  ⟨u_ZJ,W.mg_of X G a_ZJ⟩,
  ⟨u_ZN,W.mg_of X G a_ZN⟩,
  ⟨u_ZD,W.mg_of X G a_ZD⟩,
  ⟨u_ZK,W.mg_of X G a_ZK⟩,
  ⟨u_ZE,W.mg_of X G a_ZE⟩,
  ⟨u_ZF,W.mg_of X G a_ZF⟩,
  ⟨JT,a_Zl,i_Zl,JU⟩,
  u_Zl,
  ⟨a_Zm,i_Zm,u_Zm.k⟩,
  u_Zm,
  ⟨a_Zb,i_Zb,u_Zb.k⟩,
  u_Zb,
  ⟨a_Zd,i_Zd,u_Zd.k⟩,
  u_Zd,
  ⟨a_Ze,i_Ze,u_Ze.k⟩,
  u_Ze,
  ⟨a_Zf,i_Zf,u_Zf.k⟩,
  u_Zf,
  ⟨a_Zp,i_Zp,u_Zp.k⟩,
  u_Zp,
  ⟨a_Zg,i_Zg,u_Zg.k⟩,
  u_Zg,
  ⟨a_Zc,i_Zc,u_Zc.k⟩,
  u_Zc,
  ⟨a_Za,i_Za,u_Za.k⟩,
  u_Za,
  W.mg_of X G JV,
  ⟨IR,IS,IQ,IN⟩,
  na_KindLook_faults,
  na_KindLook_firsts,
  λH a dx fs e=>.ins e ⟨IR,IS,IQ,IN⟩ JS JR JQ JP,
  BB _ _,
  W.mg_of X G a_MAKES,
  D_MAKES,
  W.mg_of X G a_ASKS,
  D_ASKS,
  W.mg_of X G Jw,
  λH=>.inr ⟨_,_,_,Jv,rfl,rfl,bg,.cons ⟨_,rfl⟩ (.cons ⟨_,rfl⟩ (.nil))⟩,
  W.mg_none_of X G z_len,
  W.mg_none_of X G z_range,
  W.mg_none_of X G z_list,
  W.mg_none_of X G z_dict,
  W.mg_none_of X G z_tuple,
  W.mg_none_of X G Ls,
  W.mg_none_of X G Jz,
  W.mg_none_of X G z_zip,
  W.mg_none_of X G z_set⟩
 obtain⟨_,_,_,_,_,_,_,_,_,e,_⟩:=u_law.F.ex;exact⟨_,λs v=>by rw[e];exact .of_eq rfl,λbase _ _=>HG T u_law.F⟩
theorem HI{l:W.OpenLaw}{q:Program}{loose:List Str}{XP:(Str->Option Value)->Heap->Prop}{YP:World->Heap->Prop}{d:DefRec}{K:Params->W.Frag}(hn:l.most=some 63)(hdf:d.params.defaults=[])
  (hY:∀(w:World) (h:Heap),YP w h->(K w.params).In h)
  (F:∀(w:World) (mg:Str->Option Value) (fa:Addr) (h:Heap),(K w.params).In h->h.Ns mainGlobals mg->mg d.name=some (.ref fa) ->
   ∃fd:FuncData,(∀(s:Shared) (u:Value),BindsTo s fd ⟨[u],[]⟩ [("_law_script",u)])/\∀base:Heap,(K w.params).In base->base.Ns mainGlobals mg->aE l.prog w (K w.params) mg base aG 50 fa fd Yp (mw (K w.params))) :
  W.WalkO q loose XP YP l.row.toRowW d [] (λf vs=>PySem.call f vs):=
 L2.Bp (n:=63) (k:=50) (x:="_law_script") (CX:=λ_=>aG) (sp:=λw=>mw (K w.params)) hn (by decide) hdf ⟨rfl,by decide,by decide⟩ hY F (λ_ _ a ns hl _ hS=>⟨a,ns,rfl,hS,hl,λ_=>rfl⟩) λ_ _ _ _ _ z=>z
end K46
open PySem PySem.W PyProof.Rows
set_option maxRecDepth 100000 in
set_option maxHeartbeats 0 in
theorem PySem.Challenge.cw_manymakes_k46_kinds_by_bodies_holds : PySem.Challenge.rw_manymakes_k46_kinds_by_bodies.Holds := by
 rw[<-K46.rwe]
 w_on;o_law
 refine PySem.W.holds_open (r:=OpenLaw.row K46.rw) (q:=K46.vw) (loose:=YG) (Xt:=K46.xt) (XP:=XL K46.vw [])
  (Yf:=(kHook K46.pre.heap_1 K46.as K46.ase).obs) (Ya:=(kHook K46.pre.heap_1 K46.as K46.ase).val) (YP:=(kHook K46.pre.heap_1 K46.as K46.ase).says)
  (N:=3840) (show LeftO K46.pw _ _ _ _ _ _ from K46.pwe ▸ K46.left)
  ((kHook K46.pre.heap_1 K46.as K46.ase).of) ((kHook K46.pre.heap_1 K46.as K46.ase).keeps) (λs e=>xl_of s (Mm.both_true e).1)
  (XL.keeps) (by rfl) (by rfl) (by rfl) (λs e=>recFacts_of (Mm.both_true e).2)
  (by rfl) (by assumption) (by decide +kernel)
  ⟨rfl,rfl,rfl,rfl,rfl,by decide +kernel⟩ ?hw ?hc
 (case hw=>exact⟨[.list []],by decide +kernel,by decide +kernel⟩)
 k_fill
 refine K46.HI (l:=K46.rw) rfl rfl (λw h Y=>PySem.W.kIn_of Y) ?F
 case F =>
  intro w mg fa h KX G hmg;apply K46.HH KX G hmg
  all_goals first|(apply K46.fg;k_is;apply K46.fb;k_is;k_is;k_is;intro us hl;(rcases us with _|⟨_,_|⟨_,_|⟨_,_|⟨_,_|⟨_,_|⟨_,_|⟨_,_|⟨_,_|_⟩⟩⟩⟩⟩⟩⟩⟩)<;>first|(simp at hl;done)|rfl)|(apply K46.mg;k_is;k_is;apply K46.fb;k_is;k_is;k_is;intro us hl;(rcases us with _|⟨_,_|⟨_,_|⟨_,_|⟨_,_|⟨_,_|⟨_,_|⟨_,_|⟨_,_|_⟩⟩⟩⟩⟩⟩⟩⟩)<;>first|(simp at hl;done)|rfl)|(apply K46.dg;k_is;k_is;all_goals first|rfl|decide +kernel)|k_is
