import PyProof.Rows.All
import Wide.All
import OpenK.AllK
import Wide.FinOn
import Lean
import PyProof.EqAt
import PyProof.EqKinds
import PyProof.TupleCall
import PyProof.Rows.BitMore
import KE.IntBitsLaws
import KE.KRevIter
import KE.KTryMore
import PyProof.StrLawsRepr
import KE.KIsAll
import KE.RegKIsAll
import KE.RegKTryMore
import PyProof.StrCalls2
import PyProof.StrLawsTight
import PyProof.StrLawsChain
import PyProof.Rows.StrItems
import PyProof.Rows.StrWeight2
import PyProof.EnumMake
import PyProof.EnumStmt
import PyProof.Rows.EnumRows
import PyProof.Rows.EqDataRows
import PyProof.P3Eq
import PyProof.Rows.SortRev
import KE.KSortTup
import PyProof.StrWalks
import KE.KIntText
import KE.IntTextLaws
import PyProof.CallStr
import PyProof.Rows.ZipGen
import PyProof.Rows.FactsT2
import PyProof.IsiH_list
import PyProof.AttrMiss
import KE.KDictOf
import PyProof.ZipIter
import PyProof.Rows.SetFrom
import KE.KRevSl
import PyProof.StrBlock2
import PyProof.StrCalls
import PyProof.Rows.StrCountLaw
import PyProof.SumWalk
import PyProof.Rows.InDataRows
import PySem.Challenge.RW_manymakes_k63_calls_and_records_run
set_option Elab.async false
set_option maxRecDepth 100000
set_option linter.all false
set_option maxHeartbeats 4000000
section
open PySem PySem.W
noncomputable def Mm.hdTr {α:Type} (_:α):Prop:=True
noncomputable def Mm.hdPk {α:Type} (s:α) (_:Mm.hdTr s):α:=s
theorem Mm.hdOf {α:Type} {a s:α} (_:a=s):Mm.hdTr s:=trivial
noncomputable def K63.t0:Stmt:=Mm.hdPk (Stmt.Assign _ _ _) (Mm.hdOf (a:=PySem.Challenge.pw_manymakes_k63_calls_and_records_run.main.body.getD 0 (Stmt.Pass ⟨0,0,0,0⟩)) rfl)
noncomputable def K63.t1:Stmt:=Mm.hdPk (Stmt.ClassDef _ _ _ _ _ _ _ _ _ _ _) (Mm.hdOf (a:=PySem.Challenge.pw_manymakes_k63_calls_and_records_run.main.body.getD 1 (Stmt.Pass ⟨0,0,0,0⟩)) rfl)
noncomputable def K63.t2:Stmt:=Mm.hdPk (Stmt.ClassDef _ _ _ _ _ _ _ _ _ _ _) (Mm.hdOf (a:=PySem.Challenge.pw_manymakes_k63_calls_and_records_run.main.body.getD 2 (Stmt.Pass ⟨0,0,0,0⟩)) rfl)
noncomputable def K63.t3:Stmt:=Mm.hdPk (Stmt.Assign _ _ _) (Mm.hdOf (a:=PySem.Challenge.pw_manymakes_k63_calls_and_records_run.main.body.getD 3 (Stmt.Pass ⟨0,0,0,0⟩)) rfl)
noncomputable def K63.t4:Stmt:=Mm.hdPk (Stmt.Assign _ _ _) (Mm.hdOf (a:=PySem.Challenge.pw_manymakes_k63_calls_and_records_run.main.body.getD 4 (Stmt.Pass ⟨0,0,0,0⟩)) rfl)
noncomputable def K63.t5:Stmt:=Mm.hdPk (Stmt.Assign _ _ _) (Mm.hdOf (a:=PySem.Challenge.pw_manymakes_k63_calls_and_records_run.main.body.getD 5 (Stmt.Pass ⟨0,0,0,0⟩)) rfl)
noncomputable def K63.t6:Stmt:=Mm.hdPk (Stmt.Assign _ _ _) (Mm.hdOf (a:=PySem.Challenge.pw_manymakes_k63_calls_and_records_run.main.body.getD 6 (Stmt.Pass ⟨0,0,0,0⟩)) rfl)
noncomputable def K63.t7:Stmt:=Mm.hdPk (Stmt.Assign _ _ _) (Mm.hdOf (a:=PySem.Challenge.pw_manymakes_k63_calls_and_records_run.main.body.getD 7 (Stmt.Pass ⟨0,0,0,0⟩)) rfl)
noncomputable def K63.t8:Stmt:=Mm.hdPk (Stmt.Assign _ _ _) (Mm.hdOf (a:=PySem.Challenge.pw_manymakes_k63_calls_and_records_run.main.body.getD 8 (Stmt.Pass ⟨0,0,0,0⟩)) rfl)
noncomputable def K63.t9:Stmt:=Mm.hdPk (Stmt.Assign _ _ _) (Mm.hdOf (a:=PySem.Challenge.pw_manymakes_k63_calls_and_records_run.main.body.getD 9 (Stmt.Pass ⟨0,0,0,0⟩)) rfl)
noncomputable def K63.t10:Stmt:=Mm.hdPk (Stmt.Assign _ _ _) (Mm.hdOf (a:=PySem.Challenge.pw_manymakes_k63_calls_and_records_run.main.body.getD 10 (Stmt.Pass ⟨0,0,0,0⟩)) rfl)
noncomputable def K63.t11:Stmt:=Mm.hdPk (Stmt.Assign _ _ _) (Mm.hdOf (a:=PySem.Challenge.pw_manymakes_k63_calls_and_records_run.main.body.getD 11 (Stmt.Pass ⟨0,0,0,0⟩)) rfl)
noncomputable def K63.t12:Stmt:=Mm.hdPk (Stmt.FunctionDef _ _ _ _ _ _ _ _ _ _) (Mm.hdOf (a:=PySem.Challenge.pw_manymakes_k63_calls_and_records_run.main.body.getD 12 (Stmt.Pass ⟨0,0,0,0⟩)) rfl)
noncomputable def K63.t13:Stmt:=Mm.hdPk (Stmt.FunctionDef _ _ _ _ _ _ _ _ _ _) (Mm.hdOf (a:=PySem.Challenge.pw_manymakes_k63_calls_and_records_run.main.body.getD 13 (Stmt.Pass ⟨0,0,0,0⟩)) rfl)
noncomputable def K63.t14:Stmt:=Mm.hdPk (Stmt.FunctionDef _ _ _ _ _ _ _ _ _ _) (Mm.hdOf (a:=PySem.Challenge.pw_manymakes_k63_calls_and_records_run.main.body.getD 14 (Stmt.Pass ⟨0,0,0,0⟩)) rfl)
noncomputable def K63.t15:Stmt:=Mm.hdPk (Stmt.ClassDef _ _ _ _ _ _ _ _ _ _ _) (Mm.hdOf (a:=PySem.Challenge.pw_manymakes_k63_calls_and_records_run.main.body.getD 15 (Stmt.Pass ⟨0,0,0,0⟩)) rfl)
noncomputable def K63.t16:Stmt:=Mm.hdPk (Stmt.FunctionDef _ _ _ _ _ _ _ _ _ _) (Mm.hdOf (a:=PySem.Challenge.pw_manymakes_k63_calls_and_records_run.main.body.getD 16 (Stmt.Pass ⟨0,0,0,0⟩)) rfl)
noncomputable def K63.t17:Stmt:=Mm.hdPk (Stmt.FunctionDef _ _ _ _ _ _ _ _ _ _) (Mm.hdOf (a:=PySem.Challenge.pw_manymakes_k63_calls_and_records_run.main.body.getD 17 (Stmt.Pass ⟨0,0,0,0⟩)) rfl)
noncomputable def K63.t18:Stmt:=Mm.hdPk (Stmt.Assign _ _ _) (Mm.hdOf (a:=PySem.Challenge.pw_manymakes_k63_calls_and_records_run.main.body.getD 18 (Stmt.Pass ⟨0,0,0,0⟩)) rfl)
noncomputable def K63.t19:Stmt:=Mm.hdPk (Stmt.FunctionDef _ _ _ _ _ _ _ _ _ _) (Mm.hdOf (a:=PySem.Challenge.pw_manymakes_k63_calls_and_records_run.main.body.getD 19 (Stmt.Pass ⟨0,0,0,0⟩)) rfl)
noncomputable def K63.t20:Stmt:=Mm.hdPk (Stmt.FunctionDef _ _ _ _ _ _ _ _ _ _) (Mm.hdOf (a:=PySem.Challenge.pw_manymakes_k63_calls_and_records_run.main.body.getD 20 (Stmt.Pass ⟨0,0,0,0⟩)) rfl)
noncomputable def K63.t21:Stmt:=Mm.hdPk (Stmt.Assign _ _ _) (Mm.hdOf (a:=PySem.Challenge.pw_manymakes_k63_calls_and_records_run.main.body.getD 21 (Stmt.Pass ⟨0,0,0,0⟩)) rfl)
noncomputable def K63.t22:Stmt:=Mm.hdPk (Stmt.Assign _ _ _) (Mm.hdOf (a:=PySem.Challenge.pw_manymakes_k63_calls_and_records_run.main.body.getD 22 (Stmt.Pass ⟨0,0,0,0⟩)) rfl)
noncomputable def K63.t23:Stmt:=Mm.hdPk (Stmt.Assign _ _ _) (Mm.hdOf (a:=PySem.Challenge.pw_manymakes_k63_calls_and_records_run.main.body.getD 23 (Stmt.Pass ⟨0,0,0,0⟩)) rfl)
noncomputable def K63.t24:Stmt:=Mm.hdPk (Stmt.ClassDef _ _ _ _ _ _ _ _ _ _ _) (Mm.hdOf (a:=PySem.Challenge.pw_manymakes_k63_calls_and_records_run.main.body.getD 24 (Stmt.Pass ⟨0,0,0,0⟩)) rfl)
noncomputable def K63.t25:Stmt:=Mm.hdPk (Stmt.ClassDef _ _ _ _ _ _ _ _ _ _ _) (Mm.hdOf (a:=PySem.Challenge.pw_manymakes_k63_calls_and_records_run.main.body.getD 25 (Stmt.Pass ⟨0,0,0,0⟩)) rfl)
noncomputable def K63.t26:Stmt:=Mm.hdPk (Stmt.FunctionDef _ _ _ _ _ _ _ _ _ _) (Mm.hdOf (a:=PySem.Challenge.pw_manymakes_k63_calls_and_records_run.main.body.getD 26 (Stmt.Pass ⟨0,0,0,0⟩)) rfl)
noncomputable def K63.t27:Stmt:=Mm.hdPk (Stmt.FunctionDef _ _ _ _ _ _ _ _ _ _) (Mm.hdOf (a:=PySem.Challenge.pw_manymakes_k63_calls_and_records_run.main.body.getD 27 (Stmt.Pass ⟨0,0,0,0⟩)) rfl)
noncomputable def K63.t28:Stmt:=Mm.hdPk (Stmt.FunctionDef _ _ _ _ _ _ _ _ _ _) (Mm.hdOf (a:=PySem.Challenge.pw_manymakes_k63_calls_and_records_run.main.body.getD 28 (Stmt.Pass ⟨0,0,0,0⟩)) rfl)
noncomputable def K63.t29:Stmt:=Mm.hdPk (Stmt.FunctionDef _ _ _ _ _ _ _ _ _ _) (Mm.hdOf (a:=PySem.Challenge.pw_manymakes_k63_calls_and_records_run.main.body.getD 29 (Stmt.Pass ⟨0,0,0,0⟩)) rfl)
noncomputable def K63.t30:Stmt:=Mm.hdPk (Stmt.FunctionDef _ _ _ _ _ _ _ _ _ _) (Mm.hdOf (a:=PySem.Challenge.pw_manymakes_k63_calls_and_records_run.main.body.getD 30 (Stmt.Pass ⟨0,0,0,0⟩)) rfl)
noncomputable def K63.t31:Stmt:=Mm.hdPk (Stmt.Assign _ _ _) (Mm.hdOf (a:=PySem.Challenge.pw_manymakes_k63_calls_and_records_run.main.body.getD 31 (Stmt.Pass ⟨0,0,0,0⟩)) rfl)
noncomputable def K63.t32:Stmt:=Mm.hdPk (Stmt.Assign _ _ _) (Mm.hdOf (a:=PySem.Challenge.pw_manymakes_k63_calls_and_records_run.main.body.getD 32 (Stmt.Pass ⟨0,0,0,0⟩)) rfl)
noncomputable def K63.t33:Stmt:=Mm.hdPk (Stmt.ClassDef _ _ _ _ _ _ _ _ _ _ _) (Mm.hdOf (a:=PySem.Challenge.pw_manymakes_k63_calls_and_records_run.main.body.getD 33 (Stmt.Pass ⟨0,0,0,0⟩)) rfl)
noncomputable def K63.t34:Stmt:=Mm.hdPk (Stmt.FunctionDef _ _ _ _ _ _ _ _ _ _) (Mm.hdOf (a:=PySem.Challenge.pw_manymakes_k63_calls_and_records_run.main.body.getD 34 (Stmt.Pass ⟨0,0,0,0⟩)) rfl)
noncomputable def K63.t35:Stmt:=Mm.hdPk (Stmt.FunctionDef _ _ _ _ _ _ _ _ _ _) (Mm.hdOf (a:=PySem.Challenge.pw_manymakes_k63_calls_and_records_run.main.body.getD 35 (Stmt.Pass ⟨0,0,0,0⟩)) rfl)
noncomputable def K63.t36:Stmt:=Mm.hdPk (Stmt.FunctionDef _ _ _ _ _ _ _ _ _ _) (Mm.hdOf (a:=PySem.Challenge.pw_manymakes_k63_calls_and_records_run.main.body.getD 36 (Stmt.Pass ⟨0,0,0,0⟩)) rfl)
noncomputable def K63.t37:Stmt:=Mm.hdPk (Stmt.FunctionDef _ _ _ _ _ _ _ _ _ _) (Mm.hdOf (a:=PySem.Challenge.pw_manymakes_k63_calls_and_records_run.main.body.getD 37 (Stmt.Pass ⟨0,0,0,0⟩)) rfl)
noncomputable def K63.t38:Stmt:=Mm.hdPk (Stmt.FunctionDef _ _ _ _ _ _ _ _ _ _) (Mm.hdOf (a:=PySem.Challenge.pw_manymakes_k63_calls_and_records_run.main.body.getD 38 (Stmt.Pass ⟨0,0,0,0⟩)) rfl)
noncomputable def K63.t39:Stmt:=Mm.hdPk (Stmt.FunctionDef _ _ _ _ _ _ _ _ _ _) (Mm.hdOf (a:=PySem.Challenge.pw_manymakes_k63_calls_and_records_run.main.body.getD 39 (Stmt.Pass ⟨0,0,0,0⟩)) rfl)
noncomputable def K63.t40:Stmt:=Mm.hdPk (Stmt.Assign _ _ _) (Mm.hdOf (a:=PySem.Challenge.pw_manymakes_k63_calls_and_records_run.main.body.getD 40 (Stmt.Pass ⟨0,0,0,0⟩)) rfl)
noncomputable def K63.t41:Stmt:=Mm.hdPk (Stmt.FunctionDef _ _ _ _ _ _ _ _ _ _) (Mm.hdOf (a:=PySem.Challenge.pw_manymakes_k63_calls_and_records_run.main.body.getD 41 (Stmt.Pass ⟨0,0,0,0⟩)) rfl)
noncomputable def K63.t42:Stmt:=Mm.hdPk (Stmt.FunctionDef _ _ _ _ _ _ _ _ _ _) (Mm.hdOf (a:=PySem.Challenge.pw_manymakes_k63_calls_and_records_run.main.body.getD 42 (Stmt.Pass ⟨0,0,0,0⟩)) rfl)
noncomputable def K63.t43:Stmt:=Mm.hdPk (Stmt.FunctionDef _ _ _ _ _ _ _ _ _ _) (Mm.hdOf (a:=PySem.Challenge.pw_manymakes_k63_calls_and_records_run.main.body.getD 43 (Stmt.Pass ⟨0,0,0,0⟩)) rfl)
noncomputable def K63.t44:Stmt:=Mm.hdPk (Stmt.FunctionDef _ _ _ _ _ _ _ _ _ _) (Mm.hdOf (a:=PySem.Challenge.pw_manymakes_k63_calls_and_records_run.main.body.getD 44 (Stmt.Pass ⟨0,0,0,0⟩)) rfl)
noncomputable def K63.t45:Stmt:=Mm.hdPk (Stmt.FunctionDef _ _ _ _ _ _ _ _ _ _) (Mm.hdOf (a:=PySem.Challenge.pw_manymakes_k63_calls_and_records_run.main.body.getD 45 (Stmt.Pass ⟨0,0,0,0⟩)) rfl)
noncomputable def K63.t46:Stmt:=Mm.hdPk (Stmt.FunctionDef _ _ _ _ _ _ _ _ _ _) (Mm.hdOf (a:=PySem.Challenge.pw_manymakes_k63_calls_and_records_run.main.body.getD 46 (Stmt.Pass ⟨0,0,0,0⟩)) rfl)
noncomputable def K63.sc:Scope:=Mm.hdPk (Scope.mk _ _ _ _ _) (Mm.hdOf (a:=PySem.Challenge.pw_manymakes_k63_calls_and_records_run.main.scope) rfl)
noncomputable def K63.pw:Program:=Mm.hdPk (Program.mk (Module.mk (K63.t0::K63.t1::K63.t2::K63.t3::K63.t4::K63.t5::K63.t6::K63.t7::K63.t8::K63.t9::K63.t10::K63.t11::K63.t12::K63.t13::K63.t14::K63.t15::K63.t16::K63.t17::K63.t18::K63.t19::K63.t20::K63.t21::K63.t22::K63.t23::K63.t24::K63.t25::K63.t26::K63.t27::K63.t28::K63.t29::K63.t30::K63.t31::K63.t32::K63.t33::K63.t34::K63.t35::K63.t36::K63.t37::K63.t38::K63.t39::K63.t40::K63.t41::K63.t42::K63.t43::K63.t44::K63.t45::K63.t46::List.nil) K63.sc _ _ _) _ _ _ _ _) (Mm.hdOf (a:=PySem.Challenge.pw_manymakes_k63_calls_and_records_run) rfl)
noncomputable def K63.rw:OpenLaw:=Mm.hdPk { prog:=K63.pw,name:=_,about:=_,foot:=_,most:=_,bound:=_,writes:=_ } (Mm.hdOf (a:=PySem.Challenge.rw_manymakes_k63_calls_and_records_run) rfl)
theorem K63.rwe:K63.rw=PySem.Challenge.rw_manymakes_k63_calls_and_records_run:=rfl
end
section
open PySem PySem.W PyProof.Rows
theorem K63.pwe:PySem.Challenge.pw_manymakes_k63_calls_and_records_run=K63.pw:=rfl
noncomputable def K63.vw:Program:={ K63.pw with main:={ K63.pw.main with body:=K63.t1::K63.t2::K63.t4::K63.t5::K63.t6::K63.t7::K63.t8::K63.t9::K63.t10::K63.t11::K63.t12::K63.t13::K63.t14::K63.t15::K63.t16::K63.t17::K63.t19::K63.t20::K63.t22::K63.t23::K63.t24::K63.t25::K63.t26::K63.t27::K63.t28::K63.t29::K63.t30::K63.t32::K63.t33::K63.t34::K63.t35::K63.t36::K63.t37::K63.t38::K63.t39::K63.t41::K63.t42::K63.t43::K63.t44::K63.t45::K63.t46::List.nil } }
theorem Mm.keepIt (_:Hook) {p:Prop} (h:p):p:=h
section
local macro_rules | `(tactic| o_head $H)=>`(tactic| exact Mm.keepIt $H (by assumption))
set_option maxHeartbeats 0 in
theorem K63.pre (h:(OpenLaw.row PySem.Challenge.rw_manymakes_k63_calls_and_records_run).Holds):(OpenLaw.row PySem.Challenge.rw_manymakes_k63_calls_and_records_run).Holds:=by k_head
end
def K63.as:List Addr:=[2,3,15,22,23,24,25,28,35,37,38,40,41,42,43,44,47,48,49,50,53,54,55,57,58,60,61,62,64,65,67,68,76,78,79,81,82,83,85,86,88,89,90,92,93,95,96,97,99,100,102,103,104,106,107,109,110,111,113,114,116,117,118,120,121,123,124,125,127,128,130,131,132,135,136,137,139,140,142,143,144,146,147,149,150,151,153,154,156,157,158,159,160,161,162,165,167,168,170,171,172,174,175,177,178,179,181,182,184,185,186,188,189,191,192,193,200,202,203,205,206,207,208,209,210,220,222,223,225,226,227,229,230,232,233,234,236,237,239,240,241,243,244,246,247,248,250,251,253,254,255,257,258,260,261,262,265,266,267,268,269,270,271,274,276,277,279,280,281,284,285,286,288,289,291,292,293,295,296,298,299,300,302,303,305,306,314,316,317,319,320,321,322,323,324,325,328,331,332,333,335,336,338,339,340,342,343,345,346,347,349,350,352,353,354,356,357,359,360,361,363,364,366,367,368,370,371,373,374,375,377,378,380,381,382,384,385,387,388,389,391,392,394,395,396,398,399,401,402,403,406,407]
theorem K63.ase (P:Params):K63.as=(K63.pre.heap_1 P).map (·.1):=by kernel_rfl
theorem Mm.both_true {a b:Bool} (h:(a&&b)=true):a=true/\b=true:=by cases a<;>cases b<;>simp_all
noncomputable abbrev K63.xt:Shared->Bool:=fun s=>(xlAt K63.vw [] s)&&(recOk (RowW.records (OpenRow.toRowW (OpenLaw.row K63.rw))) s)
noncomputable def K63.oe (w:World):Option Shared :=
 (importEnds treeTable (opening K63.pw) w 5770 (start (opening K63.pw)).1 (start (opening K63.pw)).2).bind fun s=>(fenceModules? K63.pw s).bind fun s₀ =>
 match s₀.heap.isNs mainGlobals&&s₀.gens.size == 0 with
 | true=>(topRun treeTable K63.pw w s₀.heap.objs.size (s₀.heap.nsMap mainGlobals "__annotations__") 5770 s₀ (topStub K63.pw)).bind fun s₁=>match staticsOk (importedModules K63.pw.main.body) s₀.heap s₁.heap&&namesBound K63.pw s₁.heap&&gensDone s₁&&laidKept s₀.heap s₁.heap with
   | true=>some s₁
   | false=>none
 | false=>none
theorem Mm.bindAss {α β γ:Type} (o:Option α) (f:α->Option β) (g:β->Option γ):(o.bind f).bind g=o.bind fun s=>(f s).bind g:=by cases o<;>rfl
theorem K63.oe_eq (w:World):openEnds treeTable PySem.Challenge.pw_manymakes_k63_calls_and_records_run w 5770=K63.oe w:=by
 rw [K63.pwe]
 show ((importEnds _ _ _ _ _ _).bind _).bind _=_
 rw [Mm.bindAss]
 rfl
noncomputable def K63.ga (w:World):=Option.map (openSeen K63.vw [] (importedModules K63.pw.main.body) K63.xt true) (K63.oe w)
noncomputable def K63.gb:=some (openGood K63.vw [])
noncomputable def K63.oa (w:World):Option (List (Option Obj)):=Option.map (fun s=>K63.as.map s.heap.get?) (K63.oe w)
def Mm.hdTt {α:Type} (_:α):Bool:=true
theorem K63.lay1:Mm.hdTt K63.ga=true:=by k_qdec
theorem K63.lay2:Mm.hdTt K63.gb=true:=by k_qdec
theorem K63.lay3:Mm.hdTt K63.oa=true:=by k_qdec
theorem K63.la (w:World):PySem.W.Fast.tw11279608292487332539 w=PySem.W.Fast.tw982424559203841333:=by kernel_rfl
theorem K63.lb (w:World):PySem.W.Fast.tw1439845245399590240 w=some ((K63.pre.heap_1 w.params).map fun p=>some p.2):=by kernel_rfl
theorem Mm.twoM {α β γ:Type} {o:Option α} {f:α->β} {g:α->γ} {b:β} {c:γ} (h1:o.map f=some b) (h2:o.map g=some c):o.map (fun s=>(f s,g s))=some (b,c):=by
 cases o with
 | none=>cases h1
 | some s =>
  have h1:=Option.some.inj h1
  have h2:=Option.some.inj h2
  show some (f s,g s)=_
  rw [h1,h2]
theorem K63.left:LeftO PySem.Challenge.pw_manymakes_k63_calls_and_records_run K63.vw [] K63.xt (kHook K63.pre.heap_1 K63.as K63.ase).obs (kHook K63.pre.heap_1 K63.as K63.ase).val 5770:=fun w=>by
 rw [K63.oe_eq]
 exact Mm.twoM ((congrFun PySem.W.Fast.te11279608292487332539 w).trans ((K63.la w).trans PySem.W.Fast.te982424559203841333.symm)) ((congrFun PySem.W.Fast.te1439845245399590240 w).trans (K63.lb w))
end
namespace L2
open PySem PySem.Spec PyProof.Rows
noncomputable abbrev Key:=Sum Int Str
noncomputable def keyIs:Key->Value->Bool
 | .inl k,v=>Value.isInt k v
 | .inr x,v=>Value.isStrOf x v
noncomputable def keyH (w:World):Key->Int
 | .inl k=>hashInt k
 | .inr x=>hashStr w x
theorem keyIs_shape:∀ {k:Key} {v:Value},keyIs k v=true->(∃ i t,k=Sum.inl i/\v=Value.int i t)∨(∃ x t,k=Sum.inr x/\v=Value.str x t)
 | .inl i,v,h=>by
  obtain ⟨t,e⟩:=Value.isInt_shape (k:=i) (v:=v) h
  exact .inl ⟨i,t,rfl,e⟩
 | .inr x,v,h=>by
  obtain ⟨t,e⟩:=Value.isStrOf_shape (x:=x) (v:=v) h
  exact .inr ⟨x,t,rfl,e⟩
theorem keyIs_int (i:Int) (t:Tok):keyIs (.inl i) (.int i t)=true:=by simp [keyIs,Value.isInt]
theorem keyIs_str (x:Str) (t:Tok):keyIs (.inr x) (.str x t)=true:=by simp [keyIs,Value.isStrOf]
theorem key_ll (a b:Int):decide ((Sum.inl a:Key)=Sum.inl b)=(a == b):=by
 by_cases e:a=b
 ·subst e;simp
 ·have h:¬ (Sum.inl a:Key)=Sum.inl b:=fun q=>e (Sum.inl.inj q)
  rw [decide_eq_false h]
  exact (beq_eq_false_iff_ne.mpr e).symm
theorem key_rr (a b:Str):decide ((Sum.inr a:Key)=Sum.inr b)=decide (a=b):=by
 by_cases e:a=b
 ·subst e;simp
 ·have h:¬ (Sum.inr a:Key)=Sum.inr b:=fun q=>e (Sum.inr.inj q)
  rw [decide_eq_false h,decide_eq_false e]
theorem key_lr (a:Int) (b:Str):decide ((Sum.inl a:Key)=Sum.inr b)=false:=decide_eq_false (fun q=>nomatch q)
theorem key_rl (a:Str) (b:Int):decide ((Sum.inr a:Key)=Sum.inl b)=false:=decide_eq_false (fun q=>nomatch q)
noncomputable def mixKind (prog:Program) (w:World):PySem.KeyKind prog w Key where
 is:=keyIs
 hash:=keyH w
 inj:=fun v a b ha hb=>by
  rcases keyIs_shape ha with ⟨i,t,rfl,rfl⟩ | ⟨x,t,rfl,rfl⟩
  ·rcases keyIs_shape hb with ⟨j,u,rfl,e⟩ | ⟨y,u,rfl,e⟩
   ·injection e with e1 _;rw [e1]
   ·exact nomatch e
  ·rcases keyIs_shape hb with ⟨j,u,rfl,e⟩ | ⟨y,u,rfl,e⟩
   ·exact nomatch e
   ·injection e with e1 _;rw [e1]
 byValue:=fun k v h=>by
  rcases keyIs_shape h with ⟨i,t,rfl,rfl⟩ | ⟨x,t,rfl,rfl⟩<;>rfl
 pyHash:=fun hv h=>by
  rcases keyIs_shape hv with ⟨i,t,rfl,rfl⟩ | ⟨x,t,rfl,rfl⟩
  ·exact wpAny_pyHash_int h
  ·exact wpAny_pyHash_str h
 eqBool:=fun hu hv h=>by
  rcases keyIs_shape hu with ⟨i,t,rfl,rfl⟩ | ⟨x,t,rfl,rfl⟩
  ·rcases keyIs_shape hv with ⟨j,u,rfl,rfl⟩ | ⟨y,u,rfl,rfl⟩
   ·rw [key_ll] at h;exact wpAny_eqBool_int h
   ·rw [key_lr] at h;exact SeqAt.EqAt.int_str i t y u _ _ _ _ h
  ·rcases keyIs_shape hv with ⟨j,u,rfl,rfl⟩ | ⟨y,u,rfl,rfl⟩
   ·rw [key_rl] at h;exact SeqAt.EqAt.str_int x t j u _ _ _ _ h
   ·rw [key_rr] at h;exact wpAny_eqBool_str h
 «strs»:=fun k x t v h=>by
  rcases keyIs_shape h with ⟨i,u,rfl,e⟩ | ⟨y,u,rfl,e⟩
  ·exact nomatch e
  ·injection e with e1 _
   subst e1
   cases v<;>rfl
theorem mixKind_int (prog:Program) (w:World) (i:Int) (t:Tok):(mixKind prog w).is (.inl i) (.int i t)=true:=keyIs_int i t
theorem mixKind_str (prog:Program) (w:World) (x:Str) (t:Tok):(mixKind prog w).is (.inr x) (.str x t)=true:=keyIs_str x t
end L2
namespace L2
open PySem PySem.Spec PyProof.Rows
inductive V where
 | non | bl (b:Bool) | int (i:Int) | str (x:Str) | byt (b:Array UInt8) | flt (b:UInt64) | ref (a:Addr) | ty (n:String)
 deriving DecidableEq
noncomputable def RelV:V->Value->Prop
 | .non,u=>u=Value.none
 | .bl b,u=>u=Value.bool b
 | .int i,u=>∃ t,u=Value.int i t
 | .str x,u=>∃ t,u=Value.str x t
 | .byt b,u=>∃ t,u=Value.bytes b t
 | .flt b,u=>∃ t,u=Value.float b t
 | .ref a,u=>u=Value.ref a
 | .ty n,u=>u=Value.type n
noncomputable abbrev Vals:List V->List Value->Prop:=Paired RelV
theorem Vals.length {xs:List V} {us:List Value} (r:Vals xs us):xs.length=us.length:=Paired.length r
theorem Vals.get:∀ {xs:List V} {us:List Value} {i:Nat} {x:V},Vals xs us->xs[i]?=some x->∃ u,us[i]?=some u/\RelV x u
 | _,_,_,_,.nil,e=>by simp at e
 | _,_,0,_,.cons r _,e=>by simp at e;subst e;exact ⟨_,rfl,r⟩
 | _,_,i+1,x,.cons _ t,e=>by
  obtain ⟨u,h1,h2⟩:=Vals.get (i:=i) (x:=x) t (by simpa using e)
  exact ⟨u,by simpa using h1,h2⟩
theorem Vals.append:∀ {xs ys:List V} {us ws:List Value},Vals xs us->Vals ys ws->Vals (xs++ys) (us++ws)
 | _,_,_,_,.nil,s=>s
 | _,_,_,_,.cons r t,s=>.cons r (Vals.append t s)
theorem Vals.take:∀ {xs:List V} {us:List Value} (n:Nat),Vals xs us->Vals (xs.take n) (us.take n)
 | _,_,0,_=>.nil
 | _,_,_+1,.nil=>.nil
 | _,_,n+1,.cons r t=>.cons r (Vals.take n t)
theorem Vals.drop:∀ {xs:List V} {us:List Value} (n:Nat),Vals xs us->Vals (xs.drop n) (us.drop n)
 | _,_,0,r=>r
 | _,_,_+1,.nil=>.nil
 | _,_,n+1,.cons _ t=>Vals.drop n t
noncomputable def RelO:Option V->Option Value->Prop
 | some v,some u=>RelV v u
 | none,none=>True
 | _,_=>False
noncomputable def KV {κ:Type}:List (κ × V)->List (κ × Value)->Prop:=Paired fun (p:κ × V) (q:κ × Value)=>p.1=q.1/\RelV p.2 q.2
noncomputable def kV:Key->V
 | .inl i=>.int i
 | .inr x=>.str x
inductive HO where
 | lst (xs:List V)
 | tup (xs:List V)
 | dK (kvs:List (Key × V)) | dT (kvs:List (List Key × V))
 | set (S:Int->Bool) (n:Nat)
 | ins (C dx:Addr) (fs:List (Str × V))
 | own (x:Addr)
 | xd (fs:List (Str × V))
 | met (f x:Addr)
 | rng (lo hi:Int)
 | frz (o:Obj) (u:HO)
 | tbl (ps:Array Value)
 | ext (φ:Heap->Prop)
noncomputable abbrev Hp:=Addr->Option HO
noncomputable def upd (H:Hp) (a:Addr) (o:HO):Hp:=fun b=>if b=a then some o else H b
theorem upd_same {H:Hp} {a:Addr} {o:HO}:upd H a o a=some o:=by unfold upd;rw [if_pos rfl]
theorem upd_ne {H:Hp} {a b:Addr} {o:HO} (h:b≠a):upd H a o b=H b:=by unfold upd;rw [if_neg h]
theorem upd_upd {H:Hp} {a:Addr} {o u:HO}:upd (upd H a o) a u=upd H a u:=by
 funext b;unfold upd;split<;>rfl
theorem ne_of {H:Hp} {a b:Addr} {o u:HO} (h:H a=some o) (h':H b=some u) (d:o≠u):a≠b:=by
 intro e;subst e;rw [h] at h';exact d (Option.some.inj h')
theorem ne_of_none {H:Hp} {a b:Addr} {o:HO} (h:H a=some o) (h':H b=none):a≠b:=by
 intro e;subst e;rw [h] at h';cases h'
section
variable (P:Program) (w:World)
noncomputable def ObjOk (H:Hp) (h:Heap) (a:Addr):HO->Prop
 | .lst xs=>xs.length<=sizeLine/\∃ (its:List Value) (n:Nat),Vals xs its/\h.get? a=some { cls:=.type "list",data:=.seq its.toArray n }
 | .tup xs=>xs.length<=sizeLine/\∃ its:List Value,Vals xs its/\IsTup h a its.toArray
 | .dK kvs=>kvs.length<=sizeLine/\(a == sysModules)=false/\∃ vs,KV kvs vs/\h.DictOf (mixKind P w) a vs
 | .dT kvs=>kvs.length<=sizeLine/\(a == sysModules)=false/\∃ xs:List (List Key × Addr × Value),
   Paired (fun (p:List Key × V) (q:List Key × Addr × Value)=>p.1=q.1/\H q.2.1=some (.tup (p.1.map kV))/\RelV p.2 q.2.2) kvs xs /\
   ∃ o es ep,h.get? a=some o/\o.ExactDict/\o.data=.dict es ep/\es.toList=xs.map (entryOfKey (tupleKind (mixKind P w)))/\(xs.map (·.1)).Nodup
 | .set S n=>h.SetOf (intKind P w) a S n
 | .ins C dx fs=>H dx=some (.own a)/\fs.length<=1000/\dx≠a/\h.get? a=some (PySem.W.instObj C dx) /\
   ∃ mA,h.Ns1 dx mA/\(∀ f,RelO (fs.lookup f) (mA f))/\PySem.Within mA (fs.map (·.1))
 | .own _=>∃ o,h.get? a=some o
 | .xd fs=>∃ mA,h.Ns1 a mA/\∀ f,RelO (fs.lookup f) (mA f)
 | .rng lo hi=>∃ t u v,h.get? a=some { cls:=.type "range",data:=.fields #[.int lo t,.int hi u,.int 1 v] }
 | .frz o u=>h.get? a=some o/\ObjOk H h a u
 | .tbl ps=>h.get? a=some { cls:=.none,data:=.fields ps }
 | .met f x=>h.get? a=some (PySem.W.methodObj (.ref f) (.ref x))
 | .ext φ=>φ h/\(∃ o,h.get? a=some o)/\∀ h1 h2:Heap,φ h1->(∀ o,h1.get? a=some o->h2.get? a=some o)->φ h2
noncomputable def HOk (H:Hp) (h:Heap):Prop:=∀ a o,H a=some o->ObjOk P w H h a o
end
section
variable {P:Program} {w:World} {H H':Hp} {h h':Heap} {a:Addr} {o:HO}
theorem ObjOk.lt (x:ObjOk P w H h a o):a<h.objs.size:=by
 cases o with
 | lst xs=>obtain ⟨_,_,_,_,e⟩:=x;exact Heap.lt_size e
 | tup xs=>obtain ⟨_,_,_,p⟩:=x;exact p.lt
 | dK kvs=>obtain ⟨_,_,_,_,o,_,_,e,_⟩:=x;exact Heap.lt_size e
 | dT kvs=>obtain ⟨_,_,_,_,o,_,_,e,_⟩:=x;exact Heap.lt_size e
 | set S n=>obtain ⟨o,_,_,_,e,_⟩:=x;exact Heap.lt_size e
 | ins C dx fs=>obtain ⟨_,_,_,e,_⟩:=x;exact Heap.lt_size e
 | own y=>obtain ⟨_,e⟩:=x;exact Heap.lt_size e
 | xd fs=>obtain ⟨_,⟨_,_,_,e,_⟩,_⟩:=x;exact Heap.lt_size e
 | rng lo hi=>obtain ⟨_,_,_,e⟩:=x;exact Heap.lt_size e
 | frz ob u=>obtain ⟨e,_⟩:=x;exact Heap.lt_size e
 | tbl ps=>exact Heap.lt_size (show h.get? a=some _ from x)
 | met f y=>exact Heap.lt_size (show h.get? a=some _ from x)
 | ext φ=>obtain ⟨_,⟨_,e⟩,_⟩:=x;exact Heap.lt_size e
theorem Paired.mapP {α β:Type} {F G:α->β->Prop}:∀ {l₁:List α} {l₂:List β},Paired F l₁ l₂->(∀ a b,F a b->G a b)->Paired G l₁ l₂
 | _,_,.nil,_=>.nil
 | _,_,.cons r t,f=>.cons (f _ _ r) (Paired.mapP t f)
theorem ObjOk.stay (x:ObjOk P w H h a o) (k:∀ b u,(b=a∨H b=some (.own a))->h.get? b=some u->h'.get? b=some u)
  (ho:∀ b,H b=some (.own a)->H' b=some (.own a)) (ht:∀ b xs,H b=some (.tup xs)->H' b=some (.tup xs)):ObjOk P w H' h' a o:=by
 induction o with
 | lst xs=>obtain ⟨z,its,n,r,e⟩:=x;exact ⟨z,its,n,r,k _ _ (.inl rfl) e⟩
 | tup xs=>obtain ⟨z,its,r,ob,e,c⟩:=x;exact ⟨z,its,r,ob,k _ _ (.inl rfl) e,c⟩
 | dK kvs=>obtain ⟨z,y,vs,r,ob,es,ep,e,c⟩:=x;exact ⟨z,y,vs,r,ob,es,ep,k _ _ (.inl rfl) e,c⟩
 | dT kvs =>
  obtain ⟨z,y,xs,r,ob,es,ep,e,c⟩:=x
  exact ⟨z,y,xs,Paired.mapP r fun p q z=>⟨z.1,ht _ _ z.2.1,z.2.2⟩,ob,es,ep,k _ _ (.inl rfl) e,c⟩
 | set S n=>obtain ⟨ob,es,ep,t,e,c⟩:=x;exact ⟨ob,es,ep,t,k _ _ (.inl rfl) e,c⟩
 | ins C dx fs =>
  obtain ⟨d,z,ne,e,mA,⟨od,es,ep,e2,c⟩,r⟩:=x
  exact ⟨ho _ d,z,ne,k _ _ (.inl rfl) e,mA,⟨od,es,ep,k _ _ (.inr d) e2,c⟩,r⟩
 | own y=>obtain ⟨ob,e⟩:=x;exact ⟨ob,k _ _ (.inl rfl) e⟩
 | xd fs=>obtain ⟨mA,⟨od,es,ep,e,c⟩,r⟩:=x;exact ⟨mA,⟨od,es,ep,k _ _ (.inl rfl) e,c⟩,r⟩
 | rng lo hi=>obtain ⟨t,u,v,e⟩:=x;exact ⟨t,u,v,k _ _ (.inl rfl) e⟩
 | frz ob u ih=>obtain ⟨e,q⟩:=x;exact ⟨k _ _ (.inl rfl) e,ih q⟩
 | tbl ps =>
  have e:h.get? a=some { cls:=.none,data:=.fields ps }:=x
  show h'.get? a=some { cls:=.none,data:=.fields ps }
  exact k a _ (.inl rfl) e
 | met f y =>
  have e:h.get? a=some (PySem.W.methodObj (.ref f) (.ref y)):=x
  show h'.get? a=some (PySem.W.methodObj (.ref f) (.ref y))
  exact k a _ (.inl rfl) e
 | ext φ=>obtain ⟨p,⟨o,e⟩,st⟩:=x;exact ⟨st _ _ p fun o q=>k _ _ (.inl rfl) q,⟨o,k _ _ (.inl rfl) e⟩,st⟩
theorem HOk.lt (x:HOk P w H h) (e:H a=some o):a<h.objs.size:=(x a o e).lt
theorem HOk.fresh (x:HOk P w H h) (e:h.objs.size<=a):H a=none:=by
 cases q:H a with
 | none=>rfl
 | some u=>exact absurd (Nat.lt_of_lt_of_le (x.lt q) e) (Nat.lt_irrefl _)
theorem HOk.kept (x:HOk P w H h) (k:∀ b u,h.get? b=some u->h'.get? b=some u):HOk P w H h':=fun a o e =>
 (x a o e).stay (fun b u _ q=>k b u q) (fun _ q=>q) fun _ _ q=>q
theorem HOk.laid (x:HOk P w H h) (k:∀ b u,h.get? b=some u->h'.get? b=some u) (hp:h.objs.size<=a) (new:ObjOk P w (upd H a o) h' a o):HOk P w (upd H a o) h':=fun b u e=>by
 have hn:=x.fresh hp
 by_cases hb:b=a
 ·subst hb;rw [upd_same] at e;cases e;exact new
 ·rw [upd_ne hb] at e
  exact (x b u e).stay (fun c v _ q=>k c v q) (fun c q=>by rw [upd_ne (ne_of_none q hn)];exact q) fun c xs q=>by rw [upd_ne (ne_of_none q hn)];exact q
end
noncomputable def Rd (H:Hp) (a:Addr) (u:HO):Prop:=H a=some u∨∃ o,H a=some (.frz o u)
theorem Rd.ok {P:Program} {w:World} {H:Hp} {h:Heap} {a:Addr} {u:HO} (r:Rd H a u) (x:HOk P w H h):ObjOk P w H h a u:=by
 rcases r with r | ⟨o,r⟩
 ·exact x a u r
 ·obtain ⟨_,q⟩:=x a _ r
  exact q
noncomputable def Mut:Option HO->Prop
 | some (.lst _)=>True
 | some (.dK _)=>True
 | some (.dT _)=>True
 | some (.set _ _)=>True
 | some (.ins _ _ _)=>True
 | some (.ext _)=>True
 | _=>False
section
variable {P:Program} {w:World} {H:Hp} {h h':Heap} {x e:Addr} {o':HO}
theorem HOk.write (ok:HOk P w H h) (mu:Mut (H x)) (he:e=x∨H e=some (.own x)) (k:∀ b u,b≠e->h.get? b=some u->h'.get? b=some u) (heo:∃ u,h'.get? e=some u)
  (new:ObjOk P w (upd H x o') h' x o'):HOk P w (upd H x o') h':=fun b u q=>by
 have nown:∀ c y,H c=some (.own y)->c≠x:=fun c y r z=>by subst z;rw [r] at mu;exact mu
 have ntup:∀ c xs,H c=some (.tup xs)->c≠x:=fun c xs r z=>by subst z;rw [r] at mu;exact mu
 by_cases hb:b=x
 ·subst hb;rw [upd_same] at q;cases q;exact new
 ·rw [upd_ne hb] at q
  by_cases hbe:b=e
  ·have q':H b=some (.own x):=by
    rcases he with z | z
    ·exact absurd (hbe.trans z) hb
    ·rw [hbe];exact z
   rw [q] at q';cases q'
   obtain ⟨v,hv⟩:=heo
   exact ⟨v,by rw [hbe];exact hv⟩
  ·refine (ok b u q).stay (fun c v hc r=>k c v ?_ r) (fun c r=>by rw [upd_ne (nown c b r)];exact r) fun c xs r=>by rw [upd_ne (ntup c xs r)];exact r
   rcases hc with rfl | hc
   ·exact hbe
   ·rintro rfl
    rcases he with z | z
    ·exact nown c b hc z
    ·rw [hc] at z;cases z;exact hb rfl
end
structure Un (fs ex:List Addr) (H H':Hp) (h h':Heap):Prop where
 keep:∀ b o,h.get? b=some o->H b=none->b∉fs->b∉ex->h'.get? b=some o
 slot:∀ b o,h.get? b=some o->H b=none->b∈fs->b∉ex->∃ sl,h'.get? b=some { o with slots:=sl }
 free:∀ b o,h.get? b=some o->H b=none->b∉ex->H' b=none
 there:∀ b o,h.get? b=some o->b∉ex->∃ o',h'.get? b=some o'
 tups:∀ b xs,H b=some (.tup xs)->H' b=some (.tup xs)
 frzs:∀ b o u,H b=some (.frz o u)->H' b=some (.frz o u)
 tbls:∀ b ps,H b=some (.tbl ps)->∃ more,H' b=some (.tbl (ps++more))
section
variable {fs fs' ex ex':List Addr} {H H1 H2:Hp} {h h1 h2 h':Heap} {a x e:Addr} {o:HO}
theorem Un.any (u:Un fs ex H H1 h h1) {b:Addr} {ob:Obj} (q:h.get? b=some ob) (n:H b=none) (hx:b∉ex):∃ sl,h1.get? b=some { ob with slots:=sl }:=by
 by_cases hb:b∈fs
 ·exact u.slot b ob q n hb hx
 ·exact ⟨ob.slots,u.keep b ob q n hb hx⟩
theorem Un.kept (k:∀ b u,h.get? b=some u->h'.get? b=some u):Un fs ex H H h h' :=
 ⟨fun b ob q _ _ _=>k b ob q,fun b ob q _ _ _=>⟨ob.slots,k b ob q⟩,fun _ _ _ n _=>n,fun b ob q _=>⟨ob,k b ob q⟩,fun _ _ q=>q,fun _ _ _ q=>q,fun _ ps q=>⟨#[],by rw [q];simp⟩⟩
theorem Un.refl:Un fs ex H H h h:=Un.kept fun _ _ q=>q
theorem Un.laid (k:∀ b u,h.get? b=some u->h'.get? b=some u) (hp:h.objs.size<=a) (hn:H a=none):Un fs ex H (upd H a o) h h' where
 keep:=fun b u q _ _ _=>k b u q
 slot:=fun b u q _ _ _=>⟨u.slots,k b u q⟩
 free:=fun b u q n _=>by rw [upd_ne (Nat.ne_of_lt (Nat.lt_of_lt_of_le (Heap.lt_size q) hp))];exact n
 there:=fun b u q _=>⟨u,k b u q⟩
 tups:=fun b xs q=>by rw [upd_ne (ne_of_none q hn)];exact q
 frzs:=fun b u xs q=>by rw [upd_ne (ne_of_none q hn)];exact q
 tbls:=fun b ps q=>⟨#[],by rw [upd_ne (ne_of_none q hn),q];simp⟩
theorem Un.write (mu:Mut (H x)) (he:e=x∨H e=some (.own x)) (k:∀ b u,b≠e->h.get? b=some u->h'.get? b=some u) (heo:∃ u,h'.get? e=some u):Un fs ex H (upd H x o) h h':=by
 have hx:∀ b,H b=none->b≠x:=fun b n z=>by subst z;rw [n] at mu;exact mu
 have hb:∀ b,H b=none->b≠e:=fun b n z=>by
  subst z
  rcases he with r | r
  ·exact hx b n r
  ·rw [n] at r;cases r
 have hm:∀ b u,H b=some u->¬ Mut (some u)->b≠x:=fun b u q nm z=>by subst z;rw [q] at mu;exact nm mu
 refine ⟨fun b u q n _ _=>k b u (hb b n) q,fun b u q n _ _=>⟨u.slots,k b u (hb b n) q⟩,fun b u q n _=>by rw [upd_ne (hx b n)];exact n,fun b u q _=>?_,
  fun b xs q=>by rw [upd_ne (hm b _ q fun z=>z)];exact q,fun b u xs q=>by rw [upd_ne (hm b _ q fun z=>z)];exact q,fun b ps q=>⟨#[],by rw [upd_ne (hm b _ q fun z=>z),q];simp⟩⟩
 by_cases hbe:b=e
 ·subst hbe;exact heo
 ·exact ⟨u,k b u hbe q⟩
end
noncomputable def trk (h:Heap) (H:Hp):List Addr:=(List.range h.objs.size).filter fun a=>(H a).isSome
noncomputable def hidT (h:Heap) (H:Hp):Heap:=PySem.W.hideAll h (trk h H)
theorem hidT_size (h:Heap) (H:Hp):(hidT h H).objs.size=h.objs.size:=PySem.W.hideAll_size _ _
theorem hidT_get {h:Heap} {H:Hp} {b:Addr} {o:Obj} (e:h.get? b=some o) (n:H b=none):(hidT h H).get? b=some o :=
 PySem.W.hideAll_get _ e fun hm=>by
  have q:(H b).isSome=true:=(List.mem_filter.mp hm).2
  rw [n] at q;simp at q
theorem of_hidT {h:Heap} {H:Hp} {b:Addr} {o:Obj} (e:(hidT h H).get? b=some o):h.get? b=some o/\H b=none:=by
 have e':h.get? b=some o:=PySem.W.of_hideAll (trk h H) e
 refine ⟨e',?_⟩
 cases q:H b with
 | none=>rfl
 | some x =>
  have hm:b∈trk h H:=List.mem_filter.mpr ⟨List.mem_range.mpr (Heap.lt_size e'),by simp [q]⟩
  have z:(hidT h H).get? b=none:=PySem.W.hideAll_none (trk h H) hm
  rw [z] at e;cases e
end L2
namespace L2
open PySem PySem.Spec PyProof.Rows
structure Mod (K:PySem.W.Frag) (mg:Str->Option Value) (base:Heap):Prop where
 kin:K.In base
 glob:base.Ns mainGlobals mg
 blt:∃ mb,base.Ns builtinsNs mb/\∀ x:Str,x≠"__name__"->mb x=bootBuiltins x
 nolimit:base.NoLimit
structure Cx where
 prog:Program
 w:World
 K:PySem.W.Frag
 mg:Str->Option Value
 base:Heap
 A:Around
 N:List Str
 s₀:Shared
 H₀:Hp
 env:Env
 outer:List Env
 stack:List Env
 ex:List Addr
 fn:Str->Bool
 calm:Bool
 pn:List (Addr × Obj)
 xe:Value->Shared->Prop
noncomputable def frs (l:List Env):List Addr:=l.filterMap (·.frame)
noncomputable abbrev Cx.fs (X:Cx):List Addr:=frs X.outer
noncomputable def Vis (sc:Scope) (x:Str):Prop:=sc.names.lookup x=some .local∨sc.names.lookup x=some .cell∨sc.names.lookup x=some .free
noncomputable def Loc (sc:Scope) (x:Str):Prop:=sc.names.lookup x=some .local∨sc.names.lookup x=some .cell
noncomputable def Look (env:Env) (h:Heap) (m:Str->Option Value) (x:Str) (u:Value):Prop :=
 (env.kindOf x=some .local/\m x=some u)∨((env.kindOf x=some .cell∨env.kindOf x=some .free)/\∃ c,env.cells.lookup x=some c/\h.IsCell c (some u))
structure Cx.Ok (X:Cx):Prop where
 mod:Mod X.K X.mg X.base
 kind:X.env.scope.kind=.function
 glob:X.env.globals=mainGlobals
 blt:X.env.builtins=builtinsNs
 above:X.s₀.heap.objs.size<=X.env.locals
 inj:∀ x y c,X.env.cells.lookup x=some c->X.env.cells.lookup y=some c->x=y
 has:∀ x,(X.env.kindOf x=some .cell∨X.env.kindOf x=some .free)->∃ c,X.env.cells.lookup x=some c
 cab:∀ x c,X.fn x=true->X.env.cells.lookup x=some c->X.s₀.heap.objs.size<=c
 hd:X.calm=true->X.A.handled=none
 frames:X.A.frames=some X.stack
 stk:X.stack=X.outer∨(X.stack=X.env::X.outer/\X.env.frame=some X.env.locals)
 exf:∀ b∈X.ex,b≠X.env.locals/\∀ x c,X.env.cells.lookup x=some c->c≠b
 bs:∀ b o,X.base.get? b=some o->X.s₀.heap.get? b=some o/\X.H₀ b=none
 bsz:X.base.objs.size<=X.s₀.heap.objs.size
 noex:∀ b o,X.base.get? b=some o->b∉X.ex
 exfs:∀ b∈X.ex,b∉X.fs
 funs:X.s₀.heap.FunFrames X.base X.outer
 frf:∀ b∈X.fs,X.H₀ b=none
structure Inv (X:Cx) (pins:List (Addr × Obj)) (σ:List (Option V)) (H:Hp) (s:Shared):Prop where
 ok:X.Ok
 os:s.os=X.s₀.os
 bare:AllBare s.gens
 base:Un X.fs X.ex X.H₀ H X.s₀.heap s.heap
 loc:∃ m,s.heap.Ns X.env.locals m/\∀ (i:Nat) (x:Str) (v:V),X.N[i]?=some x->σ[i]?=some (some v)->Vis X.env.scope x->∃ u,RelV v u/\Look X.env s.heap m x u
 cell:∀ x c,X.env.cells.lookup x=some c->∃ v,s.heap.IsCell c v
 free:H X.env.locals=none
 freeC:∀ x c,X.env.cells.lookup x=some c->H c=none
 pin:∀ p∈X.pn++pins,s.heap.get? p.1=some p.2/\H p.1=none/\p.1≠X.env.locals/\p.1∉X.fs/\∀ v,p.2.data≠.cell v
 hok:HOk X.prog X.w H s.heap
 len:σ.length=X.N.length
section
variable {X:Cx} {pins:List (Addr × Obj)} {σ:List (Option V)} {H H':Hp} {s:Shared} {h':Heap}
theorem Cx.Ok.nofr (ok:X.Ok) {b:Addr} {o:Obj} (e:X.base.get? b=some o):b∉X.fs:=fun hb=>by
 have:=(ok.funs.mem hb).1
 rw [e] at this;cases this
theorem Inv.bs (I:Inv X pins σ H s):∀ b o,X.base.get? b=some o->s.heap.get? b=some o/\H b=none:=fun b o e =>
 ⟨I.base.keep b o (I.ok.bs b o e).1 (I.ok.bs b o e).2 (I.ok.nofr e) (I.ok.noex b o e),I.base.free b o (I.ok.bs b o e).1 (I.ok.bs b o e).2 (I.ok.noex b o e)⟩
theorem Inv.bk (I:Inv X pins σ H s):∀ b o,X.base.get? b=some o->s.heap.get? b=some o:=fun b o e=>(I.bs b o e).1
theorem Inv.mod (I:Inv X pins σ H s):Mod X.K X.mg X.base:=I.ok.mod
theorem Inv.kIn (I:Inv X pins σ H s):X.K.In s.heap:=I.ok.mod.kin.keeps I.bk
theorem Inv.lt (I:Inv X pins σ H s):X.env.locals<s.heap.objs.size:=by obtain ⟨_,hn,_⟩:=I.loc;exact hn.lt
theorem Inv.sz (I:Inv X pins σ H s):X.s₀.heap.objs.size<=s.heap.objs.size:=Nat.le_trans I.ok.above (Nat.le_of_lt I.lt)
theorem Inv.nofs (I:Inv X pins σ H s) {a:Addr} (h:s.heap.objs.size<=a):a∉X.fs:=fun hb=>by
 obtain ⟨_,o,ho,_⟩:=I.ok.funs.mem hb
 exact absurd (Nat.lt_of_lt_of_le (Heap.lt_size ho) (Nat.le_trans I.sz h)) (Nat.lt_irrefl _)
theorem Inv.cne (I:Inv X pins σ H s):∀ x c,X.env.cells.lookup x=some c->c≠X.env.locals:=fun x c e z=>by
 obtain ⟨v,o,ho,hd⟩:=I.cell x c e
 obtain ⟨m,⟨o',es,ep,ho',hd',_⟩,_⟩:=I.loc
 rw [z,ho'] at ho;cases ho;rw [hd'] at hd;cases hd
theorem Inv.funs (I:Inv X pins σ H s):s.heap.FunFrames X.base X.outer:=by
 have all:∀ (l:List Env),(∀ b∈frs l,b∈X.fs)->X.s₀.heap.FunFrames X.base l->s.heap.FunFrames X.base l:=by
  intro l
  induction l with
  | nil=>intro _ _;trivial
  | cons env r ih =>
   intro hs hl
   obtain ⟨hk,⟨L,o,hf,hn,ho,hd⟩,hr⟩:=hl
   have hL:L∈X.fs:=hs L (by unfold frs;rw [List.filterMap_cons,hf];exact List.mem_cons_self)
   obtain ⟨sl,e⟩:=I.base.slot L o ho (I.ok.frf L hL) hL fun z=>I.ok.exfs L z hL
   exact ⟨hk,⟨L,_,hf,hn,e,hd⟩,ih (fun b hb=>hs b (by unfold frs;rw [List.filterMap_cons,hf];exact List.mem_cons_of_mem _ hb)) hr⟩
 exact all X.outer (fun _ hb=>hb) I.ok.funs
theorem Inv.stack (I:Inv X pins σ H s):s.heap.FunFrames X.base X.stack:=by
 rcases I.ok.stk with e | ⟨e,hf⟩
 ·rw [e];exact I.funs
 ·rw [e]
  obtain ⟨m,hn,_⟩:=I.loc
  refine .cons (by rw [I.ok.kind];decide) hf hn ?_ I.funs
  exact Heap.get?_none_of_le (Nat.le_trans I.ok.bsz I.ok.above)
theorem Inv.stkSub (I:Inv X pins σ H s):∀ b∈frs X.stack,b∈X.env.locals::X.fs:=fun b hb=>by
 rcases I.ok.stk with e | ⟨e,hf⟩
 ·rw [e] at hb;exact List.mem_cons_of_mem _ hb
 ·rw [e] at hb
  unfold frs at hb
  rw [List.filterMap_cons,hf] at hb
  exact hb
theorem Inv.stkFree (I:Inv X pins σ H s):∀ b∈frs X.stack,H b=none:=fun b hb=>by
 rcases List.mem_cons.mp (I.stkSub b hb) with e | hb
 ·rw [e];exact I.free
 ·obtain ⟨_,o,ho,_⟩:=I.ok.funs.mem hb
  exact I.base.free b o ho (I.ok.frf b hb) fun z=>I.ok.exfs b z hb
theorem Inv.step {g':Array GenState} {t':Nat} {d':Drawn} {ch:List Addr} (I:Inv X pins σ H s)
  (hch:∀ b∈ch,(b∈X.ex∨X.s₀.heap.objs.size<=b)/\b≠X.env.locals/\(∀ x c,X.env.cells.lookup x=some c->c≠b)/\∀ p∈X.pn++pins,p.1≠b)
  (keep:∀ b o,b≠X.env.locals->b∉X.fs->b∉ch->s.heap.get? b=some o->H b=none->h'.get? b=some o)
  (slot:∀ b o,b≠X.env.locals->b∈X.fs->b∉ch->s.heap.get? b=some o->H b=none->∃ sl,h'.get? b=some { o with slots:=sl }) (free:∀ b o,b∉ch->s.heap.get? b=some o->H b=none->H' b=none)
  (there:∀ b o,b∉ch->s.heap.get? b=some o->∃ o',h'.get? b=some o')
  (tups:∀ b xs,H b=some (.tup xs)->H' b=some (.tup xs)) (frzs:∀ b o u,H b=some (.frz o u)->H' b=some (.frz o u)) (tbls:∀ b ps,H b=some (.tbl ps)->∃ more,H' b=some (.tbl (ps++more)))
  (ns:∀ m,s.heap.Ns X.env.locals m->h'.Ns X.env.locals m) (hok:HOk X.prog X.w H' h') (hg:AllBare g') :
  Inv X pins σ H' { s with heap:=h',gens:=g',drawn:=d',toks:=t' }:=by
 have neL:∀ b o,X.s₀.heap.get? b=some o->b≠X.env.locals:=fun b o e=>Nat.ne_of_lt (Nat.lt_of_lt_of_le (Heap.lt_size e) I.ok.above)
 have neC:∀ b o,X.s₀.heap.get? b=some o->b∉X.ex->b∉ch:=fun b o e hx hb=>by
  rcases (hch b hb).1 with z | z
  ·exact hx z
  ·exact absurd (Nat.lt_of_lt_of_le (Heap.lt_size e) z) (Nat.lt_irrefl _)
 have cellK:∀ x c,X.env.cells.lookup x=some c->∀ v,s.heap.IsCell c v->h'.IsCell c v:=fun x c e v ⟨o,ho,hd⟩=>by
  have nch:c∉ch:=fun z=>(hch c z).2.2.1 x c e rfl
  by_cases hc:c∈X.fs
  ·obtain ⟨sl,q⟩:=slot c o (I.cne x c e) hc nch ho (I.freeC x c e)
   exact ⟨_,q,hd⟩
  ·exact ⟨o,keep c o (I.cne x c e) hc nch ho (I.freeC x c e),hd⟩
 refine ⟨I.ok,I.os,hg,⟨fun b o e n hb hx=>?_,fun b o e n hb hx=>?_,fun b o e n hx=>?_,fun b o e hx=>?_,fun b xs e=>tups b xs (I.base.tups b xs e),fun b o xs e=>frzs b o xs (I.base.frzs b o xs e),fun b ps e=>?_⟩,?_,fun x c e=>?_,?_,fun x c e=>?_,fun p hp=>?_,hok,I.len⟩
 ·exact keep b o (neL b o e) hb (neC b o e hx) (I.base.keep b o e n hb hx) (I.base.free b o e n hx)
 ·obtain ⟨sl,e1⟩:=I.base.slot b o e n hb hx
  obtain ⟨sl',e2⟩:=slot b _ (neL b o e) hb (neC b o e hx) e1 (I.base.free b o e n hx)
  exact ⟨sl',e2⟩
 ·obtain ⟨o',e1⟩:=I.base.there b o e hx
  exact free b o' (neC b o e hx) e1 (I.base.free b o e n hx)
 ·obtain ⟨o',e1⟩:=I.base.there b o e hx
  exact there b o' (neC b o e hx) e1
 ·obtain ⟨m1,e1⟩:=I.base.tbls b ps e
  obtain ⟨m2,e2⟩:=tbls b _ e1
  exact ⟨m1++m2,by rw [e2,Array.append_assoc]⟩
 ·obtain ⟨m,hn,hl⟩:=I.loc
  refine ⟨m,ns m hn,fun i x v e1 e2 e3=>?_⟩
  obtain ⟨u,r,l⟩:=hl i x v e1 e2 e3
  refine ⟨u,r,?_⟩
  rcases l with l | ⟨k,c,e,z⟩
  ·exact .inl l
  ·exact .inr ⟨k,c,e,cellK x c e _ z⟩
 ·obtain ⟨v,z⟩:=I.cell x c e
  exact ⟨v,cellK x c e v z⟩
 ·obtain ⟨m,⟨o,_,_,ho,_⟩,_⟩:=I.loc
  exact free _ o (fun z=>(hch _ z).2.1 rfl) ho I.free
 ·obtain ⟨v,o,ho,hd⟩:=I.cell x c e
  exact free c o (fun z=>(hch c z).2.2.1 x c e rfl) ho (I.freeC x c e)
 ·obtain ⟨e,n,ne,nf,d⟩:=I.pin p hp
  have nch:p.1∉ch:=fun z=>(hch p.1 z).2.2.2 p hp rfl
  exact ⟨keep p.1 p.2 ne nf nch e n,free p.1 p.2 nch e n,ne,nf,d⟩
theorem Inv.un {t':Nat} (I:Inv X pins σ H s) (u:Un X.fs [] H H' s.heap h') (hok:HOk X.prog X.w H' h'):Inv X pins σ H' { s with heap:=h',toks:=t' }:=by
 obtain ⟨m,⟨o,es,ep,ho,r⟩,_⟩:=id I.loc
 obtain ⟨sl,hL⟩:=u.any ho I.free (by simp)
 exact I.step (g':=s.gens) (d':=s.drawn) (ch:=[]) (fun _ z=>nomatch z) (fun b o _ hb _ e n=>u.keep b o e n hb (by simp)) (fun b o _ hb _ e n=>u.slot b o e n hb (by simp)) (fun b o _ e n=>u.free b o e n (by simp)) (fun b o _ e=>u.there b o e (by simp)) u.tups u.frzs u.tbls (fun m' hm=>by
  obtain ⟨o',es',ep',ho',r'⟩:=hm
  rw [ho] at ho';cases ho'
  exact ⟨_,es',ep',hL,r'⟩) hok I.bare
theorem Inv.call {g':Array GenState} {t':Nat} {d':Drawn} {ch:List Addr} (I:Inv X pins σ H s) (u:Un (frs X.stack) ch H H' s.heap h') (hok:HOk X.prog X.w H' h') (hg:AllBare g')
  (hch:∀ b∈ch,(b∈X.ex∨X.s₀.heap.objs.size<=b)/\b≠X.env.locals/\(∀ x c,X.env.cells.lookup x=some c->c≠b)/\∀ p∈X.pn++pins,p.1≠b) :
  Inv X pins σ H' { s with heap:=h',gens:=g',drawn:=d',toks:=t' }:=by
 obtain ⟨m,⟨o,es,ep,ho,r⟩,_⟩:=id I.loc
 obtain ⟨sl,hL⟩:=u.any ho I.free fun z=>(hch _ z).2.1 rfl
 exact I.step (ch:=ch) hch (fun b o hL hb hc e n=>u.keep b o e n (fun z=>(List.mem_cons.mp (I.stkSub b z)).elim hL hb) hc) (fun b o _ _ hc e n=>u.any e n hc) (fun b o hc e n=>u.free b o e n hc) (fun b o hc e=>u.there b o e hc) u.tups u.frzs u.tbls (fun m' hm=>by
  obtain ⟨o',es',ep',ho',r'⟩:=hm
  rw [ho] at ho';cases ho'
  exact ⟨_,es',ep',hL,r'⟩) hok hg
theorem Inv.turned {t':Nat} {it:Addr} (I:Inv X pins σ H s) (k:∀ b o,b≠it->s.heap.get? b=some o->h'.get? b=some o) (hn:H it=none) (hL:it≠X.env.locals)
  (h1:it∈X.ex∨X.s₀.heap.objs.size<=it) (h2:∀ x c,X.env.cells.lookup x=some c->c≠it) (h3:∀ p∈X.pn++pins,p.1≠it):Inv X pins σ H { s with heap:=h',toks:=t' }:=by
 have nit:∀ b u,H b=some u->b≠it:=fun b u e z=>by rw [z,hn] at e;cases e
 refine I.step (g':=s.gens) (d':=s.drawn) (ch:=[it]) (fun b hb=>?_) (fun b o _ _ hc e _=>k b o (fun z=>hc (by simp [z])) e) (fun b o _ _ hc e _=>⟨o.slots,k b o (fun z=>hc (by simp [z])) e⟩) (fun _ _ _ _ n=>n)
  (fun b o hc e=>⟨o,k b o (fun z=>hc (by simp [z])) e⟩) (fun _ _ e=>e) (fun _ _ _ e=>e) (fun b ps e=>⟨#[],by rw [e];simp⟩) (fun m hm=>?_) (fun b u e=>?_) I.bare
 ·have e:b=it:=by simpa using hb
  subst e
  exact ⟨h1,hL,h2,h3⟩
 ·obtain ⟨o,es,ep,ho,r⟩:=hm
  exact ⟨o,es,ep,k _ o (Ne.symm hL) ho,r⟩
 ·refine (I.hok b u e).stay (fun c v hc q=>k c v ?_ q) (fun _ q=>q) fun _ _ q=>q
  rcases hc with z | z
  ·rw [z];exact nit b u e
  ·exact nit c _ z
theorem Inv.tok (I:Inv X pins σ H s) (t:Nat):Inv X pins σ H { s with toks:=t }:=I.un (h':=s.heap) (t':=t) Un.refl I.hok
theorem Inv.kept {t':Nat} (I:Inv X pins σ H s) (k:∀ b u,s.heap.get? b=some u->h'.get? b=some u):Inv X pins σ H { s with heap:=h',toks:=t' }:=I.un (Un.kept k) (I.hok.kept k)
theorem Inv.laid {a:Addr} {o:HO} {t':Nat} (I:Inv X pins σ H s) (k:∀ b u,s.heap.get? b=some u->h'.get? b=some u) (hp:s.heap.objs.size<=a) (new:ObjOk X.prog X.w (upd H a o) h' a o) :
  Inv X pins σ (upd H a o) { s with heap:=h',toks:=t' }:=I.un (Un.laid k hp (I.hok.fresh hp)) (I.hok.laid k hp new)
theorem Inv.write {x e:Addr} {o:HO} {t':Nat} (I:Inv X pins σ H s) (mu:Mut (H x)) (he:e=x∨H e=some (.own x)) (k:∀ b u,b≠e->s.heap.get? b=some u->h'.get? b=some u) (heo:∃ u,h'.get? e=some u)
  (new:ObjOk X.prog X.w (upd H x o) h' x o):Inv X pins σ (upd H x o) { s with heap:=h',toks:=t' }:=I.un (Un.write mu he k heo) (I.hok.write mu he k heo new)
theorem Inv.pins_of {pins':List (Addr × Obj)} (I:Inv X pins σ H s) (h:∀ p∈pins',s.heap.get? p.1=some p.2/\H p.1=none/\p.1≠X.env.locals/\p.1∉X.fs/\∀ v,p.2.data≠.cell v):Inv X pins' σ H s :=
 ⟨I.ok,I.os,I.bare,I.base,I.loc,I.cell,I.free,I.freeC,fun p hp=>(List.mem_append.mp hp).elim (fun z=>I.pin p (List.mem_append_left _ z)) (h p),I.hok,I.len⟩
theorem nodup_ix {N:List Str} (hN:N.Nodup) {i j:Nat} {x:Str} (a:N[i]?=some x) (b:N[j]?=some x):i=j:=by
 obtain ⟨h1,e1⟩:=List.getElem?_eq_some_iff.mp a
 obtain ⟨h2,e2⟩:=List.getElem?_eq_some_iff.mp b
 exact (List.getElem_inj hN).mp (e1.trans e2.symm)
theorem store_ok2 {M:Model} {A:Around} {E:Value->Shared->Prop} {i:Nat} {x:Str} {v:V} {u:Value} {Q:Unit->Shared->Prop} (I:Inv X pins σ H s) (hN:X.N.Nodup) (hi:X.N[i]?=some x) (hx:Loc X.env.scope x) (r:RelV v u)
  (h:∀ s',Inv X pins (σ.set i (some v)) H s'->(∃ a,Heap.SameBut a s.heap s'.heap/\(a=X.env.locals∨X.env.cells.lookup x=some a))->Q () s') (hf:X.fn x=true∨X.env.scope.names.lookup x=some .local:=by first | exact .inl rfl | exact .inr rfl | assumption):wpAny M A (storeName X.env x u) Q E s:=by
 obtain ⟨m,hn,hl⟩:=id I.loc
 have hcls:(X.env.scope.kind == .class||(X.env.scope.kind == .module&&X.env.locals != X.env.globals))=false:=by rw [I.ok.kind];rfl
 have hiσ:i<σ.length:=by rw [I.len];exact (List.getElem?_eq_some_iff.mp hi).1
 have cne:=I.cne
 have tracked:∀ {a:Addr} {h':Heap},(∃ o,s.heap.get? a=some o/\H a=none)->Heap.SameBut a s.heap h'->HOk X.prog X.w H h':=fun {a h'} ha hs b ob e=>by
  obtain ⟨_,_,hfree⟩:=ha
  refine (I.hok b ob e).stay (fun c w' hc q=>(hs.2 c ?_).trans q) (fun _ q=>q) fun _ _ q=>q
  rintro rfl
  rcases hc with rfl | hc
  ·rw [hfree] at e;cases e
  ·rw [hfree] at hc;cases hc
 rcases hx with hk | hk
 ·refine wpAny_storeName_local hk hn (fun h' hn' hs=>?_) hcls
  obtain ⟨oL,_,_,hoL,_⟩:=id hn
  refine h _ ⟨I.ok,I.os,I.bare,⟨fun b o e n hb hx=>?_,fun b o e n hb hx=>?_,I.base.free,fun b o e hx=>?_,I.base.tups,I.base.frzs,I.base.tbls⟩,⟨_,hn',fun j y v' e1 e2 e3=>?_⟩,fun y c e=>?_,I.free,I.freeC,fun p hp=>?_,tracked ⟨oL,hoL,I.free⟩ hs,by simpa using I.len⟩ ⟨_,hs,.inl rfl⟩
  ·exact (hs.2 b (Nat.ne_of_lt (Nat.lt_of_lt_of_le (Heap.lt_size e) I.ok.above))).trans (I.base.keep b o e n hb hx)
  ·obtain ⟨sl,e1⟩:=I.base.slot b o e n hb hx
   exact ⟨sl,(hs.2 b (Nat.ne_of_lt (Nat.lt_of_lt_of_le (Heap.lt_size e) I.ok.above))).trans e1⟩
  ·obtain ⟨o',e1⟩:=I.base.there b o e hx
   exact ⟨o',(hs.2 b (Nat.ne_of_lt (Nat.lt_of_lt_of_le (Heap.lt_size e) I.ok.above))).trans e1⟩
  ·by_cases hj:j=i
   ·subst hj
    rw [hi] at e1;cases e1
    rw [List.getElem?_set_self hiσ] at e2
    cases e2
    exact ⟨u,r,.inl ⟨hk,by simp⟩⟩
   ·rw [List.getElem?_set_ne (Ne.symm hj)] at e2
    obtain ⟨u',r',q⟩:=hl j y v' e1 e2 e3
    refine ⟨u',r',?_⟩
    rcases q with ⟨k,e⟩ | ⟨k,c,e,z⟩
    ·refine .inl ⟨k,?_⟩
     have:y≠x:=fun e=>hj (nodup_ix hN e1 (e ▸ hi))
     simp [this,e]
    ·exact .inr ⟨k,c,e,z.sameBut hs (cne y c e)⟩
  ·obtain ⟨w',z⟩:=I.cell y c e
   exact ⟨w',z.sameBut hs (cne y c e)⟩
  ·obtain ⟨e,n,ne,nf,d⟩:=I.pin p hp
   exact ⟨(hs.2 p.1 ne).trans e,n,ne,nf,d⟩
 ·have hfn:X.fn x=true:=by
   rcases hf with z | z
   ·exact z
   ·rw [z] at hk;cases hk
  obtain ⟨c,hc⟩:=I.ok.has x (.inl hk)
  obtain ⟨w',z⟩:=I.cell x c hc
  refine wpAny_storeName_cell I.ok.kind hk hc z (fun h' hc' hs=>?_)
  obtain ⟨oc,hoc,hocd⟩:=id z
  refine h { s with heap:=h' } ⟨I.ok,I.os,I.bare,⟨fun b o e n hb hx=>?_,fun b o e n hb hx=>?_,I.base.free,fun b o e hx=>?_,I.base.tups,I.base.frzs,I.base.tbls⟩,⟨m,hn.sameBut hs (Ne.symm (cne x c hc)),fun j y v' e1 e2 e3=>?_⟩,fun y c' e=>?_,I.free,I.freeC,fun p hp=>?_,tracked ⟨oc,hoc,I.freeC x c hc⟩ hs,by simpa using I.len⟩ ⟨c,hs,.inr hc⟩
  ·exact (hs.2 b (Nat.ne_of_lt (Nat.lt_of_lt_of_le (Heap.lt_size e) (I.ok.cab x c hfn hc)))).trans (I.base.keep b o e n hb hx)
  ·obtain ⟨sl,e1⟩:=I.base.slot b o e n hb hx
   exact ⟨sl,(hs.2 b (Nat.ne_of_lt (Nat.lt_of_lt_of_le (Heap.lt_size e) (I.ok.cab x c hfn hc)))).trans e1⟩
  ·obtain ⟨o',e1⟩:=I.base.there b o e hx
   exact ⟨o',(hs.2 b (Nat.ne_of_lt (Nat.lt_of_lt_of_le (Heap.lt_size e) (I.ok.cab x c hfn hc)))).trans e1⟩
  ·by_cases hj:j=i
   ·subst hj
    rw [hi] at e1;cases e1
    rw [List.getElem?_set_self hiσ] at e2
    cases e2
    exact ⟨u,r,.inr ⟨.inl hk,c,hc,hc'⟩⟩
   ·rw [List.getElem?_set_ne (Ne.symm hj)] at e2
    obtain ⟨u',r',q⟩:=hl j y v' e1 e2 e3
    refine ⟨u',r',?_⟩
    rcases q with q | ⟨k,c',e,z'⟩
    ·exact .inl q
    ·refine .inr ⟨k,c',e,z'.sameBut hs ?_⟩
     rintro rfl
     exact hj (nodup_ix hN e1 (I.ok.inj _ _ _ e hc ▸ hi))
  ·by_cases hcc:c'=c
   ·subst hcc;exact ⟨_,hc'⟩
   ·obtain ⟨w2,z2⟩:=I.cell y c' e
    exact ⟨w2,z2.sameBut hs hcc⟩
  ·obtain ⟨e,n,ne,nf,d⟩:=I.pin p hp
   refine ⟨(hs.2 p.1 ?_).trans e,n,ne,nf,d⟩
   intro q
   rw [q,hoc] at e
   have q':oc=p.2:=Option.some.inj e
   exact d w' (by rw [<- q'];exact hocd)
theorem store_ok {M:Model} {A:Around} {E:Value->Shared->Prop} {i:Nat} {x:Str} {v:V} {u:Value} {Q:Unit->Shared->Prop} (I:Inv X pins σ H s) (hN:X.N.Nodup) (hi:X.N[i]?=some x) (hx:Loc X.env.scope x) (r:RelV v u)
  (h:∀ s',Inv X pins (σ.set i (some v)) H s'->Q () s') (hf:X.fn x=true∨X.env.scope.names.lookup x=some .local:=by first | exact .inl rfl | exact .inr rfl | assumption):wpAny M A (storeName X.env x u) Q E s :=
 store_ok2 I hN hi hx r (fun s' I' _=>h s' I') hf
theorem Inv.call' {s':Shared} {ch:List Addr} (I:Inv X pins σ H s) (ho:s'.os=s.os) (u:Un (frs X.stack) ch H H' s.heap s'.heap) (hok:HOk X.prog X.w H' s'.heap) (hg:AllBare s'.gens)
  (hch:∀ b∈ch,(b∈X.ex∨X.s₀.heap.objs.size<=b)/\b≠X.env.locals/\(∀ x c,X.env.cells.lookup x=some c->c≠b)/\∀ p∈X.pn++pins,p.1≠b):Inv X pins σ H' s':=by
 obtain ⟨h',g',d',t',o'⟩:=s'
 have e:o'=s.os:=ho
 subst e
 exact I.call (g':=g') (t':=t') (d':=d') u hok hg hch
end
noncomputable abbrev XK:=Value->Option Addr->Hp->Prop
noncomputable abbrev St:=List (Option V)
noncomputable abbrev VK:=V->Hp->Prop
noncomputable abbrev TE:=St->Hp->VK->Prop
noncomputable abbrev TT:=St->Hp->(Bool->Hp->Prop)->Prop
noncomputable abbrev TA:=St->Hp->(List V->Hp->Prop)->Prop
structure Ends where
 nx:St->Hp->Prop
 rt:VK
 bk:St->Hp->Prop:=fun _ _=>False
 ct:St->Hp->Prop:=fun _ _=>False
noncomputable abbrev TS:=Ends->St->Hp->Prop
noncomputable def EP (X:Cx) (pins:List (Addr × Obj)) (σ:St) (Q:VK) (u:Value) (s':Shared):Prop:=∃ v H',Inv X pins σ H' s'/\RelV v u/\Q v H'
noncomputable def TP (X:Cx) (pins:List (Addr × Obj)) (σ:St) (Q:Bool->Hp->Prop) (b:Bool) (s':Shared):Prop:=∃ H',Inv X pins σ H' s'/\Q b H'
noncomputable def AP (X:Cx) (pins:List (Addr × Obj)) (σ:St) (Q:List V->Hp->Prop) (us:List Value) (s':Shared):Prop:=∃ vs H',Inv X pins σ H' s'/\Vals vs us/\Q vs H'
noncomputable def SP (X:Cx) (pins:List (Addr × Obj)) (D:Ends) (f:Flow) (s':Shared):Prop :=
 match f with
 | .next=>∃ σ' H',Inv X pins σ' H' s'/\D.nx σ' H'
 | .brk=>∃ σ' H',Inv X pins σ' H' s'/\D.bk σ' H'
 | .cont=>∃ σ' H',Inv X pins σ' H' s'/\D.ct σ' H'
 | .ret u=>∃ v σ' H',Inv X pins σ' H' s'/\RelV v u/\D.rt v H'
noncomputable def PE (X:Cx) (e:Expr) (t:TE):Prop :=
 ∀ (pins:List (Addr × Obj)) (s:Shared) (σ:St) (H:Hp) (Q:VK),Inv X pins σ H s->t σ H Q->wpAny (model X.prog X.w) X.A (eval e X.env) (EP X pins σ Q) X.xe s
noncomputable def PT (X:Cx) (e:Expr) (t:TT):Prop :=
 ∀ (pins:List (Addr × Obj)) (s:Shared) (σ:St) (H:Hp) (Q:Bool->Hp->Prop),Inv X pins σ H s->t σ H Q->wpAny (model X.prog X.w) X.A (isTrue e X.env (eval e X.env)) (TP X pins σ Q) X.xe s
noncomputable def PW (X:Cx) (e:Expr) (t:TT):Prop :=
 ∀ (whole:Sem Value) (pins:List (Addr × Obj)) (s:Shared) (σ:St) (H:Hp) (Q:Bool->Hp->Prop),Inv X pins σ H s->t σ H Q->wpAny (model X.prog X.w) X.A (isTrue e X.env whole) (TP X pins σ Q) X.xe s
theorem PW.pt {X:Cx} {e:Expr} {t:TT} (h:PW X e t):PT X e t:=h _
noncomputable def PA (X:Cx) (es:List Expr) (t:TA):Prop :=
 ∀ (pos:Pos) (pins:List (Addr × Obj)) (s:Shared) (σ:St) (H:Hp) (Q:List V->Hp->Prop),Inv X pins σ H s->t σ H Q->wpAny (model X.prog X.w) X.A (spliced (backTo pos (starEach es X.env))) (AP X pins σ Q) X.xe s
noncomputable def PS (X:Cx) (st:Stmt) (t:TS):Prop :=
 ∀ (pins:List (Addr × Obj)) (s:Shared) (σ:St) (H:Hp) (D:Ends),Inv X pins σ H s->t D σ H->wpAny (model X.prog X.w) X.A (exec st X.env) (SP X pins D) X.xe s
noncomputable def PSs (X:Cx) (st:List Stmt) (t:TS):Prop :=
 ∀ (pins:List (Addr × Obj)) (s:Shared) (σ:St) (H:Hp) (D:Ends),Inv X pins σ H s->t D σ H->wpAny (model X.prog X.w) X.A (execs st X.env) (SP X pins D) X.xe s
theorem thn {α:Type} {t:Sem α} {Q Q':α->Shared->Prop} {M:Model} {A:Around} {E:Value->Shared->Prop} {s:Shared} (h:wpAny M A t Q E s) (hQ:∀ a s,Q a s->Q' a s):wpAny M A t Q' E s:=wpAny_mono h hQ fun _ _ x=>x
end L2
namespace L2
open PySem PySem.Spec PyProof.Rows
section
variable {X:Cx}
noncomputable def tVar (i:Nat):TE:=fun σ H Q=>∃ v,σ[i]?=some (some v)/\Q v H
noncomputable def tC (v:V):TE:=fun _ H Q=>Q v H
theorem pe_var {i:Nat} {x:Str} {pos:Pos} (hN:X.N[i]?=some x) (hv:Vis X.env.scope x) (hd:(x == ("__debug__":Str))=false:=by decide) (hcd:(x == ("__classdict__":Str))=false:=by decide):PE X (.Name x pos) (tVar i):=by
 intro pins s σ H Q I h
 obtain ⟨v,e,h⟩:=h
 obtain ⟨m,hn,hl⟩:=I.loc
 obtain ⟨u,r,l⟩:=hl i x v hN e hv
 have fin:EP X pins σ Q u s:=⟨v,H,I,r,h⟩
 rcases l with ⟨hk,hm⟩ | ⟨hk,c,hc,hcell⟩
 ·exact wpAny_Name (wpAny_loadName_local I.ok.kind hk hn hm fin) hd
 ·rcases hk with hk | hk
  ·exact wpAny_Name (wpAny_loadName_cell I.ok.kind hk hc hcell fin) hd
  ·exact wpAny_Name (wpAny_loadName_free I.ok.kind hk hc hcell fin hcd) hd
theorem pe_int {i j pos}:PE X (.Constant (.int i) j pos) (tC (.int i)):=fun _ _ _ H _ I h=>wpAny_Constant_int ⟨.int i,H,I.tok _,⟨_,rfl⟩,h⟩
theorem pe_bl {b j pos}:PE X (.Constant (.bool b) j pos) (tC (.bl b)):=fun _ _ _ H _ I h=>Constant_bool ⟨.bl b,H,I,rfl,h⟩
theorem pe_non {j pos}:PE X (.Constant .none j pos) (tC .non):=fun _ _ _ H _ I h=>Constant_none ⟨.non,H,I,rfl,h⟩
theorem pe_str {x j pos}:PE X (.Constant (.str x) j pos) (tC (.str x)):=fun _ _ _ H _ I h=>Calls.Constant_str ⟨.str x,H,I.tok _,⟨_,rfl⟩,h⟩
noncomputable def Gl (X:Cx) (x:Str):Prop:=X.env.kindOf x=some .globalImplicit
theorem ld_glob {E:Value->Shared->Prop} {pins:List (Addr × Obj)} {s:Shared} {σ:St} {H:Hp} {x:Str} {u:Value} {pos:Pos} {Q:Value->Shared->Prop} (I:Inv X pins σ H s) (hg:Gl X x) (hm:X.mg x=some u) (h:Q u s)
  (hd:(x == ("__debug__":Str))=false:=by decide):wpAny (model X.prog X.w) X.A (eval (.Name x pos) X.env) Q E s :=
 Calls.Name_function_global I.ok.kind hg (Calls.loadGlobal_global (by rw [I.ok.glob];exact I.mod.glob.keeps I.bk) hm h) hd
theorem ld_blt {E:Value->Shared->Prop} {pins:List (Addr × Obj)} {s:Shared} {σ:St} {H:Hp} {x:Str} {u:Value} {pos:Pos} {Q:Value->Shared->Prop} (I:Inv X pins σ H s) (hg:Gl X x) (hm:X.mg x=none) (hv:bootBuiltins x=some u) (h:Q u s)
  (hn:x≠"__name__":=by decide) (hd:(x == ("__debug__":Str))=false:=by decide):wpAny (model X.prog X.w) X.A (eval (.Name x pos) X.env) Q E s:=by
 obtain ⟨mb,h1,h2⟩:=I.mod.blt
 exact Calls.Name_function_global I.ok.kind hg (Calls.loadGlobal_builtin (by rw [I.ok.glob];exact I.mod.glob.keeps I.bk) hm (by rw [I.ok.blt];exact h1.keeps I.bk) ((h2 x hn).trans hv) h) hd
theorem pe_glob {x:Str} {v:V} {u:Value} {pos:Pos} (hg:Gl X x) (hm:X.mg x=some u) (r:RelV v u) (hd:(x == ("__debug__":Str))=false:=by decide):PE X (.Name x pos) (tC v) :=
 fun _ _ _ H _ I h=>ld_glob I hg hm ⟨v,H,I,r,h⟩ hd
theorem pe_bltn {x:Str} {v:V} {u:Value} {pos:Pos} (hg:Gl X x) (hm:X.mg x=none) (hv:bootBuiltins x=some u) (r:RelV v u) (hn:x≠"__name__":=by decide) (hd:(x == ("__debug__":Str))=false:=by decide):PE X (.Name x pos) (tC v) :=
 fun _ _ _ H _ I h=>ld_blt I hg hm hv ⟨v,H,I,r,h⟩ hn hd
variable {a b:Expr} {ta tb:TE} {pos:Pos}
noncomputable def PC (X:Cx) (op:CmpOp) (a b:Expr) (t:TE):Prop :=
 ∀ (pins:List (Addr × Obj)) (s:Shared) (σ:St) (H:Hp) (Q:VK),Inv X pins σ H s->t σ H Q ->
  wpAny (model X.prog X.w) X.A (eval a X.env) (fun v s₁=>wpAny (model X.prog X.w) X.A (eval b X.env) (fun u s₂=>wpAny (model X.prog X.w) X.A (compareOp op v u) (EP X pins σ Q) X.xe s₂) X.xe s₁) X.xe s
theorem nobehind (b:Expr) {op:CmpOp} (h:op≠.In) (h2:op≠.NotIn):behindInMarks op b=false:=by
 have e1:(op == CmpOp.In)=false:=by cases op<;>first | rfl | exact absurd rfl h
 have e2:(op == CmpOp.NotIn)=false:=by cases op<;>first | rfl | exact absurd rfl h2
 cases b<;>simp [behindInMarks,e1,e2]
noncomputable def tNotN (ta:TE):TE:=fun σ H Q=>ta σ H fun x H1=>Q (.bl (!decide (x=.non))) H1
theorem RelV.none_iff {x:V} {v:Value} (r:RelV x v):(v == Value.none)=decide (x=.non):=by
 cases x with
 | non=>cases r;rfl
 | bl _=>cases r;rfl
 | int _=>obtain ⟨t,rfl⟩:=r;rfl
 | str _=>obtain ⟨t,rfl⟩:=r;rfl
 | byt _=>obtain ⟨t,rfl⟩:=r;rfl
 | flt _=>obtain ⟨t,rfl⟩:=r;rfl
 | ref _=>cases r;rfl
 | ty _=>cases r;rfl
theorem pc_notN {j pos'} (ha:PE X a ta):PC X .IsNot a (.Constant .none j pos') (tNotN ta):=by
 intro pins s σ H Q I h
 refine thn (ha pins s σ H _ I h) fun v s1 hsl1=>?_
 obtain ⟨x,H1,I1,r1,q1⟩:=hsl1
 exact Constant_none (isnot_none_gen ⟨.bl _,H1,I1,by rw [r1.none_iff];rfl,q1⟩)
noncomputable def tB (t:TE):TT:=fun σ H Q=>t σ H fun x H1=>∃ c,x=.bl c/\Q c H1
theorem pt_cmp {op:CmpOp} {t:TE} (h:PC X op a b t) (h1:behindInMarks op b=false:=by first | exact nobehind _ (by decide) (by decide) | rfl):PT X (.Compare a [op] [b] pos) (tB t):=by
 intro pins s σ H Q I hw
 refine wpAny_isTrue_Compare1 (thn (h pins s σ H _ I hw) fun v s1 h1=>thn h1 fun u s2 h2=>thn h2 fun c s3 hsl2=>?_) h1
 obtain ⟨x,H1,I1,r1,q1⟩:=hsl2
 obtain ⟨d,rfl,q⟩:=q1
 cases r1
 exact wpAny_truthy_bool ⟨H1,I1,q⟩
theorem pt_val {e:Expr} {t:TE} (h:PE X e t) (he:∀ whole,isTrue e X.env whole=(do let v <- whole;standAt e.pos;holding [v] (truthy v)):=by intro _;rfl):PT X e (tB t):=by
 intro pins s σ H Q I hw
 refine isTrue_plain (thn (h pins s σ H _ I hw) fun v s1 hsl3=>?_) (he _)
 obtain ⟨x,H1,I1,r1,q1⟩:=hsl3
 obtain ⟨d,rfl,q⟩:=q1
 cases r1
 exact wpAny_truthy_bool ⟨H1,I1,q⟩
variable {tA tB':TT} {rest:List Expr}
noncomputable def tAnd (t u:TT):TT:=fun σ H Q=>t σ H fun c H1=>if c=true then u σ H1 Q else Q false H1
noncomputable def tOr (t u:TT):TT:=fun σ H Q=>t σ H fun c H1=>if c=true then Q true H1 else u σ H1 Q
noncomputable def tNot (t:TT):TT:=fun σ H Q=>t σ H fun c H1=>Q (!c) H1
theorem pw_and1 (ha:PT X a tA):PW X (.BoolOp .And [a] pos) tA:=by
 intro wh pins s σ H Q I h
 refine isTrue_and (thn (ha pins s σ H Q I h) fun c s1 e=>?_)
 cases c with
 | true=>exact isTrue_and_nil e
 | false=>exact e
theorem pw_or1 (ha:PT X a tA):PW X (.BoolOp .Or [a] pos) tA:=by
 intro wh pins s σ H Q I h
 refine isTrue_or (thn (ha pins s σ H Q I h) fun c s1 e=>?_)
 cases c with
 | false=>exact isTrue_or_nil e
 | true=>exact e
theorem pw_and (ha:PT X a tA) (hb:PW X (.BoolOp .And (b::rest) pos) tB'):PW X (.BoolOp .And (a::b::rest) pos) (tAnd tA tB'):=by
 intro wh pins s σ H Q I h
 refine isTrue_and (thn (ha pins s σ H _ I h) fun c s1 hsl4=>?_)
 obtain ⟨H1,I1,q1⟩:=hsl4
 cases c with
 | true=>exact hb wh pins s1 σ H1 Q I1 q1
 | false=>exact ⟨H1,I1,q1⟩
theorem pw_or (ha:PT X a tA) (hb:PW X (.BoolOp .Or (b::rest) pos) tB'):PW X (.BoolOp .Or (a::b::rest) pos) (tOr tA tB'):=by
 intro wh pins s σ H Q I h
 refine isTrue_or (thn (ha pins s σ H _ I h) fun c s1 hsl5=>?_)
 obtain ⟨H1,I1,q1⟩:=hsl5
 cases c with
 | true=>exact ⟨H1,I1,q1⟩
 | false=>exact hb wh pins s1 σ H1 Q I1 q1
theorem pt_not (ha:PT X a tA):PT X (.UnaryOp .Not a pos) (tNot tA):=by
 intro pins s σ H Q I h
 exact isTrue_not (ha pins s σ H (fun c H1=>Q (!c) H1) I h)
noncomputable def tAndV (ta tb:TE):TE:=fun σ H Q=>ta σ H fun x H1=>∃ c,x=.bl c/\if c=true then tb σ H1 Q else Q (.bl false) H1
noncomputable def tOrV (ta tb:TE):TE:=fun σ H Q=>ta σ H fun x H1=>∃ c,x=.bl c/\if c=true then Q (.bl true) H1 else tb σ H1 Q
theorem pe_one {op} {t:TE} (h:PE X a t):PE X (.BoolOp op [a] pos) t:=fun pins s σ H Q I hw=>BoolOp_one (h pins s σ H Q I hw)
theorem pe_and (ha:PE X a ta) (hb:PE X (.BoolOp .And (b::rest) pos) tb):PE X (.BoolOp .And (a::b::rest) pos) (tAndV ta tb):=by
 intro pins s σ H Q I h
 refine BoolOp_and (thn (ha pins s σ H _ I h) fun v s1 hsl6=>?_)
 obtain ⟨x,H1,I1,r1,q1⟩:=hsl6
 obtain ⟨c,rfl,q1⟩:=q1
 cases r1
 refine wpAny_truthy_bool ?_
 cases c with
 | true=>exact hb pins s1 σ H1 Q I1 q1
 | false=>exact ⟨.bl false,H1,I1,rfl,q1⟩
theorem pe_or (ha:PE X a ta) (hb:PE X (.BoolOp .Or (b::rest) pos) tb):PE X (.BoolOp .Or (a::b::rest) pos) (tOrV ta tb):=by
 intro pins s σ H Q I h
 refine BoolOp_or (thn (ha pins s σ H _ I h) fun v s1 hsl7=>?_)
 obtain ⟨x,H1,I1,r1,q1⟩:=hsl7
 obtain ⟨c,rfl,q1⟩:=q1
 cases r1
 refine wpAny_truthy_bool ?_
 cases c with
 | false=>exact hb pins s1 σ H1 Q I1 q1
 | true=>exact ⟨.bl true,H1,I1,rfl,q1⟩
noncomputable def tIf (t:TT) (ta tb:TE):TE:=fun σ H Q=>t σ H fun c H1=>if c=true then ta σ H1 Q else tb σ H1 Q
theorem pe_ifExp {c:Expr} (hc:PT X c tA) (ha:PE X a ta) (hb:PE X b tb):PE X (.IfExp c a b pos) (tIf tA ta tb):=by
 intro pins s σ H Q I h
 refine wpAny_IfExp (thn (hc pins s σ H _ I h) fun d s1 hsl8=>?_)
 obtain ⟨H1,I1,q1⟩:=hsl8
 cases d with
 | true=>exact ha pins s1 σ H1 Q I1 q1
 | false=>exact hb pins s1 σ H1 Q I1 q1
end
end L2
namespace L2
open PySem PySem.Spec PyProof.Rows
noncomputable def SqL (K:PySem.W.Frag) (H:Hp) (a:Addr) (xs:List V):Prop :=
 Rd H a (.lst xs) ∨
  ∃ (o:Obj) (its:Array Value) (n:Nat),K.lookup a=some o/\o.cls=.type "list"/\o.dict=none/\o.data=.seq its n/\its.size<=sizeLine/\Vals xs its.toList
noncomputable def SqT (K:PySem.W.Frag) (H:Hp) (a:Addr) (xs:List V):Prop :=
 Rd H a (.tup xs) ∨
  ∃ (o:Obj) (its:Array Value) (n:Nat),K.lookup a=some o/\o.cls=.type "tuple"/\o.data=.seq its n/\its.size<=sizeLine/\Vals xs its.toList
noncomputable def absV:Value->Option V
 | .none=>some .non
 | .bool b=>some (.bl b)
 | .int i _=>some (.int i)
 | .str x _=>some (.str x)
 | .bytes b _=>some (.byt b)
 | .float b _=>some (.flt b)
 | .ref a=>some (.ref a)
 | .type n=>some (.ty n)
 | _=>none
theorem RelV.abs {x:V} {u:Value} (r:RelV x u):absV u=some x:=by
 cases x with
 | non=>cases r;rfl
 | bl _=>cases r;rfl
 | int _=>obtain ⟨t,rfl⟩:=r;rfl
 | str _=>obtain ⟨t,rfl⟩:=r;rfl
 | byt _=>obtain ⟨t,rfl⟩:=r;rfl
 | flt _=>obtain ⟨t,rfl⟩:=r;rfl
 | ref _=>cases r;rfl
 | ty _=>cases r;rfl
theorem RelV.inj {x y:V} {u:Value} (r:RelV x u) (q:RelV y u):x=y:=Option.some.inj (r.abs.symm.trans q.abs)
theorem Vals.inj:∀ {xs ys:List V} {us:List Value},Vals xs us->Vals ys us->xs=ys
 | _,_,_,.nil,.nil=>rfl
 | _,_,_,.cons r t,.cons r' t'=>by rw [r.inj r',Vals.inj t t']
section
variable {X:Cx} {pins:List (Addr × Obj)} {σ:St} {H:Hp} {s:Shared} {a:Addr} {xs ys:List V}
theorem SqL.of {K:PySem.W.Frag} (h:H a=some (.lst xs)):SqL K H a xs:=.inl (.inl h)
theorem SqT.of {K:PySem.W.Frag} (h:H a=some (.tup xs)):SqT K H a xs:=.inl (.inl h)
theorem Inv.list (I:Inv X pins σ H s) (h:SqL X.K H a xs):∃ its:List Value,Vals xs its/\PlainL s.heap a its.toArray/\xs.length<=sizeLine:=by
 rcases h with h | ⟨o,its,n,hk,hc,hd,hs,hz,r⟩
 ·obtain ⟨z,its,n,r,e⟩:=h.ok I.hok
  exact ⟨its,r,⟨_,n,e,rfl,rfl,rfl⟩,z⟩
 ·refine ⟨its.toList,r,⟨o,n,I.kIn a o hk,hc,hd,by simpa using hs⟩,?_⟩
  have e:=r.length
  simp only [Array.length_toList] at e
  omega
theorem Inv.tuple (I:Inv X pins σ H s) (h:SqT X.K H a xs):∃ its:List Value,Vals xs its/\IsTup s.heap a its.toArray/\xs.length<=sizeLine:=by
 rcases h with h | ⟨o,its,n,hk,hc,hs,hz,r⟩
 ·obtain ⟨z,its,r,p⟩:=h.ok I.hok
  exact ⟨its,r,p,z⟩
 ·refine ⟨its.toList,r,⟨o,I.kIn a o hk,hc,n,by simpa using hs⟩,?_⟩
  have e:=r.length
  simp only [Array.length_toList] at e
  omega
theorem Inv.list_inj (I:Inv X pins σ H s) (h:SqL X.K H a xs) (h':SqL X.K H a ys):xs=ys:=by
 obtain ⟨its,r,⟨o,n,e,_,_,d⟩,_⟩:=I.list h
 obtain ⟨its',r',⟨o',n',e',_,_,d'⟩,_⟩:=I.list h'
 rw [e] at e';cases e'
 rw [d] at d'
 injection d' with d1 _
 have:its=its':=by simpa using congrArg Array.toList d1
 subst this
 exact r.inj r'
theorem Inv.tuple_inj (I:Inv X pins σ H s) (h:SqT X.K H a xs) (h':SqT X.K H a ys):xs=ys:=by
 obtain ⟨its,r,⟨o,e,_,n,d⟩,_⟩:=I.tuple h
 obtain ⟨its',r',⟨o',e',_,n',d'⟩,_⟩:=I.tuple h'
 rw [e] at e';cases e'
 rw [d] at d'
 injection d' with d1 _
 have:its=its':=by simpa using congrArg Array.toList d1
 subst this
 exact r.inj r'
end
noncomputable abbrev Cx.wish (X:Cx) (E:Value->Shared->Prop):Cx:={ X with xe:=E }
noncomputable abbrev Cx.nox (X:Cx):Cx:=X.wish fun _ _=>False
theorem Cx.Ok.wish {X:Cx} (ok:X.Ok) (E:Value->Shared->Prop):(X.wish E).Ok :=
 ⟨ok.mod,ok.kind,ok.glob,ok.blt,ok.above,ok.inj,ok.has,ok.cab,ok.hd,ok.frames,ok.stk,ok.exf,ok.bs,ok.bsz,ok.noex,ok.exfs,ok.funs,ok.frf⟩
theorem Cx.Ok.unwish {X:Cx} {E:Value->Shared->Prop} (ok:(X.wish E).Ok):X.Ok :=
 ⟨ok.mod,ok.kind,ok.glob,ok.blt,ok.above,ok.inj,ok.has,ok.cab,ok.hd,ok.frames,ok.stk,ok.exf,ok.bs,ok.bsz,ok.noex,ok.exfs,ok.funs,ok.frf⟩
section
variable {X:Cx} {pins:List (Addr × Obj)} {σ:St} {H:Hp} {s:Shared} {E:Value->Shared->Prop}
theorem Inv.wish (I:Inv X pins σ H s) (E:Value->Shared->Prop):Inv (X.wish E) pins σ H s:=⟨I.ok.wish E,I.os,I.bare,I.base,I.loc,I.cell,I.free,I.freeC,I.pin,I.hok,I.len⟩
theorem Inv.unwish (I:Inv (X.wish E) pins σ H s):Inv X pins σ H s:=⟨I.ok.unwish,I.os,I.bare,I.base,I.loc,I.cell,I.free,I.freeC,I.pin,I.hok,I.len⟩
theorem SP.unwish {D:Ends} {f:Flow} {s':Shared} (h:SP (X.wish E) pins D f s'):SP X pins D f s':=by
 cases f with
 | next=>obtain ⟨σ',H',I,q⟩:=h;exact ⟨σ',H',I.unwish,q⟩
 | brk=>obtain ⟨σ',H',I,q⟩:=h;exact ⟨σ',H',I.unwish,q⟩
 | cont=>obtain ⟨σ',H',I,q⟩:=h;exact ⟨σ',H',I.unwish,q⟩
 | ret u=>obtain ⟨v,σ',H',I,r,q⟩:=h;exact ⟨v,σ',H',I.unwish,r,q⟩
theorem PSs.nox {st:List Stmt} {t:TS} (h:PSs X.nox st t):PSs X st t:=fun pins s σ H D I hw =>
 wpAny_mono (h pins s σ H D (I.wish _) hw) (fun _ _ q=>q.unwish) fun _ _ z=>False.elim z
end
section
variable {X:Cx} {st:Stmt} {rest:List Stmt} {t u:TS} {e:Expr} {te:TE} {pos:Pos}
noncomputable def tNext:TS:=fun D σ H=>D.nx σ H
noncomputable def tSeq (t u:TS):TS:=fun D σ H=>t { D with nx:=u D } σ H
theorem pss_nil:PSs X [] tNext:=fun _ _ σ H _ I h=>wpAny_execs_nil ⟨σ,H,I,h⟩
theorem pss_cons (h1:PS X st t) (h2:PSs X rest u):PSs X (st::rest) (tSeq t u):=by
 intro pins s σ H D I h
 refine wpAny_execs_cons (thn (h1 pins s σ H { D with nx:=u D } I h) fun f s1 q=>?_)
 cases f with
 | next =>
  obtain ⟨σ',H',I',q⟩:=q
  exact h2 pins s1 σ' H' D I' q
 | ret v=>exact q
 | brk=>exact q
 | cont=>exact q
theorem pss_one (h1:PS X st t):PSs X [st] t:=by
 intro pins s σ H D I h
 refine wpAny_execs_cons (thn (h1 pins s σ H D I h) fun f s1 q=>?_)
 cases f with
 | next=>exact wpAny_execs_nil q
 | ret v=>exact q
 | brk=>exact q
 | cont=>exact q
theorem Inv.quiet {pins:List (Addr × Obj)} {σ:St} {H:Hp} {s:Shared} (I:Inv X pins σ H s):interactive X.env=false:=by simp [interactive,I.ok.kind]
noncomputable def tDrop (te:TE):TS:=fun D σ H=>te σ H fun _ H1=>D.nx σ H1
theorem ps_expr (he:PE X e te) (hs:swapsWith e none pos.line X.env=pure false:=by rfl):PS X (.Expr e pos) (tDrop te):=by
 intro pins s σ H D I h
 exact wpAny_Expr_any (thn (he pins s σ H _ I h) fun v s1 hsl11=>by obtain ⟨x,H1,I1,r1,q1⟩:=hsl11;exact ⟨σ,H1,I1,q1⟩) I.quiet hs
noncomputable def tRet (te:TE):TS:=fun D σ H=>te σ H D.rt
theorem ps_ret (he:PE X e te):PS X (.Return (some e) pos) (tRet te):=by
 intro pins s σ H D I h
 exact wpAny_Return_some (thn (he pins s σ H _ I h) fun v s1 hsl12=>by obtain ⟨x,H1,I1,r1,q1⟩:=hsl12;exact ⟨x,σ,H1,I1,r1,q1⟩)
noncomputable def tIfS (c:TT) (t u:TS):TS:=fun D σ H=>c σ H fun b H1=>if b=true then t D σ H1 else u D σ H1
theorem ps_if {c:Expr} {a b:List Stmt} {tc:TT} (hc:PT X c tc) (ha:PSs X a t) (hb:PSs X b u):PS X (.If c a b pos) (tIfS tc t u):=by
 intro pins s σ H D I h
 refine wpAny_If (thn (hc pins s σ H _ I h) fun d s1 hsl13=>?_)
 obtain ⟨H1,I1,q1⟩:=hsl13
 cases d with
 | true=>exact ha pins s1 σ H1 D I1 q1
 | false=>exact hb pins s1 σ H1 D I1 q1
noncomputable def tNever:TS:=fun _ _ _=>False
theorem pss_never {sts:List Stmt}:PSs X sts tNever:=fun _ _ _ _ _ _ h=>h.elim
end
noncomputable abbrev TG:=V->St->Hp->(St->Hp->Prop)->Prop
noncomputable abbrev TGs:=List V->St->Hp->(St->Hp->Prop)->Prop
noncomputable def PG (X:Cx) (target:Expr) (t:TG):Prop :=
 ∀ (pins:List (Addr × Obj)) (s:Shared) (σ:St) (H:Hp) (v:V) (u:Value) (Q:St->Hp->Prop),Inv X pins σ H s->RelV v u->t v σ H Q ->
  wpAny (model X.prog X.w) X.A (assign target X.env u) (fun _ s'=>∃ σ' H',Inv X pins σ' H' s'/\Q σ' H') X.xe s
noncomputable def PGs (X:Cx) (ts:List Expr) (t:TGs):Prop :=
 ∀ (pins:List (Addr × Obj)) (s:Shared) (σ:St) (H:Hp) (vs:List V) (us:List Value) (Q:St->Hp->Prop),Inv X pins σ H s->Vals vs us->t vs σ H Q ->
  wpAny (model X.prog X.w) X.A (assignInOrder ((assignEach ts X.env).map (·.2)) us) (fun _ s'=>∃ σ' H',Inv X pins σ' H' s'/\Q σ' H') X.xe s
section
variable {X:Cx} {pos:Pos}
noncomputable def gName (i:Nat):TG:=fun v σ H Q=>Q (σ.set i (some v)) H
theorem pg_name {i:Nat} {x:Str} (hN:X.N.Nodup) (hi:X.N[i]?=some x) (hx:Loc X.env.scope x) (hf:X.fn x=true∨X.env.scope.names.lookup x=some .local:=by first | exact .inl rfl | exact .inr rfl | assumption):PG X (.Name x pos) (gName i):=by
 intro pins s σ H v u Q I r h
 exact wpAny_assign_Name (store_ok I hN hi hx r (fun s' I'=>⟨_,H,I',h⟩) hf)
noncomputable def gNil:TGs:=fun vs σ H Q=>vs=[]/\Q σ H
noncomputable def gCons (t:TG) (u:TGs):TGs:=fun vs σ H Q=>∃ v r,vs=v::r/\t v σ H fun σ' H'=>u r σ' H' Q
theorem pgs_nil:PGs X [] gNil:=by
 intro pins s σ H vs us Q I r h
 obtain ⟨e,h⟩:=h
 subst e
 cases r
 exact assignInOrder_nil ⟨σ,H,I,h⟩
theorem pgs_cons {e:Expr} {es:List Expr} {t:TG} {u:TGs} (h1:PG X e t) (h2:PGs X es u)
  (hs:(assignEach (e::es) X.env).map (·.2)=assign e X.env::(assignEach es X.env).map (·.2):=by rfl):PGs X (e::es) (gCons t u):=by
 intro pins s σ H vs us Q I r h
 obtain ⟨v,vr,e1,h⟩:=h
 subst e1
 cases r with
 | cons r rr =>
  rw [hs]
  refine assignInOrder_cons (thn (h1 pins s σ H _ _ _ I r h) fun _ s1 hsl14=>?_)
  obtain ⟨σ1,H1,I1,q1⟩:=hsl14
  exact h2 pins s1 σ1 H1 _ _ Q I1 rr q1
noncomputable def gTup (K:PySem.W.Frag) (n:Nat) (t:TGs):TG:=fun v σ H Q=>∃ a xs,v=.ref a/\SqT K H a xs/\xs.length=n/\t xs σ H Q
theorem pg_tup {es:List Expr} {k:Nat} {t:TGs} {n:Nat} (hc:X.calm=true) (h:PGs X es t)
  (hn:(assignEach es X.env).length=n:=by rfl) (hst:(assignEach es X.env).findIdx? (·.1)=none:=by rfl):PG X (.Tuple es k pos) (gTup X.K n t):=by
 intro pins s σ H v u Q I r hw
 obtain ⟨a,xs,e1,hq,hl,hw⟩:=hw
 subst e1
 cases r
 obtain ⟨its,rv,ht,hz⟩:=I.tuple hq
 refine assign_Tuple_tuple (I.ok.hd hc) ht (by simp [hn,<- hl,rv.length]) hst fun h' hx=>?_
 have I1:Inv X pins σ H { s with heap:=h' }:=I.kept (t':=s.toks) fun b o e=>hx b o (Nat.ne_of_lt (Heap.lt_size e)) e
 exact h pins _ σ H xs _ Q I1 (by simpa using rv) hw
noncomputable def tAsg (te:TE) (g:TG):TS:=fun D σ H=>te σ H fun x H1=>g x σ H1 D.nx
theorem ps_asg {tg e:Expr} {te:TE} {g:TG} (he:PE X e te) (hg:PG X tg g) (hs:swapsWithSole [tg] e pos.line X.env=pure false:=by rfl) (hw:swappedStores [tg] e X.env=pure none:=by rfl)
  (h1:(assignEach [tg] X.env).map (·.2)=[assign tg X.env]:=by rfl):PS X (.Assign [tg] e pos) (tAsg te g):=by
 intro pins s σ H D I h
 refine wpAny_Assign_stores (thn (he pins s σ H _ I h) fun v s1 hsl15=>?_) hs hw
 obtain ⟨x,H1,I1,r1,q1⟩:=hsl15
 rw [h1]
 exact thn (hg pins s1 σ H1 x v _ I1 r1 q1) fun _ s2 q=>q
theorem ps_set {i:Nat} {x:Str} {e:Expr} {te:TE} {pos':Pos} (hN:X.N.Nodup) (hi:X.N[i]?=some x) (hx:Loc X.env.scope x) (he:PE X e te) (hs:swapsWith e (some (.Name x pos')) pos.line X.env=pure false:=by rfl) (hf:X.fn x=true∨X.env.scope.names.lookup x=some .local:=by first | exact .inl rfl | exact .inr rfl | assumption) :
  PS X (.Assign [.Name x pos'] e pos) (tAsg te (gName i)):=by
 intro pins s σ H D I h
 refine wpAny_Assign_Name (thn (he pins s σ H _ I h) fun v s1 hsl16=>?_) hs
 obtain ⟨y,H1,I1,r1,q1⟩:=hsl16
 exact store_ok I1 hN hi hx r1 (fun s2 I2=>⟨_,H1,I2,q1⟩) hf
end
section
variable {X:Cx} {pos:Pos}
noncomputable def tWhile (c:TT) (tb:TS):TS:=fun D σ H=>∃ W:Nat->St->Hp->Prop,(∃ m,W m σ H)/\∀ m σ H,W m σ H ->
 c σ H fun b H1=>if b=true then ∃ N:St->Hp->Prop,(∀ σ' H',N σ' H'->∃ m',m'<m/\W m' σ' H')/\tb { D with nx:=N,ct:=N,bk:=D.nx } σ H1 else D.nx σ H1
theorem ps_while {c:Expr} {body:List Stmt} {tc:TT} {tb:TS} (hp:PassesOwn (model X.prog X.w) X.A X.env X.xe) (hc:PT X c tc) (hb:PSs X body tb):PS X (.While c body [] pos) (tWhile tc tb):=by
 intro pins s σ H D I h
 obtain ⟨W,⟨m0,w0⟩,turn⟩:=h
 refine wpAny_While (codeAny_whileLoop (fun n s'=>∃ σ' H',Inv X pins σ' H' s'/\W n σ' H') ?_ m0 ⟨σ,H,I,w0⟩)
 rintro n s1 ⟨σ1,H1,I1,w1⟩
 refine wpAny_passesOwn hp (thn (hc pins s1 σ1 H1 _ I1 (turn n σ1 H1 w1)) fun b s2 hsl17=>?_)
 obtain ⟨H2,I2,q2⟩:=hsl17
 cases b with
 | true =>
  obtain ⟨N,hN,q2⟩:=q2
  rw [if_pos rfl]
  refine wpAny_passesOwn hp (thn (hb pins s2 σ1 H2 _ I2 q2) fun f s3 q3=>?_)
  cases f with
  | next =>
   obtain ⟨σ3,H3,I3,n3⟩:=q3
   obtain ⟨m',hm,w3⟩:=hN σ3 H3 n3
   exact ⟨m',hm,σ3,H3,I3,w3⟩
  | cont =>
   obtain ⟨σ3,H3,I3,n3⟩:=q3
   obtain ⟨m',hm,w3⟩:=hN σ3 H3 n3
   exact ⟨m',hm,σ3,H3,I3,w3⟩
  | brk=>exact q3
  | ret v=>exact q3
 | false =>
  rw [if_neg Bool.false_ne_true]
  exact wpAny_execs_nil ⟨σ1,H2,I2,q2⟩
end
structure It where
 go:Nat->Hp->Prop
 yld:Nat->Hp->V->Hp->Prop
 stop:Nat->Hp->Prop
noncomputable def FpOk (X:Cx) (pins:List (Addr × Obj)) (H:Hp) (b:Addr):Prop :=
 H b=none/\b≠X.env.locals/\b∉X.fs/\(b∈X.ex∨X.s₀.heap.objs.size<=b)/\(∀ x c,X.env.cells.lookup x=some c->c≠b)/\∀ p∈X.pn++pins,p.1≠b
theorem Inv.fpOk {X:Cx} {pins:List (Addr × Obj)} {σ:St} {H H':Hp} {s:Shared} {b:Addr} (I:Inv X pins σ H s) (hb:s.heap.objs.size<=b) (hn:H' b=none):FpOk X pins H' b:=by
 refine ⟨hn,Nat.ne_of_gt (Nat.lt_of_lt_of_le I.lt hb),I.nofs hb,.inr (Nat.le_trans I.sz hb),fun x c e z=>?_,fun p hp z=>?_⟩
 ·obtain ⟨v,q⟩:=I.cell x c e
  exact absurd (Nat.lt_of_lt_of_le q.lt (by rw [z];exact hb)) (Nat.lt_irrefl _)
 ·exact absurd (Nat.lt_of_lt_of_le (Heap.lt_size (I.pin p hp).1) (by rw [z];exact hb)) (Nat.lt_irrefl _)
structure Turn (P:Program) (w:World) (K:PySem.W.Frag) (tg:Expr) (J:It) (fp:List Addr) (it:Addr) (tn:Nat->Heap->Prop):Prop where
 mem:it∈fp
 obj:∀ i h,tn i h->∀ b∈fp,∃ o,h.get? b=some o/\∀ v,o.data≠.cell v
 keep:∀ i h h',tn i h->(∀ b∈fp,∀ o,h.get? b=some o->h'.get? b=some o)->tn i h'
 item:∀ (X:Cx),X.prog=P->X.w=w->X.K=K->X.calm=true->∀ (i:Nat) (pins:List (Addr × Obj)) (s:Shared) (σ:St) (H:Hp) (E:Value->Shared->Prop),Inv X pins σ H s->(∀ b∈fp,FpOk X pins H b)->tn i s.heap->J.go i H ->
  wpAny (model P w) X.A (pyNext (.ref it)) (fun r s1=>∃ u,r=some u /\
   wpAny (model P w) X.A (letOwnedTupleGo tg (.ref it) u) (fun _ s2=>∃ x H',Inv X pins σ H' s2/\RelV x u/\J.yld i H x H'/\tn (i+1) s2.heap/\∀ b∈fp,H' b=none) E s1) E s
 done:∀ (X:Cx),X.prog=P->X.w=w->X.K=K->X.calm=true->∀ (i:Nat) (pins:List (Addr × Obj)) (s:Shared) (σ:St) (H:Hp) (E:Value->Shared->Prop),Inv X pins σ H s->(∀ b∈fp,FpOk X pins H b)->tn i s.heap->J.stop i H ->
  wpAny (model P w) X.A (pyNext (.ref it)) (fun r s1=>r=none/\Inv X pins σ H s1) E s
 self:∀ (A:Around) (i:Nat) (s:Shared) (Q:Value->Shared->Prop) (E:Value->Shared->Prop),tn i s.heap->Q (.ref it) s->wpAny (model P w) A (pyIter (.ref it)) Q E s
noncomputable abbrev TI:=St->Hp->(It->Hp->Prop)->Prop
noncomputable def PIE (X:Cx) (pins:List (Addr × Obj)) (σ:St) (tg:Expr) (R:It->Hp->Prop) (itv:Value) (s2:Shared):Prop :=
 ∃ (it:Addr) (fp:List Addr) (tn:Nat->Heap->Prop) (J:It) (H':Hp),itv=.ref it/\Inv X pins σ H' s2/\Turn X.prog X.w X.K tg J fp it tn/\tn 0 s2.heap/\(∀ b∈fp,FpOk X pins H' b)/\R J H'
noncomputable def PI (X:Cx) (tg iter:Expr) (wi:TI):Prop :=
 ∀ (pins:List (Addr × Obj)) (s:Shared) (σ:St) (H:Hp) (R:It->Hp->Prop),Inv X pins σ H s->wi σ H R ->
  wpAny (model X.prog X.w) X.A (eval iter X.env) (fun v s1=>wpAny (model X.prog X.w) X.A (pyIter v) (PIE X pins σ tg R) X.xe s1) X.xe s
theorem go_of {M:Model} {A:Around} {E:Value->Shared->Prop} {s:Shared} {tg:Expr} {it:Addr} {u:Value} {o:Obj} {n:String} {vs:Array Value} {Q:Unit->Shared->Prop} (ho:s.heap.get? it=some o) (hc:o.cls=.type n) (hd:o.data=.fields vs)
  (hn:["enumerate","zip","dict_itemiterator","dict_reverseitemiterator","odict_iterator","itertools.zip_longest","itertools.pairwise"].contains n=false) (hQ:Q () s):wpAny M A (letOwnedTupleGo tg (.ref it) u) Q E s:=by
 unfold letOwnedTupleGo
 cases tg<;>first
  | exact wpAny_pure hQ
  | (cases u<;>first
    | exact wpAny_pure hQ
    | (refine wpAny_bind (wpAny_load ho ?_)
       rw [hc,hd]
       show wpAny M A (if (["enumerate","zip","dict_itemiterator","dict_reverseitemiterator","odict_iterator","itertools.zip_longest","itertools.pairwise"].contains n&&vs[0]? == some (rawInt _))=true then _ else _) Q E s
       rw [if_neg (by intro h;rw [hn,Bool.false_and] at h;cases h)]
       exact wpAny_pure hQ))
noncomputable def Itl (K:PySem.W.Frag) (a:Addr):It :=
 ⟨fun i H=>∃ xs x,SqL K H a xs/\xs[i]?=some x,fun i H x H'=>H'=H/\∀ xs,SqL K H a xs->xs[i]?=some x,fun i H=>∃ xs,SqL K H a xs/\xs.length<=i⟩
noncomputable def Itt (K:PySem.W.Frag) (a:Addr):It :=
 ⟨fun i H=>∃ xs x,SqT K H a xs/\xs[i]?=some x,fun i H x H'=>H'=H/\∀ xs,SqT K H a xs->xs[i]?=some x,fun i H=>∃ xs,SqT K H a xs/\xs.length<=i⟩
noncomputable def Itr (lo:Int) (n:Nat):It:=⟨fun i _=>i<n,fun i H x H'=>H'=H/\x=.int (lo+i),fun i _=>n<=i⟩
theorem turn_list {P:Program} {w:World} {K:PySem.W.Frag} {tg:Expr} (a it:Addr):Turn P w K tg (Itl K a) [it] it (fun i h=>h.IsListIter it a i) where
 mem:=by simp
 obj:=fun i h st b hb=>by
  have e:b=it:=by simpa using hb
  subst e
  obtain ⟨o,e,c,d⟩:=st
  exact ⟨o,e,fun v z=>by rw [d] at z;cases z⟩
 keep:=fun i h h' st k=>st.at fun o e=>k it (by simp) o e
 item:=by
  intro X hP hw hK hc i pins s σ H E I hf st hg
  subst hP hw hK
  obtain ⟨xs,x,hq,hx⟩:=hg
  obtain ⟨its,rv,p,hz⟩:=I.list hq
  obtain ⟨u,hu,ru⟩:=rv.get hx
  obtain ⟨f0,f1,f2,f3,f4,f5⟩:=hf it (by simp)
  refine wpAny_pyNext_list_item st p.isList (x:=u) (by simpa using hu) fun h' st' sb=>?_
  have I1:Inv X pins σ H { s with heap:=h' }:=I.turned (t':=s.toks) (fun b o hb e=>(sb.2 b hb).trans e) f0 f1 f3 f4 f5
  obtain ⟨o,e,c,d⟩:=id st'
  exact ⟨u,rfl,go_of (s:={ s with heap:=h' }) e c d (by decide) ⟨x,H,I1,ru,⟨rfl,fun ys hy=>by rw [I.list_inj hy hq];exact hx⟩,st',fun b hb=>(hf b hb).1⟩⟩
 done:=by
  intro X hP hw hK hc i pins s σ H E I hf st hg
  subst hP hw hK
  obtain ⟨xs,hq,hx⟩:=hg
  obtain ⟨its,rv,p,hz⟩:=I.list hq
  obtain ⟨f0,f1,f2,f3,f4,f5⟩:=hf it (by simp)
  have hl:=rv.length
  exact wpAny_pyNext_list_end (I.ok.hd hc) st p.isList (by simp;omega) fun h' eb=>⟨rfl,I.turned (t':=s.toks) (fun b o hb e=>eb b o hb e) f0 f1 f3 f4 f5⟩
 self:=fun _ _ _ _ _ st h=>wpAny_pyIter_listiter st h
theorem turn_tuple {P:Program} {w:World} {K:PySem.W.Frag} {tg:Expr} (a it:Addr):Turn P w K tg (Itt K a) [it] it (fun i h=>h.IsTupleIter it a i) where
 mem:=by simp
 obj:=fun i h st b hb=>by
  have e:b=it:=by simpa using hb
  subst e
  obtain ⟨o,e,c,d⟩:=st
  exact ⟨o,e,fun v z=>by rw [d] at z;cases z⟩
 keep:=fun i h h' st k=>st.at fun o e=>k it (by simp) o e
 item:=by
  intro X hP hw hK hc i pins s σ H E I hf st hg
  subst hP hw hK
  obtain ⟨xs,x,hq,hx⟩:=hg
  obtain ⟨its,rv,p,hz⟩:=I.tuple hq
  obtain ⟨u,hu,ru⟩:=rv.get hx
  obtain ⟨f0,f1,f2,f3,f4,f5⟩:=hf it (by simp)
  refine wpAny_pyNext_tuple_item st (show s.heap.IsTuple a its.toArray from p) (x:=u) (by simpa using hu) fun h' st' sb=>?_
  have I1:Inv X pins σ H { s with heap:=h' }:=I.turned (t':=s.toks) (fun b o hb e=>(sb.2 b hb).trans e) f0 f1 f3 f4 f5
  obtain ⟨o,e,c,d⟩:=id st'
  exact ⟨u,rfl,go_of (s:={ s with heap:=h' }) e c d (by decide) ⟨x,H,I1,ru,⟨rfl,fun ys hy=>by rw [I.tuple_inj hy hq];exact hx⟩,st',fun b hb=>(hf b hb).1⟩⟩
 done:=by
  intro X hP hw hK hc i pins s σ H E I hf st hg
  subst hP hw hK
  obtain ⟨xs,hq,hx⟩:=hg
  obtain ⟨its,rv,p,hz⟩:=I.tuple hq
  obtain ⟨f0,f1,f2,f3,f4,f5⟩:=hf it (by simp)
  have hl:=rv.length
  exact wpAny_pyNext_tuple_end (I.ok.hd hc) st (show s.heap.IsTuple a its.toArray from p) (by simp;omega) fun h' eb=>⟨rfl,I.turned (t':=s.toks) (fun b o hb e=>eb b o hb e) f0 f1 f3 f4 f5⟩
 self:=fun _ _ _ _ _ st h=>wpAny_pyIter_tupleiter st h
theorem turn_range {P:Program} {w:World} {K:PySem.W.Frag} {tg:Expr} (it:Addr) (lo:Int) (n:Nat):Turn P w K tg (Itr lo n) [it] it (fun i h=>IsRangeIter h it (lo+(i:Nat)*1) ((n:Int)-(i:Nat)) 1) where
 mem:=by simp
 obj:=fun i h st b hb=>by
  have e:b=it:=by simpa using hb
  subst e
  exact ⟨_,st,fun v z=>by
   have z':Data.fields _=Data.cell v:=z
   cases z'⟩
 keep:=fun i h h' st k=>k it (by simp) _ st
 item:=by
  intro X hP hw hK hc i pins s σ H E I hf st hg
  subst hP hw hK
  obtain ⟨f0,f1,f2,f3,f4,f5⟩:=hf it (by simp)
  have W:=Walks.range (prog:=X.prog) (w:=X.w) (I.ok.hd hc) it lo 1 n
  refine W.item i s _ _ hg st fun v h' tk hv st' kk=>?_
  obtain ⟨t,rfl⟩:=hv
  have I1:Inv X pins σ H { s with heap:=h',toks:=tk }:=I.turned (fun b o hb e=>kk b o (by simpa using hb) e) f0 f1 f3 f4 f5
  refine ⟨_,rfl,go_of (s:={ s with heap:=h',toks:=tk }) (n:="range_iterator") st' rfl rfl (by decide) ⟨.int (lo+i),H,I1,⟨t,?_⟩,⟨rfl,rfl⟩,st',fun b hb=>(hf b hb).1⟩⟩
  rw [Int.mul_one]
 done:=by
  intro X hP hw hK hc i pins s σ H E I hf st hg
  subst hP hw hK
  obtain ⟨f0,f1,f2,f3,f4,f5⟩:=hf it (by simp)
  exact wpAny_pyNext_range_end (I.ok.hd hc) st (by have:n<=i:=hg;omega) fun h' eb=>⟨rfl,I.turned (t':=s.toks) (fun b o hb e=>eb b o hb e) f0 f1 f3 f4 f5⟩
 self:=fun _ _ _ _ _ st h=>wpAny_pyIter_rangeiter st h
end L2
namespace L2
open PySem PySem.Spec PyProof.Rows
section
variable {X:Cx} {tg:Expr}
noncomputable def iList (K:PySem.W.Frag) (tl:TE):TI:=fun σ H R=>tl σ H fun x H1=>∃ a,x=.ref a/\(∃ xs,SqL K H1 a xs)/\R (Itl K a) H1
noncomputable def iTup (K:PySem.W.Frag) (tl:TE):TI:=fun σ H R=>tl σ H fun x H1=>∃ a,x=.ref a/\(∃ xs,SqT K H1 a xs)/\R (Itt K a) H1
theorem pi_list {l:Expr} {tl:TE} (hl:PE X l tl):PI X tg l (iList X.K tl):=by
 intro pins s σ H R I h
 refine thn (hl pins s σ H _ I h) fun v s1 hsl18=>?_
 obtain ⟨x,H1,I1,r1,q1⟩:=hsl18
 obtain ⟨a,e,⟨xs,hq⟩,q⟩:=q1
 subst e
 cases r1
 obtain ⟨its,rv,p,hz⟩:=I1.list hq
 refine wpAny_pyIter_list p.isList ?_
 refine ⟨s1.heap.objs.size,[s1.heap.objs.size],_,_,H1,rfl,I1.kept (t':=s1.toks) fun b o e=>Heap.get?_push_of_some _ e,turn_list a _,⟨_,Heap.get?_push_size _ rfl,rfl,rfl⟩,fun b hb=>?_,q⟩
 have e:b=s1.heap.objs.size:=by simpa using hb
 subst e
 exact I1.fpOk (Nat.le_refl _) (I1.hok.fresh (Nat.le_refl _))
theorem pi_tup {l:Expr} {tl:TE} (hl:PE X l tl):PI X tg l (iTup X.K tl):=by
 intro pins s σ H R I h
 refine thn (hl pins s σ H _ I h) fun v s1 hsl19=>?_
 obtain ⟨x,H1,I1,r1,q1⟩:=hsl19
 obtain ⟨a,e,⟨xs,hq⟩,q⟩:=q1
 subst e
 cases r1
 obtain ⟨its,rv,p,hz⟩:=I1.tuple hq
 refine wpAny_pyIter_tuple (show s1.heap.IsTuple a its.toArray from p) ?_
 refine ⟨s1.heap.objs.size,[s1.heap.objs.size],_,_,H1,rfl,I1.kept (t':=s1.toks) fun b o e=>Heap.get?_push_of_some _ e,turn_tuple a _,⟨_,Heap.get?_push_size _ rfl,rfl,rfl⟩,fun b hb=>?_,q⟩
 have e:b=s1.heap.objs.size:=by simpa using hb
 subst e
 exact I1.fpOk (Nat.le_refl _) (I1.hok.fresh (Nat.le_refl _))
theorem range_it {pins:List (Addr × Obj)} {σ:St} {H:Hp} {s:Shared} {R:It->Hp->Prop} {E:Value->Shared->Prop} {lo hi:Int} {t u v:Tok} {tk:Nat} (I:Inv X pins σ H s) (h1:-(2 ^ 62)<=lo) (h2:lo<2 ^ 62) (h3:-(2 ^ 62)<=hi) (h4:hi<2 ^ 62)
  (q:R (Itr lo (hi-lo).toNat) H):wpAny (model X.prog X.w) X.A (pyIter (.ref s.heap.objs.size)) (PIE X pins σ tg R) E { s with heap:=s.heap.push { cls:=.type "range",data:=.fields #[.int lo t,.int hi u,.int 1 v] },toks:=tk }:=by
 refine wpAny_pyIter_range (IsRange.new ..) (small_one h1 h2 h3 h4) ?_
 have I1:Inv X pins σ H { s with heap:=s.heap.push { cls:=.type "range",data:=.fields #[.int lo t,.int hi u,.int 1 v] },toks:=tk }:=I.kept fun b o e=>Heap.get?_push_of_some _ e
 refine ⟨(s.heap.push { cls:=.type "range",data:=.fields #[.int lo t,.int hi u,.int 1 v] }).objs.size,[(s.heap.push { cls:=.type "range",data:=.fields #[.int lo t,.int hi u,.int 1 v] }).objs.size],_,_,H,rfl,
  I1.kept (t':=tk) fun b o e=>Heap.get?_push_of_some _ e,turn_range _ lo (hi-lo).toNat,?_,fun b hb=>?_,q⟩
 ·have e1:lo+((0:Nat):Int)*1=lo:=by simp
  have e2:(((hi-lo).toNat:Nat):Int)-((0:Nat):Int)=Builtin.Range.rangeSize lo hi 1:=by rw [rangeSize_one];split<;>omega
  show IsRangeIter _ _ (lo+((0:Nat):Int)*1) ((((hi-lo).toNat:Nat):Int)-((0:Nat):Int)) 1
  rw [e1,e2]
  exact Heap.get?_push_size _ rfl
 ·have e:b=(s.heap.push { cls:=.type "range",data:=.fields #[.int lo t,.int hi u,.int 1 v] }).objs.size:=by simpa using hb
  subst e
  exact I1.fpOk (Nat.le_refl _) (I1.hok.fresh (Nat.le_refl _))
noncomputable def iRng1 (ta:TA):TI:=fun σ H R=>ta σ H fun vs H1=>∃ j:Int,vs=[.int j]/\-(2 ^ 62)<=j/\j<2 ^ 62/\R (Itr 0 j.toNat) H1
theorem pi_range1 {a:Expr} {ta:TA} {p pos:Pos} (hg:Gl X "range") (hm:X.mg "range"=none) (ha:PA X [a] ta) (hs:starEach [a] X.env=[(false,eval a X.env)]:=by rfl):PI X tg (.Call (.Name "range" p) [a] [] pos) (iRng1 ta):=by
 intro pins s σ H R I h
 refine Call_ (ld_blt I hg hm boot_range (PyProof.Rows.callWith_type1 (thn (ha pos pins s σ H _ I h) fun us s1 hsl20=>?_) hs rfl))
 obtain ⟨vs,H1,I1,r1,q1⟩:=hsl20
 obtain ⟨j,e,q1,q2,q⟩:=q1
 subst e
 cases r1 with
 | cons r rr =>
  cases rr
  obtain ⟨t,rfl⟩:=r
  exact call_range_1 (range_it I1 (by omega) (by omega) q1 q2 (by simpa using q))
noncomputable def tFor (wi:TI) (g:TG) (tb:TS):TS:=fun D σ H=>wi σ H fun J H1=>∃ W:Nat->Nat->St->Hp->Prop,(∃ m,W 0 m σ H1)/\∀ i m σ H,W i m σ H ->
 (J.stop i H/\D.nx σ H)∨(J.go i H/\∃ N:St->Hp->Prop,(∀ σ' H',N σ' H'->∃ m',m'<m/\W (i+1) m' σ' H')/\∀ x H',J.yld i H x H'->g x σ H' fun σ2 H2=>tb { D with nx:=N,ct:=N,bk:=D.nx } σ2 H2)
noncomputable def pinsAt (fp:List Addr) (h:Heap):List (Addr × Obj):=fp.filterMap fun b=>(h.get? b).map fun o=>(b,o)
theorem mem_pinsAt {fp:List Addr} {h:Heap} {b:Addr} {o:Obj} (hb:b∈fp) (e:h.get? b=some o):(b,o)∈pinsAt fp h:=List.mem_filterMap.mpr ⟨b,hb,by rw [e];rfl⟩
theorem of_pinsAt {fp:List Addr} {h:Heap} {p:Addr × Obj} (hp:p∈pinsAt fp h):p.1∈fp/\h.get? p.1=some p.2:=by
 obtain ⟨b,hb,e⟩:=List.mem_filterMap.mp hp
 cases q:h.get? b with
 | none=>rw [q] at e;cases e
 | some o =>
  rw [q] at e
  have e':(b,o)=p:=Option.some.inj e
  subst e'
  exact ⟨hb,q⟩
theorem Inv.pinned {pins:List (Addr × Obj)} {σ:St} {H:Hp} {s:Shared} {fp:List Addr} (I:Inv X pins σ H s) (hf:∀ b∈fp,FpOk X pins H b) (ho:∀ b∈fp,∃ o,s.heap.get? b=some o/\∀ v,o.data≠.cell v):Inv X (pins++pinsAt fp s.heap) σ H s :=
 I.pins_of fun p hp=>(List.mem_append.mp hp).elim (fun z=>I.pin p (List.mem_append_right _ z)) fun z=>by
  obtain ⟨hb,e⟩:=of_pinsAt z
  obtain ⟨f0,f1,f2,_⟩:=hf p.1 hb
  obtain ⟨o,e',d⟩:=ho p.1 hb
  rw [e] at e';cases e'
  exact ⟨e,f0,f1,f2,d⟩
theorem Inv.unpinned {pins pl:List (Addr × Obj)} {σ:St} {H:Hp} {s:Shared} (I:Inv X (pins++pl) σ H s):Inv X pins σ H s:=I.pins_of fun p hp=>I.pin p (List.mem_append_right _ (List.mem_append_left _ hp))
theorem ps_for {iter:Expr} {body:List Stmt} {wi:TI} {g:TG} {tb:TS} {pos:Pos} (hp:PassesOwn (model X.prog X.w) X.A X.env X.xe) (hc:X.calm=true) (hi:PI X tg iter wi) (hg:PG X tg g) (hb:PSs X body tb)
  (hs:∀ x,foldedSetIterable iter X.env x=pure x:=by intro _;rfl):PS X (.For tg iter body [] pos) (tFor wi g tb):=by
 intro pins s σ H D I h
 refine wpAny_For (thn (hi pins s σ H _ I h) fun v s1 h1=>thn h1 fun itv s2 h2=>?_) hs
 obtain ⟨it,fp,tn,J,H2,e,I2,T,st2,f2,W,⟨m0,w0⟩,turn⟩:=h2
 subst e
 have stat:∀ {H':Hp},(∀ b∈fp,H' b=none)->∀ b∈fp,FpOk X pins H' b:=fun hn b hb=>⟨hn b hb,(f2 b hb).2⟩
 refine codeAny_forLoop_any (fun n s'=>∃ i σ' H',Inv X pins σ' H' s'/\tn i s'.heap/\(∀ b∈fp,H' b=none)/\W i n σ' H') ?_ m0 ⟨0,σ,H2,I2,st2,fun b hb=>(f2 b hb).1,w0⟩
 rintro n s3 ⟨i,σ3,H3,I3,st3,fr3,w3⟩
 rcases turn i n σ3 H3 w3 with ⟨stop,qn⟩ | ⟨go,N,hN,step⟩
 ·refine wpAny_passesOwn hp (thn (T.done X rfl rfl rfl hc i pins s3 σ3 H3 X.xe I3 (stat fr3) st3 stop) fun r s4 hsl21=>?_)
  obtain ⟨hr,I4⟩:=hsl21
  subst hr
  exact wpAny_execs_nil ⟨σ3,H3,I4,qn⟩
 ·refine wpAny_passesOwn hp (thn (T.item X rfl rfl rfl hc i pins s3 σ3 H3 X.xe I3 (stat fr3) st3 go) fun r s4 hsl22=>?_)
  obtain ⟨u,hr,h4⟩:=hsl22
  subst hr
  refine wpAny_passesOwn hp (thn h4 fun _ s5 hsl23=>?_)
  obtain ⟨x,H5,I5,r5,y5,st5,fr5⟩:=hsl23
  have I5':=I5.pinned (stat fr5) (T.obj _ _ st5)
  refine wpAny_passesOwn hp (thn (hg _ s5 σ3 H5 x u _ I5' r5 (step x H5 y5)) fun _ s6 hsl24=>?_)
  obtain ⟨σ6,H6,I6,q6⟩:=hsl24
  refine wpAny_passesOwn hp (thn (hb _ s6 σ6 H6 _ I6 q6) fun f s7 q7=>?_)
  have again:∀ {σ7:St} {H7:Hp},Inv X (pins++pinsAt fp s5.heap) σ7 H7 s7->N σ7 H7->∃ m,m<n/\∃ i σ' H',Inv X pins σ' H' s7/\tn i s7.heap/\(∀ b∈fp,H' b=none)/\W i m σ' H':=fun {σ7 H7} I7 n7=>by
   obtain ⟨m',hm,w7⟩:=hN σ7 H7 n7
   refine ⟨m',hm,i+1,σ7,H7,I7.unpinned,T.keep _ _ _ st5 fun b hb o e=>(I7.pin (b,o) (List.mem_append_right _ (List.mem_append_right _ (mem_pinsAt hb e)))).1,fun b hb=>?_,w7⟩
   obtain ⟨o,e,d⟩:=T.obj _ _ st5 b hb
   exact (I7.pin (b,o) (List.mem_append_right _ (List.mem_append_right _ (mem_pinsAt hb e)))).2.1
  cases f with
  | next=>obtain ⟨σ7,H7,I7,n7⟩:=q7;exact again I7 n7
  | cont=>obtain ⟨σ7,H7,I7,n7⟩:=q7;exact again I7 n7
  | brk=>obtain ⟨σ7,H7,I7,q7⟩:=q7;exact ⟨σ7,H7,I7.unpinned,q7⟩
  | ret v=>obtain ⟨x7,σ7,H7,I7,r7,q7⟩:=q7;exact ⟨x7,σ7,H7,I7.unpinned,r7,q7⟩
end
theorem for_list {K:PySem.W.Frag} {a:Addr} {xs:List V} {g:TG} {tb:TS} {D:Ends} {σ:St} {H:Hp} (Pv:Nat->St->Hp->Prop) (h0:Pv 0 σ H) (hl:∀ i σ H,i<=xs.length->Pv i σ H->SqL K H a xs)
  (hs:∀ i x σ H,xs[i]?=some x->Pv i σ H->g x σ H fun σ2 H2=>tb { D with nx:=Pv (i+1),ct:=Pv (i+1),bk:=D.nx } σ2 H2) (hd:∀ σ H,Pv xs.length σ H->D.nx σ H) :
  ∃ W:Nat->Nat->St->Hp->Prop,(∃ m,W 0 m σ H)/\∀ i m σ H,W i m σ H ->
   ((Itl K a).stop i H/\D.nx σ H)∨((Itl K a).go i H/\∃ N:St->Hp->Prop,(∀ σ' H',N σ' H'->∃ m',m'<m/\W (i+1) m' σ' H')/\∀ x H',(Itl K a).yld i H x H'->g x σ H' fun σ2 H2=>tb { D with nx:=N,ct:=N,bk:=D.nx } σ2 H2):=by
 refine ⟨fun i m σ H=>m=xs.length-i/\i<=xs.length/\Pv i σ H,⟨xs.length,by simp,Nat.zero_le _,h0⟩,?_⟩
 rintro i m σ H ⟨rfl,hi,p⟩
 have q:=hl i σ H hi p
 by_cases hlt:i<xs.length
 ·refine .inr ⟨⟨xs,xs[i],q,by simp [hlt]⟩,Pv (i+1),fun σ' H' p'=>⟨xs.length-(i+1),by omega,rfl,hlt,p'⟩,fun x H' y=>?_⟩
  obtain ⟨e,y⟩:=y
  subst e
  exact hs i x σ _ (y xs q) p
 ·have e:i=xs.length:=by omega
  subst e
  exact .inl ⟨⟨xs,q,Nat.le_refl _⟩,hd σ H p⟩
theorem for_tup {K:PySem.W.Frag} {a:Addr} {xs:List V} {g:TG} {tb:TS} {D:Ends} {σ:St} {H:Hp} (Pv:Nat->St->Hp->Prop) (h0:Pv 0 σ H) (hl:∀ i σ H,i<=xs.length->Pv i σ H->SqT K H a xs)
  (hs:∀ i x σ H,xs[i]?=some x->Pv i σ H->g x σ H fun σ2 H2=>tb { D with nx:=Pv (i+1),ct:=Pv (i+1),bk:=D.nx } σ2 H2) (hd:∀ σ H,Pv xs.length σ H->D.nx σ H) :
  ∃ W:Nat->Nat->St->Hp->Prop,(∃ m,W 0 m σ H)/\∀ i m σ H,W i m σ H ->
   ((Itt K a).stop i H/\D.nx σ H)∨((Itt K a).go i H/\∃ N:St->Hp->Prop,(∀ σ' H',N σ' H'->∃ m',m'<m/\W (i+1) m' σ' H')/\∀ x H',(Itt K a).yld i H x H'->g x σ H' fun σ2 H2=>tb { D with nx:=N,ct:=N,bk:=D.nx } σ2 H2):=by
 refine ⟨fun i m σ H=>m=xs.length-i/\i<=xs.length/\Pv i σ H,⟨xs.length,by simp,Nat.zero_le _,h0⟩,?_⟩
 rintro i m σ H ⟨rfl,hi,p⟩
 have q:=hl i σ H hi p
 by_cases hlt:i<xs.length
 ·refine .inr ⟨⟨xs,xs[i],q,by simp [hlt]⟩,Pv (i+1),fun σ' H' p'=>⟨xs.length-(i+1),by omega,rfl,hlt,p'⟩,fun x H' y=>?_⟩
  obtain ⟨e,y⟩:=y
  subst e
  exact hs i x σ _ (y xs q) p
 ·have e:i=xs.length:=by omega
  subst e
  exact .inl ⟨⟨xs,q,Nat.le_refl _⟩,hd σ H p⟩
theorem for_range {lo:Int} {n:Nat} {g:TG} {tb:TS} {D:Ends} {σ:St} {H:Hp} (Pv:Nat->St->Hp->Prop) (h0:Pv 0 σ H)
  (hs:∀ i σ H,i<n->Pv i σ H->g (.int (lo+i)) σ H fun σ2 H2=>tb { D with nx:=Pv (i+1),ct:=Pv (i+1),bk:=D.nx } σ2 H2) (hd:∀ σ H,Pv n σ H->D.nx σ H) :
  ∃ W:Nat->Nat->St->Hp->Prop,(∃ m,W 0 m σ H)/\∀ i m σ H,W i m σ H ->
   ((Itr lo n).stop i H/\D.nx σ H)∨((Itr lo n).go i H/\∃ N:St->Hp->Prop,(∀ σ' H',N σ' H'->∃ m',m'<m/\W (i+1) m' σ' H')/\∀ x H',(Itr lo n).yld i H x H'->g x σ H' fun σ2 H2=>tb { D with nx:=N,ct:=N,bk:=D.nx } σ2 H2):=by
 refine ⟨fun i m σ H=>m=n-i/\i<=n/\Pv i σ H,⟨n,by simp,Nat.zero_le _,h0⟩,?_⟩
 rintro i m σ H ⟨rfl,hi,p⟩
 by_cases hlt:i<n
 ·refine .inr ⟨hlt,Pv (i+1),fun σ' H' p'=>⟨n-(i+1),by omega,rfl,hlt,p'⟩,fun x H' y=>?_⟩
  obtain ⟨e,y⟩:=y
  subst e y
  exact hs i σ _ hlt p
 ·have e:i=n:=by omega
  subst e
  exact .inl ⟨Nat.le_refl _,hd σ H p⟩
end L2
namespace L2
open PySem PySem.Spec PyProof.Rows
noncomputable abbrev R2:=V->V->Hp->VK->Prop
noncomputable def OpR (X:Cx) (f:Value->Value->Sem Value) (r:R2):Prop :=
 ∀ (pins:List (Addr × Obj)) (s:Shared) (σ:St) (H:Hp) (x y:V) (v u:Value) (Q:VK),Inv X pins σ H s->RelV x v->RelV y u->r x y H Q ->
  wpAny (model X.prog X.w) X.A (f v u) (EP X pins σ Q) X.xe s
noncomputable def UnR (X:Cx) (f:Value->Sem Value) (r:V->Hp->VK->Prop):Prop :=
 ∀ (pins:List (Addr × Obj)) (s:Shared) (σ:St) (H:Hp) (x:V) (v:Value) (Q:VK),Inv X pins σ H s->RelV x v->r x H Q ->
  wpAny (model X.prog X.w) X.A (f v) (EP X pins σ Q) X.xe s
noncomputable def CallR (X:Cx) (f:Value) (r:List V->Hp->VK->Prop):Prop :=
 ∀ (pins:List (Addr × Obj)) (s:Shared) (σ:St) (H:Hp) (xs:List V) (us:List Value) (Q:VK),Inv X pins σ H s->Vals xs us->r xs H Q ->
  wpAny (model X.prog X.w) X.A (call f us) (EP X pins σ Q) X.xe s
noncomputable def tOp (r:R2) (ta tb:TE):TE:=fun σ H Q=>ta σ H fun x H1=>tb σ H1 fun y H2=>r x y H2 Q
noncomputable def tUn (r:V->Hp->VK->Prop) (ta:TE):TE:=fun σ H Q=>ta σ H fun x H1=>r x H1 Q
noncomputable def rI (C:Int->Int->Prop) (g:Int->Int->V):R2:=fun x y H Q=>∃ i j,x=.int i/\y=.int j/\C i j/\Q (g i j) H
noncomputable def rI0 (g:Int->Int->V):R2:=fun x y H Q=>∃ i j,x=.int i/\y=.int j/\Q (g i j) H
noncomputable def rU (g:Int->V):V->Hp->VK->Prop:=fun x H Q=>∃ i,x=.int i/\Q (g i) H
section
variable {X:Cx} {a b c:Expr} {ta tb tc:TE} {pos:Pos}
theorem binT (ha:PE X a ta) (hb:PE X b tb) {pins:List (Addr × Obj)} {s:Shared} {σ:St} {H:Hp} {R:V->V->Hp->Prop} (I:Inv X pins σ H s)
  (h:ta σ H fun x H1=>tb σ H1 fun y H2=>R x y H2) {Q:Value->Shared->Prop} {f:Value->Value->Sem Value}
  (hf:∀ v u s2 x y H2,Inv X pins σ H2 s2->RelV x v->RelV y u->R x y H2->wpAny (model X.prog X.w) X.A (f v u) Q X.xe s2) :
  wpAny (model X.prog X.w) X.A (eval a X.env) (fun v s₁=>wpAny (model X.prog X.w) X.A (eval b X.env) (fun u s₂=>wpAny (model X.prog X.w) X.A (f v u) Q X.xe s₂) X.xe s₁) X.xe s:=by
 refine thn (ha pins s σ H _ I h) fun v s1 hsl25=>?_
 obtain ⟨x,H1,I1,r1,q1⟩:=hsl25
 refine thn (hb pins s1 σ H1 _ I1 q1) fun u s2 hsl26=>?_
 obtain ⟨y,H2,I2,r2,q2⟩:=hsl26
 exact hf v u s2 x y H2 I2 r1 r2 q2
theorem pe_op {op:Operator} {r:R2} (ho:OpR X (binaryOp op) r) (ha:PE X a ta) (hb:PE X b tb):PE X (.BinOp a op b pos) (tOp r ta tb):=by
 intro pins s σ H Q I h
 exact wpAny_BinOp (binT ha hb I h fun v u s2 x y H2 I2 rx ry q=>ho pins s2 σ H2 x y v u Q I2 rx ry q)
theorem pe_un {op:UnaryOp} {r:V->Hp->VK->Prop} (ho:UnR X (unaryOp op) r) (ha:PE X a ta):PE X (.UnaryOp op a pos) (tUn r ta):=by
 intro pins s σ H Q I h
 exact UnaryOp_ (thn (ha pins s σ H _ I h) fun v s1 hsl27=>by obtain ⟨x,H1,I1,r1,q1⟩:=hsl27;exact ho pins s1 σ H1 x v Q I1 r1 q1)
theorem opI {f:Value->Value->Sem Value} {C:Int->Int->Prop} {g:Int->Int->Int}
  (rule:∀ (i j:Int) (t u:Tok) (s:Shared) (Q:Value->Shared->Prop) (E:Value->Shared->Prop),C i j->Q (.int (g i j) s.toks) { s with toks:=s.toks+1 }->wpAny (model X.prog X.w) X.A (f (.int i t) (.int j u)) Q E s) :
  OpR X f (rI C fun i j=>.int (g i j)):=by
 intro pins s σ H x y v u Q I rx ry h
 obtain ⟨i,j,rfl,rfl,hc,q⟩:=h
 obtain ⟨t,rfl⟩:=rx
 obtain ⟨t',rfl⟩:=ry
 exact rule i j t t' s _ _ hc ⟨.int (g i j),H,I.tok _,⟨_,rfl⟩,q⟩
theorem opI0 {f:Value->Value->Sem Value} {g:Int->Int->Int}
  (rule:∀ (i j:Int) (t u:Tok) (s:Shared) (Q:Value->Shared->Prop) (E:Value->Shared->Prop),Q (.int (g i j) s.toks) { s with toks:=s.toks+1 }->wpAny (model X.prog X.w) X.A (f (.int i t) (.int j u)) Q E s) :
  OpR X f (rI0 fun i j=>.int (g i j)):=by
 intro pins s σ H x y v u Q I rx ry h
 obtain ⟨i,j,rfl,rfl,q⟩:=h
 obtain ⟨t,rfl⟩:=rx
 obtain ⟨t',rfl⟩:=ry
 exact rule i j t t' s _ _ ⟨.int (g i j),H,I.tok _,⟨_,rfl⟩,q⟩
theorem opB0 {f:Value->Value->Sem Value} {g:Int->Int->Bool}
  (rule:∀ (i j:Int) (t u:Tok) (s:Shared) (Q:Value->Shared->Prop) (E:Value->Shared->Prop),Q (.bool (g i j)) s->wpAny (model X.prog X.w) X.A (f (.int i t) (.int j u)) Q E s) :
  OpR X f (rI0 fun i j=>.bl (g i j)):=by
 intro pins s σ H x y v u Q I rx ry h
 obtain ⟨i,j,rfl,rfl,q⟩:=h
 obtain ⟨t,rfl⟩:=rx
 obtain ⟨t',rfl⟩:=ry
 exact rule i j t t' s _ _ ⟨.bl (g i j),H,I,rfl,q⟩
noncomputable def CDiv (i j:Int):Prop:=0<j/\j<1073741824
noncomputable def CPow (i j:Int):Prop:=0<=j/\j<=1000000/\i.natAbs<2 ^ 64
noncomputable def CMul (i j:Int):Prop:=(-(2 ^ 64)<i/\i<2 ^ 64)∨(-(2 ^ 64)<j/\j<2 ^ 64)
theorem CMul.ok {i j:Int} (h:CMul i j):IntMulOk i j:=by
 rcases h with ⟨h1,h2⟩ | ⟨h1,h2⟩
 ·exact .of_left (intBits_le_64 h1 h2)
 ·exact .of_right (intBits_le_64 h1 h2)
theorem op_add:OpR X (binaryOp .Add) (rI0 fun i j=>.int (i+j)):=opI0 fun _ _ _ _ _ _ _ q=>add_int q
theorem op_sub:OpR X (binaryOp .Sub) (rI0 fun i j=>.int (i-j)):=opI0 fun _ _ _ _ _ _ _ q=>sub_int q
theorem op_mul:OpR X (binaryOp .Mult) (rI CMul fun i j=>.int (i*j)):=opI fun _ _ _ _ _ _ _ hc q=>mul_int q hc.ok
theorem op_fdiv:OpR X (binaryOp .FloorDiv) (rI CDiv fun i j=>.int (i / j)):=opI fun i j _ _ _ _ _ hc q=>by
 have h1:(0:Int)<j:=hc.1
 have h2:j<1073741824:=hc.2
 exact floordiv_int (by omega) (by rw [Int.fdiv_eq_ediv_of_nonneg i (by omega)];exact q) (.inl (PyProof.noPylong_small (by omega)))
theorem op_mod:OpR X (binaryOp .Mod) (rI (fun _ j=>0<j) fun i j=>.int (i % j)):=opI fun i j _ _ _ _ _ hc q=>by
 have h1:(0:Int)<j:=hc
 exact mod_int' (by omega) (by rw [Int.fmod_eq_emod_of_nonneg i (by omega)];exact q)
theorem op_pow:OpR X (binaryOp .Pow) (rI CPow fun i j=>.int (i ^ j.toNat)):=opI fun _ _ _ _ _ _ _ hc q=>pow_int_small hc.1 hc.2.1 hc.2.2 q
theorem unI {f:Value->Sem Value} {g:Int->Int}
  (rule:∀ (i:Int) (t:Tok) (s:Shared) (Q:Value->Shared->Prop) (E:Value->Shared->Prop),Q (.int (g i) s.toks) { s with toks:=s.toks+1 }->wpAny (model X.prog X.w) X.A (f (.int i t)) Q E s) :
  UnR X f (rU fun i=>.int (g i)):=by
 intro pins s σ H x v Q I rx h
 obtain ⟨i,rfl,q⟩:=h
 obtain ⟨t,rfl⟩:=rx
 exact rule i t s _ _ ⟨.int (g i),H,I.tok _,⟨_,rfl⟩,q⟩
theorem un_neg:UnR X (unaryOp .USub) (rU fun i=>.int (-i)):=unI fun _ _ _ _ _ q=>neg_int q
end
noncomputable def scal:V->V->Bool
 | .non,.non=>true | .non,.int _=>true | .int _,.non=>true | .non,.bl _=>true | .bl _,.non=>true | .non,.str _=>true | .str _,.non=>true
 | .int _,.int _=>true | .bl _,.bl _=>true | .str _,.str _=>true | .byt _,.byt _=>true
 | .int _,.str _=>true | .str _,.int _=>true | .bl _,.str _=>true | .str _,.bl _=>true
 | _,_=>false
noncomputable def rEq:R2:=fun x y H Q=>scal x y=true/\Q (.bl (decide (x=y))) H
noncomputable def rNe:R2:=fun x y H Q=>scal x y=true/\Q (.bl (!decide (x=y))) H
theorem dec_int {i j:Int}:decide (V.int i=V.int j)=(i == j):=by
 rw [Bool.eq_iff_iff]
 simp
theorem dec_bl {i j:Bool}:decide (V.bl i=V.bl j)=(i == j):=by
 rw [Bool.eq_iff_iff]
 simp
theorem dec_str {i j:Str}:decide (V.str i=V.str j)=(i == j):=by
 rw [Bool.eq_iff_iff]
 simp
theorem dec_byt {i j:Array UInt8}:decide (V.byt i=V.byt j)=(i.toList == j.toList):=by
 rw [Bool.eq_iff_iff]
 cases i
 cases j
 simp
section
variable {X:Cx} {a b c:Expr} {ta tb tc:TE} {pos:Pos}
theorem fin_bl {pins:List (Addr × Obj)} {σ:St} {H:Hp} {s:Shared} {Q:VK} {k k':Bool} (I:Inv X pins σ H s) (q:Q (.bl k) H) (e:k=k'):EP X pins σ Q (.bool k') s:=by
 subst e
 exact ⟨.bl k,H,I,rfl,q⟩
theorem op_eq:OpR X (compareOp .Eq) rEq:=by
 intro pins s σ H x y v u Q I rx ry h
 obtain ⟨hs,q⟩:=h
 cases x with
 | non =>
  cases rx
  cases y with
  | non=>cases ry;exact PySem.EqNone.eq_none_none (fin_bl I q (by simp))
  | bl j=>cases ry;exact PySem.EqNone.eq_none_bool (fin_bl I q (by simp))
  | int j=>obtain ⟨t',rfl⟩:=ry;exact PySem.EqNone.eq_none_int (fin_bl I q (by simp))
  | str j=>obtain ⟨t',rfl⟩:=ry;exact PySem.EqNone.eq_none_str (fin_bl I q (by simp))
  | _=>exact absurd (show false=true from hs) Bool.false_ne_true
 | bl i =>
  cases rx
  cases y with
  | non=>cases ry;exact PySem.EqNone.eq_bool_none (fin_bl I q (by simp))
  | bl j=>cases ry;exact eq_bool (fin_bl I q dec_bl)
  | str j=>obtain ⟨t',rfl⟩:=ry;exact PySem.EqMixed.eq_bool_str (fin_bl I q (by simp))
  | _=>exact absurd (show false=true from hs) Bool.false_ne_true
 | int i =>
  obtain ⟨t,rfl⟩:=rx
  cases y with
  | non=>cases ry;exact PySem.EqNone.eq_int_none (fin_bl I q (by simp))
  | int j=>obtain ⟨t',rfl⟩:=ry;exact eq_int (fin_bl I q dec_int)
  | str j=>obtain ⟨t',rfl⟩:=ry;exact PySem.EqMixed.eq_int_str (fin_bl I q (by simp))
  | _=>exact absurd (show false=true from hs) Bool.false_ne_true
 | str i =>
  obtain ⟨t,rfl⟩:=rx
  cases y with
  | non=>cases ry;exact PySem.EqNone.eq_str_none (fin_bl I q (by simp))
  | bl j=>cases ry;exact PySem.EqMixed.eq_str_bool (fin_bl I q (by simp))
  | int j=>obtain ⟨t',rfl⟩:=ry;exact PySem.EqMixed.eq_str_int (fin_bl I q (by simp))
  | str j=>obtain ⟨t',rfl⟩:=ry;exact eq_str (fin_bl I q dec_str)
  | _=>exact absurd (show false=true from hs) Bool.false_ne_true
 | byt i =>
  obtain ⟨t,rfl⟩:=rx
  cases y with
  | byt j=>obtain ⟨t',rfl⟩:=ry;exact PySem.W.eq_bytes (fin_bl I q dec_byt)
  | _=>exact absurd (show false=true from hs) Bool.false_ne_true
 | _=>cases y<;>exact absurd (show false=true from hs) Bool.false_ne_true
theorem op_ne:OpR X (compareOp .NotEq) rNe:=by
 intro pins s σ H x y v u Q I rx ry h
 obtain ⟨hs,q⟩:=h
 cases x with
 | non =>
  cases rx
  cases y with
  | non=>cases ry;exact PySem.EqNone.ne_none_none (fin_bl I q (by simp))
  | bl j=>cases ry;exact PySem.EqNone.ne_none_bool (fin_bl I q (by simp))
  | int j=>obtain ⟨t',rfl⟩:=ry;exact PySem.EqNone.ne_none_int (fin_bl I q (by simp))
  | str j=>obtain ⟨t',rfl⟩:=ry;exact PySem.EqNone.ne_none_str (fin_bl I q (by simp))
  | _=>exact absurd (show false=true from hs) Bool.false_ne_true
 | bl i =>
  cases rx
  cases y with
  | non=>cases ry;exact PySem.EqNone.ne_bool_none (fin_bl I q (by simp))
  | bl j=>cases ry;exact ne_bool (fin_bl I q (congrArg not dec_bl))
  | str j=>obtain ⟨t',rfl⟩:=ry;exact PySem.EqMixed.ne_bool_str (fin_bl I q (by simp))
  | _=>exact absurd (show false=true from hs) Bool.false_ne_true
 | int i =>
  obtain ⟨t,rfl⟩:=rx
  cases y with
  | non=>cases ry;exact PySem.EqNone.ne_int_none (fin_bl I q (by simp))
  | int j=>obtain ⟨t',rfl⟩:=ry;exact ne_int (fin_bl I q (congrArg not dec_int))
  | str j=>obtain ⟨t',rfl⟩:=ry;exact PySem.EqMixed.ne_int_str (fin_bl I q (by simp))
  | _=>exact absurd (show false=true from hs) Bool.false_ne_true
 | str i =>
  obtain ⟨t,rfl⟩:=rx
  cases y with
  | non=>cases ry;exact PySem.EqNone.ne_str_none (fin_bl I q (by simp))
  | bl j=>cases ry;exact PySem.EqMixed.ne_str_bool (fin_bl I q (by simp))
  | int j=>obtain ⟨t',rfl⟩:=ry;exact PySem.EqMixed.ne_str_int (fin_bl I q (by simp))
  | str j=>obtain ⟨t',rfl⟩:=ry;exact ne_str (fin_bl I q (congrArg not dec_str))
  | _=>exact absurd (show false=true from hs) Bool.false_ne_true
 | byt i =>
  obtain ⟨t,rfl⟩:=rx
  cases y with
  | byt j=>obtain ⟨t',rfl⟩:=ry;exact PySem.W.ne_bytes (fin_bl I q (congrArg not dec_byt))
  | _=>exact absurd (show false=true from hs) Bool.false_ne_true
 | _=>cases y<;>exact absurd (show false=true from hs) Bool.false_ne_true
theorem op_lt:OpR X (compareOp .Lt) (rI0 fun i j=>.bl (decide (i<j))):=opB0 fun _ _ _ _ _ _ _ q=>lt_int q
theorem op_le:OpR X (compareOp .LtE) (rI0 fun i j=>.bl (decide (i<=j))):=opB0 fun _ _ _ _ _ _ _ q=>le_int q
theorem op_gt:OpR X (compareOp .Gt) (rI0 fun i j=>.bl (decide (j<i))):=opB0 fun _ _ _ _ _ _ _ q=>gt_int q
theorem op_ge:OpR X (compareOp .GtE) (rI0 fun i j=>.bl (decide (j<=i))):=opB0 fun _ _ _ _ _ _ _ q=>ge_int q
theorem op_in_str:OpR X (compareOp .In) (fun x y H Q=>∃ i j,x=.str i/\y=.str j/\Q (.bl (!(Builtin.Str.occurrences j i 0 j.length 1).isEmpty)) H):=by
 intro pins s σ H x y v u Q I rx ry h
 obtain ⟨i,j,rfl,rfl,q⟩:=h
 obtain ⟨t,rfl⟩:=rx
 obtain ⟨t',rfl⟩:=ry
 exact in_str (fin_bl I q rfl)
theorem nomark (b:Expr) {op:CmpOp} (h:op≠.In:=by decide) (h2:op≠.NotIn:=by decide):behindInMarks op b=false:=by
 have e1:(op == CmpOp.In)=false:=by cases op<;>first | rfl | exact absurd rfl h
 have e2:(op == CmpOp.NotIn)=false:=by cases op<;>first | rfl | exact absurd rfl h2
 cases b<;>simp [behindInMarks,e1,e2]
theorem pe_cmpR {op:CmpOp} {r:R2} (ho:OpR X (compareOp op) r) (ha:PE X a ta) (hb:PE X b tb) (hm:behindInMarks op b=false):PE X (.Compare a [op] [b] pos) (tOp r ta tb):=by
 intro pins s σ H Q I h
 exact wpAny_Compare1 (binT ha hb I h fun v u s2 x y H2 I2 rx ry q=>ho pins s2 σ H2 x y v u Q I2 rx ry q) hm
noncomputable def tTest (t:TE):TT:=fun σ H Q=>t σ H fun x H'=>∃ k,x=.bl k/\Q k H'
theorem pt_cmpR {op:CmpOp} {r:R2} (ho:OpR X (compareOp op) r) (ha:PE X a ta) (hb:PE X b tb) (hm:behindInMarks op b=false):PT X (.Compare a [op] [b] pos) (tTest (tOp r ta tb)):=by
 intro pins s σ H Q I h
 refine wpAny_isTrue_Compare1 (thn (ha pins s σ H _ I h) fun v s1 ⟨x,H1,I1,r1,q1⟩=>thn (hb pins s1 σ H1 _ I1 q1) fun u s2 ⟨y,H2,I2,r2,q2⟩ =>
  thn (ho pins s2 σ H2 x y v u _ I2 r1 r2 q2) fun c s3 ⟨z,H3,I3,r3,k,e,q3⟩=>?_) hm
 subst e
 cases r3
 exact wpAny_truthy_bool ⟨H3,I3,q3⟩
theorem line63:(sizeLine:Nat)<2 ^ 63:=by rw [sizeLine_eq];decide
theorem vals1 {x:V} {us:List Value} (r:Vals [x] us):∃ u,us=[u]/\RelV x u:=by
 cases r with
 | cons r1 r2=>cases r2;exact ⟨_,rfl,r1⟩
theorem vals2 {x y:V} {us:List Value} (r:Vals [x,y] us):∃ u w',us=[u,w']/\RelV x u/\RelV y w':=by
 cases r with
 | cons r1 r2 =>
  cases r2 with
  | cons r3 r4=>cases r4;exact ⟨_,_,rfl,r1,r3⟩
end
end L2
namespace L2
open PySem PySem.Spec PyProof.Rows
structure ObjM (h:Heap) (x dx C:Addr) (mA:Str->Option Value):Prop where
 obj:h.get? x=some (PySem.W.instObj C dx)
 ns:h.Ns1 dx mA
 ne:dx≠x
theorem lookIn_ns {h:Heap} {dx:Addr} {mA:Str->Option Value} (n:h.Ns1 dx mA):∃ od,h.get? dx=some od/\∀ name,PySem.W.lookIn name od=some (mA name):=by
 obtain ⟨o,es,ep,ho,hd,hk,_,hm⟩:=n
 refine ⟨o,ho,fun name=>?_⟩
 have e:=hm name
 unfold nsFind findBy at e
 rw [<- Array.find?_toList] at e
 unfold PySem.W.lookIn
 rw [hd]
 dsimp only
 split
 ·rename_i y q
  rw [q] at e
  exact congrArg some e
 ·rename_i q
  rw [q] at e
  have a:es.toList.any (·.refKey)=false:=by
   rw [List.any_eq_false]
   intro y hy
   obtain ⟨z,t,hkey⟩:=hk y (Array.mem_toList_iff.mp hy)
   simp [DictEntry.refKey,hkey]
  have a':¬ es.toList.any (·.refKey)=true:=by rw [a];exact Bool.false_ne_true
  rw [if_neg a']
  exact congrArg some e
theorem ObjM.look {h:Heap} {x dx C:Addr} {mA:Str->Option Value} (I:ObjM h x dx C mA):∃ od,PySem.W.InstAt h x (PySem.W.instObj C dx) C (some od)/\∀ name,PySem.W.lookIn name od=some (mA name) :=
 let ⟨od,ho,hl⟩:=lookIn_ns I.ns
 ⟨od,⟨I.obj,rfl,rfl,ho⟩,hl⟩
section
variable {prog:Program} {w:World} {A:Around} {E:Value->Shared->Prop} {s:Shared} {K:PySem.W.Frag} {x dx C f:Addr} {mA:Str->Option Value} {name:Str} {v:Value}
theorem get_map {expr:Bool} {Q:Value->Shared->Prop} (X:K.In s.heap) (I:ObjM s.heap x dx C mA) (hg:PySem.W.plainGet K C name=true) (hh:PySem.W.hasDictIn K C=true)
  (ha:PySem.W.findIn K (.ref C) name=some none) (hv:mA name=some v) (hv':PySem.W.handedIn v=true) (h:Q v { s with toks:=s.toks+1 }) :
  wpAny (model prog w) A (getAttr (.ref x) name expr) Q E s:=by
 obtain ⟨od,J,hl⟩:=I.look
 exact PySem.W.get_value X J (PySem.W.plainGet_of hg).1 (PySem.W.findObj_own hh ha rfl (by rw [hl,hv])) hv' h
theorem get_meth {pl:Sem Bool} {Q:Value × List Value->Shared->Prop} (X:K.In s.heap) (I:ObjM s.heap x dx C mA) (hg:PySem.W.plainGet K C name=true)
  (hf:PySem.W.findIn K (.ref C) name=some (some (.ref f))) (ht:PySem.W.isFn K (.ref f)=true) (hv:mA name=none) (h:Q (.ref f,[.ref x]) s) :
  wpAny (model prog w) A (getMethod (.ref x) name pl) Q E s:=by
 obtain ⟨od,J,hl⟩:=I.look
 exact PySem.W.method_fn X J (PySem.W.plainGet_of hg).1 (PySem.W.plainGet_of hg).2 hf (beq_iff_eq.mp ht) (by show (PySem.W.lookIn name od).map (·.isSome)=some false;rw [hl,hv];rfl) h
theorem set_map {ns:List Str} {Q:Unit->Shared->Prop} (X:K.In s.heap) (I:ObjM s.heap x dx C mA)
  (hs:PySem.W.findIn K (.ref C) "__setattr__"=some (some (.builtin "object.__setattr__"))) (hp:PySem.W.plainOver K C=true) (ht:PySem.W.takerIn K C name=some none) (hh:PySem.W.hasDictIn K C=true)
  (hw:PySem.Within mA ns) (hsz:ns.length<=sizeLine)
  (h:∀ h',ObjM h' x dx C (fun y=>if y=name then some v else mA y)->Heap.SameBut dx s.heap h'->Q () { s with heap:=h',toks:=s.toks+2 }) :
  wpAny (model prog w) A (setAttr (.ref x) name v) Q E s:=by
 obtain ⟨od,J,hl⟩:=I.look
 refine PySem.W.set_plain X J hs (PySem.W.osa_open (s:={ s with toks:=s.toks+1 }) (r:=none) X J hp ht fun b=>?_)
 obtain ⟨cd,hc,hd'⟩:=PySem.W.any_some hh
 have hx:s.heap.get? x=some ⟨.ref C,some dx,.plain,#[]⟩:=I.obj
 refine wpAny_bind (wpAny_pure (wpAny_bind (wpAny_bind (wpAny_loadPart hx (wpAny_bind (PySem.W.Looks.here (s:={ s with toks:=s.toks+1 }) (PySem.W.looks_clsIn X hc) ?_))))))
 rw [hd']
 refine wpAny_pure (a:=some dx) (wpAny_bind (wpAny_pure (wpAny_bind ?_)))
 refine wpAny_nsSet1 (s:={ s with toks:=s.toks+1 }) I.ns fun h' hn2 hs2=>?_
 obtain ⟨oD,esD,epD,hoD,hdD,hcD⟩:=hn2.count (PySem.Within.cons name v hw)
 refine wpAny_bind (wpAny_lookBehind hoD (by rw [hdD];exact pastItsLine_dict (Nat.le_trans hcD (by rw [List.length_cons];omega))) ?_)
 exact wpAny_pure (h _ ⟨(hs2.2 _ (Ne.symm I.ne)).trans I.obj,hn2,I.ne⟩ hs2)
theorem make_map {R:Result->Shared->Prop} {vs:List Value} {kw:List (Str × Value)} (X:K.In s.heap) (hm:PySem.W.makesIn K C=true)
  (hi:PySem.W.findIn K (.ref C) "__init__"=some (some (.ref f))) (hf:PySem.W.typeIn K (.ref f)=some (.type "function"))
  (h:codeAny (model prog w) (A.under (.builtin "type.__call__" ⟨.ref C::vs,kw⟩)) (.call (.ref f) ⟨.ref (s.heap.objs.size+1)::vs,kw⟩) (PySem.W.InitBack (s.heap.objs.size+1) R)
   { s with heap:=(s.heap.push PySem.W.emptyDict).push (PySem.W.instObj C s.heap.objs.size) }) :
  codeAny (model prog w) A (.call (.ref C) ⟨vs,kw⟩) R s:=by
 obtain ⟨hh,g,d,t,os⟩:=s
 exact PySem.W.make_core (PySem.W.makes_of X hm) (PySem.W.looks_findIn X hi) (fun self=>PySem.W.bind_fn X self hf) (.inl rfl) h
end
noncomputable def putF (f:Str) (v:V):List (Str × V)->List (Str × V)
 | []=>[(f,v)]
 | (g,x)::r=>if g=f then (g,v)::r else (g,x)::putF f v r
theorem lookup_putF (f g:Str) (v:V):∀ fs:List (Str × V),(putF f v fs).lookup g=if g=f then some v else fs.lookup g
 | []=>by
  show List.lookup g [(f,v)]=_
  by_cases h:g=f
  ·have hb:(g == f)=true:=beq_iff_eq.mpr h
   simp only [List.lookup,hb,if_pos h]
  ·have hb:(g == f)=false:=beq_eq_false_iff_ne.mpr h
   simp only [List.lookup,hb,if_neg h]
 | (k,x)::r=>by
  have ih:=lookup_putF f g v r
  rw [show putF f v ((k,x)::r)=(if k=f then (k,v)::r else (k,x)::putF f v r) from rfl]
  by_cases hk:k=f
  ·rw [if_pos hk]
   by_cases h:g=k
   ·have hb:(g == k)=true:=beq_iff_eq.mpr h
    simp only [List.lookup,hb,if_pos (h.trans hk)]
   ·have hb:(g == k)=false:=beq_eq_false_iff_ne.mpr h
    simp only [List.lookup,hb,if_neg (fun e:g=f=>h (e.trans hk.symm))]
  ·rw [if_neg hk]
   by_cases h:g=k
   ·have hb:(g == k)=true:=beq_iff_eq.mpr h
    simp only [List.lookup,hb,if_neg (fun e:g=f=>hk (h.symm.trans e))]
   ·have hb:(g == k)=false:=beq_eq_false_iff_ne.mpr h
    simp only [List.lookup,hb]
    exact ih
theorem keys_putF (f:Str) (v:V):∀ fs:List (Str × V),f∈(putF f v fs).map (·.1)/\∀ g,g∈fs.map (·.1)->g∈(putF f v fs).map (·.1)
 | []=>⟨by simp [putF],fun g h=>by simp at h⟩
 | (k,x)::r=>by
  obtain ⟨i1,i2⟩:=keys_putF f v r
  rw [show putF f v ((k,x)::r)=(if k=f then (k,v)::r else (k,x)::putF f v r) from rfl]
  by_cases hk:k=f
  ·rw [if_pos hk]
   subst hk
   exact ⟨by simp,fun g h=>by simpa using h⟩
  ·rw [if_neg hk]
   refine ⟨?_,fun g h=>?_⟩
   ·rw [List.map_cons]
    exact List.mem_cons_of_mem _ i1
   ·rw [List.map_cons] at h ⊢
    rcases List.mem_cons.mp h with e | e
    ·exact List.mem_cons.mpr (.inl e)
    ·exact List.mem_cons_of_mem _ (i2 g e)
theorem length_putF (f:Str) (v:V):∀ fs:List (Str × V),(putF f v fs).length<=fs.length+1
 | []=>by simp [putF]
 | (k,x)::r=>by
  have ih:=length_putF f v r
  rw [show putF f v ((k,x)::r)=(if k=f then (k,v)::r else (k,x)::putF f v r) from rfl]
  by_cases hk:k=f
  ·rw [if_pos hk,List.length_cons,List.length_cons];omega
  ·rw [if_neg hk,List.length_cons,List.length_cons];omega
theorem RelO.some_of {v:V} {o:Option Value} (r:RelO (some v) o):∃ u,o=some u/\RelV v u:=by
 cases o with
 | none=>exact (show False from r).elim
 | some u=>exact ⟨u,rfl,r⟩
theorem RelO.none_of {o:Option Value} (r:RelO none o):o=none:=by
 cases o with
 | none=>rfl
 | some u=>exact (show False from r).elim
theorem handed_of {v:V} {u:Value} (r:RelV v u):PySem.W.handedIn u=true:=by
 cases v with
 | non=>cases (show u=Value.none from r);rfl
 | bl b=>cases (show u=Value.bool b from r);rfl
 | int i=>obtain ⟨t,e⟩:=(show ∃ t,u=Value.int i t from r);cases e;rfl
 | str x=>obtain ⟨t,e⟩:=(show ∃ t,u=Value.str x t from r);cases e;rfl
 | byt b=>obtain ⟨t,e⟩:=(show ∃ t,u=Value.bytes b t from r);cases e;rfl
 | flt b=>obtain ⟨t,e⟩:=(show ∃ t,u=Value.float b t from r);cases e;rfl
 | ref a=>cases (show u=Value.ref a from r);rfl
 | ty n=>cases (show u=Value.type n from r);rfl
section
variable {P:Program} {w:World} {H H':Hp} {h h':Heap} {a C dx:Addr} {fs fs':List (Str × V)}
theorem ins_get (hok:HOk P w H h) (e:H a=some (.ins C dx fs)):∃ mA,ObjM h a dx C mA/\(∀ f,RelO (fs.lookup f) (mA f))/\PySem.Within mA (fs.map (·.1))/\fs.length<=1000/\H dx=some (.own a):=by
 obtain ⟨d,z,ne,ob,mA,n,r,q⟩:=(show ObjOk P w H h a (.ins C dx fs) from hok a _ e)
 exact ⟨mA,⟨ob,n,ne⟩,r,q,z,d⟩
end
structure Cls (K:PySem.W.Frag) (C:Addr):Prop where
 pg:PySem.W.plainGet K C Str.empty=true
 hd:PySem.W.hasDictIn K C=true
 po:PySem.W.plainOver K C=true
 sa:PySem.W.findIn K (.ref C) "__setattr__"=some (some (.builtin "object.__setattr__"))
theorem Cls.get {K:PySem.W.Frag} {C:Addr} (c:Cls K C) (f:Str):PySem.W.plainGet K C f=true:=c.pg
noncomputable def NoAttr (K:PySem.W.Frag) (C:Addr) (f:Str):Prop:=PySem.W.findIn K (.ref C) f=some none
theorem NoAttr.taker {K:PySem.W.Frag} {C:Addr} {f:Str} (n:NoAttr K C f):PySem.W.takerIn K C f=some none:=by
 unfold PySem.W.takerIn
 rw [show PySem.W.findIn K (.ref C) f=some none from n]
 rfl
structure Meth (K:PySem.W.Frag) (C:Addr) (m:Str) (f:Addr):Prop where
 at_:PySem.W.findIn K (.ref C) m=some (some (.ref f))
 fn:PySem.W.isFn K (.ref f)=true
 kp:PySem.W.keepIn K (.ref f)=true
section
variable {X:Cx} {pins:List (Addr × Obj)} {σ:St} {H:Hp} {s:Shared} {a C dx:Addr} {fs:List (Str × V)} {f:Str} {v:V} {A:Around} {E:Value->Shared->Prop}
theorem getattr_ok {b:Bool} {Q:Value->Shared->Prop} (I:Inv X pins σ H s) (e:H a=some (.ins C dx fs)) (c:Cls X.K C) (n:NoAttr X.K C f) (l:fs.lookup f=some v)
  (h:∀ u s',Inv X pins σ H s'->RelV v u->Q u s'):wpAny (model X.prog X.w) A (getAttr (.ref a) f b) Q E s:=by
 obtain ⟨mA,O,r,_,_,_⟩:=ins_get I.hok e
 obtain ⟨u,hu,ru⟩:=RelO.some_of (v:=v) (o:=mA f) (by rw [<- l];exact r f)
 exact get_map I.kIn O (c.get f) c.hd n hu (handed_of ru) (h u _ (I.tok _) ru)
theorem getmeth_ok {m:Str} {g:Addr} {pl:Sem Bool} {Q:Value × List Value->Shared->Prop} (I:Inv X pins σ H s) (e:H a=some (.ins C dx fs)) (c:Cls X.K C) (k:Meth X.K C m g) (l:fs.lookup m=none)
  (h:Q (.ref g,[.ref a]) s):wpAny (model X.prog X.w) A (getMethod (.ref a) m pl) Q E s:=by
 obtain ⟨mA,O,r,_,_,_⟩:=ins_get I.hok e
 have hn:mA m=none:=RelO.none_of (by rw [<- l];exact r m)
 exact get_meth I.kIn O (c.get m) k.at_ k.fn hn h
theorem setattr_ok {y:V} {u:Value} {Q:Unit->Shared->Prop} (I:Inv X pins σ H s) (e:H a=some (.ins C dx fs)) (c:Cls X.K C) (n:NoAttr X.K C f) (hl:fs.length<1000) (ry:RelV y u)
  (h:∀ s',Inv X pins σ (upd H a (.ins C dx (putF f y fs))) s'->Q () s'):wpAny (model X.prog X.w) A (setAttr (.ref a) f u) Q E s:=by
 obtain ⟨mA,O,r,wi,_,ho⟩:=ins_get I.hok e
 have hz:(fs.map (·.1)).length<=sizeLine:=by rw [List.length_map,sizeLine_eq];omega
 refine set_map I.kIn O c.sa c.po n.taker c.hd wi hz fun h' O' sb=>h _ ?_
 have hd:∃ o,h'.get? dx=some o:=by obtain ⟨o,_,_,e',_⟩:=O'.ns;exact ⟨o,e'⟩
 refine I.write (x:=a) (e:=dx) (by rw [e];exact True.intro) (.inr ho) (fun b q hb z=>(sb.2 b hb).trans z) hd ?_
 refine ⟨by rw [upd_ne O.ne];exact ho,?_,O.ne,O'.obj,_,O'.ns,fun g=>?_,fun g hg=>?_⟩
 ·have:=length_putF f y fs;omega
 ·show RelO ((putF f y fs).lookup g) (if g=f then some u else mA g)
  rw [lookup_putF]
  by_cases q:g=f
  ·rw [if_pos q,if_pos q];exact ry
  ·rw [if_neg q,if_neg q];exact r g
 ·by_cases q:g=f
  ·rw [q];exact (keys_putF f y fs).1
  ·refine (keys_putF f y fs).2 g (wi g fun z=>hg ?_)
   show (if g=f then some u else mA g)=none
   rw [if_neg q];exact z
theorem Inv.made (I:Inv X pins σ H s):Inv X pins σ (upd (upd H s.heap.objs.size (.own (s.heap.objs.size+1))) (s.heap.objs.size+1) (.ins C s.heap.objs.size []))
  { s with heap:=(s.heap.push PySem.W.emptyDict).push (PySem.W.instObj C s.heap.objs.size) }:=by
 have e1:(s.heap.push PySem.W.emptyDict).get? s.heap.objs.size=some PySem.W.emptyDict:=Heap.get?_push_size s.heap rfl
 have e2:((s.heap.push PySem.W.emptyDict).push (PySem.W.instObj C s.heap.objs.size)).get? (s.heap.objs.size+1)=some (PySem.W.instObj C s.heap.objs.size):=by
  have:=Heap.get?_push_size (s.heap.push PySem.W.emptyDict) (o:=PySem.W.instObj C s.heap.objs.size) rfl
  rwa [Heap.size_push] at this
 have e3:(s.heap.push PySem.W.emptyDict).Ns s.heap.objs.size (fun _=>none):=⟨PySem.W.emptyDict,#[],_,e1,rfl,(fun e he=>absurd he (by simp)),fun _=>rfl⟩
 have I1:=I.laid (a:=s.heap.objs.size) (o:=.own (s.heap.objs.size+1)) (h':=s.heap.push PySem.W.emptyDict) (t':=s.toks) (fun b u q=>Heap.get?_push_of_some _ q) (Nat.le_refl _) ⟨_,e1⟩
 refine I1.laid (a:=s.heap.objs.size+1) (o:=.ins C s.heap.objs.size []) (t':=s.toks) (fun b u q=>Heap.get?_push_of_some _ q) (Nat.le_of_eq (Heap.size_push _ _)) ?_
 have ne:s.heap.objs.size≠s.heap.objs.size+1:=Nat.ne_of_lt (Nat.lt_succ_self _)
 refine ⟨by rw [upd_ne ne,upd_same],Nat.zero_le _,ne,e2,fun _=>none,(Heap.Ns1.of_empty e3).at fun o q=>Heap.get?_push_of_some _ q,fun _=>True.intro,fun y hy=>absurd rfl hy⟩
theorem attr_of {prog:Program} {w:World} {env:Env} {e:Expr} {f:Str} {pos:Pos} {s:Shared} {Q:Value->Shared->Prop} (hb:attributeBase e f env (eval e env)=eval e env)
  (h:wpAny (model prog w) A (eval e env) (fun o s₁=>wpAny (model prog w) A (getAttr o f true) Q E s₁) E s):wpAny (model prog w) A (eval (.Attribute e f pos) env) Q E s :=
 Attribute_any_ h (by rw [arm_eval_Attribute,hb])
end
noncomputable def tFld (K:PySem.W.Frag) (ta:TE) (f:Str):TE:=fun σ H Q=>ta σ H fun x H1=>∃ a C dx fs v,x=.ref a/\H1 a=some (.ins C dx fs)/\Cls K C/\NoAttr K C f/\fs.lookup f=some v/\Q v H1
noncomputable def sFld (K:PySem.W.Frag) (ta tv:TE) (f:Str):TS:=fun D σ H=>tv σ H fun y H1=>ta σ H1 fun x H2=>∃ a C dx fs,x=.ref a/\H2 a=some (.ins C dx fs)/\Cls K C/\NoAttr K C f/\fs.length<1000 /\
 D.nx σ (upd H2 a (.ins C dx (putF f y fs)))
section
variable {X:Cx} {o e value:Expr} {f:Str} {pos pos' tpos:Pos} {ta tv:TE}
theorem pe_fld (he:PE X e ta) (hb:attributeBase e f X.env (eval e X.env)=eval e X.env):PE X (.Attribute e f pos) (tFld X.K ta f):=by
 intro pins s σ H Q I h
 refine attr_of hb (thn (he pins s σ H _ I h) fun u s1 hsl28=>?_)
 obtain ⟨x,H1,I1,rx,a,C,dx,fs,v,ex,ea,c,n,l,q⟩:=hsl28
 subst ex
 obtain rfl:u=Value.ref a:=rx
 exact getattr_ok I1 ea c n l fun u' s2 I2 ru=>⟨v,H1,I2,ru,q⟩
theorem ps_fld (ha:PE X o ta) (hv:PE X value tv) (hs:swapsWith value (some (.Attribute o f pos')) pos.line X.env=pure false):PS X (.Assign [.Attribute o f pos'] value pos) (sFld X.K ta tv f):=by
 intro pins s σ H D I h
 refine plainObj_wpAny_Assign_Attribute (thn (hv pins s σ H _ I h) fun u s1 ⟨y,H1,I1,ry,q⟩=>thn (ha pins s1 σ H1 _ I1 q) fun ov s2 hsl29=>?_) hs
 obtain ⟨x,H2,I2,rx,a,C,dx,fs,ex,ea,c,n,l,q2⟩:=hsl29
 subst ex
 obtain rfl:ov=Value.ref a:=rx
 exact setattr_ok I2 ea c n l ry fun s3 I3=>⟨σ,_,I3,q2⟩
end
section
variable {X:Cx} {pins:List (Addr × Obj)} {σ:St} {H:Hp} {s:Shared} {A:Around} {E:Value->Shared->Prop} {Q:Value->Shared->Prop} {c:Value} {b:Bool}
inductive TyOf (K:PySem.W.Frag) (H:Hp):V->Value->Prop where
 | non:TyOf K H .non (.type "NoneType")
 | bl (x:Bool):TyOf K H (.bl x) (.type "bool")
 | int (i:Int):TyOf K H (.int i) (.type "int")
 | str (x:Str):TyOf K H (.str x) (.type "str")
 | flt (x:UInt64):TyOf K H (.flt x) (.type "float")
 | lst {a:Addr} {xs:List V} (e:H a=some (.lst xs)):TyOf K H (.ref a) (.type "list")
 | frz {a:Addr} {o:Obj} {xs:List V} (e:H a=some (.frz o (.lst xs))):TyOf K H (.ref a) (.type "list")
 | tup {a:Addr} {xs:List V} (e:H a=some (.tup xs)):TyOf K H (.ref a) (.type "tuple")
 | dK {a:Addr} {kvs:List (Key × V)} (e:H a=some (.dK kvs)):TyOf K H (.ref a) (.type "dict")
 | dT {a:Addr} {kvs:List (List Key × V)} (e:H a=some (.dT kvs)):TyOf K H (.ref a) (.type "dict")
 | ins {a C dx:Addr} {fs:List (Str × V)} (e:H a=some (.ins C dx fs)) (cl:Cls K C) (ha:PySem.W.findIn K (.ref C) "__class__"=some (some (.builtin "object.__class__")))
   (hn:PySem.W.specialIn K (.builtin "object.__class__") "__get__"=some (some (.builtin "getset_descriptor.__get__"))) (htk:PySem.W.takesIn K (.builtin "object.__class__")=some true)
   (hm:PySem.W.mroIn K C (.type "object")=some true):TyOf K H (.ref a) (.ref C)
theorem isinst_ok {x:V} {u t:Value} (I:Inv X pins σ H s) (rx:RelV x u) (ty:TyOf X.K H x t) (e:PySem.W.kitOne X.K t c=some b) (h:∀ tk,Q (.bool b) { s with toks:=tk }) :
  wpAny (model X.prog X.w) A (call (.builtin "isinstance") [u,c]) Q E s:=by
 cases ty with
 | non=>cases (show u=Value.none from rx);exact PySem.W.kia_one PySem.W.kitx_none I.kIn True.intro e (fun z=>nomatch z) h
 | bl y=>cases (show u=Value.bool y from rx);exact PySem.W.kia_one PySem.W.kitx_bool I.kIn True.intro e (fun z=>nomatch z) h
 | int i=>obtain ⟨t,q⟩:=(show ∃ t,u=Value.int i t from rx);cases q;exact PySem.W.kia_one PySem.W.kitx_int I.kIn True.intro e (fun z=>nomatch z) h
 | str y=>obtain ⟨t,q⟩:=(show ∃ t,u=Value.str y t from rx);cases q;exact PySem.W.kia_one PySem.W.kitx_str I.kIn True.intro e (fun z=>nomatch z) h
 | flt y=>obtain ⟨t,q⟩:=(show ∃ t,u=Value.float y t from rx);cases q;exact PySem.W.kia_one PySem.W.kitx_float I.kIn True.intro e (fun z=>nomatch z) h
 | @lst a xs ea =>
  cases (show u=Value.ref a from rx)
  obtain ⟨_,_,n,_,h1⟩:=(show ObjOk X.prog X.w H s.heap a (.lst xs) from I.hok a _ ea)
  exact PySem.W.kia_one PySem.W.kitx_list I.kIn ⟨_,h1,rfl⟩ e (fun z=>nomatch z) h
 | @frz a ob xs ea =>
  cases (show u=Value.ref a from rx)
  obtain ⟨_,_,_,n,_,h1⟩:=(show ObjOk X.prog X.w H s.heap a (.frz ob (.lst xs)) from I.hok a _ ea)
  exact PySem.W.kia_one PySem.W.kitx_list I.kIn ⟨_,h1,rfl⟩ e (fun z=>nomatch z) h
 | @tup a xs ea =>
  cases (show u=Value.ref a from rx)
  obtain ⟨_,_,_,p⟩:=(show ObjOk X.prog X.w H s.heap a (.tup xs) from I.hok a _ ea)
  obtain ⟨o,h1,h2,_⟩:=p
  exact PySem.W.kia_one PySem.W.kitx_tuple I.kIn ⟨o,h1,h2⟩ e (fun z=>nomatch z) h
 | @dK a kvs ea =>
  cases (show u=Value.ref a from rx)
  obtain ⟨_,_,vs,_,p⟩:=(show ObjOk X.prog X.w H s.heap a (.dK kvs) from I.hok a _ ea)
  obtain ⟨o,es,ep,h1,h2,_⟩:=p
  exact PySem.W.kia_one PySem.W.kitx_dict I.kIn ⟨o,h1,h2.1⟩ e (fun z=>nomatch z) h
 | @dT a kvs ea =>
  cases (show u=Value.ref a from rx)
  obtain ⟨_,_,xs,_,o,es,ep,h1,h2,_⟩:=(show ObjOk X.prog X.w H s.heap a (.dT kvs) from I.hok a _ ea)
  exact PySem.W.kia_one PySem.W.kitx_dict I.kIn ⟨o,h1,h2.1⟩ e (fun z=>nomatch z) h
 | @ins a C dx fs ea cl ha hn htk hm =>
  cases (show u=Value.ref a from rx)
  obtain ⟨mA,O,_⟩:=ins_get I.hok ea
  obtain ⟨od,J,_⟩:=O.look
  exact PySem.W.kia_one (PySem.W.kitx_own (cl.get _) cl.hd ha hn htk hm) I.kIn J e (fun z=>nomatch z) h
end
end L2
namespace L2
open PySem PySem.Spec PyProof.Rows
structure Room (k:Nat) (A:Around):Prop where
 hd:A.handled=none
 dp:A.depth+3*k+5<recursionLimit
 un:A.units+16*k+200<cLine
theorem Room.mono {j k:Nat} {A:Around} (r:Room k A) (h:j<=k):Room j A:=⟨r.hd,by have:=r.dp;omega,by have:=r.un;omega⟩
theorem Room.deeper {k:Nat} {A:Around} (r:Room (k+1) A) (env:Env):Room k (A.deeper env) :=
 ⟨r.hd,by have:=r.dp;show A.depth+1+3*k+5<_;omega,by have:=r.un;show A.units+3+16*k+200<_;omega⟩
theorem make_depth {A:Around} {C:Addr} {us:List Value} {kw:List (Str × Value)}:(A.under (.builtin "type.__call__" ⟨.ref C::us,kw⟩)).depth=A.depth+1:=by
 first | rfl | simp [Around.under,Code.weight,Code.isCreation,Code.isGuard,Code.isCaller,Code.frames,Code.isFrame,guardIds]
theorem make_units {A:Around} {C:Addr} {us:List Value} {kw:List (Str × Value)}:(A.under (.builtin "type.__call__" ⟨.ref C::us,kw⟩)).units=A.units+1:=by
 first | rfl | simp [Around.under,Code.cUnits,Code.frames,Code.isFrame]
theorem Room.make {k:Nat} {A:Around} (r:Room (k+1) A) (C:Addr) (us:List Value) (kw:List (Str × Value)):Room k (A.under (.builtin "type.__call__" ⟨.ref C::us,kw⟩)) :=
 ⟨r.hd,by have:=r.dp;rw [make_depth];omega,by have:=r.un;rw [make_units];omega⟩
theorem Room.depth {k:Nat} {A:Around} (r:Room k A):A.depth<recursionLimit:=by have:=r.dp;omega
theorem Room.units {k:Nat} {A:Around} (r:Room k A):A.units+64<cLine:=by have:=r.un;omega
noncomputable def tNil:TA:=fun _ H Q=>Q [] H
noncomputable def tCons (ta:TE) (tr:TA):TA:=fun σ H Q=>ta σ H fun x H1=>tr σ H1 fun xs H2=>Q (x::xs) H2
section
variable {X:Cx} {e:Expr} {es:List Expr} {te:TE} {t:TA} {pos:Pos}
theorem pa_nil:PA X [] tNil:=fun _ _ _ _ H Q I h=>Calls.spliced_nil ⟨[],H,I,.nil,h⟩
theorem pa_cons (ha:PE X e te) (hr:PA X es t) (hs:starEach (e::es) X.env=(false,eval e X.env)::starEach es X.env:=by rfl):PA X (e::es) (tCons te t):=by
 intro pos pins s σ H Q I h
 rw [hs]
 show wpAny _ _ (spliced ((false,eval e X.env)::backTo pos (starEach es X.env))) _ _ s
 refine Calls.spliced_cons (thn (ha pins s σ H _ I h) fun u s1 hsl31=>?_)
 obtain ⟨x,H1,I1,r1,q1⟩:=hsl31
 exact thn (hr pos pins s1 σ H1 _ I1 q1) fun us s2 hsl32=>by obtain ⟨xs,H2,I2,r2,q2⟩:=hsl32;exact ⟨x::xs,H2,I2,.cons r1 r2,q2⟩
noncomputable def tTup (t:TA):TE:=fun σ H Q=>t σ H fun xs H1=>xs.length<=sizeLine/\∀ p,H1 p=none->Q (.ref p) (upd H1 p (.tup xs))
noncomputable def tLst (t:TA):TE:=fun σ H Q=>t σ H fun xs H1=>xs.length<=sizeLine/\∀ p,H1 p=none->Q (.ref p) (upd H1 p (.lst xs))
theorem pe_tup {x1} (h:PA X es t):PE X (.Tuple es x1 pos) (tTup t):=by
 intro pins s σ H Q I hq
 refine wpAny_Tuple_spliced (thn (h pos pins s σ H _ I hq) fun us s1 ⟨xs,H1,I1,r,z,q⟩=>⟨by rw [<- r.length];exact z,?_⟩)
 have hf:H1 s1.heap.objs.size=none:=I1.hok.fresh (Nat.le_refl _)
 refine ⟨.ref s1.heap.objs.size,upd H1 s1.heap.objs.size (.tup xs),I1.laid (t':=s1.toks) (fun b u e=>Heap.get?_push_of_some _ e) (Nat.le_refl _) ?_,rfl,q _ hf⟩
 exact ⟨z,us,r,⟨_,Heap.get?_push_size _ rfl,rfl,_,rfl⟩⟩
theorem pe_lst (h:PA X es t):PE X (.List es pos) (tLst t):=by
 intro pins s σ H Q I hq
 refine wpAny_List_spliced (thn (h pos pins s σ H _ I hq) fun us s1 ⟨xs,H1,I1,r,z,q⟩=>⟨by rw [<- r.length];exact z,?_⟩)
 have hf:H1 s1.heap.objs.size=none:=I1.hok.fresh (Nat.le_refl _)
 refine ⟨.ref s1.heap.objs.size,upd H1 s1.heap.objs.size (.lst xs),I1.laid (t':=s1.toks) (fun b u e=>Heap.get?_push_of_some _ e) (Nat.le_refl _) ?_,rfl,q _ hf⟩
 exact ⟨z,us,0,r,Heap.get?_push_size _ rfl⟩
end
noncomputable abbrev Sp:=List V->Hp->VK->XK->Prop
noncomputable abbrev CXT:=List Env->Hp->Shared->XK->Value->Shared->Prop
structure Env0 (P:Program) (w:World) (K:PySem.W.Frag) (mg:Str->Option Value) (base:Heap) (A:Around) (outer:List Env) (s:Shared) (H:Hp):Prop where
 frames:A.frames=some outer
 mod:Mod K mg base
 bs:∀ b o,base.get? b=some o->s.heap.get? b=some o/\H b=none
 bsz:base.objs.size<=s.heap.objs.size
 funs:s.heap.FunFrames base outer
 frf:∀ b∈frs outer,H b=none
 hok:HOk P w H s.heap
 bare:AllBare s.gens
noncomputable def CE (outer:List Env) (P:Program) (w:World) (H:Hp) (s:Shared) (Q:VK) (u:Value) (s':Shared):Prop :=
 ∃ v H',s'.os=s.os/\AllBare s'.gens/\Un (frs outer) [] H H' s.heap s'.heap/\HOk P w H' s'.heap/\RelV v u/\Q v H'
noncomputable def CR (CX:CXT) (outer:List Env) (P:Program) (w:World) (H:Hp) (s:Shared) (Q:VK) (E:XK) (r:Result) (s':Shared):Prop :=
 match r with
 | .ok (.ret u)=>CE outer P w H s Q u s'
 | .ok _=>False
 | .error e=>CX outer H s E e s'
structure FnOk (P:Program) (w:World) (K:PySem.W.Frag) (mg:Str->Option Value) (base:Heap) (CX:CXT) (k:Nat) (f:Addr) (fd:FuncData) (ps:List Str) (sp:Sp):Prop where
 len:∀ vs H Q E,sp vs H Q E->vs.length=ps.length
 run:∀ (A:Around) (outer:List Env) (s:Shared) (H:Hp) (args:Args) (us:List Value) (vs:List V) (Q:VK) (E:XK),Room k A->Env0 P w K mg base A outer s H->BindsTo s fd args (ps.zip us)->Vals vs us->sp vs H Q E ->
  codeAny (model P w) A (.call (.ref f) args) (CR CX outer P w H s Q E) s
theorem Env0.make {P:Program} {w:World} {K:PySem.W.Frag} {mg:Str->Option Value} {base:Heap} {A:Around} {outer:List Env} {s:Shared} {H:Hp} (e:Env0 P w K mg base A outer s H) (C:Addr) (us:List Value) (kw:List (Str × Value)) :
  Env0 P w K mg base (A.under (.builtin "type.__call__" ⟨.ref C::us,kw⟩)) outer s H:=⟨by first | exact e.frames | (simpa [Around.under,Code.envs,Code.isFrame,pushEnvs] using e.frames),e.mod,e.bs,e.bsz,e.funs,e.frf,e.hok,e.bare⟩
section
variable {X:Cx} {pins:List (Addr × Obj)} {σ:St} {H:Hp} {s s':Shared}
theorem Inv.env0 (I:Inv X pins σ H s):Env0 X.prog X.w X.K X.mg X.base X.A X.stack s H :=
 ⟨I.ok.frames,I.ok.mod,I.bs,Nat.le_trans I.ok.bsz I.sz,I.stack,I.stkFree,I.hok,I.bare⟩
theorem Inv.after {Q:VK} {u:Value} (I:Inv X pins σ H s) (h:CE X.stack X.prog X.w H s Q u s'):EP X pins σ Q u s':=by
 obtain ⟨v,H',os,bare,un,hok,r,q⟩:=h
 obtain ⟨hh,g,d,t,os'⟩:=s'
 obtain rfl:os'=s.os:=os
 exact ⟨v,H',I.call (h':=hh) (g':=g) (d':=d) (t':=t) (ch:=[]) un hok bare (fun b z=>absurd z (by simp)),r,q⟩
end
noncomputable def tCall (sp:Sp) (dvs:List V) (E:XK) (t:TA):TE:=fun σ H Q=>t σ H fun vs H1=>sp (vs++dvs) H1 Q E
noncomputable def tMeth (C:Addr) (m:Str) (sp:Sp) (dvs:List V) (E:XK) (ta:TE) (t:TA):TE:=fun σ H Q=>ta σ H fun x H1=>∃ a dx fs,x=.ref a/\H1 a=some (.ins C dx fs)/\fs.lookup m=none /\
 t σ H1 fun vs H2=>sp (x::(vs++dvs)) H2 Q E
noncomputable def tMake (C:Addr) (sp:Sp) (dvs:List V) (E:XK) (t:TA):TE:=fun σ H Q=>t σ H fun vs H1=>∀ x dx,H1 x=none->H1 dx=none->dx≠x ->
 sp (.ref x::(vs++dvs)) (upd (upd H1 dx (.own x)) x (.ins C dx [])) (fun v H2=>v=.non/\Q (.ref x) H2) E
noncomputable def Binds (K:PySem.W.Frag) (fd:FuncData) (ps:List Str) (ds:List Value):Prop :=
 ∀ (s:Shared) (us:List Value),K.In s.heap->(us++ds).length=ps.length->BindsTo s fd ⟨us,[]⟩ (ps.zip (us++ds))
theorem Binds.all {K:PySem.W.Frag} {fd:FuncData} {ps:List Str} (h:∀ us:List Value,us.length=ps.length->bindArgs fd ⟨us,[]⟩=pure (ps.zip us)):Binds K fd ps []:=fun s us _ hl=>by
 rw [List.append_nil] at hl ⊢
 exact .of_eq (h us hl)
noncomputable def Passes (CX:CXT) (X:Cx) (E:XK):Prop:=∀ (pins:List (Addr × Obj)) (σ:St) (H:Hp) (s:Shared) (e:Value) (s':Shared),Inv X pins σ H s->CX X.stack H s E e s'->X.xe e s'
section
variable {X:Cx} {CX:CXT} {k:Nat} {f C:Addr} {fd:FuncData} {ps:List Str} {sp:Sp} {dvs:List V} {ds:List Value} {E:XK} {x m:Str} {p pos apos:Pos} {e o:Expr} {es:List Expr} {ta:TE} {t:TA}
theorem run_fn {pins:List (Addr × Obj)} {σ:St} {H:Hp} {s:Shared} {Q:VK} {us:List Value} {vs:List V} (F:FnOk X.prog X.w X.K X.mg X.base CX k f fd ps sp) (hr:Room k X.A) (hb:Binds X.K fd ps ds) (hd:Vals dvs ds) (hx:Passes CX X E)
  (I:Inv X pins σ H s) (r:Vals vs us) (h:sp (vs++dvs) H Q E):wpAny (model X.prog X.w) X.A (call (.ref f) us) (EP X pins σ Q) X.xe s:=by
 have r2:Vals (vs++dvs) (us++ds):=r.append hd
 have hl:(us++ds).length=ps.length:=by rw [<- r2.length];exact F.len _ _ _ _ h
 refine wpAny_call (codeAny_mono (F.run X.A X.stack s H ⟨us,[]⟩ (us++ds) (vs++dvs) Q E hr I.env0 (hb s us I.kIn hl) r2 h) fun r s' hq=>?_)
 cases r with
 | error e=>exact hx pins σ H s e s' I hq
 | ok fl =>
  cases fl with
  | ret u=>exact I.after hq
  | next=>exact False.elim hq
  | brk=>exact False.elim hq
  | cont=>exact False.elim hq
theorem pe_call (F:FnOk X.prog X.w X.K X.mg X.base CX k f fd ps sp) (hr:Room k X.A) (hg:Gl X x) (hm:X.mg x=some (.ref f)) (hk:PySem.W.keepIn X.K (.ref f)=true) (hb:Binds X.K fd ps ds) (hd:Vals dvs ds) (hx:Passes CX X E)
  (ha:PA X (e::es) t) (hdb:(x == ("__debug__":Str))=false:=by decide) (he:starEach (e::es) X.env=(false,eval e X.env)::starEach es X.env:=by rfl) (hpl:(backTo pos (starEach es X.env)).any (·.1)=false:=by rfl) :
  PE X (.Call (.Name x p) (e::es) [] pos) (tCall sp dvs E t):=by
 intro pins s σ H Q I h
 refine wpAny_Call_Name_kw (ld_glob I hg hm ?_ hdb)
 refine PySem.W.callWith_K (h₀:=X.base) I.ok.mod.kin hk (thn (ha pos pins s σ H _ I h) fun us s1 ⟨vs,H1,I1,r,q⟩=>⟨I1.kIn,?_⟩) he hpl
 exact run_fn F hr hb hd hx I1 r q
theorem pe_meth {pl:Sem Bool} (he:PE X o ta) (c:Cls X.K C) (hm:Meth X.K C m f) (F:FnOk X.prog X.w X.K X.mg X.base CX k f fd ps sp) (hr:Room k X.A) (hb:Binds X.K fd ps ds) (hd:Vals dvs ds) (hx:Passes CX X E) (ha:PA X (e::es) t)
  (hst:starEach (e::es) X.env=(false,eval e X.env)::starEach es X.env:=by rfl) (hpl:(backTo pos (starEach es X.env)).any (·.1)=false:=by rfl)
  (ht:eval (.Call (.Attribute o m apos) (e::es) [] pos) X.env=(do
   let ov <- eval o X.env
   standAt apos.atName
   let (f,first) <- holding [ov] (getMethod ov m pl)
   callWith pos f first (backTo pos (starEach (e::es) X.env)) (backToKw pos (keywordEach [] X.env))):=by rfl) :
  PE X (.Call (.Attribute o m apos) (e::es) [] pos) (tMeth C m sp dvs E ta t):=by
 intro pins s σ H Q I h
 refine PySem.W.methodCall_KW (pl:=pl) (thn (he pins s σ H _ I h) fun u s1 hsl33=>?_) ht
 obtain ⟨x,H1,I1,rx,a,dx,fs,ex,ea,l,q⟩:=hsl33
 subst ex
 obtain rfl:u=Value.ref a:=rx
 refine getmeth_ok I1 ea c hm l ?_
 refine PySem.W.callWith_K (first:=[.ref a]) (h₀:=X.base) I.ok.mod.kin hm.kp (thn (ha pos pins s1 σ H1 _ I1 q) fun us s2 ⟨vs,H2,I2,r,q2⟩=>⟨I2.kIn,?_⟩) hst hpl
 exact run_fn (us:=.ref a::us) (vs:=.ref a::vs) F hr hb hd hx I2 (.cons rfl r) q2
theorem pe_meth0 {pl:Sem Bool} (he:PE X o ta) (c:Cls X.K C) (hm:Meth X.K C m f) (F:FnOk X.prog X.w X.K X.mg X.base CX k f fd ps sp) (hr:Room k X.A) (hb:Binds X.K fd ps ds) (hd:Vals dvs ds) (hx:Passes CX X E)
  (ht:eval (.Call (.Attribute o m apos) [] [] pos) X.env=(do
   let ov <- eval o X.env
   standAt apos.atName
   let (f,first) <- holding [ov] (getMethod ov m pl)
   callWith pos f first (backTo pos (starEach [] X.env)) (backToKw pos (keywordEach [] X.env))):=by rfl) :
  PE X (.Call (.Attribute o m apos) [] [] pos) (tMeth C m sp dvs E ta tNil):=by
 intro pins s σ H Q I h
 refine PySem.W.methodCall_KW (pl:=pl) (thn (he pins s σ H _ I h) fun u s1 hsl34=>?_) ht
 obtain ⟨x,H1,I1,rx,a,dx,fs,ex,ea,l,q⟩:=hsl34
 subst ex
 obtain rfl:u=Value.ref a:=rx
 refine getmeth_ok I1 ea c hm l ?_
 exact PySem.W.callWith_K0 (first:=[.ref a]) I1.kIn hm.kp (run_fn (us:=[.ref a]) (vs:=[.ref a]) F hr hb hd hx I1 (.cons rfl .nil) q)
structure Mk (K:PySem.W.Frag) (C f:Addr):Prop where
 makes:PySem.W.makesIn K C=true
 init:PySem.W.findIn K (.ref C) "__init__"=some (some (.ref f))
 fn:PySem.W.isFn K (.ref f)=true
 kp:PySem.W.keepIn K (.ref C)=true
theorem run_make {pins:List (Addr × Obj)} {σ:St} {H:Hp} {s:Shared} {Q:VK} {us:List Value} {vs:List V} (M:Mk X.K C f) (F:FnOk X.prog X.w X.K X.mg X.base CX k f fd ps sp) (hr:Room (k+1) X.A) (hb:Binds X.K fd ps ds) (hd:Vals dvs ds)
  (hx:Passes CX X E) (I:Inv X pins σ H s) (r:Vals vs us)
  (h:∀ x dx,H x=none->H dx=none->dx≠x->sp (.ref x::(vs++dvs)) (upd (upd H dx (.own x)) x (.ins C dx [])) (fun v H2=>v=.non/\Q (.ref x) H2) E) :
  wpAny (model X.prog X.w) X.A (call (.ref C) us) (EP X pins σ Q) X.xe s:=by
 have hq:=h (s.heap.objs.size+1) s.heap.objs.size (I.hok.fresh (Nat.le_succ _)) (I.hok.fresh (Nat.le_refl _)) (Nat.ne_of_lt (Nat.lt_succ_self _))
 have I2:=Inv.made (C:=C) I
 have r2:Vals (V.ref (s.heap.objs.size+1)::(vs++dvs)) (Value.ref (s.heap.objs.size+1)::(us++ds)):=.cons rfl (r.append hd)
 have hl:(Value.ref (s.heap.objs.size+1)::us++ds).length=ps.length:=by
  have e:=r2.length
  rw [F.len _ _ _ _ hq] at e
  exact e.symm
 refine wpAny_call (make_map (f:=f) I.kIn M.makes M.init (beq_iff_eq.mp M.fn) (codeAny_mono (F.run _ X.stack _ _ ⟨Value.ref (s.heap.objs.size+1)::us,[]⟩ (Value.ref (s.heap.objs.size+1)::(us++ds)) _ _ E (hr.make C us [])
  (I2.env0.make C us []) (hb _ (Value.ref (s.heap.objs.size+1)::us) I2.kIn hl) r2 hq) fun r s' hq'=>?_))
 cases r with
 | error e=>exact hx pins σ _ _ e s' I2 hq'
 | ok fl =>
  cases fl with
  | ret u =>
   obtain ⟨v,H',I3,rv,ev,q3⟩:=I2.after hq'
   subst ev
   exact ⟨rv,⟨V.ref (s.heap.objs.size+1),H',I3,rfl,q3⟩⟩
  | next=>exact False.elim hq'
  | brk=>exact False.elim hq'
  | cont=>exact False.elim hq'
theorem pe_make (M:Mk X.K C f) (F:FnOk X.prog X.w X.K X.mg X.base CX k f fd ps sp) (hr:Room (k+1) X.A) (hg:Gl X x) (hm:X.mg x=some (.ref C)) (hb:Binds X.K fd ps ds) (hd:Vals dvs ds) (hx:Passes CX X E)
  (ha:PA X (e::es) t) (hdb:(x == ("__debug__":Str))=false:=by decide) (he:starEach (e::es) X.env=(false,eval e X.env)::starEach es X.env:=by rfl) (hpl:(backTo pos (starEach es X.env)).any (·.1)=false:=by rfl) :
  PE X (.Call (.Name x p) (e::es) [] pos) (tMake C sp dvs E t):=by
 intro pins s σ H Q I h
 refine wpAny_Call_Name_kw (ld_glob I hg hm ?_ hdb)
 refine PySem.W.callWith_K (h₀:=X.base) I.ok.mod.kin M.kp (thn (ha pos pins s σ H _ I h) fun us s1 ⟨vs,H1,I1,r,q⟩=>⟨I1.kIn,?_⟩) he hpl
 exact run_make M F hr hb hd hx I1 r q
end
section
variable {X:Cx} {CX:CXT} {k:Nat} {f C:Addr} {fd:FuncData} {ps ks:List Str} {sp:Sp} {E:XK} {x m:Str} {p pos apos kpos:Pos} {e o:Expr} {es:List Expr} {kws:List Keyword} {te ta:TE} {t tk:TA} {nm:Option Str}
variable {g:List Value->List Value->List Value} {gV:List V->List V->List V}
end
structure FnScope (N P:List Str) (sc:Scope):Prop where
 kind:sc.kind=.function
 co:sc.isCoroutine=false
 gen:sc.isGenerator=false
 nd:N.Nodup
 pre:N.take P.length=P
 par:∀ x∈P,sc.names.lookup x=some .local∨sc.names.lookup x=some .cell
 nofree:∀ y∈sc.names,y.2≠.free
theorem bindL_out {kindOf:Str->Option NameKind} {x:Str}:∀ {binds:List (Str × Value)} {m:Str->Option Value},(∀ v,(x,v)∉binds)->bindL kindOf binds m x=m x
 | [],_,_=>rfl
 | (n,v)::r,m,h=>by
  unfold bindL
  rw [bindL_out fun w hw=>h w (List.mem_cons_of_mem _ hw)]
  split
  ·have:x≠n:=by rintro rfl;exact h v List.mem_cons_self
   simp [this]
  ·rfl
theorem bindC_out {kindOf:Str->Option NameKind} {x:Str}:∀ {binds:List (Str × Value)} {m:Str->Option Value},(∀ v,(x,v)∉binds)->bindC kindOf binds m x=m x
 | [],_,_=>rfl
 | (n,v)::r,m,h=>by
  unfold bindC
  rw [bindC_out fun w hw=>h w (List.mem_cons_of_mem _ hw)]
  split
  ·rfl
  ·have:x≠n:=by rintro rfl;exact h v List.mem_cons_self
   simp [this]
theorem bindL_get {kindOf:Str->Option NameKind} {x:Str} {v:Value}:∀ {P:List Str} {vs:List Value} {i:Nat} {m:Str->Option Value},P.Nodup->P[i]?=some x->vs[i]?=some v->kindOf x=some .local ->
  bindL kindOf (P.zip vs) m x=some v
 | [],_,_,_,_,h,_,_=>by simp at h
 | _::_,[],_,_,_,_,h,_=>by simp at h
 | p::P,w::vs,0,m,nd,h1,h2,hk=>by
  simp at h1 h2;subst h1;subst h2
  show bindL kindOf ((p,w)::P.zip vs) m p=_
  unfold bindL
  rw [bindL_out fun v hv=>(List.nodup_cons.mp nd).1 (List.of_mem_zip hv).1,if_pos hk]
  simp
 | p::P,w::vs,i+1,m,nd,h1,h2,hk=>by
  show bindL kindOf ((p,w)::P.zip vs) m x=_
  unfold bindL
  exact bindL_get (i:=i) (List.nodup_cons.mp nd).2 (by simpa using h1) (by simpa using h2) hk
theorem bindC_get {kindOf:Str->Option NameKind} {x:Str} {v:Value}:∀ {P:List Str} {vs:List Value} {i:Nat} {m:Str->Option Value},P.Nodup->P[i]?=some x->vs[i]?=some v->kindOf x≠some .local ->
  bindC kindOf (P.zip vs) m x=some v
 | [],_,_,_,_,h,_,_=>by simp at h
 | _::_,[],_,_,_,_,h,_=>by simp at h
 | p::P,w::vs,0,m,nd,h1,h2,hk=>by
  simp at h1 h2;subst h1;subst h2
  show bindC kindOf ((p,w)::P.zip vs) m p=_
  unfold bindC
  rw [bindC_out fun v hv=>(List.nodup_cons.mp nd).1 (List.of_mem_zip hv).1,if_neg hk]
  simp
 | p::P,w::vs,i+1,m,nd,h1,h2,hk=>by
  show bindC kindOf ((p,w)::P.zip vs) m x=_
  unfold bindC
  exact bindC_get (i:=i) (List.nodup_cons.mp nd).2 (by simpa using h1) (by simpa using h2) hk
noncomputable def start (N:List Str) (vs:List V):St:=vs.map some++List.replicate (N.length-vs.length) none
noncomputable def cxOf (CX:CXT) (P:Program) (w:World) (K:PySem.W.Frag) (mg:Str->Option Value) (base:Heap) (N:List Str) (qual:Str) (scope:Scope) (f:Addr) (cd:Value) (A:Around) (outer:List Env) (s:Shared) (H:Hp) (E:XK):Cx where
 prog:=P
 w:=w
 K:=K
 mg:=mg
 base:=base
 A:=A.deeper (envOfC qual scope s.heap.objs.size f cd)
 N:=N
 s₀:=s
 H₀:=H
 env:=envOfC qual scope s.heap.objs.size f cd
 outer:=outer
 stack:=envOfC qual scope s.heap.objs.size f cd::outer
 ex:=[]
 calm:=true
 fn:=fun _=>true
 pn:=[]
 xe:=fun e s'=>wpAny (model P w) (A.deeper (envOfC qual scope s.heap.objs.size f cd)) (leaving (envOfC qual scope s.heap.objs.size f cd) e) (fun _ s''=>CX outer H s E e s'') (fun e' s''=>CX outer H s E e' s'') s'
theorem cell_has {sc:Scope} {n:Nat} {x:Str} (h:sc.names.lookup x=some .cell):∃ c,(cellsFrom n sc.names []).lookup x=some c:=by
 have q:=PySem.W.cellsFrom_some sc.names n [] (.inl h)
 exact Option.isSome_iff_exists.mp q
theorem inv_start {CX:CXT} {P:Program} {w:World} {K:PySem.W.Frag} {mg:Str->Option Value} {base:Heap} {N ps:List Str} {qual:Str} {scope:Scope} {f:Addr} {cd:Value} {A:Around} {outer:List Env} {s s1:Shared} {H:Hp} {E:XK} {us:List Value} {vs:List V}
  (S:FnScope N ps scope) (hd:A.handled=none) (e0:Env0 P w K mg base A outer s H) (hl:vs.length=ps.length) (r:Vals vs us)
  (x:InCallC s s.heap.objs.size (bindL (envOfC qual scope s.heap.objs.size f cd).kindOf (ps.zip us) fun _=>none) (cellsFrom (s.heap.objs.size+1) scope.names []) (bindC (envOfC qual scope s.heap.objs.size f cd).kindOf (ps.zip us) fun _=>none) s1) :
  Inv (cxOf CX P w K mg base N qual scope f cd A outer s H E) [] (start N vs) H s1:=by
 have hpl:ps.length<=N.length:=by have:=congrArg List.length S.pre;rw [List.length_take] at this;omega
 obtain ⟨h1,tk,rfl,hk⟩:=x.done
 have noA:∀ b:Addr,b∉(cxOf CX P w K mg base N qual scope f cd A outer s H E).ex:=fun b z=>absurd (show b∈([]:List Addr) from z) (by simp)
 refine ⟨⟨e0.mod,S.kind,rfl,rfl,Nat.le_refl _,fun y z c h1 h2=>?_,fun y hy=>?_,fun y c _ h=>?_,fun _=>hd,Around.frames_deeper e0.frames,.inr ⟨rfl,rfl⟩,fun b z=>absurd z (noA b),e0.bs,e0.bsz,fun b _ _=>noA b,fun b z=>absurd z (noA b),e0.funs,e0.frf⟩,
  rfl,e0.bare,Un.kept hk,⟨_,x.toInCall.ns,fun i y v h1 h2 h3=>?_⟩,fun y c h=>⟨_,x.cell y c h⟩,e0.hok.fresh (Nat.le_refl _),fun y c h=>?_,fun p hp=>absurd (show p∈([]:List (Addr × Obj)) from hp) (by simp),e0.hok.kept hk,?_⟩
 ·exact name_of_addr x.apart (PySem.mem_of_lookup h1) (PySem.mem_of_lookup h2)
 ·have hy:scope.names.lookup y=some .cell∨scope.names.lookup y=some .free:=hy
  rcases hy with hy | hy
  ·exact cell_has hy
  ·exact absurd rfl (S.nofree _ (PySem.mem_of_lookup hy))
 ·exact Nat.le_of_lt (x.above y c (PySem.mem_of_lookup h))
 ·have hi:i<vs.length:=by
   unfold start at h2
   by_cases hi:i<vs.length
   ·exact hi
   ·rw [List.getElem?_append_right (by simpa using hi)] at h2
    rw [List.getElem?_replicate] at h2
    split at h2<;>cases h2
  have ha:vs[i]?=some v:=by
   unfold start at h2
   rw [List.getElem?_append_left (by simpa using hi),List.getElem?_map] at h2
   cases e:vs[i]? with
   | none=>rw [e] at h2;cases h2
   | some a=>rw [e] at h2;cases h2;rfl
  obtain ⟨u,hu,rv⟩:=r.get ha
  have hp:ps[i]?=some y:=by
   rw [<- S.pre,List.getElem?_take_of_lt (by omega)];exact h1
  have ndP:ps.Nodup:=by rw [<- S.pre];exact S.nd.sublist (List.take_sublist _ _)
  refine ⟨u,rv,?_⟩
  rcases S.par y (List.mem_of_getElem? hp) with k | k
  ·exact .inl ⟨k,bindL_get ndP hp hu k⟩
  ·obtain ⟨c,e⟩:=cell_has (n:=s.heap.objs.size+1) k
   refine .inr ⟨.inl k,c,e,?_⟩
   have q:=x.cell y c e
   rw [bindC_get ndP hp hu (by show scope.names.lookup y≠_;rw [k];decide)] at q
   exact q
 ·exact e0.hok.fresh (Nat.le_of_lt (x.above y c (PySem.mem_of_lookup h)))
 ·unfold start
  show _=N.length
  rw [List.length_append,List.length_map,List.length_replicate]
  omega
theorem fn_of {CX:CXT} {P:Program} {w:World} {K:PySem.W.Frag} {mg:Str->Option Value} {base:Heap} {k:Nat} {f:Addr} {name qual:Str} {params:Arguments} {body:List Stmt} {scope:Scope} {dV kV doc pm cdv ct oc:Value} {an od:Option Addr}
  {osl:Array (Option Value)} {N ps:List Str} {sp:Sp} (lk:K.lookup f=some ⟨oc,od,.func (PySem.W.fnOf name qual params body scope dV kV doc pm an cdv ct),osl⟩) (hcd:PySem.W.codeIn K cdv qual=true) (S:FnScope N ps scope)
  (len:∀ vs H Q E,sp vs H Q E->vs.length=ps.length)
  (hbody:∀ (A:Around) (outer:List Env) (s:Shared) (H:Hp) (vs:List V) (Q:VK) (E:XK),Room k (A.deeper (envOfC qual scope s.heap.objs.size f cdv))->sp vs H Q E ->
   ∃ t,PSs (cxOf CX P w K mg base N qual scope f cdv A outer s H E) body t/\t { nx:=fun _ H'=>Q .non H',rt:=Q } (start N vs) H) :
  FnOk P w K mg base CX (k+1) f (PySem.W.fnOf name qual params body scope dV kV doc pm an cdv ct) ps sp:=by
 refine ⟨len,fun A outer s H args us vs Q E hr e0 hb r hsp=>?_⟩
 have hl:=len _ _ _ _ hsp
 have KX:K.In s.heap:=e0.mod.kin.keeps fun b o e=>(e0.bs b o e).1
 have lim:s.heap.NoLimit:=e0.mod.nolimit.keeps fun b o e=>(e0.bs b o e).1
 have hkind:∀ y∈ps.zip us,scope.names.lookup y.1=some .local∨(scope.names.lookup y.1=some .cell/\((cellsFrom (s.heap.objs.size+1) scope.names []).lookup y.1).isSome=true):=fun ⟨n,v⟩ hy=>by
  rcases S.par n (List.of_mem_zip hy).1 with q | q
  ·exact .inl q
  ·exact .inr ⟨q,PySem.W.cellsFrom_some _ _ _ (.inl q)⟩
 refine codeAny_call_function hr.depth (KX _ _ lk) rfl S.co S.gen rfl (PySem.W.codeRec_of KX hcd) (hb _ _ _ _ ?_)
 refine wpAny_newFunctionEnv_cells S.kind hkind fun env he s1 x=>?_
 subst he
 refine ⟨lim.keeps x.toInCall.keep,codeAny_func ?_⟩
 obtain ⟨t,ht,hq⟩:=hbody A outer s H vs Q E (hr.deeper _) hsp
 have I:Inv (cxOf CX P w K mg base N qual scope f cdv A outer s H E) [] (start N vs) H s1:=inv_start S hr.hd e0 hl r x
 refine wpAny_mono (ht [] s1 (start N vs) H _ I hq) (fun fl s' hs=>?_) fun e s' hs=>hs
 have fin:∀ {σ':St} {H':Hp} {v:V} {u:Value},Inv (cxOf CX P w K mg base N qual scope f cdv A outer s H E) [] σ' H' s'->RelV v u->Q v H'->CE outer P w H s Q u s' :=
  fun {σ' H' v u} J rv q=>⟨v,H',J.os,J.bare,J.base,J.hok,rv,q⟩
 cases fl with
 | ret u =>
  obtain ⟨v,σ',H',J,rv,q⟩:=hs
  exact fin J rv q
 | next =>
  obtain ⟨σ',H',J,q⟩:=hs
  exact fin (v:=V.non) (u:=Value.none) J rfl q
 | brk =>
  obtain ⟨_,_,_,q⟩:=hs
  exact False.elim q
 | cont =>
  obtain ⟨_,_,_,q⟩:=hs
  exact False.elim q
end L2
namespace L2
open PySem PySem.Spec PyProof.Rows
section
variable {X:Cx} {x:Str} {p pos:Pos} {e:Expr} {es:List Expr} {t:TA} {id T:String} {r:List V->Hp->VK->Prop}
noncomputable def tCB (r:List V->Hp->VK->Prop) (t:TA):TE:=fun σ H Q=>t σ H fun vs H1=>r vs H1 Q
theorem pe_callB (hc:CallR X (.builtin id) r) (hg:Gl X x) (hm:X.mg x=none) (hv:bootBuiltins x=some (.builtin id)) (ha:PA X (e::es) t) (hn:x≠"__name__":=by decide) (hdb:(x == ("__debug__":Str))=false:=by decide)
  (he:starEach (e::es) X.env=(false,eval e X.env)::starEach es X.env:=by rfl) (hpl:(backTo pos (starEach es X.env)).any (·.1)=false:=by rfl):PE X (.Call (.Name x p) (e::es) [] pos) (tCB r t):=by
 intro pins s σ H Q I h
 refine wpAny_Call_Name_kw (ld_blt I hg hm hv ?_ hn hdb)
 exact PyProof.Rows.callWith_builtin1 (thn (ha pos pins s σ H _ I h) fun us s1 hsl35=>by obtain ⟨vs,H1,I1,r1,q1⟩:=hsl35;exact hc pins s1 σ H1 vs us Q I1 r1 q1) he hpl
theorem pe_callTy (hc:CallR X (.type T) r) (hg:Gl X x) (hm:X.mg x=none) (hv:bootBuiltins x=some (.type T)) (ha:PA X (e::es) t) (hn:x≠"__name__":=by decide) (hdb:(x == ("__debug__":Str))=false:=by decide)
  (he:starEach (e::es) X.env=(false,eval e X.env)::starEach es X.env:=by rfl) (hpl:(backTo pos (starEach es X.env)).any (·.1)=false:=by rfl):PE X (.Call (.Name x p) (e::es) [] pos) (tCB r t):=by
 intro pins s σ H Q I h
 refine wpAny_Call_Name_kw (ld_blt I hg hm hv ?_ hn hdb)
 exact PyProof.Rows.callWith_type1 (thn (ha pos pins s σ H _ I h) fun us s1 hsl36=>by obtain ⟨vs,H1,I1,r1,q1⟩:=hsl36;exact hc pins s1 σ H1 vs us Q I1 r1 q1) he hpl
end
end L2
namespace HT
open PySem PyProof.Rows
section
open PySem.SeqAt
open PySem.AutoSeq1 (wpAny_loadPart')
open PySem.MeetsSeq PySem.MeetsSeq2 PySem.MeetsSeq3
end
section
variable {prog:Program} {w:World} {A:Around} {E:Value->Shared->Prop} {s:Shared}
theorem cat_tup {t b:Addr} {vs ws:List Value} {Q:Value->Shared->Prop} (ht:IsTup s.heap t vs.toArray) (hb:IsTup s.heap b ws.toArray) (hv:vs≠[])
  (h1:ws=[]->Q (.ref t) s) (h2:ws≠[]->Q (.ref s.heap.objs.size) { s with heap:=s.heap.push { cls:=.type "tuple",data:=.seq (vs++ws).toArray } })
  (hsz:vs.length+ws.length<=sizeLine):wpAny (model prog w) A (binaryOp .Add (.ref t) (.ref b)) Q E s:=by
 obtain ⟨⟨cls,dd,data,sl⟩,ho,hc,n,hd⟩:=id ht
 obtain ⟨⟨cls2,dd2,data2,sl2⟩,ho2,hc2,n2,hd2⟩:=id hb
 simp only at hc hd hc2 hd2
 subst hc hd hc2 hd2
 have e:vs.toArray++ws.toArray=(vs++ws).toArray:=by simp
 by_cases hw:ws=[]
 ·exact concat_meets ⟨_,ho,rfl⟩ ⟨_,ho2,rfl⟩ noFill_tuple_add seq_tuple_add PySem.F.slot_tuple_add PySem.F.entry_tuple_add (PySem.F.args_tuple_add_2 _ _)
   (tuple_addW1 t b vs.toArray ws.toArray n n2 dd dd2 sl sl2 (by simpa using hv) (by simp [hw])) ⟨ho,ho2,h1 hw⟩
 ·refine concat_meets ⟨_,ho,rfl⟩ ⟨_,ho2,rfl⟩ noFill_tuple_add seq_tuple_add PySem.F.slot_tuple_add PySem.F.entry_tuple_add (PySem.F.args_tuple_add_2 _ _)
   (tuple_addW2 t b vs.toArray ws.toArray n n2 dd dd2 sl sl2 (by simpa using hv) (by simpa using hw) (by rw [List.size_toArray,List.size_toArray];exact hsz)) ⟨ho,ho2,?_⟩
  rw [e]
  exact h2 hw
noncomputable def sIx (n d:Nat):Option Int->Nat
 | none=>d
 | some v=>if v<0 then (v+(n:Int)).toNat else min v.toNat n
theorem sIx_nat (n d k:Nat):sIx n d (some (k:Int))=min k n:=by
 show (if (k:Int)<0 then ((k:Int)+(n:Int)).toNat else min (k:Int).toNat n)=min k n
 rw [if_neg (by omega),Int.toNat_natCast]
theorem sIx_le (n d:Nat) (hd:d<=n) (o:Option Int):sIx n d o<=n:=by
 cases o with
 | none=>exact hd
 | some v =>
  show (if v<0 then (v+(n:Int)).toNat else min v.toNat n)<=n
  by_cases hv:v<0
  ·rw [if_pos hv];omega
  ·rw [if_neg hv];exact Nat.min_le_right _ _
theorem clip_eq (v:Int) (n d:Nat):(if v<0 then max (v+(n:Int)) 0 else min v (n:Int))=((sIx n d (some v):Nat):Int):=by
 show (if v<0 then max (v+(n:Int)) 0 else min v (n:Int))=(((if v<0 then (v+(n:Int)).toNat else min v.toNat n):Nat):Int)
 by_cases hv:v<0
 ·simp only [if_pos hv];omega
 ·simp only [if_neg hv];omega
theorem adjust_gen (lo hi:Option Int) (n:Nat):Builtin.Slice.sliceAdjust lo hi 1 (n:Int)=(((sIx n 0 lo:Nat):Int),((sIx n n hi:Nat):Int)):=by
 have h1:¬ ((1:Int)<0):=by omega
 unfold Builtin.Slice.sliceAdjust
 simp only [h1,if_false]
 refine Prod.ext ?_ ?_
 ·cases lo with
  | none=>rfl
  | some v=>exact clip_eq v n 0
 ·cases hi with
  | none=>rfl
  | some v=>exact clip_eq v n n
theorem places_gen (i j:Nat):Builtin.Slice.slicePlaces (i:Int) (j:Int) 1=j-i:=by
 unfold Builtin.Slice.slicePlaces
 have h1:(1:Int)>0:=by omega
 simp only [h1,if_true,Int.ediv_one]
 split<;>omega
theorem slicePart_ {v:Value} {o:Option Int} {Q:Option Int->Shared->Prop} (p:IsPart v o) (h:Q o s):wpAny (model prog w) A (Builtin.Slice.slicePartIndex v) Q E s:=by
 cases p with
 | none=>exact slicePart_none h
 | int i t=>exact slicePart_int h
theorem sliceApplied_gen {sl:Addr} {vl vu:Value} {lo hi:Option Int} {n:Nat} {Q:Int × Int × Nat->Shared->Prop} (hs:s.heap.IsSliceOf sl vl vu .none) (pl:IsPart vl lo) (pu:IsPart vu hi)
  (h:Q (((sIx n 0 lo:Nat):Int),1,sIx n n hi-sIx n 0 lo) s):wpAny (model prog w) A (Builtin.Slice.sliceApplied (.ref sl) (pure (n:Int))) Q E s:=by
 obtain ⟨os,hos,hcs,hds⟩:=id hs
 unfold Builtin.Slice.sliceApplied Builtin.Slice.sliceFields
 refine wpAny_bind (wpAny_bind (wpAny_field hos hds (x:=vl) rfl (wpAny_bind (wpAny_field hos hds (x:=vu) rfl (wpAny_bind (wpAny_field hos hds (x:=.none) rfl (wpAny_pure ?_)))))))
 refine wpAny_bind (slicePart_none ?_)
 show wpAny _ _ (if ((1:Int) == 0)=true then _ else _) _ _ s
 rw [if_neg (by decide)]
 refine wpAny_bind (slicePart_ pl (wpAny_bind (slicePart_ pu (wpAny_bind (wpAny_pure ?_)))))
 show wpAny _ _ (match Builtin.Slice.sliceAdjust lo hi 1 (n:Int) with | (lo,hi)=>pure (lo,(1:Int),Builtin.Slice.slicePlaces lo hi 1)) _ _ s
 rw [adjust_gen lo hi n]
 show wpAny _ _ (pure (((sIx n 0 lo:Nat):Int),(1:Int),Builtin.Slice.slicePlaces ((sIx n 0 lo:Nat):Int) ((sIx n n hi:Nat):Int) 1)) _ _ s
 rw [places_gen]
 exact wpAny_pure h
theorem pick_gen (xs:Array Value) (i k:Nat):((List.range k).filterMap fun (m:Nat)=>xs[((i:Int)+(m:Int)*1).toNat]?).toArray=((xs.toList.drop i).take k).toArray:=by
 have e:(fun (m:Nat)=>xs[((i:Int)+(m:Int)*1).toNat]?)=fun m=>xs[i+m]?:=by
  funext m
  have:((i:Int)+(m:Int)*1).toNat=i+m:=by omega
  rw [this]
 rw [e]
 have:=pick_run xs i k
 rw [List.filterMap_map] at this
 have e2:((fun x=>xs[x]?)∘fun x=>i+x)=fun m=>xs[i+m]?:=rfl
 rw [e2] at this
 rw [this]
theorem getItem_tuple_cut {t sl:Addr} {items:Array Value} {vl vu:Value} {lo hi:Option Int} {Q:Value->Shared->Prop} (ht:IsTup s.heap t items) (hs:s.heap.IsSliceOf sl vl vu .none) (pl:IsPart vl lo) (pu:IsPart vu hi)
  (hw:¬ (sIx items.size 0 lo=0/\sIx items.size items.size hi=items.size))
  (h:Q (.ref s.heap.objs.size) { s with heap:=s.heap.push { cls:=.type "tuple",data:=.seq ((items.toList.drop (sIx items.size 0 lo)).take (sIx items.size items.size hi-sIx items.size 0 lo)).toArray } })
  (hsz:items.size<=sizeLine):wpAny (model prog w) A (getItem (.ref t) (.ref sl)) Q E s:=by
 have htake:sizeOk (.seq ((items.toList.drop (sIx items.size 0 lo)).take (sIx items.size items.size hi-sIx items.size 0 lo)).toArray):=by
  show ((items.toList.drop (sIx items.size 0 lo)).take (sIx items.size items.size hi-sIx items.size 0 lo)).toArray.size<=sizeLine
  rw [List.size_toArray,List.length_take,List.length_drop,Array.length_toList]
  omega
 have hj:sIx items.size items.size hi<=items.size:=sIx_le _ _ (Nat.le_refl _) hi
 obtain ⟨os,hos,hcs,hds⟩:=id hs
 have hTs:s.TypeIs (.ref sl) "slice":=⟨os,hos,hcs⟩
 unfold getItem
 try with_reducible refine wpAny_holding ?_
 first | refine wpAny_bind (wpAny_pure ?_) | skip
 refine wpAny_bind (wpAny_sequenceKey ht.typeIs (by decide) ?_)
 refine wpAny_bind (wpAny_callSpecial?_slot (name:=Str.ofString "__getitem__") ht.typeIs PyProof.Rows.slot_tuple_getitem
  (wpAny_call_entry PyProof.Rows.slot_tuple_getitem ht.typeIs entry_tuple_getitem ?_ (args_tuple_getitem _ _)))
 show wpAny _ _ (Builtin.Tuple.tupleItemsOf (.ref t) >>= _) _ _ s
 refine wpAny_bind (tupleItemsOf_ ht ?_)
 refine wpAny_bind (wpAny_typeOf hTs ?_)
 rw [if_pos (by decide)]
 refine wpAny_bind (sliceApplied_gen hs pl pu ?_)
 have hno:¬ ((((sIx items.size 0 lo:Nat):Int) == 0&&(1:Int) == 1&&(sIx items.size items.size hi-sIx items.size 0 lo) == items.size)=true):=by
  intro q
  rw [Bool.and_eq_true,Bool.and_eq_true] at q
  have q1:((sIx items.size 0 lo:Nat):Int)=0:=eq_of_beq q.1.1
  have q2:sIx items.size items.size hi-sIx items.size 0 lo=items.size:=eq_of_beq q.2
  exact hw ⟨by omega,by omega⟩
 show wpAny _ _ (if (((sIx items.size 0 lo:Nat):Int) == 0&&(1:Int) == 1&&(sIx items.size items.size hi-sIx items.size 0 lo) == items.size)=true then _ else _) _ _ s
 rw [if_neg hno,pick_gen]
 first
  | exact wpAny_bind (m:=Builtin.Tuple.tupleExact _) (wpAny_newObj_type (wpAny_pure ⟨_,rfl,wpAny_pure h⟩) htake)
  | exact wpAny_bind (m:=Builtin.Tuple.tupleExact _) (wpAny_newObj_type (wpAny_bind (wpAny_pure (wpAny_pure ⟨_,rfl,wpAny_pure h⟩))) htake)
  | exact wpAny_bind (wpAny_bind (m:=Builtin.Tuple.tupleExact _) (wpAny_newObj_type (wpAny_pure (wpAny_pure ⟨_,rfl,wpAny_pure h⟩)) htake))
  | exact wpAny_bind (wpAny_bind (m:=Builtin.Tuple.tupleExact _) (wpAny_newObj_type (wpAny_pure ⟨_,rfl,wpAny_pure h⟩) htake))
end
end HT
namespace L2
open PySem PySem.Spec PyProof.Rows
noncomputable abbrev TO:=St->Hp->(Option Int->Hp->Prop)->Prop
noncomputable def PO (X:Cx) (e:Option Expr) (t:TO):Prop :=
 ∀ (pins:List (Addr × Obj)) (s:Shared) (σ:St) (H:Hp) (Q:Option Int->Hp->Prop),Inv X pins σ H s->t σ H Q ->
  wpAny (model X.prog X.w) X.A (evalPart e X.env) (fun u s'=>∃ o H',Inv X pins σ H' s'/\IsPart u o/\Q o H') X.xe s
noncomputable def tNoPart:TO:=fun _ H Q=>Q none H
noncomputable def tPart (t:TE):TO:=fun σ H Q=>t σ H fun x H1=>∃ i,x=.int i/\Q (some i) H1
section
variable {X:Cx} {e:Expr} {te:TE} {lo hi:Option Expr} {tl th:TO} {pos p2:Pos}
theorem po_none:PO X none tNoPart:=by
 intro pins s σ H Q I h
 rw [evalPart_none]
 exact wpAny_pure ⟨none,H,I,.none,h⟩
theorem po_some (h:PE X e te):PO X (some e) (tPart te):=by
 intro pins s σ H Q I hw
 rw [evalPart_some]
 refine thn (h pins s σ H _ I hw) fun u s1 hsl37=>?_
 obtain ⟨x,H1,I1,r1,q1⟩:=hsl37
 obtain ⟨i,rfl,q⟩:=q1
 obtain ⟨t,rfl⟩:=r1
 exact ⟨some i,H1,I1,.int i t,q⟩
noncomputable def SlR (X:Cx) (r:V->Option Int->Option Int->Hp->VK->Prop):Prop :=
 ∀ (pins:List (Addr × Obj)) (s:Shared) (σ:St) (H:Hp) (x:V) (v vl vu:Value) (lo hi:Option Int) (sl:Addr) (Q:VK),Inv X pins σ H s->RelV x v->s.heap.IsSliceOf sl vl vu .none->IsPart vl lo->IsPart vu hi->r x lo hi H Q ->
  ∃ T id,typeLookup (.type T) "__getitem__"=pure (some (.builtin id))/\s.TypeIs v T/\wpAny (model X.prog X.w) X.A (getItem v (.ref sl)) (EP X pins σ Q) X.xe s
noncomputable def tSl (r:V->Option Int->Option Int->Hp->VK->Prop) (te:TE) (tl th:TO):TE:=fun σ H Q=>te σ H fun x H1=>tl σ H1 fun l H2=>th σ H2 fun u H3=>r x l u H3 Q
theorem pe_slice {r:V->Option Int->Option Int->Hp->VK->Prop} (hr:SlR X r) (he:PE X e te) (hl:PO X lo tl) (hu:PO X hi th):PE X (.Subscript e (.Slice lo hi none p2) pos) (tSl r te tl th):=by
 intro pins s σ H Q I h
 refine Subscript_ (thn (he pins s σ H _ I h) fun v s1 hsl38=>?_)
 obtain ⟨x,H1,I1,r1,q1⟩:=hsl38
 refine wpAny_Slice (thn (hl pins s1 σ H1 _ I1 q1) fun vl s2 ⟨l,H2,I2,pl,q2⟩=>thn (hu pins s2 σ H2 _ I2 q2) fun vu s3 hsl39=>?_)
 obtain ⟨u,H3,I3,pu,q3⟩:=hsl39
 rw [evalPart_none]
 refine wpAny_pure ?_
 have I4:Inv X pins σ H3 { s3 with heap:=s3.heap.push { cls:=.type "slice",data:=.fields #[vl,vu,.none] } }:=I3.kept (t':=s3.toks) fun b ob q=>Heap.get?_push_of_some _ q
 obtain ⟨T,id,hT,ht,hg⟩:=hr pins { s3 with heap:=s3.heap.push { cls:=.type "slice",data:=.fields #[vl,vu,.none] } } σ H3 x v vl vu l u s3.heap.objs.size Q I4 r1 (Heap.IsSliceOf.new ..) pl pu q3
 show wpAny (model X.prog X.w) X.A (subscriptTail e (.Slice lo hi none p2) v (.ref s3.heap.objs.size)) (EP X pins σ Q) X.xe { s3 with heap:=s3.heap.push { cls:=.type "slice",data:=.fields #[vl,vu,.none] } }
 exact tail_any (ops:=[.ref s3.heap.objs.size,v]) ht hT hg (by with_unfolding_all rfl)
noncomputable def cutV (xs:List V) (lo hi:Option Int):List V:=(xs.drop (HT.sIx xs.length 0 lo)).take (HT.sIx xs.length xs.length hi-HT.sIx xs.length 0 lo)
theorem cutV_length (xs:List V) (lo hi:Option Int):(cutV xs lo hi).length<=xs.length:=by
 unfold cutV
 rw [List.length_take,List.length_drop]
 omega
noncomputable def rSlT (K:PySem.W.Frag):V->Option Int->Option Int->Hp->VK->Prop:=fun x lo hi H Q=>∃ a xs,x=.ref a/\SqT K H a xs /\
 ¬ (HT.sIx xs.length 0 lo=0/\HT.sIx xs.length xs.length hi=xs.length)/\∀ p,H p=none->Q (.ref p) (upd H p (.tup (cutV xs lo hi)))
theorem sl_tup:SlR X (rSlT X.K):=by
 intro pins s σ H x v vl vu lo hi sl Q I rx hs pl pu h
 obtain ⟨a,xs,rfl,hx,hw,q⟩:=h
 cases rx
 obtain ⟨its,r,ht,hz⟩:=I.tuple hx
 have hlen:its.toArray.size=xs.length:=by rw [List.size_toArray];exact r.length.symm
 refine ⟨"tuple",_,PyProof.Rows.slot_tuple_getitem.lookup,ht.typeIs,?_⟩
 refine HT.getItem_tuple_cut ht hs pl pu (by rw [hlen];exact hw) ?_ (by rw [hlen];exact hz)
 rw [hlen]
 refine ⟨.ref s.heap.objs.size,_,I.laid (t':=s.toks) (o:=.tup (cutV xs lo hi)) (fun b ob q=>Heap.get?_push_of_some _ q) (Nat.le_refl _) ?_,rfl,q _ (I.hok.fresh (Nat.le_refl _))⟩
 exact ⟨Nat.le_trans (cutV_length xs lo hi) hz,_,(r.drop (HT.sIx xs.length 0 lo)).take (HT.sIx xs.length xs.length hi-HT.sIx xs.length 0 lo),IsTup.new _ _⟩
noncomputable def rCatT (K:PySem.W.Frag):R2:=fun x y H Q=>∃ a b xs ys,x=.ref a/\y=.ref b/\SqT K H a xs/\SqT K H b ys/\xs≠[]/\xs.length+ys.length<=sizeLine /\
 (ys=[]->Q (.ref a) H)/\(ys≠[]->∀ p,H p=none->Q (.ref p) (upd H p (.tup (xs++ys))))
theorem Vals.nil_iff {xs:List V} {us:List Value} (r:Vals xs us):us=[]↔xs=[]:=by
 cases r with
 | nil=>simp
 | cons _ _=>simp
theorem op_catT:OpR X (binaryOp .Add) (rCatT X.K):=by
 intro pins s σ H x y v u Q I rx ry h
 obtain ⟨a,b,xs,ys,rfl,rfl,ha,hb,hx,hz,q1,q2⟩:=h
 cases rx
 cases ry
 obtain ⟨its,r1,p1,_⟩:=I.tuple ha
 obtain ⟨its2,r2,p2,_⟩:=I.tuple hb
 refine HT.cat_tup p1 p2 (fun z=>hx (r1.nil_iff.mp z)) (fun z=>⟨.ref a,H,I,rfl,q1 (r2.nil_iff.mp z)⟩) (fun z=>?_) (by rw [<- r1.length,<- r2.length];exact hz)
 refine ⟨.ref s.heap.objs.size,_,I.laid (t':=s.toks) (o:=.tup (xs++ys)) (fun b ob q=>Heap.get?_push_of_some _ q) (Nat.le_refl _) ?_,rfl,q2 (fun w=>z (r2.nil_iff.mpr w)) _ (I.hok.fresh (Nat.le_refl _))⟩
 exact ⟨by rw [List.length_append];exact hz,_,r1.append r2,IsTup.new _ _⟩
end
end L2
namespace L2
open PySem PySem.Spec PyProof.Rows
noncomputable def ixN (n:Nat) (i:Int):Option Nat:=if 0<=i then (if i<n then some i.toNat else none) else if -(n:Int)<=i then some (i+n).toNat else none
noncomputable def atI {α:Type} (xs:List α) (i:Int):Option α:=(ixN xs.length i).bind fun j=>xs[j]?
theorem ixN_seq {n:Nat} {i:Int} {j:Nat} (h:ixN n i=some j):seqIndex? i n=some j/\j<n/\-(n:Int)<=i/\i<n:=by
 unfold ixN at h
 by_cases h0:0<=i
 ·rw [if_pos h0] at h
  by_cases h1:i<n
  ·rw [if_pos h1] at h
   have e:i.toNat=j:=Option.some.inj h
   exact ⟨by rw [seqIndex_of h0 h1,e],by omega,by omega,h1⟩
  ·rw [if_neg h1] at h;cases h
 ·rw [if_neg h0] at h
  by_cases h1:-(n:Int)<=i
  ·rw [if_pos h1] at h
   have e:(i+n).toNat=j:=Option.some.inj h
   exact ⟨by rw [seqIndex_neg (by omega) h1,e],by omega,h1,by omega⟩
  ·rw [if_neg h1] at h;cases h
theorem atI_get {α:Type} {xs:List α} {i:Int} {v:α} (h:atI xs i=some v):∃ j,seqIndex? i xs.length=some j/\xs[j]?=some v/\j<xs.length/\-(xs.length:Int)<=i/\i<xs.length:=by
 unfold atI at h
 cases e:ixN xs.length i with
 | none=>rw [e] at h;cases h
 | some j =>
  rw [e] at h
  obtain ⟨h1,h2,h3,h4⟩:=ixN_seq e
  exact ⟨j,h1,h,h2,h3,h4⟩
theorem atI_nat {α:Type} {xs:List α} {j:Nat} {v:α} (h:xs[j]?=some v):atI xs (j:Int)=some v:=by
 have hj:j<xs.length:=(List.getElem?_eq_some_iff.mp h).1
 have e:ixN xs.length (j:Int)=some j:=by
  unfold ixN
  rw [if_pos (by omega),if_pos (by omega)];simp
 unfold atI;rw [e];exact h
theorem atI_last {α:Type} (xs:List α) (v:α):atI (xs++[v]) (-1)=some v:=by
 have hl:(xs++[v]).length=xs.length+1:=by simp
 have e:ixN (xs++[v]).length (-1)=some xs.length:=by
  unfold ixN
  rw [hl,if_neg (by decide),if_pos (by omega)]
  congr 1
  omega
 unfold atI
 rw [e]
 show (xs++[v])[xs.length]?=some v
 simp
noncomputable def PlainIx (b:Expr):Prop:=∀ o i,subscripted b false o i=operate [o,i] (getItem o i)
noncomputable def IxR (X:Cx) (r:R2):Prop :=
 ∀ (value slice:Expr) (pins:List (Addr × Obj)) (s:Shared) (σ:St) (H:Hp) (x y:V) (v u:Value) (Q:VK),Inv X pins σ H s->RelV x v->RelV y u->r x y H Q ->
  subscripted slice false v u=operate [v,u] (getItem v u)->wpAny (model X.prog X.w) X.A (subscriptTail value slice v u) (EP X pins σ Q) X.xe s
noncomputable def MtR (X:Cx) (id:String) (r:V->List V->Hp->VK->Prop):Prop :=
 ∀ (pins:List (Addr × Obj)) (s:Shared) (σ:St) (H:Hp) (x:V) (xs:List V) (v:Value) (us:List Value) (Q:VK),Inv X pins σ H s->RelV x v->Vals xs us->r x xs H Q ->
  wpAny (model X.prog X.w) X.A (call (.builtin id) (v::us)) (EP X pins σ Q) X.xe s
section
variable {X:Cx} {a b:Expr} {ta tb:TE} {pos:Pos}
theorem pe_ix {r:R2} (hr:IxR X r) (ha:PE X a ta) (hb:PE X b tb) (hs:PlainIx b):PE X (.Subscript a b pos) (tOp r ta tb):=by
 intro pins s σ H Q I h
 exact Subscript_ (binT ha hb I h fun v u s2 x y H2 I2 rx ry q=>hr a b pins s2 σ H2 x y v u Q I2 rx ry q (hs _ _))
noncomputable def rIxL (K:PySem.W.Frag):R2:=fun x y H Q=>∃ p xs i v,x=.ref p/\y=.int i/\SqL K H p xs/\atI xs i=some v/\Q v H
noncomputable def rIxT (K:PySem.W.Frag):R2:=fun x y H Q=>∃ p xs i v,x=.ref p/\y=.int i/\SqT K H p xs/\atI xs i=some v/\Q v H
noncomputable def rIxS:R2:=fun x y H Q=>∃ z i c,x=.str z/\y=.int i/\z.length<=sizeLine/\atI z.cps.toList i=some c/\Q (.str ⟨#[c]⟩) H
theorem ix_list:IxR X (rIxL X.K):=by
 intro value slice pins s σ H x y v u Q I rx ry h hs
 obtain ⟨p,xs,i,z,rfl,rfl,hq,he,q⟩:=h
 cases rx
 obtain ⟨t,rfl⟩:=ry
 obtain ⟨its,r,pl,hz⟩:=I.list hq
 obtain ⟨j,h1,h2,h3,h4,h5⟩:=atI_get he
 obtain ⟨w,ew,rw'⟩:=r.get h2
 have hl:=r.length
 have hn:=line63
 have fin:EP X pins σ Q w s:=⟨z,H,I,rw',q⟩
 by_cases h0:0<=i
 ·have hj:i.toNat=j:=by
   rw [seqIndex_of h0 h5] at h1
   exact Option.some.inj h1
  exact item_listR pl.isList h0 (by omega) (by rw [hj];simpa using ew) fin hs
 ·have hj:(i+(its.toArray.size:Int)).toNat=j:=by
   rw [seqIndex_neg (by omega) h4] at h1
   rw [List.size_toArray,<- hl]
   exact Option.some.inj h1
  exact subscriptTail_builtinR (x:=w) pl.isList.typeIs slot_list_getitem.lookup
   (wpAny_getItem_list_neg (Q:=fun r s'=>r=w/\EP X pins σ Q r s') pl.isList (by omega) (by rw [List.size_toArray]<;>omega) (by omega) (by rw [hj];simpa using ew) ⟨rfl,fin⟩) hs
theorem ix_tup:IxR X (rIxT X.K):=by
 intro value slice pins s σ H x y v u Q I rx ry h hs
 obtain ⟨p,xs,i,z,rfl,rfl,hq,he,q⟩:=h
 cases rx
 obtain ⟨t,rfl⟩:=ry
 obtain ⟨its,r,pl,hz⟩:=I.tuple hq
 obtain ⟨j,h1,h2,h3,h4,h5⟩:=atI_get he
 obtain ⟨w,ew,rw'⟩:=r.get h2
 have hl:=r.length
 have hn:=line63
 have fin:EP X pins σ Q w s:=⟨z,H,I,rw',q⟩
 exact subscriptTail_builtinR (x:=w) pl.typeIs slot_tuple_getitem.lookup
  (getItem_tuple (j:=j) (Q:=fun r s'=>r=w/\EP X pins σ Q r s') pl (by omega) (by omega) (by rw [List.size_toArray,<- hl];exact h1) (by simpa using ew) ⟨rfl,fin⟩) hs
theorem ix_str:IxR X rIxS:=by
 intro value slice pins s σ H x y v u Q I rx ry h hs
 obtain ⟨z,i,c,rfl,rfl,hz,he,q⟩:=h
 obtain ⟨t,rfl⟩:=rx
 obtain ⟨t',rfl⟩:=ry
 obtain ⟨j,h1,h2,h3,h4,h5⟩:=atI_get he
 have hl:z.cps.toList.length=z.length:=by simp [Str.length]
 rw [hl] at h1 h4 h5
 have hn:=line63
 exact tail_any (typeIs_str s z t) slot_str_getitem.lookup (getItem_str (c:=c) (by
  have e1:decide (i < -(2 ^ 63:Int))=false:=decide_eq_false (by omega)
  have e2:decide (i ≥ 2 ^ 63)=false:=decide_eq_false (by omega)
  rw [e1,e2,Bool.or_false]) (by rw [h1];simpa using h2) ⟨.str ⟨#[c]⟩,H,I.tok _,⟨_,rfl⟩,q⟩) hs
theorem slice_bounds (lo hi:Option Int) (n:Nat):(sliceBounds lo hi none n).1=((HT.sIx n 0 lo:Nat):Int)/\(sliceBounds lo hi none n).2.1=((HT.sIx n n hi:Nat):Int)/\(sliceBounds lo hi none n).2.2=1:=by
 refine ⟨?_,?_,rfl⟩
 ·cases lo with
  | none=>simp [sliceBounds,HT.sIx]
  | some i =>
   simp only [sliceBounds,HT.sIx,Option.getD_none,show (1:Int)>0 by decide,if_true]
   by_cases h:i<0
   ·simp only [h,if_true]<;>omega
   ·simp only [h,if_false]<;>omega
 ·cases hi with
  | none=>simp [sliceBounds,HT.sIx]
  | some i =>
   simp only [sliceBounds,HT.sIx,Option.getD_none,show (1:Int)>0 by decide,if_true]
   by_cases h:i<0
   ·simp only [h,if_true]<;>omega
   ·simp only [h,if_false]<;>omega
theorem slicePick_cut (its:List Value) (lo hi:Option Int):slicePick its.toArray lo hi none=((its.drop (HT.sIx its.length 0 lo)).take (HT.sIx its.length its.length hi-HT.sIx its.length 0 lo)).toArray:=by
 obtain ⟨h1,h2,h3⟩:=slice_bounds lo hi its.toArray.size
 unfold slicePick
 rw [h1,h2,h3]
 simp only [sliceRange_one,pick_run,List.size_toArray]<;>rfl
noncomputable def rSlL (K:PySem.W.Frag):V->Option Int->Option Int->Hp->VK->Prop:=fun x lo hi H Q=>∃ a xs,x=.ref a/\SqL K H a xs/\∀ p,H p=none->Q (.ref p) (upd H p (.lst (cutV xs lo hi)))
theorem sl_list:SlR X (rSlL X.K):=by
 intro pins s σ H x v vl vu lo hi sl Q I rx hs pl pu h
 obtain ⟨a,xs,rfl,hx,q⟩:=h
 cases rx
 obtain ⟨its,r,ht,hz⟩:=I.list hx
 have hlen:=r.length
 refine ⟨"list",_,slot_list_getitem.lookup,ht.isList.typeIs,?_⟩
 refine wpAny_getItem_list_slice ht.isList hs pl pu .none (by simp) ?_ (by rw [List.size_toArray]<;>omega)
 rw [slicePick_cut,<- hlen]
 refine ⟨.ref s.heap.objs.size,_,I.laid (t':=s.toks) (o:=.lst (cutV xs lo hi)) (fun b ob q=>Heap.get?_push_of_some _ q) (Nat.le_refl _) ?_,rfl,q _ (I.hok.fresh (Nat.le_refl _))⟩
 exact ⟨Nat.le_trans (cutV_length xs lo hi) hz,_,0,(r.drop (HT.sIx xs.length 0 lo)).take (HT.sIx xs.length xs.length hi-HT.sIx xs.length 0 lo),Heap.get?_push_size _ rfl⟩
noncomputable def flatV:V->Bool
 | .non=>true
 | .bl _=>true
 | .int _=>true
 | .str _=>true
 | _=>false
noncomputable def eqV:V->V->Bool
 | .non,.non=>true
 | .bl a,.bl b=>a == b
 | .bl a,.int b=>(if a then 1 else 0) == b
 | .int a,.bl b=>a == (if b then 1 else 0)
 | .int a,.int b=>a == b
 | .str a,.str b=>a == b
 | _,_=>false
theorem eqAt_V {A:Around} {s:Shared} {y x:V} {u v:Value} (ry:RelV y u) (rx:RelV x v) (fy:flatV y=true) (fx:flatV x=true):SeqAt.EqAt A s u v (eqV y x):=by
 cases y with
 | non =>
  cases ry
  cases x with
  | non=>cases rx;exact SeqAt.EqAt.same _
  | bl b=>cases rx;exact SeqAt.EqAt.none_bool b
  | int b=>obtain ⟨t,rfl⟩:=rx;exact SeqAt.EqAt.none_int b t
  | str b=>obtain ⟨t,rfl⟩:=rx;exact SeqAt.EqAt.none_str b t
  | _=>exact absurd (show false=true from fx) Bool.false_ne_true
 | bl a =>
  cases ry
  cases x with
  | non=>cases rx;exact SeqAt.EqAt.bool_none a
  | bl b=>cases rx;exact SeqAt.EqAt.bool_bool a b
  | int b=>obtain ⟨t,rfl⟩:=rx;exact SeqAt.EqAt.bool_int a b t
  | str b=>obtain ⟨t,rfl⟩:=rx;exact SeqAt.EqAt.bool_str a b t
  | _=>exact absurd (show false=true from fx) Bool.false_ne_true
 | int a =>
  obtain ⟨t',rfl⟩:=ry
  cases x with
  | non=>cases rx;exact SeqAt.EqAt.int_none a t'
  | bl b=>cases rx;exact SeqAt.EqAt.int_bool a t' b
  | int b=>obtain ⟨t,rfl⟩:=rx;exact SeqAt.EqAt.int_int a t' b t
  | str b=>obtain ⟨t,rfl⟩:=rx;exact SeqAt.EqAt.int_str a t' b t
  | _=>exact absurd (show false=true from fx) Bool.false_ne_true
 | str a =>
  obtain ⟨t',rfl⟩:=ry
  cases x with
  | non=>cases rx;exact SeqAt.EqAt.str_none a t'
  | bl b=>cases rx;exact SeqAt.EqAt.str_bool a t' b
  | int b=>obtain ⟨t,rfl⟩:=rx;exact SeqAt.EqAt.str_int a t' b t
  | str b=>obtain ⟨t,rfl⟩:=rx;exact SeqAt.EqAt.str_str a t' b t
  | _=>exact absurd (show false=true from fx) Bool.false_ne_true
 | _=>exact absurd (show false=true from fy) Bool.false_ne_true
noncomputable def eqU (x:V) (u:Value):Bool:=match u with
 | .none=>eqV .non x
 | .bool b=>eqV (.bl b) x
 | .int i _=>eqV (.int i) x
 | .str z _=>eqV (.str z) x
 | _=>false
theorem eqU_of {x y:V} {u:Value} (r:RelV y u) (f:flatV y=true):eqU x u=eqV y x:=by
 cases y with
 | non=>cases r;rfl
 | bl b=>cases r;rfl
 | int i=>obtain ⟨t,rfl⟩:=r;rfl
 | str z=>obtain ⟨t,rfl⟩:=r;rfl
 | _=>exact absurd (show false=true from f) Bool.false_ne_true
theorem any_eqU {x:V}:∀ {xs:List V} {us:List Value},Vals xs us->xs.all flatV=true->us.any (eqU x)=xs.any fun y=>eqV y x
 | _,_,.nil,_=>rfl
 | y::xs,u::us,.cons r t,f=>by
  rw [List.all_cons,Bool.and_eq_true] at f
  rw [List.any_cons,List.any_cons,eqU_of r f.1,any_eqU t f.2]
theorem mem_eqAt {A:Around} {s:Shared} {x:V} {v:Value} (rx:RelV x v) (fx:flatV x=true):∀ {xs:List V} {us:List Value},Vals xs us->xs.all flatV=true->∀ u∈us,SeqAt.EqAt A s u v (eqU x u)
 | _,_,.nil,_=>fun u hu=>by cases hu
 | y::xs,u::us,.cons r t,f=>fun u' hu=>by
  rw [List.all_cons,Bool.and_eq_true] at f
  rcases List.mem_cons.mp hu with rfl | hu
  ·rw [eqU_of r f.1];exact eqAt_V r rx f.1 fx
  ·exact mem_eqAt rx fx t f.2 u' hu
noncomputable def inV (x:V) (xs:List V):Bool:=xs.any fun y=>eqV y x
noncomputable def rIn (K:PySem.W.Frag) (neg:Bool):R2:=fun x y H Q=>∃ p xs,y=.ref p/\(SqL K H p xs∨SqT K H p xs)/\flatV x=true/\xs.all flatV=true/\Q (.bl (if neg then !inV x xs else inV x xs)) H
theorem op_in_seq:OpR X (compareOp .In) (rIn X.K false):=by
 intro pins s σ H x y v u Q I rx ry h
 obtain ⟨p,xs,rfl,hq,fx,fs,q⟩:=h
 cases ry
 rcases hq with hq | hq
 ·obtain ⟨its,r,pl,hz⟩:=I.list hq
  refine SeqAt.in_listAt (eqU x) pl.isList (fun w hw=>mem_eqAt rx fx r fs w (by simpa using hw)) ⟨.bl _,H,I,rfl,?_⟩
  rw [show its.toArray.any (eqU x)=its.any (eqU x) by simp,any_eqU r fs]
  exact q
 ·obtain ⟨its,r,pl,hz⟩:=I.tuple hq
  refine SeqAt.in_tupleAt (eqU x) pl (fun w hw=>mem_eqAt rx fx r fs w (by simpa using hw)) ⟨.bl _,H,I,rfl,?_⟩
  rw [show its.toArray.any (eqU x)=its.any (eqU x) by simp,any_eqU r fs]
  exact q
theorem op_notIn_seq:OpR X (compareOp .NotIn) (rIn X.K true):=by
 intro pins s σ H x y v u Q I rx ry h
 obtain ⟨p,xs,rfl,hq,fx,fs,q⟩:=h
 cases ry
 rcases hq with hq | hq
 ·obtain ⟨its,r,pl,hz⟩:=I.list hq
  refine SeqAt.notIn_listAt (eqU x) pl.isList (fun w hw=>mem_eqAt rx fx r fs w (by simpa using hw)) ⟨.bl _,H,I,rfl,?_⟩
  rw [show its.toArray.any (eqU x)=its.any (eqU x) by simp,any_eqU r fs]
  exact q
 ·obtain ⟨its,r,pl,hz⟩:=I.tuple hq
  refine SeqAt.notIn_tupleAt (eqU x) pl (fun w hw=>mem_eqAt rx fx r fs w (by simpa using hw)) ⟨.bl _,H,I,rfl,?_⟩
  rw [show its.toArray.any (eqU x)=its.any (eqU x) by simp,any_eqU r fs]
  exact q
theorem call_len_seq:CallR X (.builtin "len") (fun xs H Q=>∃ p ys,xs=[.ref p]/\(SqL X.K H p ys∨SqT X.K H p ys)/\Q (.int ys.length) H):=by
 intro pins s σ H xs us Q I r h
 obtain ⟨p,ys,rfl,hq,q⟩:=h
 obtain ⟨u,rfl,rx⟩:=vals1 r
 cases rx
 have hn:=line63
 rcases hq with hq | hq
 ·obtain ⟨its,r',pl,hz⟩:=I.list hq
  have hlen:=r'.length
  exact Calls.call_len_list pl.isList (by simp only [List.size_toArray]<;>omega) ⟨.int ys.length,H,I.tok _,⟨s.toks+1,by rw [List.size_toArray,hlen]⟩,q⟩
 ·obtain ⟨its,r',pl,hz⟩:=I.tuple hq
  have hlen:=r'.length
  exact len_tuple pl (by simp only [List.size_toArray]<;>omega) ⟨.int ys.length,H,I.tok _,⟨s.toks+1,by rw [List.size_toArray,hlen]⟩,q⟩
theorem call_len_str:CallR X (.builtin "len") (fun xs H Q=>∃ z,xs=[.str z]/\z.length<=sizeLine/\Q (.int z.length) H):=by
 intro pins s σ H xs us Q I r h
 obtain ⟨z,rfl,hz,q⟩:=h
 obtain ⟨u,rfl,t,rfl⟩:=vals1 r
 have hn:=line63
 exact len_str (by omega) ⟨.int z.length,H,I.tok _,⟨_,rfl⟩,q⟩
theorem call_list_of:CallR X (.type "list") (fun xs H Q=>∃ p ys,xs=[.ref p]/\(SqL X.K H p ys∨SqT X.K H p ys)/\∀ l,H l=none->Q (.ref l) (upd H l (.lst ys))):=by
 intro pins s σ H xs us Q I r h
 obtain ⟨p,ys,rfl,hq,q⟩:=h
 obtain ⟨u,rfl,rx⟩:=vals1 r
 cases rx
 have fin:∀ (its:List Value),Vals ys its->ys.length<=sizeLine->∀ (h':Heap) (c':Nat),(∀ b o',s.heap.get? b=some o'->h'.get? b=some o') ->
   h'.get? s.heap.objs.size=some { cls:=.type "list",dict:=none,data:=.seq its.toArray c',slots:=#[] }->EP X pins σ Q (.ref s.heap.objs.size) { s with heap:=h' }:=fun its r' hz h' c' kp e =>
  ⟨.ref s.heap.objs.size,_,I.laid (t':=s.toks) kp (Nat.le_refl _) (show ObjOk X.prog X.w _ h' _ (.lst ys) from ⟨hz,its,c',r',e⟩),rfl,q _ (I.hok.fresh (Nat.le_refl _))⟩
 rcases hq with hq | hq
 ·obtain ⟨its,r',pl,hz⟩:=I.list hq
  have hlen:=r'.length
  obtain ⟨o,ho,hc,n,hd⟩:=pl.isList
  exact call_list_seq p (.inl rfl) ho hc hd (fun h' c' kp e=>fin its r' hz h' c' kp e) (by simp only [List.size_toArray]<;>omega)
 ·obtain ⟨its,r',pl,hz⟩:=I.tuple hq
  have hlen:=r'.length
  obtain ⟨o,ho,hc,n,hd⟩:=pl
  exact call_list_seq p (.inr rfl) ho hc hd (fun h' c' kp e=>fin its r' hz h' c' kp e) (by simp only [List.size_toArray]<;>omega)
theorem call_tuple_of:CallR X (.type "tuple") (fun xs H Q=>∃ p ys,xs=[.ref p]/\((SqL X.K H p ys/\∀ l,H l=none->Q (.ref l) (upd H l (.tup ys)))∨(SqT X.K H p ys/\Q (.ref p) H))):=by
 intro pins s σ H xs us Q I r h
 obtain ⟨p,ys,rfl,h⟩:=h
 obtain ⟨u,rfl,rx⟩:=vals1 r
 cases rx
 rcases h with ⟨hq,q⟩ | ⟨hq,q⟩
 ·obtain ⟨its,r',pl,hz⟩:=I.list hq
  have hlen:=r'.length
  refine call_tuple_list pl.isList (fun h' kp=>?_) (by simp only [List.size_toArray]<;>omega)
  have I1:Inv X pins σ H { s with heap:=h' }:=I.kept (t':=s.toks) kp
  have I2:Inv X pins σ (upd H h'.objs.size (.tup ys)) { s with heap:=h'.push { cls:=.type "tuple",data:=.seq its.toArray } } :=
   I1.laid (t':=s.toks) (fun b o e=>Heap.get?_push_of_some _ e) (Nat.le_refl _) (show ObjOk X.prog X.w _ _ _ (.tup ys) from ⟨hz,its,r',IsTup.new _ _⟩)
  exact ⟨.ref h'.objs.size,_,I2,rfl,q _ (I1.hok.fresh (Nat.le_refl _))⟩
 ·obtain ⟨its,r',pl,hz⟩:=I.tuple hq
  exact call_tuple_same pl ⟨.ref p,H,I,rfl,q⟩
noncomputable def tyV (K:PySem.W.Frag) (T:String) (x:V) (H:Hp):Prop:=match x with
 | .str _=>T="str"
 | .int _=>T="int"
 | .ref p=>(T="list"/\∃ xs,SqL K H p xs)∨(T="tuple"/\∃ o,K.lookup p=some o/\o.cls=.type "tuple"/\o.dict=none) ∨
   (T="dict"/\((∃ kvs,H p=some (.dK kvs))∨∃ kvs,H p=some (.dT kvs)))∨(T="set"/\∃ S n,H p=some (.set S n))
 | _=>False
theorem tyV_is {pins:List (Addr × Obj)} {σ:St} {H:Hp} {s:Shared} {T:String} {x:V} {v:Value} (I:Inv X pins σ H s) (r:RelV x v) (ty:tyV X.K T x H) :
  s.TypeIs v T/\∀ a,v=.ref a->∃ ob,s.heap.get? a=some ob/\ob.dict=none:=by
 cases x with
 | str z =>
  obtain ⟨t,rfl⟩:=r
  cases (show T="str" from ty)
  exact ⟨typeIs_str s z t,fun _ e=>nomatch e⟩
 | int i =>
  obtain ⟨t,rfl⟩:=r
  cases (show T="int" from ty)
  exact ⟨typeIs_int s i t,fun _ e=>nomatch e⟩
 | ref p =>
  cases r
  rcases ty with ⟨rfl,xs,hq⟩ | ⟨rfl,o,hk,hc,hd⟩ | ⟨rfl,hk⟩ | ⟨rfl,S,n,hk⟩
  ·obtain ⟨its,_,pl,_⟩:=I.list hq
   refine ⟨pl.isList.typeIs,fun a e=>?_⟩
   cases e
   obtain ⟨o,n,e,c,hd,_⟩:=pl
   exact ⟨o,e,hd⟩
  ·refine ⟨⟨o,I.kIn p o hk,hc⟩,fun a e=>?_⟩
   cases e
   exact ⟨o,I.kIn _ o hk,hd⟩
  ·have z:∃ o,s.heap.get? p=some o/\o.ExactDict:=by
    rcases hk with ⟨kvs,hk⟩ | ⟨kvs,hk⟩
    ·obtain ⟨_,_,_,_,o,_,_,e,ex,_⟩:=I.hok p _ hk
     exact ⟨o,e,ex⟩
    ·obtain ⟨_,_,_,_,o,_,_,e,ex,_⟩:=I.hok p _ hk
     exact ⟨o,e,ex⟩
   obtain ⟨o,e,ex⟩:=z
   refine ⟨⟨o,e,ex.1⟩,fun a e2=>?_⟩
   cases e2
   exact ⟨o,e,ex.2.1⟩
  ·obtain ⟨o,_,_,_,e,ex,_⟩:=I.hok p _ hk
   refine ⟨⟨o,e,ex.1⟩,fun a e2=>?_⟩
   cases e2
   exact ⟨o,e,ex.2.1⟩
 | _=>exact False.elim ty
noncomputable def tBM0 (K:PySem.W.Frag) (T:String) (r:V->List V->Hp->VK->Prop) (to:TE):TE:=fun σ H Q=>to σ H fun x H1=>tyV K T x H1/\r x [] H1 Q
noncomputable def tBM (K:PySem.W.Frag) (T:String) (r:V->List V->Hp->VK->Prop) (to:TE) (t:TA):TE:=fun σ H Q=>to σ H fun x H1=>tyV K T x H1/\t σ H1 fun xs H2=>r x xs H2 Q
variable {o e:Expr} {es:List Expr} {to:TE} {t:TA} {name:Str} {apos cpos:Pos} {T id:String} {r:V->List V->Hp->VK->Prop}
theorem pe_bm0 (pa:PlainAttrs T) (slot:Slot T name id) (hty:typeOf (.builtin id)=pure (.type "method_descriptor")) (hm:MtR X id r) (ho:PE X o to)
  (hbase:attributeBase o name X.env (eval o X.env)=eval o X.env:=by rfl) (hline:(apos.endLine == cpos.line)=true:=by rfl):PE X (.Call (.Attribute o name apos) [] [] cpos) (tBM0 X.K T r to):=by
 intro pins s σ H Q I h
 refine wpAny_Call_method0_late hbase hline (thn (ho pins s σ H _ I h) fun v s1 hsl40=>?_)
 obtain ⟨x,H1,I1,r1,ty,q1⟩:=hsl40
 obtain ⟨h1,h2⟩:=tyV_is I1 r1 ty
 exact ⟨T,id,pa,slot,hty,h1,h2,Calls.callWith_builtin rfl (PySem.evalArgs_none (hm pins s1 σ H1 x [] v [] Q I1 r1 .nil q1))⟩
theorem pe_bm (pa:PlainAttrs T) (slot:Slot T name id) (hty:typeOf (.builtin id)=pure (.type "method_descriptor")) (hm:MtR X id r) (ho:PE X o to) (ha:PA X (e::es) t)
  (hbase:attributeBase o name X.env (eval o X.env)=eval o X.env:=by rfl)
  (hfew:((backTo cpos (starEach (e::es) X.env)).all (fun x=>!x.1)&&(backToKw cpos (keywordEach [] X.env)).all (fun x=>x.1.isSome)
   && decide ((e::es).length+([]:List Keyword).length+(if ([]:List Keyword).isEmpty then 0 else 1)<30))=true:=by rfl)
  (hline:(apos.endLine == cpos.line)=true:=by rfl) (hs:starEach (e::es) X.env=(false,eval e X.env)::starEach es X.env:=by rfl) (hplain:(backTo cpos (starEach es X.env)).any (·.1)=false:=by rfl) :
  PE X (.Call (.Attribute o name apos) (e::es) [] cpos) (tBM X.K T r to t):=by
 intro pins s σ H Q I h
 refine wpAny_Call_method_late hbase hfew hline rfl (thn (ho pins s σ H _ I h) fun v s1 hsl41=>?_)
 obtain ⟨x,H1,I1,r1,ty,q1⟩:=hsl41
 obtain ⟨h1,h2⟩:=tyV_is I1 r1 ty
 refine ⟨T,id,pa,slot,hty,h1,h2,?_⟩
 have hA:=ha cpos pins s1 σ H1 _ I1 q1
 rw [hs] at hA ⊢
 refine Calls.callWith_builtin (by show (false||(backTo cpos (starEach es X.env)).any (·.1))=false;rw [hplain]<;>rfl) (Calls.evalArgs_plain ?_)
 exact thn hA fun us s2 hsl42=>by obtain ⟨vs,H2,I2,r2,q2⟩:=hsl42;exact hm pins s2 σ H2 x vs v us Q I2 r1 r2 q2
end
end L2
namespace L2
open PySem PySem.Spec PyProof.Rows
noncomputable def MtM (X:Cx) (id:String) (r:V->List V->Hp->VK->Prop):Prop :=
 ∀ (pins:List (Addr × Obj)) (s:Shared) (σ:St) (H:Hp) (x:V) (xs:List V) (v:Value) (us:List Value) (Q:VK),Inv X pins σ H s->RelV x v->Vals xs us->r x xs H Q ->
  wpAny (model X.prog X.w) X.A (call (.builtin id) (v::us)) (EP X pins σ Q) X.xe s
theorem Vals.one:∀ {x:V} {us:List Value},Vals [x] us->∃ u,us=[u]/\RelV x u
 | _,_,.cons r .nil=>⟨_,rfl,r⟩
theorem Vals.zero:∀ {us:List Value},Vals [] us->us=[]
 | _,.nil=>rfl
theorem Vals.dropLast {xs:List V} {us:List Value} (h:Vals xs us):Vals xs.dropLast us.dropLast:=by
 induction h with
 | nil=>exact .nil
 | cons r t ih =>
  cases t with
  | nil=>exact .nil
  | cons q t'=>exact .cons r ih
theorem erase_last {α:Type} (l:List α):l.eraseIdx (l.length-1)=l.dropLast:=by
 induction l with
 | nil=>rfl
 | cons a r ih =>
  cases r with
  | nil=>rfl
  | cons b r =>
   have e:(a::b::r).length-1=((b::r).length-1)+1:=by
    have h1:(a::b::r).length=r.length+2:=rfl
    have h2:(b::r).length=r.length+1:=rfl
    omega
   rw [e,List.eraseIdx_cons_succ,ih]
   all_goals rfl
section
variable {X:Cx} {pins:List (Addr × Obj)} {σ:St} {H:Hp} {s:Shared} {l b:Addr} {xs ys zs:List V}
theorem Inv.lset {its its':List Value} {n:Nat} {f:Array Value->Array Value} {t':Nat} (I:Inv X pins σ H s) (hH:H l=some (.lst xs))
  (e:s.heap.get? l=some { cls:=.type "list",data:=.seq its.toArray n }) (hf:f its.toArray=its'.toArray) (hv:Vals ys its') (hz:ys.length<=sizeLine) :
  Inv X pins σ (upd H l (.lst ys)) { s with heap:=s.heap.update l (Obj.mapSeq f),toks:=t' }:=by
 have q:=PySem.IsL.update e f
 rw [hf] at q
 refine I.write (x:=l) (e:=l) (by rw [hH];exact trivial) (.inl rfl) (fun b' u hb hu=>(Heap.get?_update_other s.heap (Obj.mapSeq f) (Ne.symm hb)).trans hu) ⟨_,q⟩ ?_
 exact ⟨hz,its',_,hv,q⟩
theorem Inv.lnew {its:List Value} {t':Nat} (I:Inv X pins σ H s) (hv:Vals ys its) (hz:ys.length<=sizeLine) :
  Inv X pins σ (upd H s.heap.objs.size (.lst ys)) { s with heap:=s.heap.push { cls:=.type "list",data:=.seq its.toArray },toks:=t' } :=
 I.laid (fun _ _ q=>Heap.get?_push_of_some _ q) (Nat.le_refl _) ⟨hz,its,0,hv,Heap.get?_push_size _ rfl⟩
theorem Inv.fresh (I:Inv X pins σ H s):H s.heap.objs.size=none:=I.hok.fresh (Nat.le_refl _)
theorem Inv.lstM (I:Inv X pins σ H s) (hH:H l=some (.lst xs)):xs.length<=sizeLine/\∃ (its:List Value) (n:Nat),Vals xs its/\xs.length=its.length/\s.heap.get? l=some { cls:=.type "list",data:=.seq its.toArray n }:=by
 obtain ⟨z,its,n,r,e⟩:=I.hok l _ hH
 exact ⟨z,its,n,r,r.length,e⟩
end
section
variable {X:Cx}
noncomputable def rAppend:V->List V->Hp->VK->Prop:=fun x vs H Q=>∃ l xs y,x=.ref l/\vs=[y]/\H l=some (.lst xs)/\xs.length<sizeLine/\Q .non (upd H l (.lst (xs++[y])))
theorem mt_append:MtM X "list.append" rAppend:=by
 intro pins s σ H x vs v us Q I rx rv h
 obtain ⟨l,xs,y,rfl,rfl,hH,hz,q⟩:=h
 cases rx
 obtain ⟨u,rfl,ru⟩:=rv.one
 obtain ⟨z,its,n,r,hl,e⟩:=I.lstM hH
 refine call_meets F.slot_list_append ⟨_,e,rfl⟩ F.entry_list_append (F.args_list_append_2 _ _) (PySem.list_append l its.toArray n u (by rw [List.size_toArray];omega)) ⟨e,?_⟩
 refine ⟨.non,_,I.lset (its':=its++[u]) hH e (by simp) (r.append (.cons ru .nil)) ?_,rfl,q⟩
 rw [List.length_append,List.length_singleton]
 omega
noncomputable def rPop:V->List V->Hp->VK->Prop:=fun x vs H Q=>∃ l xs y,x=.ref l/\vs=[]/\H l=some (.lst xs)/\xs[xs.length-1]?=some y/\Q y (upd H l (.lst xs.dropLast))
theorem mt_pop:MtM X "list.pop" rPop:=by
 intro pins s σ H x vs v us Q I rx rv h
 obtain ⟨l,xs,y,rfl,rfl,hH,hy,q⟩:=h
 cases rx
 have hus:=rv.zero
 subst hus
 obtain ⟨z,its,n,r,hl,e⟩:=I.lstM hH
 obtain ⟨u,hu,ru⟩:=r.get hy
 have hy':its.toArray[its.toArray.size-1]?=some u:=by
  show its.toArray[its.length-1]?=some u
  rw [<- Array.getElem?_toList,<- hl]
  exact hu
 refine call_meets F.slot_list_pop ⟨_,e,rfl⟩ F.entry_list_pop (F.args_list_pop_1 _) (MeetsSeq.list_pop_last l its.toArray n u hy' (by rw [List.size_toArray];omega)) ⟨e,?_⟩
 refine ⟨y,_,I.lset (its':=its.dropLast) hH e ?_ r.dropLast ?_,ru,q⟩
 ·show its.toArray.eraseIdxIfInBounds (its.toArray.size-1)=its.dropLast.toArray
  rw [List.size_toArray,List.eraseIdxIfInBounds_toArray,erase_last]
 ·rw [List.length_dropLast]
  omega
noncomputable def rCat:R2:=fun x y H Q=>∃ l b xs zs,x=.ref l/\y=.ref b/\H l=some (.lst xs)/\H b=some (.lst zs)/\xs.length+zs.length<=sizeLine/\∀ p,H p=none->Q (.ref p) (upd H p (.lst (xs++zs)))
theorem op_cat:OpR X (binaryOp .Add) rCat:=by
 intro pins s σ H x y v u Q I rx ry h
 obtain ⟨l,b,xs,zs,rfl,rfl,hH,hB,hz,q⟩:=h
 cases rx
 cases ry
 obtain ⟨z,its,n,r,hl,e⟩:=I.lstM hH
 obtain ⟨z2,its2,n2,r2,hl2,e2⟩:=I.lstM hB
 refine PySem.P.add_list e e2 ?_ (by rw [List.size_toArray,List.size_toArray];omega)
 have ea:its.toArray++its2.toArray=(its++its2).toArray:=by simp
 rw [ea]
 exact ⟨.ref _,_,I.lnew (t':=s.toks) (r.append r2) (by rw [List.length_append];omega),rfl,q _ I.fresh⟩
end
section
variable {prog:Program} {w:World} {A:Around} {E:Value->Shared->Prop} {s:Shared}
end
section
variable {X:Cx}
end
end L2
namespace Att
open PySem PySem.W PySem.Calls PyProof.Rows
theorem ints_of_wellAll {P:Params} {h:Heap}:∀ (ns:List Int) (vs:List Value),WellAll P h vs (ns.map WData.int)->IntsAre vs ns:=by
 intro ns
 induction ns with
 | nil =>
  intro vs w
  rw [List.map_nil] at w
  cases w
  exact .nil
 | cons n ns ih =>
  intro vs w
  rw [List.map_cons] at w
  cases w with
  | cons a b =>
   cases a
   exact .cons _ _ (ih _ b)
theorem script_of {l:OpenLaw} {n:Nat} (hn:l.most=some n) {P:Params} {h:Heap} {args:List WData} {vals:List Value}
  (hpre:l.row.toRowW.claim.pre args=true) (hwl:WellAll P h vals args) :
  ∃ a vs ns,vals=[Value.ref a]/\args=[WData.list (ns.map WData.int)]/\h.get? a=some { cls:=.type "list",data:=.seq vs.toArray }/\IntsAre vs ns/\ns.length<=n:=by
 have hsh:WShape.hasAll [] args [.list .int]=true:=(pre_splitW hpre).1
 have hc:l.pre.holds [] { args:=args }=true:=(pre_splitW hpre).2
 obtain ⟨d,r,rfl,h1,h2⟩:=hasAllW_cons hsh
 obtain rfl:=hasAllW_nil h2
 obtain ⟨xs,rfl,h3⟩:=hasW_list h1
 obtain ⟨ns,rfl⟩:=items_int h3
 have hlen:ns.length<=n:=by
  unfold OpenLaw.pre at hc
  have h4:(WTm.not (.lt (.lit (.int (n:Int))) (.len (.arg 0)))).holds [] { args:=[.list (ns.map .int)] }=true:=by
   have h4:=(holds_andW hc).1
   rw [hn] at h4
   exact h4
  have h5:=condW_of h4 (w_not (w_lt w_lit (w_len_list (w_arg rfl))))
  rw [List.length_map] at h5
  refine Nat.le_of_not_lt fun q=>?_
  have q':(n:Int)<((ns.length:Nat):Int):=by omega
  first
   | (rw [decide_eq_true q'] at h5;exact absurd h5 (by decide))
   | (simp at h5;omega)
 cases hwl with
 | cons w1 w2 =>
  cases w2
  cases w1 with
  | list ho hall=>exact ⟨_,_,ns,rfl,rfl,ho,ints_of_wellAll ns _ hall,hlen⟩
theorem post_true (l:OpenLaw) (args:List WData):l.row.toRowW.claim.post args (.bool true) args=true :=
 postW_of (r:=l.row.toRowW) (X:=(true == true))
  (show WShape.has [] (.bool true) .bool=true by first | rfl | decide | simp [WShape.has,WShape.arms,WShape.armsAll])
  (show (WTm.eq .res (.lit (.bool true))).value [] { args:=args,res:=some (.bool true),after:=args }=some (.bool (true == true)) from w_eq_bool (w_res rfl) w_lit) rfl
theorem attach_call {l:OpenLaw} {n:Nat} {q:Program} {loose:List Str} {XP:(Str->Option Value)->Heap->Prop} {YP:World->Heap->Prop} {d:DefRec}
  (hn:l.most=some n) (hdf:d.params.defaults=[])
  (call:∀ (w:World) (s₀ s₁:Shared) (mg mb:Str->Option Value) (fa:Addr) (o:Obj) (pm cd doc:Value) (a:Addr) (vs:List Value) (ns:List Int),
   Ground q loose [] XP w s₀ mg mb s₁.heap->YP w s₁.heap ->
   s₁.heap.get? fa=some o->o.data=.func (docDef d.name d.params d.body d.scope pm cd doc)->s₁.heap.CodeRec cd d.name->mg d.name=some (.ref fa) ->
   s₁.heap.get? a=some { cls:=.type "list",data:=.seq vs.toArray }->IntsAre vs ns->ns.length<=n->s₁.gens=#[] ->
   codeAny (model l.prog w) callerA (.call (.ref fa) ⟨[.ref a],[]⟩) (fun r s'=>r=.ok (.ret (.bool true))/\OldK s₁.heap s'.heap/\s'.os=s₁.os/\AllBare s'.gens) s₁) :
  WalkO q loose XP YP l.row.toRowW d [] (fun f vs=>PySem.call f vs):=by
 intro w s₀ s₁ mg mb G Y fa o pm cd doc dV kV ho hd hcd hD hmg hg args vals as hpre hlay hrd hwl hlo
 obtain rfl:dV=.none:=Dflts.none hD hdf
 obtain rfl:kV=.none:=Dflts.noKw hD
 obtain ⟨a,vs,ns,rfl,rfl,hobj,hints,hlen⟩:=script_of hn hpre hwl
 refine enter_call (codeAny_mono (call w s₀ s₁ mg mb fa o pm cd doc a vs ns G Y ho (fd_plain hd) hcd hmg hobj hints hlen hg) fun r s' hq=>?_)
 obtain ⟨rfl,h2,h3,h4⟩:=hq
 exact ⟨.inl ⟨.bool true,.bool true,[],rfl,fun _=>rfl,.bool true,post_true l _,fun _=>⟨List.Pairwise.nil,fun _ hm=>(nomatch hm)⟩⟩,h2,h3,h4⟩
section
variable {prog:Program} {w:World} {A:Around} {E:Value->Shared->Prop} {s:Shared} {K:Frag}
end
end Att
namespace L2
open PySem PySem.Spec PyProof.Rows
theorem vals_ints:∀ {vs:List Value} {ns:List Int},IntsAre vs ns->Vals (ns.map V.int) vs
 | _,_,.nil=>.nil
 | _,_,.cons n t h=>.cons ⟨t,rfl⟩ (vals_ints h)
noncomputable def Only (H:Hp):Prop:=∀ b,H b=none∨∃ o xs,H b=some (.frz o (.lst xs))
theorem law_call {P:Program} {w:World} {K:PySem.W.Frag} {mg mb:Str->Option Value} {CX:CXT} {k:Nat} {fa a:Addr} {fd:FuncData} {x:Str} {sp:Sp} {s₁:Shared} {vs:List Value} {ns:List Int}
  (KX:K.In s₁.heap) (hns:s₁.heap.Ns mainGlobals mg) (hb:s₁.heap.Ns builtinsNs mb) (hbb:∀ x:Str,x≠"__name__"->mb x=bootBuiltins x) (hlim:s₁.heap.NoLimit) (hg:s₁.gens=#[])
  (ha:s₁.heap.get? a=some { cls:=.type "list",data:=.seq vs.toArray }) (hi:IntsAre vs ns) (hl:ns.length<=sizeLine) (hr:Room k callerA)
  (F:∀ base:Heap,K.In base->base.Ns mainGlobals mg->FnOk P w K mg base CX k fa fd [x] sp) (hbind:∀ (s:Shared) (u:Value),BindsTo s fd ⟨[u],[]⟩ [(x,u)])
  (hsp:∀ H:Hp,Only H->SqL K H a (ns.map V.int)->sp [.ref a] H (fun v _=>v=.bl true) fun _ _ _=>False)
  (hCX:∀ H e s',CX [] H s₁ (fun _ _ _=>False) e s'->False) :
  codeAny (model P w) callerA (.call (.ref fa) ⟨[.ref a],[]⟩) (fun r s'=>r=.ok (.ret (.bool true))/\OldK s₁.heap s'.heap/\s'.os=s₁.os/\AllBare s'.gens) s₁:=by
 have rv:=vals_ints hi
 have lenV:=hi.length
 have core:∀ H:Hp,Only H->SqL K H a (ns.map V.int)->HOk P w H s₁.heap->(∀ b,H b≠none->b=a)->(H a≠none->K.lookup a=none) ->
   codeAny (model P w) callerA (.call (.ref fa) ⟨[.ref a],[]⟩) (fun r s'=>r=.ok (.ret (.bool true))/\OldK s₁.heap s'.heap/\s'.os=s₁.os/\AllBare s'.gens) s₁:=by
  intro H hO hS hok hA hK
  have base_of:∀ {b:Addr} {o:Obj},s₁.heap.get? b=some o->H b=none->(hidT s₁.heap H).get? b=some o:=fun e n=>hidT_get e n
  have noA:∀ {b:Addr} {o:Obj} {es:Array DictEntry} {ep:Nat},s₁.heap.get? b=some o->o.data=.dict es ep->H b=none:=fun {b o es ep} e d=>by
   cases q:H b with
   | none=>rfl
   | some u =>
    have e':b=a:=hA b (by rw [q];simp)
    subst e'
    rw [ha] at e;cases e
    have d':Data.seq vs.toArray _=Data.dict es ep:=d
    cases d'
  have nsK:∀ {b:Addr} {m:Str->Option Value},s₁.heap.Ns b m->(hidT s₁.heap H).Ns b m:=fun {b m} ⟨o,es,ep,e,d,r⟩=>⟨o,es,ep,base_of e (noA e d),d,r⟩
  have hKb:K.In (hidT s₁.heap H):=fun b o e=>base_of (KX b o e) (by
   cases q:H b with
   | none=>rfl
   | some u =>
    have e':b=a:=hA b (by rw [q];simp)
    subst e'
    rw [hK (by rw [q];simp)] at e;cases e)
  have hM:Mod K mg (hidT s₁.heap H):=⟨hKb,nsK hns,⟨mb,nsK hb,hbb⟩,by obtain ⟨mc,h1,h2⟩:=hlim;exact ⟨mc,nsK h1,h2⟩⟩
  have e0:Env0 P w K mg (hidT s₁.heap H) callerA [] s₁ H:=⟨rfl,hM,fun b o e=>of_hidT e,Nat.le_of_eq (hidT_size _ _),trivial,fun b hb=>absurd (show b∈([]:List Addr) from hb) (by simp),hok,.of_eq hg⟩
  refine codeAny_mono ((F _ hKb (nsK hns)).run callerA [] s₁ H ⟨[.ref a],[]⟩ [.ref a] [.ref a] _ _ hr e0 (hbind s₁ (.ref a)) (.cons rfl .nil) (hsp H hO hS)) fun r s' h=>?_
  cases r with
  | error e=>exact (hCX H e s' h).elim
  | ok fl =>
   cases fl with
   | next=>exact False.elim h
   | brk=>exact False.elim h
   | cont=>exact False.elim h
   | ret u =>
    obtain ⟨v,H',os,bare,un,hok',r',q⟩:=h
    have q':v=.bl true:=q
    subst q'
    obtain rfl:u=Value.bool true:=r'
    refine ⟨rfl,OldK.of_keep fun b o e=>?_,os,bare⟩
    cases q:H b with
    | none=>exact un.keep b o e q (by intro z;exact absurd (show b∈([]:List Addr) from z) (by simp)) (by simp)
    | some u =>
     rcases hO b with z | ⟨ob,xs,z⟩
     ·rw [q] at z;cases z
     ·have z2:=un.frzs b ob _ z
      obtain ⟨e1,_⟩:=hok b _ z
      obtain ⟨e2,_⟩:=hok' b _ z2
      rw [e] at e1;cases e1
      exact e2
 cases hk:K.lookup a with
 | some o =>
  have e:=KX a o hk
  rw [ha] at e
  cases e
  refine core (fun _=>none) (fun _=>.inl rfl) (.inr ⟨_,vs.toArray,_,hk,rfl,rfl,rfl,by rw [List.size_toArray,lenV];exact hl,by simpa using rv⟩) (fun b u z=>by have z':(none:Option HO)=some u:=z;cases z') (fun b z=>absurd rfl z) fun z=>absurd rfl z
 | none =>
  refine core (fun b=>if b=a then some (.frz { cls:=.type "list",data:=.seq vs.toArray } (.lst (ns.map V.int))) else none) (fun b=>?_) (.inl (.inr ⟨{ cls:=.type "list",data:=.seq vs.toArray },if_pos rfl⟩)) (fun b u z=>?_) (fun b z=>?_) fun _=>hk
  ·by_cases hb:b=a
   ·exact .inr ⟨_,_,if_pos hb⟩
   ·exact .inl (if_neg hb)
  ·by_cases hb:b=a
   ·have z':=(if_pos hb).symm.trans z
    cases z'
    subst hb
    exact ⟨ha,by rw [List.length_map];exact hl,vs,_,rv,ha⟩
   ·have z':=(if_neg hb).symm.trans z
    cases z'
  ·by_cases hb:b=a
   ·exact hb
   ·exact absurd (if_neg hb) z
end L2
namespace L2
open PySem PySem.Spec PyProof.Rows
theorem walk_of {l:PySem.W.OpenLaw} {n k:Nat} {q:Program} {loose:List Str} {XP:(Str->Option Value)->Heap->Prop} {YP:World->Heap->Prop} {d:DefRec} {K:Params->PySem.W.Frag} {CX:World->CXT} {sp:World->Sp} {x:Str}
  (hn:l.most=some n) (hn2:n<=sizeLine) (hdf:d.params.defaults=[]) (hr:Room k callerA)
  (hY:∀ (w:World) (h:Heap),YP w h->(K w.params).In h)
  (F:∀ (w:World) (mg:Str->Option Value) (fa:Addr) (h:Heap),(K w.params).In h->h.Ns mainGlobals mg->mg d.name=some (.ref fa) ->
   ∃ fd:FuncData,(∀ (s:Shared) (u:Value),BindsTo s fd ⟨[u],[]⟩ [(x,u)]) /\
    ∀ base:Heap,(K w.params).In base->base.Ns mainGlobals mg->FnOk l.prog w (K w.params) mg base (CX w) k fa fd [x] (sp w))
  (hsp:∀ (w:World) (H:Hp) (a:Addr) (ns:List Int),ns.length<=n->Only H->SqL (K w.params) H a (ns.map V.int)->sp w [.ref a] H (fun v _=>v=.bl true) fun _ _ _=>False)
  (hCX:∀ (w:World) (H:Hp) (s:Shared) (e:Value) (s':Shared),CX w [] H s (fun _ _ _=>False) e s'->False) :
  PySem.W.WalkO q loose XP YP l.row.toRowW d [] (fun f vs=>PySem.call f vs):=by
 refine Att.attach_call hn hdf fun w s₀ s₁ mg mb fa o pm cd doc a vs ns G Y ho hd hcd hmg hobj hints hlen hg=>?_
 have KX:=hY w _ Y
 obtain ⟨fd,hb,hF⟩:=F w mg fa _ KX G.T.g hmg
 exact law_call KX G.T.g G.T.b G.T.builtins G.T.nolimit hg hobj hints (Nat.le_trans hlen hn2) hr hF hb (fun H hO hS=>hsp w H a ns hlen hO hS) fun H e s'=>hCX w H s₁ e s'
end L2
namespace L2
open PySem PySem.Spec PyProof.Rows
noncomputable def inClass (s:Stmt) (j:Nat):Stmt:=match s with
 | .ClassDef _ _ _ body _ _ _ _ _ _ _=>body.getD j (.Pass ⟨0,0,0,0⟩)
 | _=>.Pass ⟨0,0,0,0⟩
noncomputable def defArgs (s:Stmt):Arguments:=match s with
 | .FunctionDef _ a _ _ _ _ _ _ _ _=>a
 | _=>{ posonlyargs:=[],args:=[],vararg:=none,kwonlyargs:=[],kw_defaults:=[],kwarg:=none,defaults:=[] }
noncomputable def defBody (s:Stmt):List Stmt:=match s with
 | .FunctionDef _ _ b _ _ _ _ _ _ _=>b
 | _=>[]
noncomputable def defScope (s:Stmt):Scope:=match s with
 | .FunctionDef _ _ _ _ _ _ sc _ _ _=>sc
 | _=>{ kind:=.function,names:=[],isGenerator:=false,isCoroutine:=false }
noncomputable abbrev CX0:CXT:=fun _ _ _ _ _ _=>False
noncomputable abbrev E0:XK:=fun _ _ _=>False
theorem pass0 {X:Cx}:Passes CX0 X E0:=fun _ _ _ _ _ _ _ h=>h.elim
structure Fun (K:PySem.W.Frag) (x qual:Str) (st:Stmt) (f:Addr) (fd:FuncData):Prop where
 ex:∃ (oc:Value) (od:Option Addr) (kV doc pm:Value) (an:Option Addr) (cdv ct:Value) (osl:Array (Option Value)),
  fd=PySem.W.fnOf x qual (defArgs st) (defBody st) (defScope st) .none kV doc pm an cdv ct/\K.lookup f=some ⟨oc,od,.func fd,osl⟩/\PySem.W.codeIn K cdv qual=true
 kp:PySem.W.keepIn K (.ref f)=true
section
variable {P:Program} {w:World} {K:PySem.W.Frag} {mg:Str->Option Value} {base:Heap}
theorem Fun.ok {x qual:Str} {st:Stmt} {f:Addr} {fd:FuncData} {N ps:List Str} {k:Nat} {sp:Sp} (F:Fun K x qual st f fd) (S:FnScope N ps (defScope st)) (len:∀ vs H Q E,sp vs H Q E->vs.length=ps.length)
  (hbody:∀ (cdv:Value) (A:Around) (outer:List Env) (s:Shared) (H:Hp) (vs:List V) (Q:VK) (E:XK),Room k (A.deeper (envOfC qual (defScope st) s.heap.objs.size f cdv))->sp vs H Q E ->
   ∃ t,PSs (cxOf CX0 P w K mg base N qual (defScope st) f cdv A outer s H E).nox (defBody st) t/\t { nx:=fun _ H'=>Q .non H',rt:=Q } (start N vs) H):FnOk P w K mg base CX0 (k+1) f fd ps sp:=by
 obtain ⟨oc,od,kV,doc,pm,an,cdv,ct,osl,rfl,lk,hcd⟩:=F.ex
 refine fn_of lk hcd S len fun A outer s H vs Q E hr hsp=>?_
 obtain ⟨t,h,q⟩:=hbody cdv A outer s H vs Q E hr hsp
 exact ⟨t,h.nox,q⟩
theorem Fun.binds {x qual:Str} {st:Stmt} {f:Addr} {fd:FuncData} {ps:List Str} (F:Fun K x qual st f fd)
  (h:∀ (kV doc pm:Value) (an:Option Addr) (cdv ct:Value) (us:List Value),us.length=ps.length->bindArgs (PySem.W.fnOf x qual (defArgs st) (defBody st) (defScope st) .none kV doc pm an cdv ct) ⟨us,[]⟩=pure (ps.zip us)):Binds K fd ps []:=by
 obtain ⟨oc,od,kV,doc,pm,an,cdv,ct,osl,rfl,lk,hcd⟩:=F.ex
 exact .all (h kV doc pm an cdv ct)
theorem fun_mk {x qual:Str} {st:Stmt} {f:Addr} {oc:Value} {od an:Option Addr} {osl:Array (Option Value)} {kV doc pm cdv ct:Value} (l:K.lookup f=some ⟨oc,od,.func (PySem.W.fnOf x qual (defArgs st) (defBody st) (defScope st) .none kV doc pm an cdv ct),osl⟩)
  (c:PySem.W.codeIn K cdv qual=true) (k:PySem.W.keepIn K (.ref f)=true):Fun K x qual st f (PySem.W.fnOf x qual (defArgs st) (defBody st) (defScope st) .none kV doc pm an cdv ct):=⟨⟨oc,od,kV,doc,pm,an,cdv,ct,osl,rfl,l,c⟩,k⟩
end
theorem small1000 {n:Nat} (h:n<=1000):n<sizeLine:=Nat.lt_of_le_of_lt h (by decide)
section
variable {X:Cx}
theorem pv (i:Nat) {x:Str} {pos:Pos} (hN:X.N[i]?=some x:=by rfl) (hv:Vis X.env.scope x:=by first | exact Or.inl rfl | exact Or.inr (Or.inl rfl) | exact Or.inr (Or.inr rfl)) (hd:(x == ("__debug__":Str))=false:=by decide)
  (hcd:(x == ("__classdict__":Str))=false:=by decide):PE X (.Name x pos) (tVar i):=pe_var hN hv hd hcd
end
theorem iteF {A B:Prop} (h:B):if false=true then A else B:=by
 rw [if_neg Bool.false_ne_true]
 exact h
theorem iteT {A B:Prop} (h:A):if true=true then A else B:=by
 rw [if_pos rfl]
 exact h
theorem ite2 {c A B:Prop} [Decidable c] (h1:c->A) (h2:¬ c->B):if c then A else B:=by
 by_cases h:c
 ·rw [if_pos h]
  exact h1 h
 ·rw [if_neg h]
  exact h2 h
noncomputable def Same (H H':Hp):Prop:=∀ b o,H b=some o->H' b=some o
theorem Same.refl (H:Hp):Same H H:=fun _ _ h=>h
theorem Same.trans {H H1 H2:Hp} (a:Same H H1) (b:Same H1 H2):Same H H2:=fun c o h=>b c o (a c o h)
theorem Same.free {H H':Hp} (e:Same H H') {l:Addr} (h:H' l=Option.none):H l=Option.none:=by
 cases q:H l with
 | none=>rfl
 | some o =>
  rw [e l o q] at h
  cases h
end L2
namespace L2
theorem len1 {α:Type}:∀ {us:List α},us.length=1->∃ a,us=[a]
 | [a],_=>⟨a,rfl⟩
theorem lenS {α:Type} {n:Nat}:∀ {us:List α},us.length=n+1->∃ a r,us=a::r/\r.length=n
 | a::r,h=>⟨a,r,rfl,Nat.succ.inj h⟩
theorem len2 {α:Type} {us:List α} (h:us.length=2):∃ a b,us=[a,b]:=by
 obtain ⟨a,r,rfl,k⟩:=lenS h
 obtain ⟨b,rfl⟩:=len1 k
 exact ⟨a,b,rfl⟩
theorem len3 {α:Type} {us:List α} (h:us.length=3):∃ a b c,us=[a,b,c]:=by
 obtain ⟨a,r,rfl,k⟩:=lenS h
 obtain ⟨b,c,rfl⟩:=len2 k
 exact ⟨a,b,c,rfl⟩
theorem len4 {α:Type} {us:List α} (h:us.length=4):∃ a b c d,us=[a,b,c,d]:=by
 obtain ⟨a,r,rfl,k⟩:=lenS h
 obtain ⟨b,c,d,rfl⟩:=len3 k
 exact ⟨a,b,c,d,rfl⟩
end L2
namespace Mm
theorem len6 {α:Type} {us:List α} (h:us.length=6):∃ a b c d e f,us=[a,b,c,d,e,f]:=by
 match us,h with
 | [a,b,c,d,e,f],_=>exact ⟨a,b,c,d,e,f,rfl⟩
end Mm
namespace L2
open PySem PySem.Spec PyProof.Rows
noncomputable abbrev cmpTests (ifs:List Expr) (env:Env):Sem Bool :=
 forIn ifs true fun c r=>if r=true then do let ok <- isTrue c env (eval c env);pure (ForInStep.yield ok) else pure (ForInStep.yield r)
noncomputable def clOf (cells:List (Str × Addr)):List (Str × NameKind)->List (Str × Addr)->List (Str × Addr)
 | [],acc=>acc
 | (n,k)::r,acc=>clOf cells r (if k == .free then (n,(cells.lookup n).getD 0)::acc else acc)
theorem clOf_eq {env:Env}:∀ (ns:List (Str × NameKind)) (acc:List (Str × Addr)),(∀ y∈ns,y.2=.free->∃ c,env.cells.lookup y.1=some c) ->
  (forIn ns acc fun (p:Str × NameKind) (cs:List (Str × Addr))=>(if p.2 == .free then (do let c <- cellOf env p.1;pure (ForInStep.yield ((p.1,c)::cs))) else pure (ForInStep.yield cs):Sem (ForInStep (List (Str × Addr)))))=(pure (clOf env.cells ns acc):Sem (List (Str × Addr)))
 | [],acc,_=>rfl
 | (n,k)::r,acc,h=>by
  rw [List.forIn_cons]
  by_cases hk:k=.free
  ·subst hk
   obtain ⟨c,hc⟩:=h (n,.free) List.mem_cons_self rfl
   have e1:cellOf env n=pure c:=by unfold cellOf;rw [show env.cells.lookup n=some c from hc]
   simp only [beq_self_eq_true,if_true,e1,clOf,hc,Option.getD_some]
   exact clOf_eq r ((n,c)::acc) fun y hy=>h y (List.mem_cons_of_mem _ hy)
  ·have hb:(k == NameKind.free)=false:=by simpa using hk
   simp only [hb,Bool.false_eq_true,if_false,clOf]
   exact clOf_eq r acc fun y hy=>h y (List.mem_cons_of_mem _ hy)
theorem closure_eq {env:Env} {sc:Scope} (h:∀ y∈sc.names,y.2=.free->∃ c,env.cells.lookup y.1=some c):closureFor sc env=pure (clOf env.cells sc.names []):=by
 unfold closureFor
 have q:=clOf_eq (env:=env) sc.names [] h
 have e:(forIn sc.names [] fun (p:Str × NameKind) (cs:List (Str × Addr))=>(match p with | (name,kind)=>if kind == .free then (do let c <- cellOf env name;pure (ForInStep.yield ((name,c)::cs))) else pure (ForInStep.yield cs):Sem (ForInStep (List (Str × Addr)))))=(pure (clOf env.cells sc.names []):Sem (List (Str × Addr))):=q
 simp only [e]
 rfl
theorem clOf_look {cells:List (Str × Addr)}:∀ (ns:List (Str × NameKind)) (acc:List (Str × Addr)),(∀ y∈ns,y.2=.free->∃ c,cells.lookup y.1=some c)->(∀ y c,acc.lookup y=some c->cells.lookup y=some c) ->
  (∀ y c,(clOf cells ns acc).lookup y=some c->cells.lookup y=some c)/\(∀ y,(acc.lookup y).isSome=true->((clOf cells ns acc).lookup y).isSome=true)/\(∀ y,(y,NameKind.free)∈ns->((clOf cells ns acc).lookup y).isSome=true)
 | [],acc,_,h2=>⟨h2,fun _ h=>h,fun _ h=>nomatch h⟩
 | (n,k)::r,acc,h1,h2=>by
  have h1':∀ y∈r,y.2=.free->∃ c,cells.lookup y.1=some c:=fun y hy=>h1 y (List.mem_cons_of_mem _ hy)
  by_cases hk:k=.free
  ·subst hk
   obtain ⟨c,hc⟩:=h1 (n,.free) List.mem_cons_self rfl
   have hc':cells.lookup n=some c:=hc
   have e:clOf cells ((n,.free)::r) acc=clOf cells r ((n,c)::acc):=by simp only [clOf,beq_self_eq_true,if_true,hc',Option.getD_some]
   have ih:=clOf_look (cells:=cells) r ((n,c)::acc) h1' (fun y d hy=>by
    rw [List.lookup_cons] at hy
    cases q:y == n with
    | true=>rw [q] at hy;cases hy;rw [eq_of_beq q];exact hc'
    | false=>rw [q] at hy;exact h2 y d hy)
   rw [e]
   refine ⟨ih.1,fun y hy=>ih.2.1 y ?_,fun y hy=>?_⟩
   ·rw [List.lookup_cons];split
    ·rfl
    ·exact hy
   ·rcases List.mem_cons.mp hy with z | z
    ·cases z;exact ih.2.1 n (by rw [List.lookup_cons];simp)
    ·exact ih.2.2 y z
  ·have hb:(k == NameKind.free)=false:=by simpa using hk
   have e:clOf cells ((n,k)::r) acc=clOf cells r acc:=by simp only [clOf,hb,Bool.false_eq_true,if_false]
   have ih:=clOf_look (cells:=cells) r acc h1' h2
   rw [e]
   refine ⟨ih.1,ih.2.1,fun y hy=>?_⟩
   rcases List.mem_cons.mp hy with z | z
   ·cases z;exact absurd rfl hk
   ·exact ih.2.2 y z
structure CompSc (scX sc:Scope) (NX:List Str) (x:Str) (fv:List Str) (js:List Nat):Prop where
 kind:sc.kind=.function
 kindX:scX.kind=.function
 cell:∀ y∈sc.names,y.2≠.cell
 own:sc.names.lookup x=some .local
 names:∀ y∈sc.names,y.2=.local->sc.names.lookup y.1=some .local
 free:∀ y∈sc.names,y.2=.free->scX.names.lookup y.1=some .cell
 nd:(x::fv).Nodup
 at':js.map (fun j=>NX[j]?)=fv.map some
 fr:∀ y∈fv,sc.names.lookup y=some .free
theorem relabel_free {env:Env} (hk:env.scope.kind=.function):∀ {ns:List (Str × NameKind)} {y:Str},ns.lookup y=some .free->env.kindOf y=some .cell ->
  (ns.map fun (n,k)=>if (k == NameKind.free&&env.scope.kind == .function&&env.kindOf n == some .cell) then (n,NameKind.cell) else (n,k)).lookup y=some .cell
 | [],_,h,_=>by simp at h
 | (n,k)::r,y,h,hc=>by
  have ih:=@relabel_free env hk r y
  show List.lookup y ((if (k == NameKind.free&&env.scope.kind == .function&&env.kindOf n == some .cell)=true then (n,NameKind.cell) else (n,k))::_)=_
  cases hx:y == n with
  | true =>
   simp only [List.lookup_cons,hx] at h
   cases h
   have e:y=n:=eq_of_beq hx
   subst e
   simp [List.lookup_cons,hc,hk]
  | false =>
   simp only [List.lookup_cons,hx] at h
   split<;>(simp only [List.lookup_cons,hx];exact ih h hc)
theorem relabel_back {env:Env}:∀ {ns:List (Str × NameKind)} {y:Str},(∀ z∈ns,z.2≠.cell) ->
  ((ns.map fun (n,k)=>if (k == NameKind.free&&env.scope.kind == .function&&env.kindOf n == some .cell) then (n,NameKind.cell) else (n,k)).lookup y=some .cell ∨
   (ns.map fun (n,k)=>if (k == NameKind.free&&env.scope.kind == .function&&env.kindOf n == some .cell) then (n,NameKind.cell) else (n,k)).lookup y=some .free)->(y,NameKind.free)∈ns
 | [],_,_,h=>by simp at h
 | (n,k)::r,y,hz,h=>by
  have ih:=@relabel_back env r y fun z hm=>hz z (List.mem_cons_of_mem _ hm)
  have hk:k≠.cell:=hz (n,k) List.mem_cons_self
  rw [List.map_cons] at h
  by_cases hc:(k == NameKind.free&&env.scope.kind == .function&&env.kindOf n == some .cell)=true
  ·have hf:k=.free:=by
    rw [Bool.and_eq_true,Bool.and_eq_true] at hc
    exact eq_of_beq hc.1.1
   simp only [hc,if_true,List.lookup_cons] at h
   cases hx:y == n with
   | true=>rw [eq_of_beq hx,hf];exact List.mem_cons_self
   | false=>rw [hx] at h;exact List.mem_cons_of_mem _ (ih h)
  ·rw [Bool.not_eq_true] at hc
   simp only [hc,Bool.false_eq_true,if_false,List.lookup_cons] at h
   cases hx:y == n with
   | true =>
    rw [hx] at h
    rcases h with h | h
    ·exact absurd (Option.some.inj h) hk
    ·have:k=.free:=Option.some.inj h
     rw [eq_of_beq hx,this];exact List.mem_cons_self
   | false=>rw [hx] at h;exact List.mem_cons_of_mem _ (ih h)
noncomputable def pick (js:List Nat) (σ:St):St:=js.map fun j=>(σ[j]?).getD none
noncomputable abbrev xc (X:Cx) (sc:Scope) (x:Str) (fv:List Str) (C:Addr) (s0:Shared) (H0:Hp) (ex:List Addr):Cx :=
 { X with N:=x::fv,s₀:=s0,H₀:=H0,env:=compEnvC sc (clOf X.env.cells sc.names []) C X.env,outer:=X.stack,ex:=ex,fn:=fun _=>false,pn:=[],xe:=fun _ _=>False }
noncomputable def PIf (X:Cx) (ifs:List Expr) (t:TT):Prop :=
 ∀ (pins:List (Addr × Obj)) (s:Shared) (σ:St) (H:Hp) (Q:Bool->Hp->Prop),Inv X pins σ H s->t σ H Q->wpAny (model X.prog X.w) X.A (cmpTests ifs X.env) (TP X pins σ Q) X.xe s
noncomputable def tYes:TT:=fun _ H Q=>Q true H
theorem tYes_ok {σ:St} {H:Hp} {Q:Bool->Hp->Prop} (h:Q true H):tYes σ H Q:=h
theorem pif_nil {X:Cx}:PIf X [] tYes:=fun _ _ _ H _ I h=>wpAny_tests_nil ⟨H,I,h⟩
theorem pif_one {X:Cx} {c:Expr} {t:TT} (hc:PT X c t):PIf X [c] t:=fun pins s σ H Q I h=>wpAny_tests_one (hc pins s σ H Q I h)
noncomputable def tCompB (J:It) (js:List Nat) (tt:TT) (te:TE):TE:=fun σ H1 Q=>∃ W:Nat->Nat->List V->Hp->Prop,(∃ m,W 0 m [] H1)/\∀ i m ys H,W i m ys H ->
 (J.stop i H/\∀ p,H p=none->Q (.ref p) (upd H p (.lst ys))) ∨
 (J.go i H/\∃ N:List V->Hp->Prop,(∀ ys' H',N ys' H'->∃ m',m'<m/\W (i+1) m' ys' H') /\
  ∀ x H',J.yld i H x H'->tt (some x::pick js σ) H' fun b H2=>if b=true then te (some x::pick js σ) H2 fun y H3=>ys.length<sizeLine/\N (ys++[y]) H3 else N ys H2)
noncomputable def tComp (wi:TI) (js:List Nat) (tt:TT) (te:TE):TE:=fun σ H Q=>wi σ H fun J H1=>tCompB J js tt te σ H1 Q
section
variable {X:Cx} {pins:List (Addr × Obj)} {σ:St} {H2:Hp} {s2:Shared} {elt iter:Expr} {x:Str} {px:Pos} {ifs:List Expr} {sc scX:Scope} {pos:Pos} {fv:List Str} {js:List Nat} {tt:TT} {te:TE}
theorem comp_list {K:PySem.W.Frag} {a:Addr} {xs:List V} {σ:St} {H:Hp} {Q:VK} (Pv:Nat->List V->Hp->Prop) (h0:Pv 0 [] H) (hl:∀ i ys H,i<=xs.length->Pv i ys H->SqL K H a xs)
  (hs:∀ i x ys H,xs[i]?=some x->Pv i ys H->tt (some x::pick js σ) H fun b H2=>if b=true then te (some x::pick js σ) H2 fun y H3=>ys.length<sizeLine/\Pv (i+1) (ys++[y]) H3 else Pv (i+1) ys H2)
  (hd:∀ ys H,Pv xs.length ys H->∀ p,H p=none->Q (.ref p) (upd H p (.lst ys))) :
  tCompB (Itl K a) js tt te σ H Q:=by
 refine ⟨fun i m ys H=>m=xs.length-i/\i<=xs.length/\Pv i ys H,⟨xs.length,by simp,Nat.zero_le _,h0⟩,?_⟩
 rintro i m ys H ⟨rfl,hi,p⟩
 have q:=hl i ys H hi p
 by_cases hlt:i<xs.length
 ·refine .inr ⟨⟨xs,xs[i],q,by simp [hlt]⟩,Pv (i+1),fun ys' H' p'=>⟨xs.length-(i+1),by omega,rfl,hlt,p'⟩,fun x H' y=>?_⟩
  obtain ⟨e,y⟩:=y
  subst e
  exact hs i x ys _ (y xs q) p
 ·have e:i=xs.length:=by omega
  subst e
  exact .inl ⟨⟨xs,q,Nat.le_refl _⟩,hd ys H p⟩
end
end L2
namespace Mm
open PySem
end Mm
namespace L2
open PySem PySem.Spec PyProof.Rows
section
variable {X:Cx}
theorem call_isinst {n:String}:CallR X (.builtin "isinstance") (fun xs H Q=>∃ x t b,xs=[x,.ty n]/\TyOf X.K H x t/\PySem.W.kitOne X.K t (.type n)=some b/\Q (.bl b) H):=by
 intro pins s σ H xs us Q I r h
 obtain ⟨x,t,b,rfl,ty,e,q⟩:=h
 obtain ⟨u,w',rfl,rx,rw'⟩:=vals2 r
 cases (show w'=Value.type n from rw')
 exact isinst_ok I rx ty e fun tk=>⟨.bl b,H,I.tok _,rfl,q⟩
end
theorem bt_len:bootBuiltins "len"=some (.builtin "len"):=by decide +kernel
theorem bt_isi:bootBuiltins "isinstance"=some (.builtin "isinstance"):=by decide +kernel
theorem bt_int:bootBuiltins "int"=some (.type "int"):=by decide +kernel
theorem ix_listK {X:Cx} {K:PySem.W.Frag} (h:X.K=K):IxR X (rIxL K):=by subst h;exact ix_list
end L2
namespace L2
open PySem PySem.Spec PyProof.Rows
section
variable {X:Cx}
theorem all_getD (bs:List Bool):((List.range bs.length).all fun i=>bs.getD i false)=bs.all id:=by
 have:(List.range bs.length).map (fun i=>bs.getD i false)=bs:=by
  apply List.ext_getElem
  ·simp
  ·intro i h1 h2
   simp at h1
   simp [h1]
 calc ((List.range bs.length).all fun i=>bs.getD i false)=((List.range bs.length).map fun i=>bs.getD i false).all id:=by rw [List.all_map];rfl
  _=bs.all id:=by rw [this]
theorem bl_at {bs:List Bool} {its:List Value} (r:Vals (bs.map V.bl) its) {i:Nat} {v:Value} (e:its[i]?=some v):v=.bool (bs.getD i false):=by
 have hl:=r.length
 have hi:i<its.length:=(List.getElem?_eq_some_iff.mp e).1
 rw [List.length_map] at hl
 have hb:(bs.map V.bl)[i]?=some (V.bl (bs.getD i false)):=by
  rw [List.getElem?_map,List.getElem?_eq_getElem (by omega)]
  simp [List.getD_eq_getElem?_getD,List.getElem?_eq_getElem (show i<bs.length by omega)]
 obtain ⟨u,hu,ru⟩:=r.get hb
 rw [e] at hu
 cases hu
 exact ru
theorem call_allB (hc:X.calm=true):CallR X (.builtin "all") (fun xs H Q=>∃ (p:Addr) (bs:List Bool),xs=[.ref p]/\SqL X.K H p (bs.map V.bl)/\Q (.bl (bs.all id)) H):=by
 intro pins s σ H xs us Q I r h
 obtain ⟨p,bs,rfl,hq,q⟩:=h
 obtain ⟨u,rfl,ru⟩:=vals1 r
 cases (show u=Value.ref p from ru)
 obtain ⟨its,rv,pl,hz⟩:=I.list hq
 have hlen:its.length=bs.length:=by rw [<- rv.length,List.length_map]
 have hlt:p<s.heap.objs.size:=by obtain ⟨o,n,e,_⟩:=pl;exact Heap.lt_size e
 refine call_all_walk (wpAny_pyIter_list pl.isList ?_)
 refine ⟨s.heap.objs.size,_,_,_,_,_,fun i=>bs.getD i false,rfl,Walks.list (A:=X.A.in1) (show X.A.in1.handled=none from I.ok.hd hc) _ p (Nat.ne_of_lt hlt) its.toArray,⟨⟨_,Heap.get?_push_size _ rfl,rfl,rfl⟩,Heap.IsList.at pl.isList fun o e=>Heap.get?_push_of_some _ e⟩,?_,fun h' tk hk=>?_⟩
 ·intro i v s' Q' E' hv hq'
  have e:its[i]?=some v:=by simpa using hv
  rw [bl_at rv e]
  exact wpAny_truthy_bool hq'
 ·refine ⟨.bl _,H,I.kept fun b o e=>hk b o ?_ (Heap.get?_push_of_some _ e),rfl,?_⟩
  ·intro z
   have z':b=s.heap.objs.size:=by simpa using z
   exact Nat.lt_irrefl _ (z' ▸ Heap.lt_size e)
  ·have e:its.toArray.size=bs.length:=by rw [List.size_toArray];exact hlen
   rw [e,all_getD]
   exact q
end
theorem bt_all:bootBuiltins "all"=some (.builtin "all"):=by decide +kernel
theorem bt_list:bootBuiltins "list"=some (.type "list"):=by decide +kernel
end L2
namespace L2
open PySem PySem.Spec PyProof.Rows
section
variable {X:Cx}
noncomputable def ItN (n:Nat) (y:Nat->V):It:=⟨fun i _=>i<n,fun i H x H'=>H'=H/\x=y i,fun i _=>n<=i⟩
end
end L2
namespace PySem.F
end PySem.F
namespace PySem
section
variable {prog:Program} {w:World} {A:Around} {E:Value->Shared->Prop} {s:Shared}
end
end PySem
namespace L2
open PySem PySem.Spec PyProof.Rows
section
variable {X:Cx} {tg:Expr}
end
end L2
namespace L2
open PySem PySem.Spec PyProof.Rows
section
variable {X:Cx} {a:Addr} {kvs:List (Str × Int)} {x:Str} {p pos apos cpos:Pos} {e f:Expr} {ty tx:TE}
end
end L2
namespace L2
open PySem PySem.Spec PyProof.Rows
section
variable {X:Cx}
end
theorem kit_same (K:PySem.W.Frag) (C:Addr):PySem.W.kitOne K (.ref C) (.ref C)=some true:=by
 unfold PySem.W.kitOne
 rw [if_pos (by simp)]
theorem bt_str:bootBuiltins "str"=some (.type "str"):=by decide +kernel
end L2
namespace L2
open PySem PySem.Spec PyProof.Rows
section
variable {X:Cx}
end
structure Body (X:Cx):Prop where
 ex:X.ex=[]
 stk:X.stack=X.env::X.outer
 frm:X.env.frame=some X.env.locals
 fn:∀ x,X.fn x=true
theorem Body.wish {X:Cx} (b:Body X) (E:Value->Shared->Prop):Body (X.wish E):=⟨b.ex,b.stk,b.frm,b.fn⟩
section
variable {X:Cx} {pins:List (Addr × Obj)} {σ:St} {H H':Hp} {s s':Shared} {B h'':Heap}
theorem Body.frs (b:Body X):frs X.stack=X.env.locals::X.fs:=by
 show List.filterMap _ _=_
 rw [b.stk]
 simp [b.frm,Cx.fs,L2.frs]
theorem Body.old (b:Body X) (I:Inv X pins σ H s) {c:Addr} {o:Obj} (e:X.s₀.heap.get? c=some o) (hc:c∉X.fs):c∉L2.frs X.stack:=by
 rw [b.frs]
 intro hm
 rcases List.mem_cons.mp hm with z | z
 ·exact absurd (Nat.lt_of_lt_of_le (Heap.lt_size e) I.ok.above) (by rw [z];exact Nat.lt_irrefl _)
 ·exact hc z
theorem Body.cell (b:Body X) (I:Inv X pins σ H s) {x:Str} {c:Addr} (e:X.env.cells.lookup x=some c):c∉L2.frs X.stack:=by
 rw [b.frs]
 intro hm
 rcases List.mem_cons.mp hm with z | z
 ·exact I.cne x c e z
 ·obtain ⟨o,ho,_⟩:=(I.ok.funs.mem (show c∈X.outer.filterMap (·.frame) from z)).2
  exact absurd (Nat.lt_of_lt_of_le (Heap.lt_size ho) (I.ok.cab x c (b.fn x) e)) (Nat.lt_irrefl _)
theorem lands (b:Body X) (I:Inv X pins σ H s) (un:Un (L2.frs X.stack) [] H H' s.heap s'.heap) (hok:HOk X.prog X.w H' s'.heap) (os:s'.os=s.os) (bare:AllBare s'.gens)
  (hB1:B.StaysIn s'.heap) (hB2:B.StaysIn h'') (up:s'.heap.UpToSlots h'') (fr:∀ c∈L2.frs X.stack,∃ o,s'.heap.get? c=some o/\∀ vs,o.data≠.fields vs)
  (pres:∀ c o,s.heap.get? c=some o->c∉L2.frs X.stack->∃ o',B.get? c=some o') (trk:∀ a o,H' a=some o->∃ ob,B.get? a=some ob):Inv X pins σ H' { s' with heap:=h'' }:=by
 have I':Inv X pins σ H' s':=I.call' os un hok bare fun c hc=>absurd hc (by simp)
 have same:∀ c o,s'.heap.get? c=some o->(∃ o',B.get? c=some o')->h''.get? c=some o:=fun c o e ⟨o',eb⟩=>by
  have:=hB1 c o' eb
  rw [e] at this
  cases this
  exact hB2 c _ eb
 have inB:∀ c o,X.s₀.heap.get? c=some o->c∉X.fs->∃ o',B.get? c=some o':=fun c o e hc=>by
  obtain ⟨o1,e1⟩:=I.base.there c o e (by rw [b.ex];simp)
  exact pres c o1 e1 (b.old I e hc)
 have fsub:∀ c∈X.fs,c∈L2.frs X.stack:=fun c hc=>by rw [b.frs];exact List.mem_cons_of_mem _ hc
 refine ⟨I'.ok,I'.os,I'.bare,⟨fun c o q n hb hx=>same c o (I'.base.keep c o q n hb hx) (inB c o q hb),fun c o q n hb hx=>?_,I'.base.free,fun c o q hx=>?_,I'.base.tups,I'.base.frzs,I'.base.tbls⟩,?_,fun x c e=>?_,I'.free,I'.freeC,fun p hp=>?_,fun a o e=>?_,I'.len⟩
 ·obtain ⟨sl,e1⟩:=I'.base.slot c o q n hb hx
  obtain ⟨o1,e2,nd⟩:=fr c (fsub c hb)
  rw [e1] at e2
  cases e2
  obtain ⟨sl',e3⟩:=up c _ e1 nd
  exact ⟨sl',e3⟩
 ·by_cases hb:c∈X.fs
  ·obtain ⟨o1,e2,nd⟩:=fr c (fsub c hb)
   obtain ⟨sl',e3⟩:=up c _ e2 nd
   exact ⟨_,e3⟩
  ·obtain ⟨o',eb⟩:=inB c o q hb
   exact ⟨o',hB2 c o' eb⟩
 ·obtain ⟨m,hn,hl⟩:=I'.loc
  refine ⟨m,up.ns hn,fun i x v e1 e2 e3=>?_⟩
  obtain ⟨u,r,lk⟩:=hl i x v e1 e2 e3
  refine ⟨u,r,?_⟩
  rcases lk with z | ⟨k,c,ec,oc,hc,hd⟩
  ·exact .inl z
  ·obtain ⟨v0,o0,ho0,_⟩:=I.cell x c ec
   exact .inr ⟨k,c,ec,oc,same c oc hc (pres c o0 ho0 (b.cell I ec)),hd⟩
 ·obtain ⟨v1,o1,ho1,hd1⟩:=I'.cell x c e
  obtain ⟨v0,o0,ho0,_⟩:=I.cell x c e
  exact ⟨v1,o1,same c o1 ho1 (pres c o0 ho0 (b.cell I e)),hd1⟩
 ·obtain ⟨e,n,ne,nf,d⟩:=I'.pin p hp
  obtain ⟨e0,_⟩:=I.pin p hp
  refine ⟨same p.1 p.2 e (pres p.1 p.2 e0 ?_),n,ne,nf,d⟩
  rw [b.frs]
  intro hm
  rcases List.mem_cons.mp hm with z | z
  ·exact ne z
  ·exact nf z
 ·refine (I'.hok a o e).stay (fun c u hc q=>same c u q ?_) (fun _ q=>q) fun _ _ q=>q
  rcases hc with rfl | hc
  ·exact trk _ _ e
  ·exact trk _ _ hc
theorem frames_of {l:List Env} {h:Heap} (f:h.FunFrames B l):∀ c∈L2.frs l,∃ o,h.get? c=some o/\∀ vs,o.data≠.fields vs:=fun c hc=>(f.mem hc).2
end
section
variable {P:Program} {w:World} {K:PySem.W.Frag} {mg:Str->Option Value} {base:Heap} {N:List Str} {qual:Str} {scope:Scope} {f:Addr} {cd:Value} {A:Around} {outer:List Env} {s₀:Shared} {H₀:Hp} {E:XK}
theorem body_cx {CX:CXT}:Body (cxOf CX P w K mg base N qual scope f cd A outer s₀ H₀ E):=⟨rfl,rfl,rfl,fun _=>rfl⟩
theorem obj_is {X:Cx} {pins:List (Addr × Obj)} {σ:St} {H:Hp} {s:Shared} {a:Addr} {o:HO} (I:Inv X pins σ H s) (e:H a=some o):∃ ob,s.heap.get? a=some ob:=by
 have x:=I.hok a o e
 cases o with
 | lst xs=>obtain ⟨_,_,_,_,e⟩:=x;exact ⟨_,e⟩
 | tup xs=>obtain ⟨_,_,_,o,e,_⟩:=x;exact ⟨_,e⟩
 | dK kvs=>obtain ⟨_,_,_,_,o,_,_,e,_⟩:=x;exact ⟨_,e⟩
 | dT kvs=>obtain ⟨_,_,_,_,o,_,_,e,_⟩:=x;exact ⟨_,e⟩
 | set S n=>obtain ⟨o,_,_,_,e,_⟩:=x;exact ⟨_,e⟩
 | ins C dx fs=>obtain ⟨_,_,_,e,_⟩:=x;exact ⟨_,e⟩
 | own y=>exact x
 | xd fs=>obtain ⟨_,⟨_,_,_,e,_⟩,_⟩:=x;exact ⟨_,e⟩
 | rng lo hi=>obtain ⟨_,_,_,e⟩:=x;exact ⟨_,e⟩
 | frz ob u=>exact ⟨_,x.1⟩
 | tbl ps=>exact ⟨_,show s.heap.get? a=some _ from x⟩
 | met f y=>exact ⟨_,show s.heap.get? a=some _ from x⟩
 | ext φ=>exact x.2.1
end
section
variable {X:Cx}
end
end L2
namespace L2
open PySem PySem.Spec PyProof.Rows
section
variable {prog:Program} {w:World} {A:Around} {E:Value->Shared->Prop} {s:Shared} {K:PySem.W.Frag} {x D:Addr} {name:Str}
structure XCls (K:PySem.W.Frag) (D:Addr):Prop where
 hg:PySem.W.findIn K (.ref D) "__getattribute__"=some (some (.builtin "BaseException.__getattribute__"))
 hk:PySem.W.findIn K (.ref D) "__getattr__"=some none
 hb:PySem.W.mroIn K D (.type "BaseException")=some true
 ha:PySem.W.findIn K (.ref D) "__class__"=some (some (.builtin "object.__class__"))
 hn:PySem.W.specialIn K (.builtin "object.__class__") "__get__"=some (some (.builtin "getset_descriptor.__get__"))
 ht:PySem.W.takesIn K (.builtin "object.__class__")=some true
 hm:PySem.W.mroIn K D (.type "object")=some true
noncomputable def HasCls (a:Addr) (cls:Value) (h:Heap):Prop:=∃ o,h.get? a=some o/\o.cls=cls
open PySem.W in
theorem HasCls.type {M:Model} {h:Heap} {cls:Value} (p:HasCls x cls h):Looks M h (typeOf (.ref x)) cls:=by
 obtain ⟨o,h1,h2⟩:=p
 exact h2 ▸ (Looks.ld h1).andThen .now
open PySem.W PySem.Calls in
theorem xc_check {M:Model} {nameV:Value} {Q:Unit->Shared->Prop} (c:XCls K D) (X:K.In s.heap) (I:HasCls x (.ref D) s.heap) (hq:Q () s):wpAny M A (checkBuiltinCall "BaseException.__getattribute__" ⟨[.ref x,nameV],[]⟩) Q E s:=by
 have hk:builtinKind "BaseException.__getattribute__"=some .slot:=by decide +kernel
 have hsplit:splitId "BaseException.__getattribute__"=some ("BaseException","__getattribute__"):=by decide +kernel
 have ha:=F.args_bexc_ga (.ref x) nameV
 obtain ⟨hh,gg,d,t,os⟩:=s
 have L0:=I.type (M:=M)
 have L1:=looks_mroIn (M:=M) X c.hb
 have L2:Looks M hh (isInstance (.ref x) (.type "BaseException")) true:=L0.andThen L1
 simp only [checkBuiltinCall,hk,hsplit]
 refine wpAny_bind (L2.at ?_)
 repeat (first | exact hq | wp_step)
end
section
variable {X:Cx}
end
noncomputable def PEX (CX:CXT) (X:Cx) (e:Expr) (t:XK->TE):Prop :=
 ∀ (E:XK) (xe':Value->Shared->Prop) (pins:List (Addr × Obj)) (s:Shared) (σ:St) (H:Hp) (Q:VK),(∀ H s e s',Inv X pins σ H s->CX X.stack H s E e s'->xe' e s')->Inv X pins σ H s->t E σ H Q ->
  wpAny (model X.prog X.w) X.A (eval e X.env) (EP X pins σ Q) xe' s
section
variable {X:Cx} {CX:CXT} {k:Nat} {f C:Addr} {fd:FuncData} {ps:List Str} {sp:Sp} {dvs:List V} {ds:List Value} {x m:Str} {p pos apos:Pos} {e o:Expr} {es:List Expr} {ta:TE} {t:TA}
theorem run_fnX {xe':Value->Shared->Prop} {E:XK} {pins:List (Addr × Obj)} {σ:St} {H:Hp} {s:Shared} {Q:VK} {us:List Value} {vs:List V} (F:FnOk X.prog X.w X.K X.mg X.base CX k f fd ps sp) (hr:Room k X.A) (hb:Binds X.K fd ps ds) (hd:Vals dvs ds)
  (hx:∀ H s e s',Inv X pins σ H s->CX X.stack H s E e s'->xe' e s')
  (I:Inv X pins σ H s) (r:Vals vs us) (h:sp (vs++dvs) H Q E):wpAny (model X.prog X.w) X.A (call (.ref f) us) (EP X pins σ Q) xe' s:=by
 have r2:Vals (vs++dvs) (us++ds):=r.append hd
 have hl:(us++ds).length=ps.length:=by rw [<- r2.length];exact F.len _ _ _ _ h
 refine wpAny_call (codeAny_mono (F.run X.A X.stack s H ⟨us,[]⟩ (us++ds) (vs++dvs) Q E hr I.env0 (hb s us I.kIn hl) r2 h) fun r s' hq=>?_)
 cases r with
 | error e=>exact hx H s e s' I hq
 | ok fl =>
  cases fl with
  | ret u=>exact I.after hq
  | next=>exact False.elim hq
  | brk=>exact False.elim hq
  | cont=>exact False.elim hq
end
noncomputable abbrev Cx.hnd (X:Cx) (ea:Addr):Cx:={ X with A:=X.A.mark (some (.ref ea)),calm:=false,xe:=fun _ _=>False }
section
variable {X:Cx} {pins:List (Addr × Obj)} {σ:St} {H:Hp} {s:Shared}
theorem Cx.Ok.hnd (ok:X.Ok) (ea:Addr):(X.hnd ea).Ok :=
 ⟨ok.mod,ok.kind,ok.glob,ok.blt,ok.above,ok.inj,ok.has,ok.cab,(fun z=>nomatch z),ok.frames,ok.stk,ok.exf,ok.bs,ok.bsz,ok.noex,ok.exfs,ok.funs,ok.frf⟩
theorem Inv.hnd (I:Inv X pins σ H s) (ea:Addr):Inv (X.hnd ea) pins σ H s:=⟨I.ok.hnd ea,I.os,I.bare,I.base,I.loc,I.cell,I.free,I.freeC,I.pin,I.hok,I.len⟩
theorem Inv.unhnd {ea:Addr} (ok:X.Ok) (I:Inv (X.hnd ea) pins σ H s):Inv X pins σ H s:=⟨ok,I.os,I.bare,I.base,I.loc,I.cell,I.free,I.freeC,I.pin,I.hok,I.len⟩
theorem Inv.track (I:Inv X pins σ H s) {a:Addr} {o:HO} (hn:H a=none) (hs:X.s₀.heap.get? a=none) (hl:a≠X.env.locals) (hc:∀ x c,X.env.cells.lookup x=some c->c≠a) (hp:∀ p∈X.pn++pins,p.1≠a)
  (new:ObjOk X.prog X.w (upd H a o) s.heap a o):Inv X pins σ (upd H a o) s:=by
 have st:∀ b u,H b=some u->upd H a o b=some u:=fun b u e=>by rw [upd_ne (ne_of_none e hn)];exact e
 refine ⟨I.ok,I.os,I.bare,⟨I.base.keep,I.base.slot,fun b ob e n hx=>?_,I.base.there,fun b xs e=>st _ _ (I.base.tups b xs e),fun b ob u e=>st _ _ (I.base.frzs b ob u e),fun b ps e=>?_⟩,I.loc,I.cell,?_,fun x c e=>?_,fun p h=>?_,fun b u e=>?_,I.len⟩
 ·rw [upd_ne (fun z=>by rw [z,hs] at e;cases e)];exact I.base.free b ob e n hx
 ·obtain ⟨m,e1⟩:=I.base.tbls b ps e
  exact ⟨m,st _ _ e1⟩
 ·rw [upd_ne (Ne.symm hl)];exact I.free
 ·rw [upd_ne (hc x c e)];exact I.freeC x c e
 ·obtain ⟨e,n,ne,nf,d⟩:=I.pin p h
  exact ⟨e,by rw [upd_ne (hp p h)];exact n,ne,nf,d⟩
 ·by_cases hb:b=a
  ·subst hb
   rw [upd_same] at e
   cases e
   exact new
  ·rw [upd_ne hb] at e
   exact (I.hok b u e).stay (fun _ _ _ q=>q) (fun c q=>st _ _ q) fun c xs q=>st _ _ q
theorem goes_ok {M:Model} {A:Around} {E:Value->Shared->Prop} {i:Nat} {n:Str} {pos:Pos} {Q:Unit->Shared->Prop} (I:Inv X pins σ H s) (hN:X.N.Nodup) (hi:X.N[i]?=some n) (hk:X.env.scope.names.lookup n=some .local)
  (h:∀ s',Inv X pins (σ.set i none) H s'->Q () s'):wpAny M A (do bindName X.env n .none;unbindBehindTheSuite X.env n pos) Q E s:=by
 refine wpAny_bind (wpAny_bindName (store_ok (v:=.non) I hN hi (.inl hk) rfl (fun s1 I1=>?_) (.inr hk)))
 unfold unbindBehindTheSuite
 have hcls:(X.env.scope.kind == .class||(X.env.scope.kind == .module&&X.env.locals != X.env.globals))=false:=by rw [I.ok.kind];rfl
 have hiσ:i<σ.length:=by rw [I.len];exact (List.getElem?_eq_some_iff.mp hi).1
 obtain ⟨m,hn,hl⟩:=id I1.loc
 obtain ⟨u,_,lk⟩:=hl i n .non hi (List.getElem?_set_self hiσ) (.inl hk)
 have hm:m n=some u:=by
  rcases lk with z | ⟨z | z,_⟩
  ·exact z.2
  ·rw [show X.env.kindOf n=X.env.scope.names.lookup n from rfl,hk] at z;cases z
  ·rw [show X.env.kindOf n=X.env.scope.names.lookup n from rfl,hk] at z;cases z
 obtain ⟨oL,_,_,hoL,_⟩:=id hn
 refine wpAny_onRaise (wpAny_unbindName_local hk hn hm hcls fun h' u' hn' hs=>?_)
 have cne:=I1.cne
 refine h _ ⟨I1.ok,I1.os,I1.bare,⟨fun b o e n hb hx=>?_,fun b o e n hb hx=>?_,I1.base.free,fun b o e hx=>?_,I1.base.tups,I1.base.frzs,I1.base.tbls⟩,⟨_,hn',fun j y v' e1 e2 e3=>?_⟩,fun y c e=>?_,I1.free,I1.freeC,fun p hp=>?_,fun b ob e=>?_,by simpa using I.len⟩
 ·exact (hs.2 b (Nat.ne_of_lt (Nat.lt_of_lt_of_le (Heap.lt_size e) I.ok.above))).trans (I1.base.keep b o e n hb hx)
 ·obtain ⟨sl,e1⟩:=I1.base.slot b o e n hb hx
  exact ⟨sl,(hs.2 b (Nat.ne_of_lt (Nat.lt_of_lt_of_le (Heap.lt_size e) I.ok.above))).trans e1⟩
 ·obtain ⟨o',e1⟩:=I1.base.there b o e hx
  exact ⟨o',(hs.2 b (Nat.ne_of_lt (Nat.lt_of_lt_of_le (Heap.lt_size e) I.ok.above))).trans e1⟩
 ·by_cases hj:j=i
  ·subst hj
   rw [List.getElem?_set_self hiσ] at e2
   cases e2
  ·rw [List.getElem?_set_ne (Ne.symm hj)] at e2
   obtain ⟨u',r',q⟩:=hl j y v' e1 (by rw [List.getElem?_set_ne (Ne.symm hj)];exact e2) e3
   refine ⟨u',r',?_⟩
   rcases q with ⟨k,e⟩ | ⟨k,c,e,z⟩
   ·refine .inl ⟨k,?_⟩
    have:y≠n:=fun e=>hj (nodup_ix hN e1 (e ▸ hi))
    simp [this,e]
   ·exact .inr ⟨k,c,e,z.sameBut hs (cne y c e)⟩
 ·obtain ⟨w',z⟩:=I1.cell y c e
  exact ⟨w',z.sameBut hs (cne y c e)⟩
 ·obtain ⟨e,n,ne,nf,d⟩:=I1.pin p hp
  exact ⟨(hs.2 p.1 ne).trans e,n,ne,nf,d⟩
 ·refine (I1.hok b ob e).stay (fun c w' hc q=>(hs.2 c ?_).trans q) (fun _ q=>q) fun _ _ q=>q
  rintro rfl
  rcases hc with rfl | hc
  ·rw [I1.free] at e;cases e
  ·rw [I1.free] at hc;cases hc
end
noncomputable def Ends.unset (D:Ends) (i:Nat):Ends:={ nx:=fun σ H=>D.nx (σ.set i none) H,rt:=D.rt,bk:=fun σ H=>D.bk (σ.set i none) H,ct:=fun σ H=>D.ct (σ.set i none) H }
section
variable {X:Cx}
end
end L2
namespace L2
open PySem PySem.Spec PyProof.Rows
noncomputable def PSX (CX:CXT) (X:Cx) (sts:List Stmt) (t:XK->TS):Prop :=
 ∀ (E:XK) (xe':Value->Shared->Prop) (pins:List (Addr × Obj)) (s:Shared) (σ:St) (H:Hp) (D:Ends),(∀ H s e s',Inv X pins σ H s->CX X.stack H s E e s'->xe' e s')->Inv X pins σ H s->t E D σ H ->
  wpAny (model X.prog X.w) X.A (execs sts X.env) (SP X pins D) xe' s
section
variable {X:Cx} {CX:CXT} {e:Expr} {te:XK->TE} {pos:Pos}
theorem psx_expr (he:PEX CX X e te) (hs:swapsWith e none pos.line X.env=pure false:=by rfl):PSX CX X [.Expr e pos] (fun E=>tDrop (te E)):=by
 intro E xe' pins s σ H D hx I h
 exact wpAny_execs_cons (wpAny_Expr_any (thn (he E xe' pins s σ H _ hx I h) fun v s1 hsl43=>by obtain ⟨x,H1,I1,r1,q1⟩:=hsl43;exact wpAny_execs_nil ⟨σ,H1,I1,q1⟩) I.quiet hs)
end
section
variable {X:Cx} {CX:CXT} {k:Nat} {f C:Addr} {fd:FuncData} {ps:List Str} {sp:Sp} {dvs:List V} {ds:List Value} {x m:Str} {p pos apos:Pos} {e o:Expr} {es:List Expr} {ta:TE} {t:TA}
theorem pex_meth {pl:Sem Bool} (he:PE X.nox o ta) (c:Cls X.K C) (hm:Meth X.K C m f) (F:FnOk X.prog X.w X.K X.mg X.base CX k f fd ps sp) (hr:Room k X.A) (hb:Binds X.K fd ps ds) (hd:Vals dvs ds) (ha:PA X.nox (e::es) t)
  (hst:starEach (e::es) X.env=(false,eval e X.env)::starEach es X.env:=by rfl) (hpl:(backTo pos (starEach es X.env)).any (·.1)=false:=by rfl)
  (ht:eval (.Call (.Attribute o m apos) (e::es) [] pos) X.env=(do
   let ov <- eval o X.env
   standAt apos.atName
   let (f,first) <- holding [ov] (getMethod ov m pl)
   callWith pos f first (backTo pos (starEach (e::es) X.env)) (backToKw pos (keywordEach [] X.env))):=by rfl) :
  PEX CX X (.Call (.Attribute o m apos) (e::es) [] pos) (fun E=>tMeth C m sp dvs E ta t):=by
 intro E xe' pins s σ H Q hx I h
 refine PySem.W.methodCall_KW (pl:=pl) (wpAny_mono (he pins s σ H _ (I.wish _) h) (fun u s1 hsl44=>?_) fun _ _ z=>False.elim z) ht
 obtain ⟨x,H1,I1,rx,a,dx,fs,ex,ea,l,q⟩:=hsl44
 subst ex
 obtain rfl:u=Value.ref a:=rx
 refine getmeth_ok I1.unwish ea c hm l ?_
 refine PySem.W.callWith_K (first:=[.ref a]) (h₀:=X.base) I.ok.mod.kin hm.kp (wpAny_mono (ha pos pins s1 σ H1 _ I1 q) (fun us s2 ⟨vs,H2,I2,r,q2⟩=>⟨I2.unwish.kIn,?_⟩) fun _ _ z=>False.elim z) hst hpl
 exact run_fnX (us:=.ref a::us) (vs:=.ref a::vs) F hr hb hd hx I2.unwish (.cons rfl r) q2
end
section
variable {X:Cx}
end
end L2
namespace L2
open PySem PySem.Spec PyProof.Rows
theorem cmp_loop2 {prog:Program} {w:World} {A:Around} {R:Result->Shared->Prop} {s:Shared} {elt iter:Expr} {tg:Expr} {ifs:List Expr} {sc:Scope} {pos:Pos} {it acc:Value} {env:Env} (J:Nat->Shared->Prop)
  (one:∀ k st,J k st->wpAny (model prog w) A (pyNext it) (fun r s₁=>match r with
   | none=>R (.ok .next) s₁
   | some v=>wpAny (model prog w) A (letOwnedTupleGo tg it v) (fun _ sg=>wpAny (model prog w) A (assign tg env v) (fun _ s₂ =>
     wpAny (model prog w) A (cmpTests ifs env) (fun ok s₃ =>
      if ok=true then wpAny (model prog w) A (eval elt env) (fun y s₄=>wpAny (model prog w) A (call (.builtin "list.append") [acc,y]) (fun _ s₅=>∃ m,m<k/\J m s₅) (fun _ _=>False) s₄) (fun _ _=>False) s₃
      else ∃ m,m<k/\J m s₃) (fun _ _=>False) s₂) (fun _ _=>False) sg) (fun _ _=>False) s₁) (fun _ _=>False) st)
  (k0:Nat) (h0:J k0 s):codeAny (model prog w) A (.compLoop (.ListComp elt [⟨tg,iter,ifs,0⟩] sc pos) 0 it acc env) R s:=by
 refine codeAny_loop rfl J (fun k st hk=>?_) k0 h0
 show wpAny _ A ((compTurn (.ListComp elt [⟨tg,iter,ifs,0⟩] sc pos) 0 it acc env).onRaise (fun y=>do noteFrame y env;theTreesLotGoes y)) _ _ st
 refine wpAny_noted ?_
 rw [compTurn_list]
 refine wpAny_bind (wpAny_standAt (wpAny_bind (wpAny_mono (one k st hk) (fun r s₁ h₁=>?_) fun _ _ z=>z.elim)))
 cases r with
 | none=>exact wpAny_pure h₁
 | some v =>
  refine wpAny_bind (wpAny_mono h₁ (fun _ sg hg=>?_) fun _ _ z=>z.elim)
  refine wpAny_bind (wpAny_mono hg (fun _ s₂ h₂=>?_) fun _ _ z=>z.elim)
  refine wpAny_bind (wpAny_mono h₂ (fun ok s₃ h₃=>?_) fun _ _ z=>z.elim)
  cases ok with
  | false=>exact wpAny_pure ⟨rfl,h₃⟩
  | true =>
   refine wpAny_bind (wpAny_bind (wpAny_mono h₃ (fun y s₄ h₄=>?_) fun _ _ z=>z.elim))
   exact wpAny_bind (wpAny_mono h₄ (fun _ s₅ h₅=>wpAny_pure (wpAny_pure ⟨rfl,h₅⟩)) fun _ _ z=>z.elim)
structure CompSc2 (scX sc:Scope) (NX:List Str) (xs:List Str) (fv:List Str) (js:List Nat):Prop where
 kind:sc.kind=.function
 kindX:scX.kind=.function
 cell:∀ y∈sc.names,y.2≠.cell
 own:∀ x∈xs,sc.names.lookup x=some .local
 names:∀ y∈sc.names,y.2=.local->sc.names.lookup y.1=some .local
 free:∀ y∈sc.names,y.2=.free->scX.names.lookup y.1=some .cell
 nd:(xs++fv).Nodup
 at':js.map (fun j=>NX[j]?)=fv.map some
 fr:∀ y∈fv,sc.names.lookup y=some .free
noncomputable abbrev xc2 (X:Cx) (sc:Scope) (xs:List Str) (fv:List Str) (C:Addr) (s0:Shared) (H0:Hp) (ex:List Addr):Cx :=
 { X with N:=xs++fv,s₀:=s0,H₀:=H0,env:=compEnvC sc (clOf X.env.cells sc.names []) C X.env,outer:=X.stack,ex:=ex,fn:=fun _=>false,pn:=[],xe:=fun _ _=>False }
noncomputable def tStep2 (k:Nat) (js:List Nat) (g:TG) (tt:TT) (te:TE) (σ:St) (ys:List V) (N:List V->Hp->Prop) (x:V) (H':Hp):Prop :=
 ∀ os:List (Option V),os.length=k->g x (os++pick js σ) H' fun σ6 H6=>(∃ os':List (Option V),os'.length=k/\σ6=os'++pick js σ) /\
  tt σ6 H6 fun b H2=>if b=true then te σ6 H2 fun y H3=>ys.length<sizeLine/\N (ys++[y]) H3 else N ys H2
noncomputable def tCompB2 (J:It) (k:Nat) (js:List Nat) (g:TG) (tt:TT) (te:TE):TE:=fun σ H1 Q=>∃ W:Nat->Nat->List V->Hp->Prop,(∃ m,W 0 m [] H1)/\∀ i m ys H,W i m ys H ->
 (J.stop i H/\∀ p,H p=none->Q (.ref p) (upd H p (.lst ys))) ∨
 (J.go i H/\∃ N:List V->Hp->Prop,(∀ ys' H',N ys' H'->∃ m',m'<m/\W (i+1) m' ys' H')/\∀ x H',J.yld i H x H'->tStep2 k js g tt te σ ys N x H')
noncomputable def tComp2 (wi:TI) (k:Nat) (js:List Nat) (g:TG) (tt:TT) (te:TE):TE:=fun σ H Q=>wi σ H fun J H1=>tCompB2 J k js g tt te σ H1 Q
section
variable {X:Cx} {pins:List (Addr × Obj)} {σ:St} {H2:Hp} {s2:Shared} {elt iter tg:Expr} {xs:List Str} {ifs:List Expr} {sc scX:Scope} {pos:Pos} {fv:List Str} {js:List Nat} {g:TG} {tt:TT} {te:TE}
theorem comp_core2 (S:CompSc2 scX sc X.N xs fv js) (hsx:X.env.scope=scX) (hcalm:X.calm=true) (hgg:∀ C s0 H0 ex,PG (xc2 X sc xs fv C s0 H0 ex) tg g)
  (ht:∀ C s0 H0 ex,PIf (xc2 X sc xs fv C s0 H0 ex) ifs tt) (he:∀ C s0 H0 ex,PE (xc2 X sc xs fv C s0 H0 ex) elt te)
  {it:Addr} {fp:List Addr} {tn:Nat->Heap->Prop} {J:It} (I2:Inv X pins σ H2 s2) (T:Turn X.prog X.w X.K tg J fp it tn) (st2:tn 0 s2.heap) (f2:∀ b∈fp,FpOk X pins H2 b)
  {Q:VK} {W:Nat->Nat->List V->Hp->Prop} (w0:∃ m,W 0 m [] H2)
  (step:∀ i m ys H,W i m ys H->(J.stop i H/\∀ p,H p=none->Q (.ref p) (upd H p (.lst ys))) ∨
   (J.go i H/\∃ N:List V->Hp->Prop,(∀ ys' H',N ys' H'->∃ m',m'<m/\W (i+1) m' ys' H') /\
    ∀ x H',J.yld i H x H'->tStep2 xs.length js g tt te σ ys N x H'))
  {RR:Value->Addr->Result->Shared->Prop} {E:Value->Shared->Prop}
  (fin:∀ (D C:Addr) (s':Shared) (H':Hp),Inv X pins σ H' s'->Q (.ref D) H'->(∃ m,s'.heap.Ns C m)->FpOk X pins H' C->RR (.ref D) C (.ok .next) s') :
  wpAny (model X.prog X.w) X.A (newList []) (fun acc s₃=>wpAny (model X.prog X.w) X.A (newFunctionEnv sc X.env.globals (clOf X.env.cells sc.names []) [] X.env.qual none .none (some X.env)) (fun cenv s₄ =>
   codeAny (model X.prog X.w) X.A (.compStart (.ListComp elt [⟨tg,iter,ifs,0⟩] sc pos) 0 (.ref it) acc { cenv with scope:=relabel sc X.env }) (RR acc cenv.locals) s₄) E s₃) E s2:=by
 have hfree:∀ y∈sc.names,y.2=.free->∃ c,X.env.cells.lookup y.1=some c:=fun y hy hf=>I2.ok.has y.1 (.inl (by show X.env.scope.names.lookup y.1=_;rw [hsx];exact S.free y hy hf))
 obtain ⟨cl1,_,cl3⟩:=clOf_look (cells:=X.env.cells) sc.names [] hfree (fun y c h=>by simp at h)
 refine wpAny_newObj_type (wpAny_newFunctionEnv S.cell (by intro y hy;simp at hy) (fun h₁ hns₁ hsb₁=>?_) S.kind)
 dsimp only at hns₁ hsb₁ ⊢
 generalize hG:s2.heap.push { cls:=.type "list",dict:=none,data:=.seq ([]:List Value).toArray }=G at hns₁ hsb₁ ⊢
 have hGz:G.objs.size=s2.heap.objs.size+1:=by rw [<- hG,Heap.size_push]
 have upG:∀ b o,s2.heap.get? b=some o->G.get? b=some o:=fun b o e=>hG ▸ Heap.get?_push_of_some _ e
 have upH:∀ b o,G.get? b=some o->h₁.get? b=some o:=fun b o e=>hsb₁.extBut b o (Nat.ne_of_lt (Heap.lt_size e)) (Heap.get?_push_of_some _ e)
 have ltD:∀ b o,s2.heap.get? b=some o->b≠s2.heap.objs.size:=fun b o e=>Nat.ne_of_lt (Heap.lt_size e)
 have fpo:∀ b∈fp,∃ o,s2.heap.get? b=some o:=fun b hb=>by obtain ⟨o,e,_⟩:=T.obj 0 _ st2 b hb;exact ⟨o,e⟩
 have fpD:∀ b∈fp,b≠s2.heap.objs.size:=fun b hb=>by obtain ⟨o,e⟩:=fpo b hb;exact ltD b o e
 have fpC:∀ b∈fp,b≠G.objs.size:=fun b hb=>by obtain ⟨o,e⟩:=fpo b hb;exact Nat.ne_of_lt (Heap.lt_size (upG b o e))
 have cellO:∀ y c,(clOf X.env.cells sc.names []).lookup y=some c->∃ v,s2.heap.IsCell c v:=fun y c e=>I2.cell y c (cl1 y c e)
 have cellD:∀ y c,(clOf X.env.cells sc.names []).lookup y=some c->c≠s2.heap.objs.size:=fun y c e=>by obtain ⟨v,q⟩:=cellO y c e;exact Nat.ne_of_lt q.lt
 have Dfs:s2.heap.objs.size∉frs X.stack:=fun hb=>by
  rcases List.mem_cons.mp (I2.stkSub _ hb) with z | z
  ·exact absurd I2.lt (by rw [<- z];exact Nat.lt_irrefl _)
  ·exact I2.nofs (Nat.le_refl _) z
 have fpfs:∀ b∈fp,b∉frs X.stack:=fun b hb hz=>by
  obtain ⟨_,f1,f2',_⟩:=f2 b hb
  rcases List.mem_cons.mp (I2.stkSub _ hz) with z | z
  ·exact f1 z
  ·exact f2' z
 have HD:H2 s2.heap.objs.size=none:=I2.hok.fresh (Nat.le_refl _)
 have HC:H2 G.objs.size=none:=I2.hok.fresh (by rw [hGz];exact Nat.le_succ _)
 have DC:s2.heap.objs.size≠G.objs.size:=by rw [hGz];exact Nat.ne_of_lt (Nat.lt_succ_self _)
 have okC:Cx.Ok (xc2 X sc xs fv G.objs.size { s2 with heap:=G } H2 (s2.heap.objs.size::fp)):=by
  refine ⟨I2.ok.mod,S.kind,I2.ok.glob,I2.ok.blt,Nat.le_refl _,fun y z c h1 h2=>I2.ok.inj y z c (cl1 _ _ h1) (cl1 _ _ h2),fun y hy=>?_,fun y c hfn _=>(by cases hfn),I2.ok.hd,I2.ok.frames,.inl rfl,fun b hb=>?_,fun b o e=>?_,?_,fun b o e hb=>?_,fun b hb=>?_,?_,I2.stkFree⟩
  ·exact Option.isSome_iff_exists.mp (cl3 y (relabel_back S.cell hy))
  ·rcases List.mem_cons.mp hb with z | z
   ·subst z;exact ⟨DC,cellD⟩
   ·refine ⟨fpC b z,fun y c e=>?_⟩
    obtain ⟨_,_,_,_,f4,_⟩:=f2 b z
    exact f4 y c (cl1 y c e)
  ·exact ⟨upG b o (I2.bs b o e).1,(I2.bs b o e).2⟩
  ·show X.base.objs.size<=G.objs.size
   rw [hGz];exact Nat.le_succ_of_le (Nat.le_trans I2.ok.bsz I2.sz)
  ·rcases List.mem_cons.mp hb with z | z
   ·exact ltD b o (I2.bk b o e) z
   ·obtain ⟨_,_,_,f3,_⟩:=f2 b z
    rcases f3 with q | q
    ·exact I2.ok.noex b o e q
    ·exact absurd (Nat.lt_of_lt_of_le (Heap.lt_size e) (Nat.le_trans I2.ok.bsz q)) (Nat.lt_irrefl _)
  ·rcases List.mem_cons.mp hb with z | z
   ·subst z;exact Dfs
   ·exact fpfs b z
  ·exact (I2.stack).of_keeps fun b o e _=>⟨o,upG b o e,rfl⟩
 have lenC:∀ os:List (Option V),os.length=xs.length->(os++pick js σ).length=(xs++fv).length:=fun os ho=>by
  have:=congrArg List.length S.at'
  simp only [List.length_map] at this
  simp [pick,this,ho]
 have hacc:h₁.get? s2.heap.objs.size=some { cls:=.type "list",dict:=none,data:=.seq ([]:List Value).toArray }:=upH _ _ (hG ▸ Heap.get?_push_size _ rfl)
 have I4:Inv (xc2 X sc xs fv G.objs.size { s2 with heap:=G } H2 (s2.heap.objs.size::fp)) [(s2.heap.objs.size,{ cls:=.type "list",dict:=none,data:=.seq ([]:List Value).toArray })] (xs.map (fun _=>none)++pick js σ) H2 { s2 with heap:=h₁,toks:=s2.toks+([]:List (Str × Value)).length }:=by
  refine ⟨okC,rfl,I2.bare,Un.kept upH,⟨_,hns₁,fun i y v e1 e2 e3=>?_⟩,fun y c e=>?_,HC,fun y c e=>I2.freeC y c (cl1 y c e),fun p hp=>?_,I2.hok.kept fun b u e=>upH b u (upG b u e),lenC _ (by simp)⟩
  ·by_cases hix:i<xs.length
   ·have:(xs.map (fun _=>(none:Option V))++pick js σ)[i]?=some none:=by
     rw [List.getElem?_append_left (by simpa using hix),List.getElem?_map,List.getElem?_eq_getElem hix];rfl
    rw [this] at e2
    cases e2
   ·obtain ⟨i',rfl⟩:∃ i',i=xs.length+i':=⟨i-xs.length,by omega⟩
    have e1':fv[i']?=some y:=by
     have e1a:(xs++fv)[xs.length+i']?=some y:=e1
     rw [List.getElem?_append_right (by omega),Nat.add_sub_cancel_left] at e1a
     exact e1a
    have e2':(pick js σ)[i']?=some (some v):=by
     have e2a:=e2
     rw [List.getElem?_append_right (by simp),List.length_map,Nat.add_sub_cancel_left] at e2a
     exact e2a
    have q:=congrArg (fun l=>l[i']?) S.at'
    simp only [List.getElem?_map,e1',Option.map_some] at q
    cases hj:js[i']? with
    | none=>rw [hj] at q;cases q
    | some j =>
     rw [hj] at q
     have hj':X.N[j]?=some y:=Option.some.inj q
     unfold pick at e2'
     rw [List.getElem?_map,hj] at e2'
     have e2'':(σ[j]?).getD none=some v:=Option.some.inj e2'
     have e2b:σ[j]?=some (some v):=by
      cases hh:σ[j]? with
      | none=>rw [hh] at e2'';cases e2''
      | some o=>rw [hh] at e2'';exact congrArg some e2''
     have hm:y∈fv:=List.mem_of_getElem? e1'
     have hcX:scX.names.lookup y=some .cell:=S.free (y,.free) (PySem.mem_of_lookup (S.fr y hm)) rfl
     have kX:X.env.kindOf y=some .cell:=by show X.env.scope.names.lookup y=_;rw [hsx];exact hcX
     obtain ⟨m,hn,hl⟩:=I2.loc
     obtain ⟨u,r,lk⟩:=hl j y v hj' e2b (.inr (.inl kX))
     refine ⟨u,r,?_⟩
     rcases lk with ⟨k,_⟩ | ⟨_,c,ec,z⟩
     ·rw [kX] at k;cases k
     ·refine .inr ⟨.inl (relabel_free (by rw [hsx];exact S.kindX) (S.fr y hm) kX),c,?_,?_⟩
      ·obtain ⟨c',ec'⟩:=Option.isSome_iff_exists.mp (cl3 y (PySem.mem_of_lookup (S.fr y hm)))
       have:=cl1 y c' ec'
       rw [ec] at this;cases this
       exact ec'
      ·obtain ⟨o,ho,hd⟩:=z
       exact ⟨o,upH c o (upG c o ho),hd⟩
  ·obtain ⟨v,o,ho,hd⟩:=cellO y c e
   exact ⟨v,o,upH c o (upG c o ho),hd⟩
  ·have hp':p=(s2.heap.objs.size,{ cls:=.type "list",dict:=none,data:=.seq ([]:List Value).toArray }):=by simpa using hp
   subst hp'
   exact ⟨hacc,HD,DC,Dfs,fun v z=>by cases z⟩
 have loop:codeAny (model X.prog X.w) X.A (.compLoop (.ListComp elt [⟨tg,iter,ifs,0⟩] sc pos) 0 (.ref it) (.ref s2.heap.objs.size) (compEnvC sc (clOf X.env.cells sc.names []) G.objs.size X.env)) (RR (.ref s2.heap.objs.size) G.objs.size) { s2 with heap:=h₁,toks:=s2.toks+([]:List (Str × Value)).length }:=by
  obtain ⟨m0,w0⟩:=w0
  have fok:∀ {H':Hp} {o:Obj},(∀ b∈fp,H' b=none)->∀ b∈fp,FpOk (xc2 X sc xs fv G.objs.size { s2 with heap:=G } H2 (s2.heap.objs.size::fp)) [(s2.heap.objs.size,o)] H' b:=fun {H' o} hn b hb=>by
   refine ⟨hn b hb,fpC b hb,fpfs b hb,.inl (List.mem_cons_of_mem _ hb),fun y c e=>?_,fun p hp=>?_⟩
   ·obtain ⟨_,_,_,_,f4,_⟩:=f2 b hb
    exact f4 y c (cl1 y c e)
   ·have hp':p=(s2.heap.objs.size,o):=by simpa using hp
    subst hp'
    exact (fpD b hb).symm
  refine cmp_loop2 (fun k st=>∃ (i:Nat) (ys:List V) (its:List Value) (n:Nat) (os:List (Option V)) (H':Hp),os.length=xs.length/\Inv (xc2 X sc xs fv G.objs.size { s2 with heap:=G } H2 (s2.heap.objs.size::fp)) [(s2.heap.objs.size,{ cls:=.type "list",data:=.seq its.toArray n })] (os++pick js σ) H' st /\
   Vals ys its/\ys.length<=sizeLine/\tn i st.heap/\(∀ b∈fp,H' b=none)/\W i k ys H') ?_ m0
   ⟨0,[],[],_,xs.map (fun _=>none),H2,by simp,I4,.nil,Nat.zero_le _,T.keep _ _ _ st2 fun b _ o e=>upH b o (upG b o e),fun b hb=>(f2 b hb).1,w0⟩
  rintro k s3 ⟨i,ys,its,n,os,H3,hos,I3,rv,hz,st3,fr3,w3⟩
  rcases step i k ys H3 w3 with ⟨stop,q⟩ | ⟨go,N,hN,hgo⟩
  ·refine thn (T.done (xc2 X sc xs fv G.objs.size { s2 with heap:=G } H2 (s2.heap.objs.size::fp)) rfl rfl rfl hcalm i _ s3 _ H3 _ I3 (fok fr3) st3 stop) fun r s4 hsl45=>?_
   obtain ⟨hr,I4⟩:=hsl45
   subst hr
   obtain ⟨pD,pn,_,_,_⟩:=I4.pin _ (List.mem_append_right _ List.mem_cons_self)
   have B:=I4.base
   have nD:∀ b o,s2.heap.get? b=some o->b∉fp->b∉s2.heap.objs.size::fp:=fun b o e hx hm=>(List.mem_cons.mp hm).elim (ltD b o e) hx
   have neH:∀ b u,H2 b=some u->b≠s2.heap.objs.size:=fun b u e z=>by rw [z,HD] at e;cases e
   have JX:Inv X pins σ (upd H3 s2.heap.objs.size (.lst ys)) s4:=by
    refine I2.call' (ch:=fp) I4.os ⟨fun b o e hn hb hx=>B.keep b o (upG b o e) hn hb (nD b o e hx),fun b o e hn hb hx=>B.slot b o (upG b o e) hn hb (nD b o e hx),fun b o e hn hx=>?_,fun b o e hx=>B.there b o (upG b o e) (nD b o e hx),fun b xs e=>?_,fun b o u e=>?_,fun b ps e=>?_⟩ (fun b u e=>?_) I4.bare fun b hb=>?_
    ·rw [upd_ne (ltD b o e)];exact B.free b o (upG b o e) hn (nD b o e hx)
    ·rw [upd_ne (neH b _ e)];exact B.tups b xs e
    ·rw [upd_ne (neH b _ e)];exact B.frzs b o u e
    ·rw [upd_ne (neH b _ e)];exact B.tbls b ps e
    ·by_cases hb:b=s2.heap.objs.size
     ·subst hb
      rw [upd_same] at e;cases e
      exact ⟨hz,its,n,rv,pD⟩
     ·rw [upd_ne hb] at e
      exact (I4.hok b u e).stay (fun _ _ _ z=>z) (fun c z=>by rw [upd_ne (ne_of_none z pn)];exact z) fun c xs z=>by rw [upd_ne (ne_of_none z pn)];exact z
    ·obtain ⟨_,f1,_,f3,f4,f5⟩:=f2 b hb
     exact ⟨f3,f1,f4,f5⟩
   refine fin _ _ s4 _ JX (q _ pn) (by obtain ⟨m,hm,_⟩:=I4.loc;exact ⟨m,hm⟩) (I2.fpOk (by rw [hGz];exact Nat.le_succ _) ?_)
   rw [upd_ne DC.symm];exact I4.free
  ·refine thn (T.item (xc2 X sc xs fv G.objs.size { s2 with heap:=G } H2 (s2.heap.objs.size::fp)) rfl rfl rfl hcalm i _ s3 _ H3 _ I3 (fok fr3) st3 go) fun r s4 hsl46=>?_
   obtain ⟨u,hr,h4⟩:=hsl46
   subst hr
   refine thn h4 fun _ s5 hsl47=>?_
   obtain ⟨y,H5,I5,r5,y5,st5,fr5⟩:=hsl47
   have I5':=I5.pinned (fok fr5) (T.obj _ _ st5)
   refine thn (hgg _ _ _ _ _ s5 _ H5 y u _ I5' r5 (hgo y _ y5 os hos)) fun _ s6 hsl48=>?_
   obtain ⟨σ6,H6,I6,⟨os',hos',eσ⟩,q6⟩:=hsl48
   subst eσ
   refine thn (ht _ _ _ _ _ s6 _ _ _ I6 q6) fun b s7 hsl49=>?_
   obtain ⟨H7,I7,q7⟩:=hsl49
   cases b with
   | false =>
    rw [if_neg Bool.false_ne_true] at q7 ⊢
    obtain ⟨m',hm,w7⟩:=hN ys H7 q7
    exact ⟨m',hm,i+1,ys,its,n,os',H7,hos',I7.unpinned,rv,hz,T.keep _ _ _ st5 fun b hb o e=>(I7.pin (b,o) (List.mem_append_right _ (List.mem_append_right _ (mem_pinsAt hb e)))).1,fun b hb=>by
     obtain ⟨o,e,d⟩:=T.obj _ _ st5 b hb
     exact (I7.pin (b,o) (List.mem_append_right _ (List.mem_append_right _ (mem_pinsAt hb e)))).2.1,w7⟩
   | true =>
    rw [if_pos rfl] at q7 ⊢
    refine thn (he _ _ _ _ _ s7 _ H7 _ I7 q7) fun u8 s8 hsl50=>?_
    obtain ⟨y8,H8,I8,r8,hl8,q8⟩:=hsl50
    obtain ⟨m',hm,w8⟩:=hN _ H8 q8
    obtain ⟨pD,pn,pC,pf,_⟩:=I8.pin _ (List.mem_append_right _ (List.mem_append_left _ List.mem_cons_self))
    refine wpAny_list_append_plain (items:=its.toArray) ⟨n,pD⟩ (fun h9 hl9 sb9=>?_) (by rw [List.size_toArray,<- rv.length];exact Nat.le_of_lt hl8)
    have pinF:∀ p∈pinsAt fp s5.heap,p∈[(s2.heap.objs.size,({ cls:=.type "list",data:=.seq its.toArray n }:Obj))]++pinsAt fp s5.heap:=fun p hp=>List.mem_append_right _ hp
    have I8a:=I8.pins_of (pins':=pinsAt fp s5.heap) fun p hp=>I8.pin p (List.mem_append_right _ (pinF p hp))
    have I9:=I8a.turned (it:=s2.heap.objs.size) (h':=h9) (t':=s8.toks) (fun b o hb e=>(sb9.2 b hb).trans e) pn DC (.inl List.mem_cons_self) (fun y c e=>cellD y c e) fun p hp=>fpD p.1 (of_pinsAt (by simpa using hp)).1
    obtain ⟨n9,e9⟩:=hl9
    have e9':h9.get? s2.heap.objs.size=some { cls:=.type "list",data:=.seq (its++[u8]).toArray n9 }:=by
     rw [e9,show (its++[u8]).toArray=its.toArray.push u8 by simp]
    refine ⟨m',hm,i+1,ys++[y8],its++[u8],n9,os',H8,hos',I9.pins_of fun p hp=>?_,rv.append (.cons r8 .nil),by rw [List.length_append];exact hl8,T.keep _ _ _ st5 fun b hb o e=>(I9.pin (b,o) (List.mem_append_right _ (mem_pinsAt hb e))).1,fun b hb=>?_,w8⟩
    ·have hp':p=(s2.heap.objs.size,{ cls:=.type "list",data:=.seq (its++[u8]).toArray n9 }):=by simpa using hp
     subst hp'
     exact ⟨e9',pn,DC,pf,fun v z=>by cases z⟩
    ·obtain ⟨o,e,d⟩:=T.obj _ _ st5 b hb
     exact (I9.pin (b,o) (List.mem_append_right _ (mem_pinsAt hb e))).2.1
 exact codeAny_compStart_list loop (T.self _ 0 _ _ _ (T.keep _ _ _ st2 fun b _ o e=>upH b o (upG b o e)) loop)
theorem pe_comp2 {wi:TI} (scX:Scope) (NX fv:List Str) (js:List Nat) (hNX:X.N=NX) (S:CompSc2 scX sc NX xs fv js) (hsx:X.env.scope=scX) (hcalm:X.calm=true) (hi:PI X tg iter wi) (hgg:∀ C s0 H0 ex,PG (xc2 X sc xs fv C s0 H0 ex) tg g)
  (ht:∀ C s0 H0 ex,PIf (xc2 X sc xs fv C s0 H0 ex) ifs tt) (he:∀ C s0 H0 ex,PE (xc2 X sc xs fv C s0 H0 ex) elt te)
  (hs:∀ v,foldedSetIterable iter X.env v=pure v:=by intro _;rfl):PE X (.ListComp elt [⟨tg,iter,ifs,0⟩] sc pos) (tComp2 wi xs.length js g tt te):=by
 intro pins s σ H Q I h
 rw [<- hNX] at S
 have hfree:∀ y∈sc.names,y.2=.free->∃ c,X.env.cells.lookup y.1=some c:=fun y hy hf=>I.ok.has y.1 (.inl (by show X.env.scope.names.lookup y.1=_;rw [hsx];exact S.free y hy hf))
 rw [eval_ListComp]
 refine wpAny_comprehension_free (use:=none) rfl hs (closure_eq hfree) S.kind S.names (thn (hi pins s σ H _ I h) fun v s1 h1=>thn h1 fun itv s2 h2=>?_)
 obtain ⟨it,fp,tn,J,H2,e,I2,T,st2,f2,W,w0,step⟩:=h2
 subst e
 refine comp_core2 (RR:=fun acc C=>compPost (model X.prog X.w) X.A X.xe none (EP X pins σ Q) acc C) S hsx hcalm hgg ht he I2 T st2 f2 w0 step fun D C s' H' I' q hsl51 hC=>?_
 obtain ⟨m,hm⟩:=hsl51
 obtain ⟨f0,f1,_,f3,f4,f5⟩:=hC
 exact ⟨m,hm,fun h' sb=>⟨.ref D,H',I'.turned (t':=s'.toks) (fun b o hb e=>(sb.2 b hb).trans e) f0 f1 f3 f4 f5,rfl,q⟩⟩
end
theorem CompSc.two {scX sc:Scope} {NX:List Str} {x:Str} {fv:List Str} {js:List Nat} (S:CompSc scX sc NX x fv js):CompSc2 scX sc NX [x] fv js :=
 ⟨S.kind,S.kindX,S.cell,fun y hy=>by rw [List.mem_singleton.mp hy];exact S.own,S.names,S.free,S.nd,S.at',S.fr⟩
section
variable {X:Cx} {pins:List (Addr × Obj)} {σ:St} {H2:Hp} {s2:Shared} {elt iter:Expr} {x:Str} {px:Pos} {ifs:List Expr} {sc scX:Scope} {pos:Pos} {fv:List Str} {js:List Nat} {tt:TT} {te:TE}
theorem comp_core (S:CompSc scX sc X.N x fv js) (hsx:X.env.scope=scX) (hcalm:X.calm=true)
  (ht:∀ C s0 H0 ex,PIf (xc X sc x fv C s0 H0 ex) ifs tt) (he:∀ C s0 H0 ex,PE (xc X sc x fv C s0 H0 ex) elt te)
  {it:Addr} {fp:List Addr} {tn:Nat->Heap->Prop} {J:It} (I2:Inv X pins σ H2 s2) (T:Turn X.prog X.w X.K (.Name x px) J fp it tn) (st2:tn 0 s2.heap) (f2:∀ b∈fp,FpOk X pins H2 b)
  {Q:VK} {W:Nat->Nat->List V->Hp->Prop} (w0:∃ m,W 0 m [] H2)
  (step:∀ i m ys H,W i m ys H->(J.stop i H/\∀ p,H p=none->Q (.ref p) (upd H p (.lst ys))) ∨
   (J.go i H/\∃ N:List V->Hp->Prop,(∀ ys' H',N ys' H'->∃ m',m'<m/\W (i+1) m' ys' H') /\
    ∀ x H',J.yld i H x H'->tt (some x::pick js σ) H' fun b H2=>if b=true then te (some x::pick js σ) H2 fun y H3=>ys.length<sizeLine/\N (ys++[y]) H3 else N ys H2))
  {RR:Value->Addr->Result->Shared->Prop} {E:Value->Shared->Prop}
  (fin:∀ (D C:Addr) (s':Shared) (H':Hp),Inv X pins σ H' s'->Q (.ref D) H'->(∃ m,s'.heap.Ns C m)->FpOk X pins H' C->RR (.ref D) C (.ok .next) s') :
  wpAny (model X.prog X.w) X.A (newList []) (fun acc s₃=>wpAny (model X.prog X.w) X.A (newFunctionEnv sc X.env.globals (clOf X.env.cells sc.names []) [] X.env.qual none .none (some X.env)) (fun cenv s₄ =>
   codeAny (model X.prog X.w) X.A (.compStart (.ListComp elt [⟨.Name x px,iter,ifs,0⟩] sc pos) 0 (.ref it) acc { cenv with scope:=relabel sc X.env }) (RR acc cenv.locals) s₄) E s₃) E s2:=by
 refine comp_core2 (xs:=[x]) (g:=gName 0) (RR:=RR) S.two hsx hcalm (fun C s0 H0 ex=>pg_name S.nd rfl (.inl (lookup_relabel_local S.own)) (.inr (lookup_relabel_local S.own))) ht he I2 T st2 f2 w0 (fun i m ys H w=>?_) fin
 rcases step i m ys H w with h | ⟨go,N,hN,st⟩
 ·exact .inl h
 ·refine .inr ⟨go,N,hN,fun y H' hy os hos=>?_⟩
  obtain ⟨o,rfl⟩:=List.length_eq_one_iff.mp hos
  exact ⟨⟨[some y],rfl,rfl⟩,st y H' hy⟩
theorem pe_comp {wi:TI} (scX:Scope) (NX fv:List Str) (js:List Nat) (hNX:X.N=NX) (S:CompSc scX sc NX x fv js) (hsx:X.env.scope=scX) (hcalm:X.calm=true) (hi:PI X (.Name x px) iter wi)
  (ht:∀ C s0 H0 ex,PIf (xc X sc x fv C s0 H0 ex) ifs tt) (he:∀ C s0 H0 ex,PE (xc X sc x fv C s0 H0 ex) elt te)
  (hs:∀ v,foldedSetIterable iter X.env v=pure v:=by intro _;rfl):PE X (.ListComp elt [⟨.Name x px,iter,ifs,0⟩] sc pos) (tComp wi js tt te):=by
 intro pins s σ H Q I h
 rw [<- hNX] at S
 have hfree:∀ y∈sc.names,y.2=.free->∃ c,X.env.cells.lookup y.1=some c:=fun y hy hf=>I.ok.has y.1 (.inl (by show X.env.scope.names.lookup y.1=_;rw [hsx];exact S.free y hy hf))
 rw [eval_ListComp]
 refine wpAny_comprehension_free (use:=none) rfl hs (closure_eq hfree) S.kind S.names (thn (hi pins s σ H _ I h) fun v s1 h1=>thn h1 fun itv s2 h2=>?_)
 obtain ⟨it,fp,tn,J,H2,e,I2,T,st2,f2,W,w0,step⟩:=h2
 subst e
 refine comp_core (RR:=fun acc C=>compPost (model X.prog X.w) X.A X.xe none (EP X pins σ Q) acc C) S hsx hcalm ht he I2 T st2 f2 w0 step fun D C s' H' I' q hsl52 hC=>?_
 obtain ⟨m,hm⟩:=hsl52
 obtain ⟨f0,f1,_,f3,f4,f5⟩:=hC
 exact ⟨m,hm,fun h' sb=>⟨.ref D,H',I'.turned (t':=s'.toks) (fun b o hb e=>(sb.2 b hb).trans e) f0 f1 f3 f4 f5,rfl,q⟩⟩
end
end L2
namespace L2
open PySem PySem.Spec PyProof.Rows
section
variable {κ:Type} [DecidableEq κ]
noncomputable def valV (kvs:List (κ × V)) (k:κ):Option V:=(kvs.find? fun kv=>decide (kv.1=k)).map (·.2)
noncomputable def putK (kvs:List (κ × V)) (k:κ) (v:V):List (κ × V) :=
 if (kvs.any fun kv=>decide (kv.1=k))=true then kvs.map (fun kv=>if kv.1=k then (kv.1,v) else kv) else kvs++[(k,v)]
theorem valV_pos {p:κ × V} {r:List (κ × V)} {k:κ} (e:p.1=k):valV (p::r) k=some p.2:=by simp [valV,List.find?_cons,e]
theorem valV_neg {p:κ × V} {r:List (κ × V)} {k:κ} (e:¬ p.1=k):valV (p::r) k=valV r k:=by simp [valV,List.find?_cons,e]
theorem valV_any (k:κ):∀ kvs:List (κ × V),(kvs.any fun kv=>decide (kv.1=k))=(valV kvs k).isSome
 | []=>rfl
 | p::r=>by
  rw [List.any_cons]
  by_cases e:p.1=k
  ·simp only [valV_pos e,decide_eq_true e,Bool.true_or,Option.isSome_some]
  ·rw [valV_neg e,decide_eq_false e,Bool.false_or];exact valV_any k r
theorem valV_map (k j:κ) (y:V):∀ kvs:List (κ × V),valV (kvs.map fun kv=>if kv.1=k then (kv.1,y) else kv) j=(valV kvs j).map fun x=>if j=k then y else x
 | []=>rfl
 | p::r=>by
  have ih:=valV_map k j y r
  rw [List.map_cons]
  by_cases h:p.1=k
  ·rw [if_pos h]
   by_cases e:p.1=j
   ·rw [valV_pos (p:=(p.1,y)) e,valV_pos e,Option.map_some,if_pos (e.symm.trans h)]
   ·rw [valV_neg (p:=(p.1,y)) e,valV_neg e,ih]
  ·rw [if_neg h]
   by_cases e:p.1=j
   ·rw [valV_pos (p:=p) e,valV_pos e,Option.map_some,if_neg (fun z=>h (e.trans z))]
   ·rw [valV_neg (p:=p) e,valV_neg e,ih]
theorem valV_snoc (k j:κ) (y:V):∀ kvs:List (κ × V),valV kvs k=none->valV (kvs++[(k,y)]) j=if j=k then some y else valV kvs j
 | [],_=>by
  by_cases e:k=j
  ·rw [if_pos e.symm];exact valV_pos (p:=(k,y)) e
  ·rw [if_neg (fun z=>e z.symm)];exact valV_neg (p:=(k,y)) e
 | p::r,hn=>by
  rw [List.cons_append]
  have hk:¬ p.1=k:=fun z=>by rw [valV_pos z] at hn;cases hn
  rw [valV_neg hk] at hn
  have ih:=valV_snoc k j y r hn
  by_cases e:p.1=j
  ·rw [valV_pos e,valV_pos e,if_neg (fun z=>hk (e.trans z))]
  ·rw [valV_neg e,valV_neg e,ih]
theorem valV_put (kvs:List (κ × V)) (k j:κ) (y:V):valV (putK kvs k y) j=if j=k then some y else valV kvs j:=by
 unfold putK
 by_cases a:(kvs.any fun kv=>decide (kv.1=k))=true
 ·rw [if_pos a,valV_map]
  rw [valV_any] at a
  by_cases e:j=k
  ·obtain ⟨x,hx⟩:=Option.isSome_iff_exists.mp a
   rw [if_pos e,e,hx,Option.map_some,if_pos rfl]
  ·rw [if_neg e]
   cases valV kvs j with
   | none=>rfl
   | some x=>rw [Option.map_some,if_neg e]
 ·rw [if_neg a]
  refine valV_snoc k j y kvs ?_
  rw [valV_any] at a
  cases q:valV kvs k with
  | none=>rfl
  | some x=>rw [q] at a;exact (a rfl).elim
theorem length_putK (kvs:List (κ × V)) (k:κ) (v:V):(putK kvs k v).length<=kvs.length+1:=by
 unfold putK
 split
 ·rw [List.length_map];omega
 ·rw [List.length_append,List.length_cons,List.length_nil];omega
theorem RelO.isSome_eq {o:Option V} {u:Option Value} (r:RelO o u):o.isSome=u.isSome:=by
 cases o with
 | none=>cases u with
  | none=>rfl
  | some _=>exact (show False from r).elim
 | some _=>cases u with
  | none=>exact (show False from r).elim
  | some _=>rfl
theorem KV.val {kvs:List (κ × V)} {vs:List (κ × Value)} (r:KV kvs vs) (k:κ):RelO (valV kvs k) (valueAt vs k):=by
 unfold KV at r
 induction r with
 | nil=>exact True.intro
 | @cons p q ps qs h t ih =>
  obtain ⟨h1,h2⟩:=h
  by_cases e:p.1=k
  ·have e':q.1=k:=h1.symm.trans e
   have b:valueAt (q::qs) k=some q.2:=by simp [valueAt,List.find?_cons,e']
   rw [valV_pos e,b];exact h2
  ·have e':¬ q.1=k:=fun z=>e (h1.trans z)
   have b:valueAt (q::qs) k=valueAt qs k:=by simp [valueAt,List.find?_cons,e']
   rw [valV_neg e,b];exact ih
theorem KV.any {kvs:List (κ × V)} {vs:List (κ × Value)} (r:KV kvs vs) (k:κ):(kvs.any fun kv=>decide (kv.1=k))=vs.any fun kv=>decide (kv.1=k):=by
 unfold KV at r
 induction r with
 | nil=>rfl
 | cons h t ih=>rw [List.any_cons,List.any_cons,ih,h.1]
theorem KV.repl {kvs:List (κ × V)} {vs:List (κ × Value)} (r:KV kvs vs) (k:κ) {y:V} {u:Value} (ry:RelV y u) :
  KV (kvs.map fun kv=>if kv.1=k then (kv.1,y) else kv) (vs.map fun kv=>if kv.1=k then (kv.1,u) else kv):=by
 unfold KV at r ⊢
 induction r with
 | nil=>exact .nil
 | @cons p q ps qs h t ih =>
  rw [List.map_cons,List.map_cons]
  refine .cons ?_ ih
  obtain ⟨h1,h2⟩:=h
  by_cases e:p.1=k
  ·rw [if_pos e,if_pos (h1.symm.trans e)];exact ⟨h1,ry⟩
  ·rw [if_neg e,if_neg (fun z=>e (h1.trans z))];exact ⟨h1,h2⟩
theorem KV.put {kvs:List (κ × V)} {vs:List (κ × Value)} (r:KV kvs vs) (k:κ) {y:V} {u:Value} (ry:RelV y u):KV (putK kvs k y) (stored vs k u):=by
 unfold putK stored
 rw [r.any k]
 by_cases e:(vs.any fun kv=>decide (kv.1=k))=true
 ·rw [if_pos e,if_pos e];exact r.repl k ry
 ·rw [if_neg e,if_neg e];exact Paired.snoc r ⟨rfl,ry⟩
theorem KV.length {kvs:List (κ × V)} {vs:List (κ × Value)} (r:KV kvs vs):kvs.length=vs.length:=Paired.length r
end
theorem kV_is {P:Program} {w:World} {k:Key} {u:Value} (r:RelV (kV k) u):(mixKind P w).is k u=true:=by
 cases k with
 | inl i=>obtain ⟨t,e⟩:=(show ∃ t,u=Value.int i t from r);subst e;exact mixKind_int P w i t
 | inr x=>obtain ⟨t,e⟩:=(show ∃ t,u=Value.str x t from r);subst e;exact mixKind_str P w x t
theorem items_are {P:Program} {w:World}:∀ {ks:List Key} {us:List Value},Vals (ks.map kV) us->ItemsAre (mixKind P w) ks us
 | [],_,r=>by rw [List.map_nil] at r;cases r;exact .nil
 | k::ks,_,r=>by
  rw [List.map_cons] at r
  cases r with
  | cons h t=>exact .cons (kV_is h) (items_are t)
noncomputable abbrev KT (H:Hp):List (List Key × V)->List (List Key × Addr × Value)->Prop:=Paired fun p q=>p.1=q.1/\H q.2.1=some (.tup (p.1.map kV))/\RelV p.2 q.2.2
theorem KT.val {H:Hp} {kvs:List (List Key × V)} {xs:List (List Key × Addr × Value)} (r:KT H kvs xs) (k:List Key):RelO (valV kvs k) ((atKey xs k).map (·.2)):=by
 induction r with
 | nil=>exact True.intro
 | @cons p q ps qs h t ih =>
  obtain ⟨h1,_,h2⟩:=h
  by_cases e:p.1=k
  ·have e':q.1=k:=h1.symm.trans e
   have b:atKey (q::qs) k=some q.2:=by simp [atKey,List.find?_cons,e']
   rw [valV_pos e,b];exact h2
  ·have e':¬ q.1=k:=fun z=>e (h1.trans z)
   have b:atKey (q::qs) k=atKey qs k:=by simp [atKey,List.find?_cons,e']
   rw [valV_neg e,b];exact ih
theorem KT.repl {H:Hp} {kvs:List (List Key × V)} {xs:List (List Key × Addr × Value)} (r:KT H kvs xs) (k:List Key) {y:V} {u:Value} (ry:RelV y u) :
  KT H (kvs.map fun kv=>if kv.1=k then (kv.1,y) else kv) (xs.map (putAt k u)):=by
 induction r with
 | nil=>exact .nil
 | @cons p q ps qs h t ih =>
  rw [List.map_cons,List.map_cons]
  refine .cons ?_ ih
  obtain ⟨h1,h2,h3⟩:=h
  unfold putAt
  by_cases e:p.1=k
  ·rw [if_pos e,if_pos (h1.symm.trans e)];exact ⟨h1,h2,ry⟩
  ·rw [if_neg e,if_neg (fun z=>e (h1.trans z))];exact ⟨h1,h2,h3⟩
theorem KT.put {H:Hp} {kvs:List (List Key × V)} {xs:List (List Key × Addr × Value)} (r:KT H kvs xs) (k:List Key) {b:Addr} {y:V} {u:Value} (hb:H b=some (.tup (k.map kV))) (ry:RelV y u) :
  KT H (putK kvs k y) (storedH xs k b u):=by
 have e:(kvs.any fun kv=>decide (kv.1=k))=(atKey xs k).isSome:=by
  rw [valV_any,(r.val k).isSome_eq,Option.isSome_map]
 unfold putK storedH
 rw [e]
 by_cases q:(atKey xs k).isSome=true
 ·rw [if_pos q,if_pos q];exact r.repl k ry
 ·rw [if_neg q,if_neg q];exact Paired.snoc r ⟨rfl,hb,ry⟩
theorem KT.keeps {H H':Hp} {kvs:List (List Key × V)} {xs:List (List Key × Addr × Value)} (r:KT H kvs xs) (ht:∀ b ys,H b=some (.tup ys)->H' b=some (.tup ys)):KT H' kvs xs :=
 Paired.mapP r fun _ _ z=>⟨z.1,ht _ _ z.2.1,z.2.2⟩
section
variable {P:Program} {w:World} {H:Hp} {h:Heap} {a:Addr}
theorem rd_of {u:HO} (ok:HOk P w H h) (e:Rd H a u):ObjOk P w H h a u:=e.ok ok
theorem dk_rd {kvs:List (Key × V)} (ok:HOk P w H h) (e:Rd H a (.dK kvs)):kvs.length<=sizeLine/\(a == sysModules)=false/\∃ vs,KV kvs vs/\h.DictOf (mixKind P w) a vs :=
 show ObjOk P w H h a (.dK kvs) from rd_of ok e
theorem dk_of {kvs:List (Key × V)} (ok:HOk P w H h) (e:H a=some (.dK kvs)):kvs.length<=sizeLine/\(a == sysModules)=false/\∃ vs,KV kvs vs/\h.DictOf (mixKind P w) a vs:=dk_rd ok (.inl e)
theorem key_of {ks:List Key} (ok:HOk P w H h) (e:H a=some (.tup (ks.map kV))):(tupleKind (mixKind P w)).is h ks a:=by
 obtain ⟨_,its,r,o,h1,h2,n,h3⟩:=(show ObjOk P w H h a (.tup (ks.map kV)) from ok a _ e)
 exact ⟨o,its.toArray,n,h1,h2,h3,by simpa using items_are r⟩
theorem dt_rd {kvs:List (List Key × V)} (ok:HOk P w H h) (e:Rd H a (.dT kvs)):kvs.length<=sizeLine/\(a == sysModules)=false /\
  ∃ xs,KT H kvs xs/\h.DictOfH (tupleKind (mixKind P w)) a xs:=by
 obtain ⟨z,y,xs,r,o,es,ep,h1,h2,h3,h4,h5⟩:=(show ObjOk P w H h a (.dT kvs) from rd_of ok e)
 refine ⟨z,y,xs,r,o,es,ep,h1,h2,h3,h4,fun x hx=>?_,h5⟩
 have all:∀ {l:List (List Key × V)} {m:List (List Key × Addr × Value)},KT H l m->∀ x∈m,(tupleKind (mixKind P w)).is h x.1 x.2.1:=by
  intro l m q
  induction q with
  | nil=>intro x hx;exact nomatch hx
  | @cons p q ps qs hq t ih =>
   intro x hx
   rcases List.mem_cons.mp hx with e | hx
   ·subst e
    exact key_of ok (by rw [<- hq.1];exact hq.2.1)
   ·exact ih x hx
 exact all r x hx
theorem dt_of {kvs:List (List Key × V)} (ok:HOk P w H h) (e:H a=some (.dT kvs)):kvs.length<=sizeLine/\(a == sysModules)=false /\
  ∃ xs,KT H kvs xs/\h.DictOfH (tupleKind (mixKind P w)) a xs:=dt_rd ok (.inl e)
end
noncomputable def DGet (H:Hp) (a:Addr) (y:V) (r:Option V):Prop :=
 (∃ kvs k,Rd H a (.dK kvs)/\y=kV k/\r=valV kvs k)∨∃ kvs k b,Rd H a (.dT kvs)/\y=.ref b/\H b=some (.tup (k.map kV))/\r=valV kvs k
noncomputable def DPut (H:Hp) (a:Addr) (y v:V) (H':Hp):Prop :=
 (∃ kvs k,H a=some (.dK kvs)/\y=kV k/\kvs.length<sizeLine/\H'=upd H a (.dK (putK kvs k v))) ∨
 ∃ kvs k b,H a=some (.dT kvs)/\y=.ref b/\H b=some (.tup (k.map kV))/\kvs.length<sizeLine/\H'=upd H a (.dT (putK kvs k v))
theorem DGet.k {H:Hp} {a:Addr} {kvs:List (Key × V)} {k:Key} (e:H a=some (.dK kvs)):DGet H a (kV k) (valV kvs k):=.inl ⟨kvs,k,.inl e,rfl,rfl⟩
theorem DGet.t {H:Hp} {a b:Addr} {kvs:List (List Key × V)} {k:List Key} (e:H a=some (.dT kvs)) (eb:H b=some (.tup (k.map kV))):DGet H a (.ref b) (valV kvs k):=.inr ⟨kvs,k,b,.inl e,rfl,eb,rfl⟩
theorem DPut.k {H:Hp} {a:Addr} {kvs:List (Key × V)} {k:Key} {v:V} (e:H a=some (.dK kvs)) (hl:kvs.length<sizeLine):DPut H a (kV k) v (upd H a (.dK (putK kvs k v))):=.inl ⟨kvs,k,e,rfl,hl,rfl⟩
section
variable {X:Cx} {pins:List (Addr × Obj)} {σ:St} {H:Hp} {s:Shared} {a:Addr} {y v:V} {u r:Value} {o:Option V} {A:Around} {E:Value->Shared->Prop}
theorem Inv.big (I:Inv X pins σ H s):sysModules<s.heap.objs.size:=by
 have h:mainGlobals<s.heap.objs.size:=(I.mod.glob.keeps I.bk).lt
 exact Nat.lt_trans (by decide) h
theorem d_getItem {Q:Value->Shared->Prop} (hu:A.units+1<cLine) (I:Inv X pins σ H s) (g:DGet H a y (some v)) (ry:RelV y u) (h:∀ w' s',Inv X pins σ H s'->RelV v w'->Q w' s') :
  wpAny (model X.prog X.w) A (getItem (.ref a) u) Q E s:=by
 rcases g with ⟨kvs,k,e,ey,l⟩ | ⟨kvs,k,b,e,ey,eb,l⟩
 ·subst ey
  obtain ⟨z,hd,vs,rel,dd⟩:=dk_rd I.hok e
  obtain ⟨w',hw,rw'⟩:=RelO.some_of (v:=v) (o:=valueAt vs k) (by rw [l];exact rel.val k)
  exact wpAny_getItem_of (kV_is ry) dd.mapOf hw (h w' _ (I.tok _) rw')
 ·subst ey
  cases (show u=Value.ref b from ry)
  obtain ⟨z,hd,xs,rel,dd⟩:=dt_rd I.hok e
  obtain ⟨w',hw,rw'⟩:=RelO.some_of (v:=v) (o:=(atKey xs k).map (·.2)) (by rw [l];exact rel.val k)
  obtain ⟨p,hp,hp2⟩:=Option.map_eq_some_iff.mp hw
  refine wpAny_getItem_heap (tupleKind_room_in1 hu) (key_of I.hok eb) dd hp ?_
  rw [hp2]
  exact h w' _ (I.tok _) rw'
theorem d_notIn {Q:Value->Shared->Prop} (hu:A.units+1<cLine) (I:Inv X pins σ H s) (g:DGet H a y o) (ry:RelV y u) (h:∀ s',Inv X pins σ H s'->Q (.bool (!o.isSome)) s') :
  wpAny (model X.prog X.w) A (compareOp .NotIn u (.ref a)) Q E s:=by
 rcases g with ⟨kvs,k,e,ey,l⟩ | ⟨kvs,k,b,e,ey,eb,l⟩
 ·subst ey
  obtain ⟨z,hd,vs,rel,dd⟩:=dk_rd I.hok e
  refine wpAny_notIn_of (kV_is ry) hd dd.mapOf ?_
  rw [<- (rel.val k).isSome_eq,<- l]
  exact h _ (I.tok _)
 ·subst ey
  cases (show u=Value.ref b from ry)
  obtain ⟨z,hd,xs,rel,dd⟩:=dt_rd I.hok e
  refine wpAny_notIn_heap (tupleKind_room_in1 hu) (key_of I.hok eb) hd dd ?_
  have q:=(rel.val k).isSome_eq
  rw [Option.isSome_map] at q
  rw [<- q,<- l]
  exact h _ (I.tok _)
theorem d_write {h':Heap} {t':Nat} {ob:HO} (I:Inv X pins σ H s) (mu:Mut (H a)) (hs:Heap.SameBut a s.heap h') (he:∃ q,h'.get? a=some q) (new:ObjOk X.prog X.w (upd H a ob) h' a ob) :
  Inv X pins σ (upd H a ob) { s with heap:=h',toks:=t' } :=
 I.write (x:=a) (e:=a) mu (.inl rfl) (fun b q hb z=>(hs.2 b hb).trans z) he new
theorem dk_new {P:Program} {w:World} {H':Hp} {h':Heap} {kvs:List (Key × V)} {vs:List (Key × Value)} (z:kvs.length<=sizeLine) (hd:(a == sysModules)=false) (rel:KV kvs vs) (dd:h'.DictOf (mixKind P w) a vs) :
  ObjOk P w H' h' a (.dK kvs):=⟨z,hd,vs,rel,dd⟩
theorem d_setItem {H':Hp} {Q:Unit->Shared->Prop} (hu:A.units+1<cLine) (I:Inv X pins σ H s) (g:DPut H a y v H') (ry:RelV y u) (rv:RelV v r) (h:∀ s',Inv X pins σ H' s'->Q () s') :
  wpAny (model X.prog X.w) A (setItem (.ref a) u r) Q E s:=by
 rcases g with ⟨kvs,k,e,ey,l,eH⟩ | ⟨kvs,k,b,e,ey,eb,l,eH⟩
 ·subst ey eH
  obtain ⟨z,hd,vs,rel,dd⟩:=dk_of I.hok e
  have hz:vs.length<=sizeLine:=by rw [<- rel.length];exact z
  have hl:(putK kvs k v).length<=sizeLine:=by have:=length_putK kvs k v;omega
  refine wpAny_setItem_pairs (hsz:=hz) (kV_is ry) dd fun h' dd' hs=>h _ ?_
  have he:∃ q,h'.get? a=some q:=by obtain ⟨q,_,_,hq,_⟩:=dd';exact ⟨q,hq⟩
  exact d_write I (by rw [e];exact True.intro) hs he (dk_new hl hd (rel.put k rv) dd')
 ·subst ey eH
  cases (show u=Value.ref b from ry)
  obtain ⟨z,hd,xs,rel,dd⟩:=dt_of I.hok e
  have hz:xs.length<=sizeLine:=by rw [<- Paired.length rel];exact z
  have hl:(putK kvs k v).length<=sizeLine:=by have:=length_putK kvs k v;omega
  refine wpAny_setItem_heap (hsz:=hz) (tupleKind_room_in1 hu) (key_of I.hok eb) dd fun h' dd' hs=>h _ ?_
  obtain ⟨q,es,ep,hq,h2,h3,h4,_,h5⟩:=dd'
  refine d_write I (by rw [e];exact True.intro) hs ⟨q,hq⟩ ⟨hl,hd,_,(rel.put k eb rv).keeps fun c ys ec=>?_,q,es,ep,hq,h2,h3,h4,h5⟩
  rw [upd_ne (ne_of ec e (fun z=>nomatch z))]
  exact ec
end
section
variable {X:Cx} {pins:List (Addr × Obj)} {σ:St} {H:Hp} {s:Shared} {a:Addr} {kvs:List (Key × V)} {k:Key} {u:Value} {A:Around} {E:Value->Shared->Prop}
end
noncomputable def NoSl (i:Expr):Prop:=∀ ov iv,subscripted i false ov iv=operate [ov,iv] (getItem ov iv)
theorem subD_of {prog:Program} {w:World} {A:Around} {E:Value->Shared->Prop} {s:Shared} {env:Env} {value slice:Expr} {pos:Pos} {T id:String} {Q:Value->Shared->Prop}
  (hl:typeLookup (.type T) "__getitem__"=pure (some (.builtin id))) (hs:NoSl slice)
  (h:wpAny (model prog w) A (eval value env) (fun o s₁=>wpAny (model prog w) A (eval slice env) (fun i s₂=>s₂.TypeIs o T/\wpAny (model prog w) A (getItem o i) Q E s₂) E s₁) E s) :
  wpAny (model prog w) A (eval (.Subscript value slice pos) env) Q E s:=by
 refine Subscript_ (wpAny_mono h (fun o s₁ h₁=>wpAny_mono h₁ (fun i s₂ h₂=>?_) fun _ _ x=>x) fun _ _ x=>x)
 obtain ⟨hT,h₂⟩:=h₂
 unfold subscriptTail
 refine wpAny_bind ?_
 rw [getitemInPython_of_ne hT.not_modules]
 refine wpAny_bind (wpAny_specialOf hT hl ?_)
 have fin:wpAny (model prog w) A (subscripted slice false o i) (fun r s₃=>wpAny (model prog w) A (letTemporaryGo value o r >>= fun _=>pure r) Q E s₃) E s₂:=by
  rw [hs o i]
  exact wpAny_operating (wpAny_mono h₂ (fun r s₃ h₃=>wpAny_bind (wpAny_letTemporaryGo (wpAny_pure h₃))) fun _ _ x=>x)
 first
  | exact wpAny_pure (wpAny_bind fin)
  | exact wpAny_bind (wpAny_pure (wpAny_bind fin))
  | exact wpAny_bind fin
theorem dict_typeIs {X:Cx} {pins:List (Addr × Obj)} {σ:St} {H:Hp} {s:Shared} {a:Addr} {y:V} {o:Option V} (I:Inv X pins σ H s) (g:DGet H a y o):s.TypeIs (.ref a) "dict":=by
 rcases g with ⟨kvs,k,e,_,_⟩ | ⟨kvs,k,b,e,_,_,_⟩
 ·obtain ⟨_,_,vs,_,dd⟩:=dk_rd I.hok e
  exact dd.typeIs
 ·obtain ⟨_,_,xs,_,dd⟩:=dt_rd I.hok e
  exact dd.typeIs
noncomputable def tDGet (td ty:TE):TE:=fun σ H Q=>td σ H fun x H1=>ty σ H1 fun y H2=>∃ a v,x=.ref a/\DGet H2 a y (some v)/\Q v H2
noncomputable def tDNotIn (ty td:TE):TE:=fun σ H Q=>ty σ H fun y H1=>td σ H1 fun x H2=>∃ a o,x=.ref a/\DGet H2 a y o/\Q (.bl (!o.isSome)) H2
noncomputable def sDPut (td ty tv:TE):TS:=fun D σ H=>tv σ H fun v H1=>td σ H1 fun x H2=>ty σ H2 fun y H3=>∃ a H4,x=.ref a/\DPut H3 a y v H4/\D.nx σ H4
section
variable {X:Cx} {o i e value:Expr} {pos pos' tpos:Pos} {td ty tv:TE}
theorem pe_dget (hu:X.A.units+1<cLine) (ho:PE X o td) (hi:PE X i ty) (hs:NoSl i):PE X (.Subscript o i pos) (tDGet td ty):=by
 intro pins s σ H Q I h
 refine subD_of PySem.F.slot_dict_getitem.lookup hs (thn (ho pins s σ H _ I h) fun u s1 ⟨x,H1,I1,rx,q1⟩=>thn (hi pins s1 σ H1 _ I1 q1) fun iv s2 hsl53=>?_)
 obtain ⟨y,H2,I2,ry,a,v,ex,g,q2⟩:=hsl53
 subst ex
 obtain rfl:u=Value.ref a:=rx
 exact ⟨dict_typeIs I2 g,d_getItem hu I2 g ry fun w' s3 I3 rw'=>⟨v,H2,I3,rw',q2⟩⟩
theorem pc_dnotin (hu:X.A.units+1<cLine) (hi:PE X i ty) (ho:PE X o td):PC X .NotIn i o (tDNotIn ty td):=by
 intro pins s σ H Q I h
 refine thn (hi pins s σ H _ I h) fun iv s1 ⟨y,H1,I1,ry,q1⟩=>thn (ho pins s1 σ H1 _ I1 q1) fun u s2 hsl54=>?_
 obtain ⟨x,H2,I2,rx,a,ov,ex,g,q2⟩:=hsl54
 subst ex
 obtain rfl:u=Value.ref a:=rx
 exact d_notIn hu I2 g ry fun s3 I3=>⟨.bl (!ov.isSome),H2,I3,rfl,q2⟩
theorem ps_dput (hu:X.A.units+1<cLine) (ho:PE X o td) (hi:PE X i ty) (hv:PE X value tv) (hs:swapsWith value (some (.Subscript o i pos')) pos.line X.env=pure false) :
  PS X (.Assign [.Subscript o i pos'] value pos) (sDPut td ty tv):=by
 intro pins s σ H D I h
 refine wpAny_Assign_Subscript (thn (hv pins s σ H _ I h) fun r s1 ⟨v,H1,I1,rv,q1⟩=>thn (ho pins s1 σ H1 _ I1 q1) fun u s2 ⟨x,H2,I2,rx,q2⟩=>thn (hi pins s2 σ H2 _ I2 q2) fun iv s3 hsl55=>?_) hs
 obtain ⟨y,H3,I3,ry,a,H4,ex,g,q3⟩:=hsl55
 subst ex
 obtain rfl:u=Value.ref a:=rx
 exact d_setItem hu I3 g ry rv fun s4 I4=>⟨σ,H4,I4,q3⟩
end
theorem dk_empty {P:Program} {w:World} {H:Hp} (h:Heap) (hb:sysModules<h.objs.size):ObjOk P w H (h.push { cls:=.type "dict",data:=.dict #[] }) h.objs.size (.dK []) :=
 ⟨Nat.zero_le _,beq_eq_false_iff_ne.mpr (Ne.symm (Nat.ne_of_lt hb)),[],.nil,Heap.DictOf.new h⟩
theorem dt_empty {P:Program} {w:World} {H:Hp} (h:Heap) (hb:sysModules<h.objs.size):ObjOk P w H (h.push { cls:=.type "dict",data:=.dict #[] }) h.objs.size (.dT []) :=
 ⟨Nat.zero_le _,beq_eq_false_iff_ne.mpr (Ne.symm (Nat.ne_of_lt hb)),[],.nil,_,#[],0,Heap.get?_push_size _ rfl,⟨rfl,rfl,rfl⟩,rfl,rfl,List.nodup_nil⟩
noncomputable def tDNewK:TE:=fun _ H Q=>∀ p,H p=none->Q (.ref p) (upd H p (.dK []))
noncomputable def tDNewT:TE:=fun _ H Q=>∀ p,H p=none->Q (.ref p) (upd H p (.dT []))
section
variable {X:Cx} {pos:Pos}
theorem pe_dnewK:PE X (.Dict [] [] pos) tDNewK:=fun pins s σ H Q I h =>
 wpAny_Dict_empty ⟨.ref s.heap.objs.size,_,I.laid (a:=s.heap.objs.size) (o:=.dK []) (t':=s.toks) (fun _ _ q=>Heap.get?_push_of_some _ q) (Nat.le_refl _) (dk_empty s.heap I.big),rfl,h _ (I.hok.fresh (Nat.le_refl _))⟩
theorem pe_dnewT:PE X (.Dict [] [] pos) tDNewT:=fun pins s σ H Q I h =>
 wpAny_Dict_empty ⟨.ref s.heap.objs.size,_,I.laid (a:=s.heap.objs.size) (o:=.dT []) (t':=s.toks) (fun _ _ q=>Heap.get?_push_of_some _ q) (Nat.le_refl _) (dt_empty s.heap I.big),rfl,h _ (I.hok.fresh (Nat.le_refl _))⟩
end
structure M2 (X:Cx) (o:Expr) (m:Str) (apos:Pos) (e f:Expr) (cpos:Pos):Prop where
 base:attributeBase o m X.env (eval o X.env)=eval o X.env
 few:((backTo cpos (starEach [e,f] X.env)).all (fun x=>!x.1)&&(backToKw cpos (keywordEach [] X.env)).all (fun x=>x.1.isSome)
  && decide (([e,f]:List Expr).length+([]:List Keyword).length+(if ([]:List Keyword).isEmpty then 0 else 1)<30))=true
 line:(apos.endLine == cpos.line)=true
 trees:backTo cpos (starEach [e,f] X.env)=[(false,eval e X.env),(false,eval f X.env)]
noncomputable def IsD (H:Hp) (a:Addr):Prop:=(∃ kvs,Rd H a (.dK kvs))∨∃ kvs,Rd H a (.dT kvs)
theorem isD_at {X:Cx} {pins:List (Addr × Obj)} {σ:St} {H:Hp} {s:Shared} {a:Addr} (I:Inv X pins σ H s) (d:IsD H a) :
  s.TypeIs (.ref a) "dict"/\(∀ b,Value.ref a=.ref b->∃ ob,s.heap.get? b=some ob/\ob.dict=none)/\(a == sysModules)=false:=by
 rcases d with ⟨kvs,e⟩ | ⟨kvs,e⟩
 ·obtain ⟨_,hd,vs,_,dd⟩:=dk_rd I.hok e
  refine ⟨dd.typeIs,fun b q=>?_,hd⟩
  cases q
  obtain ⟨ob,_,_,h1,h2,_⟩:=dd
  exact ⟨ob,h1,h2.2.1⟩
 ·obtain ⟨_,hd,xs,_,dd⟩:=dt_rd I.hok e
  refine ⟨dd.typeIs,fun b q=>?_,hd⟩
  cases q
  obtain ⟨ob,_,_,h1,h2,_⟩:=dd
  exact ⟨ob,h1,h2.2.1⟩
section
variable {X:Cx} {pins:List (Addr × Obj)} {σ:St} {H:Hp} {s:Shared} {a:Addr} {y d:V} {u r:Value} {o:Option V} {A:Around} {E:Value->Shared->Prop}
end
section
variable {X:Cx} {o e f:Expr} {apos cpos:Pos} {td ty tx:TE}
end
section
variable {X:Cx} {pins:List (Addr × Obj)} {σ:St} {H:Hp} {s:Shared} {a:Addr} {kvs:List (Key × V)} {A:Around} {E:Value->Shared->Prop}
end
section
variable {X:Cx} {pins:List (Addr × Obj)} {σ:St} {H:Hp} {s:Shared} {a:Addr} {y:V} {u:Value} {A:Around} {E:Value->Shared->Prop}
end
end L2
namespace L2
open PySem PySem.Spec PyProof.Rows
section
variable {X:Cx}
end
section
variable {κ:Type} [DecidableEq κ]
end
end L2
namespace Mm
open PySem
end Mm
namespace Mm
open PySem L2
theorem ix_tupK {X:Cx} {K:PySem.W.Frag} (h:X.K=K):IxR X (rIxT K):=by subst h;exact ix_tup
theorem bt_tuple:bootBuiltins "tuple"=some (.type "tuple"):=by decide +kernel
theorem call_list_ofK {X:Cx} {K:PySem.W.Frag} (hK:X.K=K):CallR X (.type "list") (fun xs H Q=>∃ p ys,xs=[.ref p]/\(SqL K H p ys∨SqT K H p ys)/\∀ l,H l=none->Q (.ref l) (upd H l (.lst ys))):=by subst hK;exact call_list_of
theorem call_tuple_ofK {X:Cx} {K:PySem.W.Frag} (hK:X.K=K):CallR X (.type "tuple") (fun xs H Q=>∃ p ys,xs=[.ref p]/\((SqL K H p ys/\∀ l,H l=none->Q (.ref l) (upd H l (.tup ys)))∨(SqT K H p ys/\Q (.ref p) H))):=by subst hK;exact call_tuple_of
theorem cut_if {c:TT} {t u b:TS} {D:Ends} {σ:St} {H:Hp} (P:St->Hp->Prop) (h1:∀ R:St->Hp->Prop,(∀ σ' H',P σ' H'->R σ' H')->tIfS c t u { D with nx:=R } σ H) (h2:∀ σ' H',P σ' H'->b D σ' H'):tSeq (tIfS c t u) b D σ H:=h1 (b D) h2
theorem cut_for {wi:TI} {g:TG} {tb b:TS} {D:Ends} {σ:St} {H:Hp} (P:St->Hp->Prop) (h1:∀ R:St->Hp->Prop,(∀ σ' H',P σ' H'->R σ' H')->tFor wi g tb { D with nx:=R } σ H) (h2:∀ σ' H',P σ' H'->b D σ' H'):tSeq (tFor wi g tb) b D σ H:=h1 (b D) h2
theorem cut_while {c:TT} {tb b:TS} {D:Ends} {σ:St} {H:Hp} (P:St->Hp->Prop) (h1:∀ R:St->Hp->Prop,(∀ σ' H',P σ' H'->R σ' H')->tWhile c tb { D with nx:=R } σ H) (h2:∀ σ' H',P σ' H'->b D σ' H'):tSeq (tWhile c tb) b D σ H:=h1 (b D) h2
end Mm
namespace L2
open PySem PySem.Spec PyProof.Rows
section
variable {X:Cx}
end
end L2
namespace L2
open PySem PySem.Spec PyProof.Rows
noncomputable def Ite (K:PySem.W.Frag) (a:Addr):It:=⟨fun i H=>∃ xs x,SqL K H a xs/\xs[i]?=some x,fun i H x H'=>∃ (t:Addr) (y:V),(∀ xs,SqL K H a xs->xs[i]?=some y)/\H t=none/\x=.ref t/\H'=upd H t (.tup [.int ((i:Nat):Int),y]),fun i H=>∃ xs,SqL K H a xs/\xs.length<=i⟩
theorem turn_enum {P:Program} {w:World} {K:PySem.W.Frag} {elts:List Expr} {k:Nat} {tpos:Pos} (a e it:Addr) (hei:e≠it) :
  Turn P w K (.Tuple elts k tpos) (Ite K a) [e,it] e (fun i h=>(∃ old,IsEnum h e it i old)/\h.IsListIter it a i) where
 mem:=by simp
 obj:=fun i h st b hb=>by
  rcases (show b=e∨b=it by simpa using hb) with z | z
  ·subst z
   obtain ⟨⟨old,he⟩,_⟩:=st
   exact ⟨_,he,fun v z=>by cases z⟩
  ·subst z
   obtain ⟨_,o,e,c,d⟩:=st
   exact ⟨o,e,fun v z=>by rw [d] at z;cases z⟩
 keep:=fun i h h' st kk=>⟨by obtain ⟨old,he⟩:=st.1;exact ⟨old,kk e (by simp) _ he⟩,st.2.at fun o q=>kk it (by simp) o q⟩
 item:=by
  intro X hP hw hK hc i pins s σ H E I hf st hg
  subst hP hw hK
  obtain ⟨xs,x,hq,hx⟩:=hg
  obtain ⟨its,rv,p,hz⟩:=I.list hq
  obtain ⟨u,hu,ru⟩:=rv.get hx
  obtain ⟨⟨old,he⟩,hit⟩:=st
  obtain ⟨e0,e1,e2,e3,e4,e5⟩:=hf e (by simp)
  obtain ⟨f0,f1,f2,f3,f4,f5⟩:=hf it (by simp)
  refine wpAny_pyNext_enum_item he hit p.isList (x:=u) (by simpa using hu) hei fun h1 ho hit1 ht hsz kk=>?_
  refine ⟨_,rfl,?_⟩
  have hel:e<s.heap.objs.size:=Heap.lt_size he
  have hil:it<s.heap.objs.size:=by obtain ⟨_,q,_⟩:=hit;exact Heap.lt_size q
  refine wpAny_letOwnedTupleGo_enum (s:={ s with heap:=h1,toks:=s.toks+1 }) ho fun h2 he2 hs2=>?_
  have hs2:Heap.SameBut e h1 h2:=hs2
  have kk2:∀ b o,b≠e->b≠it->s.heap.get? b=some o->h2.get? b=some o:=fun b o q1 q2 q=>(hs2.2 b q1).trans (kk b o q1 q2 q)
  have ht2:h2.get? s.heap.objs.size=some { cls:=.type "tuple",data:=.seq #[.int i s.toks,u] }:=(hs2.2 _ (Nat.ne_of_gt hel)).trans ht
  have hT:H s.heap.objs.size=none:=I.fresh
  have I2:Inv X pins σ (upd H s.heap.objs.size (.tup [.int ((i:Nat):Int),x])) { s with heap:=h2,toks:=s.toks+1 }:=by
   refine I.call' (ch:=[e,it]) rfl ⟨fun b o q hn hb hx=>?_,fun b o q hn hb hx=>?_,fun b o q hn hx=>?_,fun b o q hx=>?_,fun b ys q=>?_,fun b o v q=>?_,fun b ps q=>?_⟩ (fun b v q=>?_) I.bare fun b hb=>?_
   ·exact kk2 b o (fun z=>hx (by simp [z])) (fun z=>hx (by simp [z])) q
   ·exact ⟨o.slots,kk2 b o (fun z=>hx (by simp [z])) (fun z=>hx (by simp [z])) q⟩
   ·rw [upd_ne (Nat.ne_of_lt (Heap.lt_size q))];exact hn
   ·exact ⟨o,kk2 b o (fun z=>hx (by simp [z])) (fun z=>hx (by simp [z])) q⟩
   ·rw [upd_ne (ne_of_none q hT)];exact q
   ·rw [upd_ne (ne_of_none q hT)];exact q
   ·exact ⟨#[],by rw [upd_ne (ne_of_none q hT)];simpa using q⟩
   ·by_cases hb:b=s.heap.objs.size
    ·subst hb
     rw [upd_same] at q
     cases q
     exact ⟨(by show 2<=sizeLine;decide),[.int i s.toks,u],.cons ⟨_,rfl⟩ (.cons ru .nil),_,ht2,rfl,_,rfl⟩
    ·rw [upd_ne hb] at q
     have hne:b≠e:=fun z=>by rw [z,e0] at q;cases q
     have hni:b≠it:=fun z=>by rw [z,f0] at q;cases q
     refine (I.hok b v q).stay (fun c o hcb z=>kk2 c o (fun y=>?_) (fun y=>?_) z) (fun c z=>by rw [upd_ne (ne_of_none z hT)];exact z) fun c ys z=>by rw [upd_ne (ne_of_none z hT)];exact z
     ·rcases hcb with r | r
      ·exact hne (r ▸ y)
      ·rw [y,e0] at r;cases r
     ·rcases hcb with r | r
      ·exact hni (r ▸ y)
      ·rw [y,f0] at r;cases r
   ·rcases (show b=e∨b=it by simpa using hb) with z | z
    ·subst z;exact ⟨e3,e1,e4,e5⟩
    ·subst z;exact ⟨f3,f1,f4,f5⟩
  refine ⟨.ref s.heap.objs.size,_,I2,rfl,⟨_,x,fun ys hy=>by rw [I.list_inj hy hq];exact hx,hT,rfl,rfl⟩,⟨⟨u,by simpa using he2⟩,hit1.at fun o q=>(hs2.2 it hei.symm).trans q⟩,fun b hb=>?_⟩
  rcases (show b=e∨b=it by simpa using hb) with z | z
  ·subst z;rw [upd_ne (Nat.ne_of_lt hel)];exact e0
  ·subst z;rw [upd_ne (Nat.ne_of_lt hil)];exact f0
 done:=by
  intro X hP hw hK hc i pins s σ H E I hf st hg
  subst hP hw hK
  obtain ⟨xs,hq,hx⟩:=hg
  obtain ⟨its,rv,p,hz⟩:=I.list hq
  obtain ⟨f0,f1,f2,f3,f4,f5⟩:=hf it (by simp)
  obtain ⟨⟨old,he⟩,hit⟩:=st
  have hl:=rv.length
  exact wpAny_pyNext_enum_end (I.ok.hd hc) he hit p.isList (by simp;omega) fun h' eb=>⟨rfl,I.turned (t':=s.toks) (fun b o hb q=>eb b o hb q) f0 f1 f3 f4 f5⟩
 self:=fun _ _ _ _ _ st h=>by obtain ⟨⟨old,he⟩,_⟩:=st;exact wpAny_pyIter_enum he h
section
variable {X:Cx}
noncomputable def iEnum (K:PySem.W.Frag) (ta:TA):TI:=fun σ H R=>ta σ H fun vs H1=>∃ a xs,vs=[.ref a]/\SqL K H1 a xs/\R (Ite K a) H1
theorem pi_enum {a:Expr} {ta:TA} {p pos tpos:Pos} {elts:List Expr} {k:Nat} (hg:Gl X "enumerate") (hm:X.mg "enumerate"=none) (ha:PA X [a] ta) (hs:starEach [a] X.env=[(false,eval a X.env)]:=by rfl) :
  PI X (.Tuple elts k tpos) (.Call (.Name "enumerate" p) [a] [] pos) (iEnum X.K ta):=by
 intro pins s σ H R I h
 refine Call_ (ld_blt I hg hm boot_enumerate (PyProof.Rows.callWith_type1 (thn (ha pos pins s σ H _ I h) fun us s1 hsl56=>?_) hs rfl))
 obtain ⟨vs,H1,I1,r1,q1⟩:=hsl56
 obtain ⟨l,xs,e,hq,q⟩:=q1
 subst e
 obtain ⟨u,rfl,ru⟩:=vals1 r1
 cases ru
 obtain ⟨its,rv,pp,hz⟩:=I1.list hq
 refine call_enumerate_list pp.isList fun h' he hit hsz kk=>?_
 refine wpAny_pyIter_enum (s:={ s1 with heap:=h' }) he ?_
 refine ⟨s1.heap.objs.size+1,[s1.heap.objs.size+1,s1.heap.objs.size],_,_,H1,rfl,I1.kept (t':=s1.toks) kk,turn_enum l _ _ (Nat.succ_ne_self _),⟨⟨_,he⟩,hit⟩,fun b hb=>?_,q⟩
 rcases (show b=s1.heap.objs.size+1∨b=s1.heap.objs.size by simpa using hb) with z | z
 ·subst z;exact I1.fpOk (Nat.le_succ _) (I1.hok.fresh (Nat.le_succ _))
 ·subst z;exact I1.fpOk (Nat.le_refl _) (I1.hok.fresh (Nat.le_refl _))
end
theorem pg_tupK {X:Cx} {K:PySem.W.Frag} {es:List Expr} {k:Nat} {pos:Pos} {t:TGs} {n:Nat} (hK:X.K=K) (hc:X.calm=true) (h:PGs X es t)
  (hn:(assignEach es X.env).length=n:=by rfl) (hst:(assignEach es X.env).findIdx? (·.1)=none:=by rfl):PG X (.Tuple es k pos) (gTup K n t):=by
 subst hK
 exact pg_tup hc h hn hst
section
variable {k:Nat} {js:List Nat} {g:TG} {tt:TT} {te:TE}
theorem comp2_list {K:PySem.W.Frag} {a:Addr} {xs:List V} {σ:St} {H:Hp} {Q:VK} (Pv:Nat->List V->Hp->Prop) (h0:Pv 0 [] H) (hl:∀ i ys H,i<=xs.length->Pv i ys H->SqL K H a xs)
  (hs:∀ i x ys H,xs[i]?=some x->Pv i ys H->tStep2 k js g tt te σ ys (Pv (i+1)) x H)
  (hd:∀ ys H,Pv xs.length ys H->∀ p,H p=none->Q (.ref p) (upd H p (.lst ys))):tCompB2 (Itl K a) k js g tt te σ H Q:=by
 refine ⟨fun i m ys H=>m=xs.length-i/\i<=xs.length/\Pv i ys H,⟨xs.length,by simp,Nat.zero_le _,h0⟩,?_⟩
 rintro i m ys H ⟨rfl,hi,p⟩
 have q:=hl i ys H hi p
 by_cases hlt:i<xs.length
 ·refine .inr ⟨⟨xs,xs[i],q,by simp [hlt]⟩,Pv (i+1),fun ys' H' p'=>⟨xs.length-(i+1),by omega,rfl,hlt,p'⟩,fun x H' y=>?_⟩
  obtain ⟨e,y⟩:=y
  subst e
  exact hs i x ys _ (y xs q) p
 ·have e:i=xs.length:=by omega
  subst e
  exact .inl ⟨⟨xs,q,Nat.le_refl _⟩,hd ys H p⟩
end
end L2
namespace L2
open PySem PySem.Spec PyProof.Rows
mutual
inductive Rdv (K:PySem.W.Frag) (H:Hp):V->PyData->Prop
 | non:Rdv K H .non .none
 | bl (b:Bool):Rdv K H (.bl b) (.bool b)
 | int (i:Int):Rdv K H (.int i) (.int i)
 | str (x:Str):Rdv K H (.str x) (.str x)
 | lst {a:Addr} {xs:List V} {ds:List PyData}:SqL K H a xs->RdvA K H xs ds->Rdv K H (.ref a) (.list ds)
 | tup {a:Addr} {xs:List V} {ds:List PyData}:SqT K H a xs->RdvA K H xs ds->Rdv K H (.ref a) (.tuple ds)
inductive RdvA (K:PySem.W.Frag) (H:Hp):List V->List PyData->Prop
 | nil:RdvA K H [] []
 | cons {x:V} {d:PyData} {xs:List V} {ds:List PyData}:Rdv K H x d->RdvA K H xs ds->RdvA K H (x::xs) (d::ds)
end
section
variable {X:Cx} {pins:List (Addr × Obj)} {σ:St} {H:Hp} {s:Shared}
mutual
theorem Rdv.reads (I:Inv X pins σ H s):∀ {x:V} {d:PyData} {u:Value},Rdv X.K H x d->RelV x u->∃ as,Reads s.heap u d as
 | _,_,_,.non,r=>by cases r;exact ⟨_,.none⟩
 | _,_,_,.bl b,r=>by cases r;exact ⟨_,.bool b⟩
 | _,_,_,.int i,r=>by obtain ⟨t,rfl⟩:=r;exact ⟨_,.int i t⟩
 | _,_,_,.str x,r=>by obtain ⟨t,rfl⟩:=r;exact ⟨_,.str x t⟩
 | _,_,_,.lst hq ha,r=>by
  cases r
  obtain ⟨its,rv,p,_⟩:=I.list hq
  obtain ⟨as,ra⟩:=RdvA.reads I ha rv
  obtain ⟨o,ho,hc,n,hd⟩:=p.isList
  exact ⟨_,.list ho hc hd (by simpa using ra)⟩
 | _,_,_,.tup hq ha,r=>by
  cases r
  obtain ⟨its,rv,p,_⟩:=I.tuple hq
  obtain ⟨as,ra⟩:=RdvA.reads I ha rv
  obtain ⟨o,ho,hc,n,hd⟩:=p
  exact ⟨_,.tuple ho hc hd (by simpa using ra)⟩
theorem RdvA.reads (I:Inv X pins σ H s):∀ {xs:List V} {ds:List PyData} {us:List Value},RdvA X.K H xs ds->Vals xs us->∃ as,ReadsAll s.heap us ds as
 | _,_,_,.nil,r=>by cases r;exact ⟨_,.nil⟩
 | _,_,_,.cons h t,r=>by
  cases r with
  | cons r1 r2 =>
   obtain ⟨as,ra⟩:=Rdv.reads I h r1
   obtain ⟨bs,rb⟩:=RdvA.reads I t r2
   exact ⟨_,.cons ra rb⟩
end
end
section
variable {X:Cx}
theorem op_eqD {K:PySem.W.Frag} (hK:X.K=K) (hu:X.A.units+64<cLine):OpR X (compareOp .Eq) (fun x y H Q=>∃ d e,Rdv K H x d/\Rdv K H y e/\SeqAt.shaped d=true/\SeqAt.shaped e=true/\Q (.bl (PyData.eqv d e)) H):=by
 intro pins s σ H x y v u Q I rx ry h
 subst hK
 obtain ⟨d,e,h1,h2,s1,s2,q⟩:=h
 obtain ⟨as,ra⟩:=h1.reads I rx
 obtain ⟨bs,rb⟩:=h2.reads I ry
 exact eq_dataH ra rb s1 s2 hu ⟨.bl _,H,I,rfl,q⟩
theorem op_neD {K:PySem.W.Frag} (hK:X.K=K) (hu:X.A.units+64<cLine):OpR X (compareOp .NotEq) (fun x y H Q=>∃ d e,Rdv K H x d/\Rdv K H y e/\SeqAt.shaped d=true/\SeqAt.shaped e=true/\Q (.bl (!PyData.eqv d e)) H):=by
 intro pins s σ H x y v u Q I rx ry h
 subst hK
 obtain ⟨d,e,h1,h2,s1,s2,q⟩:=h
 obtain ⟨as,ra⟩:=h1.reads I rx
 obtain ⟨bs,rb⟩:=h2.reads I ry
 exact ne_dataH ra rb s1 s2 hu ⟨.bl _,H,I,rfl,q⟩
end
section
variable {X:Cx}
end
noncomputable def Shd (n:Nat) (d:PyData):Prop:=d.canLay0=true/\d.depth<=n
theorem Shd.int (i:Int):Shd 0 (.int i):=⟨rfl,Nat.le_refl _⟩
theorem Shd.str {z:Str} (h:∀ c∈z.cps.toList,c<128):Shd 0 (.str z):=⟨by
 show PyData.strOk z=true
 unfold PyData.strOk
 rw [Array.all_eq_true]
 intro i hi
 have:=h z.cps[i] (by simp)
 simp only [decide_eq_true_eq]
 omega,Nat.le_refl _⟩
theorem shd_all {n:Nat}:∀ {ds:List PyData},(∀ d∈ds,Shd n d)->PyData.canLayAll0 ds=true/\PyData.depthAll ds<=n
 | [],_=>⟨rfl,Nat.zero_le _⟩
 | d::r,h=>by
  obtain ⟨a,b⟩:=h d List.mem_cons_self
  obtain ⟨c,e⟩:=shd_all (ds:=r) fun x hx=>h x (List.mem_cons_of_mem _ hx)
  exact ⟨by simp only [PyData.canLayAll0];rw [a,c];rfl,by simp only [PyData.depthAll];omega⟩
theorem Shd.list {n:Nat} {ds:List PyData} (h:∀ d∈ds,Shd n d):Shd (n+1) (.list ds):=⟨by simp only [PyData.canLay0];exact (shd_all h).1,by simp only [PyData.depth];have:=(shd_all h).2;omega⟩
theorem Shd.ok {n:Nat} {d:PyData} (h:Shd n d) (hn:n<=64):SeqAt.shaped d=true:=by
 show (d.canLay0&&decide (d.depth<=64))=true
 rw [h.1,decide_eq_true (Nat.le_trans h.2 hn)];rfl
theorem Shd.refl {n:Nat} {d:PyData} (h:Shd n d):PyData.eqv d d=true:=SeqAt.eqv_refl d h.1
end L2
namespace L2
open PySem PySem.Spec PyProof.Rows
section
variable {X:Cx} {k:Nat} {f:Addr} {fd:FuncData} {ps:List Str} {sp:Sp} {dvs:List V} {ds:List Value} {pins:List (Addr × Obj)} {σ:St} {H:Hp} {s:Shared} {xs:List V} {ks:List Int}
end
end L2
namespace L2
open PySem PySem.Spec PyProof.Rows
section
variable {prog:Program} {w:World} {K:Type} [DecidableEq K] {knd:HeapKind prog w K} {A:Around} {E:Value->Shared->Prop} {s:Shared} {d:Addr} {xs:List (K × Addr × Value)}
end
section
variable {X:Cx}
end
end L2
namespace L2
open PySem PySem.Spec PyProof.Rows PySem.W
end L2
namespace L2
open PySem PySem.Spec PyProof.Rows PySem.W
section
variable {X:Cx} {pins:List (Addr × Obj)} {σ:St} {H:Hp} {s:Shared} {xs:List V} {ds:List (List Key)} {sh:List Bool}
end
end L2
namespace L2
open PySem PySem.Spec PyProof.Rows PySem.W
section
variable {X:Cx} {k:Nat} {f:Addr} {fd:FuncData} {ps:List Str} {sp:Sp} {dvs:List V} {ds:List Value} {pins:List (Addr × Obj)} {σ:St} {H:Hp} {s:Shared} {xs:List V} {ds':List (List Key)} {sh:List Bool}
end
end L2
namespace Mm
end Mm
namespace Mm
open PySem L2 PyProof.Rows
theorem str_ext {a b:Str} (h:a.cps.toList=b.cps.toList):a=b:=by
 cases a;cases b
 congr 1
 exact Array.toList_inj.mp h
theorem str_len (z:Str):z.length=z.cps.toList.length:=by simp [Str.length]
end Mm
namespace L2
open PySem PySem.Spec PyProof.Rows
noncomputable def chAt (z:Str) (i:Nat):V:=.str ⟨#[z.cps.toList.getD i 0]⟩
theorem turn_str {P:Program} {w:World} {K:PySem.W.Frag} {tg:Expr} (it:Addr) (z:Str) (t:Tok) :
  Turn P w K tg (ItN z.length (chAt z)) [it] it (fun i h=>i<=z.length/\h.IsStrIter it "str_ascii_iterator" z t i) where
 mem:=by simp
 obj:=fun i h st b hb=>by
  have e:b=it:=by simpa using hb
  subst e
  obtain ⟨_,o,e,c,d⟩:=st
  exact ⟨o,e,fun v z=>by rw [d] at z;cases z⟩
 keep:=fun i h h' st k=>⟨st.1,by obtain ⟨o,e,r⟩:=st.2;exact ⟨o,k it (by simp) o e,r⟩⟩
 item:=by
  intro X hP hw hK hc i pins s σ H E I hf st hg
  subst hP hw hK
  have hg:i<z.length:=hg
  obtain ⟨f0,f1,f2,f3,f4,f5⟩:=hf it (by simp)
  have hl:z.cps.toList.length=z.length:=by simp [Str.length]
  have hcc:z.cps[i]?=some (z.cps.toList.getD i 0):=by
   rw [List.getD_eq_getElem?_getD,List.getElem?_eq_getElem (by omega),<- Array.getElem?_toList,List.getElem?_eq_getElem (by omega)];rfl
  refine wpAny_pyNext_ascii_item st.2 hcc fun h' st' sb=>?_
  have I1:Inv X pins σ H { s with heap:=h',toks:=s.toks+1 }:=I.turned (fun b o hb e=>(sb.2 b hb).trans e) f0 f1 f3 f4 f5
  obtain ⟨o,e,c,d⟩:=id st'
  exact ⟨_,rfl,go_of (s:={ s with heap:=h',toks:=s.toks+1 }) e c d (by decide) ⟨chAt z i,H,I1,⟨s.toks,rfl⟩,⟨rfl,rfl⟩,⟨hg,st'⟩,fun b hb=>(hf b hb).1⟩⟩
 done:=by
  intro X hP hw hK hc i pins s σ H E I hf st hg
  subst hP hw hK
  have hg:z.length<=i:=hg
  obtain ⟨f0,f1,f2,f3,f4,f5⟩:=hf it (by simp)
  exact wpAny_pyNext_ascii_end (I.ok.hd hc) st.2 (Array.getElem?_eq_none (by show z.length<=i;exact hg)) fun h' eb=>⟨rfl,I.turned (t':=s.toks) (fun b o hb e=>eb b o hb e) f0 f1 f3 f4 f5⟩
 self:=fun _ _ _ _ _ st h=>wpAny_pyIter_striter_ascii st.2 h
section
variable {X:Cx} {tg:Expr}
noncomputable def iStr (te:TE):TI:=fun σ H R=>te σ H fun x H1=>∃ z:Str,x=.str z/\z.cps.all (·<128)=true/\R (ItN z.length (chAt z)) H1
theorem pi_str {e:Expr} {te:TE} (he:PE X e te):PI X tg e (iStr te):=by
 intro pins s σ H R I h
 refine thn (he pins s σ H _ I h) fun v s1 hsl57=>?_
 obtain ⟨x,H1,I1,r1,q1⟩:=hsl57
 obtain ⟨z,e,ha,q⟩:=q1
 subst e
 obtain ⟨t,rfl⟩:=r1
 refine wpAny_pyIter_ascii ha ?_
 refine ⟨s1.heap.objs.size,[s1.heap.objs.size],_,_,H1,rfl,I1.kept (t':=s1.toks) fun b o e=>Heap.get?_push_of_some _ e,turn_str _ z t,⟨Nat.zero_le _,_,Heap.get?_push_size _ rfl,rfl,rfl⟩,fun b hb=>?_,q⟩
 have e:b=s1.heap.objs.size:=by simpa using hb
 subst e
 exact I1.fpOk (Nat.le_refl _) (I1.hok.fresh (Nat.le_refl _))
end
end L2
namespace L2
open PySem PySem.Spec PyProof.Rows
section
variable {X:Cx}
theorem call_intS:CallR X (.type "int") (fun xs H Q=>∃ z n,xs=[.str z]/\PySem.intText? z=some n/\z.length<=640/\Q (.int n) H):=by
 intro pins s σ H xs us Q I r h
 obtain ⟨z,n,rfl,hn,hl,q⟩:=h
 obtain ⟨u,rfl,t,rfl⟩:=vals1 r
 exact PySem.W.KIN.call_text hn hl ⟨.int n,H,I.tok _,⟨_,rfl⟩,q⟩
theorem call_strI:CallR X (.type "str") (fun xs H Q=>∃ i:Int,xs=[.int i]/\i.natAbs.log2<1920/\Q (.str (toString i)) H):=by
 intro pins s σ H xs us Q I r h
 obtain ⟨i,rfl,hl,q⟩:=h
 obtain ⟨u,rfl,t,rfl⟩:=vals1 r
 exact PySem.P.str_of_int hl ⟨.str _,H,I.tok _,⟨_,rfl⟩,q⟩
theorem op_in_seqK {K:PySem.W.Frag} (hK:X.K=K):OpR X (compareOp .In) (rIn K false):=by subst hK;exact op_in_seq
theorem op_notIn_seqK {K:PySem.W.Frag} (hK:X.K=K):OpR X (compareOp .NotIn) (rIn K true):=by subst hK;exact op_notIn_seq
end
section
variable {js:List Nat} {tt:TT} {te:TE}
theorem comp_N {n:Nat} {y:Nat->V} {σ:St} {H:Hp} {Q:VK} (Pv:Nat->List V->Hp->Prop) (h0:Pv 0 [] H)
  (hs:∀ i ys H,i<n->Pv i ys H->tt (some (y i)::pick js σ) H fun b H2=>if b=true then te (some (y i)::pick js σ) H2 fun z H3=>ys.length<sizeLine/\Pv (i+1) (ys++[z]) H3 else Pv (i+1) ys H2)
  (hd:∀ ys H,Pv n ys H->∀ p,H p=none->Q (.ref p) (upd H p (.lst ys))):tCompB (ItN n y) js tt te σ H Q:=by
 refine ⟨fun i m ys H=>i+m=n/\Pv i ys H,⟨n,by simp,h0⟩,?_⟩
 rintro i m ys H1 ⟨e,q⟩
 rcases Nat.lt_or_ge i n with hlt | hge
 ·refine .inr ⟨hlt,fun ys' H'=>Pv (i+1) ys' H',fun ys' H' q'=>⟨m-1,by omega,by omega,q'⟩,?_⟩
  rintro x H' ⟨rfl,rfl⟩
  exact hs i ys _ hlt q
 ·have:i=n:=by omega
  subst this
  exact .inl ⟨hge,hd ys H1 q⟩
end
end L2
namespace Mm
open PySem L2 PyProof.Rows
noncomputable def lws:List Str:=["kind","def","set","tell","give","if","else","while","end","num","truth","yes","no","less","same","and","or","not","do","new","of","+","-","*","."]
noncomputable def ops7:List Str:=["+","-","*","less","same","and","or"]
noncomputable def isLo (c:Nat):Bool:=decide (97<=c/\c<=122)
noncomputable def isFig (c:Nat):Bool:=decide (48<=c/\c<=57)
theorem occLo:∀ c:Nat,c<128->(Builtin.Str.occurrences ("abcdefghijklmnopqrstuvwxyz":Str) ⟨#[c]⟩ 0 ("abcdefghijklmnopqrstuvwxyz":Str).length 1).isEmpty=!(isLo c):=by decide +kernel
theorem occFig:∀ c:Nat,c<128->(Builtin.Str.occurrences ("0123456789":Str) ⟨#[c]⟩ 0 ("0123456789":Str).length 1).isEmpty=!(isFig c):=by decide +kernel
noncomputable def madeOf (f:Nat->Bool) (z:Str) (m:Nat):Bool:=!decide (z="")&&(decide (z.length<=m)&&z.cps.toList.all f)
noncomputable def isName (z:Str):Bool:=madeOf isLo z 8&&!decide (z∈lws)
noncomputable def isNum (z:Str):Bool:=decide (z="0")||(madeOf isFig z 18&&!decide (z.cps.toList.getD 0 0=48))
inductive Ex where
 | num (n:Int)
 | truth (z:Str)
 | name (z:Str)
 | not (e:Ex)
 | op (w:Str) (a b:Ex)
 | of (n:Str) (e:Ex)
 | many (w n:Str) (es:List Ex)
noncomputable def pM (p:Nat->Option (Ex × Nat)) (ws:List Str):Nat->Nat->Option (List Ex × Nat)
 | 0,_=>none
 | f+1,i=>if ws[i]?=some "." then some ([],i+1) else match p i with
  | none=>none
  | some (e,j)=>match pM p ws f j with
   | none=>none
   | some (es,l)=>some (e::es,l)
noncomputable def pWd (f:Str->Bool) (ws:List Str) (i:Nat):Option Str:=match ws[i]? with | some z=>if f z then some z else none | none=>none
noncomputable def isMany (z:Str):Bool:=decide (z∈(["do","new","of"]:List Str))
noncomputable def pD (p:Nat->Option (Ex × Nat)) (ws:List Str) (z:Str) (i:Nat):Option (Ex × Nat) :=
 if isMany z then (match pWd isName ws i with
  | none=>none
  | some n=>if z="of" then (match p (i+1) with | none=>none | some (e,j)=>some (.of n e,j))
   else match pM p ws (ws.length+1) (i+1) with | none=>none | some (es,j)=>some (.many z n es,j))
 else none
noncomputable def numV (z:Str):Int:=(PySem.intText? z).getD 0
noncomputable def pE (ws:List Str):Nat->Nat->Option (Ex × Nat)
 | 0,_=>none
 | k+1,i=>match ws[i]? with
  | none=>none
  | some z =>
   if isNum z then some (.num (numV z),i+1)
   else if z∈(["yes","no"]:List Str) then some (.truth z,i+1)
   else if isName z then some (.name z,i+1)
   else if z="not" then (match pE ws k (i+1) with | none=>none | some (e,j)=>some (.not e,j))
   else if z∈ops7 then (match pE ws k (i+1) with
    | none=>none
    | some (a,j)=>match pE ws k j with | none=>none | some (b,l)=>some (.op z a b,l))
   else pD (pE ws k) ws z (i+1)
theorem pM_le {p:Nat->Option (Ex × Nat)} {ws:List Str} (hp:∀ i e j,p i=some (e,j)->i<j/\j<=ws.length):∀ f i es j,pM p ws f i=some (es,j)->i<j/\j<=ws.length
 | 0,i,es,j,h=>by simp [pM] at h
 | f+1,i,es,j,h=>by
  unfold pM at h
  split at h
  ·rename_i hd
   have:=(List.getElem?_eq_some_iff.mp hd).1
   cases h
   omega
  ·split at h
   ·cases h
   ·rename_i e j' he
    split at h
    ·cases h
    ·rename_i es' l hm
     cases h
     have h1:=hp _ _ _ he
     have h2:=pM_le hp f _ _ _ hm
     omega
theorem pD_le {p:Nat->Option (Ex × Nat)} {ws:List Str} (hp:∀ i e j,p i=some (e,j)->i<j/\j<=ws.length) {z:Str} {i j:Nat} {e:Ex} (h:pD p ws z i=some (e,j)):i<j/\j<=ws.length:=by
 unfold pD at h
 split at h
 ·split at h
  ·cases h
  ·split at h
   ·split at h
    ·cases h
    ·rename_i he;cases h;have:=hp _ _ _ he;omega
   ·split at h
    ·cases h
    ·rename_i he;cases h;have:=pM_le hp _ _ _ _ he;omega
 ·cases h
theorem pE_le (ws:List Str):∀ k i e j,pE ws k i=some (e,j)->i<j/\j<=ws.length
 | 0,i,e,j,h=>by simp [pE] at h
 | k+1,i,e,j,h=>by
  unfold pE at h
  split at h
  ·cases h
  ·rename_i z hz
   have hi:=(List.getElem?_eq_some_iff.mp hz).1
   have ih:=pE_le ws k
   split at h
   ·cases h;omega
   split at h
   ·cases h;omega
   split at h
   ·cases h;omega
   split at h
   ·split at h
    ·cases h
    ·rename_i he;cases h;have:=ih _ _ _ he;omega
   split at h
   ·split at h
    ·cases h
    ·rename_i he
     split at h
     ·cases h
     ·rename_i hf;cases h;have:=ih _ _ _ he;have:=ih _ _ _ hf;omega
   have:=pD_le ih h
   omega
theorem pM_turn {p:Nat->Option (Ex × Nat)} {ws:List Str} {f i:Nat} (hd:ws[i]?≠some "."):(p i=none->pM p ws (f+1) i=none)/\∀ e j,p i=some (e,j)->pM p ws (f+1) i=(pM p ws f j).map fun q=>(e::q.1,q.2):=by
 refine ⟨fun h=>?_,fun e j h=>?_⟩
 ·unfold pM
  rw [if_neg hd,h]
 ·rw [pM,if_neg hd,h]
  dsimp only
  cases hq:pM p ws f j with
  | none=>rfl
  | some q=>rfl
theorem pM_stop {p:Nat->Option (Ex × Nat)} {ws:List Str} {f i:Nat} (hd:ws[i]?=some "."):pM p ws (f+1) i=some ([],i+1):=by
 unfold pM
 rw [if_pos hd]
mutual
inductive ExAt (H:Hp):V->Ex->Prop where
 | num {t:Addr} {n:Int}:H t=some (.tup [.str "num",.int n])->ExAt H (.ref t) (.num n)
 | truth {t:Addr} {z:Str}:H t=some (.tup [.str "truth",.str z])->ExAt H (.ref t) (.truth z)
 | name {t:Addr} {z:Str}:H t=some (.tup [.str "name",.str z])->ExAt H (.ref t) (.name z)
 | not {t:Addr} {v:V} {e:Ex}:H t=some (.tup [.str "not",v])->ExAt H v e->ExAt H (.ref t) (.not e)
 | op {t:Addr} {z:Str} {v u:V} {a b:Ex}:H t=some (.tup [.str z,v,u])->ExAt H v a->ExAt H u b->ExAt H (.ref t) (.op z a b)
 | of {t:Addr} {n:Str} {v:V} {e:Ex}:H t=some (.tup [.str "of",.str n,v])->ExAt H v e->ExAt H (.ref t) (.of n e)
 | many {t l:Addr} {z n:Str} {vs:List V} {es:List Ex}:H t=some (.tup [.str z,.str n,.ref l])->H l=some (.tup vs)->ExsAt H vs es->ExAt H (.ref t) (.many z n es)
inductive ExsAt (H:Hp):List V->List Ex->Prop where
 | nil:ExsAt H [] []
 | cons {v:V} {vs:List V} {e:Ex} {es:List Ex}:ExAt H v e->ExsAt H vs es->ExsAt H (v::vs) (e::es)
end
noncomputable def TupS (H H':Hp):Prop:=∀ b xs,H b=some (.tup xs)->H' b=some (.tup xs)
mutual
theorem ExAt.kept {H H':Hp} (s:TupS H H'):∀ {v:V} {e:Ex},ExAt H v e->ExAt H' v e
 | _,_,.num h=>.num (s _ _ h)
 | _,_,.truth h=>.truth (s _ _ h)
 | _,_,.name h=>.name (s _ _ h)
 | _,_,.not h a=>.not (s _ _ h) (a.kept s)
 | _,_,.op h a b=>.op (s _ _ h) (a.kept s) (b.kept s)
 | _,_,.of h a=>.of (s _ _ h) (a.kept s)
 | _,_,.many h l a=>.many (s _ _ h) (s _ _ l) (a.kept s)
theorem ExsAt.kept {H H':Hp} (s:TupS H H'):∀ {vs:List V} {es:List Ex},ExsAt H vs es->ExsAt H' vs es
 | _,_,.nil=>.nil
 | _,_,.cons a b=>.cons (a.kept s) (b.kept s)
end
theorem ExsAt.snoc {H:Hp}:∀ {vs:List V} {es:List Ex} {v:V} {e:Ex},ExsAt H vs es->ExAt H v e->ExsAt H (vs++[v]) (es++[e])
 | _,_,_,_,.nil,h=>.cons h .nil
 | _,_,_,_,.cons a b,h=>.cons a (b.snoc h)
theorem _root_.L2.Same.tups {H H':Hp} (s:Same H H'):TupS H H':=fun _ _ h=>s _ _ h
noncomputable def ButO (o:Addr) (H H':Hp):Prop:=∀ b u,H b=some u->b≠o->H' b=some u
theorem ButO.refl (o:Addr) (H:Hp):ButO o H H:=fun _ _ h _=>h
theorem ButO.trans {o:Addr} {H H1 H2:Hp} (a:ButO o H H1) (b:ButO o H1 H2):ButO o H H2:=fun _ _ h n=>b _ _ (a _ _ h n) n
theorem _root_.L2.Same.but {o:Addr} {H H':Hp} (s:Same H H'):ButO o H H':=fun _ _ h _=>s _ _ h
theorem ButO.upd (o:Addr) (H:Hp) (x:HO):ButO o H (upd H o x):=fun b u h n=>by rw [upd_ne n];exact h
theorem ButO.tups {o C dx:Addr} {fs:List (Str × V)} {H H':Hp} (s:ButO o H H') (h:H o=some (.ins C dx fs)):TupS H H':=fun b xs e=>s _ _ e fun z=>by rw [z,h] at e;cases e
noncomputable def WsOk (ws:List Str):Prop:=∀ z∈ws,z.length<=100/\∀ c∈z.cps.toList,c<128
end Mm
namespace L2
open PySem PySem.Spec PyProof.Rows PySem.W
theorem op_catTK {X:Cx} {K:PySem.W.Frag} (hK:X.K=K):OpR X (binaryOp .Add) (rCatT K):=by subst hK;exact op_catT
end L2
namespace Mm
open PySem L2 PyProof.Rows
inductive Tr where
 | set (r:Nat) (n:Str) (e:Ex)
 | tell (r:Nat) (e:Ex)
 | iff (r:Nat) (e:Ex) (b o:List Tr)
 | whl (r:Nat) (e:Ex) (b:List Tr)
 | give (r:Nat) (e:Ex)
 | df (r:Nat) (n k:Str) (ps:List (Str × Str)) (b:List Tr)
 | kd (r:Nat) (n:Str) (ps:List (Str × Str))
noncomputable def Tr.row:Tr->Nat
 | .set r _ _=>r
 | .tell r _=>r
 | .iff r _ _ _=>r
 | .whl r _ _=>r
 | .give r _=>r
 | .df r _ _ _ _=>r
 | .kd r _ _=>r
inductive Part where
 | s (z:Str)
 | i (n:Nat)
 | e (x:Ex)
 | b (ts:List Tr)
 | p (ps:List (Str × Str))
noncomputable def Tr.parts:Tr->List Part
 | .set r n e=>[.s "set",.i r,.s n,.e e]
 | .tell r e=>[.s "tell",.i r,.e e]
 | .iff r e b o=>[.s "if",.i r,.e e,.b b,.b o]
 | .whl r e b=>[.s "while",.i r,.e e,.b b]
 | .give r e=>[.s "give",.i r,.e e]
 | .df r n k ps b=>[.s "def",.i r,.s n,.s k,.p ps,.b b]
 | .kd r n ps=>[.s "kind",.i r,.s n,.p ps]
noncomputable def PrsAt (H:Hp) (v:V) (ps:List (Str × Str)):Prop:=∃ (t:Addr) (us:List Addr),v=.ref t/\H t=some (.tup (us.map V.ref))/\us.length=ps.length/\∀ (i:Nat) (u:Addr) (q:Str × Str),us[i]?=some u->ps[i]?=some q->H u=some (.tup [.str q.1,.str q.2])
mutual
inductive SAt (H:Hp) (sh:Bool):V->Tr->Prop where
 | mk {t:Addr} {vs:List V} {x:Tr}:H t=some (.tup vs)->PsAt H sh vs x.parts->SAt H sh (.ref t) x
inductive PsAt (H:Hp) (sh:Bool):List V->List Part->Prop where
 | nil:PsAt H sh [] []
 | cons {v:V} {vs:List V} {p:Part} {ps:List Part}:PAt H sh v p->PsAt H sh vs ps->PsAt H sh (v::vs) (p::ps)
inductive PAt (H:Hp) (sh:Bool):V->Part->Prop where
 | s (z:Str):PAt H sh (.str z) (.s z)
 | i (n:Nat):PAt H sh (.int (n:Int)) (.i n)
 | e {v:V} {x:Ex}:ExAt H v x->PAt H sh v (.e x)
 | b {l:Addr} {xs:List V} {ts:List Tr}:H l=some (.lst xs)->LAt H sh xs ts->PAt H sh (.ref l) (.b ts)
 | p {v:V} {ps:List (Str × Str)}:PrsAt H v ps->PAt H sh v (.p ps)
inductive LAt (H:Hp) (sh:Bool):List V->List Tr->Prop where
 | nil:LAt H sh [] []
 | cons {v:V} {vs:List V} {t:Tr} {ts:List Tr}:OAt H sh v t->LAt H sh vs ts->LAt H sh (v::vs) (t::ts)
inductive OAt (H:Hp) (sh:Bool):V->Tr->Prop where
 | plain {v:V} {t:Tr}:sh=false->SAt H sh v t->OAt H sh v t
 | shared {p:Addr} {v:V} {t:Tr}:sh=true->H p=some (.tup [.int 1,v])->SAt H sh v t->OAt H sh (.ref p) t
end
structure LsS (H H':Hp):Prop where
 t:∀ b xs,H b=some (.tup xs)->H' b=some (.tup xs)
 l:∀ b xs,H b=some (.lst xs)->H' b=some (.lst xs)
 z:∀ b o x,H b=some (.frz o x)->H' b=some (.frz o x)
theorem LsS.seq {K:PySem.W.Frag} {H H':Hp} (s:LsS H H') {a:Addr} {xs:List V} (h:SqL K H a xs):SqL K H' a xs:=by
 rcases h with (h | ⟨o,h⟩) | h
 ·exact .inl (.inl (s.2 _ _ h))
 ·exact .inl (.inr ⟨o,s.z _ _ _ h⟩)
 ·exact .inr h
theorem _root_.L2.Same.ls {H H':Hp} (s:Same H H'):LsS H H':=⟨fun _ _ h=>s _ _ h,fun _ _ h=>s _ _ h,fun _ _ _ h=>s _ _ h⟩
theorem PrsAt.kept {H H':Hp} {v:V} {ps:List (Str × Str)} (h:PrsAt H v ps) (s:LsS H H'):PrsAt H' v ps:=by obtain ⟨t,us,a,b,c,d⟩:=h;exact ⟨t,us,a,s.1 _ _ b,c,fun i u q x y=>s.1 _ _ (d i u q x y)⟩
mutual
theorem SAt.kept {H H':Hp} {sh:Bool} (s:LsS H H'):∀ {v:V} {t:Tr},SAt H sh v t->SAt H' sh v t
 | _,_,.mk h a=>.mk (s.1 _ _ h) (a.kept s)
theorem PsAt.kept {H H':Hp} {sh:Bool} (s:LsS H H'):∀ {vs:List V} {ps:List Part},PsAt H sh vs ps->PsAt H' sh vs ps
 | _,_,.nil=>.nil
 | _,_,.cons a b=>.cons (a.kept s) (b.kept s)
theorem PAt.kept {H H':Hp} {sh:Bool} (s:LsS H H'):∀ {v:V} {p:Part},PAt H sh v p->PAt H' sh v p
 | _,_,.s z=>.s z
 | _,_,.i n=>.i n
 | _,_,.e a=>.e (a.kept s.1)
 | _,_,.b l a=>.b (s.2 _ _ l) (a.kept s)
 | _,_,.p a=>.p (a.kept s)
theorem LAt.kept {H H':Hp} {sh:Bool} (s:LsS H H'):∀ {vs:List V} {ts:List Tr},LAt H sh vs ts->LAt H' sh vs ts
 | _,_,.nil=>.nil
 | _,_,.cons a b=>.cons (a.kept s) (b.kept s)
theorem OAt.kept {H H':Hp} {sh:Bool} (s:LsS H H'):∀ {v:V} {t:Tr},OAt H sh v t->OAt H' sh v t
 | _,_,.plain e a=>.plain e (a.kept s)
 | _,_,.shared e h a=>.shared e (s.1 _ _ h) (a.kept s)
end
theorem LAt.length {H:Hp} {sh:Bool}:∀ {vs:List V} {ts:List Tr},LAt H sh vs ts->vs.length=ts.length
 | _,_,.nil=>rfl
 | _,_,.cons _ b=>by simp [b.length]
theorem LAt.get {H:Hp} {sh:Bool}:∀ {vs:List V} {ts:List Tr},LAt H sh vs ts->∀ {i:Nat} {v:V},vs[i]?=some v->∃ t,ts[i]?=some t/\OAt H sh v t
 | _,_,.nil,i,v,h=>by simp at h
 | _,_,.cons a b,0,v,h=>by
  cases (show some _=some v from h)
  exact ⟨_,rfl,a⟩
 | _,_,.cons a b,i+1,v,h=>b.get h
theorem ExsAt.get {H:Hp}:∀ {vs:List V} {es:List Ex},ExsAt H vs es->∀ {i:Nat} {v:V},vs[i]?=some v->∃ e,es[i]?=some e/\ExAt H v e
 | _,_,.nil,i,v,h=>by simp at h
 | _,_,.cons a b,0,v,h=>by
  cases (show some _=some v from h)
  exact ⟨_,rfl,a⟩
 | _,_,.cons a b,i+1,v,h=>ExsAt.get b h
theorem ExsAt.len {H:Hp}:∀ {vs:List V} {es:List Ex},ExsAt H vs es->vs.length=es.length
 | _,_,.nil=>rfl
 | _,_,.cons a b=>by simp [ExsAt.len b]
end Mm
namespace L2
open PySem PySem.Spec PyProof.Rows
noncomputable def msk (H:Hp) (M:List Addr):Hp:=fun b=>if b∈M then none else H b
theorem msk_no {H:Hp} {M:List Addr} {b:Addr} (h:b∉M):msk H M b=H b:=if_neg h
theorem msk_some {H:Hp} {M:List Addr} {b:Addr} {o:HO} (h:msk H M b=some o):b∉M/\H b=some o:=by
 unfold msk at h
 split at h
 ·cases h
 ·exact ⟨by assumption,h⟩
theorem msk_le {H H':Hp} {M M':List Addr} (h1:∀ b∈M',b∈M∨H b=none) (h2:∀ b o,b∉M->H b=some o->H' b=some o):Same (msk H M) (msk H' M'):=by
 intro b o h
 obtain ⟨hb,ho⟩:=msk_some h
 rw [msk_no fun z=>?_]
 ·exact h2 _ _ hb ho
 ·rcases h1 b z with q | q
  ·exact hb q
  ·rw [q] at ho;cases ho
theorem msk_in (H:Hp) (M:List Addr):Same (msk H M) H:=fun b o h=>(msk_some h).2
end L2
namespace L2
open PySem PySem.Spec PyProof.Rows
theorem dict_mapFields (o:Obj) (f:Array Value->Array Value):(o.mapFields f).dict=o.dict:=by
 obtain ⟨a,b,c,d⟩:=o
 cases c<;>rfl
noncomputable def TrD (h base:Heap) (e:Addr) (cls fl:Value) (dd:Option Addr) (cx:Option Value):Prop :=
 ∃ oe vs T oT ts,h.get? e=some oe/\(oe.cls=cls/\oe.dict=dd/\vs[2]?=cx)/\oe.data=.fields vs/\vs[1]?=some (.ref T)/\base.get? T=none/\T≠e/\h.get? T=some oT/\oT.data=.fields ts/\ts[3]?=some fl
noncomputable def FlyD (base:Heap) (l:List Env) (e:Addr) (cls:Value) (dd:Option Addr) (cx:Option Value) (h:Heap):Prop:=base.StaysIn h/\base.get? e=none/\h.FunFrames base l/\TrD h base e cls .none dd cx
noncomputable def HeldD (base:Heap) (l:List Env) (e:Addr) (cls:Value) (dd:Option Addr) (cx:Option Value) (L:Addr) (h:Heap):Prop:=base.StaysIn h/\base.get? e=none/\h.FunFrames base l/\TrD h base e cls (rawInt L) dd cx
section
variable {M:Model} {A:Around} {E:Value->Shared->Prop} {s:Shared}
theorem noteEntry {base:Heap} {env:Env} {outer:List Env} {L e:Addr} {oe:Obj} {vs:Array Value} {head:Value} {hadNext:Bool} {Q:Unit->Shared->Prop}
  (hfr:A.frames=some (env::outer)) (hl:s.heap.FunFrames base (env::outer)) (hf:env.frame=some L)
  (he:s.heap.get? e=some oe) (hkb:base.StaysIn s.heap) (hen:base.get? e=none) (hd:oe.data=.fields vs) (hsz:1<vs.size)
  (h:∀ h',base.StaysIn h'->h'.FunFrames base (env::outer)->TrD h' base e oe.cls (rawInt L) oe.dict vs[2]?->s.heap.UpToSlots h'->Q () { s with heap:=h' }) :
  wpAny M A (do let a <- frameOf env;let pl <- entryPlaceOf L hadNext;let b <- EntryCells.newEntry head a .none (rawInt L) .none pl;setField (.ref e) 1 b) Q E s:=by
 have hene:e∉(env::outer).filterMap (·.frame):=fun hm=>by
  obtain ⟨_,o,ho,hnf⟩:=hl.mem hm
  rw [he] at ho;injection ho with ho;subst ho;exact hnf vs hd
 refine wpAny_bind (wpAny_frameOf_fun hfr hl hf fun h₁ hs₁=>wpAny_bind (wpAny_entryPlaceOf fun pl hpl=>?_))
 unfold EntryCells.newEntry newFields
 refine wpAny_bind (wpAny_newObj_type ?_ (hpl.sizeOk5 _ _ _ _ _))
 have he₁:h₁.get? e=some oe:=(hs₁.2.1 e hene).trans he
 have kb₁:base.StaysIn h₁:=fun b o hbo=>(hs₁.2.1 b fun hm=>by rw [(hl.mem hm).1] at hbo;cases hbo).trans (hkb b o hbo)
 have hTe:h₁.objs.size≠e:=Nat.ne_of_gt (Heap.lt_size he₁)
 generalize hot:({ cls:=.type "traceback",dict:=none,data:=.fields ([head,.ref L,.none,rawInt L,.none]++(if pl.isEmpty then List.replicate 6 Value.none else pl)).toArray }:Obj)=ot
 have hotd:∃ ts,ot.data=.fields ts/\ts[3]?=some (rawInt L):=by
  subst hot
  exact ⟨_,rfl,by first | (simp;done) | (rcases hpl with rfl | ⟨_,_,_,_,_,_,_,rfl⟩<;>simp)⟩
 have hofr:ot.isFreed=false:=by subst hot;rfl
 have he₂:=Heap.get?_push_of_some (h:=h₁) ot he₁
 refine wpAny_setField he₂ hd hsz ?_
 have hd₃:=Obj.data_mapFields hd (·.setIfInBounds 1 (Value.ref h₁.objs.size))
 have he₃:=Heap.get?_update_self (Obj.mapFields (·.setIfInBounds 1 (Value.ref h₁.objs.size))) he₂ (Obj.isFreed_of_fields hd₃)
 have hT₃:=(Heap.get?_update_other (h₁.push ot) (Obj.mapFields (·.setIfInBounds 1 (Value.ref h₁.objs.size))) (Ne.symm hTe)).trans (Heap.get?_push_size h₁ hofr)
 have keep:∀ b o,b≠e->h₁.get? b=some o->((h₁.push ot).update e (Obj.mapFields (·.setIfInBounds 1 (Value.ref h₁.objs.size)))).get? b=some o :=
  fun b o hbe hb=>by rw [Heap.get?_update_other _ _ (Ne.symm hbe)];exact Heap.get?_push_of_some _ hb
 have rec':∀ b o,s.heap.get? b=some o->(∀ vs,o.data≠.fields vs)->b≠e:=fun b o hb hnf q=>by
  rw [q,he] at hb;injection hb with hb;subst hb;exact hnf vs hd
 obtain ⟨ts,ht1,ht2⟩:=hotd
 refine h _ (fun b o hbo=>keep b o (fun q=>by rw [q,hen] at hbo;cases hbo) (kb₁ b o hbo)) (hl.of_keeps fun b o hb hnf=>?_) ?_ fun b o hb hnf=>?_
 ·obtain ⟨sl,hs⟩:=hs₁.2.2 b o hb
  exact ⟨_,keep b _ (rec' b o hb hnf) hs,rfl⟩
 ·exact ⟨_,_,h₁.objs.size,_,ts,he₃,⟨Obj.cls_mapFields _ _,dict_mapFields _ _,by rw [Array.getElem?_setIfInBounds_ne (by decide)]⟩,hd₃,by simp [hsz],kb₁.fresh,hTe,hT₃,ht1,ht2⟩
 ·obtain ⟨sl,hs⟩:=hs₁.2.2 b o hb
  exact ⟨sl,keep b _ (rec' b o hb hnf) hs⟩
theorem note_first {base:Heap} {env:Env} {outer:List Env} {L e:Addr} {oe:Obj} {vs:Array Value} {Q:Unit->Shared->Prop}
  (hfr:A.frames=some (env::outer)) (hl:s.heap.FunFrames base (env::outer)) (hf:env.frame=some L)
  (he:s.heap.get? e=some oe) (hkb:base.StaysIn s.heap) (hen:base.get? e=none) (hd:oe.data=.fields vs) (h1:vs[1]?=some .none)
  (h:∀ h',HeldD base (env::outer) e oe.cls oe.dict vs[2]? L h'->s.heap.UpToSlots h'->Q () { s with heap:=h' }):wpAny M A (noteFrame (.ref e) env) Q E s:=by
 unfold noteFrame
 simp only [hf]
 refine wpAny_bind (wpAny_field he hd h1 ?_)
 rw [if_neg (by decide)]
 exact noteEntry hfr hl hf he hkb hen hd (Array.getElem?_eq_some_iff.mp h1).1 fun h' k1 k2 k3 k4=>h h' ⟨k1,hen,k2,k3⟩ k4
theorem note_on {base:Heap} {env:Env} {outer:List Env} {L e:Addr} {cls:Value} {dd:Option Addr} {cx:Option Value} {Q:Unit->Shared->Prop}
  (hfr:A.frames=some (env::outer)) (hf:env.frame=some L) (hfl:FlyD base (env::outer) e cls dd cx s.heap)
  (h:∀ h',HeldD base (env::outer) e cls dd cx L h'->s.heap.UpToSlots h'->Q () { s with heap:=h' }):wpAny M A (noteFrame (.ref e) env) Q E s:=by
 obtain ⟨hkb,hen,hl,oe,vs,T,oT,ts,he,⟨rfl,rfl,rfl⟩,hd,h1,hnT,hTe,hT,hdT,h3⟩:=hfl
 unfold noteFrame
 simp only [hf]
 refine wpAny_bind (wpAny_field he hd h1 ?_)
 rw [if_pos (show (Value.ref T != Value.none)=true from by simp)]
 refine wpAny_bind (wpAny_field hT hdT h3 ?_)
 rw [if_neg (show ¬ ((Value.none == rawInt L)=true) from by simp [rawInt])]
 refine wpAny_bind (wpAny_setField hT hdT (Array.getElem?_eq_some_iff.mp h3).1 ?_)
 have other:∀ b,b≠T->(s.heap.update T (Obj.mapFields (·.setIfInBounds 3 Value.none))).get? b=s.heap.get? b:=fun b hb=>Heap.get?_update_other _ _ (Ne.symm hb)
 have rec':∀ b o,s.heap.get? b=some o->(∀ vs,o.data≠.fields vs)->b≠T:=fun b o hb hnf q=>by
  rw [q,hT] at hb;injection hb with hb;subst hb;exact hnf ts hdT
 refine noteEntry (s:={ s with heap:=s.heap.update T (Obj.mapFields (·.setIfInBounds 3 Value.none)) }) hfr (hl.of_keeps fun b o hb hnf=>⟨o,(other b (rec' b o hb hnf)).trans hb,rfl⟩) hf ((other e (Ne.symm hTe)).trans he)
  (fun b o hbo=>(other b fun q=>by rw [q,hnT] at hbo;cases hbo).trans (hkb b o hbo)) hen hd (Array.getElem?_eq_some_iff.mp h1).1
  fun h' x1 x2 x3 x4=>h h' ⟨x1,hen,x2,x3⟩ fun b o hb hnf=>x4 b o ((other b (rec' b o hb hnf)).trans hb) hnf
theorem set_down {base:Heap} {l:List Env} {e:Addr} {cls fl:Value} {dd:Option Addr} {cx:Option Value} {Q:Unit->Shared->Prop}
  (hkb:base.StaysIn s.heap) (hen:base.get? e=none) (hl:s.heap.FunFrames base l) (ht:TrD s.heap base e cls fl dd cx)
  (h:∀ h',FlyD base l e cls dd cx h'->s.heap.UpToSlots h'->Q () { s with heap:=h' }):wpAny M A (setFlight (.ref e) none) Q E s:=by
 obtain ⟨oe,vs,T,oT,ts,he,hcls,hd,h1,hnT,hTe,hT,hdT,h3⟩:=ht
 have hsz3:3<ts.size:=(Array.getElem?_eq_some_iff.mp h3).1
 have other:∀ b,b≠T->(s.heap.update T (Obj.mapFields (·.setIfInBounds 3 ((none:Option Addr).elim Value.none fun f=>rawInt f)))).get? b=s.heap.get? b :=
  fun b hb=>Heap.get?_update_other _ _ (Ne.symm hb)
 have rec':∀ b o,s.heap.get? b=some o->(∀ vs,o.data≠.fields vs)->b≠T:=fun b o hb hnf q=>by
  rw [q,hT] at hb;injection hb with hb;subst hb;exact hnf ts hdT
 unfold setFlight
 refine wpAny_bind (wpAny_field he hd h1 ?_)
 rw [if_pos (show (Value.ref T != Value.none)=true from by simp)]
 refine wpAny_setField hT hdT hsz3 (h _ ⟨fun b o hbo=>(other b fun q=>by rw [q,hnT] at hbo;cases hbo).trans (hkb b o hbo),hen,
  hl.of_keeps fun b o hb hnf=>⟨o,(other b (rec' b o hb hnf)).trans hb,rfl⟩,?_⟩ fun b o hb hnf=>⟨o.slots,(other b (rec' b o hb hnf)).trans hb⟩)
 exact ⟨oe,vs,T,_,_,(other e (Ne.symm hTe)).trans he,hcls,hd,h1,hnT,hTe,Heap.get?_update_self _ hT (Obj.isFreed_of_fields (Obj.data_mapFields hdT _)),Obj.data_mapFields hdT _,by simp [hsz3]⟩
theorem landsD {base:Heap} {l:List Env} {e L:Addr} {cls:Value} {dd:Option Addr} {cx:Option Value} {Q:Unit->Shared->Prop} (hh:HeldD base l e cls dd cx L s.heap)
  (h:∀ h',FlyD base l e cls dd cx h'->s.heap.UpToSlots h'->Q () { s with heap:=h' }):wpAny M A (setFlight (.ref e) none) Q E s:=set_down hh.1 hh.2.1 hh.2.2.1 hh.2.2.2 h
theorem lands_againD {base:Heap} {l:List Env} {e:Addr} {cls:Value} {dd:Option Addr} {cx:Option Value} {Q:Unit->Shared->Prop} (hh:FlyD base l e cls dd cx s.heap)
  (h:∀ h',FlyD base l e cls dd cx h'->s.heap.UpToSlots h'->Q () { s with heap:=h' }):wpAny M A (setFlight (.ref e) none) Q E s:=set_down hh.1 hh.2.1 hh.2.2.1 hh.2.2.2 h
theorem FlyD.out {base h:Heap} {env:Env} {outer:List Env} {e:Addr} {cls:Value} {dd:Option Addr} {cx:Option Value} (x:FlyD base (env::outer) e cls dd cx h):FlyD base outer e cls dd cx h:=by
 obtain ⟨k1,k2,⟨_,_,k3⟩,k4⟩:=x
 exact ⟨k1,k2,k3,k4⟩
theorem leaves_onD {base:Heap} {env:Env} {outer:List Env} {L e:Addr} {cls:Value} {dd:Option Addr} {cx:Option Value} {Q:Unit->Shared->Prop}
  (hfr:A.frames=some (env::outer)) (hf:env.frame=some L) (hfl:FlyD base (env::outer) e cls dd cx s.heap)
  (h:∀ h',FlyD base outer e cls dd cx h'->s.heap.UpToSlots h'->Q () { s with heap:=h' }):wpAny M A (leaving env (.ref e)) Q E s:=by
 unfold leaving
 refine wpAny_bind (note_on hfr hf hfl fun h1 hh up=>?_)
 exact landsD (s:={ s with heap:=h1 }) hh fun h2 f2 up2=>h h2 f2.out (up.trans up2)
theorem leaves_firstD {base:Heap} {env:Env} {outer:List Env} {L e:Addr} {oe:Obj} {vs:Array Value} {Q:Unit->Shared->Prop}
  (hfr:A.frames=some (env::outer)) (hl:s.heap.FunFrames base (env::outer)) (hf:env.frame=some L)
  (he:s.heap.get? e=some oe) (hkb:base.StaysIn s.heap) (hen:base.get? e=none) (hd:oe.data=.fields vs) (h1:vs[1]?=some .none)
  (h:∀ h',FlyD base outer e oe.cls oe.dict vs[2]? h'->s.heap.UpToSlots h'->Q () { s with heap:=h' }):wpAny M A (leaving env (.ref e)) Q E s:=by
 unfold leaving
 refine wpAny_bind (note_first hfr hl hf he hkb hen hd h1 fun h1 hh up=>?_)
 exact landsD (s:={ s with heap:=h1 }) hh fun h2 f2 up2=>h h2 f2.out (up.trans up2)
end
end L2
namespace L2
open PySem PySem.Spec PyProof.Rows
noncomputable abbrev bmVE:List Value:=[.type "ValueError",.type "Exception",.type "BaseException",.type "object"]
noncomputable abbrev bmEX:List Value:=[.type "Exception",.type "BaseException",.type "object"]
noncomputable def refsThen:Nat->List Value->Bool
 | 0,l=>l == bmVE||l == bmEX
 | n+1,.ref _::r=>refsThen n r
 | _+1,_=>false
theorem refuse_exc (self:Value):∀ (n:Nat) (l:List Value),refsThen n l=true->refuseLoop self "__setattr__" l=pure ()
 | 0,l,e=>by
  rcases Bool.or_eq_true_iff.mp e with e | e
  ·rw [show l=bmVE from beq_iff_eq.mp e];exact PySem.F.store_ValueError.passes self
  ·rw [show l=bmEX from beq_iff_eq.mp e];exact PySem.F.store_Exception.passes self
 | n+1,[],e=>by cases e
 | n+1,v::r,e=>by cases v<;>first | (rw [refuseLoop_ref];exact refuse_exc self n r e) | cases e
theorem exc_obj:∀ (n:Nat) (l:List Value),refsThen n l=true->l.contains (.type "object")=true
 | 0,l,e=>by
  rcases Bool.or_eq_true_iff.mp e with e | e
  ·rw [show l=bmVE from beq_iff_eq.mp e];rfl
  ·rw [show l=bmEX from beq_iff_eq.mp e];rfl
 | n+1,[],e=>by cases e
 | n+1,v::r,e=>by cases v<;>first | (rw [List.contains_cons,exc_obj n r e,Bool.or_true]) | cases e
structure ICls (K:PySem.W.Frag) (C:Addr):Prop where
 po:∃ n,(PySem.W.clsIn K C).any (fun cd=>refsThen n cd.mro)=true
 sa:PySem.W.findIn K (.ref C) "__setattr__"=some (some (.builtin "object.__setattr__"))
 hd:PySem.W.hasDictIn K C=true
section
variable {prog:Program} {w:World} {A:Around} {E:Value->Shared->Prop} {s:Shared} {K:PySem.W.Frag} {x C:Addr} {name:Str} {v:Value}
open PySem.W PySem.Calls Builtin Builtin.ObjectAttr in
theorem osa_exc {R:Result->Shared->Prop} {ox:Obj} {od:Option Obj} {tk:Tok} (X:K.In s.heap) (I:PySem.W.InstAt s.heap x ox C od) (c:ICls K C) (ht:takerIn K C name=some none)
  (h:∀ b,wpAny (model prog w) A.in1 (storeInOwnDict (.ref x) (.ref C) (.str name tk) name v b)
   (fun fin s'=>match fin with | .done f=>R (.ok f) s' | .again c'=>c'.quiet=true/\codeAny (model prog w) A c' R s') (fun e s'=>R (.error e) s') s) :
  codeAny (model prog w) A (.call (.builtin "object.__setattr__") ⟨[.ref x,.str name tk,v],[]⟩) R s:=by
 have SF:=PySem.F.store_object
 obtain ⟨pn,hpo⟩:=c.po
 obtain ⟨cd,hc,ho⟩:=any_some hpo
 have ne:cd.mro.isEmpty=false:=by cases q:cd.mro with | nil=>(rw [q] at ho;cases pn<;>cases ho) | cons _ _=>rfl
 have sub:Looks (model prog w) s.heap (isInstance (.ref x) (.type "object")) true:=I.type.andThen (looks_mroIn X (by unfold mroIn;rw [hc,Option.bind_some,if_neg (by rw [ne];decide),exc_obj _ _ ho]))
 refine codeAny_call_builtin SF.slot.plain SF.entry (@check_slot (model prog w) _ _ s "object.__setattr__" "object" "__setattr__" (.ref x) [.str name tk,v] [] _ SF.kind SF.split sub (SF.args (.ref x) (.str name tk) v) ?_)
 obtain ⟨attr,ha,hr⟩:=Option.bind_eq_some_iff.mp ht
 have hm:Looks (model prog w) s.heap (mroOf (.ref C)) cd.mro:=(looks_clsIn X hc).andThen .now
 have L3:Looks (model prog w) s.heap (storeTaker? attr) none:=by
  cases attr with
  | none=>exact .now
  | some a =>
   obtain ⟨b,hb,e⟩:=Option.map_eq_some_iff.mp hr
   refine (looks_takesIn X hb).andThen ?_
   cases b
   ·exact .now
   ·cases e
 rw [osa_eq,refuse_eq]
 refine wpAny_bind (wpAny_bind (I.type.here (wpAny_bind (hm.here ?_))))
 rw [refuse_exc _ _ _ ho]
 refine wpAny_pure (wpAny_bind (I.type.here (wpAny_bind ((looks_findIn X ha).here (wpAny_bind (L3.here ?_))))))
 exact h _
noncomputable def ExcN (e C t:Addr) (dd:Option Addr) (h:Heap):Prop:=h.get? e=some { cls:=.ref C,dict:=dd,data:=.fields #[.ref t,.none,.none,.none,.bool false,.none] }
open PySem.W PySem.Calls Builtin Builtin.ObjectAttr in
theorem set_exc1 {t:Addr} {Q:Unit->Shared->Prop} (X:K.In s.heap) (I:ExcN x C t none s.heap) (c:ICls K C) (ht:takerIn K C name=some none)
  (h:∀ h',h'.Ns1 s.heap.objs.size (fun y=>if y=name then some v else none)->ExcN x C t (some s.heap.objs.size) h'->(∀ b o,b≠x->s.heap.get? b=some o->h'.get? b=some o)->Q () { s with heap:=h',toks:=s.toks+2 }) :
  wpAny (model prog w) A (setAttr (.ref x) name v) Q E s:=by
 have J:PySem.W.InstAt s.heap x { cls:=.ref C,dict:=none,data:=.fields #[.ref t,.none,.none,.none,.bool false,.none] } C none:=⟨I,rfl,rfl,True.intro⟩
 refine set_plain X J c.sa (osa_exc (s:={ s with toks:=s.toks+1 }) X J c ht fun b=>?_)
 obtain ⟨cd,hc,hd'⟩:=any_some c.hd
 refine wpAny_bind (wpAny_pure (wpAny_bind (wpAny_bind (wpAny_loadPart (s:={ s with toks:=s.toks+1 }) I (wpAny_bind (Looks.here (s:={ s with toks:=s.toks+1 }) (looks_clsIn X hc) ?_))))))
 rw [hd']
 rw [if_neg (by decide)]
 dsimp only
 refine wpAny_bind (wpAny_alloc ?_)
 have hx:({ s with toks:=s.toks+1 }:Shared).heap.get? x=some { cls:=.ref C,dict:=none,data:=.fields #[.ref t,.none,.none,.none,.bool false,.none] }:=I
 have hx₁:=Heap.get?_push_of_some { cls:=.type "dict",data:=.dict #[] } hx
 refine wpAny_bind (wpAny_update hx₁ (wpAny_pure ?_))
 have hxs:x≠s.heap.objs.size:=Nat.ne_of_lt (Heap.lt_size hx)
 refine wpAny_bind (wpAny_pure (wpAny_bind ?_))
 generalize hfo:(fun o:Obj=>{ cls:=o.cls,dict:=some s.heap.objs.size,data:=o.data,slots:=o.slots:Obj })=fo
 have hgd:((s.heap.push { cls:=.type "dict",data:=.dict #[] }).update x fo).get? s.heap.objs.size=some { cls:=.type "dict",data:=.dict #[] } :=
  (Heap.get?_update_ne _ _ _ _ hxs.symm).trans (Heap.get?_push_at rfl rfl)
 have hnd:((s.heap.push { cls:=.type "dict",data:=.dict #[] }).update x fo).Ns s.heap.objs.size (fun _=>none):=⟨_,#[],_,hgd,rfl,fun e he=>absurd he (by simp),fun _=>rfl⟩
 refine wpAny_nsSet1 (s:={ s with heap:=(s.heap.push { cls:=.type "dict",data:=.dict #[] }).update x fo,toks:=s.toks+1 }) (Heap.Ns1.of_empty hnd) fun h' hn' hs=>?_
 obtain ⟨oD,esD,epD,hoD,hdD,hcD⟩:=hn'.count (Within.cons name v Within.nil)
 refine wpAny_bind (wpAny_lookBehind hoD (by rw [hdD];exact pastItsLine_dict (Nat.le_trans hcD (by rw [List.length_cons,List.length_nil,sizeLine_eq];omega))) ?_)
 refine wpAny_pure (h h' hn' ?_ fun b o hb q=>?_)
 ·refine (hs.2 x hxs).trans ((Heap.get?_update_self _ hx₁ ?_).trans ?_)
  ·subst hfo;rfl
  ·subst hfo;rfl
 ·exact (hs.2 b (Nat.ne_of_lt (Heap.lt_size q))).trans ((Heap.get?_update_ne _ _ _ _ hb).trans (Heap.get?_push_of_some _ q))
open PySem.W PySem.Calls Builtin Builtin.ObjectAttr in
theorem set_exc2 {t dx:Addr} {mA:Str->Option Value} {ns:List Str} {Q:Unit->Shared->Prop} (X:K.In s.heap) (I:ExcN x C t (some dx) s.heap) (N:s.heap.Ns1 dx mA) (ne:dx≠x) (hw:PySem.Within mA ns) (hsz:ns.length<=1000) (c:ICls K C) (ht:takerIn K C name=some none)
  (h:∀ h',h'.Ns1 dx (fun y=>if y=name then some v else mA y)->Heap.SameBut dx s.heap h'->Q () { s with heap:=h',toks:=s.toks+2 }) :
  wpAny (model prog w) A (setAttr (.ref x) name v) Q E s:=by
 obtain ⟨od,ho,_⟩:=lookIn_ns N
 have J:PySem.W.InstAt s.heap x { cls:=.ref C,dict:=some dx,data:=.fields #[.ref t,.none,.none,.none,.bool false,.none] } C (some od):=⟨I,rfl,rfl,ho⟩
 refine set_plain X J c.sa (osa_exc (s:={ s with toks:=s.toks+1 }) X J c ht fun b=>?_)
 obtain ⟨cd,hc,hd'⟩:=any_some c.hd
 refine wpAny_bind (wpAny_pure (wpAny_bind (wpAny_bind (wpAny_loadPart (s:={ s with toks:=s.toks+1 }) I (wpAny_bind (Looks.here (s:={ s with toks:=s.toks+1 }) (looks_clsIn X hc) ?_))))))
 rw [hd']
 refine wpAny_pure (a:=some dx) (wpAny_bind (wpAny_pure (wpAny_bind ?_)))
 refine wpAny_nsSet1 (s:={ s with toks:=s.toks+1 }) N fun h' hn2 hs2=>?_
 obtain ⟨oD,esD,epD,hoD,hdD,hcD⟩:=hn2.count (PySem.Within.cons name v hw)
 refine wpAny_bind (wpAny_lookBehind hoD (by rw [hdD];exact pastItsLine_dict (Nat.le_trans hcD (by rw [List.length_cons,sizeLine_eq];omega))) ?_)
 exact wpAny_pure (h _ hn2 hs2)
end
theorem ns_some_of {K:PySem.W.Frag} {h:Heap} {N:Addr} {mg:Str->Option Value} {n:Str} {v:Value} (X:K.In h) (G:h.Ns N mg) (e:PySem.W.nsIn K N n=some (some v)):mg n=some v:=by
 obtain ⟨o,es,ep,ho,hd,_,hf⟩:=G
 unfold PySem.W.nsIn at e
 split at e
 case h_2=>cases e
 case h_1 c d es' n' sl q =>
  have:=X _ _ q
  rw [ho] at this
  cases this
  cases hd
  split at e
  case h_1 en he =>
   cases e
   rw [<- hf]
   unfold nsFind findBy
   rw [<- Array.find?_toList,he]
   rfl
  case h_2=>split at e<;>cases e
noncomputable def excInI (K:PySem.W.Frag) (C:Addr) (bmB:List Value) (newId:String) (f:Addr):Bool:=match K.lookup C with
 | some ⟨.type "type",_,.cls cd,sl⟩=>(match cd.mro,sl.toList with
  | .ref C'::bm,[_,_,_,_,some (.builtin n),_]=>C' == C&&n == newId&&!cd.hasDel&&PySem.W.tailIn K bmB bm&&PySem.W.nsOkIn K cd.ns&&PySem.W.nsIn K cd.ns "__init__" == some (some (.ref f))
  | _,_=>false)
 | _=>false
theorem own_of_KI {K:PySem.W.Frag} {h:Heap} {C f:Addr} {bmB:List Value} {newId:String} (X:K.In h) (q:excInI K C bmB newId f=true) :
  ∃ bm N nm q bs hdct sn sub ab col dd k0 k1 k2 k3 k5 mN,h.get? C=some (excClassObj nm q C N bs bm hdct sn sub ab col dd k0 k1 k2 k3 k5 newId)/\h.Ns N mN/\mN "__init__"=some (.ref f)/\OwnTail h bmB bm:=by
 unfold excInI at q
 split at q
 case h_2=>cases q
 case h_1 dd cd sl ho =>
  split at q
  case h_2=>cases q
  case h_1 C' bm k0 k1 k2 k3 n k5 hm hs =>
   simp only [Bool.and_eq_true,beq_iff_eq,Bool.not_eq_true'] at q
   obtain ⟨⟨⟨⟨⟨e1,e2⟩,e3⟩,e4⟩,e5⟩,e6⟩:=q
   cases cd
   cases sl
   simp only at hm hs e3 e5 e6
   subst e1 e2 e3 hm hs
   have G:=Heap.Ns.of_isNs (PySem.W.isNs_of_in X e5)
   exact ⟨_,_,_,_,_,_,_,_,_,_,_,_,_,_,_,_,_,X _ _ ho,G,ns_some_of X G e6,PySem.W.tail_of_in X e4⟩
section
variable {prog:Program} {w:World} {A:Around} {E:Value->Shared->Prop} {h:Heap} {g:Array GenState} {d:Drawn} {t:Nat} {os:OsState}
variable {nm q:Str} {C N:Addr} {bs bm bmB:List Value} {hdct:Bool} {sn:List Str} {sub:List Value} {ab:Bool} {col:Option Bool} {dd:Option Addr} {k0 k1 k2 k3 k5:Option Value} {B newId initId:String}
theorem made_init (F:ExcBaseFacts B newId initId bmB) (T:OwnTail h bmB bm) {mN:Str->Option Value} {rest:List Value} {fI:Addr} {oI:Obj} {Q:Fin->Shared->Prop}
  (hC:h.get? C=some (excClassObj nm q C N bs bm hdct sn sub ab col dd k0 k1 k2 k3 k5 newId)) (hn:h.Ns N mN) (hi:mN "__init__"=some (.ref fI)) (hfI:h.get? fI=some oI) (hfc:oI.cls=.type "function")
  (hq:∀ h' e,Heap.MadeExcOf h h' e (.ref C) rest ->
   wpAny (model prog w) A (call (.ref fI) (.ref e::rest)) (fun r s'=>r=.none/\Q (.done (.ret (.ref e))) s') E ⟨h',g,d,t,os⟩) (hrest:rest.length<=sizeLine) :
  wpAny (model prog w) A (Builtin.«type.__call__» ⟨.ref C::rest,[]⟩) Q E ⟨h,g,d,t,os⟩:=by
 repeat (first | with_reducible refine wpAny_loadPart_at hC ?_ | with_reducible refine wpAny_madeBy_exc hC ?_ | wp_step)
 refine codeAny_call_builtin_code (Code.quiet_builtin _ F.quiet) (wpAny_check_new_subT F T hC ?_)
 refine codeAny_exc_new_subT F T hC ?_ hrest
 show wpAny _ _ _ _ _ _
 have kp:∀ b o,h.get? b=some o->((h.push { cls:=.type "tuple",data:=.seq rest.toArray }).push { cls:=.ref C,data:=.fields #[.ref h.objs.size,.none,.none,.none,.bool false,.none] }).get? b=some o :=
  fun b o e=>Heap.get?_push_of_some _ (Heap.get?_push_of_some _ e)
 have hC₁:=kp _ _ hC
 have hfI₁:=kp _ _ hfI
 have hn₁:=hn.keeps kp
 have hget:((h.push { cls:=.type "tuple",data:=.seq rest.toArray }).push
   { cls:=.ref C,data:=.fields #[.ref h.objs.size,.none,.none,.none,.bool false,.none] }).get? (h.objs.size+1)=some
   { cls:=.ref C,data:=.fields #[.ref h.objs.size,.none,.none,.none,.bool false,.none] }:=by heap_get
 have hcC:(Value.ref C::bm).contains (.ref C)=true:=by simp
 have T₁:=T.keeps kp
 unfold isInstance
 repeat (first | with_reducible refine wpAny_loadPart_at hget ?_ | (with_reducible refine wpAny_isSubtype_exc hC₁ ?_;rw [hcC]) | wp_step)
 show wpAny _ _ (typeLookup (.ref C) _) _ _ _
 refine wpAny_typeLookup_tail hC₁ hn₁ T₁ F.mroIs F.init.lookup ?_
 rw [hi]
 refine wpAny_holding (wpAny_bind ?_)
 unfold bindSpecial
 refine wpAny_bind (wpAny_typeOf (T:="function") ⟨_,hfI₁,hfc⟩ ?_)
 rw [if_pos (by decide)]
 refine wpAny_pure (wpAny_bind (wpAny_mono (hq _ (h.objs.size+1) ⟨kp,Heap.get?_none_of_le (Nat.le_succ _),h.objs.size,hget,Heap.get?_none_of_le (Nat.le_refl _),?_⟩) (fun r s' hr=>?_) fun _ _ x=>x))
 ·exact Heap.get?_push_of_some _ (Heap.get?_push_at rfl rfl)
 ·obtain ⟨rfl,hQ⟩:=hr
  wp_walk
  exact hQ
theorem call_init (F:ExcBaseFacts B newId initId bmB) (T:OwnTail h bmB bm) {mN:Str->Option Value} {rest:List Value} {fI:Addr} {oI:Obj} {Q:Value->Shared->Prop}
  (hC:h.get? C=some (excClassObj nm q C N bs bm hdct sn sub ab col dd k0 k1 k2 k3 k5 newId)) (hn:h.Ns N mN) (hi:mN "__init__"=some (.ref fI)) (hfI:h.get? fI=some oI) (hfc:oI.cls=.type "function")
  (hq:∀ h' e,Heap.MadeExcOf h h' e (.ref C) rest ->
   wpAny (model prog w) (A.under (.builtin "type.__call__" ⟨.ref C::rest,[]⟩)) (call (.ref fI) (.ref e::rest)) (fun r s'=>r=.none/\Q (.ref e) s') E ⟨h',g,d,t,os⟩) (hrest:rest.length<=sizeLine) :
  wpAny (model prog w) A (call (.ref C) rest) Q E ⟨h,g,d,t,os⟩:=by
 have f1:=tc_lookup
 have f2:=tc_bind (.ref C)
 have hT:(⟨h,g,d,t,os⟩:Shared).TypeIs (.ref C) "type":=⟨_,hC,rfl⟩
 refine wpAny_call (codeAny_of_tree ?_)
 show wpAny _ _ (callAny (.ref C) _) _ _ _
 repeat (any_goals (first | assumption | with_reducible refine wpAny_loadPart_at hC ?_ | wp_step))
 refine ⟨rfl,?_⟩
 refine codeAny_call_builtin_at (Code.quiet_builtin _ (by decide +kernel)) entry_typeCall (wpAny_check_type_call_sub hC (made_init (hrest:=hrest) F T hC hn hi hfI hfc fun h' e hm=>?_))
 exact hq h' e hm
end
section
variable {M:Model} {A:Around} {E:Value->Shared->Prop} {env:Env}
variable {nm q:Str} {C N:Addr} {bs bm:List Value} {hdct:Bool} {sn:List Str} {sub:List Value} {ab:Bool} {col:Option Bool} {dd:Option Addr} {k0 k1 k2 k3 k5:Option Value} {newId:String}
theorem raised_made {s:Shared} {x:Sem Value} {Q:Flow->Shared->Prop} (hbase:bm.contains (.type "BaseException")=true) (hh:A.handled=none)
  (h:wpAny M A x (fun v s₁=>∃ e t ed,v=.ref e/\s₁.heap.get? C=some (excClassObj nm q C N bs bm hdct sn sub ab col dd k0 k1 k2 k3 k5 newId)/\ExcN e C t ed s₁.heap/\E (.ref e) s₁) E s) :
  wpAny M A (raiseStmt env (some x) none) Q E s:=by
 have hcB:(Value.ref C::bm).contains (.type "BaseException")=true:=by rw [List.contains_cons,hbase,Bool.or_true]
 unfold raiseStmt
 refine wpAny_bind (wpAny_mono h (fun v s₁ h₁=>?_) fun _ _ x=>x)
 obtain ⟨e,t,ed,rfl,hC,he,hE⟩:=h₁
 obtain ⟨hp,g,d,tk,os⟩:=s₁
 unfold ExcN at he
 repeat (first | with_reducible refine wpAny_loadPart_at he ?_ | with_reducible refine wpAny_loadPart_at hC ?_ | (with_reducible refine wpAny_isSubtype_exc hC ?_;rw [hcB]) | wp_step)
 exact wpAny_raiseNew_none hh hE
end
end L2
namespace L2
open PySem PySem.Spec PyProof.Rows
section
variable {prog:Program} {w:World} {A:Around} {E:Value->Shared->Prop} {s:Shared} {env:Env}
variable {nm q:Str} {C N:Addr} {bs bm bmB:List Value} {hdct:Bool} {sn:List Str} {sub:List Value} {ab:Bool} {col:Option Bool} {dd:Option Addr} {k0 k1 k2 k3 k5:Option Value} {B newId initId:String}
theorem raise_init (F:ExcBaseFacts B newId initId bmB) {mN:Str->Option Value} {fI:Addr} {x:Str} {np cpos pos:Pos} {args:List Expr} {Q:Flow->Shared->Prop}
  (hbase:bm.contains (.type "BaseException")=true) (hh:A.handled=none) (hplain:(backTo cpos (starEach args env)).any (·.1)=false) (hi:mN "__init__"=some (.ref fI))
  (h:wpAny (model prog w) A (eval (.Name x np) env) (fun f s₁=>f=.ref C/\wpAny (model prog w) A (evalArgs (.ref C) true (backTo cpos (starEach args env)) [])
   (fun a s₂=>a.kw=[]/\a.pos.length<=sizeLine/\s₂.heap.get? C=some (excClassObj nm q C N bs bm hdct sn sub ab col dd k0 k1 k2 k3 k5 newId)/\s₂.heap.Ns N mN/\OwnTail s₂.heap bmB bm/\(∃ oI,s₂.heap.get? fI=some oI/\oI.cls=.type "function") /\
    ∀ h' e,Heap.MadeExcOf s₂.heap h' e (.ref C) a.pos->wpAny (model prog w) (A.under (.builtin "type.__call__" ⟨.ref C::a.pos,[]⟩)) (call (.ref fI) (.ref e::a.pos))
     (fun r s'=>r=.none/\(∃ t ed,s'.heap.get? C=some (excClassObj nm q C N bs bm hdct sn sub ab col dd k0 k1 k2 k3 k5 newId)/\ExcN e C t ed s'.heap)/\E (.ref e) s') E { s₂ with heap:=h' }) E s₁) E s) :
  wpAny (model prog w) A (exec (.Raise (some (.Call (.Name x np) args [] cpos)) none pos) env) Q E s:=by
 rw [arm_exec_Raise]
 refine wpAny_bind (wpAny_standAt (raised_made (C:=C) (nm:=nm) (q:=q) (N:=N) (bs:=bs) (bm:=bm) (hdct:=hdct) (sn:=sn) (sub:=sub) (ab:=ab) (col:=col) (dd:=dd) (k0:=k0) (k1:=k1) (k2:=k2) (k3:=k3) (k5:=k5) (newId:=newId) hbase hh (wpAny_bind (wpAny_mono (wpAny_Call_ofName (wpAny_mono h (fun f s₁ h₁=>?_) fun _ _ x=>x)) (fun v s₃ h₃=>wpAny_bind (wpAny_standAt (wpAny_pure h₃))) fun _ _ x=>x))))
 obtain ⟨rfl,h₁⟩:=h₁
 unfold callWith
 refine wpAny_bind (wpAny_holding (wpAny_mono h₁ (fun a s₂ h₂=>wpAny_bind (wpAny_standAt ?_)) fun _ _ x=>x))
 obtain ⟨apos,akw⟩:=a
 obtain ⟨hkw,hlen,hC,hn,T,⟨oI,ho,hoc⟩,h₂⟩:=h₂
 obtain rfl:akw=[]:=hkw
 obtain ⟨hp,g,d,tk,os⟩:=s₂
 simp only [hplain]
 refine wpAny_bind (wpAny_keeperOf_exc hC ?_)
 refine wpAny_bind (call_init (hrest:=hlen) F T hC hn hi ho hoc fun h' e hm=>wpAny_mono (h₂ h' e hm) (fun r s' ⟨hr,⟨t,ed,hC',hx⟩,hE⟩=>⟨hr,wpAny_bind (wpAny_holding (wpAny_point (wpAny_pure ?_)))⟩) fun _ _ x=>x)
 exact ⟨e,t,ed,rfl,hC',hx,hE⟩
end
noncomputable def CX2 (κ:Option Value->Prop) (P:Program) (w:World):CXT:=fun outer H s E e s'=>∃ (ea:Addr) (cls:Value) (dd:Option Addr) (cx:Option Value) (B:Heap) (H':Hp),e=.ref ea/\κ cx/\FlyD B outer ea cls dd cx s'.heap /\
 (∀ b o,s.heap.get? b=some o->b∉frs outer->∃ o',B.get? b=some o')/\(∀ a o,H' a=some o->∃ ob,B.get? a=some ob)/\s'.os=s.os/\AllBare s'.gens/\Un (frs outer) [] H H' s.heap s'.heap/\HOk P w H' s'.heap/\E cls dd H'
section
variable {X:Cx} {pins:List (Addr × Obj)} {σ:St} {H H':Hp} {s s':Shared} {B h'':Heap}
theorem lands2 (b:Body X) (I:Inv X pins σ H s) (un:Un (L2.frs X.stack) [] H H' s.heap s'.heap) (hok:HOk X.prog X.w H' s'.heap) (os:s'.os=s.os) (bare:AllBare s'.gens)
  (hB1:B.StaysIn s'.heap) (hB2:B.StaysIn h'') (up:s'.heap.UpToSlots h'') (fr:∀ c∈L2.frs X.stack,∃ o,s'.heap.get? c=some o/\∀ vs,o.data≠.fields vs)
  (inB:∀ c o,X.s₀.heap.get? c=some o->c∉X.fs->∃ o',B.get? c=some o') (pres:∀ c o,s.heap.get? c=some o->H c=none->c∉L2.frs X.stack->∃ o',B.get? c=some o') (trk:∀ a o,H' a=some o->∃ ob,B.get? a=some ob):Inv X pins σ H' { s' with heap:=h'' }:=by
 have I':Inv X pins σ H' s':=I.call' os un hok bare fun c hc=>absurd hc (by simp)
 have same:∀ c o,s'.heap.get? c=some o->(∃ o',B.get? c=some o')->h''.get? c=some o:=fun c o e ⟨o',eb⟩=>by
  have:=hB1 c o' eb
  rw [e] at this
  cases this
  exact hB2 c _ eb
 have fsub:∀ c∈X.fs,c∈L2.frs X.stack:=fun c hc=>by rw [b.frs];exact List.mem_cons_of_mem _ hc
 refine ⟨I'.ok,I'.os,I'.bare,⟨fun c o q n hb hx=>same c o (I'.base.keep c o q n hb hx) (inB c o q hb),fun c o q n hb hx=>?_,I'.base.free,fun c o q hx=>?_,I'.base.tups,I'.base.frzs,I'.base.tbls⟩,?_,fun x c e=>?_,I'.free,I'.freeC,fun p hp=>?_,fun a o e=>?_,I'.len⟩
 ·obtain ⟨sl,e1⟩:=I'.base.slot c o q n hb hx
  obtain ⟨o1,e2,nd⟩:=fr c (fsub c hb)
  rw [e1] at e2
  cases e2
  obtain ⟨sl',e3⟩:=up c _ e1 nd
  exact ⟨sl',e3⟩
 ·by_cases hb:c∈X.fs
  ·obtain ⟨o1,e2,nd⟩:=fr c (fsub c hb)
   obtain ⟨sl',e3⟩:=up c _ e2 nd
   exact ⟨_,e3⟩
  ·obtain ⟨o',eb⟩:=inB c o q hb
   exact ⟨o',hB2 c o' eb⟩
 ·obtain ⟨m,hn,hl⟩:=I'.loc
  refine ⟨m,up.ns hn,fun i x v e1 e2 e3=>?_⟩
  obtain ⟨u,r,lk⟩:=hl i x v e1 e2 e3
  refine ⟨u,r,?_⟩
  rcases lk with z | ⟨k,c,ec,oc,hc,hd⟩
  ·exact .inl z
  ·obtain ⟨v0,o0,ho0,_⟩:=I.cell x c ec
   exact .inr ⟨k,c,ec,oc,same c oc hc (pres c o0 ho0 (I.freeC x c ec) (b.cell I ec)),hd⟩
 ·obtain ⟨v1,o1,ho1,hd1⟩:=I'.cell x c e
  obtain ⟨v0,o0,ho0,_⟩:=I.cell x c e
  exact ⟨v1,o1,same c o1 ho1 (pres c o0 ho0 (I.freeC x c e) (b.cell I e)),hd1⟩
 ·obtain ⟨e,n,ne,nf,d⟩:=I'.pin p hp
  obtain ⟨e0,n0,_⟩:=I.pin p hp
  refine ⟨same p.1 p.2 e (pres p.1 p.2 e0 n0 ?_),n,ne,nf,d⟩
  rw [b.frs]
  intro hm
  rcases List.mem_cons.mp hm with z | z
  ·exact ne z
  ·exact nf z
 ·refine (I'.hok a o e).stay (fun c u hc q=>same c u q ?_) (fun _ q=>q) fun _ _ q=>q
  rcases hc with rfl | hc
  ·exact trk _ _ e
  ·exact trk _ _ hc
end
noncomputable def del (H:Hp) (a:Addr):Hp:=fun b=>if b=a then none else H b
theorem del_ne {H:Hp} {a b:Addr} (h:b≠a):del H a b=H b:=if_neg h
theorem del_same {H:Hp} {a:Addr}:del H a a=none:=if_pos rfl
noncomputable def excN (e C t:Addr) (dd:Option Addr):HO:=.ext (ExcN e C t dd)
theorem excN_ok {P:Program} {w:World} {H:Hp} {h:Heap} {e C t:Addr} {dd:Option Addr} (p:ExcN e C t dd h):ObjOk P w H h e (excN e C t dd):=⟨p,⟨_,p⟩,fun _ _ q k=>k _ q⟩
noncomputable def XdAt (dx:Addr) (fs:List (Str × V)) (h:Heap):Prop:=∃ mA,h.Ns1 dx mA/\∀ f,RelO (fs.lookup f) (mA f)
noncomputable def xdO (dx:Addr) (fs:List (Str × V)):HO:=.ext (XdAt dx fs)
theorem XdAt.obj {dx:Addr} {fs:List (Str × V)} {h:Heap} (p:XdAt dx fs h):∃ o,h.get? dx=some o:=by obtain ⟨_,⟨o,_,_,e,_⟩,_⟩:=p;exact ⟨o,e⟩
theorem xd_ok {P:Program} {w:World} {H:Hp} {h:Heap} {dx:Addr} {fs:List (Str × V)} (p:XdAt dx fs h):ObjOk P w H h dx (xdO dx fs):=⟨p,p.obj,fun _ _ hsl58 k=>by obtain ⟨mA,n,r⟩:=hsl58;exact ⟨mA,n.at k,r⟩⟩
section
variable {P:Program} {w:World} {K:PySem.W.Frag} {mg:Str->Option Value} {base:Heap} {N:List Str} {qual:Str} {scope:Scope} {f:Addr} {cd:Value} {A:Around} {outer:List Env} {s₀:Shared} {H₀:Hp} {E:XK}
theorem pass2 {κ κ':Option Value->Prop} (hκ:∀ cx,κ' cx->κ cx):Passes (CX2 κ' P w) (cxOf (CX2 κ P w) P w K mg base N qual scope f cd A outer s₀ H₀ E) E:=by
 intro pins σ H s e s' I h
 obtain ⟨ea,cls,dd,cx,B,H',rfl,hc,fl,pres,trk,os,bare,un,hok,q⟩:=h
 have bd:=body_cx (CX:=CX2 κ P w) (P:=P) (w:=w) (K:=K) (mg:=mg) (base:=base) (N:=N) (qual:=qual) (scope:=scope) (f:=f) (cd:=cd) (A:=A) (outer:=outer) (s₀:=s₀) (H₀:=H₀) (E:=E)
 refine leaves_onD I.ok.frames rfl fl fun h'' fl'' up=>?_
 have J:=lands bd I un hok os bare fl.1 fl''.1 up (frames_of fl.2.2.1) pres trk
 refine ⟨ea,cls,dd,cx,B,H',rfl,hκ _ hc,fl'',fun b o e hb=>?_,trk,J.os,J.bare,J.base,J.hok,q⟩
 obtain ⟨o1,e1⟩:=I.base.there b o e (by rw [bd.ex];simp)
 exact pres b o1 e1 (bd.old I e hb)
noncomputable def RaiseOk2 (X:Cx) (E:XK):Prop:=∀ (pins:List (Addr × Obj)) (σ:St) (H:Hp) (s:Shared) (ea C t:Addr) (dd:Option Addr),Inv X pins σ H s->H ea=some (excN ea C t dd)->X.s₀.heap.get? ea=none->E (.ref C) dd (del H ea)->X.xe (.ref ea) s
theorem raise2 {κ:Option Value->Prop} (h0:κ (some .none)):RaiseOk2 (cxOf (CX2 κ P w) P w K mg base N qual scope f cd A outer s₀ H₀ E) E:=by
 intro pins σ H s ea C t dd I ha hnew q
 have bd:=body_cx (CX:=CX2 κ P w) (P:=P) (w:=w) (K:=K) (mg:=mg) (base:=base) (N:=N) (qual:=qual) (scope:=scope) (f:=f) (cd:=cd) (A:=A) (outer:=outer) (s₀:=s₀) (H₀:=H₀) (E:=E)
 generalize hX:cxOf (CX2 κ P w) P w K mg base N qual scope f cd A outer s₀ H₀ E=X at I bd hnew
 have px:ExcN ea C t dd s.heap:=(show ObjOk X.prog X.w H s.heap ea (.ext (ExcN ea C t dd)) from I.hok ea _ ha).1
 have nst:ea∉L2.frs X.stack:=fun hm=>by rw [I.stkFree ea hm] at ha;cases ha
 have hin:∀ b o,s.heap.get? b=some o->b≠ea->b∉L2.frs X.stack->(PySem.W.hideAll s.heap (ea::L2.frs X.stack)).get? b=some o:=fun b o e n1 n2=>PySem.W.hideAll_get _ e (by intro z;rcases List.mem_cons.mp z with z | z;exact n1 z;exact n2 z)
 have hst:(PySem.W.hideAll s.heap (ea::L2.frs X.stack)).StaysIn s.heap:=fun b o e=>PySem.W.of_hideAll _ e
 have ff:s.heap.FunFrames (PySem.W.hideAll s.heap (ea::L2.frs X.stack)) X.stack:=PySem.W.funFrames_hide I.stack fun env he a hf=>List.mem_cons_of_mem _ (List.mem_filterMap.mpr ⟨env,he,hf⟩)
 have hno:(PySem.W.hideAll s.heap (ea::L2.frs X.stack)).get? ea=none:=PySem.W.hideAll_none _ List.mem_cons_self
 have dl:∀ b o,H b=some o->(∀ φ,o≠.ext φ)->del H ea b=some o:=fun b o e n=>by rw [del_ne (fun z=>n (ExcN ea C t dd) (by rw [z,ha] at e;exact (Option.some.inj e).symm))];exact e
 have un:Un (L2.frs X.stack) [] H (del H ea) s.heap s.heap:=by
  refine ⟨fun b o e _ _ _=>e,fun b o e _ _ _=>⟨o.slots,e⟩,fun b o e n _=>?_,fun b o e _=>⟨o,e⟩,fun b xs e=>dl _ _ e (fun _ z=>nomatch z),fun b o u e=>dl _ _ e (fun _ z=>nomatch z),fun b ps e=>⟨#[],by rw [Array.append_empty];exact dl _ _ e (fun _ z=>nomatch z)⟩⟩
  unfold del
  split
  ·rfl
  ·exact n
 have hok:HOk X.prog X.w (del H ea) s.heap:=fun b o e=>by
  have hb:b≠ea:=fun z=>by rw [z,del_same] at e;cases e
  rw [del_ne hb] at e
  exact (I.hok b o e).stay (fun _ _ _ z=>z) (fun c z=>dl _ _ z (fun _ z=>nomatch z)) fun c xs z=>dl _ _ z (fun _ z=>nomatch z)
 have trk:∀ a o,del H ea a=some o->∃ ob,(PySem.W.hideAll s.heap (ea::L2.frs X.stack)).get? a=some ob:=fun a o e=>by
  have hb:a≠ea:=fun z=>by rw [z,del_same] at e;cases e
  rw [del_ne hb] at e
  obtain ⟨ob,hob⟩:=obj_is I e
  exact ⟨ob,hin a ob hob hb fun hm=>by rw [I.stkFree a hm] at e;cases e⟩
 have pres:∀ b o,X.s₀.heap.get? b=some o->b∉X.fs->∃ o',(PySem.W.hideAll s.heap (ea::L2.frs X.stack)).get? b=some o':=fun b o e hb=>by
  obtain ⟨o1,e1⟩:=I.base.there b o e (by rw [bd.ex];simp)
  exact ⟨o1,hin b o1 e1 (fun z=>by rw [z,hnew] at e;cases e) (bd.old I e hb)⟩
 subst hX
 refine leaves_firstD I.ok.frames ff rfl px hst hno rfl rfl fun h'' fl up=>?_
 have J:=lands2 bd I un hok rfl I.bare hst fl.1 up (frames_of ff) pres (fun b o e n hb=>⟨o,hin b o e (fun z=>by rw [z,ha] at n;cases n) hb⟩) trk
 exact ⟨ea,.ref C,dd,some .none,_,del H ea,rfl,h0,fl,pres,trk,J.os,J.bare,J.base,J.hok,q⟩
end
section
variable {X:Cx} {pins:List (Addr × Obj)} {σ:St} {H:Hp} {s:Shared} {a C t dx:Addr} {fs:List (Str × V)} {f:Str} {A:Around} {E:Value->Shared->Prop}
theorem setx1_ok {y:V} {u:Value} {Q:Unit->Shared->Prop} (bd:Body X) (I:Inv X pins σ H s) (e:H a=some (excN a C t none)) (c:ICls X.K C) (n:NoAttr X.K C f) (ry:RelV y u)
  (h:∀ dx s',H dx=none->dx≠a->Inv X pins σ (upd (upd H a (excN a C t (some dx))) dx (xdO dx [(f,y)])) s'->Q () s'):wpAny (model X.prog X.w) A (setAttr (.ref a) f u) Q E s:=by
 have p:ExcN a C t none s.heap:=(show ObjOk X.prog X.w H s.heap a (.ext (ExcN a C t none)) from I.hok a _ e).1
 refine set_exc1 I.kIn p c n.taker fun h' N p' kp=>?_
 have hn:H s.heap.objs.size=none:=I.hok.fresh (Nat.le_refl _)
 have lt:∀ {b:Addr} {o:Obj},s.heap.get? b=some o->b≠s.heap.objs.size:=fun q=>Nat.ne_of_lt (Heap.lt_size q)
 refine h s.heap.objs.size _ hn (lt p).symm ?_
 have I1:Inv X pins σ (upd H a (excN a C t (some s.heap.objs.size))) { s with heap:=h',toks:=s.toks+2 } :=
  I.write (x:=a) (e:=a) (by rw [e];exact True.intro) (.inl rfl) (fun b q hb z=>kp b q hb z) ⟨_,p'⟩ (excN_ok p')
 refine I1.track (by rw [upd_ne (lt p).symm];exact hn) ?_ ?_ (fun x c ec z=>?_) (fun p hp z=>?_) (xd_ok ⟨_,N,fun g=>?_⟩)
 ·cases z:X.s₀.heap.get? s.heap.objs.size with
  | none=>rfl
  | some o =>
   obtain ⟨o1,e1⟩:=I.base.there _ o z (by rw [bd.ex];simp)
   exact absurd rfl (lt e1)
 ·obtain ⟨m,⟨o,_,_,eo,_⟩,_⟩:=I.loc
  exact (lt eo).symm
 ·obtain ⟨_,o0,ho0,_⟩:=I.cell x c ec
  exact lt ho0 z
 ·obtain ⟨e0,_⟩:=I.pin p hp
  exact lt e0 z
 ·show RelO (List.lookup g [(f,y)]) (if g=f then some u else none)
  by_cases q:g=f
  ·rw [if_pos q]
   simp only [List.lookup,beq_iff_eq.mpr q]
   exact ry
  ·rw [if_neg q]
   simp only [List.lookup,beq_eq_false_iff_ne.mpr q]
   exact True.intro
theorem within_of {fs:List (Str × V)} {mA:Str->Option Value} (r:∀ f,RelO (fs.lookup f) (mA f)):PySem.Within mA (fs.map (·.1)):=fun g hg=>by
 cases q:fs.lookup g with
 | none=>exact absurd (RelO.none_of (by rw [<- q];exact r g)) hg
 | some v =>
  clear r hg
  induction fs with
  | nil=>cases q
  | cons p fs ih =>
   simp only [List.lookup] at q
   split at q
   ·rename_i z
    rw [beq_iff_eq.mp z];exact List.mem_cons_self
   ·exact List.mem_cons_of_mem _ (ih q)
theorem setx2_ok {y:V} {u:Value} {Q:Unit->Shared->Prop} (I:Inv X pins σ H s) (e:H a=some (excN a C t (some dx))) (ed:H dx=some (xdO dx fs)) (ne:dx≠a) (hl:fs.length<=1000) (c:ICls X.K C) (n:NoAttr X.K C f) (ry:RelV y u)
  (h:∀ s',Inv X pins σ (upd H dx (xdO dx (putF f y fs))) s'->Q () s'):wpAny (model X.prog X.w) A (setAttr (.ref a) f u) Q E s:=by
 have p:ExcN a C t (some dx) s.heap:=(show ObjOk X.prog X.w H s.heap a (.ext (ExcN a C t (some dx))) from I.hok a _ e).1
 obtain ⟨mA,N,r⟩:XdAt dx fs s.heap:=(show ObjOk X.prog X.w H s.heap dx (.ext (XdAt dx fs)) from I.hok dx _ ed).1
 refine set_exc2 I.kIn p N ne (within_of r) (by rw [List.length_map];exact hl) c n.taker fun h' N' sb=>h _ ?_
 have xd':XdAt dx (putF f y fs) h':=⟨_,N',fun g=>by
  show RelO ((putF f y fs).lookup g) (if g=f then some u else mA g)
  rw [lookup_putF]
  by_cases q:g=f
  ·rw [if_pos q,if_pos q];exact ry
  ·rw [if_neg q,if_neg q];exact r g⟩
 exact I.write (x:=dx) (e:=dx) (by rw [ed];exact True.intro) (.inl rfl) (fun b q hb z=>(sb.2 b hb).trans z) xd'.obj (xd_ok xd')
end
noncomputable def sXfld (K:PySem.W.Frag) (ta tv:TE) (f:Str):TS:=fun D σ H=>tv σ H fun y H1=>ta σ H1 fun x H2=>∃ (a C t:Addr),x=.ref a/\ICls K C/\NoAttr K C f /\
 ((H2 a=some (excN a C t none)/\∀ dx,H2 dx=none->dx≠a->D.nx σ (upd (upd H2 a (excN a C t (some dx))) dx (xdO dx [(f,y)]))) ∨
  ∃ (dx:Addr) (fs:List (Str × V)),H2 a=some (excN a C t (some dx))/\H2 dx=some (xdO dx fs)/\dx≠a/\fs.length<=1000/\D.nx σ (upd H2 dx (xdO dx (putF f y fs))))
section
variable {X:Cx} {o e value:Expr} {f:Str} {pos pos' tpos:Pos} {ta tv:TE}
theorem ps_xfld (bd:Body X) (ha:PE X o ta) (hv:PE X value tv) (hs:swapsWith value (some (.Attribute o f pos')) pos.line X.env=pure false:=by rfl):PS X (.Assign [.Attribute o f pos'] value pos) (sXfld X.K ta tv f):=by
 intro pins s σ H D I h
 refine plainObj_wpAny_Assign_Attribute (thn (hv pins s σ H _ I h) fun u s1 ⟨y,H1,I1,ry,q⟩=>thn (ha pins s1 σ H1 _ I1 q) fun ov s2 hsl59=>?_) hs
 obtain ⟨x,H2,I2,rx,a,C,t,ex,c,n,q2⟩:=hsl59
 subst ex
 obtain rfl:ov=Value.ref a:=rx
 rcases q2 with ⟨ea,q2⟩ | ⟨dx,fs,ea,ed,ne,hl,q2⟩
 ·exact setx1_ok bd I2 ea c n ry fun dx s3 hn ne I3=>⟨σ,_,I3,q2 dx hn ne⟩
 ·exact setx2_ok I2 ea ed ne hl c n ry fun s3 I3=>⟨σ,_,I3,q2⟩
end
noncomputable def tRaiseI (E:XK) (C:Addr) (sp:Sp) (t:TA):TS:=fun _ σ H=>t σ H fun vs H1=>vs.length<=sizeLine/\∀ e tt,H1 e=none->H1 tt=none->e≠tt ->
 sp (.ref e::vs) (upd H1 e (excN e C tt none)) (fun v H2=>v=.non/\∃ dd,H2 e=some (excN e C tt dd)/\E (.ref C) dd (del H2 e)) E0
structure MkI (K:PySem.W.Frag) (C f:Addr) (bm:List Value) (newId:String):Prop where
 exc:excInI K C bm newId f=true
 fn:PySem.W.isFn K (.ref f)=true
section
variable {X:Cx}
theorem ps_raiseI {E:XK} {x:Str} {C f:Addr} {fd:FuncData} {ps:List Str} {k:Nat} {sp:Sp} {bm:List Value} {newId initId B:String} {e:Expr} {es:List Expr} {t:TA} {np cpos pos:Pos} (bd:Body X) (hR:RaiseOk2 X E) (hc:X.calm=true) (hg:Gl X x) (hm:X.mg x=some (.ref C))
  (M:MkI X.K C f bm newId) (FB:ExcBaseFacts B newId initId bm) (F:FnOk X.prog X.w X.K X.mg X.base CX0 k f fd ps sp) (hr:Room (k+1) X.A) (hb:Binds X.K fd ps []) (ha:PA X (e::es) t) (hdb:(x == ("__debug__":Str))=false:=by decide)
  (he:starEach (e::es) X.env=(false,eval e X.env)::starEach es X.env:=by rfl) (hpl:(backTo cpos (starEach es X.env)).any (·.1)=false:=by rfl):PS X (.Raise (some (.Call (.Name x np) (e::es) [] cpos)) none pos) (tRaiseI E C sp t):=by
 intro pins s σ H D I h
 obtain ⟨tl,N,nm,qn,bs,hdct,sn,sub,ab,col,dd,k0,k1,k2,k3,k5,mN,hC,hN,hni,T⟩:=own_of_KI I.ok.mod.kin M.exc
 refine raise_init (C:=C) (nm:=nm) (q:=qn) (N:=N) (bs:=bs) (bm:=tl) (hdct:=hdct) (sn:=sn) (sub:=sub) (ab:=ab) (col:=col) (dd:=dd) (k0:=k0) (k1:=k1) (k2:=k2) (k3:=k3) (k5:=k5)
  FB (mN:=mN) (T.hasType FB.hasBase) (I.ok.hd hc) (by rw [he];show (false||(backTo cpos (starEach es X.env)).any (·.1))=false;rw [hpl];rfl) hni (ld_glob I hg hm ⟨rfl,?_⟩ hdb)
 have hA:=ha cpos pins s σ H _ I h
 rw [he] at hA ⊢
 refine Calls.evalArgs_plain (thn hA fun us s1 ⟨vs,H1,I1,r1,hl,q1⟩=>⟨rfl,by rw [<- r1.length];exact hl,I1.bk _ _ hC,hN.keeps I1.bk,T.keeps I1.bk,?_,fun h' ea mx=>?_⟩)
 ·have q:=beq_iff_eq.mp M.fn
  obtain ⟨o,ho,hoc⟩:=Option.map_eq_some_iff.mp (show (X.K.lookup f).map (·.cls)=some (.type "function") from q)
  exact ⟨o,I1.kIn _ _ ho,hoc⟩
 ·obtain ⟨tt,ht,htn,htt⟩:=mx.there
  have lt:∀ {b:Addr} {o:Obj},s1.heap.get? b=some o->b≠ea:=fun q z=>by rw [z,mx.new] at q;cases q
  have none_of:∀ b,s1.heap.get? b=none->H1 b=none:=fun b hb=>by
   cases z:H1 b with
   | none=>rfl
   | some o =>
    obtain ⟨ob,hob⟩:=obj_is I1 z
    rw [hb] at hob
    cases hob
  have net:ea≠tt:=fun z=>by
   rw [z,htt] at ht
   cases ht
  have hs0:X.s₀.heap.get? ea=none:=by
   cases z:X.s₀.heap.get? ea with
   | none=>rfl
   | some o =>
    obtain ⟨o1,e1⟩:=I1.base.there _ o z (by rw [bd.ex];simp)
    exact absurd rfl (lt e1)
  have I1':Inv X pins σ H1 { s1 with heap:=h',toks:=s1.toks }:=I1.kept mx.keeps
  have I2:Inv X pins σ (upd H1 ea (excN ea C tt none)) { s1 with heap:=h',toks:=s1.toks }:=by
   refine I1'.track (none_of _ mx.new) hs0 ?_ (fun x c ec z=>?_) (fun p hp z=>?_) (excN_ok ht)
   ·obtain ⟨m,⟨o,_,_,eo,_⟩,_⟩:=I1.loc
    exact (lt eo).symm
   ·obtain ⟨_,o0,ho0,_⟩:=I1.cell x c ec
    exact lt ho0 z
   ·obtain ⟨e0,_⟩:=I1.pin p hp
    exact lt e0 z
  have hq:=q1 ea tt (none_of _ mx.new) (none_of _ htn) net
  have r2:Vals (V.ref ea::vs) (Value.ref ea::us):=.cons rfl r1
  have hl2:((Value.ref ea::us)++([]:List Value)).length=ps.length:=by
   rw [List.append_nil,<- r2.length]
   exact F.len _ _ _ _ hq
  have hbb:=hb { s1 with heap:=h',toks:=s1.toks } (Value.ref ea::us) I2.kIn hl2
  rw [List.append_nil] at hbb
  refine wpAny_call (codeAny_mono (F.run _ X.stack _ _ ⟨Value.ref ea::us,[]⟩ (Value.ref ea::us) _ _ E0 (hr.make C us []) (I2.env0.make C us []) hbb r2 hq) fun r s' hq'=>?_)
  cases r with
  | error e=>exact False.elim hq'
  | ok fl =>
   cases fl with
   | ret u =>
    obtain ⟨v,H',I3,rv,ev,dd',hx,hE⟩:=I2.after hq'
    subst ev
    have px:ExcN ea C tt dd' s'.heap:=(show ObjOk X.prog X.w H' s'.heap ea (.ext (ExcN ea C tt dd')) from I3.hok ea _ hx).1
    exact ⟨rv,⟨tt,dd',I3.bk _ _ hC,px⟩,hR pins σ H' s' ea C tt dd' I3 hx hs0 hE⟩
   | next=>exact False.elim hq'
   | brk=>exact False.elim hq'
   | cont=>exact False.elim hq'
end
end L2
namespace L2
open PySem PySem.Spec PyProof.Rows
section
variable {P:Program} {w:World} {K:PySem.W.Frag} {mg:Str->Option Value} {base:Heap} {N:List Str} {qual:Str} {scope:Scope} {f:Addr} {cd:Value} {A:Around} {outer:List Env} {s₀:Shared} {H₀:Hp} {E:XK}
theorem Fun.ok2 {κ:Option Value->Prop} {x qual:Str} {st:Stmt} {f:Addr} {fd:FuncData} {N ps:List Str} {k:Nat} {sp:Sp} (F:Fun K x qual st f fd) (S:FnScope N ps (defScope st)) (len:∀ vs H Q E,sp vs H Q E->vs.length=ps.length)
  (hbody:∀ (cdv:Value) (A:Around) (outer:List Env) (s:Shared) (H:Hp) (vs:List V) (Q:VK) (E:XK),Room k (A.deeper (envOfC qual (defScope st) s.heap.objs.size f cdv))->sp vs H Q E ->
   ∃ t,PSs (cxOf (CX2 κ P w) P w K mg base N qual (defScope st) f cdv A outer s H E) (defBody st) t/\t { nx:=fun _ H'=>Q .non H',rt:=Q } (start N vs) H):FnOk P w K mg base (CX2 κ P w) (k+1) f fd ps sp:=by
 obtain ⟨oc,od,kV,doc,pm,an,cdv,ct,osl,rfl,lk,hcd⟩:=F.ex
 exact fn_of lk hcd S len fun A outer s H vs Q E hr hsp=>hbody cdv A outer s H vs Q E hr hsp
end
noncomputable def HasD (a:Addr) (cls:Value) (dd:Option Addr) (cx:Option Value) (h:Heap):Prop:=∃ o vs,h.get? a=some o/\o.cls=cls/\o.dict=dd/\o.data=.fields vs/\vs[2]?=cx
noncomputable def excD (a:Addr) (cls:Value) (dd:Option Addr) (cx:Option Value):HO:=.ext (HasD a cls dd cx)
theorem excD_ok {P:Program} {w:World} {H:Hp} {h:Heap} {e:Addr} {cls:Value} {dd:Option Addr} {cx:Option Value} (p:HasD e cls dd cx h):ObjOk P w H h e (excD e cls dd cx) :=
 ⟨p,by obtain ⟨o,_,q,_⟩:=p;exact ⟨o,q⟩,fun _ _ hsl60 k=>by obtain ⟨o,vs,q,r⟩:=hsl60;exact ⟨o,vs,k _ q,r⟩⟩
theorem HasD.cls {a:Addr} {cls:Value} {dd:Option Addr} {cx:Option Value} {h:Heap} (p:HasD a cls dd cx h):HasCls a cls h:=by obtain ⟨o,_,q,r,_⟩:=p;exact ⟨o,q,r⟩
theorem FlyD.has {base h:Heap} {l:List Env} {e:Addr} {cls:Value} {dd:Option Addr} {cx:Option Value} (x:FlyD base l e cls dd cx h):HasD e cls dd cx h:=by
 obtain ⟨_,_,_,oe,vs,_,_,_,he,hc,hd,_⟩:=x
 exact ⟨oe,vs,he,hc.1,hc.2.1,hd,hc.2.2⟩
theorem FlyD.cls {base h:Heap} {l:List Env} {e:Addr} {cls:Value} {dd:Option Addr} {cx:Option Value} (x:FlyD base l e cls dd cx h):HasCls e cls h:=x.has.cls
noncomputable def tTryD (κ:Option Value->Prop) (K:PySem.W.Frag) (C:Addr) (i:Nat) (tb:XK->TS) (ts:TS):TS:=fun D σ H =>
 tb (fun cls dd H1=>PySem.W.exmOne K cls (.ref C)=some true/\∀ ea cx,κ cx->H1 ea=none->ts (D.unset i) (σ.set i (some (.ref ea))) (upd H1 ea (excD ea cls dd cx))) D σ H
section
variable {X:Cx}
theorem ps_tryD {κ:Option Value->Prop} {body:List Stmt} {tb:XK->TS} {x n:Str} {C:Addr} {i:Nat} {b₀:Stmt} {suite:List Stmt} {ts:TS} {np hpos pos:Pos} (bd:Body X) (hx:PSX (CX2 κ X.prog X.w) X body tb) (hg:Gl X x) (hm:X.mg x=some (.ref C))
  (hN:X.N.Nodup) (hi:X.N[i]?=some n) (hk:X.env.scope.names.lookup n=some .local) (hsu:∀ ea,PSs (X.hnd ea) (b₀::suite) ts) (hdb:(x == ("__debug__":Str))=false:=by decide) :
  PS X (.Try body [.ExceptHandler (some (.Name x np)) (some n) (b₀::suite) hpos] [] [] pos) (tTryD κ X.K C i tb ts):=by
 intro pins s σ H D I h
 refine wpAny_Try_except (thn (hx _ _ pins s σ H D ?_ I h) fun f s1 q=>?_)
 case refine_2 =>
  cases f with
  | next=>exact wpAny_execs_nil q
  | ret v=>exact q
  | brk=>exact q
  | cont=>exact q
 intro H0 s0 ev s' I0 hc
 obtain ⟨ea,cls,dd,cx,B,H',rfl,hc0,fl,pres,trk,os,bare,un,hok,hit,q⟩:=hc
 have fr:X.A.frames=some (X.env::X.outer):=by rw [<- bd.stk];exact I0.ok.frames
 have fl0:FlyD B (X.env::X.outer) ea cls dd cx s'.heap:=by rw [<- bd.stk];exact fl
 refine note_on fr bd.frm fl0 fun h1 held up1=>?_
 refine landsD (s:={ s' with heap:=h1 }) held fun h2 fl2 up2=>?_
 have J2:Inv X pins σ H' { s' with heap:=h2 }:=lands bd I0 un hok os bare fl.1 fl2.1 (up1.trans up2) (frames_of fl.2.2.1) pres trk
 refine wpAny_handleBy_cons (codeAny_handlers_test (ld_glob (J2.hnd ea) hg hm ?_ hdb)) (by intro q;cases q)
 have LT:PySem.W.Looks (model X.prog X.w) h2 (typeOf (.ref ea)) cls:=HasCls.type fl2.cls
 refine (PySem.W.exm_one (M:=model X.prog X.w) J2.kIn LT hit).here ?_
 refine codeAny_handlers_suite_as ?_
 refine lands_againD (s:={ s' with heap:=h2 }) fl2 fun h3 fl3 up3=>?_
 have J3:Inv X pins σ H' { s' with heap:=h3 }:=lands bd I0 un hok os bare fl.1 fl3.1 ((up1.trans up2).trans up3) (frames_of fl.2.2.1) pres trk
 have hBn:B.get? ea=none:=fl.2.1
 have nst:ea∉L2.frs X.stack:=fun hm=>by
  obtain ⟨o,ho,nd⟩:=frames_of fl.2.2.1 ea hm
  obtain ⟨oe,vs,_,_,_,he,_,hd,_⟩:=fl.2.2.2
  rw [ho] at he
  cases he
  exact nd _ hd
 have hn:H' ea=none:=by
  cases z:H' ea with
  | none=>rfl
  | some o =>
   obtain ⟨ob,hb⟩:=trk ea o z
   rw [hBn] at hb
   cases hb
 have hs0:s0.heap.get? ea=none:=by
  cases z:s0.heap.get? ea with
  | none=>rfl
  | some o =>
   obtain ⟨ob,hb⟩:=pres ea o z nst
   rw [hBn] at hb
   cases hb
 have hsX:X.s₀.heap.get? ea=none:=by
  cases z:X.s₀.heap.get? ea with
  | none=>rfl
  | some o =>
   obtain ⟨o1,e1⟩:=I0.base.there ea o z (by rw [bd.ex];simp)
   rw [hs0] at e1
   cases e1
 have J4:Inv X pins σ (upd H' ea (excD ea cls dd cx)) { s' with heap:=h3 }:=by
  refine J3.track hn hsX (fun z=>nst ?_) (fun y c e z=>?_) (fun p hp z=>?_) (excD_ok fl3.has)
  ·rw [bd.frs,z];exact List.mem_cons_self
  ·obtain ⟨_,o0,ho0,_⟩:=I0.cell y c e
   rw [z,hs0] at ho0
   cases ho0
  ·obtain ⟨e,_⟩:=I0.pin p hp
   rw [z,hs0] at e
   cases e
 refine store_ok (X:=X.hnd ea) (v:=.ref ea) (J4.hnd ea) hN hi (.inl hk) rfl (fun s5 J5=>?_) (.inr hk)
 refine wpAny_mono (hsu ea pins s5 _ _ (D.unset i) J5 (q ea cx hc0 hn)) (fun f s6 z=>?_) fun _ _ z=>False.elim z
 cases f with
 | next=>obtain ⟨σ6,H6,J6,q6⟩:=z;exact goes_ok (J6.unhnd I.ok) hN hi hk fun s7 J7=>⟨_,_,J7,q6⟩
 | brk=>obtain ⟨σ6,H6,J6,q6⟩:=z;exact goes_ok (J6.unhnd I.ok) hN hi hk fun s7 J7=>⟨_,_,J7,q6⟩
 | cont=>obtain ⟨σ6,H6,J6,q6⟩:=z;exact goes_ok (J6.unhnd I.ok) hN hi hk fun s7 J7=>⟨_,_,J7,q6⟩
 | ret u=>obtain ⟨v6,σ6,H6,J6,r6,q6⟩:=z;exact goes_ok (J6.unhnd I.ok) hN hi hk fun s7 J7=>⟨_,_,_,J7,r6,q6⟩
theorem excD_has {pins:List (Addr × Obj)} {σ:St} {H:Hp} {s:Shared} {a:Addr} {cls:Value} {dd:Option Addr} {cx:Option Value} (I:Inv X pins σ H s) (e:H a=some (excD a cls dd cx)):HasD a cls dd cx s.heap:=(show ObjOk X.prog X.w H s.heap a (.ext (HasD a cls dd cx)) from I.hok a _ e).1
end
end L2
namespace L2
open PySem PySem.Spec PyProof.Rows
section
variable {prog:Program} {w:World} {A:Around} {E:Value->Shared->Prop} {s:Shared} {K:PySem.W.Frag} {x D dx:Addr} {name:Str} {v:Value} {mA:Str->Option Value}
theorem HasD.inst {dx:Addr} {cx:Option Value} {h:Heap} (p:HasD x (.ref D) (some dx) cx h) {od:Obj} (ho:h.get? dx=some od):∃ ox,PySem.W.InstAt h x ox D (some od):=by
 obtain ⟨o,vs,q,hc,hd,hv,_⟩:=p
 refine ⟨o,q,hc,?_,?_⟩
 ·obtain ⟨a,b,c,d⟩:=o
  cases hv
  rfl
 ·rw [hd];exact ho
open PySem.W PySem.Calls Builtin Builtin.ObjectAttr in
theorem xc_at {expr:Bool} {cx:Option Value} {Q:Value->Shared->Prop} (c:XCls K D) (hh:PySem.W.hasDictIn K D=true) (na:NoAttr K D name) (X:K.In s.heap) (p:HasD x (.ref D) (some dx) cx s.heap) (N:s.heap.Ns1 dx mA) (hv:mA name=some v) (hv':PySem.W.handedIn v=true)
  (h:Q v { s with toks:=s.toks+1 }):wpAny (model prog w) A (getAttr (.ref x) name expr) Q E s:=by
 obtain ⟨od,ho,hl⟩:=lookIn_ns N
 obtain ⟨ox,J⟩:=p.inst ho
 have LF:=looks_find (M:=model prog w) X J (findObj_own hh na rfl (by rw [hl,hv]))
 obtain ⟨hp,g,d,t,os⟩:=s
 have L0:=p.cls.type (M:=model prog w)
 have L1:=looks_findIn (M:=model prog w) X c.hg
 have L2:=looks_findIn (M:=model prog w) X c.hk
 unfold getAttr getAttrBy
 refine wpAny_bind (wpAny_mkText (wpAny_holding (wpAny_bind (L0.at (wpAny_bind (L1.at ?_))))))
 show wpAny _ _ (getAttrByItsOwn _ _ _ _ _ _) _ _ _
 unfold getAttrByItsOwn
 refine wpAny_bind ((show Looks (model prog w) hp (hookBefore (.ref D)) none from L2).at ?_)
 refine wpAny_bind (wpAny_attempt (wpAny_holding ?_))
 unfold callGetattribute
 rw [show (expr&&onTheHeap (.builtin "BaseException.__getattribute__"))=false from by cases expr<;>rfl]
 rw [if_neg (by decide)]
 unfold boundAndCalled
 rw [F.excAttr_ValueError.ga.bind]
 refine wpAny_bind (wpAny_pure ?_)
 refine wpAny_call (codeAny_call_builtin F.excAttr_ValueError.ga.plain F.entry_bexc_ga (xc_check (s:=⟨hp,g,d,t+1,os⟩) c X p.cls ?_))
 refine wpAny_bind (wpAny_pure (wpAny_bind (wpAny_pure (wpAny_bind (L0.at (wpAny_bind (LF.at ?_)))))))
 refine wpAny_pure ?_
 show wpAny _ _ (handedOut v) _ _ _
 rw [handedOut_of hv']
 exact wpAny_pure h
end
section
variable {X:Cx}
noncomputable def tXfld (K:PySem.W.Frag) (ta:TE) (f:Str):TE:=fun σ H Q=>ta σ H fun x H1=>∃ (a D dx:Addr) (cx:Option Value) (fs:List (Str × V)) (v:V),x=.ref a/\H1 a=some (excD a (.ref D) (some dx) cx)/\H1 dx=some (xdO dx fs)/\XCls K D/\PySem.W.hasDictIn K D=true/\NoAttr K D f/\fs.lookup f=some v/\Q v H1
theorem pe_xfld {e:Expr} {f:Str} {pos:Pos} {ta:TE} (he:PE X e ta) (hb:attributeBase e f X.env (eval e X.env)=eval e X.env):PE X (.Attribute e f pos) (tXfld X.K ta f):=by
 intro pins s σ H Q I h
 refine attr_of hb (thn (he pins s σ H _ I h) fun u s1 hsl61=>?_)
 obtain ⟨x,H1,I1,rx,a,D,dx,cx,fs,v,ex,ea,ed,c,hh,n,l,q⟩:=hsl61
 subst ex
 obtain rfl:u=Value.ref a:=rx
 obtain ⟨mA,N,r⟩:XdAt dx fs s1.heap:=(show ObjOk X.prog X.w H1 s1.heap dx (.ext (XdAt dx fs)) from I1.hok dx _ ed).1
 obtain ⟨u,hu,ru⟩:=RelO.some_of (v:=v) (o:=mA f) (by rw [<- l];exact r f)
 exact xc_at c hh n I1.kIn (excD_has I1 ea) N hu (handed_of ru) ⟨v,H1,I1.tok _,ru,q⟩
end
end L2
namespace L2
open PySem PySem.Spec PyProof.Rows
section
variable {P:Program} {w:World} {K:PySem.W.Frag} {mg:Str->Option Value} {base:Heap}
end
end L2
namespace L2
open PySem PySem.Spec PyProof.Rows
section
variable {prog:Program} {w:World} {A:Around} {E:Value->Shared->Prop} {s:Shared}
end
section
variable {M:Model} {A:Around} {E:Value->Shared->Prop} {s:Shared} {base:Heap} {l outer:List Env} {env:Env} {L e:Addr} {cls:Value} {dd:Option Addr} {cx:Option Value} {Q:Unit->Shared->Prop}
end
section
variable {X:Cx} {pins:List (Addr × Obj)} {σ:St} {H:Hp} {s:Shared}
end
section
variable {P:Program} {w:World} {K:PySem.W.Frag} {mg:Str->Option Value} {base:Heap} {N:List Str} {qual:Str} {scope:Scope} {f:Addr} {cd:Value} {A:Around} {outer:List Env} {s₀:Shared} {H₀:Hp} {E:XK}
end
section
variable {prog:Program} {w:World} {A:Around} {E:Value->Shared->Prop} {env:Env}
variable {nm q:Str} {C N:Addr} {bs bm bmB:List Value} {hdct:Bool} {sn:List Str} {sub:List Value} {ab:Bool} {col:Option Bool} {dd:Option Addr} {k0 k1 k2 k3 k5:Option Value} {B newId initId:String}
end
section
variable {X:Cx}
end
end L2
namespace Mm
open PySem L2 PyProof.Rows
noncomputable def yn (b:Bool):V:=.str (if b=true then "yes" else "no")
noncomputable def reckV (w:Str) (x y:V):Option V:=match x,y with
 | .int a,.int b=>if w="+" then some (.int ((a+b) % 1000000000000000000)) else if w="-" then some (.int ((a-b) % 1000000000000000000)) else if w="*" then some (.int (a*b % 1000000000000000000)) else
  if w="less" then some (yn (decide (a<b))) else if w="same" then some (yn (decide (a=b))) else none
 | .str a,.str b=>if w="and" then some (yn (decide (a="yes")&&decide (b="yes"))) else if w="or" then some (yn (decide (a="yes")||decide (b="yes"))) else none
 | _,_=>none
noncomputable def PlV (v:V):Prop:=(∃ i,v=.int i/\-(2 ^ 64)<i/\i<2 ^ 64)∨∃ z,v=.str z
theorem yn_pl (b:Bool):PlV (yn b):=.inr ⟨_,rfl⟩
theorem reck_pl {w:Str} {x y v:V} (h:reckV w x y=some v):PlV v:=by
 unfold reckV at h
 split at h
 ·repeat' (split at h)
  all_goals first | (cases h;exact .inl ⟨_,rfl,by omega,by omega⟩) | (cases h;exact yn_pl _) | cases h
 ·repeat' (split at h)
  all_goals first | (cases h;exact yn_pl _) | cases h
 ·cases h
inductive RV where
 | pl (v:V)
 | rcd (z:Str) (vs:List V)
noncomputable def VAt (H:Hp) (v:V):RV->Prop
 | .pl u=>v=u/\PlV u
 | .rcd z vs=>∃ t,v=.ref t/\H t=some (.tup (.str z::vs))/\∀ x∈vs,PlV x
inductive Evn where
 | lg (r:Nat)
 | tl (v:V)
inductive Rs (α:Type) where
 | ok (a:α)
 | deep
noncomputable abbrev REnv:=Str->Option RV
noncomputable def REnv.put (ρ:REnv) (z:Str) (v:RV):REnv:=fun x=>if x=z then some v else ρ x
noncomputable def env1 (z:Str) (v:RV):REnv:=fun x=>if x=z then some v else none
noncomputable def Ex.top:Ex->Prop
 | .op w _ _=>w∈ops7
 | .many w _ _=>w="do"∨w="new"
 | _=>True
noncomputable def Tr.hd3:Tr->Option (Str × Str)
 | .df _ n _ _ _=>some ("def",n)
 | .kd _ n _=>some ("kind",n)
 | _=>none
noncomputable def fst3 (k:Str × Str) (ts:List Tr):Option Tr:=ts.find? fun t=>decide (t.hd3=some k)
noncomputable def prtX:Ex->List Ex
 | .not e=>[e]
 | .op _ a b=>[a,b]
 | .of _ e=>[e]
 | .many _ _ es=>es
 | _=>[]
noncomputable def Tr.ex3:Tr->Option Ex
 | .set _ _ e=>some e
 | .tell _ e=>some e
 | .iff _ e _ _=>some e
 | .whl _ e _=>some e
 | .give _ e=>some e
 | _=>none
noncomputable def evT:List Evn->Nat
 | []=>0
 | .lg _::es=>evT es
 | .tl _::es=>evT es+1
noncomputable def evG:List Evn->Nat
 | []=>0
 | .lg _::es=>evG es+1
 | .tl _::es=>evG es
mutual
inductive EvX (tt:List Tr):Nat->Nat->REnv->Ex->List Evn->Rs RV->Prop where
 | num {n dp:Nat} {ρ:REnv} {i:Int}:-(2 ^ 64)<i->i<2 ^ 64->EvX tt n dp ρ (.num i) [] (.ok (.pl (.int i)))
 | truth {n dp:Nat} {ρ:REnv} {z:Str}:EvX tt n dp ρ (.truth z) [] (.ok (.pl (.str z)))
 | name {n dp:Nat} {ρ:REnv} {z:Str} {v:RV}:ρ z=some v->EvX tt n dp ρ (.name z) [] (.ok v)
 | op {n dp:Nat} {ρ:REnv} {w:Str} {a b:Ex} {es:List Evn} {x y v:V}:w∈ops7->EvL tt n dp ρ [a,b] es (.ok [.pl x,.pl y])->reckV w x y=some v->EvX tt (n+1) dp ρ (.op w a b) es (.ok (.pl v))
 | run {n dp:Nat} {ρ ρ':REnv} {z:Str} {as:List Ex} {es fs:List Evn} {a:RV} {r:Nat} {k:Str} {q:Str × Str} {b:List Tr} {v:RV}:EvL tt n dp ρ as es (.ok [a])->dp<6->fst3 ("def",z) tt=some (.df r z k [q] b)->RunL tt n (dp+1) (env1 q.1 a) b fs ρ' (.ok (some v))->EvX tt (n+1) dp ρ (.many "do" z as) (es++fs) (.ok v)
 | runD {n dp:Nat} {ρ:REnv} {z:Str} {as:List Ex} {es:List Evn} {vs:List RV}:EvL tt n dp ρ as es (.ok vs)->6<=dp->as.length<=20->EvX tt (n+1) dp ρ (.many "do" z as) es .deep
 | runI {n dp:Nat} {ρ ρ':REnv} {z:Str} {as:List Ex} {es fs:List Evn} {a:RV} {r:Nat} {k:Str} {q:Str × Str} {b:List Tr}:EvL tt n dp ρ as es (.ok [a])->dp<6->fst3 ("def",z) tt=some (.df r z k [q] b)->RunL tt n (dp+1) (env1 q.1 a) b fs ρ' .deep->EvX tt (n+1) dp ρ (.many "do" z as) (es++fs) .deep
 | new {n dp:Nat} {ρ:REnv} {z:Str} {as:List Ex} {es:List Evn} {vs:List V}:EvL tt n dp ρ as es (.ok (vs.map .pl))->vs.length<=20->EvX tt (n+1) dp ρ (.many "new" z as) es (.ok (.rcd z vs))
 | of {n dp:Nat} {ρ:REnv} {f z:Str} {a:Ex} {es:List Evn} {vs:List V} {r j:Nat} {ps:List (Str × Str)} {v:V}:EvL tt n dp ρ [a] es (.ok [.rcd z vs])->fst3 ("kind",z) tt=some (.kd r z ps)->ps.length<=20->(ps.map (·.1)).idxOf? f=some j->vs[j]?=some v->EvX tt (n+1) dp ρ (.of f a) es (.ok (.pl v))
 | part {n dp:Nat} {ρ:REnv} {e:Ex} {es:List Evn}:EvL tt n dp ρ (prtX e) es .deep->e.top->(prtX e).length<=20->EvX tt (n+1) dp ρ e es .deep
inductive EvL (tt:List Tr):Nat->Nat->REnv->List Ex->List Evn->Rs (List RV)->Prop where
 | nil {n dp:Nat} {ρ:REnv}:EvL tt n dp ρ [] [] (.ok [])
 | cons {n dp:Nat} {ρ:REnv} {e:Ex} {as:List Ex} {es fs:List Evn} {v:RV} {vs:List RV}:EvX tt n dp ρ e es (.ok v)->EvL tt n dp ρ as fs (.ok vs)->EvL tt n dp ρ (e::as) (es++fs) (.ok (v::vs))
 | stop {n dp:Nat} {ρ:REnv} {e:Ex} {as:List Ex} {es:List Evn}:EvX tt n dp ρ e es .deep->EvL tt n dp ρ (e::as) es .deep
 | next {n dp:Nat} {ρ:REnv} {e:Ex} {as:List Ex} {es fs:List Evn} {v:RV}:EvX tt n dp ρ e es (.ok v)->EvL tt n dp ρ as fs .deep->EvL tt n dp ρ (e::as) (es++fs) .deep
inductive RunX (tt:List Tr):Nat->Nat->REnv->Tr->List Evn->REnv->Rs (Option RV)->Prop where
 | skip {n dp:Nat} {ρ:REnv} {t:Tr}:t.hd3≠none->RunX tt n dp ρ t [] ρ (.ok none)
 | set {n dp:Nat} {ρ:REnv} {r:Nat} {z:Str} {e:Ex} {es:List Evn} {v:RV}:EvX tt n dp ρ e es (.ok v)->RunX tt (n+1) dp ρ (.set r z e) (.lg r::es) (ρ.put z v) (.ok none)
 | tell {n dp:Nat} {ρ:REnv} {r:Nat} {e:Ex} {es:List Evn} {v:V}:EvX tt n dp ρ e es (.ok (.pl v))->evT es<=evG es->RunX tt (n+1) dp ρ (.tell r e) (.lg r::(es++[.tl v])) ρ (.ok none)
 | give {n dp:Nat} {ρ:REnv} {r:Nat} {e:Ex} {es:List Evn} {v:RV}:EvX tt n dp ρ e es (.ok v)->RunX tt (n+1) dp ρ (.give r e) (.lg r::es) ρ (.ok (some v))
 | iff {n dp:Nat} {ρ ρ':REnv} {r:Nat} {e:Ex} {b o:List Tr} {es fs:List Evn} {x:V} {res:Rs (Option RV)}:EvX tt n dp ρ e es (.ok (.pl x))->RunL tt n dp ρ (if x=.str "yes" then b else o) fs ρ' res->RunX tt (n+1) dp ρ (.iff r e b o) (.lg r::(es++fs)) ρ' res
 | deep {n dp:Nat} {ρ:REnv} {t:Tr} {e:Ex} {es:List Evn}:t.ex3=some e->(∀ r x b,t≠.whl r x b)->EvX tt n dp ρ e es .deep->RunX tt (n+1) dp ρ t (.lg t.row::es) ρ .deep
inductive RunL (tt:List Tr):Nat->Nat->REnv->List Tr->List Evn->REnv->Rs (Option RV)->Prop where
 | nil {n dp:Nat} {ρ:REnv}:RunL tt n dp ρ [] [] ρ (.ok none)
 | cons {n dp:Nat} {ρ ρ1 ρ2:REnv} {t:Tr} {ts:List Tr} {es fs:List Evn} {res:Rs (Option RV)}:RunX tt n dp ρ t es ρ1 (.ok none)->RunL tt n dp ρ1 ts fs ρ2 res->RunL tt n dp ρ (t::ts) (es++fs) ρ2 res
 | stop {n dp:Nat} {ρ ρ1:REnv} {t:Tr} {ts:List Tr} {es:List Evn} {v:RV}:RunX tt n dp ρ t es ρ1 (.ok (some v))->RunL tt n dp ρ (t::ts) es ρ1 (.ok (some v))
 | deep {n dp:Nat} {ρ ρ1:REnv} {t:Tr} {ts:List Tr} {es:List Evn}:RunX tt n dp ρ t es ρ1 .deep->RunL tt n dp ρ (t::ts) es ρ1 .deep
end
inductive FinX (tt:List Tr) (n dp:Nat):Ex->List RV->List Evn->Rs RV->Prop where
 | op {w:Str} {a b:Ex} {x y v:V}:w∈ops7->reckV w x y=some v->FinX tt n dp (.op w a b) [.pl x,.pl y] [] (.ok (.pl v))
 | run {z:Str} {as:List Ex} {fs:List Evn} {a:RV} {r:Nat} {k:Str} {q:Str × Str} {b:List Tr} {ρ':REnv} {v:RV}:dp<6->fst3 ("def",z) tt=some (.df r z k [q] b)->RunL tt n (dp+1) (env1 q.1 a) b fs ρ' (.ok (some v))->FinX tt n dp (.many "do" z as) [a] fs (.ok v)
 | runI {z:Str} {as:List Ex} {fs:List Evn} {a:RV} {r:Nat} {k:Str} {q:Str × Str} {b:List Tr} {ρ':REnv}:dp<6->fst3 ("def",z) tt=some (.df r z k [q] b)->RunL tt n (dp+1) (env1 q.1 a) b fs ρ' .deep->FinX tt n dp (.many "do" z as) [a] fs .deep
 | runD {z:Str} {as:List Ex} {vs:List RV}:6<=dp->FinX tt n dp (.many "do" z as) vs [] .deep
 | new {z:Str} {as:List Ex} {vs:List V}:vs.length<=20->FinX tt n dp (.many "new" z as) (vs.map .pl) [] (.ok (.rcd z vs))
 | of {f z:Str} {a:Ex} {vs:List V} {r j:Nat} {ps:List (Str × Str)} {v:V}:fst3 ("kind",z) tt=some (.kd r z ps)->ps.length<=20->(ps.map (·.1)).idxOf? f=some j->vs[j]?=some v->FinX tt n dp (.of f a) [.rcd z vs] [] (.ok (.pl v))
theorem evl_len {tt:List Tr} {n dp:Nat} {ρ:REnv}:∀ {as:List Ex} {es:List Evn} {vs:List RV},EvL tt n dp ρ as es (.ok vs)->vs.length=as.length
 | [],es,vs,h=>by cases h;rfl
 | a::as,es,vs,h=>by
  cases h with
  | cons _ h2=>simp [evl_len h2]
theorem ev_inv {tt:List Tr} {n dp:Nat} {ρ:REnv} {e:Ex} {es:List Evn} {res:Rs RV} (h:EvX tt n dp ρ e es res) :
  (∃ i,e=.num i/\es=[]/\res=.ok (.pl (.int i))/\-(2 ^ 64)<i/\i<2 ^ 64)∨(∃ z,e=.truth z/\es=[]/\res=.ok (.pl (.str z)))∨(∃ z v,e=.name z/\es=[]/\res=.ok v/\ρ z=some v) ∨
  ∃ m es1,n=m+1/\e.top/\(prtX e).length<=20/\((EvL tt m dp ρ (prtX e) es1 .deep/\es=es1/\res=.deep)∨∃ vs fs,EvL tt m dp ρ (prtX e) es1 (.ok vs)/\es=es1++fs/\FinX tt m dp e vs fs res):=by
 cases h with
 | num a b=>exact .inl ⟨_,rfl,rfl,rfl,a,b⟩
 | truth=>exact .inr (.inl ⟨_,rfl,rfl,rfl⟩)
 | name a=>exact .inr (.inr (.inl ⟨_,_,rfl,rfl,rfl,a⟩))
 | op w a b=>exact .inr (.inr (.inr ⟨_,_,rfl,w,(by show 2<=20;decide),.inr ⟨_,[],a,by simp,.op w b⟩⟩))
 | run a b c d=>exact .inr (.inr (.inr ⟨_,_,rfl,.inl rfl,(by have:=evl_len a;simp [prtX] at this ⊢;omega),.inr ⟨_,_,a,rfl,.run b c d⟩⟩))
 | runD a b c=>exact .inr (.inr (.inr ⟨_,_,rfl,.inl rfl,c,.inr ⟨_,[],a,by simp,.runD b⟩⟩))
 | runI a b c d=>exact .inr (.inr (.inr ⟨_,_,rfl,.inl rfl,(by have:=evl_len a;simp [prtX] at this ⊢;omega),.inr ⟨_,_,a,rfl,.runI b c d⟩⟩))
 | new a b=>exact .inr (.inr (.inr ⟨_,_,rfl,.inr rfl,(by have:=evl_len a;simp [prtX] at this ⊢;omega),.inr ⟨_,[],a,by simp,.new b⟩⟩))
 | of a b b2 c d=>exact .inr (.inr (.inr ⟨_,_,rfl,trivial,(by show 1<=20;decide),.inr ⟨_,[],a,by simp,.of b b2 c d⟩⟩))
 | part a b c=>exact .inr (.inr (.inr ⟨_,_,rfl,b,c,.inl ⟨a,rfl,rfl⟩⟩))
structure RS where
 told:List V
 log:List Nat
noncomputable def appE (most:Nat):RS->List Evn->RS × Bool
 | S,[]=>(S,true)
 | S,.lg r::es=>if S.log.length<most then appE most ⟨S.told,S.log++[r]⟩ es else (S,false)
 | S,.tl v::es=>appE most ⟨S.told++[v],S.log⟩ es
theorem appE_app (most:Nat):∀ (a b:List Evn) (S:RS),appE most S (a++b)=if (appE most S a).2=true then appE most (appE most S a).1 b else appE most S a
 | [],b,S=>by simp [appE]
 | .lg r::a,b,S=>by
  simp only [List.cons_append,appE]
  split
  ·exact appE_app most a b _
  ·simp
 | .tl v::a,b,S=>by
  simp only [List.cons_append,appE]
  exact appE_app most a b _
theorem appE_true {most:Nat} {S S1:RS} {a b:List Evn} (h:appE most S a=(S1,true)):appE most S (a++b)=appE most S1 b:=by rw [appE_app,h];simp
theorem appE_false {most:Nat} {S S1:RS} {a b:List Evn} (h:appE most S a=(S1,false)):appE most S (a++b)=(S1,false):=by rw [appE_app,h];simp
theorem appE_cnt {most:Nat}:∀ {es:List Evn} {S S':RS},appE most S es=(S',true)->S'.told.length=S.told.length+evT es/\S'.log.length=S.log.length+evG es
 | [],S,S',h=>by cases h;exact ⟨rfl,rfl⟩
 | .lg r::es,S,S',h=>by
  simp only [appE] at h
  split at h
  ·obtain ⟨a,b⟩:=appE_cnt h
   simp only [List.length_append,List.length_cons,List.length_nil] at b
   exact ⟨a,by rw [evG];omega⟩
  ·cases h
 | .tl v::es,S,S',h=>by
  simp only [appE] at h
  obtain ⟨a,b⟩:=appE_cnt h
  simp only [List.length_append,List.length_cons,List.length_nil] at a
  exact ⟨by rw [evT];omega,b⟩
theorem appE_len {most:Nat} {es:List Evn} {S S':RS} (h:appE most S es=(S',true)):S.log.length<=S'.log.length:=by have:=(appE_cnt h).2;omega
structure RA (C:Addr) (B H:Hp) (o dx d1 tl l:Addr) (most:Nat) (F:List (List Key × V)) (S:RS):Prop where
 ins:H o=some (.ins C dx [("firsts",.ref d1),("most",.int ((most:Nat):Int)),("told",.ref tl),("log",.ref l)])
 fst:H d1=some (.dT F)
 told:H tl=some (.lst S.told)
 log:H l=some (.lst (S.log.map fun r=>V.int ((r:Nat):Int)))
 ne:tl≠l
 b1:S.told.length<=S.log.length
 b3:S.log.length<=most
 b4:most<=900
 bs:Same B H
 bt:B tl=none
 bl:B l=none
theorem RA.same {C:Addr} {B H H':Hp} {o dx d1 tl l:Addr} {most:Nat} {F:List (List Key × V)} {S:RS} (h:RA C B H o dx d1 tl l most F S) (s:Same H H'):RA C B H' o dx d1 tl l most F S :=
 ⟨s _ _ h.ins,s _ _ h.fst,s _ _ h.told,s _ _ h.log,h.ne,h.b1,h.b3,h.b4,h.bs.trans s,h.bt,h.bl⟩
theorem Same.msk' {H H':Hp} (s:Same H H') (M:List Addr):Same (msk H M) (msk H' M):=fun b u h=>by
 obtain ⟨h1,h2⟩:=msk_some h
 rw [msk_no h1];exact s _ _ h2
theorem msk_upd' {H:Hp} {M:List Addr} {a:Addr} {o:HO} (ha:a∈M):Same (msk H M) (msk (upd H a o) M):=fun b u h=>by
 obtain ⟨h1,h2⟩:=msk_some h
 have hb:b≠a:=fun z=>h1 (by rw [z];exact ha)
 rw [msk_no h1,upd_ne hb];exact h2
theorem same_upd' {B H:Hp} {a:Addr} {o:HO} (s:Same B H) (h:B a=none):Same B (upd H a o):=fun b u q=>by
 rw [upd_ne (fun z=>by rw [z,h] at q;cases q)];exact s _ _ q
theorem RA.logged {C:Addr} {B H:Hp} {o dx d1 tl l:Addr} {most:Nat} {F:List (List Key × V)} {S:RS} (h:RA C B H o dx d1 tl l most F S) (r:Nat) (hl:S.log.length<most) :
  RA C B (upd H l (.lst (S.log.map (fun r=>V.int ((r:Nat):Int))++[.int ((r:Nat):Int)]))) o dx d1 tl l most F ⟨S.told,S.log++[r]⟩:=by
 have n1:o≠l:=fun z=>by have:=h.ins;rw [z,h.log] at this;cases this
 have n2:d1≠l:=fun z=>by have:=h.fst;rw [z,h.log] at this;cases this
 refine ⟨by rw [upd_ne n1];exact h.ins,by rw [upd_ne n2];exact h.fst,by rw [upd_ne h.ne];exact h.told,by rw [upd_same];simp,h.ne,?_,?_,h.b4,same_upd' h.bs h.bl,h.bt,h.bl⟩
 ·have:=h.b1;simp;omega
 ·simp;omega
theorem RA.tells {C:Addr} {B H:Hp} {o dx d1 tl l:Addr} {most:Nat} {F:List (List Key × V)} {S:RS} (h:RA C B H o dx d1 tl l most F S) (v:V) (hl:S.told.length<S.log.length) :
  RA C B (upd H tl (.lst (S.told++[v]))) o dx d1 tl l most F ⟨S.told++[v],S.log⟩:=by
 have n1:o≠tl:=fun z=>by have:=h.ins;rw [z,h.told] at this;cases this
 have n2:d1≠tl:=fun z=>by have:=h.fst;rw [z,h.told] at this;cases this
 refine ⟨by rw [upd_ne n1];exact h.ins,by rw [upd_ne n2];exact h.fst,upd_same,by rw [upd_ne h.ne.symm];exact h.log,h.ne,?_,h.b3,h.b4,same_upd' h.bs h.bt,h.bt,h.bl⟩
 simp;omega
theorem RA.tup {C:Addr} {B H H':Hp} {o dx d1 tl l:Addr} {most:Nat} {F:List (List Key × V)} {S:RS} (h:RA C B H o dx d1 tl l most F S) (s:Same (msk H [tl,l]) (msk H' [tl,l])) {b:Addr} {u:HO} (hb:H b=some u) (n1:b≠tl) (n2:b≠l):H' b=some u:=by
 have:msk H [tl,l] b=some u:=by rw [msk_no (by simp [n1,n2])];exact hb
 exact (msk_some (s _ _ this)).2
theorem VAt.fr {H H':Hp} {tl l:Addr} {xs ys:List V} (ht:H tl=some (.lst xs)) (hl:H l=some (.lst ys)) (s:Same (msk H [tl,l]) (msk H' [tl,l])) {v:V} {rv:RV} (h:VAt H v rv):VAt H' v rv:=by
 cases rv with
 | pl u=>exact h
 | rcd z vs =>
  obtain ⟨t,e,q,hp⟩:=h
  refine ⟨t,e,?_,hp⟩
  have n1:t≠tl:=fun z=>by rw [z,ht] at q;cases q
  have n2:t≠l:=fun z=>by rw [z,hl] at q;cases q
  have:msk H [tl,l] t=some (.tup (.str z::vs)):=by rw [msk_no (by simp [n1,n2])];exact q
  exact (msk_some (s _ _ this)).2
theorem VAt.same {H H':Hp} (s:Same H H') {v:V} {rv:RV} (h:VAt H v rv):VAt H' v rv:=by
 cases rv with
 | pl u=>exact h
 | rcd z vs =>
  obtain ⟨t,e,q,hp⟩:=h
  exact ⟨t,e,s _ _ q,hp⟩
noncomputable def NmR (H:Hp) (d:Addr) (ρ:REnv) (n:Nat):Prop:=∃ kvs:List (Key × V),H d=some (.dK kvs)/\kvs.length<=n/\∀ z:Str,(valV kvs (.inr z)=none/\ρ z=none)∨∃ v rv,valV kvs (.inr z)=some v/\ρ z=some rv/\VAt H v rv
theorem NmR.same {H H':Hp} (s:Same H H') {d:Addr} {ρ:REnv} {n:Nat} (h:NmR H d ρ n):NmR H' d ρ n:=by
 obtain ⟨kvs,a,b,c⟩:=h
 refine ⟨kvs,s _ _ a,b,fun z=>?_⟩
 rcases c z with q | ⟨v,rv,q1,q2,q3⟩
 ·exact .inl q
 ·exact .inr ⟨v,rv,q1,q2,q3.same s⟩
theorem NmR.fr {H H':Hp} {tl l:Addr} {xs ys:List V} (ht:H tl=some (.lst xs)) (hl:H l=some (.lst ys)) (s:Same (msk H [tl,l]) (msk H' [tl,l])) {d:Addr} {ρ:REnv} {n:Nat} (h:NmR H d ρ n):NmR H' d ρ n:=by
 obtain ⟨kvs,a,b,c⟩:=h
 have n1:d≠tl:=fun z=>by rw [z,ht] at a;cases a
 have n2:d≠l:=fun z=>by rw [z,hl] at a;cases a
 refine ⟨kvs,(msk_some (s _ _ (by rw [msk_no (by simp [n1,n2])];exact a))).2,b,fun z=>?_⟩
 rcases c z with q | ⟨v,rv,q1,q2,q3⟩
 ·exact .inl q
 ·exact .inr ⟨v,rv,q1,q2,q3.fr ht hl s⟩
theorem NmR.mono {H:Hp} {d:Addr} {ρ:REnv} {n m:Nat} (h:NmR H d ρ n) (q:n<=m):NmR H d ρ m:=by obtain ⟨k,a,b,c⟩:=h;exact ⟨k,a,Nat.le_trans b q,c⟩
theorem VAt.dict {H:Hp} {d:Addr} {kvs:List (Key × V)} (hd:H d=some (.dK kvs)) {o:HO} {v:V} {rv:RV} (h:VAt H v rv):VAt (upd H d o) v rv:=by
 cases rv with
 | pl u=>exact h
 | rcd z vs =>
  obtain ⟨t,e,q,hp⟩:=h
  exact ⟨t,e,by rw [upd_ne (fun w=>by rw [w,hd] at q;cases q)];exact q,hp⟩
theorem NmR.put {H:Hp} {d:Addr} {ρ:REnv} {n:Nat} (h:NmR H d ρ n) (hn:n<900) (z:Str) {v:V} {rv:RV} (hv:VAt H v rv):∃ H',DPut H d (.str z) v H'/\(∃ o,H'=upd H d o)/\NmR H' d (ρ.put z rv) (n+1)/\∃ kvs,H d=some (.dK kvs):=by
 obtain ⟨kvs,a,b,c⟩:=h
 refine ⟨_,DPut.k (k:=.inr z) a (small1000 (by omega)),⟨_,rfl⟩,⟨_,upd_same,Nat.le_trans (length_putK _ _ _) (by omega),fun x=>?_⟩,kvs,a⟩
 rw [valV_put]
 unfold REnv.put
 by_cases hx:x=z
 ·subst hx
  rw [if_pos rfl,if_pos rfl]
  exact .inr ⟨v,rv,rfl,rfl,hv.dict a⟩
 ·rw [if_neg (fun q=>hx (by injection q)),if_neg hx]
  rcases c x with q | ⟨u,ru,q1,q2,q3⟩
  ·exact .inl q
  ·exact .inr ⟨u,ru,q1,q2,q3.dict a⟩
noncomputable def FoAt (B:Hp) (F:List (List Key × V)) (tt:List Tr):Prop:=∀ k:Str × Str,(valV F [.inr k.1,.inr k.2]=none/\fst3 k tt=none)∨∃ v t,valV F [.inr k.1,.inr k.2]=some v/\SAt B false v t/\fst3 k tt=some t
end Mm
namespace L2
open PySem PySem.Spec PyProof.Rows
end L2
namespace L2
open PySem PySem.Spec PyProof.Rows
theorem for_enum {K:PySem.W.Frag} {a:Addr} {xs:List V} {g:TG} {tb:TS} {D:Ends} {σ:St} {H:Hp} (Pv:Nat->St->Hp->Prop) (h0:Pv 0 σ H) (hl:∀ i σ H,i<=xs.length->Pv i σ H->SqL K H a xs)
  (hs:∀ i x σ H t,xs[i]?=some x->Pv i σ H->H t=none->g (.ref t) σ (upd H t (.tup [.int ((i:Nat):Int),x])) fun σ2 H2=>tb { D with nx:=Pv (i+1),ct:=Pv (i+1),bk:=D.nx } σ2 H2) (hd:∀ σ H,Pv xs.length σ H->D.nx σ H) :
  ∃ W:Nat->Nat->St->Hp->Prop,(∃ m,W 0 m σ H)/\∀ i m σ H,W i m σ H ->
   ((Ite K a).stop i H/\D.nx σ H)∨((Ite K a).go i H/\∃ N:St->Hp->Prop,(∀ σ' H',N σ' H'->∃ m',m'<m/\W (i+1) m' σ' H')/\∀ x H',(Ite K a).yld i H x H'->g x σ H' fun σ2 H2=>tb { D with nx:=N,ct:=N,bk:=D.nx } σ2 H2):=by
 refine ⟨fun i m σ H=>m=xs.length-i/\i<=xs.length/\Pv i σ H,⟨xs.length,by simp,Nat.zero_le _,h0⟩,?_⟩
 rintro i m σ H ⟨rfl,hi,p⟩
 have q:=hl i σ H hi p
 by_cases hlt:i<xs.length
 ·refine .inr ⟨⟨xs,xs[i],q,by simp [hlt]⟩,Pv (i+1),fun σ' H' p'=>⟨xs.length-(i+1),by omega,rfl,hlt,p'⟩,fun x H' y=>?_⟩
  obtain ⟨t,y,hy,hn,rfl,rfl⟩:=y
  exact hs i y σ _ t (hy xs q) p hn
 ·have e:i=xs.length:=by omega
  subst e
  exact .inl ⟨⟨xs,q,Nat.le_refl _⟩,hd σ H p⟩
end L2
namespace L2
open PySem PySem.Spec PyProof.Rows
section
variable {prog:Program} {w:World} {A:Around} {E:Value->Shared->Prop} {s:Shared}
end
section
variable {prog:Program} {w:World} {A:Around} {E:Value->Shared->Prop} {s:Shared}
end
section
variable {X:Cx}
end
end L2
namespace L2
open PySem PySem.Spec PyProof.Rows
section
variable {prog:Program} {w:World} {A:Around} {E:Value->Shared->Prop} {h:Heap} {g:Array GenState} {d:Drawn} {t:Nat} {os:OsState} {a:Addr} {its:Array Value} {nn:Nat} {sl:Array (Option Value)}
end
theorem entry_dul:entryFor table "dict.update.loop"=some Builtin.«dict.update.loop»:=entryFor_of_tree (by kernel_rfl)
theorem plain_dul:plainId "dict.update.loop"=true:=by decide +kernel
noncomputable def fillV (ps:List (Key × Value)):List (Key × Value):=ps.foldl (fun q p=>stored q p.1 p.2) []
section
variable {prog:Program} {w:World} {A:Around} {E:Value->Shared->Prop} {s:Shared} {R:Result->Shared->Prop} {I:Addr} {fp wr:List Addr} {G:Array GenState->Array GenState->Prop} {n:Nat} {P:Nat->Value->Prop} {St:Nat->Shared->Prop}
end
section
variable {prog:Program} {w:World} {A:Around} {E:Value->Shared->Prop} {s:Shared}
noncomputable abbrev dObj:Obj:={ cls:=.type "dict",data:=.dict #[] }
end
end L2
namespace L2
open PySem PySem.Spec PyProof.Rows
theorem bt_dict:bootBuiltins "dict"=some (.type "dict"):=by decide +kernel
noncomputable def fillK (ps:List (Key × V)):List (Key × V):=ps.foldl (fun q p=>putK q p.1 p.2) []
theorem fill_rel:∀ {ps:List (Key × V)} {qs:List (Key × Value)},ps.length=qs.length->(∀ (i:Nat) (p:Key × V) (q:Key × Value),ps[i]?=some p->qs[i]?=some q->p.1=q.1/\RelV p.2 q.2)->KV (fillK ps) (fillV qs):=by
 have go:∀ (ps:List (Key × V)) (qs:List (Key × Value)) (a:List (Key × V)) (b:List (Key × Value)),KV a b->ps.length=qs.length->(∀ (i:Nat) (p:Key × V) (q:Key × Value),ps[i]?=some p->qs[i]?=some q->p.1=q.1/\RelV p.2 q.2) ->
   KV (ps.foldl (fun q p=>putK q p.1 p.2) a) (qs.foldl (fun q p=>stored q p.1 p.2) b):=fun ps=>by
  induction ps with
  | nil=>intro qs a b h hl _;cases qs with | nil=>exact h | cons _ _=>simp at hl
  | cons p ps ih =>
   intro qs a b h hl hr
   cases qs with
   | nil=>simp at hl
   | cons q qs =>
    obtain ⟨e,r⟩:=hr 0 p q rfl rfl
    simp only [List.foldl_cons]
    refine ih qs _ _ ?_ (by simpa using hl) fun i p' q' h1 h2=>hr (i+1) p' q' (by simpa using h1) (by simpa using h2)
    rw [e];exact h.put q.1 r
 intro ps qs hl hr
 exact go ps qs [] [] .nil hl hr
section
variable {X:Cx}
end
end L2
namespace L2
open PySem PySem.Spec PyProof.Rows
theorem entry_zip_ga:entryFor table "zip.__getattribute__"=some Builtin.«object.__getattribute__» :=
 entryFor_alias (id':="object.__getattribute__") (by kernel_rfl) (by first | rfl | decide +kernel | (unfold String.splitOn;simp +decide [String.splitOnAux])) (by decide +kernel) (by kernel_rfl)
theorem lk_zip_keys:typeLookup (.type "zip") "keys"=pure none:=by rw [typeLookup_type,builtinLookup_eq_fast];kernel_rfl
theorem lk_zip_ga0:typeLookup (.type "zip") "__getattr__"=pure none:=by rw [typeLookup_type,builtinLookup_eq_fast];kernel_rfl
section
variable {prog:Program} {w:World} {A:Around} {E:Value->Shared->Prop} {h:Heap} {g:Array GenState} {d:Drawn} {t:Nat} {os:OsState} {a:Addr} {f:Value} {TI TO:Addr}
noncomputable abbrev zObj (f:Value) (TI TO:Addr):Obj:={ cls:=.type "zip",dict:=none,data:=.fields #[f,.bool false,.bool false,.ref TI,.ref TO],slots:=#[] }
theorem keysZ_entry {tk:Tok} {Q:Fin->Shared->Prop} (hx:h.get? a=some (zObj f TI TO)) (hh:A.handled=none)
  (hq:∀ hp tk e,Heap.NewAttrErr h hp e (.ref a) "keys"->E (.ref e) ⟨hp,g,d,tk,os⟩):wpAny (model prog w) A (Builtin.«object.__getattribute__» ⟨[.ref a,.str "keys" tk],[]⟩) Q E ⟨h,g,d,t,os⟩:=by
 have hT:(⟨h,g,d,t,os⟩:Shared).TypeIs (.ref a) "zip":=⟨_,hx,rfl⟩
 have f4:=lk_zip_keys
 repeat (any_goals (first | assumption | wp_step))
 exact wpAny_raiseAttrError hh hq (attrMsg_fits (by decide +kernel) (by decide +kernel))
theorem keysZ_call {tk:Tok} {R:Result->Shared->Prop} (hx:h.get? a=some (zObj f TI TO)) (hh:A.handled=none) (hq:∀ hp tk e,Heap.NewAttrErr h hp e (.ref a) "keys"->R (.error (.ref e)) ⟨hp,g,d,tk,os⟩) :
  codeAny (model prog w) A (.call (.builtin "zip.__getattribute__") ⟨[.ref a,.str "keys" tk],[]⟩) R ⟨h,g,d,t,os⟩:=by
 refine codeAny_call_builtin F.slot_zip_getattribute.plain entry_zip_ga (F.slot_zip_getattribute.check _ _ _ _ _ _ _ _ (show (⟨h,g,d,t,os⟩:Shared).TypeIs (.ref a) "zip" from ⟨_,hx,rfl⟩) (F.args_zip_getattribute_2 _ _) (keysZ_entry hx (by simpa using hh) hq))
theorem keysZ_by {tk:Tok} {Q:Value->Shared->Prop} (hx:h.get? a=some (zObj f TI TO)) (hh:A.handled=none) (hq:∀ hp tk e,Heap.NewAttrErr h hp e (.ref a) "keys"->E (.ref e) ⟨hp,g,d,tk,os⟩) :
  wpAny (model prog w) A (getAttrBy (.ref a) (.str "keys" tk) false) Q E ⟨h,g,d,t,os⟩:=by
 have hT:(⟨h,g,d,t,os⟩:Shared).TypeIs (.ref a) "zip":=⟨_,hx,rfl⟩
 have f1:=sub_AttributeError
 have f2:=F.slot_zip_getattribute.lookup
 have f3:=F.slot_zip_getattribute.bind (.ref a)
 have f5:=lk_zip_ga0
 unfold getAttrBy
 repeat (any_goals (first | assumption | wp_step))
 refine keysZ_call hx hh fun hp tk' e hn=>?_
 obtain ⟨t',u',he⟩:=hn.there
 show wpAny _ _ (getattributeRaised _ _ _ _ _ _ _) _ _ _
 unfold getattributeRaised
 repeat (any_goals (first | assumption | wp_step))
 exact hq _ _ _ hn
theorem keysZ_none {Q:Option Value->Shared->Prop} (hx:h.get? a=some (zObj f TI TO)) (hh:A.handled=none) (hq:∀ hp tk e,Heap.NewAttrErr h hp e (.ref a) "keys"->Q none ⟨hp,g,d,tk,os⟩) :
  wpAny (model prog w) A (getAttr? (.ref a) "keys") Q E ⟨h,g,d,t,os⟩:=by
 unfold getAttr? getAttrBy?
 refine wpAny_bind (wpAny_mkText (wpAny_bind (wpAny_attempt (keysZ_by hx hh fun hp tk' e hn=>?_))))
 obtain ⟨t',u',he⟩:=hn.there
 have f1:=sub_AttributeError
 repeat (any_goals (first | assumption | wp_step))
 exact hq _ _ _ hn
end
end L2
namespace L2
open PySem PySem.Spec PyProof.Rows
section
variable {prog:Program} {w:World} {A:Around} {E:Value->Shared->Prop} {s:Shared}
theorem wpAny_alive {a:Addr} {Q:Option Obj->Shared->Prop} (h:Q (s.heap.get? a) s):wpAny (model prog w) A (loadIfAlive a) Q E s:=fun Γ p _=>by
 unfold loadIfAlive
 rw [Sem.wp_loadIfAlive]
 exact h
theorem zip_end2 {z TI TO i1 i2 T l1:Addr} {k:Nat} {xs:Array Value} {x y:Value} {Q:Option Value->Shared->Prop} (hh:A.handled=none) (n1:i1≠z) (n3:l1≠z) (hz:IsZip s.heap z TI TO (rawInt T))
  (hTI:IsPair s.heap TI (.ref i1) (.ref i2)) (hT:IsPair s.heap T x y) (h1:s.heap.IsListIter i1 l1 k) (hl1:s.heap.IsList l1 xs) (hx:xs[k]?=none)
  (kq:∀ hp,(∀ c o,c≠z->c≠i1->s.heap.get? c=some o->hp.get? c=some o)->Q none { s with heap:=hp }) :
  wpAny (model prog w) A (pyNext (.ref z)) Q E s:=by
 have ty:s.TypeIs (.ref z) "zip":=⟨_,hz,rfl⟩
 unfold pyNext
 refine wpAny_bind (wpAny_attempt (wpAny_callSpecial?_slot (name:=Str.ofString "__next__") ty F.slot_zip_next (wpAny_call_entry F.slot_zip_next ty F.entry_zip_next ?_ (F.args_zip_next_1 _))))
 change wpAny _ _ (field (.ref z) 2 >>= _) _ _ _
 refine wpAny_bind (wpAny_field hz rfl (x:=.bool false) rfl ?_)
 change wpAny _ _ (field (.ref z) 3 >>= _) _ _ _
 refine wpAny_bind (wpAny_field hz rfl (x:=.ref TI) rfl (wpAny_bind (wpAny_seqItems hTI rfl ?_)))
 change wpAny _ _ (Builtin.SmallTypes.ownedTupleIsFree (.ref z) >>= _) _ _ _
 refine wpAny_bind ?_
 unfold Builtin.SmallTypes.ownedTupleIsFree
 refine wpAny_bind (wpAny_field hz rfl (x:=rawInt T) rfl ?_)
 change wpAny _ _ (loadIfAlive ((T:Int).toNat) >>= _) _ _ _
 rw [Int.toNat_natCast]
 refine wpAny_bind (wpAny_alive ?_)
 rw [hT]
 simp only [Option.isNone_some,Bool.false_eq_true,if_false]
 refine wpAny_bind (wpAny_field hz rfl (x:=.bool false) rfl ?_)
 rw [if_pos (by decide)]
 refine wpAny_bind (wpAny_setField_rec hz (by simp) fun g1 z1 e1=>wpAny_pure ?_)
 simp only [Bool.false_eq_true,if_false]
 refine wpAny_bind ?_
 simp only [<- Array.forIn_toList,List.forIn_cons]
 refine wpAny_bind (wpAny_bind (wpAny_holding ?_))
 change wpAny _ _ (Builtin.SmallTypes.nextOf (.ref i1) >>= _) _ _ _
 refine wpAny_bind (wpAny_nextOf_list_end (by simpa using hh) (h1.extBut e1.extBut n1) (hl1.extBut e1.extBut n3) hx fun g2 e s2 he=>?_)
 obtain ⟨o,a1,a2⟩:=he
 refine wpAny_bind (wpAny_isInstance (T:="StopIteration") (b:=true) ⟨o,a1,a2⟩ isSubtype_stop (wpAny_pure (kq _ fun c u c1 c2 q=>?_)))
 exact s2 _ _ c2 (e1.extBut _ _ c1 q)
theorem dict_zip1 {z TI TO i1 i2 l1 l2:Addr} {kx vx:Value} {key:Key} {Q:Value->Shared->Prop} (hh:A.handled=none) (D:ZipApart z TI TO i1 i2 l1 l2) (hz:IsZip s.heap z TI TO .none)
  (hTI:IsPair s.heap TI (.ref i1) (.ref i2)) (hTO:∃ a b,IsPair s.heap TO a b) (h1:s.heap.IsListIter i1 l1 0) (h2:s.heap.IsListIter i2 l2 0) (hl1:s.heap.IsList l1 #[kx]) (hl2:s.heap.IsList l2 #[vx]) (hk:(mixKind prog w).is key kx=true)
  (k:∀ (hp:Heap) (tk:Nat),hp.DictOf (mixKind prog w) s.heap.objs.size [(key,vx)]->(∀ b o,b≠z->b≠TO->b≠i1->b≠i2->s.heap.get? b=some o->hp.get? b=some o)->Q (.ref s.heap.objs.size) { s with heap:=hp,toks:=tk }) :
  wpAny (model prog w) A (call (.type "dict") [.ref z]) Q E s:=by
 refine callType_codes (Q₁:=fun obj s₁=>obj=.ref s.heap.objs.size/\s₁={ s with heap:=s.heap.push dObj }) F.kt_called_dict (F.kt_typeCall_dict_1 _) F.entry_dict_init (kt_code_dict_new _ ⟨rfl,rfl⟩) ?_
 rintro obj s₁ ⟨rfl,rfl⟩
 have hnew:(s.heap.push dObj).DictOf (mixKind prog w) s.heap.objs.size []:=Heap.DictOf.new s.heap
 have up:∀ {b o},s.heap.get? b=some o->(s.heap.push dObj).get? b=some o:=fun r=>Heap.get?_push_of_some _ r
 refine ⟨hnew.typeIs,F.args_dict_init_2 _ _,?_⟩
 unfold Builtin.«dict.__init__»
 refine wpAny_bind ?_
 unfold Builtin.Dict.selfAndRest
 refine wpAny_bind (wpAny_notOrdered_dict hnew.typeIs (wpAny_pure ?_))
 change wpAny _ _ (Builtin.Dict.updateFrom "dict.__init__" s.heap.objs.size (.ref z) [] .none) _ _ _
 unfold Builtin.Dict.updateFrom
 have ty:Shared.TypeIs { s with heap:=s.heap.push dObj } (.ref z) "zip":=⟨_,up hz,rfl⟩
 refine wpAny_bind (wpAny_typeOf ty ?_)
 rw [if_pos (by decide)]
 refine wpAny_bind (keysZ_none (f:=.none) (TI:=TI) (TO:=TO) (up hz) (by simpa using hh) fun hp tk e hn=>?_)
 have kp:∀ b o,s.heap.get? b=some o->hp.get? b=some o:=fun b o r=>hn.keeps b o (up r)
 have hD:hp.DictOf (mixKind prog w) s.heap.objs.size []:=by
  obtain ⟨o,es,ep,ho,rest⟩:=hnew
  exact ⟨o,es,ep,hn.keeps _ _ ho,rest⟩
 rw [if_pos (by rfl)]
 refine wpAny_bind (wpAny_rule ?_)
 refine wpAny_bind (wpAny_pyIter_zip (s:=⟨hp,s.gens,s.drawn,tk,s.os⟩) (kp _ _ hz) ?_)
 refine wpAny_pure ⟨plainId_quiet plain_dul _,?_⟩
 have atI:∀ {i l:Addr} {n:Nat},s.heap.IsListIter i l n->hp.IsListIter i l n:=fun h=>by
  obtain ⟨o,a,b⟩:=h
  exact ⟨o,kp _ _ a,b⟩
 have atL:∀ {l:Addr} {xs:Array Value},s.heap.IsList l xs->hp.IsList l xs:=fun h=>h.at fun o r=>kp _ _ r
 obtain ⟨ta,tb,hTO⟩:=hTO
 have hdz:s.heap.objs.size≠z:=Nat.ne_of_gt (Heap.lt_size hz)
 have hdTO:s.heap.objs.size≠TO:=Nat.ne_of_gt (Heap.lt_size hTO)
 have hd1:s.heap.objs.size≠i1:=by obtain ⟨o,a,_⟩:=h1;exact Nat.ne_of_gt (Heap.lt_size a)
 have hd2:s.heap.objs.size≠i2:=by obtain ⟨o,a,_⟩:=h2;exact Nat.ne_of_gt (Heap.lt_size a)
 have hdTI:s.heap.objs.size≠TI:=Nat.ne_of_gt (Heap.lt_size hTI)
 have hdl:s.heap.objs.size≠l1:=by obtain ⟨o,a,_⟩:=hl1;exact Nat.ne_of_gt (Heap.lt_size a)
 have hdT:s.heap.objs.size≠hp.objs.size:=by
  obtain ⟨o,es,ep,ho,_⟩:=hD
  exact Nat.ne_of_lt (Heap.lt_size ho)
 refine codeAny_builtin entry_dul ?_
 rw [Around.under_plainId plain_dul _]
 change wpAny _ _ (pyNext (.ref z) >>= _) _ _ _
 refine wpAny_bind (wpAny_pyNext_zip_item (s:=⟨hp,s.gens,s.drawn,tk,s.os⟩) D (kp _ _ hz) (kp _ _ hTI) (kp _ _ hTO) (atI h1) (atI h2) (atL hl1) (atL hl2) (x:=kx) (y:=vx) (by rfl) (by rfl) fun g z1 o1 j1 j2 t1 sz kg=>?_)
 have hDg:g.DictOf (mixKind prog w) s.heap.objs.size []:=by
  obtain ⟨o,es,ep,ho,rest⟩:=hD
  exact ⟨o,es,ep,kg _ _ hdz hdTO hd1 hd2 ho,rest⟩
 refine wpAny_bind (wpAny_holding (wpAny_bind (wpAny_tryCatch ?_)))
 unfold Builtin.Dict.pairItems
 refine wpAny_bind (wpAny_typeOf (T:="tuple") ⟨_,t1,rfl⟩ ?_)
 rw [if_pos (by decide)]
 refine wpAny_bind (wpAny_seqItems t1 rfl (wpAny_pure ?_))
 change wpAny _ _ (holding [kx,vx] (dictSet s.heap.objs.size kx vx)) _ _ _
 refine wpAny_holding (wpAny_dictSet_pairs (hsz:=Nat.zero_le _) hk hDg fun g2 dd hs=>?_)
 refine wpAny_pure ⟨plainId_quiet plain_dul _,?_⟩
 refine codeAny_builtin entry_dul ?_
 rw [Around.under_plainId plain_dul _]
 change wpAny _ _ (pyNext (.ref z) >>= _) _ _ _
 have ks:∀ {b o},b≠s.heap.objs.size->g.get? b=some o->g2.get? b=some o:=fun n r=>(hs.2 _ n).trans r
 have j1':g2.IsListIter i1 l1 1:=by
  obtain ⟨o,a,b⟩:=j1
  exact ⟨o,ks hd1.symm a,b⟩
 have l1':g2.IsList l1 #[kx]:=(atL hl1).at fun o r=>ks hdl.symm (kg _ _ D.l1z D.l1TO D.l1i1 D.l1i2 r)
 refine wpAny_bind (zip_end2 (T:=hp.objs.size) (x:=kx) (y:=vx) (xs:=#[kx]) (k:=1) (by simpa using hh) D.i1z D.l1z (ks hdz.symm z1) (ks hdTI.symm (kg _ _ D.TIz D.TITO D.TIi1 D.TIi2 (kp _ _ hTI))) (ks hdT.symm t1) j1' l1' (by rfl) fun g3 k3=>?_)
 change wpAny _ _ (Builtin.Dict.addKeywords s.heap.objs.size [] >>= _) _ _ _
 refine wpAny_bind (wpAny_pure (wpAny_pure ⟨rfl,k _ _ ?_ fun b o b1 b2 b3 b4 r=>?_⟩))
 ·obtain ⟨o,es,ep,ho,rest⟩:=dd
  exact ⟨o,es,ep,k3 _ _ hdz hd1 ho,rest⟩
 ·have hbd:b≠s.heap.objs.size:=Nat.ne_of_lt (Heap.lt_size r)
  exact k3 _ _ b1 b3 (ks hbd (kg _ _ b1 b2 b3 b4 (kp _ _ r)))
end
end L2
namespace L2
open PySem PySem.Spec PyProof.Rows
section
variable {X:Cx} {e f:Expr} {ta:TA} {p p2 pos pos2:Pos}
noncomputable def tDZ (ta:TA):TE:=fun σ H Q=>ta σ H fun vs H1=>∃ (a b:Addr) (z:Str) (v:V),vs=[.ref a,.ref b]/\H1 a=some (.lst [.str z])/\H1 b=some (.lst [v])/\∀ d,H1 d=none->Q (.ref d) (upd H1 d (.dK [(.inr z,v)]))
theorem pe_dictzip (hc:X.calm=true) (hg:Gl X "dict") (hm:X.mg "dict"=none) (hg2:Gl X "zip") (hm2:X.mg "zip"=none) (ha:PA X [e,f] ta)
  (hs:starEach [e,f] X.env=(false,eval e X.env)::starEach [f] X.env:=by rfl) (hp:(backTo pos2 (starEach [f] X.env)).any (·.1)=false:=by rfl)
  (hs2:starEach [.Call (.Name "zip" p2) [e,f] [] pos2] X.env=(false,eval (.Call (.Name "zip" p2) [e,f] [] pos2) X.env)::starEach [] X.env:=by rfl) (hp2:(backTo pos (starEach [] X.env)).any (·.1)=false:=by rfl) :
  PE X (.Call (.Name "dict" p) [.Call (.Name "zip" p2) [e,f] [] pos2] [] pos) (tDZ ta):=by
 intro pins s σ H Q I h
 refine wpAny_Call_Name_kw (ld_blt I hg hm bt_dict (PyProof.Rows.callWith_type1 ?_ hs2 hp2))
 rw [hs2]
 change wpAny _ _ (spliced ((false,eval (.Call (.Name "zip" p2) [e,f] [] pos2) X.env)::backTo pos (starEach [] X.env))) _ _ s
 refine Calls.spliced_cons ?_
 refine wpAny_Call_Name_kw (ld_blt I hg2 hm2 boot_zip (PyProof.Rows.callWith_type1 (thn (ha pos2 pins s σ H _ I h) fun us s1 hsl62=>?_) hs hp))
 obtain ⟨vs,H1,I1,r1,q1⟩:=hsl62
 obtain ⟨a,b,z,v,rfl,hqa,hqb,q⟩:=q1
 cases r1 with
 | cons ra r2 =>
 cases r2 with
 | cons rb r3 =>
 cases r3
 cases ra
 cases rb
 obtain ⟨_,its,n1,rv1,_,e1⟩:=I1.lstM hqa
 obtain ⟨_,jts,n2,rv2,_,e2⟩:=I1.lstM hqb
 obtain ⟨ku,rfl,t,rfl⟩:=rv1.one
 obtain ⟨vu,rfl,rvv⟩:=rv2.one
 have l1:s1.heap.IsList a #[.str z t]:=⟨_,e1,rfl,n1,rfl⟩
 have l2:s1.heap.IsList b #[vu]:=⟨_,e2,rfl,n2,rfl⟩
 have al:a<s1.heap.objs.size:=Heap.lt_size e1
 have bl:b<s1.heap.objs.size:=Heap.lt_size e2
 refine call_zip_2 l1 l2 fun hp hz hTI hTO j1 j2 sz kk=>?_
 refine Calls.spliced_nil ?_
 have atL:∀ {l:Addr} {xs:Array Value},s1.heap.IsList l xs->hp.IsList l xs:=fun h=>h.at fun o r=>kk _ _ r
 refine dict_zip1 (s:={ s1 with heap:=hp }) (key:=.inr z) (I1.ok.hd hc) (zipApart_new al bl) hz hTI ⟨_,_,hTO⟩ j1 j2 (atL l1) (atL l2) (kV_is (k:=.inr z) ⟨t,rfl⟩) fun g tk dd kg=>?_
 have keep:∀ b o,s1.heap.get? b=some o->g.get? b=some o:=fun b o r=>by
  have hb:=Heap.lt_size r
  exact kg b o (Nat.ne_of_lt (Nat.lt_of_lt_of_le hb (Nat.le_add_right _ 4))) (Nat.ne_of_lt (Nat.lt_of_lt_of_le hb (Nat.le_add_right _ 3))) (Nat.ne_of_lt hb) (Nat.ne_of_lt (Nat.lt_of_lt_of_le hb (Nat.le_add_right _ 1))) (kk _ _ r)
 have hge:s1.heap.objs.size<=hp.objs.size:=by rw [sz];omega
 have hd:(hp.objs.size == sysModules)=false:=beq_eq_false_iff_ne.mpr (Ne.symm (Nat.ne_of_lt (Nat.lt_of_lt_of_le I1.big hge)))
 have rel:KV [((Sum.inr z:Key),v)] [((Sum.inr z:Key),vu)]:=fill_rel (ps:=[(Sum.inr z,v)]) (qs:=[(Sum.inr z,vu)]) rfl fun i p q h1 h2=>by
  match i with
  | 0=>cases h1;cases h2;exact ⟨rfl,rvv⟩
  | i+1=>simp at h1
 refine ⟨.ref hp.objs.size,_,I1.laid (a:=hp.objs.size) (o:=.dK [(.inr z,v)]) (t':=tk) keep hge (dk_new (Nat.le_of_lt (small1000 (by simp))) hd rel dd),rfl,q _ (I1.hok.fresh hge)⟩
end
end L2
namespace L2
open PySem PySem.Spec PyProof.Rows
section
variable {prog:Program} {w:World} {K:Type} [DecidableEq K] {knd:HeapKind prog w K} {A:Around} {E:Value->Shared->Prop} {s:Shared} {d a:Addr} {k:K} {xs:List (K × Addr × Value)} {x:Value}
theorem setdef_heap {Q:Value->Shared->Prop} (hroom:knd.room A) (hk:knd.is s.heap k a) (D:s.heap.DictOfH knd d xs) (hz:xs.length<=sizeLine)
  (there:∀ v,(atKey xs k).map (·.2)=some v->Q v { s with toks:=s.toks+knd.draws k })
  (made:atKey xs k=none->∀ hp,hp.DictOfH knd d (storedH xs k a x)->Heap.SameBut d s.heap hp->Q x { s with heap:=hp,toks:=s.toks+knd.draws k }) :
  wpAny (model prog w) A (dictSetDefault d (.ref a) x) Q E s:=by
 obtain ⟨o,es,ep,ho,hc,hd,he,his,hn⟩:=D
 unfold dictSetDefault
 try with_reducible refine wpAny_holding ?_
 refine wpAny_bind (knd.pyHash hroom hk (wpAny_bind (wpAny_dictFind_heap (s:={ s with toks:=s.toks+knd.draws k }) hroom hk ho hd he his hn (fun no=>?_) fun j p hj=>?_)))
 ·have e0:=atKey_none_of_get no
  have nk:k∉xs.map (·.1):=not_mem_keys_of_get no
  refine wpAny_bind (wpAny_rule (wpAny_bind (wpAny_updateDictKeys (hz:=by have e:=size_of_entries he;omega) (s:={ s with toks:=s.toks+knd.draws k }) ho hd (wpAny_pure (made e0 _ ⟨_,_,ep+1,Heap.get?_update_self _ ho (Obj.isFreed_of_dict (Obj.data_mapDictKeys hd _)),
   hc.mapDictKeys _,Obj.data_mapDictKeys hd _,?_,?_,?_⟩ (Heap.SameBut.update ..))))))
  ·rw [storedH_new e0];simp [he,entryOfKey]
  ·rw [storedH_new e0]
   intro y hy
   rcases List.mem_append.mp hy with q | q
   ·exact knd.keeps (his y q) ho hd (Heap.SameBut.update ..)
   ·rw [List.mem_singleton.mp q];exact knd.keeps hk ho hd (Heap.SameBut.update ..)
  ·rw [storedH_new e0,List.map_append,List.nodup_append]
   exact ⟨hn,by simp,fun y hy z hq e=>nk (by rw [show z=k by simpa using hq] at e;rw [<- e];exact hy)⟩
 ·refine wpAny_bind (wpAny_dictEntries (s:={ s with toks:=s.toks+knd.draws k }) ho hd ?_)
  rw [entry_at he j,hj]
  refine wpAny_bind (wpAny_rule (wpAny_pure (there _ ?_)))
  rw [atKey_of_get hn hj];rfl
theorem meets_setdef (knd:HeapKind prog w K) (d a:Addr) (hs:(d == sysModules)=false) (x:Value) :
  MeetsIn prog w (Builtin.«dict.setdefault» ⟨[.ref d,.ref a,x],[]⟩) (fun A R s=>knd.room A.in1/\∃ k xs,knd.is s.heap k a/\s.heap.DictOfH knd d xs/\xs.length<=sizeLine /\
   (∀ v,(atKey xs k).map (·.2)=some v->R (.ok (.ret v)) { s with toks:=s.toks+knd.draws k }) /\
   (atKey xs k=none->∀ hp,hp.DictOfH knd d (storedH xs k a x)->Heap.SameBut d s.heap hp->R (.ok (.ret x)) { s with heap:=hp,toks:=s.toks+knd.draws k })) :=
 .of_wp fun A R s ⟨hu,k,xs,hk,D,hz,h1,h2⟩=>by
  unfold Builtin.«dict.setdefault»
  refine wpAny_bind ?_
  unfold Builtin.Dict.keyAndDefault
  refine wpAny_bind (wpAny_notOrdered_dict D.typeIs ?_)
  show wpAny _ _ (pure (d,Value.ref a,some x)) _ _ s
  refine wpAny_pure ?_
  show wpAny _ _ (if (d == sysModules)=true then _ else (dictSetDefault d (.ref a) x >>= _)) _ _ s
  rw [if_neg (by rw [hs];exact Bool.false_ne_true)]
  exact wpAny_bind (setdef_heap hu hk D hz (fun v hv=>wpAny_pure ⟨v,rfl,h1 v hv⟩) fun e hp dd sb=>wpAny_pure ⟨x,rfl,h2 e hp dd sb⟩)
end
section
variable {X:Cx} {o e f:Expr} {td ty tx:TE} {apos cpos:Pos}
noncomputable def tDSet (td ty tx:TE):TE:=fun σ H Q=>td σ H fun x H1=>∃ a,x=.ref a/\IsD H1 a/\ty σ H1 fun y H2=>tx σ H2 fun z H3=>∃ (kvs:List (List Key × V)) (k:List Key) (b:Addr),H3 a=some (.dT kvs)/\y=.ref b/\H3 b=some (.tup (k.map kV))/\kvs.length<sizeLine /\
 (∀ v,valV kvs k=some v->Q v H3)/\(valV kvs k=none->Q z (upd H3 a (.dT (putK kvs k z))))
theorem pe_dset (hu:X.A.units+1<cLine) (ho:PE X o td) (he:PE X e ty) (hf:PE X f tx) (m:M2 X o "setdefault" apos e f cpos):PE X (.Call (.Attribute o "setdefault" apos) [e,f] [] cpos) (tDSet td ty tx):=by
 intro pins s σ H Q I h
 refine wpAny_Call_method m.base m.few m.line PySem.F.plainAttrs_dict PySem.F.slot_dict_setdefault PySem.F.type_dict_setdefault (thn (ho pins s σ H _ I h) fun u s1 hsl63=>?_)
 obtain ⟨x,H1,I1,rx,a,ex,d,q1⟩:=hsl63
 subst ex
 obtain rfl:u=Value.ref a:=rx
 obtain ⟨t1,t2,_⟩:=isD_at I1 d
 refine ⟨t1,t2,?_⟩
 rw [m.trees]
 refine Calls.callWith_builtin rfl (Calls.evalArgs_plain (Calls.spliced_cons (thn (he pins s1 σ H1 _ I1 q1) fun iv s2 ⟨y,H2,I2,ry,q2⟩ =>
  Calls.spliced_cons (thn (hf pins s2 σ H2 _ I2 q2) fun fv s3 ⟨z,H3,I3,rz,kvs,k,b,ha,ey,hb,hz,q3,q4⟩=>Calls.spliced_nil ?_))))
 subst ey
 cases (show iv=Value.ref b from ry)
 obtain ⟨zl,hd,xs,rel,dd⟩:=dt_of I3.hok ha
 have hzx:xs.length<=sizeLine:=by rw [<- Paired.length rel];exact zl
 have rk:=rel.val k
 refine call_meetsIn PySem.F.slot_dict_setdefault dd.typeIs PySem.F.entry_dict_setdefault (PySem.F.args_dict_setdefault_3 _ _ _) (meets_setdef (tupleKind (mixKind X.prog X.w)) a b hd fv) ⟨tupleKind_room_in1 hu,k,xs,key_of I3.hok hb,dd,hzx,fun v hv=>?_,fun hn hp dd' sb=>?_⟩
 ·cases hv0:valV kvs k with
  | none =>
   rw [hv0] at rk
   rw [hv] at rk
   exact rk.elim
  | some v0 =>
   rw [hv0,hv] at rk
   exact ⟨v0,H3,I3.tok _,rk,q3 v0 hv0⟩
 ·have hn0:valV kvs k=none:=by
   cases hv0:valV kvs k with
   | none=>rfl
   | some v0 =>
    rw [hv0,hn] at rk
    exact rk.elim
  obtain ⟨q,es,ep,hq,h2,h3,h4,_,h5⟩:=dd'
  have hl:(putK kvs k z).length<=sizeLine:=by have:=length_putK kvs k z;omega
  refine ⟨z,upd H3 a (.dT (putK kvs k z)),d_write I3 (by rw [ha];exact True.intro) sb ⟨q,hq⟩ ⟨hl,hd,_,(rel.put k hb rz).keeps fun c ys ec=>?_,q,es,ep,hq,h2,h3,h4,h5⟩,rz,q4 hn0⟩
  rw [upd_ne (ne_of ec ha (fun z=>nomatch z))]
  exact ec
end
end L2
namespace L2
open PySem PySem.Spec PyProof.Rows
theorem vals_strsI:∀ {zs:List Str} {us:List Value},Vals (zs.map V.str) us->∀ (i:Nat) (u:Value),us[i]?=some u->∃ z t,zs[i]?=some z/\u=.str z t
 | [],_,.nil,i,u,h=>by simp at h
 | z::zs,_,.cons (b:=x) ⟨t,e⟩ _,0,u,h=>⟨z,t,rfl,by
   have:x=u:=by simpa using h
   rw [<- this];exact e⟩
 | z::zs,_,.cons _ r,i+1,u,h=>by
  obtain ⟨z',t,e,f⟩:=vals_strsI r i u (by simpa using h)
  exact ⟨z',t,by simpa using e,f⟩
section
variable {X:Cx}
theorem mt_lindex:MtM X "list.index" (fun x vs H Q=>∃ (l:Addr) (zs:List Str) (z:Str) (j:Nat),x=.ref l/\vs=[.str z]/\H l=some (.lst (zs.map V.str))/\zs[j]?=some z/\(∀ m,m<j->zs[m]?≠some z)/\j<1000/\Q (.int ((j:Nat):Int)) H):=by
 intro pins s σ H x vs v us Q I rx rv h
 obtain ⟨l,zs,z,j,rfl,rfl,hH,hj,hno,hb,q⟩:=h
 cases rx
 obtain ⟨u,rfl,t,rfl⟩:=rv.one
 obtain ⟨_,its,n,r,hl,e⟩:=I.lstM hH
 have hjl:j<its.length:=by
  rw [<- hl,List.length_map]
  exact (List.getElem?_eq_some_iff.mp hj).1
 have hs:∀ m (hm:m<its.length),∃ y t,zs[m]?=some y/\its[m]=.str y t:=fun m hm=>vals_strsI r m _ (List.getElem?_eq_getElem hm)
 refine call_meets F.slot_list_index ⟨_,e,rfl⟩ F.entry_list_index (F.args_list_index_2 _ _) (SeqAt.list_indexAt l its.toArray n none #[] (.str z t) (fun y=>match y with | .str y _=>y == z | _=>false) j (by simpa using hjl) (by omega) ?_ ?_) ⟨e,fun y hy=>?_,?_⟩
 ·obtain ⟨y,t',h1,h2⟩:=hs j hjl
  rw [hj] at h1
  cases h1
  simp [h2]
 ·intro m hm hmj
  have hm:m<its.length:=by simpa using hm
  obtain ⟨y,t',h1,h2⟩:=hs m hm
  have:y≠z:=fun w=>hno m hmj (by rw [h1,w])
  simp [h2,this]
 ·obtain ⟨m,hm,rfl⟩:=List.mem_iff_getElem.mp (show y∈its by simpa using hy)
  obtain ⟨y',t',h1,h2⟩:=hs m hm
  rw [h2]
  exact SeqAt.EqAt.str_str _ _ _ _
 ·exact ⟨.int ((j:Nat):Int),H,I.tok _,⟨_,rfl⟩,q⟩
end
end L2
namespace L2
open PySem PySem.Spec PyProof.Rows
theorem call_isinstK {X:Cx} {K:PySem.W.Frag} {n:String} (hK:X.K=K):CallR X (.builtin "isinstance") (fun xs H Q=>∃ x t b,xs=[x,.ty n]/\TyOf K H x t/\PySem.W.kitOne K t (.type n)=some b/\Q (.bl b) H):=by subst hK;exact call_isinst
end L2
namespace L2
open PySem PySem.Spec PyProof.Rows
section
variable {X:Cx}
theorem try_cut {κ:Option Value->Prop} {K:PySem.W.Frag} {C:Addr} {i:Nat} {tb:XK->TS} {ts:TS} {D:Ends} {σ:St} {H:Hp} (B:Value->Option Addr->Hp->Prop) (h1:∀ E:XK,(∀ c dd H1,B c dd H1->E c dd H1)->tb E D σ H)
  (h2:∀ c dd H1,B c dd H1->PySem.W.exmOne K c (.ref C)=some true/\∀ ea cx,κ cx->H1 ea=none->ts (D.unset i) (σ.set i (some (.ref ea))) (upd H1 ea (excD ea c dd cx))):tTryD κ K C i tb ts D σ H:=h1 _ h2
end
end L2
namespace L2
open PySem PySem.Spec PyProof.Rows
mutual
inductive RdH (H:Hp):V->PyData->Prop
 | non:RdH H .non .none
 | bl (b:Bool):RdH H (.bl b) (.bool b)
 | int (i:Int):RdH H (.int i) (.int i)
 | str (x:Str):RdH H (.str x) (.str x)
 | lst {a:Addr} {xs:List V} {ds:List PyData}:H a=some (.lst xs)->RdHA H xs ds->RdH H (.ref a) (.list ds)
 | tup {a:Addr} {xs:List V} {ds:List PyData}:H a=some (.tup xs)->RdHA H xs ds->RdH H (.ref a) (.tuple ds)
inductive RdHA (H:Hp):List V->List PyData->Prop
 | nil:RdHA H [] []
 | cons {x:V} {d:PyData} {xs:List V} {ds:List PyData}:RdH H x d->RdHA H xs ds->RdHA H (x::xs) (d::ds)
end
theorem SqTo {H:Hp} {a:Addr} {xs:List V} (h:H a=some (.tup xs)):H a=some (.tup xs):=h
theorem SqLo {H:Hp} {a:Addr} {xs:List V} (h:H a=some (.lst xs)):H a=some (.lst xs):=h
mutual
theorem RdH.kept {H H':Hp} (s:Same H H'):∀ {v:V} {d:PyData},RdH H v d->RdH H' v d
 | _,_,.non=>.non
 | _,_,.bl b=>.bl b
 | _,_,.int i=>.int i
 | _,_,.str x=>.str x
 | _,_,.lst a b=>.lst (s _ _ a) (b.kept s)
 | _,_,.tup a b=>.tup (s _ _ a) (b.kept s)
theorem RdHA.kept {H H':Hp} (s:Same H H'):∀ {v:List V} {d:List PyData},RdHA H v d->RdHA H' v d
 | _,_,.nil=>.nil
 | _,_,.cons a b=>.cons (a.kept s) (b.kept s)
end
theorem RdHA.app {H:Hp}:∀ {vs us:List V} {ds es:List PyData},RdHA H vs ds->RdHA H us es->RdHA H (vs++us) (ds++es)
 | _,_,_,_,.nil,h=>h
 | _,_,_,_,.cons a b,h=>.cons a (b.app h)
theorem RdHA.get {H:Hp}:∀ {vs:List V} {ds:List PyData},vs.length=ds.length->(∀ (i:Nat) (v:V) (d:PyData),vs[i]?=some v->ds[i]?=some d->RdH H v d)->RdHA H vs ds
 | [],[],_,_=>.nil
 | v::vs,d::ds,hl,h=>.cons (h 0 v d rfl rfl) (RdHA.get (by simpa using hl) fun i v' d' a b=>h (i+1) v' d' (by simpa using a) (by simpa using b))
end L2
namespace HT
open PySem PyProof.Rows
open PySem.SeqAt
open PySem.AutoSeq1 (wpAny_loadPart')
open PySem.MeetsSeq PySem.MeetsSeq2 PySem.MeetsSeq3
section
variable {prog:Program} {w:World} {A:Around} {E:Value->Shared->Prop} {s:Shared}
end
end HT
namespace L2
open PySem PySem.Spec PyProof.Rows
section
variable {X:Cx}
end
end L2
namespace L2
open PySem PySem.Spec PyProof.Rows
noncomputable def dstep (σ:List Str) (v:Str):List Str:=if σ.any (· == v) then σ else σ++[v]
noncomputable def metS (val:Nat->Str) (i:Nat):List Str:=((List.range i).map val).foldl dstep []
theorem metS_succ (val:Nat->Str) (i:Nat):metS val (i+1)=dstep (metS val i) (val i):=by
 unfold metS;rw [List.range_succ,List.map_append,List.foldl_append];rfl
theorem dstep_any (σ:List Str) (v k:Str):(dstep σ v).any (· == k)=(σ.any (· == k)||decide (k=v)):=by
 unfold dstep
 by_cases h:σ.any (· == v)=true
 ·rw [if_pos h]
  by_cases e:k=v
  ·subst e;rw [h];simp
  ·simp [e]
 ·rw [if_neg h,List.any_append]
  by_cases e:k=v
  ·subst e;simp
  ·have hb:(v == k)=false:=by simpa [beq_iff_eq] using (fun h':v=k=>e h'.symm)
   simp [hb,e]
theorem dstep_length (σ:List Str) (v:Str):(dstep σ v).length=if σ.any (· == v) then σ.length else σ.length+1:=by
 unfold dstep;split<;>simp
theorem metS_le (val:Nat->Str):∀ i,(metS val i).length<=i
 | 0=>Nat.le_refl _
 | i+1=>by
  have ih:=metS_le val i
  rw [metS_succ,dstep_length]
  split<;>omega
theorem strs_at:∀ {vs:List Value} {zs:List Str},StrsAre vs zs->∀ (i:Nat) (v:Value),vs[i]?=some v->∃ t,v=.str (zs.getD i ⟨#[]⟩) t
 | _,_,.nil,i,v,h=>by simp at h
 | _,_,.cons n t hr,0,v,h=>by simp at h;exact ⟨t,by rw [<- h];rfl⟩
 | _,_,.cons n t hr,i+1,v,h=>by
  obtain ⟨t',e⟩:=strs_at hr i v (by simpa using h)
  exact ⟨t',by rw [e];rfl⟩
section
variable {prog:Program} {w:World} {A:Around} {R:Result->Shared->Prop} {I:Addr} {fp wr:List Addr} {G:Array GenState->Array GenState->Prop} {n:Nat} {P:Nat->Value->Prop} {St:Nat->Shared->Prop}
theorem set_loopT (W:WalksS prog w A.in1 I fp wr G n P St) (S:Addr) (hSf:S∉fp) (val:Nat->Str) (hval:∀ i v,P i v->∃ t,v=.str (val i) t) (hb:n+1<scanBound) :
  ∀ (k i:Nat) (s:Shared),n-i=k->i<=n->St i s->s.heap.SetOf (strKind prog w) S (fun k'=>(metS val i).any (· == k')) (metS val i).length ->
   (∀ s',Moved (S::wr) G s s'->s'.heap.SetOf (strKind prog w) S (fun k'=>(metS val n).any (· == k')) (metS val n).length->R (.ok (.ret .none)) s') ->
   codeAny (model prog w) A (.builtin "set.update.loop" ⟨[.ref S,.ref I],[]⟩) R s:=by
 have hSw:S∉wr:=fun h=>hSf (W.sub _ h)
 have hsub:∀ b∈wr,b∈S::wr:=fun b hb=>List.mem_cons_of_mem _ hb
 intro k
 induction k with
 | zero =>
  intro i s hk hi hst hS hR
  have hin:i=n:=by omega
  subst hin
  refine codeAny_builtin F.entry_set_update_loop ?_
  rw [Around.under_plainId F.plain_set_update_loop _]
  show wpAny _ A.in1 (pyNext (.ref I) >>= _) _ _ s
  refine wpAny_bind (W.done s _ _ hst fun s' hm=>?_)
  refine wpAny_pure (hR s' (hm.mono hsub) ?_)
  obtain ⟨o,es,ep,t,ho,rest⟩:=hS
  exact ⟨o,es,ep,t,hm.heap S _ hSw ho,rest⟩
 | succ k ih =>
  intro i s hk hi hst hS hR
  have hlt:i<n:=by omega
  refine codeAny_builtin F.entry_set_update_loop ?_
  rw [Around.under_plainId F.plain_set_update_loop _]
  show wpAny _ A.in1 (pyNext (.ref I) >>= _) _ _ s
  refine wpAny_bind (W.item i s _ _ hlt hst fun v s' hP hst' hm=>?_)
  obtain ⟨t,rfl⟩:=hval i v hP
  have hS1:s'.heap.SetOf (strKind prog w) S (fun k'=>(metS val i).any (· == k')) (metS val i).length:=by
   obtain ⟨o,es,ep,tb,ho,rest⟩:=hS
   exact ⟨o,es,ep,tb,hm.heap S _ hSw ho,rest⟩
  show wpAny _ A.in1 (holding [Value.str (val i) t] (setAdd S (.str (val i) t)) >>= _) _ _ s'
  refine wpAny_bind (wpAny_holding ?_)
  unfold setAdd
  refine wpAny_holding ?_
  refine wpAny_bind ((strKind prog w).pyHash (k:=val i) (strKind_is _ _ _ _) ?_)
  have hroom:(metS val i).length+1<scanBound:=by have:=metS_le val i;omega
  refine wpAny_setAddHashed_of (knd:=strKind prog w) (s:={ s' with toks:=s'.toks+1 }) (strKind_is _ _ _ _) rfl hS1 hroom fun h' hsb hS2=>?_
  have hSi:h'.SetOf (strKind prog w) S (fun k'=>(metS val (i+1)).any (· == k')) (metS val (i+1)).length :=
   SetOf_congr hS2 (fun k'=>by rw [metS_succ,dstep_any]) (by rw [metS_succ,dstep_length])
  refine wpAny_pure ⟨plainId_quiet F.plain_set_update_loop _,ih (i+1) _ (by omega) hlt (W.frame _ s' _ _ hst' (Nat.le_succ _) fun b hb o e=>?_) hSi fun s2 hm2 hS3=>?_⟩
  ·rw [hsb.2 b (fun h:b=S=>hSf (by rw [<- h];exact hb))];exact e
  ·refine hR s2 (Moved.trans W.gtrans ((hm.mono hsub).then_heap (Nat.le_succ _) fun b o hb e=>?_) hm2) hS3
   rw [hsb.2 b (fun h:b=S=>hb (by rw [h];exact List.mem_cons_self))];exact e
end
noncomputable abbrev newSet (led:Bool):Obj:={ cls:=.type "set",dict:=none,data:=.set #[] 0 (.fresh 0 0 led) }
section
variable {prog:Program} {w:World} {A:Around} {E:Value->Shared->Prop} {s:Shared}
open PySem in
theorem set_listT {l:Addr} {items:Array Value} {zs:List Str} {Q:Value->Shared->Prop} (hh:A.handled=none) (hl:s.heap.IsList l items) (hi:StrsAre items.toList zs) (hb:items.size+1<scanBound)
  (h:∀ (h':Heap) (tk:Nat),h'.SetOf (strKind prog w) s.heap.objs.size (fun k'=>(metS (fun i=>zs.getD i ⟨#[]⟩) items.size).any (· == k')) (metS (fun i=>zs.getD i ⟨#[]⟩) items.size).length ->
   (∀ b o,b<s.heap.objs.size->s.heap.get? b=some o->h'.get? b=some o)->Q (.ref s.heap.objs.size) { s with heap:=h',toks:=tk }):wpAny (model prog w) A (call (.type "set") [.ref l]) Q E s:=by
 obtain ⟨c,tl,hmro⟩:=F.called_set.mro
 have hmade:=F.called_set.made
 have hsub:=F.called_set.sub
 refine wpAny_call (codeAny_of_tree ?_)
 show wpAny _ _ (callAny (.type "set") _) _ _ _
 refine wpAny_pure ⟨Code.quiet_builtin _ (by decide +kernel),codeAny_builtin F.entry_type_call ?_⟩
 rw [Around.under_plain (weight_type_call_type "set" [.ref l] []) rfl]
 have h1:=F.called_set.notType
 have h2:=F.called_set.canCreate
 have hct:=F.typeCall_set_1 (.ref l)
 repeat (any_goals (first | assumption | wp_step))
 refine codeAny_mono (code_set_new_1 (.ref l) (E:=E) (Q₁:=fun obj s1=>∃ led:Bool,obj=.ref s.heap.objs.size/\s1={ s with heap:=s.heap.push (newSet led) }) fun led=>⟨led,rfl,rfl⟩) fun r s1 hr=>?_
 cases r with
 | error e=>exact hr
 | ok fl =>
  cases fl with
  | ret obj =>
   obtain ⟨led,rfl,rfl⟩:=hr
   have hS:(s.heap.push (newSet led)).get? s.heap.objs.size=some (newSet led):=Heap.get?_push_size _ rfl
   have hT:Shared.TypeIs { s with heap:=s.heap.push (newSet led) } (.ref s.heap.objs.size) "set":=⟨_,hS,rfl⟩
   have hli:=F.called_set.init.lookup
   have hbi:=F.called_set.init.bind (.ref s.heap.objs.size)
   repeat (any_goals (first | assumption | wp_step))
   refine codeAny_mono (codeAny_call_builtin (R:=wants (fun r s2=>r=.none/\∃ h' tk,s2={ s with heap:=h',toks:=tk }/\h'.SetOf (strKind prog w) s.heap.objs.size (fun k'=>(metS (fun i=>zs.getD i ⟨#[]⟩) items.size).any (· == k')) (metS (fun i=>zs.getD i ⟨#[]⟩) items.size).length /\
     (∀ b o,b<s.heap.objs.size->s.heap.get? b=some o->h'.get? b=some o)) E) F.called_set.init.plain F.entry_set_init (check_set_init_1 hT ?_)) fun r2 s2 hr2=>?_
   ·obtain ⟨ol,hol,hcl,nl,hdl⟩:=hl
    obtain ⟨ocls,odict,odata,oslots⟩:=ol
    simp only at hcl hdl
    subst hcl;subst hdl
    have hol':(s.heap.push (newSet led)).get? l=some { cls:=.type "list",dict:=odict,data:=.seq items nl,slots:=oslots }:=Heap.get?_push_of_some _ hol
    have hsls:=F.sub_list_set
    have hslf:=F.sub_list_frozenset
    have hne:(Value.type "list" == Value.type "dict")=false:=by decide
    have hl1:(s.heap.push (newSet led)).IsList l items:=⟨_,hol',rfl,nl,rfl⟩
    unfold Builtin.«set.__init__» noKeywords Builtin.Frozenset.updateFrom
    generalize hPI:pyIter=PI
    wp_walk
    subst hPI
    refine wpAny_pyIter_list hl1 (wpAny_bind (wpAny_runValue ?_))
    have hlS:l<s.heap.objs.size:=Heap.lt_size hol
    have hh3:A.in1.in1.in1.handled=none:=by simp [hh]
    have hneI:l≠(s.heap.push (newSet led)).objs.size:=by
     rw [Heap.size_push];exact Nat.ne_of_lt (Nat.lt_succ_of_lt hlS)
    have hSf:s.heap.objs.size∉[(s.heap.push (newSet led)).objs.size,l]:=by
     rw [Heap.size_push];simp only [List.mem_cons,List.mem_singleton,List.not_mem_nil,or_false,not_or]
     exact ⟨Nat.ne_of_lt (Nat.lt_succ_self _),Nat.ne_of_gt hlS⟩
    have hval:∀ (i:Nat) (v:Value),items[i]?=some v->∃ t,v=.str ((fun i=>zs.getD i ⟨#[]⟩) i) t:=fun i v hv=>strs_at hi i v (by rw [Array.getElem?_toList];exact hv)
    refine set_loopT ((Walks.list hh3 _ l hneI items).toS) s.heap.objs.size hSf (fun i=>zs.getD i ⟨#[]⟩) hval hb (items.size-0) 0 _ (by omega) (Nat.zero_le _) ⟨⟨_,Heap.get?_push_size _ rfl,rfl,rfl⟩,(hl1.push _)⟩ ?hS0 ?hR
    case hS0 =>
     have hget:=Heap.get?_push_of_some { cls:=.type "list_iterator",data:=.fields #[.ref l,.int 0 0] } hS
     exact SetOf_congr ((setObjOf_fresh (knd:=strKind prog w) led).setOf hget (by unfold scanBound;omega)) (fun _=>rfl) rfl
    case hR =>
     intro s' hm hS'
     obtain ⟨h',g',d',tk',os'⟩:=s'
     have eg:g'=s.gens:=hm.gens
     have ed:d'=s.drawn:=hm.drawn
     have eo:os'=s.os:=hm.os
     subst eg;subst ed;subst eo
     refine wpAny_pure (wpAny_pure ⟨rfl,h',tk',rfl,hS',fun b o hb e=>?_⟩)
     have hb1:b≠s.heap.objs.size:=Nat.ne_of_lt hb
     have hb2:b≠(s.heap.push (newSet led)).objs.size:=by
      rw [Heap.size_push];exact Nat.ne_of_lt (Nat.lt_succ_of_lt hb)
     exact hm.heap b o (by simp only [List.mem_cons,List.mem_singleton,List.not_mem_nil,or_false,not_or];exact ⟨hb1,hb2⟩) (Heap.get?_push_of_some _ (Heap.get?_push_of_some _ e))
   ·cases r2 with
    | error e=>exact hr2
    | ok fl2 =>
     cases fl2 with
     | ret r =>
      obtain ⟨rfl,h',tk,rfl,hS',hk'⟩:=hr2
      repeat (any_goals (first | assumption | wp_step))
      exact h _ _ hS' hk'
     | _=>exact hr2.elim
  | _=>exact hr.elim
end
noncomputable def SetN (q:Addr) (n:Nat):HO:=.ext fun h=>∃ o es ep t,h.get? q=some o/\o.ExactSet/\o.data=.set es ep t/\t.fits es.size=true/\es.size=n
noncomputable def unl (zs:List Str):Nat:=(metS (fun i=>zs.getD i ⟨#[]⟩) zs.length).length
theorem strsT_of:∀ {zs:List Str} {us:List Value},Vals (zs.map V.str) us->StrsAre us zs
 | [],_,r=>by cases r;exact .nil
 | z::zs,_,r=>by
  cases r with
  | cons r1 r2 =>
   obtain ⟨t,rfl⟩:=(show ∃ t,_=Value.str z t from r1)
   exact .cons z t (strsT_of r2)
section
variable {X:Cx}
theorem call_setT {K:PySem.W.Frag} (hK:X.K=K) (hc:X.calm=true):CallR X (.type "set") (fun xs H Q=>∃ (p:Addr) (zs:List Str),xs=[.ref p]/\SqL K H p (zs.map V.str)/\zs.length<=1000/\∀ q,H q=none->Q (.ref q) (upd H q (SetN q (unl zs)))):=by
 intro pins s σ H xs us Q I r h
 subst hK
 obtain ⟨p,zs,rfl,hq,hl,q⟩:=h
 obtain ⟨u,rfl,ru⟩:=vals1 r
 cases (show u=Value.ref p from ru)
 obtain ⟨its,rv,pl,hz⟩:=I.list hq
 have hlen:its.toArray.size=zs.length:=by rw [List.size_toArray,<- rv.length,List.length_map]
 refine set_listT (I.ok.hd hc) pl.isList (by simpa using strsT_of rv) (by rw [hlen];unfold scanBound;omega) fun h' tk hS hk=>?_
 rw [hlen] at hS
 obtain ⟨o,es,ep,t,ho,hex,hd,_,_,_,hf,hn⟩:=hS
 have k2:∀ b u,s.heap.get? b=some u->h'.get? b=some u:=fun b u e=>hk b u (Heap.lt_size e) e
 refine ⟨.ref s.heap.objs.size,_,I.laid (t':=tk) (o:=SetN s.heap.objs.size (unl zs)) k2 (Nat.le_refl _) ⟨⟨o,es,ep,t,ho,hex,hd,hf,hn⟩,⟨o,ho⟩,fun h1 h2 hsl64 kk=>by obtain ⟨o,es,ep,t,e,r⟩:=hsl64;exact ⟨o,es,ep,t,kk o e,r⟩⟩,rfl,q _ I.fresh⟩
theorem call_lenS:CallR X (.builtin "len") (fun xs H Q=>∃ (p:Addr) (n:Nat),xs=[.ref p]/\H p=some (SetN p n)/\n<=1000/\Q (.int (n:Nat)) H):=by
 intro pins s σ H xs us Q I r h
 obtain ⟨p,n,rfl,hp,hn,q⟩:=h
 obtain ⟨u,rfl,ru⟩:=vals1 r
 cases (show u=Value.ref p from ru)
 obtain ⟨⟨o,es,ep,t,ho,hex,hd,hf,e⟩,_⟩:=(show ObjOk X.prog X.w H s.heap p (SetN p n) from I.hok p _ hp)
 subst e
 exact call_len_set ho hex hd hf (by omega) ⟨.int (es.size:Nat),H,I.tok _,⟨_,rfl⟩,q⟩
end
end L2
namespace L2
open PySem PySem.Spec PyProof.Rows
section
variable {X:Cx}
end
end L2
namespace L2
open PySem PySem.Spec PyProof.Rows
section
variable {X:Cx}
end
end L2
namespace L2
open PySem PySem.Spec PyProof.Rows
section
variable {X:Cx}
end
end L2
namespace L2
open PySem PySem.Spec PyProof.Rows
section
variable {X:Cx}
end
end L2
namespace Mm
open PySem L2 PyProof.Rows
end Mm
namespace L2
open PySem PySem.Spec PyProof.Rows
section
variable {M:Model} {A:Around} {E:Value->Shared->Prop} {s:Shared}
end
section
variable {X:Cx} {pins:List (Addr × Obj)} {σ:St} {H H':Hp} {s s':Shared} {B h'':Heap}
end
section
variable {P:Program} {w:World} {K:PySem.W.Frag} {mg:Str->Option Value} {base:Heap} {N:List Str} {qual:Str} {scope:Scope} {f:Addr} {cd:Value} {A:Around} {outer:List Env} {s₀:Shared} {H₀:Hp} {E:XK}
end
section
variable {X:Cx} {pins:List (Addr × Obj)} {σ:St} {H2:Hp} {s2:Shared} {elt iter tg:Expr} {xs:List Str} {ifs:List Expr} {sc scX:Scope} {pos:Pos} {fv:List Str} {js:List Nat} {g:TG} {tt:TT}
end
end L2
namespace L2
open PySem PySem.Spec PyProof.Rows
section
variable {X:Cx}
end
theorem pe_xfldK {X:Cx} {K:PySem.W.Frag} {e:Expr} {f:Str} {pos:Pos} {ta:TE} (hK:X.K=K) (he:PE X e ta) (hb:attributeBase e f X.env (eval e X.env)=eval e X.env):PE X (.Attribute e f pos) (tXfld K ta f):=by
 subst hK
 exact pe_xfld he hb
end L2
namespace L2
open PySem PySem.Spec PyProof.Rows
section
variable {P:Program} {w:World} {K:PySem.W.Frag} {mg:Str->Option Value} {base:Heap}
end
section
variable {X:Cx}
end
section
variable {X:Cx}
end
end L2
namespace K63
open PySem L2 Mm
noncomputable def top (i:Nat):Stmt:=PySem.Challenge.pw_manymakes_k63_calls_and_records_run.main.body.getD i (.Pass ⟨0,0,0,0⟩)
noncomputable abbrev st_ZM:Stmt:=top 12
noncomputable abbrev st_ZN:Stmt:=top 13
noncomputable abbrev st_ZD:Stmt:=top 14
noncomputable abbrev st_ZG:Stmt:=top 16
noncomputable abbrev st_ZE:Stmt:=top 17
noncomputable abbrev st_Zy:Stmt:=top 34
noncomputable abbrev st_Zr:Stmt:=top 35
noncomputable abbrev st_Zp:Stmt:=top 36
noncomputable abbrev st_ZH:Stmt:=top 37
noncomputable abbrev st_ZQ:Stmt:=top 38
noncomputable abbrev st_ZR:Stmt:=top 39
noncomputable abbrev st_ZO:Stmt:=top 19
noncomputable abbrev st_ZI:Stmt:=top 20
noncomputable abbrev st_Zz:Stmt:=top 26
noncomputable abbrev st_Zs:Stmt:=top 27
noncomputable abbrev st_ZJ:Stmt:=top 28
noncomputable abbrev st_ZA:Stmt:=top 29
noncomputable abbrev st_ZF:Stmt:=top 30
noncomputable abbrev st_Zt:Stmt:=top 41
noncomputable abbrev st_ZB:Stmt:=top 42
noncomputable abbrev st_ZK:Stmt:=top 43
noncomputable abbrev st_ZL:Stmt:=top 44
noncomputable abbrev st_ZP:Stmt:=top 45
noncomputable abbrev st_Zu:Stmt:=inClass (top 15) 0
noncomputable abbrev st_Zq:Stmt:=inClass (top 15) 1
noncomputable abbrev st_Zv:Stmt:=inClass (top 15) 2
noncomputable abbrev st_Zj:Stmt:=inClass (top 15) 3
noncomputable abbrev st_Za:Stmt:=inClass (top 15) 4
noncomputable abbrev st_Zk:Stmt:=inClass (top 15) 5
noncomputable abbrev st_Zc:Stmt:=inClass (top 15) 6
noncomputable abbrev st_Zd:Stmt:=inClass (top 15) 7
noncomputable abbrev st_Zb:Stmt:=inClass (top 15) 8
noncomputable abbrev st_Zl:Stmt:=inClass (top 15) 9
noncomputable abbrev st_Ze:Stmt:=inClass (top 15) 10
noncomputable abbrev st_Zf:Stmt:=inClass (top 15) 11
noncomputable abbrev st_ZC:Stmt:=inClass (top 33) 0
noncomputable abbrev st_Zn:Stmt:=inClass (top 25) 0
noncomputable abbrev st_Zg:Stmt:=inClass (top 25) 1
noncomputable abbrev st_Zm:Stmt:=inClass (top 25) 2
noncomputable abbrev st_Zo:Stmt:=inClass (top 25) 4
noncomputable abbrev st_Zh:Stmt:=inClass (top 25) 5
noncomputable abbrev st_Zi:Stmt:=inClass (top 25) 6
noncomputable abbrev st_Zw:Stmt:=inClass (top 2) 0
noncomputable abbrev st_Zx:Stmt:=inClass (top 24) 0
noncomputable abbrev st_law:Stmt:=top 46
structure Adr where
 ZM:Addr
 ZN:Addr
 ZD:Addr
 ZG:Addr
 ZE:Addr
 Zy:Addr
 Zr:Addr
 Zp:Addr
 ZH:Addr
 ZQ:Addr
 ZR:Addr
 ZO:Addr
 ZI:Addr
 Zz:Addr
 Zs:Addr
 ZJ:Addr
 ZA:Addr
 ZF:Addr
 Zt:Addr
 ZB:Addr
 ZK:Addr
 ZL:Addr
 ZP:Addr
 Zu:Addr
 Zq:Addr
 Zv:Addr
 Zj:Addr
 Za:Addr
 Zk:Addr
 Zc:Addr
 Zd:Addr
 Zb:Addr
 Zl:Addr
 Ze:Addr
 Zf:Addr
 ZC:Addr
 Zn:Addr
 Zg:Addr
 Zm:Addr
 Zo:Addr
 Zh:Addr
 Zi:Addr
 Zw:Addr
 Zx:Addr
 c_Phrase:Addr
 c_Block:Addr
 c_PlainRun:Addr
 x_MakesError:Addr
 x_NoForm:Addr
 x_RunEnd:Addr
 q_LANGUAGE_WORDS:Addr
 q_OPERATORS:Addr
 q_PLAIN_KINDS:Addr
structure Fds where
 ZM:FuncData
 ZN:FuncData
 ZD:FuncData
 ZG:FuncData
 ZE:FuncData
 Zy:FuncData
 Zr:FuncData
 Zp:FuncData
 ZH:FuncData
 ZQ:FuncData
 ZR:FuncData
 ZO:FuncData
 ZI:FuncData
 Zz:FuncData
 Zs:FuncData
 ZJ:FuncData
 ZA:FuncData
 ZF:FuncData
 Zt:FuncData
 ZB:FuncData
 ZK:FuncData
 ZL:FuncData
 ZP:FuncData
 Zu:FuncData
 Zq:FuncData
 Zv:FuncData
 Zj:FuncData
 Za:FuncData
 Zk:FuncData
 Zc:FuncData
 Zd:FuncData
 Zb:FuncData
 Zl:FuncData
 Ze:FuncData
 Zf:FuncData
 ZC:FuncData
 Zn:FuncData
 Zg:FuncData
 Zm:FuncData
 Zo:FuncData
 Zh:FuncData
 Zi:FuncData
 Zw:FuncData
 Zx:FuncData
structure All (P:Program) (w:World) (K:PySem.W.Frag) (mg:Str->Option Value) (A:Adr) (D:Fds):Prop where
 m_ZM:mg "made_of"=some (.ref A.ZM)
 k_ZM:PySem.W.keepIn K (.ref A.ZM)=true
 F_ZM:Fun K "made_of" "made_of" st_ZM A.ZM D.ZM
 b_ZM:Binds K D.ZM ["word","signs","most"] []
 m_ZN:mg "is_name"=some (.ref A.ZN)
 k_ZN:PySem.W.keepIn K (.ref A.ZN)=true
 F_ZN:Fun K "is_name" "is_name" st_ZN A.ZN D.ZN
 b_ZN:Binds K D.ZN ["word"] []
 m_ZD:mg "is_number"=some (.ref A.ZD)
 k_ZD:PySem.W.keepIn K (.ref A.ZD)=true
 F_ZD:Fun K "is_number" "is_number" st_ZD A.ZD D.ZD
 b_ZD:Binds K D.ZD ["word"] []
 m_ZG:mg "read_row"=some (.ref A.ZG)
 k_ZG:PySem.W.keepIn K (.ref A.ZG)=true
 F_ZG:Fun K "read_row" "read_row" st_ZG A.ZG D.ZG
 b_ZG:Binds K D.ZG ["words","at"] []
 m_ZE:mg "read_head"=some (.ref A.ZE)
 k_ZE:PySem.W.keepIn K (.ref A.ZE)=true
 F_ZE:Fun K "read_head" "read_head" st_ZE A.ZE D.ZE
 b_ZE:Binds K D.ZE ["phrase","word"] []
 m_Zy:mg "read_plain"=some (.ref A.Zy)
 k_Zy:PySem.W.keepIn K (.ref A.Zy)=true
 F_Zy:Fun K "read_plain" "read_plain" st_Zy A.Zy D.Zy
 b_Zy:Binds K D.Zy ["rows"] []
 m_Zr:mg "place_fault"=some (.ref A.Zr)
 k_Zr:PySem.W.keepIn K (.ref A.Zr)=true
 F_Zr:Fun K "place_fault" "place_fault" st_Zr A.Zr D.Zr
 b_Zr:Binds K D.Zr ["word","within"] []
 m_Zp:mg "is_misplaced"=some (.ref A.Zp)
 k_Zp:PySem.W.keepIn K (.ref A.Zp)=true
 F_Zp:Fun K "is_misplaced" "is_misplaced" st_Zp A.Zp D.Zp
 b_Zp:Binds K D.Zp ["word","within"] []
 m_ZH:mg "is_stray"=some (.ref A.ZH)
 k_ZH:PySem.W.keepIn K (.ref A.ZH)=true
 F_ZH:Fun K "is_stray" "is_stray" st_ZH A.ZH D.ZH
 b_ZH:Binds K D.ZH ["word","within"] []
 m_ZQ:mg "put_in"=some (.ref A.ZQ)
 k_ZQ:PySem.W.keepIn K (.ref A.ZQ)=true
 F_ZQ:Fun K "put_in" "put_in" st_ZQ A.ZQ D.ZQ
 b_ZQ:Binds K D.ZQ ["head","tree","blocks"] []
 m_ZR:mg "begun"=some (.ref A.ZR)
 k_ZR:PySem.W.keepIn K (.ref A.ZR)=true
 F_ZR:Fun K "begun" "begun" st_ZR A.ZR D.ZR
 b_ZR:Binds K D.ZR ["head","blocks"] []
 m_ZO:mg "expr_of"=some (.ref A.ZO)
 k_ZO:PySem.W.keepIn K (.ref A.ZO)=true
 F_ZO:Fun K "expr_of" "expr_of" st_ZO A.ZO D.ZO
 b_ZO:Binds K D.ZO ["one"] []
 m_ZI:mg "exprs_in"=some (.ref A.ZI)
 k_ZI:PySem.W.keepIn K (.ref A.ZI)=true
 F_ZI:Fun K "exprs_in" "exprs_in" st_ZI A.ZI D.ZI
 b_ZI:Binds K D.ZI ["e"] []
 m_Zz:mg "first_ones"=some (.ref A.Zz)
 k_Zz:PySem.W.keepIn K (.ref A.Zz)=true
 F_Zz:Fun K "first_ones" "first_ones" st_Zz A.Zz D.Zz
 b_Zz:Binds K D.Zz ["tree"] []
 m_Zs:mg "field_value"=some (.ref A.Zs)
 k_Zs:PySem.W.keepIn K (.ref A.Zs)=true
 F_Zs:Fun K "field_value" "field_value" st_Zs A.Zs D.Zs
 b_Zs:Binds K D.Zs ["record","field","one"] []
 m_ZJ:mg "reckoned"=some (.ref A.ZJ)
 k_ZJ:PySem.W.keepIn K (.ref A.ZJ)=true
 F_ZJ:Fun K "reckoned" "reckoned" st_ZJ A.ZJ D.ZJ
 b_ZJ:Binds K D.ZJ ["word","values"] []
 m_ZA:mg "truth_text"=some (.ref A.ZA)
 k_ZA:PySem.W.keepIn K (.ref A.ZA)=true
 F_ZA:Fun K "truth_text" "truth_text" st_ZA A.ZA D.ZA
 b_ZA:Binds K D.ZA ["so"] []
 m_ZF:mg "run_plain"=some (.ref A.ZF)
 k_ZF:PySem.W.keepIn K (.ref A.ZF)=true
 F_ZF:Fun K "run_plain" "run_plain" st_ZF A.ZF D.ZF
 b_ZF:Binds K D.ZF ["tree","most"] []
 m_Zt:mg "_law_cell_at"=some (.ref A.Zt)
 k_Zt:PySem.W.keepIn K (.ref A.Zt)=true
 F_Zt:Fun K "_law_cell_at" "_law_cell_at" st_Zt A.Zt D.Zt
 b_Zt:Binds K D.Zt ["_law_script","_law_k"] []
 m_ZB:mg "_law_stream"=some (.ref A.ZB)
 k_ZB:PySem.W.keepIn K (.ref A.ZB)=true
 F_ZB:Fun K "_law_stream" "_law_stream" st_ZB A.ZB D.ZB
 b_ZB:Binds K D.ZB ["_law_cell","_law_size"] []
 m_ZK:mg "_law_defs"=some (.ref A.ZK)
 k_ZK:PySem.W.keepIn K (.ref A.ZK)=true
 F_ZK:Fun K "_law_defs" "_law_defs" st_ZK A.ZK D.ZK
 b_ZK:Binds K D.ZK ["_law_low","_law_add"] []
 m_ZL:mg "_law_main"=some (.ref A.ZL)
 k_ZL:PySem.W.keepIn K (.ref A.ZL)=true
 F_ZL:Fun K "_law_main" "_law_main" st_ZL A.ZL D.ZL
 b_ZL:Binds K D.ZL ["_law_number","_law_value","_law_sign"] []
 m_ZP:mg "_law_run"=some (.ref A.ZP)
 k_ZP:PySem.W.keepIn K (.ref A.ZP)=true
 F_ZP:Fun K "_law_run" "_law_run" st_ZP A.ZP D.ZP
 b_ZP:Binds K D.ZP ["_law_number","_law_value","_law_sign","_law_low","_law_add","_law_starts"] []
 M_Phrase:Mk K A.c_Phrase A.Zu
 k_Zu:PySem.W.keepIn K (.ref A.Zu)=true
 F_Zu:Fun K "__init__" "Phrase.__init__" st_Zu A.Zu D.Zu
 b_Zu:Binds K D.Zu ["self","words","at"] []
 M_Zq:Meth K A.c_Phrase "ended" A.Zq
 k_Zq:PySem.W.keepIn K (.ref A.Zq)=true
 F_Zq:Fun K "ended" "Phrase.ended" st_Zq A.Zq D.Zq
 b_Zq:Binds K D.Zq ["self"] []
 M_Zv:Meth K A.c_Phrase "take" A.Zv
 k_Zv:PySem.W.keepIn K (.ref A.Zv)=true
 F_Zv:Fun K "take" "Phrase.take" st_Zv A.Zv D.Zv
 b_Zv:Binds K D.Zv ["self"] []
 M_Zj:Meth K A.c_Phrase "take_name" A.Zj
 k_Zj:PySem.W.keepIn K (.ref A.Zj)=true
 F_Zj:Fun K "take_name" "Phrase.take_name" st_Zj A.Zj D.Zj
 b_Zj:Binds K D.Zj ["self"] []
 M_Za:Meth K A.c_Phrase "take_plain_kind" A.Za
 k_Za:PySem.W.keepIn K (.ref A.Za)=true
 F_Za:Fun K "take_plain_kind" "Phrase.take_plain_kind" st_Za A.Za D.Za
 b_Za:Binds K D.Za ["self"] []
 M_Zk:Meth K A.c_Phrase "take_kind" A.Zk
 k_Zk:PySem.W.keepIn K (.ref A.Zk)=true
 F_Zk:Fun K "take_kind" "Phrase.take_kind" st_Zk A.Zk D.Zk
 b_Zk:Binds K D.Zk ["self"] []
 M_Zc:Meth K A.c_Phrase "take_fields" A.Zc
 k_Zc:PySem.W.keepIn K (.ref A.Zc)=true
 F_Zc:Fun K "take_fields" "Phrase.take_fields" st_Zc A.Zc D.Zc
 b_Zc:Binds K D.Zc ["self"] []
 M_Zd:Meth K A.c_Phrase "take_params" A.Zd
 k_Zd:PySem.W.keepIn K (.ref A.Zd)=true
 F_Zd:Fun K "take_params" "Phrase.take_params" st_Zd A.Zd D.Zd
 b_Zd:Binds K D.Zd ["self"] []
 M_Zb:Meth K A.c_Phrase "unlike_names" A.Zb
 k_Zb:PySem.W.keepIn K (.ref A.Zb)=true
 F_Zb:Fun K "unlike_names" "Phrase.unlike_names" st_Zb A.Zb D.Zb
 b_Zb:Binds K D.Zb ["self","pairs"] []
 M_Zl:Meth K A.c_Phrase "take_expr" A.Zl
 k_Zl:PySem.W.keepIn K (.ref A.Zl)=true
 F_Zl:Fun K "take_expr" "Phrase.take_expr" st_Zl A.Zl D.Zl
 b_Zl:Binds K D.Zl ["self","deep"] []
 M_Ze:Meth K A.c_Phrase "take_named" A.Ze
 k_Ze:PySem.W.keepIn K (.ref A.Ze)=true
 F_Ze:Fun K "take_named" "Phrase.take_named" st_Ze A.Ze D.Ze
 b_Ze:Binds K D.Ze ["self","word","deep"] []
 M_Zf:Meth K A.c_Phrase "take_exprs" A.Zf
 k_Zf:PySem.W.keepIn K (.ref A.Zf)=true
 F_Zf:Fun K "take_exprs" "Phrase.take_exprs" st_Zf A.Zf D.Zf
 b_Zf:Binds K D.Zf ["self","deep"] []
 M_Block:Mk K A.c_Block A.ZC
 k_ZC:PySem.W.keepIn K (.ref A.ZC)=true
 F_ZC:Fun K "__init__" "Block.__init__" st_ZC A.ZC D.ZC
 b_ZC:Binds K D.ZC ["self","word","body","other"] []
 M_PlainRun:Mk K A.c_PlainRun A.Zn
 k_Zn:PySem.W.keepIn K (.ref A.Zn)=true
 F_Zn:Fun K "__init__" "PlainRun.__init__" st_Zn A.Zn D.Zn
 b_Zn:Binds K D.Zn ["self","tree","most"] []
 M_Zg:Meth K A.c_PlainRun "run_rows" A.Zg
 k_Zg:PySem.W.keepIn K (.ref A.Zg)=true
 F_Zg:Fun K "run_rows" "PlainRun.run_rows" st_Zg A.Zg D.Zg
 b_Zg:Binds K D.Zg ["self","statements","names","depth"] []
 M_Zm:Meth K A.c_PlainRun "run_row" A.Zm
 k_Zm:PySem.W.keepIn K (.ref A.Zm)=true
 F_Zm:Fun K "run_row" "PlainRun.run_row" st_Zm A.Zm D.Zm
 b_Zm:Binds K D.Zm ["self","one","names","depth"] []
 M_Zo:Meth K A.c_PlainRun "step" A.Zo
 k_Zo:PySem.W.keepIn K (.ref A.Zo)=true
 F_Zo:Fun K "step" "PlainRun.step" st_Zo A.Zo D.Zo
 b_Zo:Binds K D.Zo ["self","one","names","depth"] []
 M_Zh:Meth K A.c_PlainRun "value_of" A.Zh
 k_Zh:PySem.W.keepIn K (.ref A.Zh)=true
 F_Zh:Fun K "value_of" "PlainRun.value_of" st_Zh A.Zh D.Zh
 b_Zh:Binds K D.Zh ["self","e","names","depth"] []
 M_Zi:Meth K A.c_PlainRun "given_by" A.Zi
 k_Zi:PySem.W.keepIn K (.ref A.Zi)=true
 F_Zi:Fun K "given_by" "PlainRun.given_by" st_Zi A.Zi D.Zi
 b_Zi:Binds K D.Zi ["self","name","values","depth"] []
 M_NoForm:MkI K A.x_NoForm A.Zw bmVE "ValueError.__new__"
 ic_NoForm:ICls K A.x_NoForm
 na_NoForm_at:NoAttr K A.x_NoForm "at"
 na_NoForm_what:NoAttr K A.x_NoForm "what"
 k_Zw:PySem.W.keepIn K (.ref A.Zw)=true
 F_Zw:Fun K "__init__" "NoForm.__init__" st_Zw A.Zw D.Zw
 b_Zw:Binds K D.Zw ["self","at","what"] []
 M_RunEnd:MkI K A.x_RunEnd A.Zx bmEX "Exception.__new__"
 ic_RunEnd:ICls K A.x_RunEnd
 na_RunEnd_outcome:NoAttr K A.x_RunEnd "outcome"
 k_Zx:PySem.W.keepIn K (.ref A.Zx)=true
 F_Zx:Fun K "__init__" "RunEnd.__init__" st_Zx A.Zx D.Zx
 b_Zx:Binds K D.Zx ["self","outcome"] []
 m_Phrase:mg "Phrase"=some (.ref A.c_Phrase)
 cl_Phrase:Cls K A.c_Phrase
 na_Phrase_words:NoAttr K A.c_Phrase "words"
 na_Phrase_at:NoAttr K A.c_Phrase "at"
 na_Phrase_place:NoAttr K A.c_Phrase "place"
 ty_Phrase:∀ (H:Hp) (a dx:Addr) (fs:List (Str × V)),H a=some (.ins A.c_Phrase dx fs)->TyOf K H (.ref a) (.ref A.c_Phrase)
 is_Phrase:PySem.W.kitOne K (.ref A.c_Phrase) (.ref A.c_Phrase)=some true
 m_Block:mg "Block"=some (.ref A.c_Block)
 cl_Block:Cls K A.c_Block
 na_Block_word:NoAttr K A.c_Block "word"
 na_Block_body:NoAttr K A.c_Block "body"
 na_Block_other:NoAttr K A.c_Block "other"
 ty_Block:∀ (H:Hp) (a dx:Addr) (fs:List (Str × V)),H a=some (.ins A.c_Block dx fs)->TyOf K H (.ref a) (.ref A.c_Block)
 is_Block:PySem.W.kitOne K (.ref A.c_Block) (.ref A.c_Block)=some true
 m_PlainRun:mg "PlainRun"=some (.ref A.c_PlainRun)
 cl_PlainRun:Cls K A.c_PlainRun
 na_PlainRun_firsts:NoAttr K A.c_PlainRun "firsts"
 na_PlainRun_most:NoAttr K A.c_PlainRun "most"
 na_PlainRun_told:NoAttr K A.c_PlainRun "told"
 na_PlainRun_log:NoAttr K A.c_PlainRun "log"
 ty_PlainRun:∀ (H:Hp) (a dx:Addr) (fs:List (Str × V)),H a=some (.ins A.c_PlainRun dx fs)->TyOf K H (.ref a) (.ref A.c_PlainRun)
 is_PlainRun:PySem.W.kitOne K (.ref A.c_PlainRun) (.ref A.c_PlainRun)=some true
 v_SMALL_LETTERS:∃ t,mg "SMALL_LETTERS"=some (.str "abcdefghijklmnopqrstuvwxyz" t)
 v_FIGURES:∃ t,mg "FIGURES"=some (.str "0123456789" t)
 v_LONGEST_NAME:∃ t,mg "LONGEST_NAME"=some (.int 8 t)
 v_LONGEST_NUMBER:∃ t,mg "LONGEST_NUMBER"=some (.int 18 t)
 v_DEEPEST_EXPR:∃ t,mg "DEEPEST_EXPR"=some (.int 6 t)
 v_MOST_BLOCKS:∃ t,mg "MOST_BLOCKS"=some (.int 4 t)
 v_ROUND:∃ t,mg "ROUND"=some (.int 1000000000000000000 t)
 v_MOST_RUNNINGS:∃ t,mg "MOST_RUNNINGS"=some (.int 6 t)
 m_LANGUAGE_WORDS:mg "LANGUAGE_WORDS"=some (.ref A.q_LANGUAGE_WORDS)
 Q_LANGUAGE_WORDS:∀ H,SqT K H A.q_LANGUAGE_WORDS [.str "kind",.str "def",.str "set",.str "tell",.str "give",.str "if",.str "else",.str "while",.str "end",.str "num",.str "truth",.str "yes",.str "no",.str "less",.str "same",.str "and",.str "or",.str "not",.str "do",.str "new",.str "of",.str "+",.str "-",.str "*",.str "."]
 m_OPERATORS:mg "OPERATORS"=some (.ref A.q_OPERATORS)
 Q_OPERATORS:∀ H,SqT K H A.q_OPERATORS [.str "+",.str "-",.str "*",.str "less",.str "same",.str "and",.str "or"]
 m_PLAIN_KINDS:mg "PLAIN_KINDS"=some (.ref A.q_PLAIN_KINDS)
 Q_PLAIN_KINDS:∀ H,SqT K H A.q_PLAIN_KINDS [.str "num",.str "truth"]
 m_MakesError:mg "MakesError"=some (.ref A.x_MakesError)
 xc_MakesError:XCls K A.x_MakesError
 m_NoForm:mg "NoForm"=some (.ref A.x_NoForm)
 xc_NoForm:XCls K A.x_NoForm
 m_RunEnd:mg "RunEnd"=some (.ref A.x_RunEnd)
 xc_RunEnd:XCls K A.x_RunEnd
 em_NoForm_NoForm:PySem.W.exmOne K (.ref A.x_NoForm) (.ref A.x_NoForm)=some true
 em_RunEnd_RunEnd:PySem.W.exmOne K (.ref A.x_RunEnd) (.ref A.x_RunEnd)=some true
 ki_NoForm_MakesError:PySem.W.kitOne K (.ref A.x_NoForm) (.ref A.x_MakesError)=some true
 n_len:mg "len"=none
 n_range:mg "range"=none
 n_int:mg "int"=none
 n_bool:mg "bool"=none
 n_all:mg "all"=none
 n_min:mg "min"=none
 n_list:mg "list"=none
 n_enumerate:mg "enumerate"=none
 n_isinstance:mg "isinstance"=none
 n_tuple:mg "tuple"=none
 n_set:mg "set"=none
 n_str:mg "str"=none
 n_max:mg "max"=none
 n_dict:mg "dict"=none
 n_zip:mg "zip"=none
section
variable {P:Program} {w:World} {K:PySem.W.Frag} {mg:Str->Option Value} {base:Heap} {AA:Adr} {DD:Fds}
noncomputable def spXInit (C:Addr):Sp:=fun vs H Q _=>∃ (e tt:Addr) (v u:V),vs=[.ref e,v,u]/\H e=some (excN e C tt none) /\
 ∀ dx H',dx≠e->(∀ b x,H b=some x->b≠e->H' b=some x)->H' e=some (excN e C tt (some dx))->H' dx=some (xdO dx [("at",v),("what",u)])->Q .non H'
noncomputable abbrev N_Zw:List Str:=["self","at","what"]
theorem sc_Zw:FnScope N_Zw ["self","at","what"] (defScope st_Zw):=⟨rfl,rfl,rfl,by decide +kernel,rfl,by decide +kernel,by decide +kernel⟩
theorem ok_xinit (T:All P w K mg AA DD):FnOk P w K mg base CX0 1 AA.Zw DD.Zw ["self","at","what"] (spXInit AA.x_NoForm):=by
 refine T.F_Zw.ok sc_Zw (fun vs H Q E h=>?_) (fun cdv A outer s H vs Q E hr h=>?_)
 ·obtain ⟨e,tt,v,u,rfl,_⟩:=h
  rfl
 ·obtain ⟨e,tt,v,u,rfl,he,k⟩:=h
  refine ⟨_,(@pss_cons _ _ _ _ _ (ps_xfld (body_cx.wish _) (pv 0) (pv 1)) (@pss_one _ _ _ (ps_xfld (body_cx.wish _) (pv 0) (pv 2)))),?_⟩
  refine ⟨v,rfl,_,rfl,e,AA.x_NoForm,tt,rfl,T.ic_NoForm,T.na_NoForm_at,.inl ⟨he,fun dx hd ne=>?_⟩⟩
  have e1:upd (upd H e (excN e AA.x_NoForm tt (some dx))) dx (xdO dx [("at",v)]) e=some (excN e AA.x_NoForm tt (some dx)):=by rw [upd_ne ne.symm,upd_same]
  refine ⟨u,rfl,_,rfl,e,AA.x_NoForm,tt,rfl,T.ic_NoForm,T.na_NoForm_what,.inr ⟨dx,_,e1,upd_same,ne,(by show 1<=1000;decide),?_⟩⟩
  refine k dx _ ne (fun b x hb hbe=>?_) (by rw [upd_ne ne.symm];exact e1) upd_same
  have hbd:b≠dx:=ne_of_none hb hd
  rw [upd_ne hbd,upd_ne hbd,upd_ne hbe]
  exact hb
noncomputable def ErrW (E:XK) (C:Addr) (x:V) (wd:Str) (H:Hp):Prop:=∀ dx H',Same H H'->H' dx=some (xdO dx [("at",x),("what",.str wd)])->E (.ref C) (some dx) H'
theorem raise_NoForm {C:Addr} {E:XK} {H:Hp} {v:V} {wd:Str} (h:ErrW E C v wd H) (e tt:Addr) (he:H e=none) :
  spXInit C [.ref e,v,.str wd] (upd H e (excN e C tt none)) (fun x H2=>x=.non/\∃ dd,H2 e=some (excN e C tt dd)/\E (.ref C) dd (del H2 e)) E0:=by
 refine ⟨e,tt,v,.str wd,rfl,upd_same,fun dx H' ne s h1 h2=>⟨rfl,some dx,h1,h dx _ (fun b u q=>?_) (by rw [del_ne ne];exact h2)⟩⟩
 have hb:b≠e:=ne_of_none q he
 rw [del_ne hb]
 exact s b u (by rw [upd_ne hb];exact q) hb
theorem same_upd {H:Hp} {p:Addr} {o:HO} (h:H p=none):Same H (upd H p o):=fun b u e=>by rw [upd_ne (ne_of_none e h)];exact e
theorem dec_str (a b:Str):decide (V.str a=V.str b)=decide (a=b):=decide_eq_decide.mpr ⟨fun h=>by injection h,fun h=>by rw [h]⟩
noncomputable def spMade:Sp:=fun vs H Q _=>∃ (z s:Str) (m:Nat) (f:Nat->Bool),vs=[.str z,.str s,.int m]/\(∀ c:Nat,c<128->(Builtin.Str.occurrences s ⟨#[c]⟩ 0 s.length 1).isEmpty=!(f c))/\z.length<=100/\(∀ c∈z.cps.toList,c<128)/\∀ H',Same H H'->Q (.bl (madeOf f z m)) H'
noncomputable abbrev N_ZM:List Str:=["word","signs","most"]
theorem sc_ZM:FnScope N_ZM ["word","signs","most"] (defScope st_ZM):=⟨rfl,rfl,rfl,by decide +kernel,rfl,by decide +kernel,by decide +kernel⟩
theorem ok_madeof (T:All P w K mg AA DD):FnOk P w K mg base CX0 1 AA.ZM DD.ZM ["word","signs","most"] spMade:=by
 refine T.F_ZM.ok sc_ZM (fun vs H Q E h=>?_) (fun cdv A outer s H vs Q E hr h=>?_)
 ·obtain ⟨z,s,m,f,rfl,_⟩:=h
  rfl
 ·obtain ⟨z,s,m,f,rfl,hf,hl,hc,k⟩:=h
  refine ⟨_,(@pss_one _ _ _ (@ps_ret _ _ _ _ (pe_and (@pe_cmpR _ _ _ _ _ _ _ _ op_ne (pv 0) pe_str (nomark _)) (pe_and (@pe_cmpR _ _ _ _ _ _ _ _ op_le (pe_callB call_len_str rfl T.n_len bt_len (@pa_cons _ _ _ _ _ (pv 0) pa_nil (by rfl))) (pv 2) (nomark _)) (pe_one (pe_callB (call_allB rfl) rfl T.n_all bt_all (@pa_cons _ _ _ _ _ (pe_comp (defScope st_ZM) N_ZM ["signs"] [1] rfl (by exact ⟨rfl,rfl,by decide +kernel,rfl,by decide +kernel,by decide +kernel,by decide +kernel,rfl,by decide +kernel⟩) rfl rfl (pi_str (pv 0)) (fun _ _ _ _=>pif_nil) (fun _ _ _ _=>(@pe_cmpR _ _ _ _ _ _ _ _ op_in_str (pv 0) (pv 1) rfl))) pa_nil (by rfl)))))))),?_⟩
  refine ⟨_,rfl,rfl,_,rfl,?_⟩
  unfold madeOf at k
  by_cases h0:z=""
  ·rw [decide_eq_true (show V.str z=V.str "" by rw [h0])]
   refine iteF ?_
   have:=k H (Same.refl _)
   rw [decide_eq_true h0] at this
   exact this
  rw [decide_eq_false (fun e=>h0 (by injection e)),show (!false)=true from rfl]
  refine iteT ?_
  refine ⟨_,rfl,z,rfl,Nat.le_trans hl (by decide),_,rfl,_,_,rfl,rfl,_,rfl,?_⟩
  by_cases h1:z.length<=m
  ·rw [decide_eq_true (by omega)]
   refine iteT ?_
   have hca:z.cps.all (·<128)=true:=by
    rw [<- Array.all_toList,List.all_eq_true]
    exact fun c h=>decide_eq_true (hc c h)
   refine ⟨_,rfl,z,rfl,hca,?_⟩
   refine comp_N (fun i ys H'=>H'=H/\i<=z.length/\ys=((z.cps.toList.take i).map f).map V.bl) ⟨rfl,Nat.zero_le _,rfl⟩ ?_ ?_
   ·rintro i ys H1 hi ⟨rfl,_,rfl⟩
    refine tYes_ok ?_
    rw [if_pos rfl]
    have hil:i<z.cps.toList.length:=by rw [<- str_len];exact hi
    have hci:=hc z.cps.toList[i] (List.getElem_mem hil)
    have ech:chAt z i=V.str ⟨#[z.cps.toList[i]]⟩:=by unfold chAt;rw [List.getD_eq_getElem?_getD,List.getElem?_eq_getElem hil];rfl
    rw [ech]
    refine ⟨_,rfl,_,rfl,_,_,rfl,rfl,by simp;exact small1000 (by omega),rfl,by omega,?_⟩
    rw [hf _ hci,Bool.not_not,List.take_succ_eq_append_getElem hil,List.map_append,List.map_append]
    rfl
   ·rintro ys H1 ⟨rfl,_,rfl⟩ p hp
    refine ⟨p,_,rfl,SqL.of upd_same,?_⟩
    rw [str_len,List.take_length]
    have:=k _ (same_upd (o:=.lst ((z.cps.toList.map f).map V.bl)) hp)
    rw [decide_eq_false h0,decide_eq_true h1,show (!false&&(true&&z.cps.toList.all f))=z.cps.toList.all f from rfl] at this
    rw [List.all_map]
    exact this
  ·rw [decide_eq_false (by omega)]
   refine iteF ?_
   have:=k H (Same.refl _)
   rw [decide_eq_false h0,decide_eq_false h1] at this
   exact this
noncomputable def spIsName:Sp:=fun vs H Q _=>∃ z:Str,vs=[.str z]/\z.length<=100/\(∀ c∈z.cps.toList,c<128)/\∀ H',Same H H'->Q (.bl (isName z)) H'
theorem inV_strs (z:Str) (l:List Str):inV (.str z) (l.map V.str)=decide (z∈l):=by
 induction l with
 | nil=>rfl
 | cons a r ih =>
  show ((a == z)||inV (.str z) (r.map V.str))=_
  rw [ih]
  by_cases h:a=z
  ·subst h;simp
  ·have:¬ z=a:=fun e=>h e.symm
   simp [h,this]
noncomputable abbrev N_ZN:List Str:=["word"]
theorem sc_ZN:FnScope N_ZN ["word"] (defScope st_ZN):=⟨rfl,rfl,rfl,by decide +kernel,rfl,by decide +kernel,by decide +kernel⟩
theorem ok_isname (T:All P w K mg AA DD):FnOk P w K mg base CX0 2 AA.ZN DD.ZN ["word"] spIsName:=by
 have GM:=ok_madeof (base:=base) T
 refine T.F_ZN.ok sc_ZN (fun vs H Q E h=>?_) (fun cdv A outer s H vs Q E hr h=>?_)
 ·obtain ⟨z,rfl,_⟩:=h
  rfl
 ·obtain ⟨z,rfl,hl,hc,k⟩:=h
  have hr1:Room 1 _:=hr
  obtain ⟨t1,hSMALL_LETTERS⟩:=T.v_SMALL_LETTERS
  obtain ⟨t2,hLONGEST_NAME⟩:=T.v_LONGEST_NAME
  refine ⟨_,(@pss_one _ _ _ (@ps_ret _ _ _ _ (pe_and (pe_call GM hr1 rfl T.m_ZM T.k_ZM T.b_ZM .nil pass0 (@pa_cons _ _ _ _ _ (pv 0) (@pa_cons _ _ _ _ _ (pe_glob (v:=.str "abcdefghijklmnopqrstuvwxyz") rfl hSMALL_LETTERS ⟨_,rfl⟩) (@pa_cons _ _ _ _ _ (pe_glob (v:=.int 8) rfl hLONGEST_NAME ⟨_,rfl⟩) pa_nil (by rfl)) (by rfl)) (by rfl))) (pe_one (@pe_cmpR _ _ _ _ _ _ _ _ (op_notIn_seqK (K:=K) rfl) (pv 0) (pe_glob (v:=.ref AA.q_LANGUAGE_WORDS) rfl T.m_LANGUAGE_WORDS rfl) rfl))))),?_⟩
  refine ⟨_,rfl,z,_,8,isLo,rfl,occLo,hl,hc,fun H1 s1=>?_⟩
  refine ⟨_,rfl,?_⟩
  have k:=k H1 s1
  unfold isName at k
  cases hm:madeOf isLo z 8 with
  | false=>rw [hm] at k;exact iteF k
  | true =>
   rw [hm] at k
   refine iteT ?_
   refine ⟨_,rfl,AA.q_LANGUAGE_WORDS,lws.map V.str,rfl,.inr (T.Q_LANGUAGE_WORDS H1),rfl,rfl,?_⟩
   rw [inV_strs]
   exact k
noncomputable def spIsNum:Sp:=fun vs H Q _=>∃ z:Str,vs=[.str z]/\z.length<=100/\(∀ c∈z.cps.toList,c<128)/\∀ H',Same H H'->Q (.bl (isNum z)) H'
noncomputable abbrev N_ZD:List Str:=["word"]
theorem sc_ZD:FnScope N_ZD ["word"] (defScope st_ZD):=⟨rfl,rfl,rfl,by decide +kernel,rfl,by decide +kernel,by decide +kernel⟩
theorem ok_isnum (T:All P w K mg AA DD):FnOk P w K mg base CX0 2 AA.ZD DD.ZD ["word"] spIsNum:=by
 have GM:=ok_madeof (base:=base) T
 refine T.F_ZD.ok sc_ZD (fun vs H Q E h=>?_) (fun cdv A outer s H vs Q E hr h=>?_)
 ·obtain ⟨z,rfl,_⟩:=h
  rfl
 ·obtain ⟨z,rfl,hl,hc,k⟩:=h
  have hr1:Room 1 _:=hr
  obtain ⟨t1,hFIGURES⟩:=T.v_FIGURES
  obtain ⟨t2,hLONGEST_NUMBER⟩:=T.v_LONGEST_NUMBER
  refine ⟨_,(@pss_one _ _ _ (@ps_ret _ _ _ _ (pe_or (@pe_cmpR _ _ _ _ _ _ _ _ op_eq (pv 0) pe_str (nomark _)) (pe_one (pe_and (pe_call GM hr1 rfl T.m_ZM T.k_ZM T.b_ZM .nil pass0 (@pa_cons _ _ _ _ _ (pv 0) (@pa_cons _ _ _ _ _ (pe_glob (v:=.str "0123456789") rfl hFIGURES ⟨_,rfl⟩) (@pa_cons _ _ _ _ _ (pe_glob (v:=.int 18) rfl hLONGEST_NUMBER ⟨_,rfl⟩) pa_nil (by rfl)) (by rfl)) (by rfl))) (pe_one (@pe_cmpR _ _ _ _ _ _ _ _ op_ne (@pe_ix _ _ _ _ _ _ _ ix_str (pv 0) pe_int (fun _ _=>rfl)) pe_str (nomark _)))))))),?_⟩
  unfold isNum at k
  refine ⟨_,rfl,rfl,_,rfl,?_⟩
  by_cases h0:z="0"
  ·rw [decide_eq_true (show V.str z=V.str "0" by rw [h0])]
   refine iteT ?_
   have:=k H (Same.refl _)
   rw [decide_eq_true h0] at this
   exact this
  rw [decide_eq_false (fun e=>h0 (by injection e))]
  refine iteF ?_
  refine ⟨_,rfl,z,_,18,isFig,rfl,occFig,hl,hc,fun H1 s1=>?_⟩
  refine ⟨_,rfl,?_⟩
  have k:=k H1 s1
  rw [decide_eq_false h0,Bool.false_or] at k
  cases hm:madeOf isFig z 18 with
  | false=>rw [hm] at k;exact iteF k
  | true =>
   rw [hm] at k
   refine iteT ?_
   have hz:0<z.cps.toList.length:=by
    rw [<- str_len]
    unfold madeOf at hm
    refine Nat.pos_of_ne_zero fun e=>?_
    have hz0:z="":=by
     have e1:z.cps.toList=[]:=List.eq_nil_of_length_eq_zero (by rw [<- str_len];exact e)
     obtain ⟨a⟩:=z
     have:a=#[]:=Array.toList_eq_nil_iff.mp e1
     rw [this]
     decide +kernel
    rw [decide_eq_true hz0] at hm
    cases hm
   refine ⟨_,rfl,z,_,z.cps.toList[0],rfl,rfl,Nat.le_trans hl (by decide),atI_nat (j:=0) (List.getElem?_eq_getElem hz),rfl,?_⟩
   rw [List.getD_eq_getElem?_getD,List.getElem?_eq_getElem hz] at k
   have e1:decide (V.str ⟨#[z.cps.toList[0]]⟩=V.str "0")=decide (z.cps.toList[0]=48):=by
    rw [dec_str]
    refine decide_eq_decide.mpr ⟨fun h=>?_,fun h=>by rw [h];decide +kernel⟩
    have:=congrArg (fun s:Str=>s.cps.toList) h
    have e2:("0":Str).cps.toList=[48]:=by decide +kernel
    rw [e2] at this
    simpa using this
   rw [e1]
   exact k
noncomputable def phF (wa:Addr) (x:V) (i:Nat):List (Str × V):=[("words",.ref wa),("at",x),("place",.int ((i:Nat):Int))]
structure Ph (C:Addr) (H:Hp) (o dx wa:Addr) (ws:List Str) (x:V) (i:Nat):Prop where
 ins:H o=some (.ins C dx (phF wa x i))
 wds:H wa=some (.lst (ws.map V.str))
 ok:WsOk ws
 le:i<=ws.length
 few:ws.length<=900
theorem Ph.ne {C:Addr} {H:Hp} {o dx wa:Addr} {ws:List Str} {x:V} {i:Nat} (h:Ph C H o dx wa ws x i):wa≠o:=fun e=>by
 have a:=h.wds
 rw [e,h.ins] at a
 cases a
theorem Ph.step {C:Addr} {H:Hp} {o dx wa:Addr} {ws:List Str} {x:V} {i:Nat} (h:Ph C H o dx wa ws x i) {j:Nat} (hj:j<=ws.length):Ph C (upd H o (.ins C dx (phF wa x j))) o dx wa ws x j :=
 ⟨upd_same,by rw [upd_ne h.ne];exact h.wds,h.ok,hj,h.few⟩
theorem Ph.same {C:Addr} {H H':Hp} {o dx wa:Addr} {ws:List Str} {x:V} {i:Nat} (h:Ph C H o dx wa ws x i) (s:Same H H'):Ph C H' o dx wa ws x i :=
 ⟨s _ _ h.ins,s _ _ h.wds,h.ok,h.le,h.few⟩
noncomputable def ErrF (E:XK) (C:Addr) (x:V) (o:Addr) (H:Hp):Prop:=∀ dx H',ButO o H H'->H' dx=some (xdO dx [("at",x),("what",.str "form")])->E (.ref C) (some dx) H'
theorem ErrF.word {E:XK} {C:Addr} {x:V} {o:Addr} {H H1:Hp} (h:ErrF E C x o H) (b:ButO o H H1):ErrW E C x "form" H1:=fun dx H' s e=>h dx H' (b.trans s.but) e
theorem ErrF.but {E:XK} {C:Addr} {x:V} {o:Addr} {H H1:Hp} (h:ErrF E C x o H) (b:ButO o H H1):ErrF E C x o H1:=fun dx H' s e=>h dx H' (b.trans s) e
noncomputable def spPInit (C:Addr):Sp:=fun vs H Q _=>∃ (o dx wa:Addr) (x:V),vs=[.ref o,.ref wa,x]/\H o=some (.ins C dx [])/\Q .non (upd (upd (upd H o (.ins C dx [("words",.ref wa)])) o (.ins C dx [("words",.ref wa),("at",x)])) o (.ins C dx (phF wa x 0)))
noncomputable abbrev N_Zu:List Str:=["self","words","at"]
theorem sc_Zu:FnScope N_Zu ["self","words","at"] (defScope st_Zu):=⟨rfl,rfl,rfl,by decide +kernel,rfl,by decide +kernel,by decide +kernel⟩
theorem ok_pinit (T:All P w K mg AA DD):FnOk P w K mg base CX0 1 AA.Zu DD.Zu ["self","words","at"] (spPInit AA.c_Phrase):=by
 refine T.F_Zu.ok sc_Zu (fun vs H Q E h=>?_) (fun cdv A outer s H vs Q E hr h=>?_)
 ·obtain ⟨o,dx,wa,x,rfl,_⟩:=h
  rfl
 ·obtain ⟨o,dx,wa,x,rfl,ho,k⟩:=h
  refine ⟨_,(@pss_cons _ _ _ _ _ (ps_fld (pv 0) (pv 1) rfl) (@pss_cons _ _ _ _ _ (ps_fld (pv 0) (pv 2) rfl) (@pss_one _ _ _ (ps_fld (pv 0) pe_int rfl)))),?_⟩
  refine ⟨_,rfl,_,rfl,o,AA.c_Phrase,dx,_,rfl,ho,T.cl_Phrase,T.na_Phrase_words,(by show 0<1000;decide),?_⟩
  refine ⟨_,rfl,_,rfl,o,AA.c_Phrase,dx,_,rfl,upd_same,T.cl_Phrase,T.na_Phrase_at,(by show 1<1000;decide),?_⟩
  exact ⟨_,rfl,o,AA.c_Phrase,dx,_,rfl,upd_same,T.cl_Phrase,T.na_Phrase_place,(by show 2<1000;decide),k⟩
noncomputable def spEnded (C:Addr):Sp:=fun vs H Q _=>∃ (o dx wa:Addr) (ws:List Str) (x:V) (i:Nat),vs=[.ref o]/\Ph C H o dx wa ws x i/\Q (.bl (decide (i=ws.length))) H
theorem dec_nat (a b:Nat):decide (V.int (a:Int)=V.int (b:Int))=decide (a=b):=decide_eq_decide.mpr ⟨fun h=>by injection h with h;omega,fun h=>by rw [h]⟩
noncomputable abbrev N_Zq:List Str:=["self"]
theorem sc_Zq:FnScope N_Zq ["self"] (defScope st_Zq):=⟨rfl,rfl,rfl,by decide +kernel,rfl,by decide +kernel,by decide +kernel⟩
theorem ok_ended (T:All P w K mg AA DD):FnOk P w K mg base CX0 1 AA.Zq DD.Zq ["self"] (spEnded AA.c_Phrase):=by
 refine T.F_Zq.ok sc_Zq (fun vs H Q E h=>?_) (fun cdv A outer s H vs Q E hr h=>?_)
 ·obtain ⟨o,dx,wa,ws,x,i,rfl,_⟩:=h
  rfl
 ·obtain ⟨o,dx,wa,ws,x,i,rfl,h,k⟩:=h
  refine ⟨_,(@pss_one _ _ _ (@ps_ret _ _ _ _ (@pe_cmpR _ _ _ _ _ _ _ _ op_eq (pe_fld (pv 0) rfl) (pe_callB call_len_seq rfl T.n_len bt_len (@pa_cons _ _ _ _ _ (pe_fld (pv 0) rfl) pa_nil (by rfl))) (nomark _)))),?_⟩
  refine ⟨_,rfl,o,AA.c_Phrase,dx,_,_,rfl,h.ins,T.cl_Phrase,T.na_Phrase_place,rfl,_,rfl,o,AA.c_Phrase,dx,_,_,rfl,h.ins,T.cl_Phrase,T.na_Phrase_words,rfl,wa,_,rfl,.inl (SqL.of h.wds),rfl,?_⟩
  rw [List.length_map,dec_nat]
  exact k
end
section
variable {P:Program} {w:World} {K:PySem.W.Frag} {mg:Str->Option Value} {base:Heap} {AA:Adr} {DD:Fds}
noncomputable def spTake (C X:Addr):Sp:=fun vs H Q E=>∃ (o dx wa:Addr) (ws:List Str) (x:V) (i:Nat),vs=[.ref o]/\Ph C H o dx wa ws x i/\(∀ z,ws[i]?=some z->Q (.str z) (upd H o (.ins C dx (phF wa x (i+1)))))/\(ws[i]?=none->ErrF E X x o H)
noncomputable abbrev N_Zv:List Str:=["self","word"]
theorem sc_Zv:FnScope N_Zv ["self"] (defScope st_Zv):=⟨rfl,rfl,rfl,by decide +kernel,rfl,by decide +kernel,by decide +kernel⟩
theorem ok_take (T:All P w K mg AA DD):FnOk P w K mg base (CX2 (fun _=>True) P w) 3 AA.Zv DD.Zv ["self"] (spTake AA.c_Phrase AA.x_NoForm):=by
 have GE:=ok_ended (base:=base) T
 have GI:=ok_xinit (base:=base) T
 refine T.F_Zv.ok2 sc_Zv (fun vs H Q E h=>?_) (fun cdv A outer s H vs Q E hr h=>?_)
 ·obtain ⟨o,dx,wa,ws,x,i,rfl,_⟩:=h
  rfl
 ·obtain ⟨o,dx,wa,ws,x,i,rfl,h,kq,kx⟩:=h
  have nd:=sc_Zv.nd
  have hr1:Room 1 _:=hr.mono (by decide)
  have hr2:Room 2 _:=hr
  refine ⟨_,(@pss_cons _ _ _ _ _ (@ps_if _ _ _ _ _ _ _ _ (pt_val (pe_meth0 (pv 0) T.cl_Phrase T.M_Zq GE hr1 T.b_Zq .nil pass0)) (@pss_one _ _ _ (ps_raiseI body_cx (raise2 trivial) rfl rfl T.m_NoForm T.M_NoForm PySem.F.excBase_ValueError GI hr2 T.b_Zw (@pa_cons _ _ _ _ _ (pe_fld (pv 0) rfl) (@pa_cons _ _ _ _ _ pe_str pa_nil (by rfl)) (by rfl)))) pss_nil) (@pss_cons _ _ _ _ _ (@ps_set _ _ 1 _ _ _ _ nd rfl (Or.inl rfl) (@pe_ix _ _ _ _ _ _ _ (ix_listK (K:=K) rfl) (pe_fld (pv 0) rfl) (pe_fld (pv 0) rfl) (fun _ _=>rfl)) (by rfl) (by first | exact .inl rfl | exact .inr rfl | assumption)) (@pss_cons _ _ _ _ _ (ps_fld (pv 0) (@pe_op _ _ _ _ _ _ _ _ op_add (pe_fld (pv 0) rfl) pe_int) rfl) (@pss_one _ _ _ (@ps_ret _ _ _ _ (pv 1)))))),?_⟩
  refine ⟨_,rfl,o,dx,_,rfl,h.ins,rfl,o,dx,wa,ws,x,i,rfl,h,_,rfl,?_⟩
  by_cases he:i=ws.length
  ·rw [decide_eq_true he]
   refine iteT ?_
   have kx:=kx (by rw [he];exact List.getElem?_eq_none (Nat.le_refl _))
   exact ⟨_,rfl,o,AA.c_Phrase,dx,_,_,rfl,h.ins,T.cl_Phrase,T.na_Phrase_at,rfl,(by show 2<=sizeLine;decide),fun e tt he _ _=>raise_NoForm (kx.word (ButO.refl _ _)) e tt he⟩
  ·rw [decide_eq_false he]
   refine iteF ?_
   have hi:i<ws.length:=by have:=h.le;omega
   have kq:=kq ws[i] (List.getElem?_eq_getElem hi)
   refine ⟨_,rfl,o,AA.c_Phrase,dx,_,_,rfl,h.ins,T.cl_Phrase,T.na_Phrase_words,rfl,_,rfl,o,AA.c_Phrase,dx,_,_,rfl,h.ins,T.cl_Phrase,T.na_Phrase_place,rfl,wa,_,_,_,rfl,rfl,SqL.of h.wds,atI_nat (by rw [List.getElem?_map,List.getElem?_eq_getElem hi];rfl),?_⟩
   refine ⟨_,rfl,o,AA.c_Phrase,dx,_,_,rfl,h.ins,T.cl_Phrase,T.na_Phrase_place,rfl,_,_,rfl,rfl,_,rfl,o,AA.c_Phrase,dx,_,rfl,h.ins,T.cl_Phrase,T.na_Phrase_place,(by show 3<1000;decide),?_⟩
   refine ⟨_,rfl,?_⟩
   exact kq
noncomputable def spWd (f:Str->Bool) (C X:Addr):Sp:=fun vs H Q E=>∃ (o dx wa:Addr) (ws:List Str) (x:V) (i:Nat),vs=[.ref o]/\Ph C H o dx wa ws x i /\
 (∀ z H',pWd f ws i=some z->ButO o H H'->Ph C H' o dx wa ws x (i+1)->Q (.str z) H')/\(pWd f ws i=none->ErrF E X x o H)
noncomputable def isPk (z:Str):Bool:=decide (z∈(["num","truth"]:List Str))
noncomputable def isKd (z:Str):Bool:=isPk z||isName z
noncomputable abbrev N_Zj:List Str:=["self","word"]
theorem sc_Zj:FnScope N_Zj ["self"] (defScope st_Zj):=⟨rfl,rfl,rfl,by decide +kernel,rfl,by decide +kernel,by decide +kernel⟩
theorem ok_takename (T:All P w K mg AA DD):FnOk P w K mg base (CX2 (fun _=>True) P w) 4 AA.Zj DD.Zj ["self"] (spWd isName AA.c_Phrase AA.x_NoForm):=by
 have GT:=ok_take (base:=base) T
 have GN:=ok_isname (base:=base) T
 have GI:=ok_xinit (base:=base) T
 refine T.F_Zj.ok2 sc_Zj (fun vs H Q E h=>?_) (fun cdv A outer s H vs Q E hr h=>?_)
 ·obtain ⟨o,dx,wa,ws,x,i,rfl,_⟩:=h
  rfl
 ·obtain ⟨o,dx,wa,ws,x,i,rfl,h,kq,kx⟩:=h
  have nd:=sc_Zj.nd
  have hr2:Room 2 _:=hr.mono (by decide)
  have hr3:Room 3 _:=hr
  refine ⟨_,(@pss_cons _ _ _ _ _ (@ps_set _ _ 1 _ _ _ _ nd rfl (Or.inl rfl) (pe_meth0 (pv 0) T.cl_Phrase T.M_Zv GT hr3 T.b_Zv .nil (pass2 fun _ z=>z)) (by rfl) (by first | exact .inl rfl | exact .inr rfl | assumption)) (@pss_cons _ _ _ _ _ (@ps_if _ _ _ _ _ _ _ _ (pt_not (pt_val (pe_call GN hr2 rfl T.m_ZN T.k_ZN T.b_ZN .nil pass0 (@pa_cons _ _ _ _ _ (pv 1) pa_nil (by rfl))))) (@pss_one _ _ _ (ps_raiseI body_cx (raise2 trivial) rfl rfl T.m_NoForm T.M_NoForm PySem.F.excBase_ValueError GI hr2 T.b_Zw (@pa_cons _ _ _ _ _ (pe_fld (pv 0) rfl) (@pa_cons _ _ _ _ _ pe_str pa_nil (by rfl)) (by rfl)))) pss_nil) (@pss_one _ _ _ (@ps_ret _ _ _ _ (pv 1))))),?_⟩
  refine ⟨_,rfl,o,dx,_,rfl,h.ins,rfl,o,dx,wa,ws,x,i,rfl,h,fun z hz=>?_,fun hz=>kx (by unfold pWd;rw [hz])⟩
  have hi:=(List.getElem?_eq_some_iff.mp hz).1
  have hs:=h.step (j:=i+1) hi
  obtain ⟨h100,h128⟩:=h.ok z (List.mem_of_getElem? hz)
  have hb:=ButO.upd o H (.ins AA.c_Phrase dx (phF wa x (i+1)))
  dsimp only [gName]
  refine ⟨_,rfl,z,rfl,h100,h128,fun H1 s1=>⟨_,rfl,?_⟩⟩
  have hs1:=hs.same s1
  have hb1:=hb.trans s1.but
  cases hm:isName z with
  | true =>
   refine iteF ?_
   exact ⟨_,rfl,kq z _ (by unfold pWd;rw [hz];exact if_pos hm) hb1 hs1⟩
  | false =>
   refine iteT ?_
   have kx:=kx (by unfold pWd;rw [hz];exact if_neg (by rw [hm];decide))
   exact ⟨_,rfl,o,AA.c_Phrase,dx,_,_,rfl,hs1.ins,T.cl_Phrase,T.na_Phrase_at,rfl,(by show 2<=sizeLine;decide),fun e tt he _ _=>raise_NoForm (kx.word hb1) e tt he⟩
noncomputable abbrev N_Za:List Str:=["self","word"]
theorem sc_Za:FnScope N_Za ["self"] (defScope st_Za):=⟨rfl,rfl,rfl,by decide +kernel,rfl,by decide +kernel,by decide +kernel⟩
theorem ok_takepk (T:All P w K mg AA DD):FnOk P w K mg base (CX2 (fun _=>True) P w) 4 AA.Za DD.Za ["self"] (spWd isPk AA.c_Phrase AA.x_NoForm):=by
 have GT:=ok_take (base:=base) T
 have GI:=ok_xinit (base:=base) T
 refine T.F_Za.ok2 sc_Za (fun vs H Q E h=>?_) (fun cdv A outer s H vs Q E hr h=>?_)
 ·obtain ⟨o,dx,wa,ws,x,i,rfl,_⟩:=h
  rfl
 ·obtain ⟨o,dx,wa,ws,x,i,rfl,h,kq,kx⟩:=h
  have nd:=sc_Za.nd
  have hr2:Room 2 _:=hr.mono (by decide)
  have hr3:Room 3 _:=hr
  refine ⟨_,(@pss_cons _ _ _ _ _ (@ps_set _ _ 1 _ _ _ _ nd rfl (Or.inl rfl) (pe_meth0 (pv 0) T.cl_Phrase T.M_Zv GT hr3 T.b_Zv .nil (pass2 fun _ z=>z)) (by rfl) (by first | exact .inl rfl | exact .inr rfl | assumption)) (@pss_cons _ _ _ _ _ (@ps_if _ _ _ _ _ _ _ _ (@pt_cmpR _ _ _ _ _ _ _ _ (op_notIn_seqK (K:=K) rfl) (pv 1) (pe_glob (v:=.ref AA.q_PLAIN_KINDS) rfl T.m_PLAIN_KINDS rfl) rfl) (@pss_one _ _ _ (ps_raiseI body_cx (raise2 trivial) rfl rfl T.m_NoForm T.M_NoForm PySem.F.excBase_ValueError GI hr2 T.b_Zw (@pa_cons _ _ _ _ _ (pe_fld (pv 0) rfl) (@pa_cons _ _ _ _ _ pe_str pa_nil (by rfl)) (by rfl)))) pss_nil) (@pss_one _ _ _ (@ps_ret _ _ _ _ (pv 1))))),?_⟩
  refine ⟨_,rfl,o,dx,_,rfl,h.ins,rfl,o,dx,wa,ws,x,i,rfl,h,fun z hz=>?_,fun hz=>kx (by unfold pWd;rw [hz])⟩
  have hi:=(List.getElem?_eq_some_iff.mp hz).1
  have hs:=h.step (j:=i+1) hi
  have hb:=ButO.upd o H (.ins AA.c_Phrase dx (phF wa x (i+1)))
  dsimp only [gName]
  refine ⟨_,rfl,AA.q_PLAIN_KINDS,(["num","truth"]:List Str).map V.str,rfl,.inr (T.Q_PLAIN_KINDS _),rfl,rfl,_,rfl,?_⟩
  rw [inV_strs]
  cases hm:isPk z with
  | true =>
   rw [show decide (z∈(["num","truth"]:List Str))=true from hm]
   refine iteF ?_
   exact ⟨_,rfl,kq z _ (by unfold pWd;rw [hz];exact if_pos hm) hb hs⟩
  | false =>
   rw [show decide (z∈(["num","truth"]:List Str))=false from hm]
   refine iteT ?_
   have kx:=kx (by unfold pWd;rw [hz];exact if_neg (by rw [hm];decide))
   exact ⟨_,rfl,o,AA.c_Phrase,dx,_,_,rfl,hs.ins,T.cl_Phrase,T.na_Phrase_at,rfl,(by show 2<=sizeLine;decide),fun e tt he _ _=>raise_NoForm (kx.word hb) e tt he⟩
noncomputable abbrev N_Zk:List Str:=["self","word"]
theorem sc_Zk:FnScope N_Zk ["self"] (defScope st_Zk):=⟨rfl,rfl,rfl,by decide +kernel,rfl,by decide +kernel,by decide +kernel⟩
theorem ok_takekd (T:All P w K mg AA DD):FnOk P w K mg base (CX2 (fun _=>True) P w) 4 AA.Zk DD.Zk ["self"] (spWd isKd AA.c_Phrase AA.x_NoForm):=by
 have GT:=ok_take (base:=base) T
 have GN:=ok_isname (base:=base) T
 have GI:=ok_xinit (base:=base) T
 refine T.F_Zk.ok2 sc_Zk (fun vs H Q E h=>?_) (fun cdv A outer s H vs Q E hr h=>?_)
 ·obtain ⟨o,dx,wa,ws,x,i,rfl,_⟩:=h
  rfl
 ·obtain ⟨o,dx,wa,ws,x,i,rfl,h,kq,kx⟩:=h
  have nd:=sc_Zk.nd
  have hr2:Room 2 _:=hr.mono (by decide)
  have hr3:Room 3 _:=hr
  refine ⟨_,(@pss_cons _ _ _ _ _ (@ps_set _ _ 1 _ _ _ _ nd rfl (Or.inl rfl) (pe_meth0 (pv 0) T.cl_Phrase T.M_Zv GT hr3 T.b_Zv .nil (pass2 fun _ z=>z)) (by rfl) (by first | exact .inl rfl | exact .inr rfl | assumption)) (@pss_cons _ _ _ _ _ (@ps_if _ _ _ _ _ _ _ _ (PW.pt (pw_and (@pt_cmpR _ _ _ _ _ _ _ _ (op_notIn_seqK (K:=K) rfl) (pv 1) (pe_glob (v:=.ref AA.q_PLAIN_KINDS) rfl T.m_PLAIN_KINDS rfl) rfl) (pw_and1 (pt_not (pt_val (pe_call GN hr2 rfl T.m_ZN T.k_ZN T.b_ZN .nil pass0 (@pa_cons _ _ _ _ _ (pv 1) pa_nil (by rfl)))))))) (@pss_one _ _ _ (ps_raiseI body_cx (raise2 trivial) rfl rfl T.m_NoForm T.M_NoForm PySem.F.excBase_ValueError GI hr2 T.b_Zw (@pa_cons _ _ _ _ _ (pe_fld (pv 0) rfl) (@pa_cons _ _ _ _ _ pe_str pa_nil (by rfl)) (by rfl)))) pss_nil) (@pss_one _ _ _ (@ps_ret _ _ _ _ (pv 1))))),?_⟩
  refine ⟨_,rfl,o,dx,_,rfl,h.ins,rfl,o,dx,wa,ws,x,i,rfl,h,fun z hz=>?_,fun hz=>kx (by unfold pWd;rw [hz])⟩
  have hi:=(List.getElem?_eq_some_iff.mp hz).1
  have hs:=h.step (j:=i+1) hi
  obtain ⟨h100,h128⟩:=h.ok z (List.mem_of_getElem? hz)
  have hb:=ButO.upd o H (.ins AA.c_Phrase dx (phF wa x (i+1)))
  dsimp only [gName]
  refine ⟨_,rfl,AA.q_PLAIN_KINDS,(["num","truth"]:List Str).map V.str,rfl,.inr (T.Q_PLAIN_KINDS _),rfl,rfl,_,rfl,?_⟩
  rw [inV_strs]
  cases hm:isPk z with
  | true =>
   rw [show decide (z∈(["num","truth"]:List Str))=true from hm]
   refine iteF ?_
   exact iteF ⟨_,rfl,kq z _ (by unfold pWd;rw [hz];exact if_pos (by unfold isKd;rw [hm];rfl)) hb hs⟩
  | false =>
   rw [show decide (z∈(["num","truth"]:List Str))=false from hm]
   refine iteT ?_
   refine ⟨_,rfl,z,rfl,h100,h128,fun H1 s1=>⟨_,rfl,?_⟩⟩
   have hs1:=hs.same s1
   have hb1:=hb.trans s1.but
   cases hn:isName z with
   | true =>
    refine iteF ?_
    exact ⟨_,rfl,kq z _ (by unfold pWd;rw [hz];exact if_pos (by unfold isKd;rw [hn,Bool.or_true])) hb1 hs1⟩
   | false =>
    refine iteT ?_
    have kx:=kx (by unfold pWd;rw [hz];exact if_neg (by unfold isKd;rw [hm,hn];decide))
    exact ⟨_,rfl,o,AA.c_Phrase,dx,_,_,rfl,hs1.ins,T.cl_Phrase,T.na_Phrase_at,rfl,(by show 2<=sizeLine;decide),fun e tt he _ _=>raise_NoForm (kx.word hb1) e tt he⟩
end
section
variable {P:Program} {w:World} {K:PySem.W.Frag} {mg:Str->Option Value} {base:Heap} {AA:Adr} {DD:Fds}
noncomputable def spEx (k:Nat) (C X:Addr):Sp:=fun vs H Q E=>∃ (o dx wa:Addr) (ws:List Str) (x:V) (i:Nat),vs=[.ref o,.int ((k:Nat):Int)]/\Ph C H o dx wa ws x i /\
 (∀ e j v H',pE ws k i=some (e,j)->ButO o H H'->Ph C H' o dx wa ws x j->ExAt H' v e->Q v H')/\(pE ws k i=none->ErrF E X x o H)
theorem spEx_mono {k:Nat} {C X:Addr} {vs:List V} {H:Hp} {Q Q':VK} {E:XK} (h:spEx k C X vs H Q E) (m:∀ v H',Q v H'->Q' v H'):spEx k C X vs H Q' E:=by
 obtain ⟨o,dx,wa,ws,x,i,rfl,h,kq,kx⟩:=h
 exact ⟨o,dx,wa,ws,x,i,rfl,h,fun e j v H' a b c d=>m _ _ (kq e j v H' a b c d),kx⟩
noncomputable def spMn (k:Nat) (C X:Addr):Sp:=fun vs H Q E=>∃ (o dx wa:Addr) (ws:List Str) (x:V) (i:Nat),vs=[.ref o,.int ((k:Nat):Int)]/\Ph C H o dx wa ws x i /\
 (∀ es j p vs H',pM (pE ws k) ws (ws.length+1) i=some (es,j)->ButO o H H'->Ph C H' o dx wa ws x j->H' p=some (.tup vs)->ExsAt H' vs es->Q (.ref p) H')/\(pM (pE ws k) ws (ws.length+1) i=none->ErrF E X x o H)
noncomputable abbrev N_Zf:List Str:=["self","deep","found"]
theorem sc_Zf:FnScope N_Zf ["self","deep"] (defScope st_Zf):=⟨rfl,rfl,rfl,by decide +kernel,rfl,by decide +kernel,by decide +kernel⟩
theorem ok_exprs (T:All P w K mg AA DD) (k:Nat) (GX:FnOk P w K mg base (CX2 (fun _=>True) P w) (3*k+4) AA.Zl DD.Zl ["self","deep"] (spEx k AA.c_Phrase AA.x_NoForm)) :
  FnOk P w K mg base (CX2 (fun _=>True) P w) (3*k+5) AA.Zf DD.Zf ["self","deep"] (spMn k AA.c_Phrase AA.x_NoForm):=by
 have GT:=ok_take (base:=base) T
 have GE:=ok_ended (base:=base) T
 refine T.F_Zf.ok2 sc_Zf (fun vs H Q E h=>?_) (fun cdv A outer s H vs Q E hr h=>?_)
 ·obtain ⟨o,dx,wa,ws,x,i,rfl,_⟩:=h
  rfl
 ·obtain ⟨o,dx,wa,ws,x,i,rfl,h,kq,kx⟩:=h
  have nd:=sc_Zf.nd
  have hr1:Room 1 _:=hr.mono (by omega)
  have hr3:Room 3 _:=hr.mono (by omega)
  have hrE:Room (3*k+4) _:=hr
  refine ⟨_,(@pss_cons _ _ _ _ _ (@ps_set _ _ 2 _ _ _ _ nd rfl (Or.inl rfl) (@pe_lst _ _ _ _ pa_nil) (by rfl) (by first | exact .inl rfl | exact .inr rfl | assumption)) (@pss_cons _ _ _ _ _ (@ps_while _ _ _ _ _ _ PassesOwn.leaving (PW.pt (pw_or (pt_val (pe_meth0 (pv 0) T.cl_Phrase T.M_Zq GE hr1 T.b_Zq .nil pass0)) (pw_or1 (@pt_cmpR _ _ _ _ _ _ _ _ op_ne (@pe_ix _ _ _ _ _ _ _ (ix_listK (K:=K) rfl) (pe_fld (pv 0) rfl) (pe_fld (pv 0) rfl) (fun _ _=>rfl)) pe_str (nomark _))))) (@pss_one _ _ _ (@ps_expr _ _ _ _ (pe_bm PySem.F.plainAttrs_list PySem.F.slot_list_append PySem.F.type_list_append mt_append (pv 2) (@pa_cons _ _ _ _ _ (pe_meth (pv 0) T.cl_Phrase T.M_Zl GX hrE T.b_Zl .nil (pass2 fun _ z=>z) (@pa_cons _ _ _ _ _ (pv 1) pa_nil (by rfl))) pa_nil (by rfl))) (by rfl)))) (@pss_cons _ _ _ _ _ (@ps_expr _ _ _ _ (pe_meth0 (pv 0) T.cl_Phrase T.M_Zv GT hr3 T.b_Zv .nil (pass2 fun _ z=>z)) (by rfl)) (@pss_one _ _ _ (@ps_ret _ _ _ _ (pe_callTy call_tuple_of rfl T.n_tuple bt_tuple (@pa_cons _ _ _ _ _ (pv 2) pa_nil (by rfl)))))))),?_⟩
  refine ⟨Nat.zero_le _,fun pf hpf=>?_⟩
  have npo:pf≠o:=fun e=>by rw [e,h.ins] at hpf;cases hpf
  have npw:pf≠wa:=fun e=>by rw [e,h.wds] at hpf;cases hpf
  dsimp only [gName]
  refine cut_while (fun σ' H'=>∃ (j:Nat) (vs:List V) (es:List Ex),σ'=[some (.ref o),some (.int ((k:Nat):Int)),some (.ref pf)]/\ButO o H H'/\Ph AA.c_Phrase H' o dx wa ws x j/\H' pf=some (.lst vs)/\ExsAt H' vs es/\vs.length<=900/\ws[j]?=some "."/\pM (pE ws k) ws (ws.length+1) i=some (es,j+1)) (fun R hRR=>?_) ?_
  ·refine ⟨fun m σ' H'=>∃ (j f:Nat) (vs:List V) (es:List Ex),m=ws.length-j/\ws.length-j<f/\σ'=[some (.ref o),some (.int ((k:Nat):Int)),some (.ref pf)]/\ButO o H H'/\Ph AA.c_Phrase H' o dx wa ws x j/\H' pf=some (.lst vs)/\ExsAt H' vs es/\vs.length<=j /\
     pM (pE ws k) ws (ws.length+1) i=(pM (pE ws k) ws f j).map fun q=>(es++q.1,q.2),⟨_,i,ws.length+1,[],[],rfl,by omega,rfl,(same_upd hpf).but,h.same (same_upd hpf),upd_same,.nil,Nat.zero_le _,?_⟩,?_⟩
   ·cases pM (pE ws k) ws (ws.length+1) i with
    | none=>rfl
    | some q=>rfl
   ·rintro m σ' H1 ⟨j,f,vs,es,rfl,hf,rfl,hb,h1,hp1,hE,hvl,eM⟩
    have hj:=h1.le
    have h900:=h1.few
    obtain ⟨f,rfl⟩:∃ g,f=g+1:=⟨f-1,by omega⟩
    refine ⟨_,rfl,o,dx,_,rfl,h1.ins,rfl,o,dx,wa,ws,x,j,rfl,h1,_,rfl,?_⟩
    have body:ws[j]?≠some "."->∃ N:St->Hp->Prop,(∀ σ' H',N σ' H'->∃ m',m'<ws.length-j/\∃ (j f:Nat) (vs:List V) (es:List Ex),m'=ws.length-j/\ws.length-j<f/\σ'=[some (.ref o),some (.int ((k:Nat):Int)),some (.ref pf)]/\ButO o H H'/\Ph AA.c_Phrase H' o dx wa ws x j/\H' pf=some (.lst vs)/\ExsAt H' vs es/\vs.length<=j /\
      pM (pE ws k) ws (ws.length+1) i=(pM (pE ws k) ws f j).map fun q=>(es++q.1,q.2)) /\
     (spEx k AA.c_Phrase AA.x_NoForm [.ref o,.int ((k:Nat):Int)] H1 (fun v H2=>H2 pf=some (.lst vs)/\vs.length<=900/\N [some (.ref o),some (.int ((k:Nat):Int)),some (.ref pf)] (upd H2 pf (.lst (vs++[v])))) E):=by
     intro hd
     refine ⟨_,fun _ _ h=>h,o,dx,wa,ws,x,j,rfl,h1,fun e j' v H2 he hb2 h2 hv=>?_,fun hn=>?_⟩
     ·have hle:=pE_le ws k j e j' he
      have hp2:=hb2 _ _ hp1 npo
      refine ⟨hp2,by omega,ws.length-j',by omega,j',f,vs++[v],es++[e],rfl,by omega,rfl,fun b u eb nb=>?_,⟨?_,?_,h2.ok,h2.le,h2.few⟩,upd_same,?_,by simp;omega,?_⟩
      ·rw [upd_ne (fun z=>by rw [z,hpf] at eb;cases eb)]
       exact hb2 _ _ (hb _ _ eb nb) nb
      ·rw [upd_ne (Ne.symm npo)];exact h2.ins
      ·rw [upd_ne (Ne.symm npw)];exact h2.wds
      ·have t1:TupS H2 (upd H2 pf (.lst (vs++[v]))):=fun b xs eb=>by rw [upd_ne (fun z=>by rw [z,hp2] at eb;cases eb)];exact eb
       exact ((hE.kept (hb2.tups h1.ins)).kept t1).snoc (hv.kept t1)
      ·rw [eM,(pM_turn hd).2 e j' he,Option.map_map]
       congr 1
       funext q
       simp
     ·refine (kx ?_).but hb
      rw [eM,(pM_turn hd).1 hn]
      rfl
    by_cases he:j=ws.length
    ·rw [decide_eq_true he]
     refine iteT (iteT ?_)
     obtain ⟨N,hN,sp⟩:=body (by rw [he,List.getElem?_eq_none (Nat.le_refl _)];exact fun z=>by cases z)
     refine ⟨N,hN,?_⟩
     refine ⟨_,rfl,.inl ⟨rfl,_,SqL.of hp1⟩,_,rfl,o,dx,_,rfl,h1.ins,rfl,_,rfl,spEx_mono sp fun v H2 hsl65=>?_⟩
     obtain ⟨a,b,c⟩:=hsl65
     exact ⟨pf,_,_,rfl,rfl,a,small1000 (by omega),c⟩
    ·rw [decide_eq_false he]
     refine iteF ?_
     have hjl:j<ws.length:=by omega
     refine ⟨_,rfl,o,AA.c_Phrase,dx,_,_,rfl,h1.ins,T.cl_Phrase,T.na_Phrase_words,rfl,_,rfl,o,AA.c_Phrase,dx,_,_,rfl,h1.ins,T.cl_Phrase,T.na_Phrase_place,rfl,wa,_,_,_,rfl,rfl,SqL.of h1.wds,atI_nat (by rw [List.getElem?_map,List.getElem?_eq_getElem hjl];rfl),rfl,_,rfl,?_⟩
     rw [dec_str]
     by_cases hd:ws[j]="."
     ·rw [decide_eq_true hd]
      refine iteF ?_
      have hd':ws[j]?=some (".":Str):=by rw [List.getElem?_eq_getElem hjl,hd]
      refine hRR _ _ ⟨j,vs,es,rfl,hb,h1,hp1,hE,by omega,hd',?_⟩
      rw [eM,pM_stop hd']
      simp
     ·rw [decide_eq_false hd]
      refine iteT ?_
      obtain ⟨N,hN,sp⟩:=body (by rw [List.getElem?_eq_getElem hjl];exact fun z=>hd (Option.some.inj z))
      refine ⟨N,hN,?_⟩
      refine ⟨_,rfl,.inl ⟨rfl,_,SqL.of hp1⟩,_,rfl,o,dx,_,rfl,h1.ins,rfl,_,rfl,spEx_mono sp fun v H2 hsl66=>?_⟩
      obtain ⟨a,b,c⟩:=hsl66
      exact ⟨pf,_,_,rfl,rfl,a,small1000 (by omega),c⟩
  rintro σ' H1 ⟨j,vs,es,rfl,hb,h1,hp1,hE,hvl,hd,eM⟩
  have hj:=(List.getElem?_eq_some_iff.mp hd).1
  have nd1:ButO o H1 (upd H1 o (.ins AA.c_Phrase dx (phF wa x (j+1)))):=ButO.upd _ _ _
  refine ⟨_,rfl,o,dx,_,rfl,h1.ins,rfl,o,dx,wa,ws,x,j,rfl,h1,fun z hz=>?_,fun hz=>by rw [hd] at hz;cases hz⟩
  have h2:=h1.step (j:=j+1) hj
  have hp2:=nd1 _ _ hp1 npo
  refine ⟨_,rfl,pf,_,rfl,.inl ⟨SqL.of hp2,fun pt hpt=>?_⟩⟩
  have s3:=same_upd (o:=.tup vs) hpt
  exact kq es (j+1) pt vs _ eM ((hb.trans nd1).trans s3.but) (h2.same s3) upd_same ((hE.kept (nd1.tups h1.ins)).kept s3.tups)
noncomputable def spNd (k:Nat) (C X:Addr):Sp:=fun vs H Q E=>∃ (o dx wa:Addr) (ws:List Str) (x:V) (i:Nat) (z:Str),vs=[.ref o,.str z,.int (((k+1:Nat)):Int)]/\Ph C H o dx wa ws x i /\
 (∀ e j v H',pD (pE ws k) ws z i=some (e,j)->ButO o H H'->Ph C H' o dx wa ws x j->ExAt H' v e->Q v H')/\(pD (pE ws k) ws z i=none->ErrF E X x o H)
theorem less1 (k:Nat) (o:Addr):[V.ref o,V.int ((((k+1:Nat)):Int)-1)]=[V.ref o,V.int ((k:Nat):Int)]:=by rw [show ((((k+1:Nat)):Int)-1)=((k:Nat):Int) by omega]
noncomputable abbrev N_Ze:List Str:=["self","word","deep","name"]
theorem sc_Ze:FnScope N_Ze ["self","word","deep"] (defScope st_Ze):=⟨rfl,rfl,rfl,by decide +kernel,rfl,by decide +kernel,by decide +kernel⟩
theorem ok_named (T:All P w K mg AA DD) (k:Nat) (GX:FnOk P w K mg base (CX2 (fun _=>True) P w) (3*k+4) AA.Zl DD.Zl ["self","deep"] (spEx k AA.c_Phrase AA.x_NoForm)) :
  FnOk P w K mg base (CX2 (fun _=>True) P w) (3*k+6) AA.Ze DD.Ze ["self","word","deep"] (spNd k AA.c_Phrase AA.x_NoForm):=by
 have GA:=ok_takename (base:=base) T
 have GS:=ok_exprs (base:=base) T k GX
 have GI:=ok_xinit (base:=base) T
 refine T.F_Ze.ok2 sc_Ze (fun vs H Q E h=>?_) (fun cdv A outer s H vs Q E hr h=>?_)
 ·obtain ⟨o,dx,wa,ws,x,i,z,rfl,_⟩:=h
  rfl
 ·obtain ⟨o,dx,wa,ws,x,i,z,rfl,h,kq,kx⟩:=h
  have nd:=sc_Ze.nd
  have hr2:Room 2 _:=hr.mono (by omega)
  have hr4:Room 4 _:=hr.mono (by omega)
  have hrE:Room (3*k+4) _:=hr.mono (by omega)
  have hrX:Room (3*k+5) _:=hr
  refine ⟨_,(@pss_cons _ _ _ _ _ (@ps_if _ _ _ _ _ _ _ _ (@pt_cmpR _ _ _ _ _ _ _ _ (op_notIn_seqK (K:=K) rfl) (pv 1) (@pe_tup _ _ _ _ _ (@pa_cons _ _ _ _ _ pe_str (@pa_cons _ _ _ _ _ pe_str (@pa_cons _ _ _ _ _ pe_str pa_nil (by rfl)) (by rfl)) (by rfl))) rfl) (@pss_one _ _ _ (ps_raiseI body_cx (raise2 trivial) rfl rfl T.m_NoForm T.M_NoForm PySem.F.excBase_ValueError GI hr2 T.b_Zw (@pa_cons _ _ _ _ _ (pe_fld (pv 0) rfl) (@pa_cons _ _ _ _ _ pe_str pa_nil (by rfl)) (by rfl)))) pss_nil) (@pss_cons _ _ _ _ _ (@ps_set _ _ 3 _ _ _ _ nd rfl (Or.inl rfl) (pe_meth0 (pv 0) T.cl_Phrase T.M_Zj GA hr4 T.b_Zj .nil (pass2 fun _ z=>z)) (by rfl) (by first | exact .inl rfl | exact .inr rfl | assumption)) (@pss_cons _ _ _ _ _ (@ps_if _ _ _ _ _ _ _ _ (@pt_cmpR _ _ _ _ _ _ _ _ op_eq (pv 1) pe_str (nomark _)) (@pss_one _ _ _ (@ps_ret _ _ _ _ (@pe_tup _ _ _ _ _ (@pa_cons _ _ _ _ _ (pv 1) (@pa_cons _ _ _ _ _ (pv 3) (@pa_cons _ _ _ _ _ (pe_meth (pv 0) T.cl_Phrase T.M_Zl GX hrE T.b_Zl .nil (pass2 fun _ z=>z) (@pa_cons _ _ _ _ _ (@pe_op _ _ _ _ _ _ _ _ op_sub (pv 2) pe_int) pa_nil (by rfl))) pa_nil (by rfl)) (by rfl)) (by rfl))))) pss_nil) (@pss_one _ _ _ (@ps_ret _ _ _ _ (@pe_tup _ _ _ _ _ (@pa_cons _ _ _ _ _ (pv 1) (@pa_cons _ _ _ _ _ (pv 3) (@pa_cons _ _ _ _ _ (pe_meth (pv 0) T.cl_Phrase T.M_Zf GS hrX T.b_Zf .nil (pass2 fun _ z=>z) (@pa_cons _ _ _ _ _ (@pe_op _ _ _ _ _ _ _ _ op_sub (pv 2) pe_int) pa_nil (by rfl))) pa_nil (by rfl)) (by rfl)) (by rfl)))))))),?_⟩
  refine ⟨_,rfl,(by show 3<=sizeLine;decide),fun pt hpt=>⟨pt,(["do","new","of"]:List Str).map V.str,rfl,.inr (SqT.of upd_same),rfl,rfl,_,rfl,?_⟩⟩
  rw [inV_strs]
  have s0:=same_upd (o:=.tup ((["do","new","of"]:List Str).map V.str)) hpt
  unfold pD at kq kx
  cases hm:isMany z with
  | false =>
   rw [hm] at kx
   rw [show decide (z∈(["do","new","of"]:List Str))=false from hm]
   refine iteT ?_
   exact ⟨_,rfl,o,AA.c_Phrase,dx,_,_,rfl,s0 _ _ h.ins,T.cl_Phrase,T.na_Phrase_at,rfl,(by show 2<=sizeLine;decide),fun e tt he _ _=>raise_NoForm ((kx rfl).word s0.but) e tt he⟩
  | true =>
   rw [hm] at kx kq
   simp only [if_true] at kx kq
   rw [show decide (z∈(["do","new","of"]:List Str))=true from hm]
   refine iteF ?_
   have h0:=h.same s0
   refine ⟨_,rfl,o,dx,_,rfl,h0.ins,rfl,o,dx,wa,ws,x,i,rfl,h0,fun n H1 hn hb1 h1=>?_,fun hn=>(kx (by rw [hn])).but s0.but⟩
   rw [hn] at kx kq
   dsimp only at kx kq
   have b1:=s0.but.trans hb1
   dsimp only [gName]
   refine ⟨_,rfl,rfl,_,rfl,?_⟩
   rw [dec_str]
   by_cases ho:z="of"
   ·rw [decide_eq_true ho]
    rw [if_pos ho] at kx kq
    refine iteT ?_
    refine ⟨_,rfl,_,rfl,_,rfl,o,dx,_,rfl,h1.ins,rfl,_,rfl,_,_,rfl,rfl,?_⟩
    refine ⟨o,dx,wa,ws,x,i+1,less1 k o,h1,fun e j v H2 he hb2 h2 hv=>⟨(by show 3<=sizeLine;decide),fun pr hpr=>?_⟩,fun hn=>(kx (by rw [hn])).but b1⟩
    have s3:=same_upd (o:=.tup [.str z,.str n,v]) hpr
    refine kq (.of n e) j (.ref pr) _ (by rw [he]) ((b1.trans hb2).trans s3.but) (h2.same s3) (.of ?_ (hv.kept s3.tups))
    rw [<- ho]
    exact upd_same
   ·rw [decide_eq_false ho]
    rw [if_neg ho] at kx kq
    refine iteF ?_
    refine ⟨_,rfl,_,rfl,_,rfl,o,dx,_,rfl,h1.ins,rfl,_,rfl,_,_,rfl,rfl,?_⟩
    refine ⟨o,dx,wa,ws,x,i+1,less1 k o,h1,fun es j p vs H2 he hb2 h2 hp hv=>⟨(by show 3<=sizeLine;decide),fun pr hpr=>?_⟩,fun hn=>(kx (by rw [hn])).but b1⟩
    have s3:=same_upd (o:=.tup [.str z,.str n,.ref p]) hpr
    exact kq (.many z n es) j (.ref pr) _ (by rw [he]) ((b1.trans hb2).trans s3.but) (h2.same s3) (.many upd_same (s3 _ _ hp) (hv.kept s3.tups))
end
section
variable {P:Program} {w:World} {K:PySem.W.Frag} {mg:Str->Option Value} {base:Heap} {AA:Adr} {DD:Fds}
theorem num_val {z:Str} (h:isNum z=true):PySem.intText? z=some (numV z):=by
 have hd:PySem.NumText.AllDigits z.cps.toList/\z.cps.toList≠[]/\z.length<=18:=by
  unfold isNum at h
  by_cases h0:z="0"
  ·subst h0
   have e:("0":Str).cps.toList=[48]:=by decide +kernel
   refine ⟨fun c hc=>?_,by rw [e];simp,by decide +kernel⟩
   rw [e] at hc
   have:c=48:=by simpa using hc
   omega
  ·rw [decide_eq_false h0,Bool.false_or,Bool.and_eq_true] at h
   have h:=h.1
   unfold madeOf at h
   rw [Bool.and_eq_true,Bool.and_eq_true,List.all_eq_true] at h
   obtain ⟨a,b,c⟩:=h
   refine ⟨fun d hd=>of_decide_eq_true (c d hd),fun e=>?_,of_decide_eq_true b⟩
   obtain ⟨arr⟩:=z
   have:arr=#[]:=Array.toList_eq_nil_iff.mp e
   subst this
   revert a
   decide +kernel
 have e:=PySem.intText_digits hd.1 hd.2.1 (Nat.le_trans hd.2.2 (by decide))
 rw [numV,e]
 rfl
noncomputable abbrev N_Zl:List Str:=["self","deep","word","left"]
theorem sc_Zl:FnScope N_Zl ["self","deep"] (defScope st_Zl):=⟨rfl,rfl,rfl,by decide +kernel,rfl,by decide +kernel,by decide +kernel⟩
theorem ok_expr0 (T:All P w K mg AA DD):FnOk P w K mg base (CX2 (fun _=>True) P w) 4 AA.Zl DD.Zl ["self","deep"] (spEx 0 AA.c_Phrase AA.x_NoForm):=by
 have GT:=ok_take (base:=base) T
 have GB:=ok_isnum (base:=base) T
 have GN:=ok_isname (base:=base) T
 have GI:=ok_xinit (base:=base) T
 refine T.F_Zl.ok2 sc_Zl (fun vs H Q E h=>?_) (fun cdv A outer s H vs Q E hr h=>?_)
 ·obtain ⟨o,dx,wa,ws,x,i,rfl,_⟩:=h
  rfl
 ·obtain ⟨o,dx,wa,ws,x,i,rfl,h,kq,kx⟩:=h
  have nd:=sc_Zl.nd
  have hr2:Room 2 _:=hr.mono (by omega)
  refine ⟨_,pss_cons (ps_if (pt_cmpR op_eq (pv 1) pe_int (nomark _)) (@pss_one _ _ _ (ps_raiseI body_cx (raise2 trivial) rfl rfl T.m_NoForm T.M_NoForm PySem.F.excBase_ValueError GI hr2 T.b_Zw (@pa_cons _ _ _ _ _ (pe_fld (pv 0) rfl) (@pa_cons _ _ _ _ _ pe_str pa_nil (by rfl)) (by rfl)))) pss_nil) pss_never,?_⟩
  refine ⟨_,rfl,rfl,_,rfl,?_⟩
  refine iteT ?_
  have kx:=kx rfl
  exact ⟨_,rfl,o,AA.c_Phrase,dx,_,_,rfl,h.ins,T.cl_Phrase,T.na_Phrase_at,rfl,(by show 2<=sizeLine;decide),fun e tt he _ _=>raise_NoForm (kx.word (ButO.refl _ _)) e tt he⟩
theorem ok_exprS (T:All P w K mg AA DD) (k:Nat) (GX:FnOk P w K mg base (CX2 (fun _=>True) P w) (3*k+4) AA.Zl DD.Zl ["self","deep"] (spEx k AA.c_Phrase AA.x_NoForm)) :
  FnOk P w K mg base (CX2 (fun _=>True) P w) (3*k+7) AA.Zl DD.Zl ["self","deep"] (spEx (k+1) AA.c_Phrase AA.x_NoForm):=by
 have GT:=ok_take (base:=base) T
 have GB:=ok_isnum (base:=base) T
 have GN:=ok_isname (base:=base) T
 have GD:=ok_named (base:=base) T k GX
 have GI:=ok_xinit (base:=base) T
 refine T.F_Zl.ok2 sc_Zl (fun vs H Q E h=>?_) (fun cdv A outer s H vs Q E hr h=>?_)
 ·obtain ⟨o,dx,wa,ws,x,i,rfl,_⟩:=h
  rfl
 ·obtain ⟨o,dx,wa,ws,x,i,rfl,h,kq,kx⟩:=h
  have nd:=sc_Zl.nd
  have hr2:Room 2 _:=hr.mono (by omega)
  have hr3:Room 3 _:=hr.mono (by omega)
  have hrE:Room (3*k+4) _:=hr.mono (by omega)
  have hrN:Room (3*k+6) _:=hr
  refine ⟨_,(@pss_cons _ _ _ _ _ (@ps_if _ _ _ _ _ _ _ _ (@pt_cmpR _ _ _ _ _ _ _ _ op_eq (pv 1) pe_int (nomark _)) (@pss_one _ _ _ (ps_raiseI body_cx (raise2 trivial) rfl rfl T.m_NoForm T.M_NoForm PySem.F.excBase_ValueError GI hr2 T.b_Zw (@pa_cons _ _ _ _ _ (pe_fld (pv 0) rfl) (@pa_cons _ _ _ _ _ pe_str pa_nil (by rfl)) (by rfl)))) pss_nil) (@pss_cons _ _ _ _ _ (@ps_set _ _ 2 _ _ _ _ nd rfl (Or.inl rfl) (pe_meth0 (pv 0) T.cl_Phrase T.M_Zv GT hr3 T.b_Zv .nil (pass2 fun _ z=>z)) (by rfl) (by first | exact .inl rfl | exact .inr rfl | assumption)) (@pss_cons _ _ _ _ _ (@ps_if _ _ _ _ _ _ _ _ (pt_val (pe_call GB hr2 rfl T.m_ZD T.k_ZD T.b_ZD .nil pass0 (@pa_cons _ _ _ _ _ (pv 2) pa_nil (by rfl)))) (@pss_one _ _ _ (@ps_ret _ _ _ _ (@pe_tup _ _ _ _ _ (@pa_cons _ _ _ _ _ pe_str (@pa_cons _ _ _ _ _ (pe_callTy call_intS rfl T.n_int bt_int (@pa_cons _ _ _ _ _ (pv 2) pa_nil (by rfl))) pa_nil (by rfl)) (by rfl))))) pss_nil) (@pss_cons _ _ _ _ _ (@ps_if _ _ _ _ _ _ _ _ (@pt_cmpR _ _ _ _ _ _ _ _ (op_in_seqK (K:=K) rfl) (pv 2) (@pe_tup _ _ _ _ _ (@pa_cons _ _ _ _ _ pe_str (@pa_cons _ _ _ _ _ pe_str pa_nil (by rfl)) (by rfl))) rfl) (@pss_one _ _ _ (@ps_ret _ _ _ _ (@pe_tup _ _ _ _ _ (@pa_cons _ _ _ _ _ pe_str (@pa_cons _ _ _ _ _ (pv 2) pa_nil (by rfl)) (by rfl))))) pss_nil) (@pss_cons _ _ _ _ _ (@ps_if _ _ _ _ _ _ _ _ (pt_val (pe_call GN hr2 rfl T.m_ZN T.k_ZN T.b_ZN .nil pass0 (@pa_cons _ _ _ _ _ (pv 2) pa_nil (by rfl)))) (@pss_one _ _ _ (@ps_ret _ _ _ _ (@pe_tup _ _ _ _ _ (@pa_cons _ _ _ _ _ pe_str (@pa_cons _ _ _ _ _ (pv 2) pa_nil (by rfl)) (by rfl))))) pss_nil) (@pss_cons _ _ _ _ _ (@ps_if _ _ _ _ _ _ _ _ (@pt_cmpR _ _ _ _ _ _ _ _ op_eq (pv 2) pe_str (nomark _)) (@pss_one _ _ _ (@ps_ret _ _ _ _ (@pe_tup _ _ _ _ _ (@pa_cons _ _ _ _ _ (pv 2) (@pa_cons _ _ _ _ _ (pe_meth (pv 0) T.cl_Phrase T.M_Zl GX hrE T.b_Zl .nil (pass2 fun _ z=>z) (@pa_cons _ _ _ _ _ (@pe_op _ _ _ _ _ _ _ _ op_sub (pv 1) pe_int) pa_nil (by rfl))) pa_nil (by rfl)) (by rfl))))) pss_nil) (@pss_cons _ _ _ _ _ (@ps_if _ _ _ _ _ _ _ _ (@pt_cmpR _ _ _ _ _ _ _ _ (op_in_seqK (K:=K) rfl) (pv 2) (pe_glob (v:=.ref AA.q_OPERATORS) rfl T.m_OPERATORS rfl) rfl) (@pss_cons _ _ _ _ _ (@ps_set _ _ 3 _ _ _ _ nd rfl (Or.inl rfl) (pe_meth (pv 0) T.cl_Phrase T.M_Zl GX hrE T.b_Zl .nil (pass2 fun _ z=>z) (@pa_cons _ _ _ _ _ (@pe_op _ _ _ _ _ _ _ _ op_sub (pv 1) pe_int) pa_nil (by rfl))) (by rfl) (by first | exact .inl rfl | exact .inr rfl | assumption)) (@pss_one _ _ _ (@ps_ret _ _ _ _ (@pe_tup _ _ _ _ _ (@pa_cons _ _ _ _ _ (pv 2) (@pa_cons _ _ _ _ _ (pv 3) (@pa_cons _ _ _ _ _ (pe_meth (pv 0) T.cl_Phrase T.M_Zl GX hrE T.b_Zl .nil (pass2 fun _ z=>z) (@pa_cons _ _ _ _ _ (@pe_op _ _ _ _ _ _ _ _ op_sub (pv 1) pe_int) pa_nil (by rfl))) pa_nil (by rfl)) (by rfl)) (by rfl)))))) pss_nil) (@pss_one _ _ _ (@ps_ret _ _ _ _ (pe_meth (pv 0) T.cl_Phrase T.M_Ze GD hrN T.b_Ze .nil (pass2 fun _ z=>z) (@pa_cons _ _ _ _ _ (pv 2) (@pa_cons _ _ _ _ _ (pv 1) pa_nil (by rfl)) (by rfl)))))))))))),?_⟩
  refine ⟨_,rfl,rfl,_,rfl,?_⟩
  rw [decide_eq_false (fun e=>by injection e with e;omega)]
  refine iteF ?_
  unfold pE at kq kx
  refine ⟨_,rfl,o,dx,_,rfl,h.ins,rfl,o,dx,wa,ws,x,i,rfl,h,fun z hz=>?_,fun hz=>kx (by rw [hz])⟩
  rw [hz] at kq kx
  dsimp only at kq kx
  have hi:=(List.getElem?_eq_some_iff.mp hz).1
  have h1:=h.step (j:=i+1) hi
  obtain ⟨h100,h128⟩:=h.ok z (List.mem_of_getElem? hz)
  have b1:=ButO.upd o H (.ins AA.c_Phrase dx (phF wa x (i+1)))
  dsimp only [gName]
  generalize upd H o (.ins AA.c_Phrase dx (phF wa x (i+1)))=H1 at h1 b1 ⊢
  refine ⟨_,rfl,z,rfl,h100,h128,fun H2 s2=>⟨_,rfl,?_⟩⟩
  have h2:=h1.same s2
  have b2:=b1.trans s2.but
  cases hm:isNum z with
  | true =>
   rw [hm,if_pos rfl] at kq
   refine iteT ?_
   refine ⟨_,rfl,z,_,rfl,num_val hm,by omega,(by show 2<=sizeLine;decide),fun pr hpr=>?_⟩
   have s3:=same_upd (o:=.tup [.str "num",.int (numV z)]) hpr
   exact kq _ _ _ _ rfl (b2.trans s3.but) (h2.same s3) (.num upd_same)
  | false =>
  rw [hm,if_neg (by decide)] at kq kx
  refine iteF ?_
  refine ⟨_,rfl,(by show 2<=sizeLine;decide),fun pt hpt=>⟨pt,(["yes","no"]:List Str).map V.str,rfl,.inr (SqT.of upd_same),rfl,rfl,_,rfl,?_⟩⟩
  have s3:=same_upd (o:=.tup [.str "yes",.str "no"]) hpt
  have h3:=h2.same s3
  have b3:=b2.trans s3.but
  generalize upd H2 pt (.tup [.str "yes",.str "no"])=H3 at s3 h3 b3 ⊢
  rw [show (if false=true then !inV (V.str z) ((["yes","no"]:List Str).map V.str) else inV (V.str z) ((["yes","no"]:List Str).map V.str))=decide (z∈(["yes","no"]:List Str)) from inV_strs _ _]
  by_cases hy:z∈(["yes","no"]:List Str)
  ·rw [if_pos hy] at kq
   rw [decide_eq_true hy]
   refine iteT ?_
   refine ⟨_,rfl,(by show 2<=sizeLine;decide),fun pr hpr=>?_⟩
   have s4:=same_upd (o:=.tup [.str "truth",.str z]) hpr
   exact kq _ _ _ _ rfl (b3.trans s4.but) (h3.same s4) (.truth upd_same)
  rw [if_neg hy] at kq kx
  rw [decide_eq_false hy]
  refine iteF ?_
  refine ⟨_,rfl,z,rfl,h100,h128,fun H4 s4=>⟨_,rfl,?_⟩⟩
  have h4:=h3.same s4
  have b4:=b3.trans s4.but
  cases hn:isName z with
  | true =>
   rw [hn,if_pos rfl] at kq
   refine iteT ?_
   refine ⟨_,rfl,(by show 2<=sizeLine;decide),fun pr hpr=>?_⟩
   have s5:=same_upd (o:=.tup [.str "name",.str z]) hpr
   exact kq _ _ _ _ rfl (b4.trans s5.but) (h4.same s5) (.name upd_same)
  | false =>
  rw [hn,if_neg (by decide)] at kq kx
  refine iteF ?_
  refine ⟨_,rfl,rfl,_,rfl,?_⟩
  rw [dec_str]
  by_cases ht:z="not"
  ·rw [if_pos ht] at kq kx
   rw [decide_eq_true ht]
   refine iteT ?_
   refine ⟨_,rfl,_,rfl,o,dx,_,rfl,h4.ins,rfl,_,rfl,_,_,rfl,rfl,?_⟩
   refine ⟨o,dx,wa,ws,x,i+1,less1 k o,h4,fun e j v H5 he hb5 h5 hv=>⟨(by show 2<=sizeLine;decide),fun pr hpr=>?_⟩,fun hn=>(kx (by rw [hn])).but b4⟩
   have s6:=same_upd (o:=.tup [.str z,v]) hpr
   refine kq (.not e) j (.ref pr) _ (by rw [he]) ((b4.trans hb5).trans s6.but) (h5.same s6) (.not ?_ (hv.kept s6.tups))
   rw [<- ht]
   exact upd_same
  rw [if_neg ht] at kq kx
  rw [decide_eq_false ht]
  refine iteF ?_
  refine ⟨_,rfl,AA.q_OPERATORS,ops7.map V.str,rfl,.inr (T.Q_OPERATORS H4),rfl,rfl,_,rfl,?_⟩
  rw [show (if false=true then !inV (V.str z) (ops7.map V.str) else inV (V.str z) (ops7.map V.str))=decide (z∈ops7) from inV_strs _ _]
  by_cases h7:z∈ops7
  ·rw [if_pos h7] at kq kx
   rw [decide_eq_true h7]
   refine iteT ?_
   refine ⟨_,rfl,o,dx,_,rfl,h4.ins,rfl,_,rfl,_,_,rfl,rfl,?_⟩
   refine ⟨o,dx,wa,ws,x,i+1,less1 k o,h4,fun e j v H5 he hb5 h5 hv=>?_,fun hn=>(kx (by rw [hn])).but b4⟩
   rw [he] at kq kx
   dsimp only at kq kx
   have b5:=b4.trans hb5
   dsimp only [gName]
   refine ⟨_,rfl,_,rfl,_,rfl,o,dx,_,rfl,h5.ins,rfl,_,rfl,_,_,rfl,rfl,?_⟩
   refine ⟨o,dx,wa,ws,x,j,less1 k o,h5,fun e2 j2 u H6 he6 hb6 h6 hu=>⟨(by show 3<=sizeLine;decide),fun pr hpr=>?_⟩,fun hn=>(kx (by rw [hn])).but b5⟩
   have s7:=same_upd (o:=.tup [.str z,v,u]) hpr
   exact kq (.op z e e2) j2 (.ref pr) _ (by rw [he6]) ((b5.trans hb6).trans s7.but) (h6.same s7) (.op upd_same ((hv.kept (hb6.tups h5.ins)).kept s7.tups) (hu.kept s7.tups))
  rw [if_neg h7] at kq kx
  rw [decide_eq_false h7]
  refine iteF ?_
  refine ⟨_,rfl,o,dx,_,rfl,h4.ins,rfl,_,rfl,_,rfl,?_⟩
  exact ⟨o,dx,wa,ws,x,i+1,z,rfl,h4,fun e j v H5 he hb5 h5 hv=>kq e j v H5 he (b4.trans hb5) h5 hv,fun hn=>(kx hn).but b4⟩
theorem ok_expr (T:All P w K mg AA DD):∀ k:Nat,FnOk P w K mg base (CX2 (fun _=>True) P w) (3*k+4) AA.Zl DD.Zl ["self","deep"] (spEx k AA.c_Phrase AA.x_NoForm)
 | 0=>ok_expr0 T
 | k+1=>ok_exprS T k (ok_expr T k)
end
section
variable {P:Program} {w:World} {K:PySem.W.Frag} {mg:Str->Option Value} {base:Heap} {AA:Adr} {DD:Fds}
noncomputable def misP (z:Str) (ws:List Str):Bool:=if z∈(["kind","def"]:List Str) then decide (0<ws.length) else if z∈(["if","while"]:List Str) then decide (4<=ws.length) else decide (z="give")&&!decide (("def":Str)∈ws)
noncomputable def strP (z:Str) (ws:List Str):Bool:=if z="else" then decide (ws.length=0)||!decide (ws.getLast?=some ("if":Str)) else decide (z="end")&&decide (ws.length=0)
noncomputable def spWithin (f:Str->List Str->Bool):Sp:=fun vs H Q _=>∃ (z:Str) (p:Addr) (ws:List Str),vs=[.str z,.ref p]/\H p=some (.lst (ws.map V.str))/\ws.length<=10/\∀ H',Same H H'->Q (.bl (f z ws)) H'
theorem in_strs (z:Str) (l:List Str):(if false=true then !inV (V.str z) (l.map V.str) else inV (V.str z) (l.map V.str))=decide (z∈l):=inV_strs z l
theorem flat_strs (l:List Str):(l.map V.str).all flatV=true:=by
 rw [List.all_map,List.all_eq_true]
 exact fun _ _=>rfl
noncomputable abbrev N_Zp:List Str:=["word","within"]
theorem sc_Zp:FnScope N_Zp ["word","within"] (defScope st_Zp):=⟨rfl,rfl,rfl,by decide +kernel,rfl,by decide +kernel,by decide +kernel⟩
theorem ok_mis (T:All P w K mg AA DD):FnOk P w K mg base CX0 1 AA.Zp DD.Zp ["word","within"] (spWithin misP):=by
 refine T.F_Zp.ok sc_Zp (fun vs H Q E h=>?_) (fun cdv A outer s H vs Q E hr h=>?_)
 ·obtain ⟨z,p,ws,rfl,_⟩:=h
  rfl
 ·obtain ⟨z,p,ws,rfl,hp,hl,k⟩:=h
  obtain ⟨t2,hMOST_BLOCKS⟩:=T.v_MOST_BLOCKS
  refine ⟨_,(@pss_cons _ _ _ _ _ (@ps_if _ _ _ _ _ _ _ _ (@pt_cmpR _ _ _ _ _ _ _ _ (op_in_seqK (K:=K) rfl) (pv 0) (@pe_tup _ _ _ _ _ (@pa_cons _ _ _ _ _ pe_str (@pa_cons _ _ _ _ _ pe_str pa_nil (by rfl)) (by rfl))) rfl) (@pss_one _ _ _ (@ps_ret _ _ _ _ (@pe_cmpR _ _ _ _ _ _ _ _ op_gt (pe_callB call_len_seq rfl T.n_len bt_len (@pa_cons _ _ _ _ _ (pv 1) pa_nil (by rfl))) pe_int (nomark _)))) pss_nil) (@pss_cons _ _ _ _ _ (@ps_if _ _ _ _ _ _ _ _ (@pt_cmpR _ _ _ _ _ _ _ _ (op_in_seqK (K:=K) rfl) (pv 0) (@pe_tup _ _ _ _ _ (@pa_cons _ _ _ _ _ pe_str (@pa_cons _ _ _ _ _ pe_str pa_nil (by rfl)) (by rfl))) rfl) (@pss_one _ _ _ (@ps_ret _ _ _ _ (@pe_cmpR _ _ _ _ _ _ _ _ op_ge (pe_callB call_len_seq rfl T.n_len bt_len (@pa_cons _ _ _ _ _ (pv 1) pa_nil (by rfl))) (pe_glob (v:=.int 4) rfl hMOST_BLOCKS ⟨_,rfl⟩) (nomark _)))) pss_nil) (@pss_one _ _ _ (@ps_ret _ _ _ _ (pe_and (@pe_cmpR _ _ _ _ _ _ _ _ op_eq (pv 0) pe_str (nomark _)) (pe_one (@pe_cmpR _ _ _ _ _ _ _ _ (op_notIn_seqK (K:=K) rfl) pe_str (pv 1) rfl))))))),?_⟩
  unfold misP at k
  refine ⟨_,rfl,(by show 2<=sizeLine;decide),fun pt hpt=>⟨pt,(["kind","def"]:List Str).map V.str,rfl,.inr (SqT.of upd_same),rfl,rfl,_,rfl,?_⟩⟩
  have s1:=same_upd (o:=.tup [.str "kind",.str "def"]) hpt
  have hp1:=s1 _ _ hp
  rw [in_strs]
  by_cases h1:z∈(["kind","def"]:List Str)
  ·rw [decide_eq_true h1]
   refine iteT ?_
   refine ⟨_,rfl,p,_,rfl,.inl (SqL.of hp1),_,_,rfl,rfl,?_⟩
   have k:=k _ s1
   rw [if_pos h1] at k
   dsimp only
   rw [List.length_map,show decide ((0:Int)<(ws.length:Int))=decide (0<ws.length) from decide_eq_decide.mpr (by omega)]
   exact k
  rw [decide_eq_false h1]
  refine iteF ?_
  refine ⟨_,rfl,(by show 2<=sizeLine;decide),fun pu hpu=>⟨pu,(["if","while"]:List Str).map V.str,rfl,.inr (SqT.of upd_same),rfl,rfl,_,rfl,?_⟩⟩
  have s2:=s1.trans (same_upd (o:=.tup [.str "if",.str "while"]) hpu)
  have hp2:=s2 _ _ hp
  rw [in_strs]
  have k:=k _ s2
  rw [if_neg h1] at k
  by_cases h2:z∈(["if","while"]:List Str)
  ·rw [decide_eq_true h2]
   refine iteT ?_
   refine ⟨_,rfl,p,_,rfl,.inl (SqL.of hp2),_,_,rfl,rfl,?_⟩
   rw [if_pos h2] at k
   dsimp only
   rw [List.length_map,show decide ((4:Int)<=(ws.length:Int))=decide (4<=ws.length) from decide_eq_decide.mpr (by omega)]
   exact k
  rw [decide_eq_false h2]
  refine iteF ?_
  rw [if_neg h2] at k
  refine ⟨_,rfl,rfl,_,rfl,?_⟩
  rw [dec_str]
  by_cases h3:z="give"
  ·rw [decide_eq_true h3] at k ⊢
   refine iteT ?_
   refine ⟨_,rfl,p,_,rfl,.inl (SqL.of hp2),rfl,flat_strs ws,?_⟩
   rw [inV_strs]
   exact k
  ·rw [decide_eq_false h3] at k ⊢
   exact iteF k
noncomputable abbrev N_ZH:List Str:=["word","within"]
theorem sc_ZH:FnScope N_ZH ["word","within"] (defScope st_ZH):=⟨rfl,rfl,rfl,by decide +kernel,rfl,by decide +kernel,by decide +kernel⟩
theorem ok_stray (T:All P w K mg AA DD):FnOk P w K mg base CX0 1 AA.ZH DD.ZH ["word","within"] (spWithin strP):=by
 refine T.F_ZH.ok sc_ZH (fun vs H Q E h=>?_) (fun cdv A outer s H vs Q E hr h=>?_)
 ·obtain ⟨z,p,ws,rfl,_⟩:=h
  rfl
 ·obtain ⟨z,p,ws,rfl,hp,hl,k⟩:=h
  refine ⟨_,(@pss_cons _ _ _ _ _ (@ps_if _ _ _ _ _ _ _ _ (@pt_cmpR _ _ _ _ _ _ _ _ op_eq (pv 0) pe_str (nomark _)) (@pss_one _ _ _ (@ps_ret _ _ _ _ (pe_or (@pe_cmpR _ _ _ _ _ _ _ _ op_eq (pe_callB call_len_seq rfl T.n_len bt_len (@pa_cons _ _ _ _ _ (pv 1) pa_nil (by rfl))) pe_int (nomark _)) (pe_one (@pe_cmpR _ _ _ _ _ _ _ _ op_ne (@pe_ix _ _ _ _ _ _ _ (ix_listK (K:=K) rfl) (pv 1) (pe_un un_neg pe_int) (fun _ _=>rfl)) pe_str (nomark _)))))) pss_nil) (@pss_one _ _ _ (@ps_ret _ _ _ _ (pe_and (@pe_cmpR _ _ _ _ _ _ _ _ op_eq (pv 0) pe_str (nomark _)) (pe_one (@pe_cmpR _ _ _ _ _ _ _ _ op_eq (pe_callB call_len_seq rfl T.n_len bt_len (@pa_cons _ _ _ _ _ (pv 1) pa_nil (by rfl))) pe_int (nomark _))))))),?_⟩
  have k:=k H (Same.refl _)
  unfold strP at k
  refine ⟨_,rfl,rfl,_,rfl,?_⟩
  rw [dec_str]
  by_cases h1:z="else"
  ·rw [if_pos h1] at k
   rw [decide_eq_true h1]
   refine iteT ?_
   refine ⟨_,rfl,p,_,rfl,.inl (SqL.of hp),rfl,_,rfl,?_⟩
   rw [List.length_map]
   by_cases h0:ws.length=0
   ·rw [decide_eq_true h0] at k
    rw [decide_eq_true (show V.int ((ws.length:Nat):Int)=V.int 0 by rw [h0];rfl)]
    exact iteT k
   ·rw [decide_eq_false h0] at k
    rw [decide_eq_false (fun e=>h0 (by injection e with e;omega))]
    refine iteF ?_
    obtain ⟨l,y,rfl⟩:∃ l y,ws=l++[y]:=⟨ws.dropLast,ws.getLast (List.length_pos_iff.mp (by omega)),(List.dropLast_concat_getLast _).symm⟩
    refine ⟨_,rfl,1,rfl,p,_,_,_,rfl,rfl,SqL.of hp,(by rw [List.map_append];exact atI_last _ _),rfl,?_⟩
    rw [dec_str]
    have e:((l++[y]).getLast?=some ("if":Str))=(y="if"):=by simp
    simp only [e,Bool.false_or] at k
    exact k
  ·rw [if_neg h1] at k
   rw [decide_eq_false h1]
   refine iteF ?_
   refine ⟨_,rfl,rfl,_,rfl,?_⟩
   rw [dec_str]
   by_cases h2:z="end"
   ·rw [decide_eq_true h2] at k ⊢
    refine iteT ?_
    refine ⟨_,rfl,p,_,rfl,.inl (SqL.of hp),rfl,?_⟩
    rw [List.length_map,show decide (V.int ((ws.length:Nat):Int)=V.int 0)=decide (ws.length=0) from dec_nat ws.length 0]
    exact k
   ·rw [decide_eq_false h2] at k ⊢
    exact iteF k
noncomputable def pfP (z:Str) (ws:List Str):V:=if misP z ws then .str "place" else if strP z ws then .str "stray" else .non
noncomputable def spFault:Sp:=fun vs H Q _=>∃ (z:Str) (p:Addr) (ws:List Str),vs=[.str z,.ref p]/\H p=some (.lst (ws.map V.str))/\ws.length<=10/\∀ H',Same H H'->Q (pfP z ws) H'
noncomputable abbrev N_Zr:List Str:=["word","within"]
theorem sc_Zr:FnScope N_Zr ["word","within"] (defScope st_Zr):=⟨rfl,rfl,rfl,by decide +kernel,rfl,by decide +kernel,by decide +kernel⟩
theorem ok_fault (T:All P w K mg AA DD):FnOk P w K mg base CX0 2 AA.Zr DD.Zr ["word","within"] spFault:=by
 have GL:=ok_mis (base:=base) T
 have GR:=ok_stray (base:=base) T
 refine T.F_Zr.ok sc_Zr (fun vs H Q E h=>?_) (fun cdv A outer s H vs Q E hr h=>?_)
 ·obtain ⟨z,p,ws,rfl,_⟩:=h
  rfl
 ·obtain ⟨z,p,ws,rfl,hp,hl,k⟩:=h
  have hr1:Room 1 _:=hr
  refine ⟨_,(@pss_cons _ _ _ _ _ (@ps_if _ _ _ _ _ _ _ _ (pt_val (pe_call GL hr1 rfl T.m_Zp T.k_Zp T.b_Zp .nil pass0 (@pa_cons _ _ _ _ _ (pv 0) (@pa_cons _ _ _ _ _ (pv 1) pa_nil (by rfl)) (by rfl)))) (@pss_one _ _ _ (@ps_ret _ _ _ _ pe_str)) pss_nil) (@pss_cons _ _ _ _ _ (@ps_if _ _ _ _ _ _ _ _ (pt_val (pe_call GR hr1 rfl T.m_ZH T.k_ZH T.b_ZH .nil pass0 (@pa_cons _ _ _ _ _ (pv 0) (@pa_cons _ _ _ _ _ (pv 1) pa_nil (by rfl)) (by rfl)))) (@pss_one _ _ _ (@ps_ret _ _ _ _ pe_str)) pss_nil) (@pss_one _ _ _ (@ps_ret _ _ _ _ pe_non)))),?_⟩
  unfold pfP at k
  refine ⟨_,rfl,_,rfl,z,p,ws,rfl,hp,hl,fun H1 s1=>⟨_,rfl,?_⟩⟩
  cases hm:misP z ws with
  | true =>
   rw [hm] at k
   exact iteT (k H1 s1)
  | false =>
   rw [hm] at k
   refine iteF ?_
   refine ⟨_,rfl,_,rfl,z,p,ws,rfl,s1 _ _ hp,hl,fun H2 s2=>⟨_,rfl,?_⟩⟩
   have k:=k H2 (s1.trans s2)
   cases hs:strP z ws with
   | true =>
    rw [hs] at k
    exact iteT k
   | false =>
    rw [hs] at k
    exact iteF k
noncomputable def blF (z:Str) (b c:V):List (Str × V):=[("word",.str z),("body",b),("other",c)]
noncomputable def spBInit (C:Addr):Sp:=fun vs H Q _=>∃ (o dx:Addr) (z:Str) (b c:V),vs=[.ref o,.str z,b,c]/\H o=some (.ins C dx [])/\∀ H',ButO o H H'->H' o=some (.ins C dx (blF z b c))->Q .non H'
noncomputable abbrev N_ZC:List Str:=["self","word","body","other"]
theorem sc_ZC:FnScope N_ZC ["self","word","body","other"] (defScope st_ZC):=⟨rfl,rfl,rfl,by decide +kernel,rfl,by decide +kernel,by decide +kernel⟩
theorem ok_binit (T:All P w K mg AA DD):FnOk P w K mg base CX0 1 AA.ZC DD.ZC ["self","word","body","other"] (spBInit AA.c_Block):=by
 refine T.F_ZC.ok sc_ZC (fun vs H Q E h=>?_) (fun cdv A outer s H vs Q E hr h=>?_)
 ·obtain ⟨o,dx,z,b,c,rfl,_⟩:=h
  rfl
 ·obtain ⟨o,dx,z,b,c,rfl,ho,k⟩:=h
  refine ⟨_,(@pss_cons _ _ _ _ _ (ps_fld (pv 0) (pv 1) rfl) (@pss_cons _ _ _ _ _ (ps_fld (pv 0) (pv 2) rfl) (@pss_one _ _ _ (ps_fld (pv 0) (pv 3) rfl)))),?_⟩
  refine ⟨_,rfl,_,rfl,o,AA.c_Block,dx,_,rfl,ho,T.cl_Block,T.na_Block_word,(by show 0<1000;decide),?_⟩
  refine ⟨_,rfl,_,rfl,o,AA.c_Block,dx,_,rfl,upd_same,T.cl_Block,T.na_Block_body,(by show 1<1000;decide),?_⟩
  refine ⟨_,rfl,_,rfl,o,AA.c_Block,dx,_,rfl,upd_same,T.cl_Block,T.na_Block_other,(by show 2<1000;decide),?_⟩
  exact k _ (((ButO.upd _ _ _).trans (ButO.upd _ _ _)).trans (ButO.upd _ _ _)) upd_same
end
section
variable {P:Program} {w:World} {K:PySem.W.Frag} {mg:Str->Option Value} {base:Heap} {AA:Adr} {DD:Fds}
theorem new_of {H:Hp} {p q:Addr} {u:HO} (h:upd H p u q=none):H q=none/\q≠p:=by
 have n:q≠p:=fun e=>by rw [e,upd_same] at h;cases h
 rw [upd_ne n] at h
 exact ⟨h,n⟩
noncomputable def spBegun (C:Addr):Sp:=fun vs H Q _=>∃ (h pB:Addr) (z:Str) (xs:List V) (bs:List Addr),vs=[.ref h,.ref pB]/\H h=some (.tup (.str z::xs))/\xs.length<=10/\H pB=some (.lst (bs.map V.ref))/\bs.length<=10 /\
 (z="if"->∀ a b o dx t H',H a=none->H b=none->H o=none->H t=none->a≠b->ButO pB H H'->H' a=some (.lst [])->H' b=some (.lst [])->H' o=some (.ins C dx (blF z (.ref a) (.ref b)))->H' pB=some (.lst ((bs++[o]).map V.ref))->H' t=some (.tup ((.str z::xs)++[.ref a,.ref b]))->Q (.ref t) H') /\
 (z≠"if"->z∈(["def","while"]:List Str)->∀ a o dx t H',H a=none->H o=none->H t=none->ButO pB H H'->H' a=some (.lst [])->H' o=some (.ins C dx (blF z (.ref a) .non))->H' pB=some (.lst ((bs++[o]).map V.ref))->H' t=some (.tup ((.str z::xs)++[.ref a]))->Q (.ref t) H') /\
 (z≠"if"->z∉(["def","while"]:List Str)->∀ H',Same H H'->Q (.ref h) H')
noncomputable abbrev N_ZR:List Str:=["head","blocks","word","then","other","body"]
theorem sc_ZR:FnScope N_ZR ["head","blocks"] (defScope st_ZR):=⟨rfl,rfl,rfl,by decide +kernel,rfl,by decide +kernel,by decide +kernel⟩
theorem ok_ZR (T:All P w K mg AA DD):FnOk P w K mg base CX0 3 AA.ZR DD.ZR ["head","blocks"] (spBegun AA.c_Block):=by
 have GB:=ok_binit (base:=base) T
 refine T.F_ZR.ok sc_ZR (fun vs H Q E h=>?_) (fun cdv A outer s H vs Q E hr h=>?_)
 ·obtain ⟨h,pB,z,xs,bs,rfl,_⟩:=h
  rfl
 ·obtain ⟨h,pB,z,xs,bs,rfl,hh,hxl,hB,hbl,k1,k2,k3⟩:=h
  have nd:=sc_ZR.nd
  have hr2:Room 2 _:=hr
  refine ⟨_,(@pss_cons _ _ _ _ _ (@ps_set _ _ 2 _ _ _ _ nd rfl (Or.inl rfl) (@pe_ix _ _ _ _ _ _ _ (ix_tupK (K:=K) rfl) (pv 0) pe_int (fun _ _=>rfl)) (by rfl) (by first | exact .inl rfl | exact .inr rfl | assumption)) (@pss_cons _ _ _ _ _ (@ps_if _ _ _ _ _ _ _ _ (@pt_cmpR _ _ _ _ _ _ _ _ op_eq (pv 2) pe_str (nomark _)) (@pss_cons _ _ _ _ _ (@ps_set _ _ 3 _ _ _ _ nd rfl (Or.inl rfl) (@pe_lst _ _ _ _ pa_nil) (by rfl) (by first | exact .inl rfl | exact .inr rfl | assumption)) (@pss_cons _ _ _ _ _ (@ps_set _ _ 4 _ _ _ _ nd rfl (Or.inl rfl) (@pe_lst _ _ _ _ pa_nil) (by rfl) (by first | exact .inl rfl | exact .inr rfl | assumption)) (@pss_cons _ _ _ _ _ (@ps_expr _ _ _ _ (pe_bm PySem.F.plainAttrs_list PySem.F.slot_list_append PySem.F.type_list_append mt_append (pv 1) (@pa_cons _ _ _ _ _ (pe_make T.M_Block GB hr2 rfl T.m_Block T.b_ZC .nil pass0 (@pa_cons _ _ _ _ _ (pv 2) (@pa_cons _ _ _ _ _ (pv 3) (@pa_cons _ _ _ _ _ (pv 4) pa_nil (by rfl)) (by rfl)) (by rfl))) pa_nil (by rfl))) (by rfl)) (@pss_one _ _ _ (@ps_ret _ _ _ _ (@pe_op _ _ _ _ _ _ _ _ op_catT (pv 0) (@pe_tup _ _ _ _ _ (@pa_cons _ _ _ _ _ (pv 3) (@pa_cons _ _ _ _ _ (pv 4) pa_nil (by rfl)) (by rfl))))))))) pss_nil) (@pss_cons _ _ _ _ _ (@ps_if _ _ _ _ _ _ _ _ (@pt_cmpR _ _ _ _ _ _ _ _ (op_in_seqK (K:=K) rfl) (pv 2) (@pe_tup _ _ _ _ _ (@pa_cons _ _ _ _ _ pe_str (@pa_cons _ _ _ _ _ pe_str pa_nil (by rfl)) (by rfl))) rfl) (@pss_cons _ _ _ _ _ (@ps_set _ _ 5 _ _ _ _ nd rfl (Or.inl rfl) (@pe_lst _ _ _ _ pa_nil) (by rfl) (by first | exact .inl rfl | exact .inr rfl | assumption)) (@pss_cons _ _ _ _ _ (@ps_expr _ _ _ _ (pe_bm PySem.F.plainAttrs_list PySem.F.slot_list_append PySem.F.type_list_append mt_append (pv 1) (@pa_cons _ _ _ _ _ (pe_make T.M_Block GB hr2 rfl T.m_Block T.b_ZC .nil pass0 (@pa_cons _ _ _ _ _ (pv 2) (@pa_cons _ _ _ _ _ (pv 5) (@pa_cons _ _ _ _ _ pe_non pa_nil (by rfl)) (by rfl)) (by rfl))) pa_nil (by rfl))) (by rfl)) (@pss_one _ _ _ (@ps_ret _ _ _ _ (@pe_op _ _ _ _ _ _ _ _ op_catT (pv 0) (@pe_tup _ _ _ _ _ (@pa_cons _ _ _ _ _ (pv 5) pa_nil (by rfl)))))))) pss_nil) (@pss_one _ _ _ (@ps_ret _ _ _ _ (pv 0)))))),?_⟩
  have at0:atI (V.str z::xs) (0:Int)=some (V.str z):=atI_nat (j:=0) rfl
  refine ⟨_,rfl,h,_,_,_,rfl,rfl,SqT.of hh,at0,?_⟩
  dsimp only [gName]
  refine ⟨_,rfl,rfl,_,rfl,?_⟩
  rw [dec_str]
  by_cases hi:z="if"
  ·rw [decide_eq_true hi]
   refine iteT ?_
   refine ⟨Nat.zero_le _,fun a ha=>?_⟩
   dsimp only [gName]
   refine ⟨Nat.zero_le _,fun b hb=>?_⟩
   dsimp only [gName]
   obtain ⟨hb0,nba⟩:=new_of hb
   have sab:=(same_upd (o:=.lst []) ha).trans (same_upd (o:=.lst []) hb)
   have ha2:upd (upd H a (.lst [])) b (.lst []) a=some (.lst []):=by rw [upd_ne (Ne.symm nba),upd_same]
   have hb2:upd (upd H a (.lst [])) b (.lst []) b=some (.lst []):=upd_same
   generalize upd (upd H a (.lst [])) b (.lst [])=H2 at sab ha2 hb2 ⊢
   have hB2:=sab _ _ hB
   refine ⟨_,rfl,.inl ⟨rfl,_,SqL.of hB2⟩,_,rfl,_,rfl,_,rfl,fun o dx ho hdx ne=>?_⟩
   have s3:ButO o H2 (upd (upd H2 dx (.own o)) o (.ins AA.c_Block dx [])):=((same_upd (o:=.own o) hdx).but).trans (ButO.upd _ _ _)
   refine ⟨o,dx,z,.ref a,.ref b,rfl,upd_same,fun H3 b3 h3=>⟨rfl,?_⟩⟩
   have b23:=s3.trans b3
   have nO:∀ x u,H2 x=some u->x≠o:=fun x u e=>ne_of_none e ho
   have hB3:=b23 _ _ hB2 (nO _ _ hB2)
   have ha3:=b23 _ _ ha2 (nO _ _ ha2)
   have hb3:=b23 _ _ hb2 (nO _ _ hb2)
   have hh3:=b23 _ _ (sab _ _ hh) (nO _ _ (sab _ _ hh))
   have nhB:h≠pB:=fun e=>by rw [e,hB] at hh;cases hh
   have naB:a≠pB:=fun e=>by rw [e,hB] at ha;cases ha
   have nbB:b≠pB:=fun e=>by rw [e,hB] at hb0;cases hb0
   have noB:o≠pB:=fun e=>nO _ _ hB2 e.symm
   have ho0:H o=none:=by
    cases e:H o with
    | none=>rfl
    | some u=>rw [sab _ _ e] at ho;cases ho
   refine ⟨pB,_,_,rfl,rfl,hB3,(by rw [List.length_map];exact small1000 (by omega)),?_⟩
   refine ⟨_,rfl,_,rfl,_,rfl,(by show 2<=sizeLine;decide),fun pt hpt=>?_⟩
   obtain ⟨hpt3,nptB⟩:=new_of hpt
   have s5:=same_upd (o:=.tup [.ref a,.ref b]) hpt
   have e4:∀ x u,H3 x=some u->x≠pB->upd (upd H3 pB (.lst (bs.map V.ref++[.ref o]))) pt (.tup [.ref a,.ref b]) x=some u:=fun x u e n=>s5 _ _ (by rw [upd_ne n];exact e)
   refine ⟨h,pt,_,_,rfl,rfl,SqT.of (e4 _ _ hh3 nhB),SqT.of upd_same,by simp,Nat.le_of_lt (small1000 (by simp;omega)),(fun e=>by cases e),fun _ t ht=>?_⟩
   obtain ⟨ht4,ntp⟩:=new_of ht
   obtain ⟨ht3,ntB⟩:=new_of ht4
   have s6:=same_upd (o:=.tup ((.str z::xs)++[.ref a,.ref b])) ht
   have nto:t≠o:=fun e=>by rw [e,h3] at ht3;cases ht3
   have ht0:H t=none:=by
    cases e:H t with
    | none=>rfl
    | some u=>rw [b23 _ _ (sab _ _ e) nto] at ht3;cases ht3
   refine k1 hi a b o dx t _ ha hb0 ho0 ht0 (Ne.symm nba) (fun x u e n=>s6 _ _ (e4 _ _ (b23 _ _ (sab _ _ e) (nO _ _ (sab _ _ e))) n)) (s6 _ _ (e4 _ _ ha3 naB)) (s6 _ _ (e4 _ _ hb3 nbB)) (s6 _ _ (e4 _ _ h3 noB)) ?_ upd_same
   refine s6 _ _ (s5 _ _ ?_)
   rw [upd_same,List.map_append]
   rfl
  rw [decide_eq_false hi]
  refine iteF ?_
  refine ⟨_,rfl,(by show 2<=sizeLine;decide),fun pt hpt=>⟨pt,(["def","while"]:List Str).map V.str,rfl,.inr (SqT.of upd_same),rfl,rfl,_,rfl,?_⟩⟩
  have s1:=same_upd (o:=.tup [.str "def",.str "while"]) hpt
  rw [in_strs]
  by_cases hd:z∈(["def","while"]:List Str)
  ·rw [decide_eq_true hd]
   refine iteT ?_
   have hh1:=s1 _ _ hh
   have hB1:=s1 _ _ hB
   have n1:∀ x,upd H pt (.tup [.str "def",.str "while"]) x=none->H x=none:=fun x e=>(new_of e).1
   generalize upd H pt (.tup [.str "def",.str "while"])=H1 at s1 hh1 hB1 n1 ⊢
   refine ⟨Nat.zero_le _,fun a ha=>?_⟩
   dsimp only [gName]
   have sab:=s1.trans (same_upd (o:=.lst []) ha)
   have ha2:upd H1 a (.lst []) a=some (.lst []):=upd_same
   generalize upd H1 a (.lst [])=H2 at sab ha2 ⊢
   have hB2:=sab _ _ hB
   have ha0:=n1 a ha
   refine ⟨_,rfl,.inl ⟨rfl,_,SqL.of hB2⟩,_,rfl,_,rfl,fun o dx ho hdx ne=>?_⟩
   have s3:ButO o H2 (upd (upd H2 dx (.own o)) o (.ins AA.c_Block dx [])):=((same_upd (o:=.own o) hdx).but).trans (ButO.upd _ _ _)
   refine ⟨o,dx,z,.ref a,.non,rfl,upd_same,fun H3 b3 h3=>⟨rfl,?_⟩⟩
   have b23:=s3.trans b3
   have nO:∀ x u,H2 x=some u->x≠o:=fun x u e=>ne_of_none e ho
   have hB3:=b23 _ _ hB2 (nO _ _ hB2)
   have ha3:=b23 _ _ ha2 (nO _ _ ha2)
   have hh3:=b23 _ _ (sab _ _ hh) (nO _ _ (sab _ _ hh))
   have nhB:h≠pB:=fun e=>by rw [e,hB] at hh;cases hh
   have naB:a≠pB:=fun e=>by rw [e,hB] at ha0;cases ha0
   have noB:o≠pB:=fun e=>nO _ _ hB2 e.symm
   have ho0:H o=none:=by
    cases e:H o with
    | none=>rfl
    | some u=>rw [sab _ _ e] at ho;cases ho
   refine ⟨pB,_,_,rfl,rfl,hB3,(by rw [List.length_map];exact small1000 (by omega)),?_⟩
   refine ⟨_,rfl,_,rfl,(by show 1<=sizeLine;decide),fun pt hpt=>?_⟩
   have s5:=same_upd (o:=.tup [.ref a]) hpt
   have e4:∀ x u,H3 x=some u->x≠pB->upd (upd H3 pB (.lst (bs.map V.ref++[.ref o]))) pt (.tup [.ref a]) x=some u:=fun x u e n=>s5 _ _ (by rw [upd_ne n];exact e)
   refine ⟨h,pt,_,_,rfl,rfl,SqT.of (e4 _ _ hh3 nhB),SqT.of upd_same,by simp,Nat.le_of_lt (small1000 (by simp;omega)),(fun e=>by cases e),fun _ t ht=>?_⟩
   obtain ⟨ht4,ntp⟩:=new_of ht
   obtain ⟨ht3,ntB⟩:=new_of ht4
   have s6:=same_upd (o:=.tup ((.str z::xs)++[.ref a])) ht
   have nto:t≠o:=fun e=>by rw [e,h3] at ht3;cases ht3
   have ht0:H t=none:=by
    cases e:H t with
    | none=>rfl
    | some u=>rw [b23 _ _ (sab _ _ e) nto] at ht3;cases ht3
   refine k2 hi hd a o dx t _ ha0 ho0 ht0 (fun x u e n=>s6 _ _ (e4 _ _ (b23 _ _ (sab _ _ e) (nO _ _ (sab _ _ e))) n)) (s6 _ _ (e4 _ _ ha3 naB)) (s6 _ _ (e4 _ _ h3 noB)) ?_ upd_same
   refine s6 _ _ (s5 _ _ ?_)
   rw [upd_same,List.map_append]
   rfl
  ·rw [decide_eq_false hd]
   refine iteF ?_
   exact ⟨_,rfl,k3 hi hd _ s1⟩
end
section
variable {P:Program} {w:World} {K:PySem.W.Frag} {mg:Str->Option Value} {base:Heap} {AA:Adr} {DD:Fds}
theorem bt_set:bootBuiltins "set"=some (.type "set"):=by decide +kernel
noncomputable def PrT (H:Hp) (ts:List Addr) (prs:List (Str × Str)):Prop:=ts.length=prs.length/\∀ (i:Nat) (t:Addr) (p:Str × Str),ts[i]?=some t->prs[i]?=some p->H t=some (.tup [.str p.1,.str p.2])
theorem PrT.kept {H H':Hp} {ts:List Addr} {prs:List (Str × Str)} (h:PrT H ts prs) (s:TupS H H'):PrT H' ts prs:=⟨h.1,fun i t p a b=>s _ _ (h.2 i t p a b)⟩
noncomputable def Unl (prs:List (Str × Str)):Prop:=¬ unl (prs.map (·.1))<prs.length
noncomputable instance (prs:List (Str × Str)):Decidable (Unl prs):=by unfold Unl;infer_instance
noncomputable def spUnl (C X:Addr):Sp:=fun vs H Q E=>∃ (o dx wa l:Addr) (ws:List Str) (x:V) (i:Nat) (ts:List Addr) (prs:List (Str × Str)),vs=[.ref o,.ref l]/\Ph C H o dx wa ws x i/\H l=some (.lst (ts.map V.ref))/\PrT H ts prs/\prs.length<=900 /\
 (Unl prs->∀ q H',Same H H'->H q=none->H' q=some (.tup (ts.map V.ref))->Q (.ref q) H')/\(¬ Unl prs->ErrF E X x o H)
noncomputable abbrev N_Zb:List Str:=["self","pairs"]
theorem sc_Zb:FnScope N_Zb ["self","pairs"] (defScope st_Zb):=⟨rfl,rfl,rfl,by decide +kernel,rfl,by decide +kernel,by decide +kernel⟩
theorem ok_unlike (T:All P w K mg AA DD):FnOk P w K mg base (CX2 (fun _=>True) P w) 3 AA.Zb DD.Zb ["self","pairs"] (spUnl AA.c_Phrase AA.x_NoForm):=by
 have GI:=ok_xinit (base:=base) T
 refine T.F_Zb.ok2 sc_Zb (fun vs H Q E h=>?_) (fun cdv A outer s H vs Q E hr h=>?_)
 ·obtain ⟨o,dx,wa,l,ws,x,i,ts,prs,rfl,_⟩:=h
  rfl
 ·obtain ⟨o,dx,wa,l,ws,x,i,ts,prs,rfl,h,hl,hP,hn,kq,kx⟩:=h
  have nd:=sc_Zb.nd
  have hr2:Room 2 _:=hr
  refine ⟨_,(@pss_cons _ _ _ _ _ (@ps_if _ _ _ _ _ _ _ _ (@pt_cmpR _ _ _ _ _ _ _ _ op_lt (pe_callB call_lenS rfl T.n_len bt_len (@pa_cons _ _ _ _ _ (pe_callTy (call_setT (K:=K) rfl rfl) rfl T.n_set bt_set (@pa_cons _ _ _ _ _ (pe_comp2 (xs:=["name","kind"]) (defScope st_Zb) N_Zb [] [] rfl (by exact ⟨rfl,rfl,by decide +kernel,by decide +kernel,by decide +kernel,by decide +kernel,by decide +kernel,rfl,by decide +kernel⟩) rfl rfl (pi_list (pv 1)) (fun _ _ _ _=>(pg_tupK (K:=K) (n:=2) rfl rfl (pgs_cons (pg_name (i:=0) (show (["name","kind"]:List Str).Nodup by decide +kernel) rfl (Or.inl rfl)) (pgs_cons (pg_name (i:=1) (show (["name","kind"]:List Str).Nodup by decide +kernel) rfl (Or.inl rfl)) pgs_nil)))) (fun _ _ _ _=>pif_nil) (fun _ _ _ _=>(pv 0))) pa_nil (by rfl))) pa_nil (by rfl))) (pe_callB call_len_seq rfl T.n_len bt_len (@pa_cons _ _ _ _ _ (pv 1) pa_nil (by rfl))) (nomark _)) (@pss_one _ _ _ (ps_raiseI body_cx (raise2 trivial) rfl rfl T.m_NoForm T.M_NoForm PySem.F.excBase_ValueError GI hr2 T.b_Zw (@pa_cons _ _ _ _ _ (pe_fld (pv 0) rfl) (@pa_cons _ _ _ _ _ pe_str pa_nil (by rfl)) (by rfl)))) pss_nil) (@pss_one _ _ _ (@ps_ret _ _ _ _ (pe_callTy call_tuple_of rfl T.n_tuple bt_tuple (@pa_cons _ _ _ _ _ (pv 1) pa_nil (by rfl)))))),?_⟩
  obtain ⟨htl,hat⟩:=hP
  refine ⟨_,rfl,l,rfl,⟨_,SqL.of hl⟩,?_⟩
  refine comp2_list (K:=K) (a:=l) (xs:=ts.map V.ref) (fun i ys H'=>H'=H/\i<=900/\ys=((prs.take i).map (·.1)).map V.str) ⟨rfl,Nat.zero_le _,rfl⟩ (fun i ys H' _ hsl67=>by obtain ⟨e,_⟩:=hsl67;rw [e];exact SqL.of hl) ?_ ?_
  ·rintro j y ys H1 hx ⟨rfl,_,rfl⟩
   have hj:j<ts.length:=by
    have:=(List.getElem?_eq_some_iff.mp hx).1
    rw [List.length_map] at this;exact this
   have hjp:j<prs.length:=by omega
   have ex:y=V.ref ts[j]:=by rw [List.getElem?_map,List.getElem?_eq_getElem hj] at hx;exact (Option.some.inj hx).symm
   subst ex
   have htu:=hat j ts[j] prs[j] (List.getElem?_eq_getElem hj) (List.getElem?_eq_getElem hjp)
   intro os hos
   obtain ⟨a,b,rfl⟩:∃ a b,os=[a,b]:=by
    match os,hos with
    | [a,b],_=>exact ⟨a,b,rfl⟩
   refine ⟨ts[j],_,rfl,SqT.of htu,rfl,_,_,rfl,_,_,rfl,rfl,⟨[_,_],rfl,rfl⟩,?_⟩
   refine tYes_ok ?_
   rw [if_pos rfl]
   refine ⟨_,rfl,?_,rfl,by omega,?_⟩
   ·rw [List.length_map,List.length_map,List.length_take];exact small1000 (by omega)
   ·rw [List.take_succ_eq_append_getElem hjp,List.map_append,List.map_append];rfl
  ·rintro ys H1 ⟨rfl,_,rfl⟩ p hp
   rw [List.length_map,htl,List.take_length]
   have s1:=same_upd (o:=.lst ((prs.map (·.1)).map V.str)) hp
   refine ⟨p,prs.map (·.1),rfl,SqL.of upd_same,by rw [List.length_map];omega,fun q hq=>?_⟩
   have s2:=same_upd (o:=SetN q (unl (prs.map (·.1)))) hq
   have s12:=s1.trans s2
   have hul:unl (prs.map (·.1))<=prs.length:=by
    have:=metS_le (fun i=>(prs.map (·.1)).getD i ⟨#[]⟩) (prs.map (·.1)).length
    rw [List.length_map] at this
    unfold unl
    rw [List.length_map]
    exact this
   refine ⟨q,_,rfl,upd_same,by omega,_,rfl,l,_,rfl,.inl (SqL.of (s12 _ _ hl)),_,_,rfl,rfl,_,rfl,?_⟩
   rw [List.length_map,htl]
   by_cases hU:Unl prs
   ·rw [decide_eq_false (show ¬ ((unl (prs.map (·.1)):Nat):Int)<((prs.length:Nat):Int) by unfold Unl at hU;omega)]
    refine iteF ?_
    refine ⟨_,rfl,l,_,rfl,.inl ⟨SqL.of (s12 _ _ hl),fun t ht=>?_⟩⟩
    refine kq hU t _ (s12.trans (same_upd ht)) ?_ upd_same
    cases e:H1 t with
    | none=>rfl
    | some o=>rw [s12 _ _ e] at ht;cases ht
   ·rw [decide_eq_true (show ((unl (prs.map (·.1)):Nat):Int)<((prs.length:Nat):Int) by unfold Unl at hU;omega)]
    refine iteT ?_
    exact ⟨_,rfl,o,AA.c_Phrase,dx,_,_,rfl,(h.same s12).ins,T.cl_Phrase,T.na_Phrase_at,rfl,(by show 2<=sizeLine;decide),fun e tt he _ _=>raise_NoForm ((kx hU).word s12.but) e tt he⟩
noncomputable def pPr (f:Str->Bool) (ws:List Str):Nat->Nat->Option (List (Str × Str))
 | 0,_=>none
 | n+1,i=>if i=ws.length then some [] else match pWd isName ws i with
  | none=>none
  | some z=>match pWd f ws (i+1) with
   | none=>none
   | some k=>(pPr f ws n (i+2)).map ((z,k)::·)
theorem pWd_lt {f:Str->Bool} {ws:List Str} {i:Nat} {z:Str} (h:pWd f ws i=some z):i<ws.length:=by
 unfold pWd at h
 cases q:ws[i]? with
 | none=>rw [q] at h;cases h
 | some y=>exact (List.getElem?_eq_some_iff.mp q).1
noncomputable def spPr (f:Str->Bool) (C X:Addr):Sp:=fun vs H Q E=>∃ (o dx wa:Addr) (ws:List Str) (x:V) (i:Nat),vs=[.ref o]/\Ph C H o dx wa ws x i /\
 (∀ prs p ts H',pPr f ws (ws.length+1) i=some prs->Unl prs->ButO o H H'->Ph C H' o dx wa ws x ws.length->H' p=some (.tup (ts.map V.ref))->PrT H' ts prs->Q (.ref p) H')/\((∀ prs,pPr f ws (ws.length+1) i=some prs->¬ Unl prs)->ErrF E X x o H)
noncomputable abbrev N_Zc:List Str:=["self","pairs","name"]
theorem sc_Zc:FnScope N_Zc ["self"] (defScope st_Zc):=⟨rfl,rfl,rfl,by decide +kernel,rfl,by decide +kernel,by decide +kernel⟩
theorem ok_take_fields (T:All P w K mg AA DD):FnOk P w K mg base (CX2 (fun _=>True) P w) 5 AA.Zc DD.Zc ["self"] (spPr isPk AA.c_Phrase AA.x_NoForm):=by
 have GE:=ok_ended (base:=base) T
 have GA:=ok_takename (base:=base) T
 have GK:=ok_takepk (base:=base) T
 have GU:=ok_unlike (base:=base) T
 refine T.F_Zc.ok2 sc_Zc (fun vs H Q E h=>?_) (fun cdv A outer s H vs Q E hr h=>?_)
 ·obtain ⟨o,dx,wa,ws,x,i,rfl,_⟩:=h
  rfl
 ·obtain ⟨o,dx,wa,ws,x,i,rfl,h,kq,kx⟩:=h
  have nd:=sc_Zc.nd
  have hr1:Room 1 _:=hr.mono (by decide)
  have hr3:Room 3 _:=hr.mono (by decide)
  have hr4:Room 4 _:=hr
  refine ⟨_,(@pss_cons _ _ _ _ _ (@ps_set _ _ 1 _ _ _ _ nd rfl (Or.inl rfl) (@pe_lst _ _ _ _ pa_nil) (by rfl) (by first | exact .inl rfl | exact .inr rfl | assumption)) (@pss_cons _ _ _ _ _ (@ps_while _ _ _ _ _ _ PassesOwn.leaving (pt_not (pt_val (pe_meth0 (pv 0) T.cl_Phrase T.M_Zq GE hr1 T.b_Zq .nil pass0))) (@pss_cons _ _ _ _ _ (@ps_set _ _ 2 _ _ _ _ nd rfl (Or.inl rfl) (pe_meth0 (pv 0) T.cl_Phrase T.M_Zj GA hr4 T.b_Zj .nil (pass2 fun _ z=>z)) (by rfl) (by first | exact .inl rfl | exact .inr rfl | assumption)) (@pss_one _ _ _ (@ps_expr _ _ _ _ (pe_bm PySem.F.plainAttrs_list PySem.F.slot_list_append PySem.F.type_list_append mt_append (pv 1) (@pa_cons _ _ _ _ _ (@pe_tup _ _ _ _ _ (@pa_cons _ _ _ _ _ (pv 2) (@pa_cons _ _ _ _ _ (pe_meth0 (pv 0) T.cl_Phrase T.M_Za GK hr4 T.b_Za .nil (pass2 fun _ z=>z)) pa_nil (by rfl)) (by rfl))) pa_nil (by rfl))) (by rfl))))) (@pss_one _ _ _ (@ps_ret _ _ _ _ (pe_meth (pv 0) T.cl_Phrase T.M_Zb GU hr3 T.b_Zb .nil (pass2 fun _ z=>z) (@pa_cons _ _ _ _ _ (pv 1) pa_nil (by rfl))))))),?_⟩
  refine ⟨Nat.zero_le _,fun pf hpf=>?_⟩
  have npo:pf≠o:=fun e=>by rw [e,h.ins] at hpf;cases hpf
  have npw:pf≠wa:=fun e=>by rw [e,h.wds] at hpf;cases hpf
  dsimp only [gName]
  refine cut_while (fun σ' H'=>∃ (s2:Option V) (ts:List Addr) (prs:List (Str × Str)),σ'=[some (.ref o),some (.ref pf),s2]/\ButO o H H'/\Ph AA.c_Phrase H' o dx wa ws x ws.length/\H' pf=some (.lst (ts.map V.ref))/\PrT H' ts prs/\prs.length<=900/\pPr isPk ws (ws.length+1) i=some prs) (fun R hRR=>?_) ?_
  ·refine ⟨fun m σ' H'=>∃ (j f:Nat) (s2:Option V) (ts:List Addr) (prs:List (Str × Str)),m=ws.length-j/\ws.length-j<f/\σ'=[some (.ref o),some (.ref pf),s2]/\ButO o H H'/\Ph AA.c_Phrase H' o dx wa ws x j/\H' pf=some (.lst (ts.map V.ref))/\PrT H' ts prs/\prs.length<=j /\
     pPr isPk ws (ws.length+1) i=(pPr isPk ws f j).map (prs++·),⟨_,i,ws.length+1,none,[],[],rfl,by omega,rfl,(same_upd hpf).but,h.same (same_upd hpf),upd_same,⟨rfl,fun i t p h=>by simp at h⟩,Nat.zero_le _,?_⟩,?_⟩
   ·cases pPr isPk ws (ws.length+1) i with
    | none=>rfl
    | some q=>rfl
   ·rintro m σ' H1 ⟨j,f,s2,ts,prs,rfl,hf,rfl,hb,h1,hp1,hP,hvl,eM⟩
    have hj:=h1.le
    have h900:=h1.few
    obtain ⟨f,rfl⟩:∃ g,f=g+1:=⟨f-1,by omega⟩
    refine ⟨_,rfl,o,dx,_,rfl,h1.ins,rfl,o,dx,wa,ws,x,j,rfl,h1,_,rfl,?_⟩
    by_cases he:j=ws.length
    ·rw [decide_eq_true he]
     refine iteF ?_
     refine hRR _ _ ⟨s2,ts,prs,rfl,hb,by rw [<- he];exact h1,hp1,hP,by omega,?_⟩
     rw [eM]
     unfold pPr
     rw [if_pos he]
     simp
    ·rw [decide_eq_false he]
     refine iteT ?_
     have hun:pPr isPk ws (f+1) j=(match pWd isName ws j with
      | none=>none
      | some z=>match pWd isPk ws (j+1) with
       | none=>none
       | some k=>(pPr isPk ws f (j+2)).map ((z,k)::·)):=by
      rw [pPr,if_neg he]
     refine ⟨_,fun _ _ h=>h,?_⟩
     refine ⟨_,rfl,o,dx,_,rfl,h1.ins,rfl,o,dx,wa,ws,x,j,rfl,h1,fun z H2 hz hb2 h2=>?_,fun hn=>?_⟩
     ·dsimp only [gName]
      have hp2:=hb2 _ _ hp1 npo
      refine ⟨_,rfl,.inl ⟨rfl,_,SqL.of hp2⟩,_,rfl,_,rfl,o,dx,_,rfl,h2.ins,rfl,o,dx,wa,ws,x,j+1,rfl,h2,fun kk H3 hk hb3 h3=>⟨(by show 2<=sizeLine;decide),fun t ht=>?_⟩,fun hn=>?_⟩
      ·have st:=same_upd (o:=.tup [V.str z,V.str kk]) ht
       have hp3:=hb3 _ _ hp2 npo
       have htl:=hP.1
       have hjl:=pWd_lt hk
       refine ⟨pf,_,_,rfl,rfl,st _ _ hp3,(by rw [List.length_map,htl];exact small1000 (by omega)),?_⟩
       have tS:TupS H1 H3:=fun b xs e=>(hb3.tups h2.ins) _ _ ((hb2.tups h1.ins) _ _ e)
       have tU:TupS (upd H3 t (.tup [V.str z,V.str kk])) (upd (upd H3 t (.tup [V.str z,V.str kk])) pf (.lst (ts.map V.ref++[V.ref t]))):=fun b xs eb=>by rw [upd_ne (fun y=>by rw [y,st _ _ hp3] at eb;cases eb)];exact eb
       refine ⟨ws.length-(j+1+1),by omega,j+1+1,f,some (.str z),ts++[t],prs++[(z,kk)],rfl,by omega,rfl,fun b u eb nb=>?_,⟨?_,?_,h3.ok,h3.le,h3.few⟩,by rw [upd_same,List.map_append];rfl,⟨by simp [htl],fun i' t' p' e1 e2=>?_⟩,by simp;omega,?_⟩
       ·rw [upd_ne (fun y=>by rw [y,hpf] at eb;cases eb)]
        exact st _ _ (hb3 _ _ (hb2 _ _ (hb _ _ eb nb) nb) nb)
       ·rw [upd_ne (Ne.symm npo)];exact st _ _ h3.ins
       ·rw [upd_ne (Ne.symm npw)];exact st _ _ h3.wds
       ·by_cases hi':i'<ts.length
        ·rw [List.getElem?_append_left hi'] at e1
         rw [List.getElem?_append_left (by omega)] at e2
         exact tU _ _ (st _ _ (tS _ _ (hP.2 i' t' p' e1 e2)))
        ·have hil:=(List.getElem?_eq_some_iff.mp e1).1
         rw [List.length_append,List.length_singleton] at hil
         have ei:i'=ts.length:=by omega
         subst ei
         rw [List.getElem?_append_right (Nat.le_refl _),Nat.sub_self] at e1
         rw [htl,List.getElem?_append_right (Nat.le_refl _),Nat.sub_self] at e2
         have q1:t=t':=by simpa using e1
         have q2:(z,kk)=p':=by simpa using e2
         subst q1 q2
         exact tU _ _ upd_same
       ·rw [eM,hun,hz]
        dsimp only
        rw [hk]
        dsimp only
        rw [Option.map_map]
        congr 1
        funext q
        simp
      ·refine (kx fun prs' hp'=>?_).but (hb.trans hb2)
       rw [eM,hun,hz] at hp'
       dsimp only at hp'
       rw [hn] at hp'
       cases hp'
     ·refine (kx fun prs' hp'=>?_).but hb
      rw [eM,hun,hn] at hp'
      cases hp'
  ·rintro σ' H1 ⟨s2,ts,prs,rfl,hb,h1,hp1,hP,hl9,eP⟩
   refine ⟨_,rfl,o,dx,_,rfl,h1.ins,rfl,_,rfl,o,dx,wa,pf,ws,x,ws.length,ts,prs,rfl,h1,hp1,hP,hl9,fun hU q H' s1 hq hq'=>?_,fun hU=>?_⟩
   ·exact kq prs q ts H' eP hU (hb.trans s1.but) (h1.same s1) hq' (hP.kept fun b xs e=>s1 _ _ e)
   ·exact (kx fun prs' hp'=>by rw [eP] at hp';cases hp';exact hU).but hb
noncomputable abbrev N_Zd:List Str:=["self","pairs","name"]
theorem sc_Zd:FnScope N_Zd ["self"] (defScope st_Zd):=⟨rfl,rfl,rfl,by decide +kernel,rfl,by decide +kernel,by decide +kernel⟩
theorem ok_take_params (T:All P w K mg AA DD):FnOk P w K mg base (CX2 (fun _=>True) P w) 5 AA.Zd DD.Zd ["self"] (spPr isKd AA.c_Phrase AA.x_NoForm):=by
 have GE:=ok_ended (base:=base) T
 have GA:=ok_takename (base:=base) T
 have GQ:=ok_takekd (base:=base) T
 have GU:=ok_unlike (base:=base) T
 refine T.F_Zd.ok2 sc_Zd (fun vs H Q E h=>?_) (fun cdv A outer s H vs Q E hr h=>?_)
 ·obtain ⟨o,dx,wa,ws,x,i,rfl,_⟩:=h
  rfl
 ·obtain ⟨o,dx,wa,ws,x,i,rfl,h,kq,kx⟩:=h
  have nd:=sc_Zd.nd
  have hr1:Room 1 _:=hr.mono (by decide)
  have hr3:Room 3 _:=hr.mono (by decide)
  have hr4:Room 4 _:=hr
  refine ⟨_,(@pss_cons _ _ _ _ _ (@ps_set _ _ 1 _ _ _ _ nd rfl (Or.inl rfl) (@pe_lst _ _ _ _ pa_nil) (by rfl) (by first | exact .inl rfl | exact .inr rfl | assumption)) (@pss_cons _ _ _ _ _ (@ps_while _ _ _ _ _ _ PassesOwn.leaving (pt_not (pt_val (pe_meth0 (pv 0) T.cl_Phrase T.M_Zq GE hr1 T.b_Zq .nil pass0))) (@pss_cons _ _ _ _ _ (@ps_set _ _ 2 _ _ _ _ nd rfl (Or.inl rfl) (pe_meth0 (pv 0) T.cl_Phrase T.M_Zj GA hr4 T.b_Zj .nil (pass2 fun _ z=>z)) (by rfl) (by first | exact .inl rfl | exact .inr rfl | assumption)) (@pss_one _ _ _ (@ps_expr _ _ _ _ (pe_bm PySem.F.plainAttrs_list PySem.F.slot_list_append PySem.F.type_list_append mt_append (pv 1) (@pa_cons _ _ _ _ _ (@pe_tup _ _ _ _ _ (@pa_cons _ _ _ _ _ (pv 2) (@pa_cons _ _ _ _ _ (pe_meth0 (pv 0) T.cl_Phrase T.M_Zk GQ hr4 T.b_Zk .nil (pass2 fun _ z=>z)) pa_nil (by rfl)) (by rfl))) pa_nil (by rfl))) (by rfl))))) (@pss_one _ _ _ (@ps_ret _ _ _ _ (pe_meth (pv 0) T.cl_Phrase T.M_Zb GU hr3 T.b_Zb .nil (pass2 fun _ z=>z) (@pa_cons _ _ _ _ _ (pv 1) pa_nil (by rfl))))))),?_⟩
  refine ⟨Nat.zero_le _,fun pf hpf=>?_⟩
  have npo:pf≠o:=fun e=>by rw [e,h.ins] at hpf;cases hpf
  have npw:pf≠wa:=fun e=>by rw [e,h.wds] at hpf;cases hpf
  dsimp only [gName]
  refine cut_while (fun σ' H'=>∃ (s2:Option V) (ts:List Addr) (prs:List (Str × Str)),σ'=[some (.ref o),some (.ref pf),s2]/\ButO o H H'/\Ph AA.c_Phrase H' o dx wa ws x ws.length/\H' pf=some (.lst (ts.map V.ref))/\PrT H' ts prs/\prs.length<=900/\pPr isKd ws (ws.length+1) i=some prs) (fun R hRR=>?_) ?_
  ·refine ⟨fun m σ' H'=>∃ (j f:Nat) (s2:Option V) (ts:List Addr) (prs:List (Str × Str)),m=ws.length-j/\ws.length-j<f/\σ'=[some (.ref o),some (.ref pf),s2]/\ButO o H H'/\Ph AA.c_Phrase H' o dx wa ws x j/\H' pf=some (.lst (ts.map V.ref))/\PrT H' ts prs/\prs.length<=j /\
     pPr isKd ws (ws.length+1) i=(pPr isKd ws f j).map (prs++·),⟨_,i,ws.length+1,none,[],[],rfl,by omega,rfl,(same_upd hpf).but,h.same (same_upd hpf),upd_same,⟨rfl,fun i t p h=>by simp at h⟩,Nat.zero_le _,?_⟩,?_⟩
   ·cases pPr isKd ws (ws.length+1) i with
    | none=>rfl
    | some q=>rfl
   ·rintro m σ' H1 ⟨j,f,s2,ts,prs,rfl,hf,rfl,hb,h1,hp1,hP,hvl,eM⟩
    have hj:=h1.le
    have h900:=h1.few
    obtain ⟨f,rfl⟩:∃ g,f=g+1:=⟨f-1,by omega⟩
    refine ⟨_,rfl,o,dx,_,rfl,h1.ins,rfl,o,dx,wa,ws,x,j,rfl,h1,_,rfl,?_⟩
    by_cases he:j=ws.length
    ·rw [decide_eq_true he]
     refine iteF ?_
     refine hRR _ _ ⟨s2,ts,prs,rfl,hb,by rw [<- he];exact h1,hp1,hP,by omega,?_⟩
     rw [eM]
     unfold pPr
     rw [if_pos he]
     simp
    ·rw [decide_eq_false he]
     refine iteT ?_
     have hun:pPr isKd ws (f+1) j=(match pWd isName ws j with
      | none=>none
      | some z=>match pWd isKd ws (j+1) with
       | none=>none
       | some k=>(pPr isKd ws f (j+2)).map ((z,k)::·)):=by
      rw [pPr,if_neg he]
     refine ⟨_,fun _ _ h=>h,?_⟩
     refine ⟨_,rfl,o,dx,_,rfl,h1.ins,rfl,o,dx,wa,ws,x,j,rfl,h1,fun z H2 hz hb2 h2=>?_,fun hn=>?_⟩
     ·dsimp only [gName]
      have hp2:=hb2 _ _ hp1 npo
      refine ⟨_,rfl,.inl ⟨rfl,_,SqL.of hp2⟩,_,rfl,_,rfl,o,dx,_,rfl,h2.ins,rfl,o,dx,wa,ws,x,j+1,rfl,h2,fun kk H3 hk hb3 h3=>⟨(by show 2<=sizeLine;decide),fun t ht=>?_⟩,fun hn=>?_⟩
      ·have st:=same_upd (o:=.tup [V.str z,V.str kk]) ht
       have hp3:=hb3 _ _ hp2 npo
       have htl:=hP.1
       have hjl:=pWd_lt hk
       refine ⟨pf,_,_,rfl,rfl,st _ _ hp3,(by rw [List.length_map,htl];exact small1000 (by omega)),?_⟩
       have tS:TupS H1 H3:=fun b xs e=>(hb3.tups h2.ins) _ _ ((hb2.tups h1.ins) _ _ e)
       have tU:TupS (upd H3 t (.tup [V.str z,V.str kk])) (upd (upd H3 t (.tup [V.str z,V.str kk])) pf (.lst (ts.map V.ref++[V.ref t]))):=fun b xs eb=>by rw [upd_ne (fun y=>by rw [y,st _ _ hp3] at eb;cases eb)];exact eb
       refine ⟨ws.length-(j+1+1),by omega,j+1+1,f,some (.str z),ts++[t],prs++[(z,kk)],rfl,by omega,rfl,fun b u eb nb=>?_,⟨?_,?_,h3.ok,h3.le,h3.few⟩,by rw [upd_same,List.map_append];rfl,⟨by simp [htl],fun i' t' p' e1 e2=>?_⟩,by simp;omega,?_⟩
       ·rw [upd_ne (fun y=>by rw [y,hpf] at eb;cases eb)]
        exact st _ _ (hb3 _ _ (hb2 _ _ (hb _ _ eb nb) nb) nb)
       ·rw [upd_ne (Ne.symm npo)];exact st _ _ h3.ins
       ·rw [upd_ne (Ne.symm npw)];exact st _ _ h3.wds
       ·by_cases hi':i'<ts.length
        ·rw [List.getElem?_append_left hi'] at e1
         rw [List.getElem?_append_left (by omega)] at e2
         exact tU _ _ (st _ _ (tS _ _ (hP.2 i' t' p' e1 e2)))
        ·have hil:=(List.getElem?_eq_some_iff.mp e1).1
         rw [List.length_append,List.length_singleton] at hil
         have ei:i'=ts.length:=by omega
         subst ei
         rw [List.getElem?_append_right (Nat.le_refl _),Nat.sub_self] at e1
         rw [htl,List.getElem?_append_right (Nat.le_refl _),Nat.sub_self] at e2
         have q1:t=t':=by simpa using e1
         have q2:(z,kk)=p':=by simpa using e2
         subst q1 q2
         exact tU _ _ upd_same
       ·rw [eM,hun,hz]
        dsimp only
        rw [hk]
        dsimp only
        rw [Option.map_map]
        congr 1
        funext q
        simp
      ·refine (kx fun prs' hp'=>?_).but (hb.trans hb2)
       rw [eM,hun,hz] at hp'
       dsimp only at hp'
       rw [hn] at hp'
       cases hp'
     ·refine (kx fun prs' hp'=>?_).but hb
      rw [eM,hun,hn] at hp'
      cases hp'
  ·rintro σ' H1 ⟨s2,ts,prs,rfl,hb,h1,hp1,hP,hl9,eP⟩
   refine ⟨_,rfl,o,dx,_,rfl,h1.ins,rfl,_,rfl,o,dx,wa,pf,ws,x,ws.length,ts,prs,rfl,h1,hp1,hP,hl9,fun hU q H' s1 hq hq'=>?_,fun hU=>?_⟩
   ·exact kq prs q ts H' eP hU (hb.trans s1.but) (h1.same s1) hq' (hP.kept fun b xs e=>s1 _ _ e)
   ·exact (kx fun prs' hp'=>by rw [eP] at hp';cases hp';exact hU).but hb
end
section
variable {P:Program} {w:World} {K:PySem.W.Frag} {mg:Str->Option Value} {base:Heap} {AA:Adr} {DD:Fds}
inductive Hd where
 | end_ (z:Str)
 | ex (z:Str) (e:Ex)
 | kd (n:Str) (fs:List (Str × Str))
 | st (n:Str) (e:Ex)
 | df (n k:Str) (ps:List (Str × Str))
noncomputable def Hd.word:Hd->Str
 | .end_ z=>z
 | .ex z _=>z
 | .kd _ _=>"kind"
 | .st _ _=>"set"
 | .df _ _ _=>"def"
inductive HdAt (H:Hp) (x:V):Addr->Hd->Prop where
 | end_ {t:Addr} {z:Str}:H t=some (.tup [.str z,x])->HdAt H x t (.end_ z)
 | ex {t:Addr} {z:Str} {u:V} {e:Ex}:H t=some (.tup [.str z,x,u])->ExAt H u e->HdAt H x t (.ex z e)
 | kd {t p:Addr} {n:Str} {ts:List Addr} {fs:List (Str × Str)}:H t=some (.tup [.str "kind",x,.str n,.ref p])->H p=some (.tup (ts.map V.ref))->PrT H ts fs->HdAt H x t (.kd n fs)
 | st {t:Addr} {n:Str} {u:V} {e:Ex}:H t=some (.tup [.str "set",x,.str n,u])->ExAt H u e->HdAt H x t (.st n e)
 | df {t p:Addr} {n k:Str} {ts:List Addr} {ps:List (Str × Str)}:H t=some (.tup [.str "def",x,.str n,.str k,.ref p])->H p=some (.tup (ts.map V.ref))->PrT H ts ps->HdAt H x t (.df n k ps)
noncomputable def unlO (o:Option (List (Str × Str))):Option (List (Str × Str)):=match o with
 | none=>none
 | some prs=>if Unl prs then some prs else none
theorem unlO_some {o:Option (List (Str × Str))} {prs:List (Str × Str)} (h:o=some prs) (hU:Unl prs):unlO o=some prs:=by
 subst h
 exact if_pos hU
theorem unlO_of {o:Option (List (Str × Str))} (h:∀ prs,o=some prs->¬ Unl prs):unlO o=none:=by
 cases o with
 | none=>rfl
 | some prs=>exact if_neg (h prs rfl)
noncomputable def pHd (ws:List Str) (z:Str) (i:Nat):Option (Hd × Nat) :=
 if z∈(["else","end"]:List Str) then some (.end_ z,i)
 else if z∈(["tell","give","if","while"]:List Str) then (pE ws 6 i).map fun q=>(.ex z q.1,q.2)
 else if z∈(["kind","def","set"]:List Str) then (match pWd isName ws i with
  | none=>none
  | some n=>if z="kind" then (unlO (pPr isPk ws (ws.length+1) (i+1))).map fun prs=>(.kd n prs,ws.length)
   else if z="set" then (pE ws 6 (i+1)).map fun q=>(.st n q.1,q.2)
   else match pWd isKd ws (i+1) with
    | none=>none
    | some k=>(unlO (pPr isKd ws (ws.length+1) (i+1+1))).map fun prs=>(.df n k prs,ws.length))
 else none
noncomputable def spHd (C X:Addr):Sp:=fun vs H Q E=>∃ (o dx wa:Addr) (ws:List Str) (x:V) (i:Nat) (z:Str),vs=[.ref o,.str z]/\Ph C H o dx wa ws x i /\
 (∀ h j t H',pHd ws z i=some (h,j)->ButO o H H'->Ph C H' o dx wa ws x j->HdAt H' x t h->Q (.ref t) H')/\(pHd ws z i=none->ErrF E X x o H)
noncomputable abbrev N_ZE:List Str:=["phrase","word","at","name","kind"]
theorem sc_ZE:FnScope N_ZE ["phrase","word"] (defScope st_ZE):=⟨rfl,rfl,rfl,by decide +kernel,rfl,by decide +kernel,by decide +kernel⟩
theorem ok_head (T:All P w K mg AA DD):FnOk P w K mg base (CX2 (fun _=>True) P w) 23 AA.ZE DD.ZE ["phrase","word"] (spHd AA.c_Phrase AA.x_NoForm):=by
 have GX:=ok_expr (base:=base) T 6
 have GA:=ok_takename (base:=base) T
 have GQ:=ok_takekd (base:=base) T
 have GF:=ok_take_fields (base:=base) T
 have GV:=ok_take_params (base:=base) T
 have GI:=ok_xinit (base:=base) T
 obtain ⟨tD,hDEEPEST_EXPR⟩:=T.v_DEEPEST_EXPR
 refine T.F_ZE.ok2 sc_ZE (fun vs H Q E h=>?_) (fun cdv A outer s H vs Q E hr h=>?_)
 ·obtain ⟨o,dx,wa,ws,x,i,z,rfl,_⟩:=h
  rfl
 ·obtain ⟨o,dx,wa,ws,x,i,z,rfl,h,kq,kx⟩:=h
  have nd:=sc_ZE.nd
  have hrE:Room 22 _:=hr
  have hr2:Room 2 _:=hr.mono (by decide)
  have hr4:Room 4 _:=hr.mono (by decide)
  have hr5:Room 5 _:=hr.mono (by decide)
  refine ⟨_,(@pss_cons _ _ _ _ _ (@ps_set _ _ 2 _ _ _ _ nd rfl (Or.inl rfl) (pe_fld (pv 0) rfl) (by rfl) (by first | exact .inl rfl | exact .inr rfl | assumption)) (@pss_cons _ _ _ _ _ (@ps_if _ _ _ _ _ _ _ _ (@pt_cmpR _ _ _ _ _ _ _ _ (op_in_seqK (K:=K) rfl) (pv 1) (@pe_tup _ _ _ _ _ (@pa_cons _ _ _ _ _ pe_str (@pa_cons _ _ _ _ _ pe_str pa_nil (by rfl)) (by rfl))) rfl) (@pss_one _ _ _ (@ps_ret _ _ _ _ (@pe_tup _ _ _ _ _ (@pa_cons _ _ _ _ _ (pv 1) (@pa_cons _ _ _ _ _ (pv 2) pa_nil (by rfl)) (by rfl))))) pss_nil) (@pss_cons _ _ _ _ _ (@ps_if _ _ _ _ _ _ _ _ (@pt_cmpR _ _ _ _ _ _ _ _ (op_in_seqK (K:=K) rfl) (pv 1) (@pe_tup _ _ _ _ _ (@pa_cons _ _ _ _ _ pe_str (@pa_cons _ _ _ _ _ pe_str (@pa_cons _ _ _ _ _ pe_str (@pa_cons _ _ _ _ _ pe_str pa_nil (by rfl)) (by rfl)) (by rfl)) (by rfl))) rfl) (@pss_one _ _ _ (@ps_ret _ _ _ _ (@pe_tup _ _ _ _ _ (@pa_cons _ _ _ _ _ (pv 1) (@pa_cons _ _ _ _ _ (pv 2) (@pa_cons _ _ _ _ _ (pe_meth (pv 0) T.cl_Phrase T.M_Zl GX hrE T.b_Zl .nil (pass2 fun _ z=>z) (@pa_cons _ _ _ _ _ (pe_glob (v:=.int 6) rfl hDEEPEST_EXPR ⟨_,rfl⟩) pa_nil (by rfl))) pa_nil (by rfl)) (by rfl)) (by rfl))))) pss_nil) (@pss_cons _ _ _ _ _ (@ps_if _ _ _ _ _ _ _ _ (@pt_cmpR _ _ _ _ _ _ _ _ (op_notIn_seqK (K:=K) rfl) (pv 1) (@pe_tup _ _ _ _ _ (@pa_cons _ _ _ _ _ pe_str (@pa_cons _ _ _ _ _ pe_str (@pa_cons _ _ _ _ _ pe_str pa_nil (by rfl)) (by rfl)) (by rfl))) rfl) (@pss_one _ _ _ (ps_raiseI body_cx (raise2 trivial) rfl rfl T.m_NoForm T.M_NoForm PySem.F.excBase_ValueError GI hr2 T.b_Zw (@pa_cons _ _ _ _ _ (pv 2) (@pa_cons _ _ _ _ _ pe_str pa_nil (by rfl)) (by rfl)))) pss_nil) (@pss_cons _ _ _ _ _ (@ps_set _ _ 3 _ _ _ _ nd rfl (Or.inl rfl) (pe_meth0 (pv 0) T.cl_Phrase T.M_Zj GA hr4 T.b_Zj .nil (pass2 fun _ z=>z)) (by rfl) (by first | exact .inl rfl | exact .inr rfl | assumption)) (@pss_cons _ _ _ _ _ (@ps_if _ _ _ _ _ _ _ _ (@pt_cmpR _ _ _ _ _ _ _ _ op_eq (pv 1) pe_str (nomark _)) (@pss_one _ _ _ (@ps_ret _ _ _ _ (@pe_tup _ _ _ _ _ (@pa_cons _ _ _ _ _ (pv 1) (@pa_cons _ _ _ _ _ (pv 2) (@pa_cons _ _ _ _ _ (pv 3) (@pa_cons _ _ _ _ _ (pe_meth0 (pv 0) T.cl_Phrase T.M_Zc GF hr5 T.b_Zc .nil (pass2 fun _ z=>z)) pa_nil (by rfl)) (by rfl)) (by rfl)) (by rfl))))) pss_nil) (@pss_cons _ _ _ _ _ (@ps_if _ _ _ _ _ _ _ _ (@pt_cmpR _ _ _ _ _ _ _ _ op_eq (pv 1) pe_str (nomark _)) (@pss_one _ _ _ (@ps_ret _ _ _ _ (@pe_tup _ _ _ _ _ (@pa_cons _ _ _ _ _ (pv 1) (@pa_cons _ _ _ _ _ (pv 2) (@pa_cons _ _ _ _ _ (pv 3) (@pa_cons _ _ _ _ _ (pe_meth (pv 0) T.cl_Phrase T.M_Zl GX hrE T.b_Zl .nil (pass2 fun _ z=>z) (@pa_cons _ _ _ _ _ (pe_glob (v:=.int 6) rfl hDEEPEST_EXPR ⟨_,rfl⟩) pa_nil (by rfl))) pa_nil (by rfl)) (by rfl)) (by rfl)) (by rfl))))) pss_nil) (@pss_cons _ _ _ _ _ (@ps_set _ _ 4 _ _ _ _ nd rfl (Or.inl rfl) (pe_meth0 (pv 0) T.cl_Phrase T.M_Zk GQ hr4 T.b_Zk .nil (pass2 fun _ z=>z)) (by rfl) (by first | exact .inl rfl | exact .inr rfl | assumption)) (@pss_one _ _ _ (@ps_ret _ _ _ _ (@pe_tup _ _ _ _ _ (@pa_cons _ _ _ _ _ (pv 1) (@pa_cons _ _ _ _ _ (pv 2) (@pa_cons _ _ _ _ _ (pv 3) (@pa_cons _ _ _ _ _ (pv 4) (@pa_cons _ _ _ _ _ (pe_meth0 (pv 0) T.cl_Phrase T.M_Zd GV hr5 T.b_Zd .nil (pass2 fun _ z=>z)) pa_nil (by rfl)) (by rfl)) (by rfl)) (by rfl)) (by rfl))))))))))))),?_⟩
  refine ⟨_,rfl,o,AA.c_Phrase,dx,_,_,rfl,h.ins,T.cl_Phrase,T.na_Phrase_at,rfl,?_⟩
  dsimp only [gName]
  unfold pHd at kq kx
  refine ⟨_,rfl,(by show 2<=sizeLine;decide),fun pt hpt=>⟨pt,(["else","end"]:List Str).map V.str,rfl,.inr (SqT.of upd_same),rfl,rfl,_,rfl,?_⟩⟩
  have s1:=same_upd (o:=.tup [.str "else",.str "end"]) hpt
  have h1:=h.same s1
  have b1:=s1.but (o:=o)
  generalize upd H pt (.tup [.str "else",.str "end"])=H1 at s1 h1 b1 ⊢
  rw [show (if false=true then !inV (V.str z) ((["else","end"]:List Str).map V.str) else inV (V.str z) ((["else","end"]:List Str).map V.str))=decide (z∈(["else","end"]:List Str)) from inV_strs _ _]
  by_cases hy:z∈(["else","end"]:List Str)
  ·rw [if_pos hy] at kq
   rw [decide_eq_true hy]
   refine iteT ?_
   refine ⟨_,rfl,_,rfl,(by show 2<=sizeLine;decide),fun pr hpr=>?_⟩
   have s4:=same_upd (o:=.tup [.str z,x]) hpr
   exact kq _ _ _ _ rfl (b1.trans s4.but) (h1.same s4) (.end_ upd_same)
  rw [if_neg hy] at kq kx
  rw [decide_eq_false hy]
  refine iteF ?_
  refine ⟨_,rfl,(by show 4<=sizeLine;decide),fun pt2 hpt2=>⟨pt2,(["tell","give","if","while"]:List Str).map V.str,rfl,.inr (SqT.of upd_same),rfl,rfl,_,rfl,?_⟩⟩
  have s2:=same_upd (o:=.tup [.str "tell",.str "give",.str "if",.str "while"]) hpt2
  have h2:=h1.same s2
  have b2:=b1.trans s2.but
  generalize upd H1 pt2 (.tup [.str "tell",.str "give",.str "if",.str "while"])=H2 at s2 h2 b2 ⊢
  rw [show (if false=true then !inV (V.str z) ((["tell","give","if","while"]:List Str).map V.str) else inV (V.str z) ((["tell","give","if","while"]:List Str).map V.str))=decide (z∈(["tell","give","if","while"]:List Str)) from inV_strs _ _]
  by_cases hy2:z∈(["tell","give","if","while"]:List Str)
  ·rw [if_pos hy2] at kq kx
   rw [decide_eq_true hy2]
   refine iteT ?_
   refine ⟨_,rfl,_,rfl,_,rfl,o,dx,_,rfl,h2.ins,rfl,o,dx,wa,ws,x,i,rfl,h2,fun e j v H5 he hb5 h5 hv=>⟨(by show 3<=sizeLine;decide),fun pr hpr=>?_⟩,fun hn=>(kx (by rw [hn];rfl)).but b2⟩
   have s6:=same_upd (o:=.tup [.str z,x,v]) hpr
   exact kq _ _ _ _ (by rw [he];rfl) ((b2.trans hb5).trans s6.but) (h5.same s6) (.ex upd_same (hv.kept s6.tups))
  rw [if_neg hy2] at kq kx
  rw [decide_eq_false hy2]
  refine iteF ?_
  refine ⟨_,rfl,(by show 3<=sizeLine;decide),fun pt3 hpt3=>⟨pt3,(["kind","def","set"]:List Str).map V.str,rfl,.inr (SqT.of upd_same),rfl,rfl,_,rfl,?_⟩⟩
  have s3:=same_upd (o:=.tup [.str "kind",.str "def",.str "set"]) hpt3
  have h3:=h2.same s3
  have b3:=b2.trans s3.but
  generalize upd H2 pt3 (.tup [.str "kind",.str "def",.str "set"])=H3 at s3 h3 b3 ⊢
  rw [show (if true=true then !inV (V.str z) ((["kind","def","set"]:List Str).map V.str) else inV (V.str z) ((["kind","def","set"]:List Str).map V.str))=!decide (z∈(["kind","def","set"]:List Str)) from by rw [if_pos rfl,inV_strs]]
  by_cases hy3:z∈(["kind","def","set"]:List Str)
  ·rw [if_pos hy3] at kq kx
   rw [decide_eq_true hy3]
   refine iteF ?_
   refine ⟨_,rfl,o,dx,_,rfl,h3.ins,rfl,o,dx,wa,ws,x,i,rfl,h3,fun n H4 hn b4 h4=>?_,fun hn=>(kx (by rw [hn])).but b3⟩
   rw [hn] at kq kx
   dsimp only at kq kx
   dsimp only [gName]
   have b34:=b3.trans b4
   refine ⟨_,rfl,rfl,_,rfl,?_⟩
   rw [dec_str]
   by_cases hk:z="kind"
   ·rw [if_pos hk] at kq kx
    rw [decide_eq_true hk]
    refine iteT ?_
    refine ⟨_,rfl,_,rfl,_,rfl,_,rfl,o,dx,_,rfl,h4.ins,rfl,o,dx,wa,ws,x,i+1,rfl,h4,fun prs p ts H5 hp hU b5 h5 hpt hPT=>⟨(by show 4<=sizeLine;decide),fun pr hpr=>?_⟩,fun hno=>(kx (by rw [unlO_of hno];rfl)).but b34⟩
    have s6:=same_upd (o:=.tup [.str z,x,.str n,.ref p]) hpr
    exact kq _ _ _ _ (by rw [unlO_some hp hU];rfl) ((b34.trans b5).trans s6.but) (h5.same s6) (.kd (by rw [<- hk];exact upd_same) (s6.tups _ _ hpt) (hPT.kept s6.tups))
   rw [if_neg hk] at kq kx
   rw [decide_eq_false hk]
   refine iteF ?_
   refine ⟨_,rfl,rfl,_,rfl,?_⟩
   rw [dec_str]
   by_cases hs:z="set"
   ·rw [if_pos hs] at kq kx
    rw [decide_eq_true hs]
    refine iteT ?_
    refine ⟨_,rfl,_,rfl,_,rfl,_,rfl,o,dx,_,rfl,h4.ins,rfl,o,dx,wa,ws,x,i+1,rfl,h4,fun e j v H5 he b5 h5 hv=>⟨(by show 4<=sizeLine;decide),fun pr hpr=>?_⟩,fun hno=>(kx (by rw [hno];rfl)).but b34⟩
    have s6:=same_upd (o:=.tup [.str z,x,.str n,v]) hpr
    exact kq _ _ _ _ (by rw [he];rfl) ((b34.trans b5).trans s6.but) (h5.same s6) (.st (by rw [<- hs];exact upd_same) (hv.kept s6.tups))
   rw [if_neg hs] at kq kx
   rw [decide_eq_false hs]
   refine iteF ?_
   have hz:z="def":=by
    rcases List.mem_cons.mp hy3 with y | y
    ·exact absurd y hk
    ·rcases List.mem_cons.mp y with y | y
     ·exact y
     ·exact absurd (by simpa using y) hs
   refine ⟨_,rfl,o,dx,_,rfl,h4.ins,rfl,o,dx,wa,ws,x,i+1,rfl,h4,fun kk H5 hkk b5 h5=>?_,fun hno=>(kx (by rw [hno])).but b34⟩
   rw [hkk] at kq kx
   dsimp only at kq kx
   dsimp only [gName]
   have b35:=b34.trans b5
   refine ⟨_,rfl,_,rfl,_,rfl,_,rfl,_,rfl,o,dx,_,rfl,h5.ins,rfl,o,dx,wa,ws,x,i+1+1,rfl,h5,fun prs p ts H6 hp hU b6 h6 hpt hPT=>⟨(by show 5<=sizeLine;decide),fun pr hpr=>?_⟩,fun hno=>(kx (by rw [unlO_of hno];rfl)).but b35⟩
   have s6:=same_upd (o:=.tup [.str z,x,.str n,.str kk,.ref p]) hpr
   exact kq _ _ _ _ (by rw [unlO_some hp hU];rfl) ((b35.trans b6).trans s6.but) (h6.same s6) (.df (by rw [<- hz];exact upd_same) (s6.tups _ _ hpt) (hPT.kept s6.tups))
  ·rw [if_neg hy3] at kx
   rw [decide_eq_false hy3]
   refine iteT ?_
   have kx:=kx rfl
   exact ⟨_,rfl,(by show 2<=sizeLine;decide),fun e tt he _ _=>raise_NoForm (kx.word b3) e tt he⟩
noncomputable def pRow (ws:List Str):Option Hd:=match ws[0]? with
 | none=>none
 | some z=>match pHd ws z 1 with
  | none=>none
  | some (h,j)=>if j=ws.length then some h else none
noncomputable def spRow (X:Addr):Sp:=fun vs H Q E=>∃ (wa:Addr) (ws:List Str) (x:V),vs=[.ref wa,x]/\H wa=some (.lst (ws.map V.str))/\WsOk ws/\ws.length<=900/\(ws=[]->Q .non H)/\(ws≠[]->(∀ h t H',pRow ws=some h->Same H H'->HdAt H' x t h->Q (.ref t) H')/\(pRow ws=none->ErrW E X x "form" H))
noncomputable abbrev N_ZG:List Str:=["words","at","phrase","head"]
theorem sc_ZG:FnScope N_ZG ["words","at"] (defScope st_ZG):=⟨rfl,rfl,rfl,by decide +kernel,rfl,by decide +kernel,by decide +kernel⟩
theorem ok_row (T:All P w K mg AA DD):FnOk P w K mg base (CX2 (fun _=>True) P w) 24 AA.ZG DD.ZG ["words","at"] (spRow AA.x_NoForm):=by
 have GP:=ok_pinit (base:=base) T
 have GH:=ok_head (base:=base) T
 have GT:=ok_take (base:=base) T
 have GE:=ok_ended (base:=base) T
 have GI:=ok_xinit (base:=base) T
 refine T.F_ZG.ok2 sc_ZG (fun vs H Q E h=>?_) (fun cdv A outer s H vs Q E hr h=>?_)
 ·obtain ⟨wa,ws,x,rfl,_⟩:=h
  rfl
 ·obtain ⟨wa,ws,x,rfl,hw,hok,h9,k0,k1⟩:=h
  have nd:=sc_ZG.nd
  have hrH:Room 23 _:=hr
  have hr1:Room 1 _:=hr.mono (by decide)
  have hr2:Room 2 _:=hr.mono (by decide)
  have hr3:Room 3 _:=hr.mono (by decide)
  refine ⟨_,(@pss_cons _ _ _ _ _ (@ps_if _ _ _ _ _ _ _ _ (@pt_cmpR _ _ _ _ _ _ _ _ op_eq (pe_callB call_len_seq rfl T.n_len bt_len (@pa_cons _ _ _ _ _ (pv 0) pa_nil (by rfl))) pe_int (nomark _)) (@pss_one _ _ _ (@ps_ret _ _ _ _ pe_non)) pss_nil) (@pss_cons _ _ _ _ _ (@ps_set _ _ 2 _ _ _ _ nd rfl (Or.inl rfl) (pe_make T.M_Phrase GP hr2 rfl T.m_Phrase T.b_Zu .nil pass0 (@pa_cons _ _ _ _ _ (pv 0) (@pa_cons _ _ _ _ _ (pv 1) pa_nil (by rfl)) (by rfl))) (by rfl) (by first | exact .inl rfl | exact .inr rfl | assumption)) (@pss_cons _ _ _ _ _ (@ps_set _ _ 3 _ _ _ _ nd rfl (Or.inl rfl) (pe_call GH hrH rfl T.m_ZE T.k_ZE T.b_ZE .nil (pass2 fun _ z=>z) (@pa_cons _ _ _ _ _ (pv 2) (@pa_cons _ _ _ _ _ (pe_meth0 (pv 2) T.cl_Phrase T.M_Zv GT hr3 T.b_Zv .nil (pass2 fun _ z=>z)) pa_nil (by rfl)) (by rfl))) (by rfl) (by first | exact .inl rfl | exact .inr rfl | assumption)) (@pss_cons _ _ _ _ _ (@ps_if _ _ _ _ _ _ _ _ (pt_not (pt_val (pe_meth0 (pv 2) T.cl_Phrase T.M_Zq GE hr1 T.b_Zq .nil pass0))) (@pss_one _ _ _ (ps_raiseI body_cx (raise2 trivial) rfl rfl T.m_NoForm T.M_NoForm PySem.F.excBase_ValueError GI hr2 T.b_Zw (@pa_cons _ _ _ _ _ (pv 1) (@pa_cons _ _ _ _ _ pe_str pa_nil (by rfl)) (by rfl)))) pss_nil) (@pss_one _ _ _ (@ps_ret _ _ _ _ (pv 3))))))),?_⟩
  refine ⟨_,rfl,wa,_,rfl,.inl (SqL.of hw),rfl,_,rfl,?_⟩
  rw [List.length_map]
  by_cases h0:ws=[]
  ·subst h0
   refine iteT ?_
   exact k0 rfl
  rw [decide_eq_false (fun e=>h0 (List.eq_nil_of_length_eq_zero (by injection e with e;omega)))]
  refine iteF ?_
  obtain ⟨kq,kx⟩:=k1 h0
  refine ⟨_,rfl,_,rfl,fun o dx ho hdx hne=>?_⟩
  refine ⟨o,dx,wa,x,rfl,upd_same,rfl,?_⟩
  dsimp only [gName]
  rw [upd_upd,upd_upd,upd_upd]
  have nwo:wa≠o:=ne_of_none hw ho
  have nwd:wa≠dx:=ne_of_none hw hdx
  have ho2:upd H dx (.own o) o=none:=by rw [upd_ne (Ne.symm hne)];exact ho
  have s1:=(same_upd (o:=.own o) hdx).trans (same_upd (o:=.ins AA.c_Phrase dx (phF wa x 0)) ho2)
  have hP:Ph AA.c_Phrase (upd (upd H dx (.own o)) o (.ins AA.c_Phrase dx (phF wa x 0))) o dx wa ws x 0:=⟨upd_same,s1 _ _ hw,hok,Nat.zero_le _,h9⟩
  generalize upd (upd H dx (.own o)) o (.ins AA.c_Phrase dx (phF wa x 0))=H1 at s1 hP ⊢
  have sB:∀ {H':Hp},ButO o H1 H'->Same H H':=fun b u a e=>b _ _ (s1 _ _ e) (ne_of_none e ho)
  have hwl:0<ws.length:=List.length_pos_iff.mpr h0
  refine ⟨_,rfl,_,rfl,o,dx,_,rfl,hP.ins,rfl,o,dx,wa,ws,x,0,rfl,hP,fun z hz=>?_,fun hz=>absurd hwl (by rw [List.getElem?_eq_none_iff] at hz;omega)⟩
  have hP2:=hP.step (j:=0+1) hwl
  have b12:=ButO.upd o H1 (.ins AA.c_Phrase dx (phF wa x (0+1)))
  generalize upd H1 o (.ins AA.c_Phrase dx (phF wa x (0+1)))=H2 at hP2 b12 ⊢
  have hR:pRow ws=(match pHd ws z 1 with
   | none=>none
   | some (h,j)=>if j=ws.length then some h else none):=by unfold pRow;rw [hz]
  refine ⟨o,dx,wa,ws,x,1,z,rfl,hP2,fun h j t H3 hh b3 h3 hA=>?_,fun hn d H' b e=>kx (by rw [hR,hn]) d H' (sB (b12.trans b)) e⟩
  dsimp only [gName]
  rw [hh] at hR
  dsimp only at hR
  refine ⟨_,rfl,o,dx,_,rfl,h3.ins,rfl,o,dx,wa,ws,x,j,rfl,h3,_,rfl,?_⟩
  by_cases hj:j=ws.length
  ·rw [if_pos hj] at hR
   rw [decide_eq_true hj]
   refine iteF ?_
   exact ⟨_,rfl,kq h t H3 hR (sB (b12.trans b3)) hA⟩
  ·rw [if_neg hj] at hR
   rw [decide_eq_false hj]
   refine iteT ?_
   have ke:=kx hR
   exact ⟨_,rfl,(by show 2<=sizeLine;decide),fun e tt he _ _=>raise_NoForm (fun d H' s e=>ke d H' ((sB (b12.trans b3)).trans s) e) e tt he⟩
end
section
variable {P:Program} {w:World} {K:PySem.W.Frag} {mg:Str->Option Value} {base:Heap} {AA:Adr} {DD:Fds}
mutual
noncomputable def exD:Ex->PyData
 | .num n=>.tuple [.str "num",.int n]
 | .truth z=>.tuple [.str "truth",.str z]
 | .name z=>.tuple [.str "name",.str z]
 | .not e=>.tuple [.str "not",exD e]
 | .op w a b=>.tuple [.str w,exD a,exD b]
 | .of n e=>.tuple [.str "of",.str n,exD e]
 | .many w n es=>.tuple [.str w,.str n,.tuple (exsD es)]
noncomputable def exsD:List Ex->List PyData
 | []=>[]
 | e::es=>exD e::exsD es
end
mutual
theorem ex_rdv {H:Hp}:∀ {v:V} {e:Ex},ExAt H v e->RdH H v (exD e)
 | _,_,.num h=>.tup (SqTo h) (.cons (.str _) (.cons (.int _) .nil))
 | _,_,.truth h=>.tup (SqTo h) (.cons (.str _) (.cons (.str _) .nil))
 | _,_,.name h=>.tup (SqTo h) (.cons (.str _) (.cons (.str _) .nil))
 | _,_,.not h a=>.tup (SqTo h) (.cons (.str _) (.cons (ex_rdv a) .nil))
 | _,_,.op h x y=>.tup (SqTo h) (.cons (.str _) (.cons (ex_rdv x) (.cons (ex_rdv y) .nil)))
 | _,_,.of h x=>.tup (SqTo h) (.cons (.str _) (.cons (.str _) (.cons (ex_rdv x) .nil)))
 | _,_,.many h l x=>.tup (SqTo h) (.cons (.str _) (.cons (.str _) (.cons (.tup (SqTo l) (exs_rdv x)) .nil)))
theorem exs_rdv {H:Hp}:∀ {vs:List V} {es:List Ex},ExsAt H vs es->RdHA H vs (exsD es)
 | _,_,.nil=>.nil
 | _,_,.cons a b=>.cons (ex_rdv a) (exs_rdv b)
end
noncomputable def prD (fs:List (Str × Str)):PyData:=.tuple (fs.map fun p=>.tuple [.str p.1,.str p.2])
noncomputable def hdD (r:PyData):Hd->List PyData
 | .end_ z=>[.str z,r]
 | .ex z e=>[.str z,r,exD e]
 | .kd n fs=>[.str "kind",r,.str n,prD fs]
 | .st n e=>[.str "set",r,.str n,exD e]
 | .df n k ps=>[.str "def",r,.str n,.str k,prD ps]
theorem pr_rdv {H:Hp} {p:Addr} {ts:List Addr} {fs:List (Str × Str)} (h:H p=some (.tup (ts.map V.ref))) (hp:PrT H ts fs):RdH H (.ref p) (prD fs) :=
 .tup (SqTo h) (RdHA.get (by simp [hp.1]) fun i v d a b=>by
  rw [List.getElem?_map] at a b
  cases ea:ts[i]? with
  | none=>rw [ea] at a;cases a
  | some t =>
   cases eb:fs[i]? with
   | none=>rw [eb] at b;cases b
   | some f =>
    rw [ea] at a;rw [eb] at b
    cases a;cases b
    exact .tup (SqTo (hp.2 i t f ea eb)) (.cons (.str _) (.cons (.str _) .nil)))
theorem HdAt.kept {H H':Hp} {x:V} {t:Addr} {h:Hd} (q:HdAt H x t h) (s:TupS H H'):HdAt H' x t h:=by
 cases q with
 | end_ e=>exact .end_ (s _ _ e)
 | ex e a=>exact .ex (s _ _ e) (a.kept s)
 | kd e f g=>exact .kd (s _ _ e) (s _ _ f) (g.kept s)
 | st e a=>exact .st (s _ _ e) (a.kept s)
 | df e f g=>exact .df (s _ _ e) (s _ _ f) (g.kept s)
theorem HdAt.rdv {H:Hp} {x:V} {r:PyData} {t:Addr} {h:Hd} (q:HdAt H x t h) (hx:RdH H x r):∃ xs,H t=some (.tup (.str h.word::xs))/\xs.length<=10/\RdHA H (.str h.word::xs) (hdD r h):=by
 cases q with
 | end_ e=>exact ⟨_,e,by simp,.cons (.str _) (.cons hx .nil)⟩
 | ex e a=>exact ⟨_,e,by simp,.cons (.str _) (.cons hx (.cons (ex_rdv a) .nil))⟩
 | kd e f g=>exact ⟨_,e,by simp,.cons (.str _) (.cons hx (.cons (.str _) (.cons (pr_rdv f g) .nil)))⟩
 | st e a=>exact ⟨_,e,by simp,.cons (.str _) (.cons hx (.cons (.str _) (.cons (ex_rdv a) .nil)))⟩
 | df e f g=>exact ⟨_,e,by simp,.cons (.str _) (.cons hx (.cons (.str _) (.cons (.str _) (.cons (pr_rdv f g) .nil))))⟩
structure PF where
 z:Str
 hs:List PyData
 ds:List PyData
 oth:Bool
noncomputable def PF.shut (F:PF):PyData:=.tuple (F.hs++(.list F.ds::if F.oth then [.list []] else []))
structure Fr where
 f:PF
 o:Addr
 dx:Addr
 l:Addr
 xs:List V
 t:Addr
 vs:List V
 c:V
 b2:Option Addr
noncomputable def Fr.adr (F:Fr):List Addr:=F.o::F.l::F.b2.toList
structure FrAt (K:PySem.W.Frag) (C:Addr) (Hm H:Hp) (F:Fr):Prop where
 tup:Hm F.t=some (.tup (F.vs++(.ref F.l::F.b2.toList.map V.ref)))
 hd:RdHA Hm F.vs F.f.hs
 its:RdHA Hm F.xs F.f.ds
 ins:H F.o=some (.ins C F.dx (blF F.f.z (.ref F.l) F.c))
 b2:∀ b,F.b2=some b->F.c=.ref b/\H b=some (.lst [])
 isb:F.f.oth=F.b2.isSome
 isz:F.f.z="if"->∃ b,F.b2=some b
noncomputable def ZAt (K:PySem.W.Frag) (C:Addr) (Hm H:Hp) (pt:Addr) (xs0:List V) (ds0:List PyData):List Fr->List V->Prop
 | [],inn=>H pt=some (.lst (xs0++inn))/\RdHA Hm xs0 ds0
 | F::Z,inn=>H F.l=some (.lst (F.xs++inn))/\FrAt K C Hm H F/\ZAt K C Hm H pt xs0 ds0 Z [.ref F.t]
noncomputable def ops (Z:List Fr):List Addr:=Z.flatMap Fr.adr
theorem ops_cons (F:Fr) (Z:List Fr):ops (F::Z)=F.o::F.l::(F.b2.toList++ops Z):=by simp [ops,Fr.adr]
theorem FrAt.kept {K:PySem.W.Frag} {C:Addr} {Hm Hm' H H':Hp} {F:Fr} (h:FrAt K C Hm H F) (s:Same Hm Hm') (he:∀ b∈F.adr,H' b=H b):FrAt K C Hm' H' F :=
 ⟨s _ _ h.tup,h.hd.kept s,h.its.kept s,by rw [he _ (by simp [Fr.adr])];exact h.ins,fun b hb=>⟨(h.b2 b hb).1,by rw [he _ (by simp [Fr.adr,hb])];exact (h.b2 b hb).2⟩,h.isb,h.isz⟩
theorem ZAt.kept {K:PySem.W.Frag} {C:Addr} {Hm Hm' H H':Hp} {pt:Addr} {xs0:List V} {ds0:List PyData} (s:Same Hm Hm') (hp:H' pt=H pt):∀ {Z:List Fr} {inn:List V},(∀ b∈ops Z,H' b=H b)->ZAt K C Hm H pt xs0 ds0 Z inn->ZAt K C Hm' H' pt xs0 ds0 Z inn
 | [],inn,_,h=>⟨by rw [hp];exact h.1,h.2.kept s⟩
 | F::Z,inn,he,h=>by
  rw [ops_cons] at he
  refine ⟨by rw [he F.l (by simp)];exact h.1,h.2.1.kept s fun b hb=>he b ?_,ZAt.kept s hp (fun b hb=>he b (by simp [hb])) h.2.2⟩
  simp only [Fr.adr,List.mem_cons] at hb ⊢
  rcases hb with hb | hb | hb
  ·exact .inl hb
  ·exact .inr (.inl hb)
  ·exact .inr (.inr (List.mem_append_left _ hb))
noncomputable def adrs (pt pB:Addr) (Z:List Fr):List Addr:=pt::pB::ops Z
noncomputable def tl (pt:Addr):List Fr->Addr
 | []=>pt
 | F::_=>F.l
noncomputable def tx (xs0:List V):List Fr->List V
 | []=>xs0
 | F::_=>F.xs
theorem tl_in (pt pB:Addr) (Z:List Fr):tl pt Z∈adrs pt pB Z:=by
 cases Z with
 | nil=>simp [tl,adrs]
 | cons F Z=>simp [tl,adrs,ops_cons]
theorem tl_ne {pt pB:Addr} {Z:List Fr} (h:(adrs pt pB Z).Nodup):tl pt Z≠pB:=by
 cases Z with
 | nil=>unfold adrs at h;exact fun e=>(List.nodup_cons.mp h).1 (by rw [show pt=pB from e];simp)
 | cons F Z =>
  unfold adrs at h
  rw [ops_cons] at h
  exact fun e=>(List.nodup_cons.mp (List.nodup_cons.mp h).2).1 (by rw [<- show F.l=pB from e];simp)
structure PzA (K:PySem.W.Frag) (C:Addr) (B H:Hp) (pt pB:Addr) (i:Nat) (xs0:List V) (ds0:List PyData) (Z:List Fr):Prop where
 sm:Same B H
 fr:∀ b∈adrs pt pB Z,B b=none
 nd:(adrs pt pB Z).Nodup
 nt:∀ b∈adrs pt pB Z,∃ o,H b=some o/\∀ vs,o≠.tup vs
 z:ZAt K C (msk H (adrs pt pB Z)) H pt xs0 ds0 Z []
 bl:H pB=some (.lst ((Z.map Fr.o).reverse.map V.ref))
 n0:xs0.length<=i
 n1:∀ F∈Z,F.xs.length<=i
section
variable {C:Addr} {B H H':Hp} {pt pB:Addr} {i:Nat} {xs0:List V} {ds0:List PyData} {Z:List Fr}
theorem PzA.tups (h:PzA K C B H pt pB i xs0 ds0 Z):TupS H (msk H (adrs pt pB Z)):=fun b xs hb=>by
 rw [msk_no fun z=>?_]
 ·exact hb
 ·obtain ⟨o,h1,h2⟩:=h.nt b z
  rw [hb] at h1
  exact h2 xs (Option.some.inj h1).symm
theorem PzA.same (h:PzA K C B H pt pB i xs0 ds0 Z) (s:Same H H'):PzA K C B H' pt pB i xs0 ds0 Z:=by
 have e:∀ b∈adrs pt pB Z,H' b=H b:=fun b hb=>by
  obtain ⟨o,h1,_⟩:=h.nt b hb
  rw [h1];exact s _ _ h1
 exact ⟨h.sm.trans s,h.fr,h.nd,fun b hb=>by rw [e b hb];exact h.nt b hb,h.z.kept (msk_le (fun b hb=>.inl hb) fun b o _ q=>s _ _ q) (e pt (by simp [adrs])) fun b hb=>e b (by simp [adrs,hb]),s _ _ h.bl,h.n0,h.n1⟩
theorem PzA.more {j:Nat} (h:PzA K C B H pt pB i xs0 ds0 Z) (hi:i<=j):PzA K C B H pt pB j xs0 ds0 Z :=
 ⟨h.sm,h.fr,h.nd,h.nt,h.z,h.bl,Nat.le_trans h.n0 hi,fun F hF=>Nat.le_trans (h.n1 F hF) hi⟩
theorem PzA.top (h:PzA K C B H pt pB i xs0 ds0 Z):H (tl pt Z)=some (.lst (tx xs0 Z))/\(tx xs0 Z).length<=i:=by
 have hz:=h.z
 cases Z with
 | nil=>exact ⟨by have:=hz.1;rw [List.append_nil] at this;exact this,h.n0⟩
 | cons F Z=>exact ⟨by have:=hz.1;rw [List.append_nil] at this;exact this,h.n1 F (by simp)⟩
noncomputable def putP (d:PyData):List PyData × List PF->List PyData × List PF
 | (ds,[])=>(ds++[d],[])
 | (ds,F::S)=>(ds,{ F with ds:=F.ds++[d] }::S)
theorem PzA.put {v:V} {d:PyData} (h:PzA K C B H pt pB i xs0 ds0 Z) (ch:∀ b o,H b=some o->b≠tl pt Z->H' b=some o) (hl:H' (tl pt Z)=some (.lst (tx xs0 Z++[v]))) (hd:RdH (msk H' (adrs pt pB Z)) v d) :
  ∃ xs0' ds0' Z',PzA K C B H' pt pB (i+1) xs0' ds0' Z'/\(ds0',Z'.map Fr.f)=putP d (ds0,Z.map Fr.f):=by
 have nd:=h.nd
 have sB:Same B H':=fun b u q=>ch _ _ (h.sm _ _ q) fun z=>by
  have:=h.fr _ (tl_in pt pB Z)
  rw [<- z,q] at this;cases this
 have hm:Same (msk H (adrs pt pB Z)) (msk H' (adrs pt pB Z)):=msk_le (fun b hb=>.inl hb) fun b o hb q=>ch _ _ q fun z=>hb (by rw [z];exact tl_in _ _ _)
 have ht:H' pB=some (.lst ((Z.map Fr.o).reverse.map V.ref)):=ch _ _ h.bl (Ne.symm (tl_ne nd))
 have nt:∀ b∈adrs pt pB Z,∃ o,H' b=some o/\∀ vs,o≠.tup vs:=fun b hb=>by
  by_cases e:b=tl pt Z
  ·exact ⟨_,by rw [e];exact hl,fun vs q=>(by cases q)⟩
  ·obtain ⟨o,h1,h2⟩:=h.nt b hb
   exact ⟨o,ch _ _ h1 e,h2⟩
 have ek:∀ b∈adrs pt pB Z,b≠tl pt Z->H' b=H b:=fun b hb e=>by
  obtain ⟨o,h1,_⟩:=h.nt b hb
  rw [h1];exact ch _ _ h1 e
 have hz:=h.z
 cases Z with
 | nil =>
  refine ⟨xs0++[v],ds0++[d],[],⟨sB,h.fr,nd,nt,⟨by rw [List.append_nil];exact hl,(hz.2.kept hm).app (.cons hd .nil)⟩,ht,?_,fun F hF=>by cases hF⟩,rfl⟩
  rw [List.length_append,List.length_singleton]
  exact Nat.succ_le_succ h.n0
 | cons F Z =>
  have eq:adrs pt pB ({ F with xs:=F.xs++[v],f:={ F.f with ds:=F.f.ds++[d] } }::Z)=adrs pt pB (F::Z):=by unfold adrs;rw [ops_cons,ops_cons]
  unfold adrs at nd
  rw [ops_cons] at nd
  have nd1:=List.nodup_cons.mp nd
  have nd2:=List.nodup_cons.mp nd1.2
  have nd3:=List.nodup_cons.mp nd2.2
  have nd4:=List.nodup_cons.mp nd3.2
  have ne:∀ b∈F.b2.toList++ops Z,b≠F.l:=fun b hb z=>nd4.1 (z ▸ hb)
  have np:pt≠F.l:=fun z=>nd1.1 (by rw [z];simp)
  have no:F.o≠F.l:=fun z=>nd3.1 (by rw [z];simp)
  have mem:∀ b∈F.b2.toList++ops Z,b∈adrs pt pB (F::Z):=fun b hb=>by
   unfold adrs;rw [ops_cons];simp only [List.mem_cons];exact .inr (.inr (.inr (.inr hb)))
  obtain ⟨z1,z2,z3⟩:=hz
  refine ⟨xs0,ds0,{ F with xs:=F.xs++[v],f:={ F.f with ds:=F.f.ds++[d] } }::Z,⟨sB,by rw [eq];exact h.fr,by rw [eq];exact h.nd,by rw [eq];exact nt,?_,ht,Nat.le_succ_of_le h.n0,fun G hG=>?_⟩,rfl⟩
  ·rw [eq]
   refine ⟨by rw [List.append_nil];exact hl,⟨hm _ _ z2.tup,z2.hd.kept hm,(z2.its.kept hm).app (.cons hd .nil),?_,fun b hb=>?_,z2.isb,z2.isz⟩,z3.kept hm ?_ fun b hb=>?_⟩
   ·rw [ek F.o (by unfold adrs;rw [ops_cons];simp) no];exact z2.ins
   ·have hb:F.b2=some b:=hb
    have hbm:b∈F.b2.toList++ops Z:=List.mem_append_left _ (by rw [hb];simp)
    exact ⟨(z2.b2 b hb).1,by rw [ek b (mem b hbm) (ne b hbm)];exact (z2.b2 b hb).2⟩
   ·exact ek pt (by simp [adrs]) np
   ·have hbm:b∈F.b2.toList++ops Z:=List.mem_append_right _ hb
    exact ek b (mem b hbm) (ne b hbm)
  ·rcases List.mem_cons.mp hG with q | q
   ·rw [q]
    show (F.xs++[v]).length<=i+1
    rw [List.length_append,List.length_singleton]
    exact Nat.succ_le_succ (h.n1 F (by simp))
   ·exact Nat.le_succ_of_le (h.n1 G (by simp [q]))
end
section
variable {C:Addr} {B H H':Hp} {pt pB:Addr} {i:Nat} {xs0:List V} {ds0:List PyData} {Z:List Fr}
theorem ZAt.inn {Hm:Hp} {v:V}:∀ {Z:List Fr} {inn:List V},ZAt K C Hm H pt xs0 ds0 Z inn->(H' (tl pt Z)=some (.lst (tx xs0 Z++[v])))->(∀ b∈pt::ops Z,b≠tl pt Z->H' b=H b)->(pt::ops Z).Nodup->ZAt K C Hm H' pt xs0 ds0 Z [v]
 | [],inn,h,e,_,_=>⟨e,h.2⟩
 | F::Z,inn,h,e,k,nd=>by
  rw [ops_cons] at k nd
  have nd1:=List.nodup_cons.mp nd
  have nd3:=List.nodup_cons.mp nd1.2
  have nd4:=List.nodup_cons.mp nd3.2
  have ne:∀ b∈F.b2.toList++ops Z,b≠F.l:=fun b hb z=>nd4.1 (z ▸ hb)
  have np:pt≠F.l:=fun z=>nd1.1 (by rw [z];simp)
  have no:F.o≠F.l:=fun z=>nd3.1 (by rw [z];simp)
  have mem:∀ b∈F.b2.toList++ops Z,b∈pt::F.o::F.l::(F.b2.toList++ops Z):=fun b hb=>by simp only [List.mem_cons];exact .inr (.inr (.inr hb))
  obtain ⟨z1,z2,z3⟩:=h
  refine ⟨e,⟨z2.tup,z2.hd,z2.its,?_,fun b hb=>?_,z2.isb,z2.isz⟩,z3.kept (Same.refl _) (k pt (by simp) np) fun b hb=>?_⟩
  ·rw [k F.o (by simp) no];exact z2.ins
  ·have hbm:b∈F.b2.toList++ops Z:=List.mem_append_left _ (by rw [hb];simp)
   exact ⟨(z2.b2 b hb).1,by rw [k b (mem b hbm) (ne b hbm)];exact (z2.b2 b hb).2⟩
  ·have hbm:b∈F.b2.toList++ops Z:=List.mem_append_right _ hb
   exact k b (mem b hbm) (ne b hbm)
theorem nd_in (h:(adrs pt pB Z).Nodup):(pt::ops Z).Nodup:=by
 unfold adrs at h
 have h1:=List.nodup_cons.mp h
 exact List.nodup_cons.mpr ⟨fun q=>h1.1 (List.mem_cons_of_mem _ q),(List.nodup_cons.mp h1.2).2⟩
theorem PzA.push {F:Fr} (h:PzA K C B H pt pB i xs0 ds0 Z) (ch:∀ b o,H b=some o->b≠tl pt Z->b≠pB->H' b=some o) (hl:H' (tl pt Z)=some (.lst (tx xs0 Z++[.ref F.t]))) (hB:H' pB=some (.lst (((F::Z).map Fr.o).reverse.map V.ref)))
  (hn:∀ b∈F.adr,H b=none) (hnd:F.adr.Nodup) (hx:F.xs=[]) (hds:F.f.ds=[]) (hL:H' F.l=some (.lst [])) (ht:H' F.t=some (.tup (F.vs++(.ref F.l::F.b2.toList.map V.ref))))
  (hd:RdHA (msk H (adrs pt pB Z)) F.vs F.f.hs) (hi:H' F.o=some (.ins C F.dx (blF F.f.z (.ref F.l) F.c))) (hb:∀ b,F.b2=some b->F.c=.ref b/\H' b=some (.lst [])) (hs:F.f.oth=F.b2.isSome) (hz:F.f.z="if"->∃ b,F.b2=some b) :
  PzA K C B H' pt pB (i+1) xs0 ds0 (F::Z):=by
 have eA:adrs pt pB (F::Z)=pt::pB::(F.adr++ops Z):=by unfold adrs;rw [ops_cons];rfl
 have old:∀ b∈adrs pt pB Z,b∉F.adr:=fun b hb q=>by
  obtain ⟨o,h1,_⟩:=h.nt b hb
  rw [hn b q] at h1;cases h1
 have mem:∀ b,b∈adrs pt pB (F::Z)↔b∈adrs pt pB Z∨b∈F.adr:=fun b=>by
  rw [eA];unfold adrs
  simp only [List.mem_cons,List.mem_append]
  constructor
  ·rintro (q | q | q | q)
   ·exact .inl (.inl q)
   ·exact .inl (.inr (.inl q))
   ·exact .inr q
   ·exact .inl (.inr (.inr q))
  ·rintro ((q | q | q) | q)
   ·exact .inl q
   ·exact .inr (.inl q)
   ·exact .inr (.inr (.inr q))
   ·exact .inr (.inr (.inl q))
 have sB:Same B H':=fun b u q=>ch _ _ (h.sm _ _ q) (fun z=>by
  have:=h.fr _ (tl_in pt pB Z)
  rw [<- z,q] at this;cases this) fun z=>by
  have:=h.fr pB (by simp [adrs])
  rw [<- z,q] at this;cases this
 have hm:Same (msk H (adrs pt pB Z)) (msk H' (adrs pt pB (F::Z))):=msk_le (fun b hb=>by
  rcases (mem b).mp hb with q | q
  ·exact .inl q
  ·exact .inr (hn b q)) fun b o hb q=>ch _ _ q (fun z=>hb (by rw [z];exact tl_in _ _ _)) fun z=>hb (by rw [z];simp [adrs])
 have nt:∀ b∈adrs pt pB (F::Z),∃ o,H' b=some o/\∀ vs,o≠.tup vs:=fun b hb'=>by
  rcases (mem b).mp hb' with q | q
  ·by_cases e:b=tl pt Z
   ·exact ⟨_,by rw [e];exact hl,fun vs q=>(by cases q)⟩
   ·by_cases e2:b=pB
    ·exact ⟨_,by rw [e2];exact hB,fun vs q=>(by cases q)⟩
    ·obtain ⟨o,h1,h2⟩:=h.nt b q
     exact ⟨o,ch _ _ h1 e e2,h2⟩
  ·simp only [Fr.adr,List.mem_cons] at q
   rcases q with q | q | q
   ·exact ⟨_,by rw [q];exact hi,fun vs q=>(by cases q)⟩
   ·exact ⟨_,by rw [q];exact hL,fun vs q=>(by cases q)⟩
   ·have q:F.b2=some b:=by simpa using q
    exact ⟨_,(hb b q).2,fun vs q=>(by cases q)⟩
 have tup:msk H' (adrs pt pB (F::Z)) F.t=some (.tup (F.vs++(.ref F.l::F.b2.toList.map V.ref))):=by
  rw [msk_no fun z=>?_]
  ·exact ht
  ·obtain ⟨o,h1,h2⟩:=nt _ z
   rw [ht] at h1
   exact h2 _ (Option.some.inj h1).symm
 refine ⟨sB,fun b hb'=>?_,?_,nt,⟨by rw [hx];exact hL,⟨tup,hd.kept hm,by rw [hx,hds];exact .nil,hi,hb,hs,hz⟩,?_⟩,hB,Nat.le_succ_of_le h.n0,fun G hG=>?_⟩
 ·rcases (mem b).mp hb' with q | q
  ·exact h.fr b q
  ·exact h.sm.free (hn b q)
 ·rw [eA]
  have o1:=h.nd
  unfold adrs at o1
  have n1:=List.nodup_cons.mp o1
  have n2:=List.nodup_cons.mp n1.2
  refine List.nodup_cons.mpr ⟨fun q=>?_,List.nodup_cons.mpr ⟨fun q=>?_,List.nodup_append.mpr ⟨hnd,n2.2,fun x hx' y hy e=>old y (by unfold adrs;simp [hy]) (e ▸ hx')⟩⟩⟩
  ·rcases List.mem_cons.mp q with q | q
   ·exact n1.1 (by rw [q];simp)
   ·rcases List.mem_append.mp q with q | q
    ·exact old pt (by simp [adrs]) q
    ·exact n1.1 (by simp [q])
  ·rcases List.mem_append.mp q with q | q
   ·exact old pB (by simp [adrs]) q
   ·exact n2.1 q
 ·refine ZAt.inn (h.z.kept (H':=H) hm rfl fun _ _=>rfl) hl (fun b hb' hne=>?_) (nd_in h.nd)
  have hbm:b∈adrs pt pB Z:=by
   unfold adrs
   rcases List.mem_cons.mp hb' with q | q
   ·rw [q];simp
   ·simp [q]
  obtain ⟨o,h1,_⟩:=h.nt b hbm
  rw [h1]
  refine ch _ _ h1 hne fun z=>?_
  have o1:=h.nd
  unfold adrs at o1
  have n1:=List.nodup_cons.mp o1
  rcases List.mem_cons.mp hb' with q | q
  ·exact n1.1 (by rw [<- q,z];simp)
  ·exact (List.nodup_cons.mp n1.2).1 (z ▸ q)
 ·rcases List.mem_cons.mp hG with q | q
  ·rw [q,hx];exact Nat.zero_le _
  ·exact Nat.le_succ_of_le (h.n1 G q)
theorem ZAt.shut {Hm:Hp} {v:V} {d:PyData} (hd:RdH Hm v d):∀ {Z:List Fr},ZAt K C Hm H pt xs0 ds0 Z [v]->∃ xs0' ds0' Z',ZAt K C Hm H pt xs0' ds0' Z' []/\(ds0',Z'.map Fr.f)=putP d (ds0,Z.map Fr.f)/\ops Z'=ops Z/\Z'.map Fr.o=Z.map Fr.o/\(∀ i,xs0.length<=i->xs0'.length<=i+1)/\∀ i,(∀ G∈Z,G.xs.length<=i)->∀ G∈Z',G.xs.length<=i+1
 | [],h=>⟨xs0++[v],ds0++[d],[],⟨by rw [List.append_nil];exact h.1,h.2.app (.cons hd .nil)⟩,rfl,rfl,rfl,fun i hi=>by rw [List.length_append,List.length_singleton];omega,fun i _ G hG=>by cases hG⟩
 | F::Z,h=>by
  refine ⟨xs0,ds0,{ F with xs:=F.xs++[v],f:={ F.f with ds:=F.f.ds++[d] } }::Z,⟨by rw [List.append_nil];exact h.1,⟨h.2.1.tup,h.2.1.hd,h.2.1.its.app (.cons hd .nil),h.2.1.ins,h.2.1.b2,h.2.1.isb,h.2.1.isz⟩,h.2.2⟩,rfl,by rw [ops_cons,ops_cons],rfl,fun i hi=>Nat.le_succ_of_le hi,fun i hi G hG=>?_⟩
  rcases List.mem_cons.mp hG with q | q
  ·rw [q]
   show (F.xs++[v]).length<=i+1
   rw [List.length_append,List.length_singleton]
   exact Nat.succ_le_succ (hi F (by simp))
  ·exact Nat.le_succ_of_le (hi G (by simp [q]))
theorem PzA.pop {F:Fr} (h:PzA K C B H pt pB i xs0 ds0 (F::Z)):∃ xs0' ds0' Z',PzA K C B (upd H pB (.lst ((Z.map Fr.o).reverse.map V.ref))) pt pB (i+1) xs0' ds0' Z'/\(ds0',Z'.map Fr.f)=putP F.f.shut (ds0,Z.map Fr.f):=by
 obtain ⟨z1,z2,z3⟩:=h.z
 have o1:=h.nd
 unfold adrs at o1
 rw [ops_cons] at o1
 have n1:=List.nodup_cons.mp o1
 have n2:=List.nodup_cons.mp n1.2
 have n3:=List.nodup_cons.mp n2.2
 have n4:=List.nodup_cons.mp n3.2
 have n5:=List.nodup_append.mp n4.2
 have sub:∀ b∈adrs pt pB Z,b∈adrs pt pB (F::Z):=fun b hb=>by
  unfold adrs at hb ⊢
  rw [ops_cons]
  simp only [List.mem_cons] at hb ⊢
  rcases hb with q | q | q
  ·exact .inl q
  ·exact .inr (.inl q)
  ·exact .inr (.inr (.inr (.inr (List.mem_append_right _ q))))
 have np:pt≠pB:=fun z=>n1.1 (by rw [z];simp)
 have nb:∀ b∈ops (F::Z),b≠pB:=fun b hb z=>n2.1 (by rw [ops_cons] at hb;exact z ▸ hb)
 have hm:Same (msk H (adrs pt pB (F::Z))) (msk (upd H pB (.lst ((Z.map Fr.o).reverse.map V.ref))) (adrs pt pB Z)):=msk_le (fun b hb=>.inl (sub b hb)) fun b o hb q=>by
  rw [upd_ne fun z=>hb (by rw [z];simp [adrs])];exact q
 have nZ:∀ b∈F.adr,b∉adrs pt pB Z:=fun b hb q=>by
  have hb':b∈F.o::F.l::F.b2.toList:=hb
  unfold adrs at q
  simp only [List.mem_cons] at hb' q
  have all:b∈F.o::F.l::(F.b2.toList++ops Z):=by
   simp only [List.mem_cons]
   rcases hb' with e | e | e
   ·exact .inl e
   ·exact .inr (.inl e)
   ·exact .inr (.inr (List.mem_append_left _ e))
  rcases q with q | q | q
  ·exact n1.1 (by rw [<- q];exact List.mem_cons_of_mem _ all)
  ·exact n2.1 (q ▸ all)
  ·rcases hb' with e | e | e
   ·exact n3.1 (by rw [<- e];simp [q])
   ·exact n4.1 (by rw [<- e];simp [q])
   ·exact n5.2.2 b e b q rfl
 have at_:∀ b∈F.adr,∀ o,H b=some o->msk (upd H pB (.lst ((Z.map Fr.o).reverse.map V.ref))) (adrs pt pB Z) b=some o:=fun b hb o q=>by
  rw [msk_no (nZ b hb),upd_ne (nb b (by unfold ops;simp [hb]))];exact q
 have hd:RdH (msk (upd H pB (.lst ((Z.map Fr.o).reverse.map V.ref))) (adrs pt pB Z)) (.ref F.t) F.f.shut:=by
  refine .tup (SqTo (hm _ _ z2.tup)) ((z2.hd.kept hm).app (.cons (.lst (SqLo (at_ F.l (by simp [Fr.adr]) _ z1)) (by rw [List.append_nil];exact z2.its.kept hm)) ?_))
  rw [z2.isb]
  cases hb:F.b2 with
  | none=>exact .nil
  | some b=>exact .cons (.lst (SqLo (at_ b (by simp [Fr.adr,hb]) _ (z2.b2 b hb).2)) .nil) .nil
 have hz:ZAt K C (msk (upd H pB (.lst ((Z.map Fr.o).reverse.map V.ref))) (adrs pt pB Z)) (upd H pB (.lst ((Z.map Fr.o).reverse.map V.ref))) pt xs0 ds0 Z [.ref F.t] :=
  z3.kept hm (upd_ne np) fun b hb=>upd_ne (nb b (by rw [ops_cons];simp [hb]))
 obtain ⟨xs0',ds0',Z',w1,w2,w3,w4,w5,w6⟩:=ZAt.shut hd hz
 have eA:adrs pt pB Z'=adrs pt pB Z:=by unfold adrs;rw [w3]
 refine ⟨xs0',ds0',Z',⟨fun b u q=>?_,fun b hb=>h.fr b (sub b (eA ▸ hb)),?_,fun b hb=>?_,by rw [eA];exact w1,?_,w5 _ h.n0,w6 _ fun G hG=>h.n1 G (by simp [hG])⟩,w2⟩
 ·rw [upd_ne fun z=>by
   have:=h.fr pB (by simp [adrs])
   rw [<- z,q] at this;cases this]
  exact h.sm _ _ q
 ·rw [eA]
  unfold adrs
  refine List.nodup_cons.mpr ⟨fun q=>?_,List.nodup_cons.mpr ⟨fun q=>n2.1 (by simp [q]),n5.2.1⟩⟩
  rcases List.mem_cons.mp q with q | q
  ·exact np q
  ·exact n1.1 (by simp [q])
 ·by_cases e:b=pB
  ·exact ⟨_,by rw [e];exact upd_same,fun vs q=>(by cases q)⟩
  ·rw [upd_ne e];exact h.nt b (sub b (eA ▸ hb))
 ·rw [upd_same,w4]
theorem PzA.alt {F:Fr} {b:Addr} (h:PzA K C B H pt pB i xs0 ds0 (F::Z)) (hb:F.b2=some b) (ch:∀ a o,H a=some o->a≠F.o->H' a=some o) (hi:H' F.o=some (.ins C F.dx (blF "else" (.ref b) F.c))) :
  PzA K C B H' pt pB (i+1) xs0 ds0 (⟨⟨"else",F.f.hs++[.list F.f.ds],[],false⟩,F.o,F.dx,b,[],F.t,F.vs++[.ref F.l],F.c,none⟩::Z):=by
 obtain ⟨z1,z2,z3⟩:=h.z
 have o1:=h.nd
 unfold adrs at o1
 rw [ops_cons,hb] at o1
 have n1:=List.nodup_cons.mp o1
 have n2:=List.nodup_cons.mp n1.2
 have n3:=List.nodup_cons.mp n2.2
 have n4:=List.nodup_cons.mp n3.2
 have eN:adrs pt pB (⟨⟨"else",F.f.hs++[.list F.f.ds],[],false⟩,F.o,F.dx,b,[],F.t,F.vs++[.ref F.l],F.c,none⟩::Z)=pt::pB::F.o::b::ops Z:=by unfold adrs;rw [ops_cons];rfl
 have eO:adrs pt pB (F::Z)=pt::pB::F.o::F.l::b::ops Z:=by unfold adrs;rw [ops_cons,hb];rfl
 have n5:(b::ops Z).Nodup:=n4.2
 have sub:∀ a∈pt::pB::F.o::b::ops Z,a∈adrs pt pB (F::Z):=fun a ha=>by
  rw [eO]
  simp only [List.mem_cons] at ha ⊢
  rcases ha with q | q | q | q | q
  ·exact .inl q
  ·exact .inr (.inl q)
  ·exact .inr (.inr (.inl q))
  ·exact .inr (.inr (.inr (.inr (.inl q))))
  ·exact .inr (.inr (.inr (.inr (.inr q))))
 have oin:F.o∈adrs pt pB (F::Z):=by rw [eO];simp
 have hm:Same (msk H (adrs pt pB (F::Z))) (msk H' (pt::pB::F.o::b::ops Z)):=msk_le (fun a ha=>.inl (sub a ha)) fun a o ha q=>ch _ _ q fun z=>ha (by rw [z];exact oin)
 have lne:F.l∉pt::pB::F.o::b::ops Z:=fun q=>by
  simp only [List.mem_cons] at q
  rcases q with q | q | q | q | q
  ·exact n1.1 (by rw [<- q];simp)
  ·exact n2.1 (by rw [<- q];simp)
  ·exact n3.1 (by rw [<- q];simp)
  ·exact n4.1 (by rw [q];simp)
  ·exact n4.1 (by simp [q])
 have blo:F.l≠F.o:=fun z=>n3.1 (by rw [<- z];simp)
 have bo:b≠F.o:=fun z=>n3.1 (by rw [<- z];simp)
 have ek:∀ a∈adrs pt pB (F::Z),a≠F.o->H' a=H a:=fun a ha e=>by
  obtain ⟨o,h1,_⟩:=h.nt a ha
  rw [h1];exact ch _ _ h1 e
 refine ⟨fun a u q=>ch _ _ (h.sm _ _ q) fun z=>?_,fun a ha=>h.fr a (sub a (eN ▸ ha)),?_,fun a ha=>?_,?_,?_,Nat.le_succ_of_le h.n0,fun G hG=>?_⟩
 ·have:=h.fr F.o oin
  rw [<- z,q] at this;cases this
 ·rw [eN]
  refine List.nodup_cons.mpr ⟨fun q=>n1.1 ?_,List.nodup_cons.mpr ⟨fun q=>n2.1 ?_,List.nodup_cons.mpr ⟨fun q=>n3.1 ?_,n5⟩⟩⟩
  ·simp only [List.mem_cons] at q ⊢
   rcases q with q | q | q | q
   ·exact .inl q
   ·exact .inr (.inl q)
   ·exact .inr (.inr (.inr (by simp [q])))
   ·exact .inr (.inr (.inr (by simp [q])))
  ·simp only [List.mem_cons] at q ⊢
   rcases q with q | q | q
   ·exact .inl q
   ·exact .inr (.inr (by simp [q]))
   ·exact .inr (.inr (by simp [q]))
  ·simp only [List.mem_cons] at q ⊢
   rcases q with q | q
   ·exact .inr (by simp [q])
   ·exact .inr (by simp [q])
 ·by_cases e:a=F.o
  ·exact ⟨_,by rw [e];exact hi,fun vs q=>(by cases q)⟩
  ·obtain ⟨o,h1,h2⟩:=h.nt a (sub a (eN ▸ ha))
   exact ⟨o,ch _ _ h1 e,h2⟩
 ·rw [eN]
  have ht:=hm _ _ z2.tup
  rw [hb] at ht
  refine ⟨?_,⟨?_,(z2.hd.kept hm).app (.cons (.lst (SqLo ?_) (z2.its.kept hm)) .nil),.nil,hi,fun b hb=>(by cases hb),rfl,fun q=>absurd q (show ("else":Str)≠"if" by decide +kernel)⟩,z3.kept hm (ek pt (by simp [adrs]) fun z=>n1.1 (by rw [z];simp)) fun a ha=>ek a (by rw [eO];simp [ha]) fun z=>n3.1 (by rw [<- z];simp [ha])⟩
  ·show H' b=some (.lst ([]++[]))
   rw [ek b (by rw [eO];simp) bo];exact (z2.b2 b hb).2
  ·show msk H' _ F.t=some (.tup ((F.vs++[.ref F.l])++[.ref b]))
   rw [ht]
   simp
  ·rw [msk_no lne,ek F.l (by rw [eO];simp) blo]
   rw [List.append_nil] at z1;exact z1
 ·rw [ek pB (by simp [adrs]) fun z=>n2.1 (by rw [z];simp)]
  exact h.bl
 ·rcases List.mem_cons.mp hG with q | q
  ·rw [q];exact Nat.zero_le _
  ·exact Nat.le_succ_of_le (h.n1 G (by simp [q]))
end
end
section
variable {P:Program} {w:World} {K:PySem.W.Frag} {mg:Str->Option Value} {base:Heap} {AA:Adr} {DD:Fds}
theorem pf_end {ws:List Str} (h:pfP "end" ws=.non):ws≠[]:=by
 rintro rfl
 revert h
 decide +kernel
theorem pf_else {ws:List Str} (h:pfP "else" ws=.non):∃ l,ws=l++[("if":Str)]:=by
 unfold pfP at h
 have hm:misP "else" ws=false:=by
  unfold misP
  rw [if_neg (by decide +kernel),if_neg (by decide +kernel),decide_eq_false (by decide +kernel)]
  rfl
 rw [hm] at h
 cases hs:strP "else" ws with
 | true=>rw [hs] at h;cases h
 | false =>
  unfold strP at hs
  rw [if_pos rfl] at hs
  simp only [Bool.or_eq_false_iff,Bool.not_eq_false',decide_eq_true_eq,decide_eq_false_iff_not] at hs
  obtain ⟨_,h2⟩:=hs
  have hne:ws≠[]:=by rintro rfl;cases h2
  refine ⟨ws.dropLast,?_⟩
  rw [List.getLast?_eq_some_getLast hne] at h2
  conv=>lhs;rw [<- List.dropLast_concat_getLast hne]
  rw [Option.some.inj h2]
theorem put_word (z y:Str) (b c:V):putF "word" (V.str z) (blF y b c)=blF z b c:=by
 unfold blF
 rw [putF,if_pos rfl]
theorem put_body (z:Str) (v b c:V):putF "body" v (blF z b c)=blF z v c:=by
 unfold blF
 rw [putF,if_neg (by decide +kernel),putF,if_pos rfl]
theorem cut_sq {a b:TS} {D:Ends} {σ:St} {H:Hp} (P:St->Hp->Prop) (h1:∀ R:St->Hp->Prop,(∀ σ' H',P σ' H'->R σ' H')->a { D with nx:=R } σ H) (h2:∀ σ' H',P σ' H'->b D σ' H'):tSeq a b D σ H:=h1 _ fun σ' H' h=>h2 σ' H' h
noncomputable def wdsP (S:List PF):List Str:=(S.map PF.z).reverse
noncomputable def stepP (r:PyData) (h:Hd) (S:List PyData × List PF):List PyData × List PF :=
 if h.word="end" then (match S with | (ds,F::Z)=>putP F.shut (ds,Z) | s=>s)
 else if h.word="else" then (match S with | (ds,F::Z)=>(ds,⟨"else",F.hs++[.list F.ds],[],false⟩::Z) | s=>s)
 else if h.word="if" then (S.1,⟨h.word,hdD r h,[],true⟩::S.2)
 else if h.word∈(["def","while"]:List Str) then (S.1,⟨h.word,hdD r h,[],false⟩::S.2)
 else putP (.tuple (hdD r h)) S
noncomputable def spPutT (K:PySem.W.Frag) (C:Addr):Sp:=fun vs H Q _=>∃ (h pt pB:Addr) (B:Hp) (hd:Hd) (r:Int) (i:Nat) (xs0:List V) (ds0:List PyData) (Z:List Fr),vs=[.ref h,.ref pt,.ref pB]/\HdAt H (.int r) h hd/\PzA K C B H pt pB i xs0 ds0 Z/\i<=100/\Z.length<=5/\pfP hd.word (wdsP (Z.map Fr.f))=.non /\
 ∀ H' xs0' ds0' Z',PzA K C B H' pt pB (i+1) xs0' ds0' Z'->(ds0',Z'.map Fr.f)=stepP (.int r) hd (ds0,Z.map Fr.f)->Q .non H'
noncomputable abbrev N_ZQ:List Str:=["head","tree","blocks","word","block","body"]
theorem sc_ZQ:FnScope N_ZQ ["head","tree","blocks"] (defScope st_ZQ):=⟨rfl,rfl,rfl,by decide +kernel,rfl,by decide +kernel,by decide +kernel⟩
theorem ok_putT (T:All P w K mg AA DD):FnOk P w K mg base CX0 4 AA.ZQ DD.ZQ ["head","tree","blocks"] (spPutT K AA.c_Block):=by
 have GG:=ok_ZR (base:=base) T
 refine T.F_ZQ.ok sc_ZQ (fun vs H Q E h=>?_) (fun cdv A outer s H vs Q E hr h=>?_)
 ·obtain ⟨h,pt,pB,B,hd,r,i,xs0,ds0,Z,rfl,_⟩:=h
  rfl
 ·obtain ⟨h,pt,pB,B,hd,r,i,xs0,ds0,Z,rfl,hA,hP,hi,hw5,hpf,k⟩:=h
  have nd:=sc_ZQ.nd
  have hr3:Room 3 _:=hr
  refine ⟨_,(@pss_cons _ _ _ _ _ (@ps_set _ _ 3 _ _ _ _ nd rfl (Or.inl rfl) (@pe_ix _ _ _ _ _ _ _ (ix_tupK (K:=K) rfl) (pv 0) pe_int (fun _ _=>rfl)) (by rfl) (by first | exact .inl rfl | exact .inr rfl | assumption)) (@pss_one _ _ _ (@ps_if _ _ _ _ _ _ _ _ (@pt_cmpR _ _ _ _ _ _ _ _ op_eq (pv 3) pe_str (nomark _)) (@pss_one _ _ _ (@ps_expr _ _ _ _ (pe_bm0 PySem.F.plainAttrs_list PySem.F.slot_list_pop PySem.F.type_list_pop mt_pop (pv 2)) (by rfl))) (@pss_one _ _ _ (@ps_if _ _ _ _ _ _ _ _ (@pt_cmpR _ _ _ _ _ _ _ _ op_eq (pv 3) pe_str (nomark _)) (@pss_cons _ _ _ _ _ (@ps_set _ _ 4 _ _ _ _ nd rfl (Or.inl rfl) (@pe_ix _ _ _ _ _ _ _ (ix_listK (K:=K) rfl) (pv 2) (pe_un un_neg pe_int) (fun _ _=>rfl)) (by rfl) (by first | exact .inl rfl | exact .inr rfl | assumption)) (@pss_cons _ _ _ _ _ (ps_fld (pv 4) (pv 3) rfl) (@pss_one _ _ _ (ps_fld (pv 4) (pe_fld (pv 4) rfl) rfl)))) (@pss_cons _ _ _ _ _ (@ps_set _ _ 5 _ _ _ _ nd rfl (Or.inl rfl) (pe_ifExp (@pt_cmpR _ _ _ _ _ _ _ _ op_gt (pe_callB call_len_seq rfl T.n_len bt_len (@pa_cons _ _ _ _ _ (pv 2) pa_nil (by rfl))) pe_int (nomark _)) (pe_fld (@pe_ix _ _ _ _ _ _ _ (ix_listK (K:=K) rfl) (pv 2) (pe_un un_neg pe_int) (fun _ _=>rfl)) rfl) (pv 1)) (by rfl) (by first | exact .inl rfl | exact .inr rfl | assumption)) (@pss_one _ _ _ (@ps_expr _ _ _ _ (pe_bm PySem.F.plainAttrs_list PySem.F.slot_list_append PySem.F.type_list_append mt_append (pv 5) (@pa_cons _ _ _ _ _ (pe_call GG hr3 rfl T.m_ZR T.k_ZR T.b_ZR .nil pass0 (@pa_cons _ _ _ _ _ (pv 0) (@pa_cons _ _ _ _ _ (pv 2) pa_nil (by rfl)) (by rfl))) pa_nil (by rfl))) (by rfl))))))))),?_⟩
  obtain ⟨xs,hh,hxl,hrd⟩:=(hA.kept hP.tups).rdv (.int r)
  have hh:H h=some (.tup (.str hd.word::xs)):=(msk_in _ _) _ _ hh
  clear hA
  have at0:atI (V.str hd.word::xs) (0:Int)=some (V.str hd.word):=atI_nat (j:=0) rfl
  refine ⟨_,rfl,h,_,_,_,rfl,rfl,SqT.of hh,at0,?_⟩
  dsimp only [gName]
  unfold stepP at k
  refine ⟨_,rfl,rfl,_,rfl,?_⟩
  rw [dec_str]
  by_cases h1:hd.word="end"
  ·rw [if_pos h1] at k
   rw [decide_eq_true h1]
   refine iteT ?_
   have hne:=pf_end (h1 ▸ hpf)
   cases Z with
   | nil=>exact absurd rfl hne
   | cons F Z =>
    have hbl:=hP.bl
    rw [List.map_cons,List.reverse_cons,List.map_append,List.map_cons,List.map_nil] at hbl
    refine ⟨_,rfl,.inl ⟨rfl,_,SqL.of hbl⟩,pB,_,.ref F.o,rfl,rfl,hbl,by simp,?_⟩
    rw [List.dropLast_concat]
    obtain ⟨xs0',ds0',Z',q1,q2⟩:=hP.pop
    exact k _ xs0' ds0' Z' q1 q2
  rw [if_neg h1] at k
  rw [decide_eq_false h1]
  refine iteF ?_
  refine ⟨_,rfl,rfl,_,rfl,?_⟩
  rw [dec_str]
  by_cases h2:hd.word="else"
  ·rw [if_pos h2] at k
   rw [decide_eq_true h2]
   refine iteT ?_
   obtain ⟨wl,ew⟩:=pf_else (h2 ▸ hpf)
   cases Z with
   | nil=>exact absurd ew (by simp [wdsP])
   | cons F Z =>
    have hz:F.f.z="if":=by
     rw [List.map_cons] at ew
     unfold wdsP at ew
     rw [List.map_cons,List.reverse_cons] at ew
     have:=List.append_inj_right' ew rfl
     simpa using this
    obtain ⟨z1,z2,z3⟩:=hP.z
    obtain ⟨b,hb⟩:=z2.isz hz
    have hc:=(z2.b2 b hb).1
    have hins:=z2.ins
    rw [hz,hc] at hins
    have hbl:=hP.bl
    rw [List.map_cons,List.reverse_cons,List.map_append,List.map_cons,List.map_nil] at hbl
    refine ⟨_,rfl,1,rfl,pB,_,_,_,rfl,rfl,SqL.of hbl,atI_last _ _,?_⟩
    dsimp only [gName]
    refine ⟨_,rfl,_,rfl,F.o,AA.c_Block,F.dx,_,rfl,hins,T.cl_Block,T.na_Block_word,(by show 3<1000;decide),?_⟩
    rw [put_word]
    refine ⟨_,rfl,F.o,AA.c_Block,F.dx,_,_,rfl,upd_same,T.cl_Block,T.na_Block_other,rfl,_,rfl,F.o,AA.c_Block,F.dx,_,rfl,upd_same,T.cl_Block,T.na_Block_body,(by show 3<1000;decide),?_⟩
    rw [put_body,upd_upd]
    refine k _ _ _ _ (hP.alt hb (fun a o q e=>by rw [upd_ne e];exact q) (by rw [upd_same,h2,hc])) rfl
  rw [if_neg h2] at k
  rw [decide_eq_false h2]
  refine iteF ?_
  obtain ⟨htop,hyl⟩:=hP.top
  have hne:=tl_ne hP.nd
  refine cut_sq (fun σ' H'=>H'=H/\σ'=[some (.ref h),some (.ref pt),some (.ref pB),some (.str hd.word),none,some (.ref (tl pt Z))]) (fun R hR=>?_) ?_
  ·refine ⟨_,rfl,pB,_,rfl,.inl (SqL.of hP.bl),_,_,rfl,rfl,_,rfl,?_⟩
   rw [List.length_map,List.length_reverse,List.length_map]
   cases Z with
   | nil=>exact iteF ⟨_,rfl,hR _ _ ⟨rfl,rfl⟩⟩
   | cons F Z =>
    rw [decide_eq_true (show (0:Int)<(((F::Z).length:Nat):Int) by simp)]
    refine iteT ?_
    obtain ⟨z1,z2,z3⟩:=hP.z
    have hbl:=hP.bl
    rw [List.map_cons,List.reverse_cons,List.map_append,List.map_cons,List.map_nil] at hbl
    refine ⟨_,rfl,1,rfl,pB,_,_,_,rfl,rfl,SqL.of hbl,atI_last _ _,F.o,AA.c_Block,F.dx,_,_,rfl,z2.ins,T.cl_Block,T.na_Block_body,rfl,?_⟩
    exact hR _ _ ⟨rfl,rfl⟩
  rintro σ' H' ⟨rfl,rfl⟩
  refine ⟨_,rfl,.inl ⟨rfl,_,SqL.of htop⟩,_,rfl,_,rfl,h,pB,hd.word,xs,(Z.map Fr.o).reverse,rfl,hh,hxl,hP.bl,by simp;omega,?_,?_,?_⟩
  ·intro hz a1 a2 o dx t H1 n1 n2 n3 n4 n12 hbut e1 e2 e3 e4 e5
   rw [if_pos hz] at k
   have e1t:=hbut _ _ htop hne
   refine ⟨tl pt Z,_,_,rfl,rfl,e1t,small1000 (by omega),?_⟩
   have ntl:∀ {b:Addr},H' b=none->b≠tl pt Z:=fun q z=>by rw [z,htop] at q;cases q
   have kp:∀ {b:Addr} {u:HO},H1 b=some u->b≠tl pt Z->upd H1 (tl pt Z) (.lst (tx xs0 Z++[.ref t])) b=some u:=fun q e=>by rw [upd_ne e];exact q
   refine k _ _ _ _ (hP.push (F:=⟨⟨hd.word,hdD (.int r) hd,[],true⟩,o,dx,a1,[],t,.str hd.word::xs,.ref a2,some a2⟩) (fun b u q x y=>kp (hbut _ _ q y) x) upd_same (by rw [List.map_cons,List.reverse_cons];exact kp e4 (Ne.symm hne)) ?_ ?_ rfl rfl (kp e1 (ntl n1)) (kp e5 (ntl n4)) hrd (kp e3 (ntl n3)) ?_ rfl fun _=>⟨a2,rfl⟩) rfl
   ·intro b hb
    simp only [Fr.adr,List.mem_cons,Option.toList_some,List.not_mem_nil,or_false] at hb
    rcases hb with q | q | q
    ·rw [q];exact n3
    ·rw [q];exact n1
    ·rw [q];exact n2
   ·have q1:o≠a1:=fun z=>by rw [z,e1] at e3;cases e3
    have q2:o≠a2:=fun z=>by rw [z,e2] at e3;cases e3
    show [o,a1,a2].Nodup
    simp [q1,q2,n12]
   ·intro b hb
    cases (show some a2=some b from hb)
    exact ⟨rfl,kp e2 (ntl n2)⟩
  ·intro hz hdw a1 o dx t H1 n1 n3 n4 hbut e1 e3 e4 e5
   rw [if_neg hz,if_pos hdw] at k
   have e1t:=hbut _ _ htop hne
   refine ⟨tl pt Z,_,_,rfl,rfl,e1t,small1000 (by omega),?_⟩
   have ntl:∀ {b:Addr},H' b=none->b≠tl pt Z:=fun q z=>by rw [z,htop] at q;cases q
   have kp:∀ {b:Addr} {u:HO},H1 b=some u->b≠tl pt Z->upd H1 (tl pt Z) (.lst (tx xs0 Z++[.ref t])) b=some u:=fun q e=>by rw [upd_ne e];exact q
   refine k _ _ _ _ (hP.push (F:=⟨⟨hd.word,hdD (.int r) hd,[],false⟩,o,dx,a1,[],t,.str hd.word::xs,.non,none⟩) (fun b u q x y=>kp (hbut _ _ q y) x) upd_same (by rw [List.map_cons,List.reverse_cons];exact kp e4 (Ne.symm hne)) ?_ ?_ rfl rfl (kp e1 (ntl n1)) (kp e5 (ntl n4)) hrd (kp e3 (ntl n3)) (fun b hb=>by cases hb) rfl fun q=>absurd q hz) rfl
   ·intro b hb
    simp only [Fr.adr,List.mem_cons,Option.toList_none,List.not_mem_nil,or_false] at hb
    rcases hb with q | q
    ·rw [q];exact n3
    ·rw [q];exact n1
   ·have q1:o≠a1:=fun z=>by rw [z,e1] at e3;cases e3
    show [o,a1].Nodup
    simp [q1]
  ·intro hz hdw H1 s1
   rw [if_neg hz,if_neg hdw] at k
   refine ⟨tl pt Z,_,_,rfl,rfl,s1 _ _ htop,small1000 (by omega),?_⟩
   have hP1:=hP.same s1
   have hm:Same (msk H' (adrs pt pB Z)) (msk (upd H1 (tl pt Z) (.lst (tx xs0 Z++[.ref h]))) (adrs pt pB Z)):=msk_le (fun b hb=>.inl hb) fun b o hb q=>by
    rw [upd_ne fun z=>hb (by rw [z];exact tl_in _ _ _)];exact s1 _ _ q
   obtain ⟨xs0',ds0',Z',q1,q2⟩:=hP1.put (v:=.ref h) (d:=.tuple (hdD (.int r) hd)) (H':=upd H1 (tl pt Z) (.lst (tx xs0 Z++[.ref h]))) (fun b o q e=>by rw [upd_ne e];exact q) upd_same (.tup (hm _ _ (hP.tups _ _ hh)) (hrd.kept hm))
   exact k _ xs0' ds0' Z' q1 q2
end
section
variable {P:Program} {w:World} {K:PySem.W.Frag} {mg:Str->Option Value} {base:Heap} {AA:Adr} {DD:Fds}
noncomputable def rdT:List (List Str)->Nat->List PyData × List PF->Sum (Nat × Str) (List PyData × List PF)
 | [],_,S=>.inr S
 | r::rs,i,S=>if r=[] then rdT rs (i+1) S else match pRow r with
  | none=>.inl (i,"form")
  | some h=>match pfP h.word (wdsP S.2) with
   | .str f=>.inl (i,f)
   | _=>rdT rs (i+1) (stepP (.int ((i:Nat):Int)) h S)
theorem ErrW.same {E:XK} {C:Addr} {x:V} {wd:Str} {H H1:Hp} (h:ErrW E C x wd H) (s:Same H H1):ErrW E C x wd H1:=fun dx H' s' e=>h dx H' (s.trans s') e
noncomputable def RowsAt (H:Hp) (p:Addr) (rows:List (List Str)):Prop:=∃ ls:List Addr,H p=some (.lst (ls.map V.ref))/\ls.length=rows.length/\∀ (j:Nat) (l:Addr) (r:List Str),ls[j]?=some l->rows[j]?=some r->H l=some (.lst (r.map V.str))/\WsOk r/\r.length<=900
noncomputable def spPlainT (K:PySem.W.Frag) (X:Addr):Sp:=fun vs H Q E=>∃ (p:Addr) (rows:List (List Str)),vs=[.ref p]/\RowsAt H p rows/\rows.length<=90 /\
 (∀ ds pt xs H',rdT rows 0 ([],[])=.inr (ds,[])->Same H H'->H pt=none->H' pt=some (.lst xs)->RdHA (msk H' [pt]) xs ds->xs.length<=90->Q (.ref pt) H')/\(∀ ds S,rdT rows 0 ([],[])=.inr (ds,S)->S≠[]->ErrW E X (.int ((rows.length:Nat):Int)) "open" H)/\(∀ i f,rdT rows 0 ([],[])=.inl (i,f)->ErrW E X (.int ((i:Nat):Int)) f H)
theorem pf_cases (z:Str) (ws:List Str):pfP z ws=.non∨∃ f,pfP z ws=.str f:=by
 unfold pfP
 split
 ·exact .inr ⟨_,rfl⟩
 ·split
  ·exact .inr ⟨_,rfl⟩
  ·exact .inl rfl
theorem putP_len (d:PyData) (S:List PyData × List PF):(putP d S).2.length=S.2.length:=by
 obtain ⟨ds,Z⟩:=S
 cases Z<;>rfl
theorem stepP_len {r:PyData} {h:Hd} {S:List PyData × List PF} (hp:pfP h.word (wdsP S.2)=.non) (hl:S.2.length<=4):(stepP r h S).2.length<=4:=by
 have hm:misP h.word (wdsP S.2)=false:=by
  unfold pfP at hp
  cases e:misP h.word (wdsP S.2) with
  | false=>rfl
  | true=>rw [e] at hp;cases hp
 have hlw:(wdsP S.2).length=S.2.length:=by simp [wdsP]
 unfold stepP
 split
 ·obtain ⟨ds,Z⟩:=S
  cases Z with
  | nil=>exact hl
  | cons F Z=>dsimp only;rw [putP_len];exact Nat.le_of_succ_le hl
 ·split
  ·obtain ⟨ds,Z⟩:=S
   cases Z with
   | nil=>exact hl
   | cons F Z=>exact hl
  ·split
   ·rename_i h3
    unfold misP at hm
    rw [h3,if_neg (by decide +kernel),if_pos (by decide +kernel)] at hm
    have:=of_decide_eq_false hm
    show S.2.length+1<=4
    omega
   ·split
    ·rename_i h4
     show S.2.length+1<=4
     rcases List.mem_cons.mp h4 with q | q
     ·unfold misP at hm
      rw [q,if_pos (by decide +kernel)] at hm
      have:=of_decide_eq_false hm
      omega
     ·have q:h.word="while":=by simpa using q
      unfold misP at hm
      rw [q,if_neg (by decide +kernel),if_pos (by decide +kernel)] at hm
      have:=of_decide_eq_false hm
      omega
    ·rw [putP_len];exact hl
theorem pe_fldK {X:Cx} {K:PySem.W.Frag} {e:Expr} {f:Str} {pos:Pos} {ta:TE} (hK:X.K=K) (he:PE X e ta) (hb:attributeBase e f X.env (eval e X.env)=eval e X.env):PE X (.Attribute e f pos) (tFld K ta f):=by
 subst hK;exact pe_fld he hb
theorem ZAt.insAt {C:Addr} {Hm H:Hp} {pt:Addr} {xs0:List V} {ds0:List PyData}:∀ {Z:List Fr} {inn:List V},ZAt K C Hm H pt xs0 ds0 Z inn->∀ F∈Z,H F.o=some (.ins C F.dx (blF F.f.z (.ref F.l) F.c))
 | [],_,_,F,hF=>by cases hF
 | G::Z,_,h,F,hF=>by
  rcases List.mem_cons.mp hF with q | q
  ·rw [q];exact h.2.1.ins
  ·exact ZAt.insAt h.2.2 F q
noncomputable abbrev N_Zy:List Str:=["rows","tree","blocks","at","words","head","what"]
theorem sc_Zy:FnScope N_Zy ["rows"] (defScope st_Zy):=⟨rfl,rfl,rfl,by decide +kernel,rfl,by decide +kernel,by decide +kernel⟩
theorem ok_plainT (T:All P w K mg AA DD):FnOk P w K mg base (CX2 (fun _=>True) P w) 25 AA.Zy DD.Zy ["rows"] (spPlainT K AA.x_NoForm):=by
 have GW:=ok_row (base:=base) T
 have GZ:=ok_fault (base:=base) T
 have GU2:=ok_putT (base:=base) T
 have GI:=ok_xinit (base:=base) T
 refine T.F_Zy.ok2 sc_Zy (fun vs H Q E h=>?_) (fun cdv A outer s H vs Q E hr h=>?_)
 ·obtain ⟨p,rows,rfl,_⟩:=h
  rfl
 ·obtain ⟨p,rows,rfl,⟨ls,hp,hll,hrow⟩,h90,k1,k2,k3⟩:=h
  have nd:=sc_Zy.nd
  have hrW:Room 24 _:=hr
  have hr2:Room 2 _:=hr.mono (by decide)
  have hr4:Room 4 _:=hr.mono (by decide)
  refine ⟨_,(@pss_cons _ _ _ _ _ (@ps_set _ _ 1 _ _ _ _ nd rfl (Or.inl rfl) (@pe_lst _ _ _ _ pa_nil) (by rfl) (by first | exact .inl rfl | exact .inr rfl | assumption)) (@pss_cons _ _ _ _ _ (@ps_set _ _ 2 _ _ _ _ nd rfl (Or.inl rfl) (@pe_lst _ _ _ _ pa_nil) (by rfl) (by first | exact .inl rfl | exact .inr rfl | assumption)) (@pss_cons _ _ _ _ _ (@ps_for _ _ _ _ _ _ _ _ PassesOwn.leaving rfl (pi_enum rfl T.n_enumerate (@pa_cons _ _ _ _ _ (pv 0) pa_nil (by rfl))) (pg_tup rfl (pgs_cons (pg_name (i:=3) nd rfl (Or.inl rfl)) (pgs_cons (pg_name (i:=4) nd rfl (Or.inl rfl)) pgs_nil))) (@pss_cons _ _ _ _ _ (@ps_set _ _ 5 _ _ _ _ nd rfl (Or.inl rfl) (pe_call GW hrW rfl T.m_ZG T.k_ZG T.b_ZG .nil (pass2 fun _ z=>z) (@pa_cons _ _ _ _ _ (pv 4) (@pa_cons _ _ _ _ _ (pv 3) pa_nil (by rfl)) (by rfl))) (by rfl) (by first | exact .inl rfl | exact .inr rfl | assumption)) (@pss_one _ _ _ (@ps_if _ _ _ _ _ _ _ _ (pt_cmp (pc_notN (pv 5))) (@pss_cons _ _ _ _ _ (@ps_set _ _ 6 _ _ _ _ nd rfl (Or.inl rfl) (pe_call GZ hr2 rfl T.m_Zr T.k_Zr T.b_Zr .nil pass0 (@pa_cons _ _ _ _ _ (@pe_ix _ _ _ _ _ _ _ (ix_tupK (K:=K) rfl) (pv 5) pe_int (fun _ _=>rfl)) (@pa_cons _ _ _ _ _ (pe_comp (defScope st_Zy) N_Zy [] [] rfl (by exact ⟨rfl,rfl,by decide +kernel,rfl,by decide +kernel,by decide +kernel,by decide +kernel,rfl,by decide +kernel⟩) rfl rfl (pi_list (pv 2)) (fun _ _ _ _=>pif_nil) (fun _ _ _ _=>(pe_fldK (K:=K) rfl (pv 0) rfl))) pa_nil (by rfl)) (by rfl))) (by rfl) (by first | exact .inl rfl | exact .inr rfl | assumption)) (@pss_cons _ _ _ _ _ (@ps_if _ _ _ _ _ _ _ _ (pt_cmp (pc_notN (pv 6))) (@pss_one _ _ _ (ps_raiseI body_cx (raise2 trivial) rfl rfl T.m_NoForm T.M_NoForm PySem.F.excBase_ValueError GI hr2 T.b_Zw (@pa_cons _ _ _ _ _ (pv 3) (@pa_cons _ _ _ _ _ (pv 6) pa_nil (by rfl)) (by rfl)))) pss_nil) (@pss_one _ _ _ (@ps_expr _ _ _ _ (pe_call GU2 hr4 rfl T.m_ZQ T.k_ZQ T.b_ZQ .nil pass0 (@pa_cons _ _ _ _ _ (pv 5) (@pa_cons _ _ _ _ _ (pv 1) (@pa_cons _ _ _ _ _ (pv 2) pa_nil (by rfl)) (by rfl)) (by rfl))) (by rfl))))) pss_nil))) (by intro _;rfl)) (@pss_cons _ _ _ _ _ (@ps_if _ _ _ _ _ _ _ _ (@pt_cmpR _ _ _ _ _ _ _ _ op_gt (pe_callB call_len_seq rfl T.n_len bt_len (@pa_cons _ _ _ _ _ (pv 2) pa_nil (by rfl))) pe_int (nomark _)) (@pss_one _ _ _ (ps_raiseI body_cx (raise2 trivial) rfl rfl T.m_NoForm T.M_NoForm PySem.F.excBase_ValueError GI hr2 T.b_Zw (@pa_cons _ _ _ _ _ (pe_callB call_len_seq rfl T.n_len bt_len (@pa_cons _ _ _ _ _ (pv 0) pa_nil (by rfl))) (@pa_cons _ _ _ _ _ pe_str pa_nil (by rfl)) (by rfl)))) pss_nil) (@pss_one _ _ _ (@ps_ret _ _ _ _ (pv 1))))))),?_⟩
  refine ⟨Nat.zero_le _,fun pt hpt=>?_⟩
  dsimp only [gName]
  refine ⟨Nat.zero_le _,fun pB hpB=>?_⟩
  dsimp only [gName]
  obtain ⟨hpB0,hne⟩:=new_of hpB
  have s0:Same H (upd (upd H pt (.lst [])) pB (.lst [])):=(same_upd hpt).trans (same_upd hpB)
  have hT0:upd (upd H pt (.lst [])) pB (.lst []) pt=some (.lst []):=by rw [upd_ne (Ne.symm hne)];exact upd_same
  have hB0:upd (upd H pt (.lst [])) pB (.lst []) pB=some (.lst []):=upd_same
  generalize upd (upd H pt (.lst [])) pB (.lst [])=H0 at s0 hT0 hB0 ⊢
  have hP0:PzA K AA.c_Block H H0 pt pB 0 [] [] []:=⟨s0,fun b hb=>by
    simp only [adrs,ops,List.flatMap_nil,List.mem_cons,List.not_mem_nil,or_false] at hb
    rcases hb with q | q
    ·rw [q];exact hpt
    ·rw [q];exact hpB0,by show [pt,pB].Nodup;simp [Ne.symm hne],fun b hb=>by
    simp only [adrs,ops,List.flatMap_nil,List.mem_cons,List.not_mem_nil,or_false] at hb
    rcases hb with q | q
    ·exact ⟨_,by rw [q];exact hT0,fun vs q=>(by cases q)⟩
    ·exact ⟨_,by rw [q];exact hB0,fun vs q=>(by cases q)⟩,⟨hT0,.nil⟩,hB0,Nat.le_refl _,fun F hF=>by cases hF⟩
  refine cut_for (fun σ' H'=>∃ (xs0:List V) (ds0:List PyData) (Z:List Fr) (x3 x4 x5 x6:Option V),PzA K AA.c_Block H H' pt pB rows.length xs0 ds0 Z/\rdT rows 0 ([],[])=.inr (ds0,Z.map Fr.f)/\σ'=[some (.ref p),some (.ref pt),some (.ref pB),x3,x4,x5,x6]) (fun R hR=>?_) ?_
  ·refine ⟨_,rfl,p,_,rfl,SqL.of (s0 _ _ hp),?_⟩
   refine for_enum (K:=K) (a:=p) (xs:=ls.map V.ref) (D:=⟨R,_,R,R⟩) (fun i σ' H'=>i<=rows.length/\∃ (xs0:List V) (ds0:List PyData) (Z:List Fr) (x3 x4 x5 x6:Option V),PzA K AA.c_Block H H' pt pB i xs0 ds0 Z/\Z.length<=4/\rdT rows 0 ([],[])=rdT (rows.drop i) i (ds0,Z.map Fr.f)/\σ'=[some (.ref p),some (.ref pt),some (.ref pB),x3,x4,x5,x6])
    ⟨Nat.zero_le _,[],[],[],none,none,none,none,hP0,by simp,rfl,rfl⟩ (fun i σ' H' _ z=>?_) ?_ ?_
   ·obtain ⟨_,m,ws,bs,_,_,_,_,hP,_⟩:=z
    exact SqL.of (hP.sm _ _ hp)
   ·rintro i x σ' H1 t hx ⟨_,xs0,ds0,Z,x3,x4,x5,x6,hP,hw4,hrd,rfl⟩ ht
    have hi:i<ls.length:=by
     have:=(List.getElem?_eq_some_iff.mp hx).1
     rw [List.length_map] at this;exact this
    have hir:i<rows.length:=by omega
    have ex:x=V.ref ls[i]:=by rw [List.getElem?_map,List.getElem?_eq_getElem hi] at hx;exact (Option.some.inj hx).symm
    subst ex
    obtain ⟨hat,hok,h900⟩:=hrow i ls[i] rows[i] (List.getElem?_eq_getElem hi) (List.getElem?_eq_getElem hir)
    have st:=same_upd (o:=.tup [V.int ((i:Nat):Int),V.ref ls[i]]) ht
    have hP:=hP.same st
    refine ⟨t,_,rfl,SqT.of upd_same,rfl,_,_,rfl,_,_,rfl,rfl,?_⟩
    try dsimp only [gName]
    generalize upd H1 t (.tup [V.int ((i:Nat):Int),V.ref ls[i]])=H2 at hP ⊢
    clear st ht
    rw [List.drop_eq_getElem_cons hir,rdT] at hrd
    refine ⟨_,rfl,_,rfl,ls[i],rows[i],.int ((i:Nat):Int),rfl,hP.sm _ _ hat,hok,h900,fun h0=>?_,fun h0=>⟨fun h t1 H3 hpr s3 hH=>?_,fun hn=>?_⟩⟩
    ·rw [if_pos h0] at hrd
     dsimp only [gName]
     refine ⟨_,rfl,_,rfl,iteF ?_⟩
     exact ⟨hir,xs0,ds0,Z,_,_,_,_,hP.more (Nat.le_succ i),hw4,hrd,rfl⟩
    ·rw [if_neg h0,hpr] at hrd
     dsimp only [gName] at hrd ⊢
     have hP:=hP.same s3
     obtain ⟨xs,hht,hxl,_⟩:=hH.rdv (.int _)
     refine ⟨_,rfl,_,rfl,iteT ?_⟩
     have at0:atI (V.str h.word::xs) (0:Int)=some (V.str h.word):=atI_nat (j:=0) rfl
     refine ⟨_,rfl,t1,_,_,_,rfl,rfl,SqT.of hht,at0,_,rfl,pB,rfl,⟨_,SqL.of hP.bl⟩,?_⟩
     have hlen:(wdsP (Z.map Fr.f)).length=(Z.map Fr.o).reverse.length:=by simp [wdsP]
     have hl4:(wdsP (Z.map Fr.f)).length=Z.length:=by simp [wdsP]
     refine comp_list (K:=K) (a:=pB) (xs:=(Z.map Fr.o).reverse.map V.ref) (fun j ys H'=>H'=H3/\j<=(wdsP (Z.map Fr.f)).length/\ys=((wdsP (Z.map Fr.f)).take j).map V.str) ⟨rfl,Nat.zero_le _,rfl⟩ (fun j ys H' _ z=>by rw [z.1];exact SqL.of hP.bl) ?_ ?_
     ·rintro j y ys H4 hy ⟨rfl,_,rfl⟩
      have hj:j<Z.length:=by
       have:=(List.getElem?_eq_some_iff.mp hy).1
       simpa using this
      have hjw:j<(wdsP (Z.map Fr.f)).length:=by omega
      have hjr:j<Z.reverse.length:=by simpa using hj
      have ey:y=V.ref (Z.reverse[j]).o:=by
       rw [<- List.map_reverse,List.map_map,List.getElem?_map,List.getElem?_eq_getElem hjr] at hy
       exact (Option.some.inj hy).symm
      have ew:(wdsP (Z.map Fr.f))[j]=(Z.reverse[j]).f.z:=by
       have:wdsP (Z.map Fr.f)=Z.reverse.map (fun F=>F.f.z):=by unfold wdsP;rw [List.map_map,List.map_reverse];rfl
       simp only [this,List.getElem_map]
      have ho:=ZAt.insAt hP.z (Z.reverse[j]) (List.mem_reverse.mp (List.getElem_mem hjr))
      rw [<- ew] at ho
      subst ey
      refine tYes_ok ?_
      rw [if_pos rfl]
      refine ⟨_,rfl,_,AA.c_Block,_,_,_,rfl,ho,T.cl_Block,T.na_Block_word,rfl,by rw [List.length_map,List.length_take];exact small1000 (by omega),rfl,hjw,?_⟩
      rw [List.take_succ_eq_append_getElem hjw,List.map_append];rfl
     rintro ys H4 ⟨rfl,_,rfl⟩ pw hpw
     rw [List.length_map,<- hlen,List.take_length]
     have s4:=same_upd (o:=.lst ((wdsP (Z.map Fr.f)).map V.str)) hpw
     refine ⟨h.word,pw,wdsP (Z.map Fr.f),rfl,upd_same,by omega,fun H5 s5=>?_⟩
     have hP:=(hP.same s4).same s5
     have hH:=(hH.kept s4.tups).kept s5.tups
     dsimp only [gName]
     rcases pf_cases h.word (wdsP (Z.map Fr.f)) with e | ⟨f,e⟩
     ·rw [e] at hrd ⊢
      refine ⟨_,rfl,_,rfl,iteF ?_⟩
      refine ⟨_,rfl,_,rfl,_,rfl,t1,pt,pB,H,h,((i:Nat):Int),i,xs0,ds0,Z,rfl,hH,hP,by omega,by omega,e,fun H6 xs0' ds0' Z' hP6 he6=>?_⟩
      refine ⟨hir,xs0',ds0',Z',_,_,_,_,hP6,?_,by rw [he6];exact hrd,rfl⟩
      have:=stepP_len (r:=.int ((i:Nat):Int)) (S:=(ds0,Z.map Fr.f)) e (by simpa using hw4)
      rw [<- he6] at this
      simpa using this
     ·rw [e] at hrd ⊢
      refine ⟨_,rfl,_,rfl,iteT ?_⟩
      exact ⟨_,rfl,_,rfl,(by show 2<=sizeLine;decide),fun e tt he _ _=>raise_NoForm ((k3 i f hrd).same hP.sm) e tt he⟩
    ·rw [if_neg h0,hn] at hrd
     exact (k3 i "form" hrd).same hP.sm
   ·rintro σ' H1 ⟨_,xs0,ds0,Z,x3,x4,x5,x6,hP,hw4,hrd,rfl⟩
    rw [List.length_map,hll] at hP hrd
    rw [List.drop_length,rdT] at hrd
    exact hR _ _ ⟨xs0,ds0,Z,x3,x4,x5,x6,hP,hrd,rfl⟩
  rintro σ' H1 ⟨xs0,ds0,Z,x3,x4,x5,x6,hP,hrd,rfl⟩
  refine ⟨_,rfl,pB,_,rfl,.inl (SqL.of hP.bl),_,_,rfl,rfl,_,rfl,?_⟩
  rw [List.length_map,List.length_reverse,List.length_map]
  cases Z with
  | nil =>
   refine iteF ?_
   refine ⟨_,rfl,k1 ds0 pt xs0 _ hrd hP.sm hpt ?_ (hP.z.2.kept (msk_le (fun b hb=>.inl (by simp [adrs] at hb ⊢;exact .inl hb)) fun b o _ q=>q)) (Nat.le_trans hP.n0 h90)⟩
   have:=hP.z.1
   rw [List.append_nil] at this
   exact this
  | cons F Z =>
   rw [decide_eq_true (show (0:Int)<(((F::Z).length:Nat):Int) by simp)]
   refine iteT ?_
   refine ⟨_,rfl,p,_,rfl,.inl (SqL.of (hP.sm _ _ hp)),(by show 2<=sizeLine;decide),fun e tt he _ _=>?_⟩
   rw [List.length_map,hll]
   exact raise_NoForm ((k2 _ _ hrd (by simp)).same hP.sm) e tt he
end
section
variable {P:Program} {w:World} {K:PySem.W.Frag} {mg:Str->Option Value} {base:Heap} {AA:Adr} {DD:Fds}
theorem ps_cons {H:Hp} {sh:Bool} {vs:List V} {p:Part} {ps:List Part} (h:PsAt H sh vs (p::ps)):∃ v r,vs=v::r/\PAt H sh v p/\PsAt H sh r ps:=by
 cases h with | cons a b=>exact ⟨_,_,rfl,a,b⟩
theorem ps_nil {H:Hp} {sh:Bool} {vs:List V} (h:PsAt H sh vs []):vs=[]:=by cases h;rfl
theorem pa_s {H:Hp} {sh:Bool} {v:V} {z:Str} (h:PAt H sh v (.s z)):v=.str z:=by cases h;rfl
theorem pa_i {H:Hp} {sh:Bool} {v:V} {n:Nat} (h:PAt H sh v (.i n)):v=.int ((n:Nat):Int):=by cases h;rfl
theorem pa_e {H:Hp} {sh:Bool} {v:V} {x:Ex} (h:PAt H sh v (.e x)):ExAt H v x:=by cases h with | e a=>exact a
theorem pa_b {H:Hp} {sh:Bool} {v:V} {ts:List Tr} (h:PAt H sh v (.b ts)):∃ l xs,v=.ref l/\H l=some (.lst xs)/\LAt H sh xs ts:=by cases h with | b l a=>exact ⟨_,_,rfl,l,a⟩
theorem pa_p {H:Hp} {sh:Bool} {v:V} {ps:List (Str × Str)} (h:PAt H sh v (.p ps)):PrsAt H v ps:=by cases h with | p a=>exact a
theorem s_inv {H:Hp} {sh:Bool} {v:V} {t:Tr} (h:SAt H sh v t):∃ a vs,v=.ref a/\H a=some (.tup vs)/\PsAt H sh vs t.parts:=by cases h with | mk a b=>exact ⟨_,_,rfl,a,b⟩
theorem ps_two {H:Hp} {sh:Bool} {vs:List V} {z:Str} {n:Nat} {ps:List Part} (h:PsAt H sh vs (.s z::.i n::ps)):∃ r,vs=.str z::.int ((n:Nat):Int)::r/\PsAt H sh r ps:=by
 obtain ⟨a,r,e,h1,h⟩:=ps_cons h
 obtain ⟨b,r',e',h2,h⟩:=ps_cons h
 exact ⟨r',by rw [e,e',pa_s h1,pa_i h2],h⟩
theorem ps_ex {H:Hp} {sh:Bool} {vs:List V} {x:Ex} (h:PsAt H sh vs [.e x]):∃ v,vs=[v]/\ExAt H v x:=by
 obtain ⟨a,r,e,h1,h⟩:=ps_cons h
 exact ⟨a,by rw [e,ps_nil h],pa_e h1⟩
theorem s_set {H:Hp} {sh:Bool} {v:V} {r:Nat} {z:Str} {e:Ex} (h:SAt H sh v (.set r z e)):∃ t ve,v=.ref t/\H t=some (.tup [.str "set",.int ((r:Nat):Int),.str z,ve])/\ExAt H ve e:=by
 obtain ⟨t,vs,e1,ht,h⟩:=s_inv h
 obtain ⟨q,e2,h⟩:=ps_two h
 obtain ⟨a,q',e3,h1,h⟩:=ps_cons h
 obtain ⟨ve,e4,hx⟩:=ps_ex h
 exact ⟨t,ve,e1,by rw [ht,e2,e3,pa_s h1,e4],hx⟩
theorem s_tell {H:Hp} {sh:Bool} {v:V} {r:Nat} {e:Ex} (h:SAt H sh v (.tell r e)):∃ t ve,v=.ref t/\H t=some (.tup [.str "tell",.int ((r:Nat):Int),ve])/\ExAt H ve e:=by
 obtain ⟨t,vs,e1,ht,h⟩:=s_inv h
 obtain ⟨q,e2,h⟩:=ps_two h
 obtain ⟨ve,e4,hx⟩:=ps_ex h
 exact ⟨t,ve,e1,by rw [ht,e2,e4],hx⟩
theorem s_give {H:Hp} {sh:Bool} {v:V} {r:Nat} {e:Ex} (h:SAt H sh v (.give r e)):∃ t ve,v=.ref t/\H t=some (.tup [.str "give",.int ((r:Nat):Int),ve])/\ExAt H ve e:=by
 obtain ⟨t,vs,e1,ht,h⟩:=s_inv h
 obtain ⟨q,e2,h⟩:=ps_two h
 obtain ⟨ve,e4,hx⟩:=ps_ex h
 exact ⟨t,ve,e1,by rw [ht,e2,e4],hx⟩
theorem s_iff {H:Hp} {sh:Bool} {v:V} {r:Nat} {e:Ex} {b o:List Tr} (h:SAt H sh v (.iff r e b o)):∃ t ve lb xb lo xo,v=.ref t/\H t=some (.tup [.str "if",.int ((r:Nat):Int),ve,.ref lb,.ref lo])/\ExAt H ve e/\H lb=some (.lst xb)/\LAt H sh xb b/\H lo=some (.lst xo)/\LAt H sh xo o:=by
 obtain ⟨t,vs,e1,ht,h⟩:=s_inv h
 obtain ⟨q,e2,h⟩:=ps_two h
 obtain ⟨ve,q',e3,h1,h⟩:=ps_cons h
 obtain ⟨vb,q2,e4,h2,h⟩:=ps_cons h
 obtain ⟨vo,q3,e5,h3,h⟩:=ps_cons h
 obtain ⟨lb,xb,f1,f2,f3⟩:=pa_b h2
 obtain ⟨lo,xo,g1,g2,g3⟩:=pa_b h3
 exact ⟨t,ve,lb,xb,lo,xo,e1,by rw [ht,e2,e3,e4,e5,ps_nil h,f1,g1],pa_e h1,f2,f3,g2,g3⟩
theorem s_whl {H:Hp} {sh:Bool} {v:V} {r:Nat} {e:Ex} {b:List Tr} (h:SAt H sh v (.whl r e b)):∃ t ve lb xb,v=.ref t/\H t=some (.tup [.str "while",.int ((r:Nat):Int),ve,.ref lb])/\ExAt H ve e/\H lb=some (.lst xb)/\LAt H sh xb b:=by
 obtain ⟨t,vs,e1,ht,h⟩:=s_inv h
 obtain ⟨q,e2,h⟩:=ps_two h
 obtain ⟨ve,q',e3,h1,h⟩:=ps_cons h
 obtain ⟨vb,q2,e4,h2,h⟩:=ps_cons h
 obtain ⟨lb,xb,f1,f2,f3⟩:=pa_b h2
 exact ⟨t,ve,lb,xb,e1,by rw [ht,e2,e3,e4,ps_nil h,f1],pa_e h1,f2,f3⟩
theorem s_df {H:Hp} {sh:Bool} {v:V} {r:Nat} {n k:Str} {ps:List (Str × Str)} {b:List Tr} (h:SAt H sh v (.df r n k ps b)):∃ t vp lb xb,v=.ref t/\H t=some (.tup [.str "def",.int ((r:Nat):Int),.str n,.str k,vp,.ref lb])/\PrsAt H vp ps/\H lb=some (.lst xb)/\LAt H sh xb b:=by
 obtain ⟨t,vs,e1,ht,h⟩:=s_inv h
 obtain ⟨q,e2,h⟩:=ps_two h
 obtain ⟨a,q1,e3,h1,h⟩:=ps_cons h
 obtain ⟨c,q2,e4,h2,h⟩:=ps_cons h
 obtain ⟨vp,q3,e5,h3,h⟩:=ps_cons h
 obtain ⟨vb,q4,e6,h4,h⟩:=ps_cons h
 obtain ⟨lb,xb,f1,f2,f3⟩:=pa_b h4
 exact ⟨t,vp,lb,xb,e1,by rw [ht,e2,e3,e4,e5,e6,ps_nil h,f1,pa_s h1,pa_s h2],pa_p h3,f2,f3⟩
theorem s_kd {H:Hp} {sh:Bool} {v:V} {r:Nat} {n:Str} {ps:List (Str × Str)} (h:SAt H sh v (.kd r n ps)):∃ t vp,v=.ref t/\H t=some (.tup [.str "kind",.int ((r:Nat):Int),.str n,vp])/\PrsAt H vp ps:=by
 obtain ⟨t,vs,e1,ht,h⟩:=s_inv h
 obtain ⟨q,e2,h⟩:=ps_two h
 obtain ⟨a,q1,e3,h1,h⟩:=ps_cons h
 obtain ⟨vp,q3,e5,h3,h⟩:=ps_cons h
 exact ⟨t,vp,e1,by rw [ht,e2,e3,e5,ps_nil h,pa_s h1],pa_p h3⟩
theorem iteFb {c:Bool} {a b:Prop} (h:c=false) (k:b):if c=true then a else b:=by rw [h];exact k
theorem iteTb {c:Bool} {a b:Prop} (h:c=true) (k:a):if c=true then a else b:=by rw [h];exact k
noncomputable def leafs:List Str:=["num","truth","name"]
noncomputable def uses:List Str:=["do","new"]
theorem ops_not:∀ z∈ops7,z∉leafs/\z∉uses/\z≠"of"/\z≠"name"/\z≠"do"/\z≠"new":=by decide +kernel
theorem not_not:("not":Str)∉leafs/\("not":Str)∉uses/\("not":Str)≠"of"/\("not":Str)≠"name"/\("not":Str)≠"do"/\("not":Str)≠"new":=by decide +kernel
theorem use_not:∀ z∈uses,z∉leafs/\z≠"of"/\z≠"name":=by decide +kernel
noncomputable def hdW:Ex->Str
 | .num _=>"num"
 | .truth _=>"truth"
 | .name _=>"name"
 | .not _=>"not"
 | .op w _ _=>w
 | .of _ _=>"of"
 | .many w _ _=>w
theorem ex_head3 {H:Hp} {v:V} {e:Ex} (h:ExAt H v e) (hp:e.top):∃ (t:Addr) (ys:List V),v=.ref t/\H t=some (.tup (.str (hdW e)::ys)) /\
  ((hdW e∈leafs/\prtX e=[])∨(hdW e∈uses/\∃ n l vs,ys=[.str n,.ref l]/\H l=some (.tup vs)/\ExsAt H vs (prtX e))∨(hdW e="of"/\∃ f ve a,ys=[.str f,ve]/\ExAt H ve a/\prtX e=[a]) ∨
  ((hdW e∉leafs/\hdW e∉uses/\hdW e≠"of"/\hdW e≠"name"/\hdW e≠"do"/\hdW e≠"new")/\ExsAt H ys (prtX e))):=by
 cases h with
 | num h=>exact ⟨_,_,rfl,h,.inl ⟨(by show ("num":Str)∈leafs;decide),rfl⟩⟩
 | truth h=>exact ⟨_,_,rfl,h,.inl ⟨(by show ("truth":Str)∈leafs;decide),rfl⟩⟩
 | name h=>exact ⟨_,_,rfl,h,.inl ⟨(by show ("name":Str)∈leafs;decide),rfl⟩⟩
 | not h a=>exact ⟨_,_,rfl,h,.inr (.inr (.inr ⟨not_not,.cons a .nil⟩))⟩
 | op h a b=>exact ⟨_,_,rfl,h,.inr (.inr (.inr ⟨ops_not _ hp,.cons a (.cons b .nil)⟩))⟩
 | of h a=>exact ⟨_,_,rfl,h,.inr (.inr (.inl ⟨rfl,_,_,_,rfl,a,rfl⟩))⟩
 | @many t l w n vs es h hl a =>
  refine ⟨_,_,rfl,h,.inr (.inl ⟨?_,_,_,_,rfl,hl,a⟩)⟩
  rcases (show w="do"∨w="new" from hp) with rfl | rfl
  ·show ("do":Str)∈uses
   decide
  ·show ("new":Str)∈uses
   decide
theorem cut_tail (a:V) (ys:List V):cutV (a::ys) (some 1) none=ys:=by
 unfold cutV
 have h1:HT.sIx (a::ys).length 0 (some 1)=1:=by simp [HT.sIx]
 have h2:HT.sIx (a::ys).length (a::ys).length none=ys.length+1:=by simp [HT.sIx]
 rw [h1,h2]
 simp
theorem inV_strsB (z:Str) (l:List Str):inV (.str z) (l.map V.str)=decide (z∈l):=by
 induction l with
 | nil=>rfl
 | cons a r ih =>
  show ((a == z)||inV (.str z) (r.map V.str))=_
  rw [ih]
  by_cases h:a=z
  ·subst h;simp
  ·have:¬ z=a:=fun e=>h e.symm
   simp [h,this]
theorem in_strsB {z:Str} {zs:List Str} {b:Bool} (h:decide (z∈zs)=b):(if false=true then !inV (V.str z) (zs.map V.str) else inV (V.str z) (zs.map V.str))=b:=by
 rw [<- h]
 exact inV_strsB _ _
noncomputable def spEI:Sp:=fun vs H Q _=>∃ (v:V) (e:Ex),vs=[v]/\ExAt H v e/\e.top/\∀ t ys H',Same H H'->H' t=some (.tup ys)->ExsAt H' ys (prtX e)->Q (.ref t) H'
noncomputable abbrev N_ZI:List Str:=["e"]
theorem sc_ZI:FnScope N_ZI ["e"] (defScope st_ZI):=⟨rfl,rfl,rfl,by decide +kernel,rfl,by decide +kernel,by decide +kernel⟩
theorem ok_ei (T:All P w K mg AA DD):FnOk P w K mg base CX0 1 AA.ZI DD.ZI ["e"] spEI:=by
 refine T.F_ZI.ok sc_ZI (fun vs H Q E h=>?_) (fun cdv A outer s H vs Q E hr h=>?_)
 ·obtain ⟨v,e,rfl,_⟩:=h
  rfl
 ·obtain ⟨v,e,rfl,hE,hpl,k⟩:=h
  have nd:=sc_ZI.nd
  obtain ⟨t,ys,ev,ht,hc⟩:=ex_head3 hE hpl
  subst ev
  refine ⟨_,(@pss_cons _ _ _ _ _ (@ps_if _ _ _ _ _ _ _ _ (@pt_cmpR _ _ _ _ _ _ _ _ (op_in_seqK (K:=K) rfl) (@pe_ix _ _ _ _ _ _ _ (ix_tupK (K:=K) rfl) (pv 0) pe_int (fun _ _=>rfl)) (@pe_tup _ _ _ _ _ (@pa_cons _ _ _ _ _ pe_str (@pa_cons _ _ _ _ _ pe_str (@pa_cons _ _ _ _ _ pe_str pa_nil (by rfl)) (by rfl)) (by rfl))) rfl) (@pss_one _ _ _ (@ps_ret _ _ _ _ (@pe_tup _ _ _ _ _ pa_nil))) pss_nil) (@pss_cons _ _ _ _ _ (@ps_if _ _ _ _ _ _ _ _ (@pt_cmpR _ _ _ _ _ _ _ _ (op_in_seqK (K:=K) rfl) (@pe_ix _ _ _ _ _ _ _ (ix_tupK (K:=K) rfl) (pv 0) pe_int (fun _ _=>rfl)) (@pe_tup _ _ _ _ _ (@pa_cons _ _ _ _ _ pe_str (@pa_cons _ _ _ _ _ pe_str pa_nil (by rfl)) (by rfl))) rfl) (@pss_one _ _ _ (@ps_ret _ _ _ _ (@pe_ix _ _ _ _ _ _ _ (ix_tupK (K:=K) rfl) (pv 0) pe_int (fun _ _=>rfl)))) pss_nil) (@pss_cons _ _ _ _ _ (@ps_if _ _ _ _ _ _ _ _ (@pt_cmpR _ _ _ _ _ _ _ _ op_eq (@pe_ix _ _ _ _ _ _ _ (ix_tupK (K:=K) rfl) (pv 0) pe_int (fun _ _=>rfl)) pe_str (nomark _)) (@pss_one _ _ _ (@ps_ret _ _ _ _ (@pe_tup _ _ _ _ _ (@pa_cons _ _ _ _ _ (@pe_ix _ _ _ _ _ _ _ (ix_tupK (K:=K) rfl) (pv 0) pe_int (fun _ _=>rfl)) pa_nil (by rfl))))) pss_nil) (@pss_one _ _ _ (@ps_ret _ _ _ _ (pe_slice sl_tup (pv 0) (po_some pe_int) po_none)))))),?_⟩
  refine ⟨_,rfl,t,_,_,_,rfl,rfl,SqT.of ht,atI_nat (j:=0) rfl,(by show 3<=sizeLine;decide),fun pt hpt=>⟨pt,leafs.map V.str,rfl,.inr (SqT.of upd_same),rfl,rfl,_,rfl,?_⟩⟩
  change if _=true then _ else _
  generalize hH1:upd H pt _=H1
  have s1:Same H H1:=by rw [<- hH1];exact same_upd hpt
  have ht1:=s1 _ _ ht
  rcases hc with ⟨hz,hk⟩ | hc
  ·rw [in_strsB (decide_eq_true hz)]
   refine iteT ?_
   refine ⟨(by show 0<=sizeLine;decide),fun p hp=>?_⟩
   exact k p _ _ (s1.trans (same_upd hp)) upd_same (by rw [hk];exact .nil)
  have n1:hdW e∉leafs:=by
   rcases hc with ⟨h,_⟩ | ⟨h,_⟩ | ⟨h,_⟩
   ·exact (use_not _ h).1
   ·rw [h];decide
   ·exact h.1
  rw [in_strsB (decide_eq_false n1)]
  refine iteF ?_
  refine ⟨_,rfl,t,_,_,_,rfl,rfl,SqT.of ht1,atI_nat (j:=0) rfl,(by show 2<=sizeLine;decide),fun pu hpu=>⟨pu,uses.map V.str,rfl,.inr (SqT.of upd_same),rfl,rfl,_,rfl,?_⟩⟩
  change if _=true then _ else _
  generalize hH2:upd H1 pu _=H2
  have s2:Same H1 H2:=by rw [<- hH2];exact same_upd hpu
  have s12:=s1.trans s2
  have ht2:=s2 _ _ ht1
  rcases hc with ⟨hz,n,l,vs,rfl,hl,hvs⟩ | ⟨hz,f,ve,a,rfl,ha,hpr⟩ | ⟨⟨_,n2,n3,_⟩,hk⟩
  ·rw [in_strsB (decide_eq_true hz)]
   refine iteT ?_
   exact ⟨_,rfl,t,_,_,_,rfl,rfl,SqT.of ht2,atI_nat (j:=2) rfl,k l vs _ s12 (s12 _ _ hl) (hvs.kept s12.ls.1)⟩
  ·rw [in_strsB (decide_eq_false (by rw [hz];decide))]
   refine iteF ?_
   refine ⟨_,rfl,t,_,_,_,rfl,rfl,SqT.of ht2,atI_nat (j:=0) rfl,rfl,_,rfl,?_⟩
   refine iteTb (decide_eq_true (by rw [hz])) ?_
   refine ⟨_,rfl,t,_,_,_,rfl,rfl,SqT.of ht2,atI_nat (j:=2) rfl,(by show 1<=sizeLine;decide),fun p hp=>?_⟩
   have s3:=s12.trans (same_upd (o:=.tup [ve]) hp)
   exact k p [ve] _ s3 upd_same (by rw [hpr];exact .cons (ha.kept s3.ls.1) .nil)
  ·rw [in_strsB (decide_eq_false n2)]
   refine iteF ?_
   refine ⟨_,rfl,t,_,_,_,rfl,rfl,SqT.of ht2,atI_nat (j:=0) rfl,rfl,_,rfl,?_⟩
   refine iteFb (decide_eq_false fun q=>n3 (by injection q)) ?_
   refine ⟨_,rfl,_,rfl,t,_,rfl,SqT.of ht2,?_,fun p hp=>?_⟩
   ·rintro ⟨q,_⟩
    simp [HT.sIx] at q
   rw [cut_tail]
   have s3:=s12.trans (same_upd (o:=.tup ys) hp)
   exact k p _ _ s3 upd_same (hk.kept s3.ls.1)
noncomputable def _root_.Mm.Tr.kw:Tr->Str
 | .set _ _ _=>"set"
 | .tell _ _=>"tell"
 | .iff _ _ _ _=>"if"
 | .whl _ _ _=>"while"
 | .give _ _=>"give"
 | .df _ _ _ _ _=>"def"
 | .kd _ _ _=>"kind"
theorem st_head {H:Hp} {sh:Bool} {vs:List V} {t:Tr} (h:PsAt H sh vs t.parts):∃ (r:List V),vs=.str t.kw::.int ((t.row:Nat):Int)::r:=by
 have g:∃ ps,t.parts=.s t.kw::.i t.row::ps:=by cases t<;>exact ⟨_,rfl⟩
 obtain ⟨ps,e⟩:=g
 rw [e] at h
 obtain ⟨r,e2,_⟩:=ps_two h
 exact ⟨r,e2⟩
noncomputable def spEO:Sp:=fun vs H Q _=>∃ (v:V) (t:Tr) (e:Ex),vs=[v]/\SAt H false v t/\t.ex3=some e/\∀ x,ExAt H x e->Q x H
noncomputable abbrev N_ZO:List Str:=["one"]
theorem sc_ZO:FnScope N_ZO ["one"] (defScope st_ZO):=⟨rfl,rfl,rfl,by decide +kernel,rfl,by decide +kernel,by decide +kernel⟩
theorem ok_eo (T:All P w K mg AA DD):FnOk P w K mg base CX0 1 AA.ZO DD.ZO ["one"] spEO:=by
 refine T.F_ZO.ok sc_ZO (fun vs H Q E h=>?_) (fun cdv A outer s H vs Q E hr h=>?_)
 ·obtain ⟨v,t,e0,rfl,_⟩:=h
  rfl
 ·obtain ⟨v,t,e0,rfl,hS,hx0,k⟩:=h
  have nd:=sc_ZO.nd
  obtain ⟨t0,vs,j,x,ev,ht,h0,hj,hx,hb⟩:∃ t0 vs j x,v=.ref t0/\H t0=some (.tup vs)/\vs[0]?=some (.str t.kw)/\vs[j]?=some x/\ExAt H x e0/\((t.kw="set"/\j=3)∨(t.kw≠"set"/\j=2)):=by
   cases t with
   | set r n e=>cases hx0;obtain ⟨t0,ve,e1,ht,hx⟩:=s_set hS;exact ⟨t0,_,3,ve,e1,ht,rfl,rfl,hx,.inl ⟨rfl,rfl⟩⟩
   | tell r e=>cases hx0;obtain ⟨t0,ve,e1,ht,hx⟩:=s_tell hS;exact ⟨t0,_,2,ve,e1,ht,rfl,rfl,hx,.inr ⟨by show ("tell":Str)≠"set";decide,rfl⟩⟩
   | iff r e b o=>cases hx0;obtain ⟨t0,ve,_,_,_,_,e1,ht,hx,_⟩:=s_iff hS;exact ⟨t0,_,2,ve,e1,ht,rfl,rfl,hx,.inr ⟨by show ("if":Str)≠"set";decide,rfl⟩⟩
   | whl r e b=>cases hx0;obtain ⟨t0,ve,_,_,e1,ht,hx,_⟩:=s_whl hS;exact ⟨t0,_,2,ve,e1,ht,rfl,rfl,hx,.inr ⟨by show ("while":Str)≠"set";decide,rfl⟩⟩
   | give r e=>cases hx0;obtain ⟨t0,ve,e1,ht,hx⟩:=s_give hS;exact ⟨t0,_,2,ve,e1,ht,rfl,rfl,hx,.inr ⟨by show ("give":Str)≠"set";decide,rfl⟩⟩
   | df r n k ps b=>cases hx0
   | kd r n ps=>cases hx0
  subst ev
  refine ⟨_,(@pss_one _ _ _ (@ps_ret _ _ _ _ (pe_ifExp (@pt_cmpR _ _ _ _ _ _ _ _ op_eq (@pe_ix _ _ _ _ _ _ _ (ix_tupK (K:=K) rfl) (pv 0) pe_int (fun _ _=>rfl)) pe_str (nomark _)) (@pe_ix _ _ _ _ _ _ _ (ix_tupK (K:=K) rfl) (pv 0) pe_int (fun _ _=>rfl)) (@pe_ix _ _ _ _ _ _ _ (ix_tupK (K:=K) rfl) (pv 0) pe_int (fun _ _=>rfl))))),?_⟩
  refine ⟨_,rfl,t0,_,_,_,rfl,rfl,SqT.of ht,atI_nat (j:=0) h0,rfl,_,rfl,?_⟩
  rcases hb with ⟨hw,e⟩ | ⟨hw,e⟩<;>subst e
  ·exact iteTb (decide_eq_true (by rw [hw])) ⟨_,rfl,t0,_,_,_,rfl,rfl,SqT.of ht,atI_nat (j:=3) hj,k _ hx⟩
  ·exact iteFb (decide_eq_false fun z=>hw (by injection z)) ⟨_,rfl,t0,_,_,_,rfl,rfl,SqT.of ht,atI_nat (j:=2) hj,k _ hx⟩
noncomputable def spTT:Sp:=fun vs H Q _=>∃ b:Bool,vs=[.bl b]/\Q (yn b) H
noncomputable abbrev N_ZA:List Str:=["so"]
theorem sc_ZA:FnScope N_ZA ["so"] (defScope st_ZA):=⟨rfl,rfl,rfl,by decide +kernel,rfl,by decide +kernel,by decide +kernel⟩
theorem ok_tt (T:All P w K mg AA DD):FnOk P w K mg base CX0 1 AA.ZA DD.ZA ["so"] spTT:=by
 refine T.F_ZA.ok sc_ZA (fun vs H Q E h=>?_) (fun cdv A outer s H vs Q E hr h=>?_)
 ·obtain ⟨b,rfl,_⟩:=h
  rfl
 ·obtain ⟨b,rfl,k⟩:=h
  have nd:=sc_ZA.nd
  refine ⟨_,(@pss_one _ _ _ (@ps_ret _ _ _ _ (pe_ifExp (pt_val (pv 0)) pe_str pe_str))),?_⟩
  refine ⟨_,rfl,b,rfl,?_⟩
  cases b
  ·exact iteF k
  ·exact iteT k
theorem sk {wd k:Str} (h:wd≠k):decide (V.str wd=V.str k)=false:=decide_eq_false fun z=>h (by injection z)
noncomputable def spRk:Sp:=fun vs H Q _=>∃ (l:Addr) (wd:Str) (v:V),vs=[.str wd,.ref l]/\((∃ z,H l=some (.lst [.str z])/\wd="not"/\v=yn (decide (z="no")))∨∃ x y,H l=some (.lst [x,y])/\PlV x/\reckV wd x y=some v)/\Q v H
theorem dec_strV {a b:Str}:decide (V.str a=V.str b)=decide (a=b):=by
 by_cases h:a=b
 ·rw [decide_eq_true h,decide_eq_true (by rw [h])]
 ·rw [decide_eq_false h,sk h]
theorem dec_int' {a b:Int}:decide (V.int a=V.int b)=decide (a=b):=by
 by_cases h:a=b
 ·rw [decide_eq_true h,decide_eq_true (by rw [h])]
 ·rw [decide_eq_false h,decide_eq_false fun z=>h (by injection z)]
noncomputable abbrev N_ZJ:List Str:=["word","values","left","right"]
theorem sc_ZJ:FnScope N_ZJ ["word","values"] (defScope st_ZJ):=⟨rfl,rfl,rfl,by decide +kernel,rfl,by decide +kernel,by decide +kernel⟩
theorem ok_rk (T:All P w K mg AA DD):FnOk P w K mg base CX0 2 AA.ZJ DD.ZJ ["word","values"] spRk:=by
 have GTT:=ok_tt (base:=base) T
 obtain ⟨tR,hROUND⟩:=T.v_ROUND
 refine T.F_ZJ.ok sc_ZJ (fun vs H Q E h=>?_) (fun cdv A outer s H vs Q E hr h=>?_)
 ·obtain ⟨l,wd,v,rfl,_⟩:=h
  rfl
 ·obtain ⟨l,wd,v,rfl,hc,k⟩:=h
  have nd:=sc_ZJ.nd
  have hr1:Room 1 _:=hr
  refine ⟨_,(@pss_cons _ _ _ _ _ (@ps_set _ _ 2 _ _ _ _ nd rfl (Or.inl rfl) (@pe_ix _ _ _ _ _ _ _ (ix_listK (K:=K) rfl) (pv 1) pe_int (fun _ _=>rfl)) (by rfl) (by first | exact .inl rfl | exact .inr rfl | assumption)) (@pss_cons _ _ _ _ _ (@ps_set _ _ 3 _ _ _ _ nd rfl (Or.inl rfl) (@pe_ix _ _ _ _ _ _ _ (ix_listK (K:=K) rfl) (pv 1) (pe_un un_neg pe_int) (fun _ _=>rfl)) (by rfl) (by first | exact .inl rfl | exact .inr rfl | assumption)) (@pss_cons _ _ _ _ _ (@ps_if _ _ _ _ _ _ _ _ (@pt_cmpR _ _ _ _ _ _ _ _ op_eq (pv 0) pe_str (nomark _)) (@pss_one _ _ _ (@ps_ret _ _ _ _ (@pe_op _ _ _ _ _ _ _ _ op_mod (@pe_op _ _ _ _ _ _ _ _ op_add (pv 2) (pv 3)) (pe_glob (v:=.int 1000000000000000000) rfl hROUND ⟨_,rfl⟩)))) pss_nil) (@pss_cons _ _ _ _ _ (@ps_if _ _ _ _ _ _ _ _ (@pt_cmpR _ _ _ _ _ _ _ _ op_eq (pv 0) pe_str (nomark _)) (@pss_one _ _ _ (@ps_ret _ _ _ _ (@pe_op _ _ _ _ _ _ _ _ op_mod (@pe_op _ _ _ _ _ _ _ _ op_sub (pv 2) (pv 3)) (pe_glob (v:=.int 1000000000000000000) rfl hROUND ⟨_,rfl⟩)))) pss_nil) (@pss_cons _ _ _ _ _ (@ps_if _ _ _ _ _ _ _ _ (@pt_cmpR _ _ _ _ _ _ _ _ op_eq (pv 0) pe_str (nomark _)) (@pss_one _ _ _ (@ps_ret _ _ _ _ (@pe_op _ _ _ _ _ _ _ _ op_mod (@pe_op _ _ _ _ _ _ _ _ op_mul (pv 2) (pv 3)) (pe_glob (v:=.int 1000000000000000000) rfl hROUND ⟨_,rfl⟩)))) pss_nil) (@pss_cons _ _ _ _ _ (@ps_if _ _ _ _ _ _ _ _ (@pt_cmpR _ _ _ _ _ _ _ _ op_eq (pv 0) pe_str (nomark _)) (@pss_one _ _ _ (@ps_ret _ _ _ _ (pe_call GTT hr1 rfl T.m_ZA T.k_ZA T.b_ZA .nil pass0 (@pa_cons _ _ _ _ _ (@pe_cmpR _ _ _ _ _ _ _ _ op_lt (pv 2) (pv 3) (nomark _)) pa_nil (by rfl))))) pss_nil) (@pss_cons _ _ _ _ _ (@ps_if _ _ _ _ _ _ _ _ (@pt_cmpR _ _ _ _ _ _ _ _ op_eq (pv 0) pe_str (nomark _)) (@pss_one _ _ _ (@ps_ret _ _ _ _ (pe_call GTT hr1 rfl T.m_ZA T.k_ZA T.b_ZA .nil pass0 (@pa_cons _ _ _ _ _ (@pe_cmpR _ _ _ _ _ _ _ _ op_eq (pv 2) (pv 3) (nomark _)) pa_nil (by rfl))))) pss_nil) (@pss_cons _ _ _ _ _ (@ps_if _ _ _ _ _ _ _ _ (@pt_cmpR _ _ _ _ _ _ _ _ op_eq (pv 0) pe_str (nomark _)) (@pss_one _ _ _ (@ps_ret _ _ _ _ (pe_call GTT hr1 rfl T.m_ZA T.k_ZA T.b_ZA .nil pass0 (@pa_cons _ _ _ _ _ (pe_and (@pe_cmpR _ _ _ _ _ _ _ _ op_eq (pv 2) pe_str (nomark _)) (pe_one (@pe_cmpR _ _ _ _ _ _ _ _ op_eq (pv 3) pe_str (nomark _)))) pa_nil (by rfl))))) pss_nil) (@pss_cons _ _ _ _ _ (@ps_if _ _ _ _ _ _ _ _ (@pt_cmpR _ _ _ _ _ _ _ _ op_eq (pv 0) pe_str (nomark _)) (@pss_one _ _ _ (@ps_ret _ _ _ _ (pe_call GTT hr1 rfl T.m_ZA T.k_ZA T.b_ZA .nil pass0 (@pa_cons _ _ _ _ _ (pe_or (@pe_cmpR _ _ _ _ _ _ _ _ op_eq (pv 2) pe_str (nomark _)) (pe_one (@pe_cmpR _ _ _ _ _ _ _ _ op_eq (pv 3) pe_str (nomark _)))) pa_nil (by rfl))))) pss_nil) (@pss_one _ _ _ (@ps_ret _ _ _ _ (pe_call GTT hr1 rfl T.m_ZA T.k_ZA T.b_ZA .nil pass0 (@pa_cons _ _ _ _ _ (@pe_cmpR _ _ _ _ _ _ _ _ op_eq (pv 2) pe_str (nomark _)) pa_nil (by rfl)))))))))))))),?_⟩
  rcases hc with ⟨z,hl,rfl,rfl⟩ | ⟨x,y,hl,hx,hv⟩
  ·refine ⟨_,rfl,l,_,_,_,rfl,rfl,SqL.of hl,atI_nat (j:=0) rfl,?_⟩
   refine ⟨_,rfl,1,rfl,l,_,_,_,rfl,rfl,SqL.of hl,rfl,?_⟩
   dsimp only [gName]
   refine ⟨_,rfl,rfl,_,rfl,iteFb (sk (by decide +kernel)) ?_⟩
   dsimp only [tNext]
   refine ⟨_,rfl,rfl,_,rfl,iteFb (sk (by decide +kernel)) ?_⟩
   dsimp only [tNext]
   refine ⟨_,rfl,rfl,_,rfl,iteFb (sk (by decide +kernel)) ?_⟩
   dsimp only [tNext]
   refine ⟨_,rfl,rfl,_,rfl,iteFb (sk (by decide +kernel)) ?_⟩
   dsimp only [tNext]
   refine ⟨_,rfl,rfl,_,rfl,iteFb (sk (by decide +kernel)) ?_⟩
   dsimp only [tNext]
   refine ⟨_,rfl,rfl,_,rfl,iteFb (sk (by decide +kernel)) ?_⟩
   dsimp only [tNext]
   refine ⟨_,rfl,rfl,_,rfl,iteFb (sk (by decide +kernel)) ?_⟩
   dsimp only [tNext]
   refine ⟨_,rfl,rfl,_,rfl,?_⟩
   rw [dec_strV]
   exact k
  ·refine ⟨_,rfl,l,_,_,_,rfl,rfl,SqL.of hl,atI_nat (j:=0) rfl,?_⟩
   refine ⟨_,rfl,1,rfl,l,_,_,_,rfl,rfl,SqL.of hl,rfl,?_⟩
   dsimp only [gName]
   have hR:(0:Int)<1000000000000000000:=by decide
   cases x with
   | int a =>
    cases y with
    | int b =>
     simp only [reckV] at hv
     split at hv
     ·rename_i hw;subst hw
      cases hv
      refine ⟨_,rfl,rfl,_,rfl,iteTb (decide_eq_true rfl) ?_⟩
      exact ⟨_,rfl,_,rfl,_,_,rfl,rfl,_,_,rfl,rfl,hR,k⟩
     split at hv
     ·rename_i hw;subst hw
      cases hv
      refine ⟨_,rfl,rfl,_,rfl,iteFb (sk (by decide +kernel)) ?_⟩
      dsimp only [tNext]
      refine ⟨_,rfl,rfl,_,rfl,iteTb (decide_eq_true rfl) ?_⟩
      exact ⟨_,rfl,_,rfl,_,_,rfl,rfl,_,_,rfl,rfl,hR,k⟩
     split at hv
     ·rename_i hw;subst hw
      cases hv
      refine ⟨_,rfl,rfl,_,rfl,iteFb (sk (by decide +kernel)) ?_⟩
      dsimp only [tNext]
      refine ⟨_,rfl,rfl,_,rfl,iteFb (sk (by decide +kernel)) ?_⟩
      dsimp only [tNext]
      refine ⟨_,rfl,rfl,_,rfl,iteTb (decide_eq_true rfl) ?_⟩
      have hb:-(2 ^ 64)<a/\a<2 ^ 64:=by
       rcases hx with ⟨i,e,h⟩ | ⟨z,e⟩
       ·cases e;exact h
       ·cases e
      exact ⟨_,rfl,_,rfl,_,_,rfl,rfl,.inl hb,_,_,rfl,rfl,hR,k⟩
     split at hv
     ·rename_i hw;subst hw
      cases hv
      refine ⟨_,rfl,rfl,_,rfl,iteFb (sk (by decide +kernel)) ?_⟩
      dsimp only [tNext]
      refine ⟨_,rfl,rfl,_,rfl,iteFb (sk (by decide +kernel)) ?_⟩
      dsimp only [tNext]
      refine ⟨_,rfl,rfl,_,rfl,iteFb (sk (by decide +kernel)) ?_⟩
      dsimp only [tNext]
      refine ⟨_,rfl,rfl,_,rfl,iteTb (decide_eq_true rfl) ?_⟩
      exact ⟨_,rfl,_,rfl,_,_,rfl,rfl,_,rfl,k⟩
     split at hv
     ·rename_i hw;subst hw
      cases hv
      refine ⟨_,rfl,rfl,_,rfl,iteFb (sk (by decide +kernel)) ?_⟩
      dsimp only [tNext]
      refine ⟨_,rfl,rfl,_,rfl,iteFb (sk (by decide +kernel)) ?_⟩
      dsimp only [tNext]
      refine ⟨_,rfl,rfl,_,rfl,iteFb (sk (by decide +kernel)) ?_⟩
      dsimp only [tNext]
      refine ⟨_,rfl,rfl,_,rfl,iteFb (sk (by decide +kernel)) ?_⟩
      dsimp only [tNext]
      refine ⟨_,rfl,rfl,_,rfl,iteTb (decide_eq_true rfl) ?_⟩
      refine ⟨_,rfl,_,rfl,rfl,_,rfl,?_⟩
      rw [dec_int']
      exact k
     cases hv
    | _=>simp only [reckV] at hv;cases hv
   | str a =>
    cases y with
    | str b =>
     simp only [reckV] at hv
     split at hv
     ·rename_i hw;subst hw
      cases hv
      refine ⟨_,rfl,rfl,_,rfl,iteFb (sk (by decide +kernel)) ?_⟩
      dsimp only [tNext]
      refine ⟨_,rfl,rfl,_,rfl,iteFb (sk (by decide +kernel)) ?_⟩
      dsimp only [tNext]
      refine ⟨_,rfl,rfl,_,rfl,iteFb (sk (by decide +kernel)) ?_⟩
      dsimp only [tNext]
      refine ⟨_,rfl,rfl,_,rfl,iteFb (sk (by decide +kernel)) ?_⟩
      dsimp only [tNext]
      refine ⟨_,rfl,rfl,_,rfl,iteFb (sk (by decide +kernel)) ?_⟩
      dsimp only [tNext]
      refine ⟨_,rfl,rfl,_,rfl,iteTb (decide_eq_true rfl) ?_⟩
      refine ⟨_,rfl,rfl,_,rfl,?_⟩
      by_cases h1:a="yes"
      ·refine iteTb (decide_eq_true (by rw [h1])) ?_
       refine ⟨_,rfl,rfl,_,rfl,?_⟩
       rw [dec_strV]
       rw [decide_eq_true h1,Bool.true_and] at k
       exact k
      ·refine iteFb (sk h1) ?_
       rw [decide_eq_false h1,Bool.false_and] at k
       exact ⟨_,rfl,k⟩
     split at hv
     ·rename_i hw;subst hw
      cases hv
      refine ⟨_,rfl,rfl,_,rfl,iteFb (sk (by decide +kernel)) ?_⟩
      dsimp only [tNext]
      refine ⟨_,rfl,rfl,_,rfl,iteFb (sk (by decide +kernel)) ?_⟩
      dsimp only [tNext]
      refine ⟨_,rfl,rfl,_,rfl,iteFb (sk (by decide +kernel)) ?_⟩
      dsimp only [tNext]
      refine ⟨_,rfl,rfl,_,rfl,iteFb (sk (by decide +kernel)) ?_⟩
      dsimp only [tNext]
      refine ⟨_,rfl,rfl,_,rfl,iteFb (sk (by decide +kernel)) ?_⟩
      dsimp only [tNext]
      refine ⟨_,rfl,rfl,_,rfl,iteFb (sk (by decide +kernel)) ?_⟩
      dsimp only [tNext]
      refine ⟨_,rfl,rfl,_,rfl,iteTb (decide_eq_true rfl) ?_⟩
      refine ⟨_,rfl,rfl,_,rfl,?_⟩
      by_cases h1:a="yes"
      ·refine iteTb (decide_eq_true (by rw [h1])) ?_
       rw [decide_eq_true h1,Bool.true_or] at k
       exact ⟨_,rfl,k⟩
      ·refine iteFb (sk h1) ?_
       refine ⟨_,rfl,rfl,_,rfl,?_⟩
       rw [dec_strV]
       rw [decide_eq_false h1,Bool.false_or] at k
       exact k
     cases hv
    | _=>simp only [reckV] at hv;cases hv
   | _=>simp only [reckV] at hv;cases hv
end
section
variable {P:Program} {w:World} {K:PySem.W.Frag} {mg:Str->Option Value} {base:Heap} {AA:Adr} {DD:Fds}
noncomputable def spXR (C:Addr):Sp:=fun vs H Q _=>∃ (e tt:Addr) (v:V),vs=[.ref e,v]/\H e=some (excN e C tt none) /\
 ∀ dx H',dx≠e->(∀ b x,H b=some x->b≠e->H' b=some x)->H' e=some (excN e C tt (some dx))->H' dx=some (xdO dx [("outcome",v)])->Q .non H'
noncomputable abbrev N_Zx:List Str:=["self","outcome"]
theorem sc_Zx:FnScope N_Zx ["self","outcome"] (defScope st_Zx):=⟨rfl,rfl,rfl,by decide +kernel,rfl,by decide +kernel,by decide +kernel⟩
theorem ok_xr (T:All P w K mg AA DD):FnOk P w K mg base CX0 1 AA.Zx DD.Zx ["self","outcome"] (spXR AA.x_RunEnd):=by
 refine T.F_Zx.ok sc_Zx (fun vs H Q E h=>?_) (fun cdv A outer s H vs Q E hr h=>?_)
 ·obtain ⟨e,tt,v,rfl,_⟩:=h
  rfl
 ·obtain ⟨e,tt,v,rfl,he,k⟩:=h
  refine ⟨_,(@pss_one _ _ _ (ps_xfld (body_cx.wish _) (pv 0) (pv 1))),?_⟩
  refine ⟨v,rfl,_,rfl,e,AA.x_RunEnd,tt,rfl,T.ic_RunEnd,T.na_RunEnd_outcome,.inl ⟨he,fun dx hd ne=>?_⟩⟩
  refine k dx _ ne (fun b x hb hbe=>?_) (by rw [upd_ne ne.symm,upd_same]) upd_same
  rw [upd_ne (ne_of_none hb hd),upd_ne hbe]
  exact hb
noncomputable def ErrO (E:XK) (C:Addr) (wd:Str) (H:Hp):Prop:=∀ dx H',Same H H'->H' dx=some (xdO dx [("outcome",.str wd)])->E (.ref C) (some dx) H'
theorem raise_RunEnd {C:Addr} {E:XK} {H:Hp} {wd:Str} (h:ErrO E C wd H) (e tt:Addr) (he:H e=none) :
  spXR C [.ref e,.str wd] (upd H e (excN e C tt none)) (fun x H2=>x=.non/\∃ dd,H2 e=some (excN e C tt dd)/\E (.ref C) dd (del H2 e)) E0:=by
 refine ⟨e,tt,.str wd,rfl,upd_same,fun dx H' ne s h1 h2=>⟨rfl,some dx,h1,h dx _ (fun b u q=>?_) (by rw [del_ne ne];exact h2)⟩⟩
 have hb:b≠e:=ne_of_none q he
 rw [del_ne hb]
 exact s b u (by rw [upd_ne hb];exact q) hb
theorem comp2_tup {k:Nat} {js:List Nat} {g:TG} {tt:TT} {te:TE} {K:PySem.W.Frag} {a:Addr} {xs:List V} {σ:St} {H:Hp} {Q:VK} (Pv:Nat->List V->Hp->Prop) (h0:Pv 0 [] H) (hl:∀ i ys H,i<=xs.length->Pv i ys H->SqT K H a xs)
  (hs:∀ i x ys H,xs[i]?=some x->Pv i ys H->tStep2 k js g tt te σ ys (Pv (i+1)) x H)
  (hd:∀ ys H,Pv xs.length ys H->∀ p,H p=none->Q (.ref p) (upd H p (.lst ys))):tCompB2 (Itt K a) k js g tt te σ H Q:=by
 refine ⟨fun i m ys H=>m=xs.length-i/\i<=xs.length/\Pv i ys H,⟨xs.length,by simp,Nat.zero_le _,h0⟩,?_⟩
 rintro i m ys H ⟨rfl,hi,p⟩
 have q:=hl i ys H hi p
 by_cases hlt:i<xs.length
 ·refine .inr ⟨⟨xs,xs[i],q,by simp [hlt]⟩,Pv (i+1),fun ys' H' p'=>⟨xs.length-(i+1),by omega,rfl,hlt,p'⟩,fun x H' y=>?_⟩
  obtain ⟨e,y⟩:=y
  subst e
  exact hs i x ys _ (y xs q) p
 ·have e:i=xs.length:=by omega
  subst e
  exact .inl ⟨⟨xs,q,Nat.le_refl _⟩,hd ys H p⟩
theorem idxOf_at {zs:List Str} {z:Str}:∀ {j:Nat},zs.idxOf? z=some j->zs[j]?=some z/\∀ m,m<j->zs[m]?≠some z:=by
 induction zs with
 | nil=>intro j h;cases h
 | cons a r ih =>
  intro j h
  rw [List.idxOf?_cons] at h
  by_cases e:a=z
  ·subst e
   simp at h
   subst h
   exact ⟨rfl,fun m hm=>absurd hm (Nat.not_lt_zero _)⟩
  ·have e':(a == z)=false:=by simp [e]
   rw [e'] at h
   simp only [Bool.false_eq_true,if_false] at h
   cases q:r.idxOf? z with
   | none=>rw [q] at h;cases h
   | some i =>
    rw [q] at h
    cases h
    obtain ⟨h1,h2⟩:=ih q
    refine ⟨by simpa using h1,fun m hm=>?_⟩
    cases m with
    | zero=>simpa using e
    | succ m=>simpa using h2 m (by have hm:m+1<i+1:=hm;omega)
noncomputable def spFV:Sp:=fun vs H Q _=>∃ (t:Addr) (z n f:Str) (us:List V) (v x:V) (r j:Nat) (ps:List (Str × Str)),vs=[.ref t,.str f,v]/\H t=some (.tup (.str z::us))/\SAt H false v (.kd r n ps)/\ps.length<=20/\(ps.map (·.1)).idxOf? f=some j/\us[j]?=some x/\∀ H',Same H H'->Q x H'
noncomputable abbrev N_Zs:List Str:=["record","field","one"]
theorem sc_Zs:FnScope N_Zs ["record","field","one"] (defScope st_Zs):=⟨rfl,rfl,rfl,by decide +kernel,rfl,by decide +kernel,by decide +kernel⟩
theorem ok_fv (T:All P w K mg AA DD):FnOk P w K mg base CX0 1 AA.Zs DD.Zs ["record","field","one"] spFV:=by
 refine T.F_Zs.ok sc_Zs (fun vs H Q E h=>?_) (fun cdv A outer s H vs Q E hr h=>?_)
 ·obtain ⟨t,z,n,f,us,v,x,r,j,ps,rfl,_⟩:=h
  rfl
 ·obtain ⟨t,z,n,f,us,v,x,r,j,ps,rfl,ht,hS,hps,hj,hx,kq⟩:=h
  have nd:=sc_Zs.nd
  refine ⟨_,(@pss_one _ _ _ (@ps_ret _ _ _ _ (@pe_ix _ _ _ _ _ _ _ (ix_tupK (K:=K) rfl) (pv 0) (@pe_op _ _ _ _ _ _ _ _ op_add pe_int (pe_bm PySem.F.plainAttrs_list PySem.F.slot_list_index PySem.F.type_list_index mt_lindex (pe_comp2 (xs:=["name","kind"]) (defScope st_Zs) N_Zs [] [] rfl (by exact ⟨rfl,rfl,by decide +kernel,by decide +kernel,by decide +kernel,by decide +kernel,by decide +kernel,rfl,by decide +kernel⟩) rfl rfl (pi_tup (@pe_ix _ _ _ _ _ _ _ (ix_tupK (K:=K) rfl) (pv 2) pe_int (fun _ _=>rfl))) (fun _ _ _ _=>(pg_tupK (K:=K) (n:=2) rfl rfl (pgs_cons (pg_name (i:=0) (show (["name","kind"]:List Str).Nodup by decide +kernel) rfl (Or.inl rfl)) (pgs_cons (pg_name (i:=1) (show (["name","kind"]:List Str).Nodup by decide +kernel) rfl (Or.inl rfl)) pgs_nil)))) (fun _ _ _ _=>pif_nil) (fun _ _ _ _=>(pv 0))) (@pa_cons _ _ _ _ _ (pv 1) pa_nil (by rfl)))) (fun _ _=>rfl)))),?_⟩
  obtain ⟨ta,vp,e1,hta,hpr⟩:=s_kd hS
  obtain ⟨tp,ts,e2,htp,hlen,hat⟩:=hpr
  subst e1 e2
  refine ⟨_,rfl,_,rfl,ta,_,_,_,rfl,rfl,SqT.of hta,atI_nat (j:=3) rfl,tp,rfl,⟨_,SqT.of htp⟩,?_⟩
  refine comp2_tup (K:=K) (a:=tp) (xs:=ts.map V.ref) (fun i ys H'=>H'=H/\i<=ts.length/\ys=((ps.take i).map (·.1)).map V.str) ⟨rfl,Nat.zero_le _,rfl⟩ (fun i ys H' _ hsl68=>by obtain ⟨e,_⟩:=hsl68;rw [e];exact SqT.of htp) ?_ ?_
  ·rintro i y ys H1 hx ⟨rfl,_,rfl⟩
   have hi:i<ts.length:=by
    have:=(List.getElem?_eq_some_iff.mp hx).1
    rw [List.length_map] at this;exact this
   have hip:i<ps.length:=by omega
   have ex:y=V.ref ts[i]:=by rw [List.getElem?_map,List.getElem?_eq_getElem hi] at hx;exact (Option.some.inj hx).symm
   subst ex
   have htu:=hat i ts[i] ps[i] (List.getElem?_eq_getElem hi) (List.getElem?_eq_getElem hip)
   intro os hos
   obtain ⟨a,b,rfl⟩:∃ a b,os=[a,b]:=by
    match os,hos with
    | [a,b],_=>exact ⟨a,b,rfl⟩
   refine ⟨ts[i],_,rfl,SqT.of htu,rfl,_,_,rfl,_,_,rfl,rfl,⟨[_,_],rfl,rfl⟩,?_⟩
   refine tYes_ok ?_
   rw [if_pos rfl]
   refine ⟨_,rfl,?_,rfl,by omega,?_⟩
   ·rw [List.length_map,List.length_map,List.length_take];exact small1000 (by omega)
   ·rw [List.take_succ_eq_append_getElem hip,List.map_append,List.map_append];rfl
  ·rintro ys H1 ⟨rfl,_,rfl⟩ p hp
   rw [List.length_map,hlen,List.take_length]
   have s1:=same_upd (o:=.lst ((ps.map (·.1)).map V.str)) hp
   obtain ⟨h1,h2⟩:=idxOf_at hj
   have hjl:j<ps.length:=by
    have:=(List.getElem?_eq_some_iff.mp h1).1
    rw [List.length_map] at this;exact this
   refine ⟨.inl ⟨rfl,_,SqL.of upd_same⟩,_,rfl,p,ps.map (·.1),f,j,rfl,rfl,upd_same,h1,h2,by omega,?_⟩
   refine ⟨_,_,rfl,rfl,t,_,_,_,rfl,rfl,SqT.of (s1 _ _ ht),atI_nat (j:=1+j) ?_,kq _ s1⟩
   rw [Nat.add_comm]
   simpa using hx
end
section
variable {P:Program} {w:World} {K:PySem.W.Frag} {mg:Str->Option Value} {base:Heap} {AA:Adr} {DD:Fds}
structure OutR (C X:Addr) (B:Hp) (o dx d1 tl l:Addr) (most:Nat) (F:List (List Key × V)) (M:List Addr) (E:XK) {α:Type} (KK:α->RS->Hp->Prop) (res:Rs α) (H:Hp) (S:RS) (es:List Evn):Prop where
 long:∀ S',appE most S es=(S',false)->∀ H',RA C B H' o dx d1 tl l most F S'->ErrO E X "long" H'
 ok:∀ a,res=.ok a->∀ S',appE most S es=(S',true)->∀ H',RA C B H' o dx d1 tl l most F S'->Same (msk H M) (msk H' M)->KK a S' H'
 deep:res=.deep->∀ S',appE most S es=(S',true)->∀ H',RA C B H' o dx d1 tl l most F S'->ErrO E X "deep" H'
theorem OutR.step {C X:Addr} {B:Hp} {o dx d1 tl l:Addr} {most:Nat} {F:List (List Key × V)} {M:List Addr} {E:XK} {α:Type} {KK:α->RS->Hp->Prop} {res:Rs α} {H H1:Hp} {S S1:RS} {ea eb:List Evn}
  (h:OutR C X B o dx d1 tl l most F M E KK res H S (ea++eb)) (q:appE most S ea=(S1,true)) (s:Same (msk H M) (msk H1 M)):OutR C X B o dx d1 tl l most F M E KK res H1 S1 eb :=
 ⟨fun S' e H' r=>h.long S' (by rw [appE_true q];exact e) H' r,fun a e1 S' e H' r s'=>h.ok a e1 S' (by rw [appE_true q];exact e) H' r (s.trans s'),fun e1 S' e H' r=>h.deep e1 S' (by rw [appE_true q];exact e) H' r⟩
theorem OutR.mov {C X:Addr} {B:Hp} {o dx d1 tl l:Addr} {most:Nat} {F:List (List Key × V)} {M:List Addr} {E:XK} {α:Type} {KK:α->RS->Hp->Prop} {res:Rs α} {H H1:Hp} {S:RS} {es:List Evn}
  (h:OutR C X B o dx d1 tl l most F M E KK res H S es) (s:Same (msk H M) (msk H1 M)):OutR C X B o dx d1 tl l most F M E KK res H1 S es :=
 OutR.step (ea:=[]) h rfl s
noncomputable def KKv (Q:VK):RV->RS->Hp->Prop:=fun rv _ H'=>∀ x,VAt H' x rv->Q x H'
noncomputable def KKr (Q:VK) (na:Addr) (ρ:REnv):Option RV->RS->Hp->Prop
 | none,S',H'=>NmR H' na ρ S'.log.length->Q .non H'
 | some rv,_,H'=>∀ x,VAt H' x rv->Q x H'
noncomputable def VsAt (H:Hp):List V->List RV->Prop
 | [],[]=>True
 | x::xs,r::rs=>VAt H x r/\VsAt H xs rs
 | _,_=>False
theorem VsAt.snoc {H:Hp} {x:V} {r:RV} (hx:VAt H x r):∀ {xs:List V} {rs:List RV},VsAt H xs rs->VsAt H (xs++[x]) (rs++[r])
 | [],[],_=>⟨hx,trivial⟩
 | _::_,_::_,h=>⟨h.1,VsAt.snoc hx h.2⟩
theorem VsAt.map {H H':Hp} (k:∀ x r,VAt H x r->VAt H' x r):∀ {xs:List V} {rs:List RV},VsAt H xs rs->VsAt H' xs rs
 | [],[],_=>trivial
 | _::_,_::_,h=>⟨k _ _ h.1,VsAt.map k h.2⟩
theorem VsAt.pls {H:Hp}:∀ {xs:List V} {us:List V},VsAt H xs (us.map RV.pl)->xs=us/\∀ x∈us,PlV x
 | [],[],_=>⟨rfl,fun x h=>by cases h⟩
 | x::xs,u::us,h=>by
  obtain ⟨e,g⟩:=VsAt.pls h.2
  obtain ⟨e1,g1⟩:=h.1
  refine ⟨by rw [e,e1],fun y hy=>?_⟩
  rcases List.mem_cons.mp hy with rfl | hy
  ·exact g1
  ·exact g y hy
theorem _root_.Mm.RA.tups {C:Addr} {B H H':Hp} {o dx d1 tl l:Addr} {most:Nat} {F:List (List Key × V)} {S:RS} (h:RA C B H o dx d1 tl l most F S) (s:Same (msk H [tl,l]) (msk H' [tl,l])):TupS H H':=fun b xs hb =>
 h.tup s hb (fun z=>by rw [z,h.told] at hb;cases hb) (fun z=>by rw [z,h.log] at hb;cases hb)
theorem _root_.Mm.RA.vat {C:Addr} {B H H':Hp} {o dx d1 tl l:Addr} {most:Nat} {F:List (List Key × V)} {S:RS} (h:RA C B H o dx d1 tl l most F S) (s:Same (msk H [tl,l]) (msk H' [tl,l])) {v:V} {rv:RV} (q:VAt H v rv):VAt H' v rv:=VAt.fr h.told h.log s q
theorem _root_.Mm.RA.nmr {C:Addr} {B H H':Hp} {o dx d1 tl l:Addr} {most:Nat} {F:List (List Key × V)} {S:RS} (h:RA C B H o dx d1 tl l most F S) (s:Same (msk H [tl,l]) (msk H' [tl,l])) {d:Addr} {ρ:REnv} {n:Nat} (q:NmR H d ρ n):NmR H' d ρ n:=NmR.fr h.told h.log s q
theorem fr_less {H H1 H2:Hp} {tl l d:Addr} (s:Same H H1) (hd:H d=none) (h:Same (msk H1 [tl,l,d]) (msk H2 [tl,l,d])):Same (msk H [tl,l]) (msk H2 [tl,l]):=fun b u hb=>by
 obtain ⟨h1,h2⟩:=msk_some hb
 have hbd:b≠d:=ne_of_none h2 hd
 have h3:b∉[tl,l,d]:=by simp only [List.mem_cons,List.not_mem_nil,or_false,not_or] at h1 ⊢;exact ⟨h1.1,h1.2,hbd⟩
 have:=h b u (by rw [msk_no h3];exact s _ _ h2)
 rw [msk_no h1]
 exact (msk_some this).2
theorem fr_more {H H1:Hp} {tl l d:Addr} (h:Same (msk H [tl,l]) (msk H1 [tl,l])):Same (msk H [tl,l,d]) (msk H1 [tl,l,d]):=fun b u hb=>by
 obtain ⟨h1,h2⟩:=msk_some hb
 have h3:b∉[tl,l]:=by simp only [List.mem_cons,List.not_mem_nil,or_false,not_or] at h1 ⊢;exact ⟨h1.1,h1.2.1⟩
 have:=h b u (by rw [msk_no h3];exact h2)
 rw [msk_no h1]
 exact (msk_some this).2
noncomputable def spRR (C X:Addr) (tt:List Tr) (n:Nat):Sp:=fun vs H Q E=>∃ (B:Hp) (o dx d1 tl l na ls:Addr) (most dp m:Nat) (F:List (List Key × V)) (S:RS) (xs:List V) (ts:List Tr) (ρ ρ':REnv) (es:List Evn) (res:Rs (Option RV)),vs=[.ref o,.ref ls,.ref na,.int ((dp:Nat):Int)] /\
 RA C B H o dx d1 tl l most F S/\FoAt B F tt/\NmR H na ρ S.log.length/\B na=none/\B ls=some (.lst xs)/\LAt B false xs ts/\m<n/\RunL tt m dp ρ ts es ρ' res/\OutR C X B o dx d1 tl l most F [tl,l,na] E (KKr Q na ρ') res H S es
noncomputable def spG (C X:Addr) (tt:List Tr) (n:Nat):Sp:=fun vs H Q E=>∃ (B:Hp) (o dx d1 tl l lv:Addr) (z:Str) (most dp m:Nat) (F:List (List Key × V)) (S:RS) (xs:List V) (as:List Ex) (rs:List RV) (es:List Evn) (res:Rs RV),vs=[.ref o,.str z,.ref lv,.int ((dp:Nat):Int)] /\
 RA C B H o dx d1 tl l most F S/\FoAt B F tt/\0<S.log.length/\H lv=some (.lst xs)/\VsAt H xs rs/\m<n/\FinX tt m dp (.many "do" z as) rs es res/\OutR C X B o dx d1 tl l most F [tl,l] E (KKv Q) res H S es
noncomputable abbrev N_Zi:List Str:=["self","name","values","depth","one"]
theorem sc_Zi:FnScope N_Zi ["self","name","values","depth"] (defScope st_Zi):=⟨rfl,rfl,rfl,by decide +kernel,rfl,by decide +kernel,by decide +kernel⟩
theorem ok_gb (T:All P w K mg AA DD) (tt:List Tr) (n:Nat) (GRS:FnOk P w K mg base (CX2 (fun _=>True) P w) (3*n+3) AA.Zg DD.Zg ["self","statements","names","depth"] (spRR AA.c_PlainRun AA.x_RunEnd tt n)) :
  FnOk P w K mg base (CX2 (fun _=>True) P w) (3*n+4) AA.Zi DD.Zi ["self","name","values","depth"] (spG AA.c_PlainRun AA.x_RunEnd tt n):=by
 have GI:=ok_xr (base:=base) T
 obtain ⟨tM,hMOST_RUNNINGS⟩:=T.v_MOST_RUNNINGS
 refine T.F_Zi.ok2 sc_Zi (fun vs H Q E h=>?_) (fun cdv A outer s H vs Q E hr h=>?_)
 ·obtain ⟨B,o,dx,d1,tl,l,lv,z,most,dp,m,F,S,xs,as,rs,es,res,rfl,_⟩:=h
  rfl
 ·obtain ⟨B,o,dx,d1,tl,l,lv,z,most,dp,m,F,S,xs,as,rs,es,res,rfl,hR,hF,hlog,hlv,hvs,hm,hfin,hO⟩:=h
  have nd:=sc_Zi.nd
  have hrS:Room (3*n+3) _:=hr
  have hr2:Room 2 _:=hrS.mono (by omega)
  have hu:=Nat.lt_of_le_of_lt (Nat.add_le_add_left (show 1<=64 by decide) _) hr.units
  refine ⟨_,(@pss_cons _ _ _ _ _ (@ps_if _ _ _ _ _ _ _ _ (@pt_cmpR _ _ _ _ _ _ _ _ op_ge (pv 3) (pe_glob (v:=.int 6) rfl hMOST_RUNNINGS ⟨_,rfl⟩) (nomark _)) (@pss_one _ _ _ (ps_raiseI body_cx (raise2 trivial) rfl rfl T.m_RunEnd T.M_RunEnd PySem.F.excBase_Exception GI hr2 T.b_Zx (@pa_cons _ _ _ _ _ pe_str pa_nil (by rfl)))) pss_nil) (@pss_cons _ _ _ _ _ (@ps_set _ _ 4 _ _ _ _ nd rfl (Or.inl rfl) (pe_dget hu (pe_fld (pv 0) rfl) (@pe_tup _ _ _ _ _ (@pa_cons _ _ _ _ _ pe_str (@pa_cons _ _ _ _ _ (pv 1) pa_nil (by rfl)) (by rfl))) (fun _ _=>rfl)) (by rfl) (by first | exact .inl rfl | exact .inr rfl | assumption)) (@pss_one _ _ _ (@ps_ret _ _ _ _ (pe_meth (pv 0) T.cl_PlainRun T.M_Zg GRS hrS T.b_Zg .nil (pass2 fun _ z=>z) (@pa_cons _ _ _ _ _ (@pe_ix _ _ _ _ _ _ _ (ix_tupK (K:=K) rfl) (pv 4) pe_int (fun _ _=>rfl)) (@pa_cons _ _ _ _ _ (pe_dictzip rfl rfl T.n_dict rfl T.n_zip (@pa_cons _ _ _ _ _ (pe_comp2 (xs:=["param","kind"]) (defScope st_Zi) N_Zi [] [] rfl (by exact ⟨rfl,rfl,by decide +kernel,by decide +kernel,by decide +kernel,by decide +kernel,by decide +kernel,rfl,by decide +kernel⟩) rfl rfl (pi_tup (@pe_ix _ _ _ _ _ _ _ (ix_tupK (K:=K) rfl) (pv 4) pe_int (fun _ _=>rfl))) (fun _ _ _ _=>(pg_tupK (K:=K) (n:=2) rfl rfl (pgs_cons (pg_name (i:=0) (show (["param","kind"]:List Str).Nodup by decide +kernel) rfl (Or.inl rfl)) (pgs_cons (pg_name (i:=1) (show (["param","kind"]:List Str).Nodup by decide +kernel) rfl (Or.inl rfl)) pgs_nil)))) (fun _ _ _ _=>pif_nil) (fun _ _ _ _=>(pv 0))) (@pa_cons _ _ _ _ _ (pv 2) pa_nil (by rfl)) (by rfl))) (@pa_cons _ _ _ _ _ (@pe_op _ _ _ _ _ _ _ _ op_add (pv 3) pe_int) pa_nil (by rfl)) (by rfl)) (by rfl))))))),?_⟩
  refine ⟨_,rfl,_,_,rfl,rfl,_,rfl,?_⟩
  by_cases h6:6<=dp
  ·refine iteTb (decide_eq_true (by omega)) ?_
   have e1:es=[]/\res=.deep:=by
    cases hfin with
    | run h _ _=>omega
    | runI h _ _=>omega
    | runD _=>exact ⟨rfl,rfl⟩
   obtain ⟨rfl,rfl⟩:=e1
   exact ⟨(by show 1<=sizeLine;decide),fun e tt hh _ _=>raise_RunEnd (hO.deep rfl S rfl H hR) e tt hh⟩
  refine iteFb (decide_eq_false (by omega)) ?_
  dsimp only [tNext]
  obtain ⟨a,r,k,q,b,ρ',rg,hxs,hdef,hrun,hres⟩:∃ a r k q b ρ' rg,rs=[a]/\fst3 ("def",z) tt=some (.df r z k [q] b)/\RunL tt m (dp+1) (env1 q.1 a) b es ρ' rg/\((∃ v,rg=.ok (some v)/\res=.ok v)∨(rg=.deep/\res=.deep)):=by
   cases hfin with
   | run _ h1 h2=>exact ⟨_,_,_,_,_,_,_,rfl,h1,h2,.inl ⟨_,rfl,rfl⟩⟩
   | runI _ h1 h2=>exact ⟨_,_,_,_,_,_,_,rfl,h1,h2,.inr ⟨rfl,rfl⟩⟩
   | runD h=>exact absurd h h6
  subst hxs
  obtain ⟨x,exs,hx⟩:∃ x,xs=[x]/\VAt H x a:=by
   match xs,hvs with
   | [x],h=>exact ⟨x,rfl,h.1⟩
  subst exs
  obtain ⟨v1,t1,hv1,hS1,ht1⟩:∃ v t,valV F [.inr "def",.inr z]=some v/\SAt B false v t/\fst3 ("def",z) tt=some t:=by
   rcases hF ("def",z) with ⟨_,h⟩ | h
   ·rw [hdef] at h;cases h
   ·exact h
  rw [hdef] at ht1
  cases ht1
  obtain ⟨ta,vp,lb,xb,e1,hta,hpr,hlb,hLb⟩:=s_df hS1
  obtain ⟨tp,us,e2,htp,hul,hat⟩:=hpr
  subst e1 e2
  refine ⟨_,rfl,o,AA.c_PlainRun,dx,_,_,rfl,hR.ins,T.cl_PlainRun,T.na_PlainRun_firsts,rfl,_,rfl,(by show 2<=sizeLine;decide),fun pt hpt=>?_⟩
  have s1:=same_upd (o:=.tup [.str "def",.str z]) hpt
  have hpt1:upd H pt (.tup [.str "def",.str z]) pt=some (.tup [.str "def",.str z]):=upd_same
  generalize upd H pt (.tup [.str "def",.str z])=H1 at s1 hpt1 ⊢
  have hR1:=hR.same s1
  have hg:=DGet.t (k:=[.inr "def",.inr z]) hR1.fst hpt1
  rw [hv1] at hg
  refine ⟨d1,_,rfl,hg,?_⟩
  dsimp only [gName]
  have hta1:=hR1.bs _ _ hta
  have htp1:=hR1.bs _ _ htp
  refine ⟨_,rfl,o,dx,_,rfl,hR1.ins,rfl,_,rfl,ta,_,_,_,rfl,rfl,SqT.of hta1,atI_nat (j:=5) rfl,?_⟩
  refine ⟨_,rfl,ta,_,_,_,rfl,rfl,SqT.of hta1,atI_nat (j:=4) rfl,tp,rfl,⟨_,SqT.of htp1⟩,?_⟩
  obtain ⟨u0,rfl⟩:∃ u,us=[u]:=by
   match us,hul with
   | [u],_=>exact ⟨u,rfl⟩
  have hu0:=hR1.bs _ _ (hat 0 u0 q rfl rfl)
  refine comp2_tup (K:=K) (a:=tp) (xs:=[V.ref u0]) (fun i ys H'=>H'=H1/\i<=1/\ys=(([q].take i).map (·.1)).map V.str) ⟨rfl,Nat.zero_le _,rfl⟩ (fun i ys H' _ hsl69=>by obtain ⟨e,_⟩:=hsl69;rw [e];exact SqT.of htp1) ?_ ?_
  ·rintro i y ys H2 hx ⟨rfl,_,rfl⟩
   obtain ⟨rfl,rfl⟩:i=0/\y=.ref u0:=by
    match i,hx with
    | 0,hx=>cases hx;exact ⟨rfl,rfl⟩
    | i+1,hx=>simp at hx
   intro os hos
   obtain ⟨a,b,rfl⟩:∃ a b,os=[a,b]:=by
    match os,hos with
    | [a,b],_=>exact ⟨a,b,rfl⟩
   refine ⟨u0,_,rfl,SqT.of hu0,rfl,_,_,rfl,_,_,rfl,rfl,⟨[_,_],rfl,rfl⟩,?_⟩
   refine tYes_ok ?_
   rw [if_pos rfl]
   exact ⟨_,rfl,small1000 (by simp),rfl,Nat.le_refl _,rfl⟩
  ·rintro ys H2 ⟨rfl,_,rfl⟩ p hp
   have s2:=same_upd (o:=.lst [.str q.1]) hp
   have hbB:B p=none:=Same.free hR1.bs hp
   refine ⟨_,rfl,p,lv,q.1,x,rfl,upd_same,s2 _ _ (s1 _ _ hlv),fun d hd=>?_⟩
   have hd0:H2 d=none:=Same.free s2 hd
   have s3:=s2.trans (same_upd (o:=.dK [(.inr q.1,x)]) hd)
   have hd3:upd (upd H2 p (.lst [.str q.1])) d (.dK [(.inr q.1,x)]) d=some (.dK [(.inr q.1,x)]):=upd_same
   refine ⟨_,rfl,_,_,rfl,rfl,?_⟩
   have s13:=s1.trans s3
   have hR3:=hR.same s13
   refine ⟨B,o,dx,d1,tl,l,d,lb,most,dp+1,m,F,S,xb,b,env1 q.1 a,ρ',es,rg,rfl,hR3,hF,⟨_,hd3,hlog,fun y=>?_⟩,Same.free hR1.bs hd0,hlb,hLb,hm,hrun,?_⟩
   ·unfold env1
    by_cases hy:y=q.1
    ·subst hy
     refine .inr ⟨x,a,?_,by rw [if_pos rfl],hx.same s13⟩
     simp [valV]
    ·refine .inl ⟨?_,by rw [if_neg hy]⟩
     simp [valV]
     exact fun h=>hy h.symm
   ·refine ⟨fun S' e H' r=>hO.long S' e H' r,fun g eg S' e H' r sf=>?_,fun eg S' e H' r=>?_⟩
    ·rcases hres with ⟨v,e1,e2⟩ | ⟨e1,e2⟩
     ·rw [e1] at eg
      cases eg
      exact hO.ok v e2 S' e H' r (fr_less s13 (Same.free s1 hd0) sf)
     ·rw [e1] at eg;cases eg
    ·rcases hres with ⟨v,e1,e2⟩ | ⟨e1,e2⟩
     ·rw [e1] at eg;cases eg
     ·exact hO.deep e2 S' e H' r
end
section
variable {P:Program} {w:World} {K:PySem.W.Frag} {mg:Str->Option Value} {base:Heap} {AA:Adr} {DD:Fds}
noncomputable def nt2:List Str:=["num","truth"]
theorem x_many {H:Hp} {v:V} {w n:Str} {es:List Ex} (h:ExAt H v (.many w n es)):∃ t l,v=.ref t/\H t=some (.tup [.str w,.str n,.ref l]):=by cases h with | many h _ _=>exact ⟨_,_,rfl,h⟩
theorem x_of {H:Hp} {v:V} {f:Str} {e:Ex} (h:ExAt H v (.of f e)):∃ t ve,v=.ref t/\H t=some (.tup [.str "of",.str f,ve]):=by cases h with | of h _=>exact ⟨_,_,rfl,h⟩
theorem x_num {H:Hp} {v:V} {n:Int} (h:ExAt H v (.num n)):∃ t,v=.ref t/\H t=some (.tup [.str "num",.int n]):=by cases h with | num h=>exact ⟨_,rfl,h⟩
theorem x_truth {H:Hp} {v:V} {z:Str} (h:ExAt H v (.truth z)):∃ t,v=.ref t/\H t=some (.tup [.str "truth",.str z]):=by cases h with | truth h=>exact ⟨_,rfl,h⟩
theorem x_name {H:Hp} {v:V} {z:Str} (h:ExAt H v (.name z)):∃ t,v=.ref t/\H t=some (.tup [.str "name",.str z]):=by cases h with | name h=>exact ⟨_,rfl,h⟩
theorem evl_inv {tt:List Tr} {n dp:Nat} {ρ:REnv} {c:Ex} {cs:List Ex} {es:List Evn} {rs:Rs (List RV)} (h:EvL tt n dp ρ (c::cs) es rs) :
  ∃ ea eb r,es=ea++eb/\EvX tt n dp ρ c ea r/\((r=.deep/\rs=.deep/\eb=[])∨∃ v rs',r=.ok v/\EvL tt n dp ρ cs eb rs'/\((rs'=.deep/\rs=.deep)∨∃ vs,rs'=.ok vs/\rs=.ok (v::vs))):=by
 cases h with
 | cons a b=>exact ⟨_,_,_,rfl,a,.inr ⟨_,_,rfl,b,.inr ⟨_,rfl,rfl⟩⟩⟩
 | stop a=>exact ⟨_,[],_,by simp,a,.inl ⟨rfl,rfl,rfl⟩⟩
 | next a b=>exact ⟨_,_,_,rfl,a,.inr ⟨_,_,rfl,b,.inl ⟨rfl,rfl⟩⟩⟩
noncomputable def spV (C X:Addr) (tt:List Tr) (n:Nat):Sp:=fun vs H Q E=>∃ (B:Hp) (o dx d1 tl l na:Addr) (v:V) (most dp m:Nat) (F:List (List Key × V)) (S:RS) (e:Ex) (ρ:REnv) (es:List Evn) (res:Rs RV),vs=[.ref o,v,.ref na,.int ((dp:Nat):Int)] /\
 RA C B H o dx d1 tl l most F S/\FoAt B F tt/\0<S.log.length/\NmR H na ρ S.log.length/\ExAt H v e/\m<n/\EvX tt m dp ρ e es res/\OutR C X B o dx d1 tl l most F [tl,l] E (KKv Q) res H S es
theorem hd_not {e:Ex} (hp:e.top) (h1:∀ i,e≠.num i) (h2:∀ z,e≠.truth z) (h3:∀ z,e≠.name z):hdW e∉nt2/\hdW e≠"name":=by
 cases e with
 | num i=>exact absurd rfl (h1 i)
 | truth z=>exact absurd rfl (h2 z)
 | name z=>exact absurd rfl (h3 z)
 | not a=>show ("not":Str)∉nt2/\("not":Str)≠"name";decide +kernel
 | of f a=>show ("of":Str)∉nt2/\("of":Str)≠"name";decide +kernel
 | op w a b=>exact (show ∀ z∈ops7,z∉nt2/\z≠"name" by decide +kernel) w hp
 | many w n es =>
  rcases (show w="do"∨w="new" from hp) with rfl | rfl
  ·show ("do":Str)∉nt2/\("do":Str)≠"name"
   decide +kernel
  ·show ("new":Str)∉nt2/\("new":Str)≠"name"
   decide +kernel
noncomputable abbrev N_Zh:List Str:=["self","e","names","depth","word","values","inner"]
theorem sc_Zh:FnScope N_Zh ["self","e","names","depth"] (defScope st_Zh):=⟨rfl,rfl,rfl,by decide +kernel,rfl,by decide +kernel,by decide +kernel⟩
theorem ok_valS (T:All P w K mg AA DD) (tt:List Tr) (n:Nat) (GV:FnOk P w K mg base (CX2 (fun _=>True) P w) (3*n+2) AA.Zh DD.Zh ["self","e","names","depth"] (spV AA.c_PlainRun AA.x_RunEnd tt n))
  (GRS:FnOk P w K mg base (CX2 (fun _=>True) P w) (3*n+3) AA.Zg DD.Zg ["self","statements","names","depth"] (spRR AA.c_PlainRun AA.x_RunEnd tt n)) :
  FnOk P w K mg base (CX2 (fun _=>True) P w) (3*(n+1)+2) AA.Zh DD.Zh ["self","e","names","depth"] (spV AA.c_PlainRun AA.x_RunEnd tt (n+1)):=by
 have GI:=ok_ei (base:=base) T
 have GRK:=ok_rk (base:=base) T
 have GFV:=ok_fv (base:=base) T
 have GGB:=ok_gb (base:=base) T tt n GRS
 refine T.F_Zh.ok2 sc_Zh (fun vs H Q E h=>?_) (fun cdv A outer s H vs Q E hr h=>?_)
 ·obtain ⟨B,o,dx,d1,tl,l,na,v,most,dp,m,F,S,e,ρ,es,res,rfl,_⟩:=h
  rfl
 ·obtain ⟨B,o,dx,d1,tl,l,na,v,most,dp,m,F,S,e,ρ,es,res,rfl,hR,hF,hlog,hN,hE,hmn,hev,hO⟩:=h
  have nd:=sc_Zh.nd
  have hrG:Room (3*n+4) _:=hr
  have hrV:Room (3*n+2) _:=hrG.mono (by omega)
  have hr2:Room 2 _:=hrV.mono (by omega)
  have hr1:Room 1 _:=hrV.mono (by omega)
  have hu:=Nat.lt_of_le_of_lt (Nat.add_le_add_left (show 1<=64 by decide) _) hr.units
  refine ⟨_,(@pss_cons _ _ _ _ _ (@ps_set _ _ 4 _ _ _ _ nd rfl (Or.inl rfl) (@pe_ix _ _ _ _ _ _ _ (ix_tupK (K:=K) rfl) (pv 1) pe_int (fun _ _=>rfl)) (by rfl) (by first | exact .inl rfl | exact .inr rfl | assumption)) (@pss_cons _ _ _ _ _ (@ps_if _ _ _ _ _ _ _ _ (@pt_cmpR _ _ _ _ _ _ _ _ (op_in_seqK (K:=K) rfl) (pv 4) (@pe_tup _ _ _ _ _ (@pa_cons _ _ _ _ _ pe_str (@pa_cons _ _ _ _ _ pe_str pa_nil (by rfl)) (by rfl))) rfl) (@pss_one _ _ _ (@ps_ret _ _ _ _ (@pe_ix _ _ _ _ _ _ _ (ix_tupK (K:=K) rfl) (pv 1) pe_int (fun _ _=>rfl)))) pss_nil) (@pss_cons _ _ _ _ _ (@ps_if _ _ _ _ _ _ _ _ (@pt_cmpR _ _ _ _ _ _ _ _ op_eq (pv 4) pe_str (nomark _)) (@pss_cons _ _ _ _ _ (@ps_if _ _ _ _ _ _ _ _ (pt_cmp (pc_dnotin hu (@pe_ix _ _ _ _ _ _ _ (ix_tupK (K:=K) rfl) (pv 1) pe_int (fun _ _=>rfl)) (pv 2))) pss_never pss_nil) (@pss_one _ _ _ (@ps_ret _ _ _ _ (pe_dget hu (pv 2) (@pe_ix _ _ _ _ _ _ _ (ix_tupK (K:=K) rfl) (pv 1) pe_int (fun _ _=>rfl)) (fun _ _=>rfl))))) pss_nil) (@pss_cons _ _ _ _ _ (@ps_set _ _ 5 _ _ _ _ nd rfl (Or.inl rfl) (@pe_lst _ _ _ _ pa_nil) (by rfl) (by first | exact .inl rfl | exact .inr rfl | assumption)) (@pss_cons _ _ _ _ _ (@ps_for _ _ _ _ _ _ _ _ PassesOwn.leaving rfl (pi_tup (pe_call GI hr1 rfl T.m_ZI T.k_ZI T.b_ZI .nil pass0 (@pa_cons _ _ _ _ _ (pv 1) pa_nil (by rfl)))) (pg_name (i:=6) nd rfl (Or.inl rfl)) (@pss_one _ _ _ (@ps_expr _ _ _ _ (pe_bm PySem.F.plainAttrs_list PySem.F.slot_list_append PySem.F.type_list_append mt_append (pv 5) (@pa_cons _ _ _ _ _ (pe_meth (pv 0) T.cl_PlainRun T.M_Zh GV hrV T.b_Zh .nil (pass2 fun _ z=>z) (@pa_cons _ _ _ _ _ (pv 6) (@pa_cons _ _ _ _ _ (pv 2) (@pa_cons _ _ _ _ _ (pv 3) pa_nil (by rfl)) (by rfl)) (by rfl))) pa_nil (by rfl))) (by rfl))) (by intro _;rfl)) (@pss_cons _ _ _ _ _ (@ps_if _ _ _ _ _ _ _ _ (@pt_cmpR _ _ _ _ _ _ _ _ op_eq (pv 4) pe_str (nomark _)) (@pss_one _ _ _ (@ps_ret _ _ _ _ (pe_meth (pv 0) T.cl_PlainRun T.M_Zi GGB hrG T.b_Zi .nil (pass2 fun _ z=>z) (@pa_cons _ _ _ _ _ (@pe_ix _ _ _ _ _ _ _ (ix_tupK (K:=K) rfl) (pv 1) pe_int (fun _ _=>rfl)) (@pa_cons _ _ _ _ _ (pv 5) (@pa_cons _ _ _ _ _ (pv 3) pa_nil (by rfl)) (by rfl)) (by rfl))))) pss_nil) (@pss_cons _ _ _ _ _ (@ps_if _ _ _ _ _ _ _ _ (@pt_cmpR _ _ _ _ _ _ _ _ op_eq (pv 4) pe_str (nomark _)) (@pss_one _ _ _ (@ps_ret _ _ _ _ (@pe_op _ _ _ _ _ _ _ _ (op_catTK (K:=K) rfl) (@pe_tup _ _ _ _ _ (@pa_cons _ _ _ _ _ (@pe_ix _ _ _ _ _ _ _ (ix_tupK (K:=K) rfl) (pv 1) pe_int (fun _ _=>rfl)) pa_nil (by rfl))) (pe_callTy (call_tuple_ofK (K:=K) rfl) rfl T.n_tuple bt_tuple (@pa_cons _ _ _ _ _ (pv 5) pa_nil (by rfl)))))) pss_nil) (@pss_cons _ _ _ _ _ (@ps_if _ _ _ _ _ _ _ _ (@pt_cmpR _ _ _ _ _ _ _ _ op_eq (pv 4) pe_str (nomark _)) (@pss_one _ _ _ (@ps_ret _ _ _ _ (pe_call GFV hr1 rfl T.m_Zs T.k_Zs T.b_Zs .nil pass0 (@pa_cons _ _ _ _ _ (@pe_ix _ _ _ _ _ _ _ (ix_listK (K:=K) rfl) (pv 5) pe_int (fun _ _=>rfl)) (@pa_cons _ _ _ _ _ (@pe_ix _ _ _ _ _ _ _ (ix_tupK (K:=K) rfl) (pv 1) pe_int (fun _ _=>rfl)) (@pa_cons _ _ _ _ _ (pe_dget hu (pe_fld (pv 0) rfl) (@pe_tup _ _ _ _ _ (@pa_cons _ _ _ _ _ pe_str (@pa_cons _ _ _ _ _ (@pe_ix _ _ _ _ _ _ _ (ix_tupK (K:=K) rfl) (@pe_ix _ _ _ _ _ _ _ (ix_listK (K:=K) rfl) (pv 5) pe_int (fun _ _=>rfl)) pe_int (fun _ _=>rfl)) pa_nil (by rfl)) (by rfl))) (fun _ _=>rfl)) pa_nil (by rfl)) (by rfl)) (by rfl))))) pss_nil) (@pss_one _ _ _ (@ps_ret _ _ _ _ (pe_call GRK hr2 rfl T.m_ZJ T.k_ZJ T.b_ZJ .nil pass0 (@pa_cons _ _ _ _ _ (pv 4) (@pa_cons _ _ _ _ _ (pv 5) pa_nil (by rfl)) (by rfl))))))))))))),?_⟩
  rcases ev_inv hev with ⟨i,rfl,rfl,rfl,hi⟩ | ⟨z,rfl,rfl,rfl⟩ | ⟨z,rv,rfl,rfl,rfl,hρ⟩ | ⟨m',es1,rfl,hpl,hlen,hc⟩
  ·obtain ⟨ta,rfl,ht⟩:=x_num hE
   refine ⟨_,rfl,ta,_,_,_,rfl,rfl,SqT.of ht,atI_nat (j:=0) rfl,?_⟩
   dsimp only [gName]
   refine ⟨_,rfl,(by show 2<=sizeLine;decide),fun pt hpt=>⟨pt,nt2.map V.str,rfl,.inr (SqT.of upd_same),rfl,rfl,_,rfl,?_⟩⟩
   refine iteTb (in_strsB (decide_eq_true (by decide +kernel))) ?_
   have s1:=same_upd (o:=.tup (nt2.map V.str)) hpt
   exact ⟨_,rfl,ta,_,_,_,rfl,rfl,SqT.of (s1 _ _ ht),atI_nat (j:=1) rfl,hO.ok _ rfl S rfl _ (hR.same s1) (Same.msk' s1 _) _ ⟨rfl,.inl ⟨i,rfl,hi.1,hi.2⟩⟩⟩
  ·obtain ⟨ta,rfl,ht⟩:=x_truth hE
   refine ⟨_,rfl,ta,_,_,_,rfl,rfl,SqT.of ht,atI_nat (j:=0) rfl,?_⟩
   dsimp only [gName]
   refine ⟨_,rfl,(by show 2<=sizeLine;decide),fun pt hpt=>⟨pt,nt2.map V.str,rfl,.inr (SqT.of upd_same),rfl,rfl,_,rfl,?_⟩⟩
   refine iteTb (in_strsB (decide_eq_true (by decide +kernel))) ?_
   have s1:=same_upd (o:=.tup (nt2.map V.str)) hpt
   exact ⟨_,rfl,ta,_,_,_,rfl,rfl,SqT.of (s1 _ _ ht),atI_nat (j:=1) rfl,hO.ok _ rfl S rfl _ (hR.same s1) (Same.msk' s1 _) _ ⟨rfl,.inr ⟨z,rfl⟩⟩⟩
  ·obtain ⟨ta,rfl,ht⟩:=x_name hE
   refine ⟨_,rfl,ta,_,_,_,rfl,rfl,SqT.of ht,atI_nat (j:=0) rfl,?_⟩
   dsimp only [gName]
   refine ⟨_,rfl,(by show 2<=sizeLine;decide),fun pt hpt=>⟨pt,nt2.map V.str,rfl,.inr (SqT.of upd_same),rfl,rfl,_,rfl,?_⟩⟩
   refine iteFb (in_strsB (decide_eq_false (by decide +kernel))) ?_
   have s1:=same_upd (o:=.tup (nt2.map V.str)) hpt
   have ht1:=s1 _ _ ht
   obtain ⟨kvs,hna,hkl,hkv⟩:=hN.same s1
   obtain ⟨x,hx,hxv⟩:∃ x,valV kvs (.inr z)=some x/\VAt _ x rv:=by
    rcases hkv z with ⟨_,h⟩ | ⟨x,r2,h1,h2,h3⟩
    ·rw [hρ] at h;cases h
    ·rw [hρ] at h2;cases h2;exact ⟨x,h1,h3⟩
   have hg:=DGet.k (k:=.inr z) hna
   rw [hx] at hg
   dsimp only [tNext]
   refine ⟨_,rfl,rfl,_,rfl,iteTb (decide_eq_true rfl) ?_⟩
   refine ⟨_,rfl,ta,_,_,_,rfl,rfl,SqT.of ht1,atI_nat (j:=1) rfl,_,rfl,na,_,rfl,hg,_,rfl,?_⟩
   refine iteF ?_
   exact ⟨_,rfl,_,rfl,ta,_,_,_,rfl,rfl,SqT.of ht1,atI_nat (j:=1) rfl,na,x,rfl,hg,hO.ok _ rfl S rfl _ (hR.same s1) (Same.msk' s1 _) _ hxv⟩
  obtain ⟨rs0,fs,hL,ees,hend⟩:∃ rs0 fs,EvL tt m' dp ρ (prtX e) es1 rs0/\es=es1++fs/\((rs0=.deep/\fs=[]/\res=.deep)∨∃ vs,rs0=.ok vs/\FinX tt m' dp e vs fs res):=by
   rcases hc with ⟨h1,rfl,rfl⟩ | ⟨vs,fs,h1,rfl,h2⟩
   ·exact ⟨_,[],h1,by simp,.inl ⟨rfl,rfl,rfl⟩⟩
   ·exact ⟨_,fs,h1,rfl,.inr ⟨vs,rfl,h2⟩⟩
  subst ees
  obtain ⟨ta,ys,rfl,hta,_⟩:=ex_head3 hE hpl
  have hnot:hdW e∉nt2/\hdW e≠"name":=by
   refine hd_not hpl (fun i q=>?_) (fun z q=>?_) (fun z q=>?_)
   all_goals subst q;rcases hend with ⟨h1,_⟩ | ⟨vs,_,h2⟩
   all_goals first | (subst h1;cases hL) | cases h2
  refine ⟨_,rfl,ta,_,_,_,rfl,rfl,SqT.of hta,atI_nat (j:=0) rfl,?_⟩
  dsimp only [gName]
  refine ⟨_,rfl,(by show 2<=sizeLine;decide),fun pt hpt=>⟨pt,nt2.map V.str,rfl,.inr (SqT.of upd_same),rfl,rfl,_,rfl,?_⟩⟩
  refine iteFb (in_strsB (decide_eq_false hnot.1)) ?_
  have s1:=same_upd (o:=.tup [.str "num",.str "truth"]) hpt
  generalize upd H pt (.tup [.str "num",.str "truth"])=H1 at s1 ⊢
  dsimp only [tNext]
  refine ⟨_,rfl,rfl,_,rfl,iteFb (sk hnot.2) ?_⟩
  dsimp only [tNext]
  refine ⟨Nat.zero_le _,fun p hp=>?_⟩
  have s2:=s1.trans (same_upd (o:=.lst []) hp)
  have hp2:upd H1 p (.lst []) p=some (.lst []):=upd_same
  generalize upd H1 p (.lst [])=H2 at s2 hp2 ⊢
  have hpn:H p=none:=Same.free s1 hp
  have hpl':p≠tl/\p≠l:=⟨(fun z=>by have:=hR.told;rw [<- z,hpn] at this;cases this),(fun z=>by have:=hR.log;rw [<- z,hpn] at this;cases this)⟩
  have hpB:B p=none:=Same.free hR.bs hpn
  dsimp only [gName]
  refine cut_for (fun σ' H'=>∃ x6 zs rvs S1,σ'=[some (.ref o),some (.ref ta),some (.ref na),some (.int ((dp:Nat):Int)),some (.str (hdW e)),some (.ref p),x6]/\H' p=some (.lst zs)/\VsAt H' zs rvs/\RA AA.c_PlainRun B H' o dx d1 tl l most F S1/\0<S1.log.length/\Same (msk H [tl,l]) (msk H' [tl,l])/\rs0=.ok rvs/\OutR AA.c_PlainRun AA.x_RunEnd B o dx d1 tl l most F [tl,l] E (KKv Q) res H S1 fs) (fun R hR'=>?_) ?_
  ·refine ⟨_,rfl,.ref ta,e,rfl,hE.kept s2.ls.1,hpl,fun tq yq H3 s3 htq hkq=>⟨tq,rfl,⟨_,SqT.of htq⟩,?_⟩⟩
   have hql:=ExsAt.len hkq
   have s23:=s2.trans s3
   refine for_tup (K:=K) (a:=tq) (xs:=yq) (fun i σ' H'=>∃ x6 zs rvs S1 eb rb,σ'=[some (.ref o),some (.ref ta),some (.ref na),some (.int ((dp:Nat):Int)),some (.str (hdW e)),some (.ref p),x6]/\H' p=some (.lst zs)/\zs.length<=i/\VsAt H' zs rvs/\RA AA.c_PlainRun B H' o dx d1 tl l most F S1/\S.log.length<=S1.log.length/\Same (msk H [tl,l]) (msk H' [tl,l])/\H' tq=some (.tup yq)/\ExsAt H' yq (prtX e) /\
     EvL tt m' dp ρ ((prtX e).drop i) eb rb/\((rb=.deep/\rs0=.deep)∨∃ vb,rb=.ok vb/\rs0=.ok (rvs++vb))/\OutR AA.c_PlainRun AA.x_RunEnd B o dx d1 tl l most F [tl,l] E (KKv Q) res H S1 (eb++fs))
    ⟨_,[],[],S,es1,rs0,rfl,s3 _ _ hp2,Nat.le_refl _,trivial,hR.same s23,Nat.le_refl _,Same.msk' s23 _,htq,hkq,hL,?_,hO⟩ (fun i σ' H' _ h=>?_) ?_ ?_
   ·cases rs0 with
    | deep=>exact .inl ⟨rfl,rfl⟩
    | ok vb=>exact .inr ⟨vb,rfl,rfl⟩
   ·obtain ⟨x6,zs,rvs,S1,eb,rb,_,_,_,_,_,_,_,h,_⟩:=h
    exact SqT.of h
   ·rintro i u σ' H4 hu' ⟨x6,zs,rvs,S1,eb,rb,rfl,hp4,hzl,hvs,hR4,hl4,s4,htq4,hkq4,hL4,hrb,hO4⟩
    obtain ⟨c,hc',hC⟩:=ExsAt.get hkq4 hu'
    obtain ⟨hi',ec⟩:=List.getElem?_eq_some_iff.mp hc'
    rw [List.drop_eq_getElem_cons hi',ec] at hL4
    obtain ⟨ea,ec2,r,rfl,hX,hnx⟩:=evl_inv hL4
    dsimp only [gName]
    refine ⟨_,rfl,.inl ⟨rfl,_,SqL.of hp4⟩,_,rfl,o,dx,_,rfl,hR4.ins,rfl,_,rfl,_,rfl,_,rfl,?_⟩
    refine ⟨B,o,dx,d1,tl,l,na,u,most,dp,m',F,S1,c,ρ,ea,r,rfl,hR4,hF,by omega,(hR.nmr s4 hN).mono hl4,hC,by omega,hX,?_⟩
    rw [List.append_assoc] at hO4
    refine ⟨fun S' q H' hR'=>hO4.long S' (appE_false q) H' hR',fun rv er S' q H5 hR5 s5 x hx=>?_,fun er S' q H5 hR5=>?_⟩
    ·rcases hnx with ⟨h1,_⟩ | ⟨v1,rs',h1,h2,h3⟩
     ·rw [h1] at er;cases er
     rw [h1] at er
     cases er
     have hp5:H5 p=some (.lst zs):=hR4.tup s5 hp4 hpl'.1 hpl'.2
     refine ⟨p,zs,x,rfl,rfl,hp5,small1000 (by omega),?_⟩
     have tS:TupS H5 (upd H5 p (.lst (zs++[x]))):=fun b xs hb=>by
      rw [upd_ne (fun q=>by rw [q,hp5] at hb;cases hb)];exact hb
     have kv:∀ y ry,VAt H5 y ry->VAt (upd H5 p (.lst (zs++[x]))) y ry:=fun y ry hy=>by
      cases ry with
      | pl u=>exact hy
      | rcd z vs =>
       obtain ⟨t,e1,q1,q2⟩:=hy
       exact ⟨t,e1,tS _ _ q1,q2⟩
     have sB:Same B (upd H5 p (.lst (zs++[x]))):=same_upd' hR5.bs hpB
     have np:∀ {b:Addr} {ob:HO},H5 b=some ob->(∀ ys,ob≠.lst ys)->upd H5 p (.lst (zs++[x])) b=some ob:=fun {b ob} hb hn=>by
      rw [upd_ne (fun q=>by rw [q,hp5] at hb;cases hb;exact hn _ rfl)];exact hb
     have sf:Same (msk H [tl,l]) (msk (upd H5 p (.lst (zs++[x]))) [tl,l]):=fun b u hb=>by
      obtain ⟨h1,h2⟩:=msk_some hb
      have:=(s4.trans s5) b u hb
      rw [msk_no h1] at this ⊢
      rw [upd_ne (ne_of_none h2 hpn)]
      exact this
     have hR6:RA AA.c_PlainRun B (upd H5 p (.lst (zs++[x]))) o dx d1 tl l most F S' :=
      ⟨np hR5.ins (fun _ q=>nomatch q),np hR5.fst (fun _ q=>nomatch q),by rw [upd_ne hpl'.1.symm];exact hR5.told,by rw [upd_ne hpl'.2.symm];exact hR5.log,hR5.ne,hR5.b1,hR5.b3,hR5.b4,sB,hR5.bt,hR5.bl⟩
     refine ⟨_,zs++[x],rvs++[_],S',ec2,rs',rfl,upd_same,by simp;omega,VsAt.snoc (kv _ _ hx) (hvs.map fun y ry hy=>kv _ _ (hR4.vat s5 hy)),hR6,Nat.le_trans hl4 (appE_len q),sf,tS _ _ (hR4.tups s5 _ _ htq4),(hkq4.kept (hR4.tups s5)).kept tS,h2,?_,?_⟩
     ·rcases h3 with ⟨rfl,h4⟩ | ⟨vs,rfl,h4⟩
      ·refine .inl ⟨rfl,?_⟩
       rcases hrb with ⟨_,h5⟩ | ⟨vb,h5,_⟩
       ·exact h5
       ·rw [h4] at h5;cases h5
      ·refine .inr ⟨vs,rfl,?_⟩
       rcases hrb with ⟨h5,_⟩ | ⟨vb,h5,h6⟩
       ·rw [h4] at h5;cases h5
       ·rw [h4] at h5
        cases h5
        rw [h6];simp
     ·exact hO4.step q (Same.refl _)
    ·rcases hnx with ⟨h1,h2,h3⟩ | ⟨v1,rs',h1,_⟩
     ·subst h3
      have e0:rs0=.deep:=by
       rcases hrb with ⟨_,h5⟩ | ⟨vb,h5,_⟩
       ·exact h5
       ·rw [h2] at h5;cases h5
      rcases hend with ⟨_,rfl,e2⟩ | ⟨vs,e1,_⟩
      ·exact hO4.deep e2 S' (by rw [appE_true q];rfl) H5 hR5
      ·rw [e0] at e1;cases e1
     ·rw [h1] at er;cases er
   ·rintro σ' H4 ⟨x6,zs,rvs,S1,eb,rb,rfl,hp4,hzl,hvs,hR4,hl4,s4,htq4,hkq4,hL4,hrb,hO4⟩
    rw [hql,List.drop_length] at hL4
    cases hL4
    refine hR' _ _ ⟨x6,zs,rvs,S1,rfl,hp4,hvs,hR4,by omega,s4,?_,hO4⟩
    rcases hrb with ⟨h,_⟩ | ⟨vb,h,h2⟩
    ·cases h
    ·cases h
     rw [h2,List.append_nil]
  ·rintro σ' H4 ⟨x6,zs,rvs,S1,rfl,hp4,hvs,hR4,hl4,s4,e0,hO4⟩
   rcases hend with ⟨h,_⟩ | ⟨vs,e1,hfin⟩
   ·rw [e0] at h;cases h
   rw [e0] at e1
   cases e1
   have hta4:∀ {xs:List V},H ta=some (.tup xs)->H4 ta=some (.tup xs):=fun h=>hR.tups s4 _ _ h
   by_cases hd:∃ z as,e=.many "do" z as
   ·obtain ⟨z,as,rfl⟩:=hd
    obtain ⟨t0,l0,e2,ht0⟩:=x_many hE
    cases e2
    have ht4:=hta4 ht0
    refine ⟨_,rfl,rfl,_,rfl,iteTb (decide_eq_true rfl) ?_⟩
    refine ⟨_,rfl,o,dx,_,rfl,hR4.ins,rfl,_,rfl,ta,_,_,_,rfl,rfl,SqT.of ht4,atI_nat (j:=1) rfl,_,rfl,_,rfl,?_⟩
    exact ⟨B,o,dx,d1,tl,l,p,z,most,dp,m',F,S1,zs,as,rvs,fs,res,rfl,hR4,hF,hl4,hp4,hvs,by omega,hfin,hO4.mov s4⟩
   cases hfin with
   | @op w a b x y v hw hv =>
    obtain ⟨n1,n2,n3,n4,n5,n6⟩:=ops_not w hw
    refine ⟨_,rfl,rfl,_,rfl,iteFb (sk n5) ?_⟩
    dsimp only [tNext]
    refine ⟨_,rfl,rfl,_,rfl,iteFb (sk n6) ?_⟩
    dsimp only [tNext]
    refine ⟨_,rfl,rfl,_,rfl,iteFb (sk n3) ?_⟩
    dsimp only [tNext]
    obtain ⟨e2,hP⟩:=VsAt.pls (us:=[x,y]) hvs
    subst e2
    exact ⟨_,rfl,_,rfl,p,w,v,rfl,.inr ⟨x,y,hp4,hP x (by simp),hv⟩,hO4.ok _ rfl S1 rfl _ hR4 s4 _ ⟨rfl,reck_pl hv⟩⟩
   | @new z as vs hvl =>
    obtain ⟨t0,l0,e2,ht0⟩:=x_many hE
    cases e2
    have ht4:=hta4 ht0
    obtain ⟨e2,hP⟩:=VsAt.pls hvs
    subst e2
    refine ⟨_,rfl,rfl,_,rfl,iteFb (sk (by show ("new":Str)≠"do";decide +kernel)) ?_⟩
    dsimp only [tNext]
    refine ⟨_,rfl,rfl,_,rfl,iteTb (decide_eq_true rfl) ?_⟩
    refine ⟨_,rfl,ta,_,_,_,rfl,rfl,SqT.of ht4,atI_nat (j:=1) rfl,(by show 1<=sizeLine;decide),fun q1 hq1=>?_⟩
    have s5:=same_upd (o:=.tup [.str z]) hq1
    refine ⟨_,rfl,p,zs,rfl,.inl ⟨SqL.of (s5 _ _ hp4),fun q2 hq2=>?_⟩⟩
    have s6:=same_upd (o:=.tup zs) hq2
    refine ⟨q1,q2,[.str z],zs,rfl,rfl,SqT.of (s6 _ _ upd_same),SqT.of upd_same,(by simp),Nat.le_of_lt (small1000 (by simp;omega)),fun hz=>?_,fun hz q3 hq3=>?_⟩
    ·subst hz
     have s56:=s5.trans s6
     exact hO4.ok _ rfl S1 rfl _ (hR4.same s56) (s4.trans (Same.msk' s56 _)) _ ⟨q1,rfl,s6 _ _ upd_same,hP⟩
    ·have s567:=(s5.trans s6).trans (same_upd (o:=.tup ([.str z]++zs)) hq3)
     exact hO4.ok _ rfl S1 rfl _ (hR4.same s567) (s4.trans (Same.msk' s567 _)) _ ⟨q3,rfl,upd_same,hP⟩
   | @of f z a vs r j ps v hk hps hj hv =>
    obtain ⟨t0,ve,e2,ht0⟩:=x_of hE
    cases e2
    have ht4:=hta4 ht0
    obtain ⟨x,exs,hx⟩:∃ x,zs=[x]/\VAt H4 x (.rcd z vs):=by
     match zs,hvs with
     | [x],h=>exact ⟨x,rfl,h.1⟩
    subst exs
    obtain ⟨tr,rfl,htr,hpv⟩:=hx
    refine ⟨_,rfl,rfl,_,rfl,iteFb (sk (by show ("of":Str)≠"do";decide +kernel)) ?_⟩
    dsimp only [tNext]
    refine ⟨_,rfl,rfl,_,rfl,iteFb (sk (by show ("of":Str)≠"new";decide +kernel)) ?_⟩
    dsimp only [tNext]
    refine ⟨_,rfl,rfl,_,rfl,iteTb (decide_eq_true rfl) ?_⟩
    obtain ⟨v1,t1,hv1,hS1,ht1⟩:∃ v t,valV F [.inr "kind",.inr z]=some v/\SAt B false v t/\fst3 ("kind",z) tt=some t:=by
     rcases hF ("kind",z) with ⟨_,h⟩ | h
     ·rw [hk] at h;cases h
     ·exact h
    rw [hk] at ht1
    cases ht1
    refine ⟨_,rfl,p,_,_,_,rfl,rfl,SqL.of hp4,atI_nat (j:=0) rfl,_,rfl,ta,_,_,_,rfl,rfl,SqT.of ht4,atI_nat (j:=1) rfl,?_⟩
    refine ⟨_,rfl,o,AA.c_PlainRun,dx,_,_,rfl,hR4.ins,T.cl_PlainRun,T.na_PlainRun_firsts,rfl,_,rfl,p,_,_,_,rfl,rfl,SqL.of hp4,atI_nat (j:=0) rfl,tr,_,_,_,rfl,rfl,SqT.of htr,atI_nat (j:=0) rfl,(by show 2<=sizeLine;decide),fun pk hpk=>?_⟩
    have s5:=same_upd (o:=.tup [.str "kind",.str z]) hpk
    have hR5:=hR4.same s5
    have hg:=DGet.t (k:=[.inr "kind",.inr z]) hR5.fst (show _=some (.tup [.str "kind",.str z]) from upd_same)
    rw [hv1] at hg
    refine ⟨d1,_,rfl,hg,?_⟩
    refine ⟨tr,z,z,f,vs,_,v,r,j,ps,rfl,s5 _ _ htr,hS1.kept hR5.bs.ls,hps,hj,hv,fun H6 s6=>?_⟩
    exact hO4.ok _ rfl S1 rfl _ (hR5.same s6) (s4.trans (Same.msk' (s5.trans s6) _)) _ ⟨rfl,hpv v (List.mem_of_getElem? hv)⟩
   | run h1 h2 h3=>exact absurd ⟨_,_,rfl⟩ hd
   | runI h1 h2 h3=>exact absurd ⟨_,_,rfl⟩ hd
   | runD h1=>exact absurd ⟨_,_,rfl⟩ hd
end
section
variable {P:Program} {w:World} {K:PySem.W.Frag} {mg:Str->Option Value} {base:Heap} {AA:Adr} {DD:Fds}
noncomputable def spS (C X:Addr) (tt:List Tr) (n:Nat):Sp:=fun vs H Q E=>∃ (B:Hp) (o dx d1 tl l na:Addr) (v:V) (most dp m:Nat) (F:List (List Key × V)) (S:RS) (t:Tr) (e:Ex) (ρ:REnv) (es:List Evn) (res:Rs RV),vs=[.ref o,v,.ref na,.int ((dp:Nat):Int)] /\
 RA C B H o dx d1 tl l most F S/\FoAt B F tt/\NmR H na ρ S.log.length/\SAt B false v t/\t.ex3=some e/\m<n/\EvX tt m dp ρ e es res/\OutR C X B o dx d1 tl l most F [tl,l] E (KKv Q) res H S (.lg t.row::es)
noncomputable abbrev N_Zo:List Str:=["self","one","names","depth"]
theorem sc_Zo:FnScope N_Zo ["self","one","names","depth"] (defScope st_Zo):=⟨rfl,rfl,rfl,by decide +kernel,rfl,by decide +kernel,by decide +kernel⟩
theorem ok_step (T:All P w K mg AA DD) (tt:List Tr) (n:Nat) (GV:FnOk P w K mg base (CX2 (fun _=>True) P w) (3*n+2) AA.Zh DD.Zh ["self","e","names","depth"] (spV AA.c_PlainRun AA.x_RunEnd tt n)) :
  FnOk P w K mg base (CX2 (fun _=>True) P w) (3*n+3) AA.Zo DD.Zo ["self","one","names","depth"] (spS AA.c_PlainRun AA.x_RunEnd tt n):=by
 have GX0:=ok_eo (base:=base) T
 have GI:=ok_xr (base:=base) T
 refine T.F_Zo.ok2 sc_Zo (fun vs H Q E h=>?_) (fun cdv A outer s H vs Q E hr h=>?_)
 ·obtain ⟨B,o,dx,d1,tl,l,na,v,most,dp,m,F,S,t,e,ρ,es,res,rfl,_⟩:=h
  rfl
 ·obtain ⟨B,o,dx,d1,tl,l,na,v,most,dp,m,F,S,t,e,ρ,es,res,rfl,hR,hF,hN,hS,hx,hm,hev,hO⟩:=h
  have nd:=sc_Zo.nd
  have hrV:Room (3*n+2) _:=hr
  have hr2:Room 2 _:=hrV.mono (by omega)
  have hr1:Room 1 _:=hrV.mono (by omega)
  refine ⟨_,(@pss_cons _ _ _ _ _ (@ps_if _ _ _ _ _ _ _ _ (@pt_cmpR _ _ _ _ _ _ _ _ op_ge (pe_callB call_len_seq rfl T.n_len bt_len (@pa_cons _ _ _ _ _ (pe_fld (pv 0) rfl) pa_nil (by rfl))) (pe_fld (pv 0) rfl) (nomark _)) (@pss_one _ _ _ (ps_raiseI body_cx (raise2 trivial) rfl rfl T.m_RunEnd T.M_RunEnd PySem.F.excBase_Exception GI hr2 T.b_Zx (@pa_cons _ _ _ _ _ pe_str pa_nil (by rfl)))) pss_nil) (@pss_cons _ _ _ _ _ (@ps_expr _ _ _ _ (pe_bm PySem.F.plainAttrs_list PySem.F.slot_list_append PySem.F.type_list_append mt_append (pe_fld (pv 0) rfl) (@pa_cons _ _ _ _ _ (@pe_ix _ _ _ _ _ _ _ (ix_tupK (K:=K) rfl) (pv 1) pe_int (fun _ _=>rfl)) pa_nil (by rfl))) (by rfl)) (@pss_one _ _ _ (@ps_ret _ _ _ _ (pe_meth (pv 0) T.cl_PlainRun T.M_Zh GV hrV T.b_Zh .nil (pass2 fun _ z=>z) (@pa_cons _ _ _ _ _ (pe_call GX0 hr1 rfl T.m_ZO T.k_ZO T.b_ZO .nil pass0 (@pa_cons _ _ _ _ _ (pv 1) pa_nil (by rfl))) (@pa_cons _ _ _ _ _ (pv 2) (@pa_cons _ _ _ _ _ (pv 3) pa_nil (by rfl)) (by rfl)) (by rfl))))))),?_⟩
  have hSH:=hS.kept hR.bs.ls
  obtain ⟨t0,vs,rfl,ht0,hps⟩:=s_inv hSH
  obtain ⟨vr,rfl⟩:=st_head hps
  refine ⟨_,rfl,o,AA.c_PlainRun,dx,_,_,rfl,hR.ins,T.cl_PlainRun,T.na_PlainRun_log,rfl,l,_,rfl,.inl (SqL.of hR.log),_,rfl,o,AA.c_PlainRun,dx,_,_,rfl,hR.ins,T.cl_PlainRun,T.na_PlainRun_most,rfl,_,_,rfl,rfl,_,rfl,?_⟩
  by_cases hl:S.log.length<most
  ·refine iteFb (decide_eq_false (by rw [List.length_map];omega)) ?_
   dsimp only [tNext]
   have hb4:=hR.b4
   refine ⟨_,rfl,o,AA.c_PlainRun,dx,_,_,rfl,hR.ins,T.cl_PlainRun,T.na_PlainRun_log,rfl,.inl ⟨rfl,_,SqL.of hR.log⟩,_,rfl,t0,_,_,_,rfl,rfl,SqT.of ht0,atI_nat (j:=1) rfl,l,_,_,rfl,rfl,hR.log,small1000 (by rw [List.length_map];omega),?_⟩
   have hR1:=hR.logged t.row hl
   have sm1:=msk_upd' (H:=H) (M:=[tl,l]) (a:=l) (o:=.lst (S.log.map (fun r=>V.int ((r:Nat):Int))++[.int ((t.row:Nat):Int)])) (by simp)
   generalize upd H l (.lst (S.log.map (fun r=>V.int ((r:Nat):Int))++[.int ((t.row:Nat):Int)]))=H1 at hR1 sm1 ⊢
   have hap:appE most S [.lg t.row]=(⟨S.told,S.log++[t.row]⟩,true):=by simp [appE,hl]
   have hO1:=OutR.step (ea:=[.lg t.row]) (eb:=es) hO hap sm1
   have hS1:=hS.kept hR1.bs.ls
   have hN1:NmR H1 na ρ (S.log++[t.row]).length:=(hR.nmr sm1 hN).mono (by simp)
   refine ⟨_,rfl,o,dx,_,rfl,hR1.ins,rfl,_,rfl,.ref t0,t,e,rfl,hS1,hx,fun ve hve=>?_⟩
   refine ⟨_,rfl,_,rfl,?_⟩
   exact ⟨B,o,dx,d1,tl,l,na,ve,most,dp,m,F,_,e,ρ,es,res,rfl,hR1,hF,by simp,hN1,hve,hm,hev,hO1⟩
  ·refine iteTb (decide_eq_true (by rw [List.length_map];omega)) ?_
   exact ⟨(by show 1<=sizeLine;decide),fun e tt hh _ _=>raise_RunEnd (hO.long S (by simp [appE,hl]) H hR) e tt hh⟩
noncomputable def spW (C X:Addr) (tt:List Tr) (n:Nat):Sp:=fun vs H Q E=>∃ (B:Hp) (o dx d1 tl l na:Addr) (v:V) (most dp m:Nat) (F:List (List Key × V)) (S:RS) (t:Tr) (ρ ρ':REnv) (es:List Evn) (res:Rs (Option RV)),vs=[.ref o,v,.ref na,.int ((dp:Nat):Int)] /\
 RA C B H o dx d1 tl l most F S/\FoAt B F tt/\NmR H na ρ S.log.length/\B na=none/\SAt B false v t/\m<n/\RunX tt m dp ρ t es ρ' res/\OutR C X B o dx d1 tl l most F [tl,l,na] E (KKr Q na ρ') res H S es
noncomputable def kd2:List Str:=["kind","def"]
theorem scal_pl {v:V} {z:Str} (h:PlV v):scal v (.str z)=true:=by
 rcases h with ⟨i,rfl,_⟩ | ⟨y,rfl⟩<;>rfl
theorem run_inv {tt:List Tr} {m dp:Nat} {ρ ρ':REnv} {t:Tr} {es:List Evn} {res:Rs (Option RV)} (h:RunX tt m dp ρ t es ρ' res) :
  (t.kw∈kd2/\es=[]/\ρ'=ρ/\res=.ok none)∨(t.kw∉kd2/\t.kw≠"while"/\∃ m' e ea eb r,m=m'+1/\t.ex3=some e/\es=.lg t.row::(ea++eb)/\EvX tt m' dp ρ e ea r /\
   ((r=.deep/\eb=[]/\res=.deep)∨∃ v,r=.ok v/\((∃ z,t=.set t.row z e/\eb=[]/\ρ'=ρ.put z v/\res=.ok none)∨(∃ u,t=.tell t.row e/\v=.pl u/\eb=[.tl u]/\evT ea<=evG ea/\ρ'=ρ/\res=.ok none) ∨
     (t=.give t.row e/\eb=[]/\ρ'=ρ/\res=.ok (some v))∨∃ x b q,t=.iff t.row e b q/\v=.pl x/\RunL tt m' dp ρ (if x=.str "yes" then b else q) eb ρ' res))):=by
 cases h with
 | skip h =>
  refine .inl ⟨?_,rfl,rfl,rfl⟩
  cases t with
  | df r n k ps b=>show ("def":Str)∈kd2;decide +kernel
  | kd r n ps=>show ("kind":Str)∈kd2;decide +kernel
  | _=>exact absurd rfl h
 | set h=>exact .inr ⟨by show ("set":Str)∉kd2;decide +kernel,by show ("set":Str)≠"while";decide +kernel,_,_,_,[],_,rfl,rfl,by simp [Tr.row],h,.inr ⟨_,rfl,.inl ⟨_,rfl,rfl,rfl,rfl⟩⟩⟩
 | tell h b=>exact .inr ⟨by show ("tell":Str)∉kd2;decide +kernel,by show ("tell":Str)≠"while";decide +kernel,_,_,_,_,_,rfl,rfl,rfl,h,.inr ⟨_,rfl,.inr (.inl ⟨_,rfl,rfl,rfl,b,rfl,rfl⟩)⟩⟩
 | give h=>exact .inr ⟨by show ("give":Str)∉kd2;decide +kernel,by show ("give":Str)≠"while";decide +kernel,_,_,_,[],_,rfl,rfl,by simp [Tr.row],h,.inr ⟨_,rfl,.inr (.inr (.inl ⟨rfl,rfl,rfl,rfl⟩))⟩⟩
 | iff h g=>exact .inr ⟨by show ("if":Str)∉kd2;decide +kernel,by show ("if":Str)≠"while";decide +kernel,_,_,_,_,_,rfl,rfl,rfl,h,.inr ⟨_,rfl,.inr (.inr (.inr ⟨_,_,_,rfl,rfl,g⟩))⟩⟩
 | deep h1 h2 h3 =>
  refine .inr ⟨?_,?_,_,_,_,[],_,rfl,h1,by simp,h3,.inl ⟨rfl,rfl,rfl⟩⟩
  ·cases t with
   | df r n k ps b=>cases h1
   | kd r n ps=>cases h1
   | set r z e=>show ("set":Str)∉kd2;decide +kernel
   | tell r e=>show ("tell":Str)∉kd2;decide +kernel
   | give r e=>show ("give":Str)∉kd2;decide +kernel
   | iff r e b q=>show ("if":Str)∉kd2;decide +kernel
   | whl r e b=>show ("while":Str)∉kd2;decide +kernel
  ·cases t with
   | df r n k ps b=>cases h1
   | kd r n ps=>cases h1
   | set r z e=>show ("set":Str)≠"while";decide +kernel
   | tell r e=>show ("tell":Str)≠"while";decide +kernel
   | give r e=>show ("give":Str)≠"while";decide +kernel
   | iff r e b q=>show ("if":Str)≠"while";decide +kernel
   | whl r e b=>exact absurd rfl (h2 r e b)
noncomputable abbrev N_Zm:List Str:=["self","one","names","depth","word","value"]
theorem sc_Zm:FnScope N_Zm ["self","one","names","depth"] (defScope st_Zm):=⟨rfl,rfl,rfl,by decide +kernel,rfl,by decide +kernel,by decide +kernel⟩
theorem ok_rowr (T:All P w K mg AA DD) (tt:List Tr) (n:Nat) (GV:FnOk P w K mg base (CX2 (fun _=>True) P w) (3*n+2) AA.Zh DD.Zh ["self","e","names","depth"] (spV AA.c_PlainRun AA.x_RunEnd tt n))
  (GRS:FnOk P w K mg base (CX2 (fun _=>True) P w) (3*n+3) AA.Zg DD.Zg ["self","statements","names","depth"] (spRR AA.c_PlainRun AA.x_RunEnd tt n)) :
  FnOk P w K mg base (CX2 (fun _=>True) P w) (3*n+5) AA.Zm DD.Zm ["self","one","names","depth"] (spW AA.c_PlainRun AA.x_RunEnd tt (n+1)):=by
 have GSTP:=ok_step (base:=base) T tt n GV
 refine T.F_Zm.ok2 sc_Zm (fun vs H Q E h=>?_) (fun cdv A outer s H vs Q E hr h=>?_)
 ·obtain ⟨B,o,dx,d1,tl,l,na,v,most,dp,m,F,S,t,ρ,ρ',es,res,rfl,_⟩:=h
  rfl
 ·obtain ⟨B,o,dx,d1,tl,l,na,v,most,dp,m,F,S,t,ρ,ρ',es,res,rfl,hR,hF,hN,hBn,hS,hm,hrun,hO⟩:=h
  have nd:=sc_Zm.nd
  have hrH:Room (3*n+4) _:=hr
  have hrS:Room (3*n+3) _:=hrH.mono (by omega)
  have hrS1:=hrS
  have hu:=Nat.lt_of_le_of_lt (Nat.add_le_add_left (show 1<=64 by decide) _) hr.units
  refine ⟨_,(@pss_cons _ _ _ _ _ (@ps_set _ _ 4 _ _ _ _ nd rfl (Or.inl rfl) (@pe_ix _ _ _ _ _ _ _ (ix_tupK (K:=K) rfl) (pv 1) pe_int (fun _ _=>rfl)) (by rfl) (by first | exact .inl rfl | exact .inr rfl | assumption)) (@pss_cons _ _ _ _ _ (@ps_if _ _ _ _ _ _ _ _ (@pt_cmpR _ _ _ _ _ _ _ _ (op_in_seqK (K:=K) rfl) (pv 4) (@pe_tup _ _ _ _ _ (@pa_cons _ _ _ _ _ pe_str (@pa_cons _ _ _ _ _ pe_str pa_nil (by rfl)) (by rfl))) rfl) (@pss_one _ _ _ (@ps_ret _ _ _ _ pe_non)) pss_nil) (@pss_cons _ _ _ _ _ (@ps_if _ _ _ _ _ _ _ _ (@pt_cmpR _ _ _ _ _ _ _ _ op_eq (pv 4) pe_str (nomark _)) pss_never pss_nil) (@pss_cons _ _ _ _ _ (@ps_set _ _ 5 _ _ _ _ nd rfl (Or.inl rfl) (pe_meth (pv 0) T.cl_PlainRun T.M_Zo GSTP hrS1 T.b_Zo .nil (pass2 fun _ z=>z) (@pa_cons _ _ _ _ _ (pv 1) (@pa_cons _ _ _ _ _ (pv 2) (@pa_cons _ _ _ _ _ (pv 3) pa_nil (by rfl)) (by rfl)) (by rfl))) (by rfl) (by first | exact .inl rfl | exact .inr rfl | assumption)) (@pss_cons _ _ _ _ _ (@ps_if _ _ _ _ _ _ _ _ (@pt_cmpR _ _ _ _ _ _ _ _ op_eq (pv 4) pe_str (nomark _)) (@pss_one _ _ _ (@ps_ret _ _ _ _ (pv 5))) pss_nil) (@pss_cons _ _ _ _ _ (@ps_if _ _ _ _ _ _ _ _ (@pt_cmpR _ _ _ _ _ _ _ _ op_eq (pv 4) pe_str (nomark _)) (@pss_one _ _ _ (@ps_ret _ _ _ _ (pe_meth (pv 0) T.cl_PlainRun T.M_Zg GRS hrS T.b_Zg .nil (pass2 fun _ z=>z) (@pa_cons _ _ _ _ _ (pe_ifExp (@pt_cmpR _ _ _ _ _ _ _ _ op_eq (pv 5) pe_str (nomark _)) (@pe_ix _ _ _ _ _ _ _ (ix_tupK (K:=K) rfl) (pv 1) pe_int (fun _ _=>rfl)) (@pe_ix _ _ _ _ _ _ _ (ix_tupK (K:=K) rfl) (pv 1) pe_int (fun _ _=>rfl))) (@pa_cons _ _ _ _ _ (pv 2) (@pa_cons _ _ _ _ _ (pv 3) pa_nil (by rfl)) (by rfl)) (by rfl))))) pss_nil) (@pss_cons _ _ _ _ _ (@ps_if _ _ _ _ _ _ _ _ (@pt_cmpR _ _ _ _ _ _ _ _ op_eq (pv 4) pe_str (nomark _)) (@pss_one _ _ _ (ps_dput hu (pv 2) (@pe_ix _ _ _ _ _ _ _ (ix_tupK (K:=K) rfl) (pv 1) pe_int (fun _ _=>rfl)) (pv 5) rfl)) (@pss_one _ _ _ (@ps_expr _ _ _ _ (pe_bm PySem.F.plainAttrs_list PySem.F.slot_list_append PySem.F.type_list_append mt_append (pe_fld (pv 0) rfl) (@pa_cons _ _ _ _ _ (pv 5) pa_nil (by rfl))) (by rfl)))) (@pss_one _ _ _ (@ps_ret _ _ _ _ pe_non))))))))),?_⟩
  have hb4:=hR.b4
  have hSH:=hS.kept hR.bs.ls
  obtain ⟨t0,vs,rfl,ht0,hps⟩:=s_inv hSH
  obtain ⟨vr,rfl⟩:=st_head hps
  refine ⟨_,rfl,t0,_,_,_,rfl,rfl,SqT.of ht0,atI_nat (j:=0) rfl,?_⟩
  dsimp only [gName]
  refine ⟨_,rfl,(by show 2<=sizeLine;decide),fun pt hpt=>⟨pt,kd2.map V.str,rfl,.inr (SqT.of upd_same),rfl,rfl,_,rfl,?_⟩⟩
  have s1:=same_upd (o:=.tup [.str "kind",.str "def"]) hpt
  rcases run_inv hrun with ⟨hk,rfl,rfl,rfl⟩ | ⟨hk,hw,m',e,ea,eb,r,rfl,hx,rfl,hev,hnx⟩
  ·refine iteTb (in_strsB (decide_eq_true hk)) ?_
   exact hO.ok none rfl S rfl _ (hR.same s1) (Same.msk' s1 _) (hN.same s1)
  refine iteFb (in_strsB (decide_eq_false hk)) ?_
  dsimp only [tNext]
  generalize upd H pt (.tup [.str "kind",.str "def"])=H1 at s1 ⊢
  have m1:=Same.msk' s1 [tl,l,na]
  have hR1:=hR.same s1
  have hO1:=hO.mov m1
  refine ⟨_,rfl,rfl,_,rfl,iteFb (sk hw) ?_⟩
  dsimp only [tNext]
  refine ⟨_,rfl,o,dx,_,rfl,hR1.ins,rfl,_,rfl,_,rfl,_,rfl,?_⟩
  refine ⟨B,o,dx,d1,tl,l,na,_,most,dp,m',F,S,t,e,ρ,ea,r,rfl,hR1,hF,hN.same s1,hS,hx,by omega,hev,?_⟩
  have hO1:OutR AA.c_PlainRun AA.x_RunEnd B o dx d1 tl l most F [tl,l,na] E (KKr Q na ρ') res H1 S ((.lg t.row::ea)++eb):=hO1
  refine ⟨fun S' q H' r'=>hO1.long S' (appE_false q) H' r',fun rv er S' q H2 hR2 s2 x hxv=>?_,fun er S' q H2 hR2=>?_⟩
  rotate_left
  ·rcases hnx with ⟨_,rfl,e2⟩ | ⟨v,e1,_⟩
   ·exact hO1.deep e2 S' (by rw [appE_true q];rfl) H2 hR2
   ·rw [e1] at er;cases er
  rcases hnx with ⟨e1,_⟩ | ⟨v,e1,hcs⟩
  ·rw [e1] at er;cases er
  rw [e1] at er
  cases er
  have hO2:=hO1.step q (fr_more s2)
  have hN2:NmR H2 na ρ S.log.length:=hR1.nmr s2 (hN.same s1)
  have hcnt:=appE_cnt q
  have hb3:=hR2.b3
  have hlen:S.log.length<S'.log.length:=by have:=hcnt.2;rw [evG] at this;omega
  dsimp only [gName]
  rcases hcs with ⟨z,et,rfl,rfl,rfl⟩ | ⟨u,et,rfl,rfl,hbal,rfl,rfl⟩ | ⟨et,rfl,rfl,rfl⟩ | ⟨x0,b,qb,et,rfl,hrs⟩
  ·rw [et] at hS ⊢
   obtain ⟨ta,ve,e2,ht,_⟩:=s_set (hS.kept hR2.bs.ls)
   cases e2
   refine ⟨_,rfl,rfl,_,rfl,iteFb (sk (by simp only [Tr.kw];decide +kernel)) ?_⟩
   dsimp only [tNext]
   refine ⟨_,rfl,rfl,_,rfl,iteFb (sk (by simp only [Tr.kw];decide +kernel)) ?_⟩
   dsimp only [tNext]
   refine ⟨_,rfl,rfl,_,rfl,iteTb (decide_eq_true rfl) ?_⟩
   obtain ⟨H3,hput,⟨o3,rfl⟩,hN3,kvs,hd3⟩:=hN2.put (by omega) z hxv
   refine ⟨_,rfl,_,rfl,_,rfl,_,_,_,_,rfl,rfl,SqT.of ht,atI_nat (j:=2) rfl,na,_,rfl,hput,?_⟩
   have nn:∀ {b:Addr} {ob:HO},H2 b=some ob->(∀ ks,ob≠.dK ks)->upd H2 na o3 b=some ob:=fun {b ob} hb hn=>by
    rw [upd_ne (fun q=>by rw [q,hd3] at hb;cases hb;exact hn _ rfl)];exact hb
   have hR3:RA AA.c_PlainRun B (upd H2 na o3) o dx d1 tl l most F S' :=
    ⟨nn hR2.ins (fun _ q=>nomatch q),nn hR2.fst (fun _ q=>nomatch q),nn hR2.told (fun _ q=>nomatch q),nn hR2.log (fun _ q=>nomatch q),hR2.ne,hR2.b1,hR2.b3,hR2.b4,same_upd' hR2.bs hBn,hR2.bt,hR2.bl⟩
   exact hO2.ok none rfl S' rfl _ hR3 (msk_upd' (by simp)) (hN3.mono (by omega))
  ·rw [et] at hS ⊢
   obtain ⟨rfl,hpu⟩:=hxv
   refine ⟨_,rfl,rfl,_,rfl,iteFb (sk (by simp only [Tr.kw];decide +kernel)) ?_⟩
   dsimp only [tNext]
   refine ⟨_,rfl,rfl,_,rfl,iteFb (sk (by simp only [Tr.kw];decide +kernel)) ?_⟩
   dsimp only [tNext]
   refine ⟨_,rfl,rfl,_,rfl,iteFb (sk (by simp only [Tr.kw];decide +kernel)) ?_⟩
   have hb1:=hR2.b1
   have hb1':=hR.b1
   have htl:S'.told.length<S'.log.length:=by have h1:=hcnt.1;have h2:=hcnt.2;rw [evT] at h1;rw [evG] at h2;omega
   refine ⟨_,rfl,o,AA.c_PlainRun,dx,_,_,rfl,hR2.ins,T.cl_PlainRun,T.na_PlainRun_told,rfl,.inl ⟨rfl,_,SqL.of hR2.told⟩,_,rfl,tl,_,_,rfl,rfl,hR2.told,small1000 (by omega),?_⟩
   have hR3:=hR2.tells x htl
   have sm3:=msk_upd' (H:=H2) (M:=[tl,l]) (a:=tl) (o:=.lst (S'.told++[x])) (by simp)
   exact hO2.ok none rfl ⟨S'.told++[x],S'.log⟩ rfl _ hR3 (fr_more sm3) ((hR2.nmr sm3 hN2).mono (by show S.log.length<=S'.log.length;omega))
  ·rw [et] at hS ⊢
   refine ⟨_,rfl,rfl,_,rfl,iteTb (decide_eq_true rfl) ?_⟩
   exact ⟨_,rfl,hO2.ok _ rfl S' rfl _ hR2 (Same.refl _) _ hxv⟩
  ·rw [et] at hS ⊢
   obtain ⟨rfl,hpu⟩:=hxv
   refine ⟨_,rfl,rfl,_,rfl,iteFb (sk (by simp only [Tr.kw];decide +kernel)) ?_⟩
   dsimp only [tNext]
   refine ⟨_,rfl,rfl,_,rfl,iteTb (decide_eq_true rfl) ?_⟩
   obtain ⟨ta,ve,lb,xs,lo,ys,e2,ht,_,hlb,hLb,hlo,hLo⟩:=s_iff hS
   cases e2
   have ht2:=hR2.bs _ _ ht
   have hO2:OutR AA.c_PlainRun AA.x_RunEnd B o dx d1 tl l most F [tl,l,na] E (KKr Q na ρ') res H2 S' eb:=hO2
   refine ⟨_,rfl,o,dx,_,rfl,hR2.ins,rfl,_,rfl,scal_pl hpu,_,rfl,?_⟩
   by_cases hy:x=.str "yes"
   ·refine iteTb (decide_eq_true hy) ?_
    rw [if_pos hy] at hrs
    refine ⟨_,rfl,_,_,_,_,rfl,rfl,SqT.of ht2,atI_nat (j:=3) rfl,_,rfl,_,rfl,?_⟩
    exact ⟨B,o,dx,d1,tl,l,na,lb,most,dp,m',F,S',xs,b,ρ,ρ',eb,res,rfl,hR2,hF,hN2.mono (by omega),hBn,hlb,hLb,by omega,hrs,hO2⟩
   ·refine iteFb (decide_eq_false hy) ?_
    rw [if_neg hy] at hrs
    refine ⟨_,rfl,_,_,_,_,rfl,rfl,SqT.of ht2,atI_nat (j:=4) rfl,_,rfl,_,rfl,?_⟩
    exact ⟨B,o,dx,d1,tl,l,na,lo,most,dp,m',F,S',ys,qb,ρ,ρ',eb,res,rfl,hR2,hF,hN2.mono (by omega),hBn,hlo,hLo,by omega,hrs,hO2⟩
theorem runl_inv {tt:List Tr} {n dp:Nat} {ρ ρ2:REnv} {t:Tr} {ts:List Tr} {es:List Evn} {res:Rs (Option RV)} (h:RunL tt n dp ρ (t::ts) es ρ2 res) :
  ∃ ea eb ρ1 r,es=ea++eb/\RunX tt n dp ρ t ea ρ1 r/\((r=.ok none/\RunL tt n dp ρ1 ts eb ρ2 res)∨(∃ v,r=.ok (some v)/\res=.ok (some v)/\eb=[]/\ρ1=ρ2)∨(r=.deep/\res=.deep/\eb=[])):=by
 cases h with
 | cons a b=>exact ⟨_,_,_,_,rfl,a,.inl ⟨rfl,b⟩⟩
 | stop a=>exact ⟨_,[],_,_,by simp,a,.inr (.inl ⟨_,rfl,rfl,rfl,rfl⟩)⟩
 | deep a=>exact ⟨_,[],_,_,by simp,a,.inr (.inr ⟨rfl,rfl,rfl⟩)⟩
theorem lat_get {H:Hp} {xs:List V} {ts:List Tr} (h:LAt H false xs ts) {i:Nat} {x:V} (hx:xs[i]?=some x):∃ t,ts[i]?=some t/\SAt H false x t:=by
 obtain ⟨t,ht,hO⟩:=h.get hx
 cases hO with
 | shared e _ _=>cases e
 | plain _ hS=>exact ⟨t,ht,hS⟩
noncomputable abbrev N_Zg:List Str:=["self","statements","names","depth","one","given"]
theorem sc_Zg:FnScope N_Zg ["self","statements","names","depth"] (defScope st_Zg):=⟨rfl,rfl,rfl,by decide +kernel,rfl,by decide +kernel,by decide +kernel⟩
theorem ok_rowsS (T:All P w K mg AA DD) (tt:List Tr) (n:Nat) (GV:FnOk P w K mg base (CX2 (fun _=>True) P w) (3*n+2) AA.Zh DD.Zh ["self","e","names","depth"] (spV AA.c_PlainRun AA.x_RunEnd tt n))
  (GRS:FnOk P w K mg base (CX2 (fun _=>True) P w) (3*n+3) AA.Zg DD.Zg ["self","statements","names","depth"] (spRR AA.c_PlainRun AA.x_RunEnd tt n)) :
  FnOk P w K mg base (CX2 (fun _=>True) P w) (3*(n+1)+3) AA.Zg DD.Zg ["self","statements","names","depth"] (spRR AA.c_PlainRun AA.x_RunEnd tt (n+1)):=by
 have GRW:=ok_rowr (base:=base) T tt n GV GRS
 refine T.F_Zg.ok2 sc_Zg (fun vs H Q E h=>?_) (fun cdv A outer s H vs Q E hr h=>?_)
 ·obtain ⟨B,o,dx,d1,tl,l,na,ls,most,dp,m,F,S,xs,ts,ρ,ρ',es,res,rfl,_⟩:=h
  rfl
 ·obtain ⟨B,o,dx,d1,tl,l,na,ls,most,dp,m,F,S,xs,ts,ρ,ρ',es,res,rfl,hR,hF,hN,hBn,hls,hL,hm,hrun,hO⟩:=h
  have nd:=sc_Zg.nd
  have hrW:Room (3*n+5) _:=hr
  refine ⟨_,(@pss_cons _ _ _ _ _ (@ps_for _ _ _ _ _ _ _ _ PassesOwn.leaving rfl (pi_list (pv 1)) (pg_name (i:=4) nd rfl (Or.inl rfl)) (@pss_cons _ _ _ _ _ (@ps_set _ _ 5 _ _ _ _ nd rfl (Or.inl rfl) (pe_meth (pv 0) T.cl_PlainRun T.M_Zm GRW hrW T.b_Zm .nil (pass2 fun _ z=>z) (@pa_cons _ _ _ _ _ (pv 4) (@pa_cons _ _ _ _ _ (pv 2) (@pa_cons _ _ _ _ _ (pv 3) pa_nil (by rfl)) (by rfl)) (by rfl))) (by rfl) (by first | exact .inl rfl | exact .inr rfl | assumption)) (@pss_one _ _ _ (@ps_if _ _ _ _ _ _ _ _ (pt_cmp (pc_notN (pv 5))) (@pss_one _ _ _ (@ps_ret _ _ _ _ (pv 5))) pss_nil))) (by intro _;rfl)) (@pss_one _ _ _ (@ps_ret _ _ _ _ pe_non))),?_⟩
  have hxl:=hL.length
  refine cut_for (fun σ' H'=>∃ S1,RA AA.c_PlainRun B H' o dx d1 tl l most F S1/\NmR H' na ρ' S1.log.length/\res=.ok none/\OutR AA.c_PlainRun AA.x_RunEnd B o dx d1 tl l most F [tl,l,na] E (KKr Q na ρ') res H' S1 []) (fun R hR'=>?_) ?_
  ·refine ⟨_,rfl,ls,rfl,⟨_,SqL.of (hR.bs _ _ hls)⟩,?_⟩
   refine for_list (K:=K) (a:=ls) (xs:=xs) (D:=⟨R,_,R,R⟩) (fun i σ' H'=>i<=xs.length/\∃ S1 x4 x5 ρ1 eb,σ'=[some (.ref o),some (.ref ls),some (.ref na),some (.int ((dp:Nat):Int)),x4,x5]/\RA AA.c_PlainRun B H' o dx d1 tl l most F S1/\NmR H' na ρ1 S1.log.length/\RunL tt m dp ρ1 (ts.drop i) eb ρ' res/\OutR AA.c_PlainRun AA.x_RunEnd B o dx d1 tl l most F [tl,l,na] E (KKr Q na ρ') res H' S1 eb) ⟨Nat.zero_le _,S,_,_,ρ,es,rfl,hR,hN,hrun,hO⟩ (fun i σ' H' _ h=>by
    obtain ⟨_,S1,x4,x5,ρ1,eb,_,hR1,_⟩:=h
    exact SqL.of (hR1.bs _ _ hls)) ?_ ?_
   ·rintro i x σ' H1 hx ⟨_,S1,x4,x5,ρ1,eb,rfl,hR1,hN1,hrun1,hO1⟩
    obtain ⟨t,ht,hS⟩:=lat_get hL hx
    obtain ⟨hi',et⟩:=List.getElem?_eq_some_iff.mp ht
    have hi2:=(List.getElem?_eq_some_iff.mp hx).1
    have edr:ts.drop i=t::ts.drop (i+1):=by rw [<- et];exact List.drop_eq_getElem_cons hi'
    rw [edr] at hrun1
    obtain ⟨ea,ec,ρ2,r,rfl,hX,hnx⟩:=runl_inv hrun1
    dsimp only [gName]
    refine ⟨_,rfl,o,dx,_,rfl,hR1.ins,rfl,_,rfl,_,rfl,_,rfl,?_⟩
    refine ⟨B,o,dx,d1,tl,l,na,x,most,dp,m,F,S1,t,ρ1,ρ2,ea,r,rfl,hR1,hF,hN1,hBn,hS,by omega,hX,?_⟩
    refine ⟨fun S' q H' r'=>hO1.long S' (appE_false q) H' r',fun g er S' q H2 hR2 s2=>?_,fun er S' q H2 hR2=>?_⟩
    ·rcases hnx with ⟨e1,h2⟩ | ⟨v,e1,e2,rfl,rfl⟩ | ⟨e1,_⟩
     ·rw [e1] at er
      cases er
      intro hN2
      dsimp only [gName]
      refine ⟨_,rfl,_,rfl,iteF ?_⟩
      exact ⟨hi2,S',_,_,ρ2,ec,rfl,hR2,hN2,h2,hO1.step q s2⟩
     ·rw [e1] at er
      cases er
      intro y hy
      dsimp only [gName]
      have hyn:y≠.non:=by
       cases v with
       | pl u =>
        obtain ⟨rfl,hp⟩:=hy
        rcases hp with ⟨i,rfl,_⟩ | ⟨z,rfl⟩<;>(intro h;cases h)
       | rcd z vs =>
        obtain ⟨t,rfl,_⟩:=hy
        intro h;cases h
      refine ⟨_,rfl,_,rfl,iteTb (by simp [hyn]) ?_⟩
      exact ⟨_,rfl,(hO1.step q s2).ok _ e2 S' rfl _ hR2 (Same.refl _) y hy⟩
     ·rw [e1] at er;cases er
    ·rcases hnx with ⟨e1,_⟩ | ⟨v,e1,_⟩ | ⟨_,e2,rfl⟩
     ·rw [e1] at er;cases er
     ·rw [e1] at er;cases er
     ·exact hO1.deep e2 S' (by rw [appE_true q];rfl) H2 hR2
   ·rintro σ' H1 ⟨_,S1,x4,x5,ρ1,eb,rfl,hR1,hN1,hrun1,hO1⟩
    rw [hxl,List.drop_length] at hrun1
    cases hrun1
    exact hR' _ _ ⟨S1,hR1,hN1,rfl,hO1⟩
  ·rintro σ' H1 ⟨S1,hR1,hN1,rfl,hO1⟩
   exact hO1.ok none rfl S1 rfl _ hR1 (Same.refl _) hN1
theorem ok_all (T:All P w K mg AA DD) (tt:List Tr):∀ n:Nat,FnOk P w K mg base (CX2 (fun _=>True) P w) (3*n+2) AA.Zh DD.Zh ["self","e","names","depth"] (spV AA.c_PlainRun AA.x_RunEnd tt n) /\
  FnOk P w K mg base (CX2 (fun _=>True) P w) (3*n+3) AA.Zg DD.Zg ["self","statements","names","depth"] (spRR AA.c_PlainRun AA.x_RunEnd tt n)
 | 0=>by
  have no1:∀ vs H Q E,¬ spV AA.c_PlainRun AA.x_RunEnd tt 0 vs H Q E:=fun vs H Q E h=>by
   obtain ⟨B,o,dx,d1,tl,l,na,v,most,dp,m,F,S,e,ρ,es,res,_,_,_,_,_,_,q,_⟩:=h
   omega
  have no2:∀ vs H Q E,¬ spRR AA.c_PlainRun AA.x_RunEnd tt 0 vs H Q E:=fun vs H Q E h=>by
   obtain ⟨B,o,dx,d1,tl,l,na,ls,most,dp,m,F,S,xs,ts,ρ,ρ',es,res,_,_,_,_,_,_,_,q,_⟩:=h
   omega
  exact ⟨T.F_Zh.ok2 sc_Zh (fun vs H Q E h=>(no1 _ _ _ _ h).elim) (fun cdv A outer s H vs Q E hr h=>(no1 _ _ _ _ h).elim),T.F_Zg.ok2 sc_Zg (fun vs H Q E h=>(no2 _ _ _ _ h).elim) (fun cdv A outer s H vs Q E hr h=>(no2 _ _ _ _ h).elim)⟩
 | n+1=>⟨ok_valS T tt n (ok_all T tt n).1 (ok_all T tt n).2,ok_rowsS T tt n (ok_all T tt n).1 (ok_all T tt n).2⟩
end
section
variable {P:Program} {w:World} {K:PySem.W.Frag} {mg:Str->Option Value} {base:Heap} {AA:Adr} {DD:Fds}
noncomputable def dk2:List Str:=["def","kind"]
theorem fst3_snoc (k:Str × Str) (ts:List Tr) (t:Tr):fst3 k (ts++[t])=(fst3 k ts).or (if t.hd3=some k then some t else none):=by
 unfold fst3
 rw [List.find?_append]
 congr 1
 by_cases h:t.hd3=some k
 ·simp [h]
 ·simp [h]
theorem fo_skip {B:Hp} {F:List (List Key × V)} {ts:List Tr} (h:FoAt B F ts) {t:Tr} (ht:t.hd3=none):FoAt B F (ts++[t]):=fun k=>by
 rw [fst3_snoc,ht]
 simpa using h k
theorem fo_has {B:Hp} {F:List (List Key × V)} {ts:List Tr} (h:FoAt B F ts) {t:Tr} {k0:Str × Str} (ht:t.hd3=some k0) {v0:V} (hv:valV F [.inr k0.1,.inr k0.2]=some v0):FoAt B F (ts++[t]):=fun k=>by
 rw [fst3_snoc,ht]
 rcases h k with ⟨h1,h2⟩ | ⟨v,u,h1,h2,h3⟩
 ·refine .inl ⟨h1,?_⟩
  have:k0≠k:=fun e=>by rw [<- e,hv] at h1;cases h1
  rw [h2]
  simp [this]
 ·refine .inr ⟨v,u,h1,h2,?_⟩
  rw [h3];rfl
theorem fo_put {B:Hp} {F:List (List Key × V)} {ts:List Tr} (h:FoAt B F ts) {t:Tr} {k0:Str × Str} (ht:t.hd3=some k0) {v:V} (hS:SAt B false v t) (hv:valV F [.inr k0.1,.inr k0.2]=none):FoAt B (putK F [.inr k0.1,.inr k0.2] v) (ts++[t]):=fun k=>by
 rw [fst3_snoc,ht,valV_put]
 by_cases e:k=k0
 ·subst e
  refine .inr ⟨v,t,by simp,hS,?_⟩
  rcases h k with ⟨_,h2⟩ | ⟨u,_,h1,_⟩
  ·rw [h2];simp
  ·rw [hv] at h1;cases h1
 ·have e2:¬ ([.inr k.1,.inr k.2]:List Key)=[.inr k0.1,.inr k0.2]:=fun q=>e (by
   injection q with q1 q2
   injection q2 with q2 _
   injection q1 with q1
   injection q2 with q2
   exact Prod.ext q1 q2)
  rw [if_neg e2]
  rcases h k with ⟨h1,h2⟩ | ⟨u,r,h1,h2,h3⟩
  ·exact .inl ⟨h1,by rw [h2,if_neg (fun q=>e (Option.some.inj q).symm)];rfl⟩
  ·exact .inr ⟨u,r,h1,h2,by rw [h3];rfl⟩
theorem hd_kw (t:Tr):(t.kw∉dk2/\t.hd3=none)∨∃ n,t.kw∈dk2/\t.hd3=some (t.kw,n)/\∃ ps,t.parts=.s t.kw::.i t.row::.s n::ps:=by
 cases t with
 | df r n k ps b=>exact .inr ⟨n,(by show ("def":Str)∈dk2;decide +kernel),rfl,_,rfl⟩
 | kd r n ps=>exact .inr ⟨n,(by show ("kind":Str)∈dk2;decide +kernel),rfl,_,rfl⟩
 | set r z e=>exact .inl ⟨(by show ("set":Str)∉dk2;decide +kernel),rfl⟩
 | tell r e=>exact .inl ⟨(by show ("tell":Str)∉dk2;decide +kernel),rfl⟩
 | give r e=>exact .inl ⟨(by show ("give":Str)∉dk2;decide +kernel),rfl⟩
 | iff r e b q=>exact .inl ⟨(by show ("if":Str)∉dk2;decide +kernel),rfl⟩
 | whl r e b=>exact .inl ⟨(by show ("while":Str)∉dk2;decide +kernel),rfl⟩
theorem st_head3 {H:Hp} {sh:Bool} {vs:List V} {t:Tr} {n:Str} {ps:List Part} (e:t.parts=.s t.kw::.i t.row::.s n::ps) (h:PsAt H sh vs t.parts):∃ (r:List V),vs=.str t.kw::.int ((t.row:Nat):Int)::.str n::r:=by
 rw [e] at h
 obtain ⟨r,e2,h⟩:=ps_two h
 obtain ⟨a,r2,e3,h1,_⟩:=ps_cons h
 exact ⟨r2,by rw [e2,e3,pa_s h1]⟩
noncomputable def spFO:Sp:=fun vs H Q _=>∃ (B:Hp) (l:Addr) (xs:List V) (ts:List Tr),vs=[.ref l]/\B l=some (.lst xs)/\LAt B false xs ts/\Same B H/\xs.length<=500/\∀ d F H',Same H H'->H' d=some (.dT F)->FoAt B F ts->H d=none->Q (.ref d) H'
noncomputable abbrev N_Zz:List Str:=["tree","found","one"]
theorem sc_Zz:FnScope N_Zz ["tree"] (defScope st_Zz):=⟨rfl,rfl,rfl,by decide +kernel,rfl,by decide +kernel,by decide +kernel⟩
theorem ok_fo (T:All P w K mg AA DD):FnOk P w K mg base CX0 1 AA.Zz DD.Zz ["tree"] spFO:=by
 refine T.F_Zz.ok sc_Zz (fun vs H Q E h=>?_) (fun cdv A outer s H vs Q E hr h=>?_)
 ·obtain ⟨B,l,xs,ts,rfl,_⟩:=h
  rfl
 ·obtain ⟨B,l,xs,ts,rfl,hl,hL,sB,hxs,kq⟩:=h
  have nd:=sc_Zz.nd
  have hu:=Nat.lt_of_le_of_lt (Nat.add_le_add_left (show 1<=64 by decide) _) hr.units
  refine ⟨_,(@pss_cons _ _ _ _ _ (@ps_set _ _ 1 _ _ _ _ nd rfl (Or.inl rfl) (pe_dnewT) (by rfl) (by first | exact .inl rfl | exact .inr rfl | assumption)) (@pss_cons _ _ _ _ _ (@ps_for _ _ _ _ _ _ _ _ PassesOwn.never rfl (pi_list (pv 0)) (pg_name (i:=2) nd rfl (Or.inl rfl)) (@pss_one _ _ _ (@ps_if _ _ _ _ _ _ _ _ (@pt_cmpR _ _ _ _ _ _ _ _ (op_in_seqK (K:=K) rfl) (@pe_ix _ _ _ _ _ _ _ (ix_tupK (K:=K) rfl) (pv 2) pe_int (fun _ _=>rfl)) (@pe_tup _ _ _ _ _ (@pa_cons _ _ _ _ _ pe_str (@pa_cons _ _ _ _ _ pe_str pa_nil (by rfl)) (by rfl))) rfl) (@pss_one _ _ _ (@ps_expr _ _ _ _ (pe_dset hu (pv 1) (@pe_tup _ _ _ _ _ (@pa_cons _ _ _ _ _ (@pe_ix _ _ _ _ _ _ _ (ix_tupK (K:=K) rfl) (pv 2) pe_int (fun _ _=>rfl)) (@pa_cons _ _ _ _ _ (@pe_ix _ _ _ _ _ _ _ (ix_tupK (K:=K) rfl) (pv 2) pe_int (fun _ _=>rfl)) pa_nil (by rfl)) (by rfl))) (pv 2) ⟨by rfl,by rfl,by rfl,by rfl⟩) (by rfl))) pss_nil)) (by intro _;rfl)) (@pss_one _ _ _ (@ps_ret _ _ _ _ (pv 1))))),?_⟩
  refine fun d hd=>?_
  have s1:=same_upd (o:=.dT []) hd
  have hd1:upd H d (.dT []) d=some (.dT []):=upd_same
  have hdB:B d=none:=Same.free sB hd
  generalize upd H d (.dT [])=H0 at s1 hd1 ⊢
  dsimp only [gName]
  have hxl:=hL.length
  refine cut_for (fun σ' H'=>Same H H'/\∃ x2 F,σ'=[some (.ref l),some (.ref d),x2]/\H' d=some (.dT F)/\FoAt B F ts) (fun R hR=>?_) ?_
  ·refine ⟨_,rfl,l,rfl,⟨_,SqL.of (s1 _ _ (sB _ _ hl))⟩,?_⟩
   refine for_list (K:=K) (a:=l) (xs:=xs) (fun i σ' H'=>i<=xs.length/\Same H H'/\∃ x2 F,σ'=[some (.ref l),some (.ref d),x2]/\H' d=some (.dT F)/\F.length<=i/\FoAt B F (ts.take i)) ⟨Nat.zero_le _,s1,_,[],rfl,hd1,Nat.le_refl _,fun k=>.inl ⟨rfl,rfl⟩⟩ (fun i σ' H' _ h=>SqL.of (h.2.1 _ _ (sB _ _ hl))) ?_ ?_
   ·rintro i x σ' H1 hx ⟨_,sm,x2,F,rfl,hdF,hFl,hF⟩
    obtain ⟨t,ht,hS⟩:=lat_get hL hx
    obtain ⟨hi',et⟩:=List.getElem?_eq_some_iff.mp ht
    have hi2:=(List.getElem?_eq_some_iff.mp hx).1
    have etk:ts.take (i+1)=ts.take i++[t]:=by rw [List.take_succ_eq_append_getElem hi',et]
    obtain ⟨t0,vs,rfl,ht0,hps⟩:=s_inv (hS.kept (sB.trans sm).ls)
    rcases hd_kw t with ⟨hk,hh⟩ | ⟨n,hk,hh,ps,hpp⟩
    ·obtain ⟨vr,rfl⟩:=st_head hps
     dsimp only [gName]
     refine ⟨_,rfl,t0,_,_,_,rfl,rfl,SqT.of ht0,atI_nat (j:=0) rfl,(by show 2<=sizeLine;decide),fun pt hpt=>⟨pt,dk2.map V.str,rfl,.inr (SqT.of upd_same),rfl,rfl,_,rfl,?_⟩⟩
     refine iteFb (in_strsB (decide_eq_false hk)) ?_
     exact ⟨hi2,sm.trans (same_upd hpt),_,F,rfl,(same_upd hpt) _ _ hdF,by omega,by rw [etk];exact fo_skip hF hh⟩
    ·obtain ⟨vr,rfl⟩:=st_head3 hpp hps
     dsimp only [gName]
     refine ⟨_,rfl,t0,_,_,_,rfl,rfl,SqT.of ht0,atI_nat (j:=0) rfl,(by show 2<=sizeLine;decide),fun pt hpt=>⟨pt,dk2.map V.str,rfl,.inr (SqT.of upd_same),rfl,rfl,_,rfl,?_⟩⟩
     refine iteTb (in_strsB (decide_eq_true hk)) ?_
     have s2:=same_upd (o:=.tup (dk2.map V.str)) hpt
     have ht2:=s2 _ _ ht0
     refine ⟨_,rfl,d,rfl,.inr ⟨F,.inl (s2 _ _ hdF)⟩,_,rfl,t0,_,_,_,rfl,rfl,SqT.of ht2,atI_nat (j:=0) rfl,_,rfl,t0,_,_,_,rfl,rfl,SqT.of ht2,atI_nat (j:=2) rfl,(by show 2<=sizeLine;decide),fun pk hpk=>?_⟩
     have s3:=same_upd (o:=.tup [.str t.kw,.str n]) hpk
     have s23:=s2.trans s3
     refine ⟨_,rfl,F,[.inr t.kw,.inr n],pk,s23 _ _ hdF,rfl,upd_same,small1000 (by omega),fun v hv=>?_,fun hv=>?_⟩
     ·exact ⟨hi2,sm.trans s23,_,F,rfl,s23 _ _ hdF,by omega,by rw [etk];exact fo_has hF hh hv⟩
     ·refine ⟨hi2,fun b u hb=>?_,_,_,rfl,upd_same,Nat.le_trans (length_putK _ _ _) (by omega),by rw [etk];exact fo_put hF hh hS hv⟩
      rw [upd_ne (ne_of_none hb hd)]
      exact (sm.trans s23) _ _ hb
   ·rintro σ' H1 ⟨_,sm,x2,F,rfl,hdF,hFl,hF⟩
    rw [hxl,List.take_length] at hF
    exact hR _ _ ⟨sm,_,F,rfl,hdF,hF⟩
  ·rintro σ' H1 ⟨sm,x2,F,rfl,hdF,hF⟩
   exact ⟨_,rfl,kq d F _ sm hdF hF hd⟩
noncomputable def spPRi (C:Addr):Sp:=fun vs H Q _=>∃ (B:Hp) (o dx l:Addr) (m:Int) (xs:List V) (ts:List Tr),vs=[.ref o,.ref l,.int m]/\H o=some (.ins C dx [])/\B l=some (.lst xs)/\LAt B false xs ts/\Same B H/\xs.length<=500 /\
 ∀ d1 tl lg F H',(∀ b u,H b=some u->b≠o->H' b=some u)->H' o=some (.ins C dx [("firsts",.ref d1),("most",.int m),("told",.ref tl),("log",.ref lg)])->H' tl=some (.lst [])->H' lg=some (.lst [])->H' d1=some (.dT F)->FoAt B F ts->tl≠lg->H tl=none->H lg=none->Q .non H'
noncomputable abbrev N_Zn:List Str:=["self","tree","most"]
theorem sc_Zn:FnScope N_Zn ["self","tree","most"] (defScope st_Zn):=⟨rfl,rfl,rfl,by decide +kernel,rfl,by decide +kernel,by decide +kernel⟩
theorem ok_pri (T:All P w K mg AA DD):FnOk P w K mg base CX0 2 AA.Zn DD.Zn ["self","tree","most"] (spPRi AA.c_PlainRun):=by
 have GFO:=ok_fo (base:=base) T
 refine T.F_Zn.ok sc_Zn (fun vs H Q E h=>?_) (fun cdv A outer s H vs Q E hr h=>?_)
 ·obtain ⟨B,o,dx,l,m,xs,ts,rfl,_⟩:=h
  rfl
 ·obtain ⟨B,o,dx,l,m,xs,ts,rfl,ho,hl,hL,sB,hxs,kq⟩:=h
  have nd:=sc_Zn.nd
  have hr1:Room 1 _:=hr
  refine ⟨_,(@pss_cons _ _ _ _ _ (ps_fld (pv 0) (pe_call GFO hr1 rfl T.m_Zz T.k_Zz T.b_Zz .nil pass0 (@pa_cons _ _ _ _ _ (pv 1) pa_nil (by rfl))) rfl) (@pss_cons _ _ _ _ _ (ps_fld (pv 0) (pv 2) rfl) (@pss_cons _ _ _ _ _ (ps_fld (pv 0) (@pe_lst _ _ _ _ pa_nil) rfl) (@pss_one _ _ _ (ps_fld (pv 0) (@pe_lst _ _ _ _ pa_nil) rfl))))),?_⟩
  refine ⟨_,rfl,B,l,xs,ts,rfl,hl,hL,sB,hxs,fun d1 F H1 s1 hd1 hF hdn=>?_⟩
  have ho1:=s1 _ _ ho
  refine ⟨_,rfl,o,AA.c_PlainRun,dx,_,rfl,ho1,T.cl_PlainRun,T.na_PlainRun_firsts,(by show 0<1000;decide),?_⟩
  refine ⟨_,rfl,_,rfl,o,AA.c_PlainRun,dx,_,rfl,upd_same,T.cl_PlainRun,T.na_PlainRun_most,(by show 1<1000;decide),?_⟩
  refine ⟨Nat.zero_le _,fun tl htl=>⟨_,rfl,o,AA.c_PlainRun,dx,_,rfl,(same_upd htl) _ _ upd_same,T.cl_PlainRun,T.na_PlainRun_told,(by show 2<1000;decide),?_⟩⟩
  refine ⟨Nat.zero_le _,fun lg hlg=>⟨_,rfl,o,AA.c_PlainRun,dx,_,rfl,(same_upd hlg) _ _ upd_same,T.cl_PlainRun,T.na_PlainRun_log,(by show 3<1000;decide),?_⟩⟩
  have nt:tl≠o:=fun z=>by rw [z,upd_same] at htl;cases htl
  have nl:lg≠o:=fun z=>by rw [z,upd_same] at hlg;cases hlg
  have ntl:tl≠lg:=fun z=>by rw [<- z,upd_ne nt,upd_same] at hlg;cases hlg
  have ftl1:H1 tl=none:=by
   rw [upd_ne nt,upd_ne nt] at htl
   exact htl
  have flg1:H1 lg=none:=by
   rw [upd_ne nl,upd_ne ntl.symm,upd_ne nl,upd_ne nl] at hlg
   exact hlg
  have ftl:=Same.free s1 ftl1
  have flg:=Same.free s1 flg1
  have no:d1≠o:=fun z=>by rw [z,ho1] at hd1;cases hd1
  have keep:∀ b u,H1 b=some u->b≠o->upd (upd (upd (upd (upd (upd H1 o (.ins AA.c_PlainRun dx [("firsts",.ref d1)])) o (.ins AA.c_PlainRun dx [("firsts",.ref d1),("most",.int m)])) tl (.lst [])) o (.ins AA.c_PlainRun dx [("firsts",.ref d1),("most",.int m),("told",.ref tl)])) lg (.lst [])) o (.ins AA.c_PlainRun dx [("firsts",.ref d1),("most",.int m),("told",.ref tl),("log",.ref lg)]) b=some u:=fun b u hb hbo=>by
   have b1:b≠tl:=ne_of_none hb ftl1
   have b2:b≠lg:=ne_of_none hb flg1
   rw [upd_ne hbo,upd_ne b2,upd_ne hbo,upd_ne b1,upd_ne hbo,upd_ne hbo]
   exact hb
  refine kq d1 tl lg F _ (fun b u hb hbo=>keep b u (s1 _ _ hb) hbo) upd_same ?_ ?_ (keep d1 _ hd1 no) hF ntl ftl flg
  ·rw [upd_ne nt,upd_ne ntl,upd_ne nt,upd_same]
  ·rw [upd_ne nl,upd_same]
noncomputable def Ends (most:Nat) (es:List Evn) (res:Rs (Option RV)) (S':RS) (wd:Str):Prop:=(appE most ⟨[],[]⟩ es=(S',false)/\wd="long")∨(appE most ⟨[],[]⟩ es=(S',true)/\((res=.deep/\wd="deep")∨(res=.ok none/\wd="done")))
noncomputable def spRP (n:Nat):Sp:=fun vs H Q _=>∃ (l:Addr) (most m:Nat) (xs:List V) (ts:List Tr) (es:List Evn) (ρ':REnv) (res:Rs (Option RV)) (S':RS) (wd:Str),vs=[.ref l,.int ((most:Nat):Int)]/\H l=some (.lst xs)/\LAt H false xs ts/\xs.length<=500/\most<=900/\m<n/\RunL ts m 0 (fun _=>none) ts es ρ' res/\Ends most es res S' wd /\
 ∀ p pt lg H',Same H H'->H' p=some (.tup [.str wd,.ref pt,.ref lg])->H' pt=some (.tup S'.told)->H' lg=some (.lst (S'.log.map fun r=>V.int ((r:Nat):Int)))->Q (.ref p) H'
noncomputable abbrev N_ZF:List Str:=["tree","most","run","e"]
theorem sc_ZF:FnScope N_ZF ["tree","most"] (defScope st_ZF):=⟨rfl,rfl,rfl,by decide +kernel,rfl,by decide +kernel,by decide +kernel⟩
theorem ok_rp (T:All P w K mg AA DD) (n:Nat):FnOk P w K mg base CX0 (3*n+4) AA.ZF DD.ZF ["tree","most"] (spRP n):=by
 have GPR:=ok_pri (base:=base) T
 refine T.F_ZF.ok sc_ZF (fun vs H Q E h=>?_) (fun cdv A outer s H vs Q E hr h=>?_)
 ·obtain ⟨l,most,m,xs,ts,es,ρ',res,S',wd,rfl,_⟩:=h
  rfl
 ·obtain ⟨l,most,m,xs,ts,es,ρ',res,S',wd,rfl,hl,hL,hxs,hm,hmn,hrun,hend,kq⟩:=h
  have GRS:=(ok_all (base:=base) T ts n).2
  have nd:=sc_ZF.nd
  have hrS:Room (3*n+3) _:=hr
  have hr3:Room 3 _:=hrS.mono (by omega)
  refine ⟨_,(@pss_cons _ _ _ _ _ (@ps_set _ _ 2 _ _ _ _ nd rfl (Or.inl rfl) (pe_make T.M_PlainRun GPR hr3 rfl T.m_PlainRun T.b_Zn .nil pass0 (@pa_cons _ _ _ _ _ (pv 0) (@pa_cons _ _ _ _ _ (pv 1) pa_nil (by rfl)) (by rfl))) (by rfl) (by first | exact .inl rfl | exact .inr rfl | assumption)) (@pss_cons _ _ _ _ _ (ps_tryD (κ:=fun _=>True) (i:=3) (Body.wish body_cx _) (psx_expr (pex_meth (pv 2) T.cl_PlainRun T.M_Zg GRS hrS T.b_Zg .nil (@pa_cons _ _ _ _ _ (pv 0) (@pa_cons _ _ _ _ _ pe_dnewK (@pa_cons _ _ _ _ _ pe_int pa_nil (by rfl)) (by rfl)) (by rfl)))) rfl T.m_RunEnd nd rfl rfl (fun ea=>(@pss_one _ _ _ (@ps_ret _ _ _ _ (@pe_tup _ _ _ _ _ (@pa_cons _ _ _ _ _ (pe_xfldK (K:=K) rfl (pv 3) (by rfl)) (@pa_cons _ _ _ _ _ (pe_callTy (call_tuple_ofK (K:=K) rfl) rfl T.n_tuple bt_tuple (@pa_cons _ _ _ _ _ (pe_fldK (K:=K) rfl (pv 2) rfl) pa_nil (by rfl))) (@pa_cons _ _ _ _ _ (pe_fldK (K:=K) rfl (pv 2) rfl) pa_nil (by rfl)) (by rfl)) (by rfl))))))) (@pss_one _ _ _ (@ps_ret _ _ _ _ (@pe_tup _ _ _ _ _ (@pa_cons _ _ _ _ _ pe_str (@pa_cons _ _ _ _ _ (pe_callTy call_tuple_of rfl T.n_tuple bt_tuple (@pa_cons _ _ _ _ _ (pe_fld (pv 2) rfl) pa_nil (by rfl))) (@pa_cons _ _ _ _ _ (pe_fld (pv 2) rfl) pa_nil (by rfl)) (by rfl)) (by rfl))))))),?_⟩
  refine ⟨_,rfl,_,rfl,fun o dx ho hdx ne=>?_⟩
  have s2:Same H (upd (upd H dx (.own o)) o (.ins AA.c_PlainRun dx [])):=(same_upd (o:=.own o) hdx).trans (same_upd (by rw [upd_ne (Ne.symm ne)];exact ho))
  have hoN:H o=none:=ho
  have ho2:upd (upd H dx (.own o)) o (.ins AA.c_PlainRun dx []) o=some (.ins AA.c_PlainRun dx []):=upd_same
  generalize upd (upd H dx (.own o)) o (.ins AA.c_PlainRun dx [])=H2 at s2 ho2 ⊢
  refine ⟨H,o,dx,l,_,xs,ts,rfl,ho2,hl,hL,s2,hxs,fun d1 tl lg F H3 hk hi3 ht3 hl3 hd3 hF ntl ftl flg=>⟨rfl,?_⟩⟩
  have s3:Same H H3:=fun b u hb=>hk b u (s2 _ _ hb) (ne_of_none hb hoN)
  have tlN:H tl=none:=Same.free s2 ftl
  have lgN:H lg=none:=Same.free s2 flg
  dsimp only [gName]
  refine try_cut (fun c dd H'=>c=.ref AA.x_RunEnd/\RA AA.c_PlainRun H H' o dx d1 tl lg most F S'/\∃ dq,dd=some dq/\H' dq=some (xdO dq [("outcome",.str wd)])) (fun E1 hE=>?_) ?_
  ·refine ⟨_,rfl,o,dx,_,rfl,hi3,rfl,_,rfl,fun na hna=>?_⟩
   have s4:=same_upd (o:=.dK []) hna
   have hnaN:H na=none:=Same.free s3 hna
   have he4:upd H3 na (.dK []) na=some (.dK []):=upd_same
   generalize upd H3 na (.dK [])=H4 at s4 he4 ⊢
   have hR4:RA AA.c_PlainRun H H4 o dx d1 tl lg most F ⟨[],[]⟩:=⟨s4 _ _ hi3,s4 _ _ hd3,s4 _ _ ht3,s4 _ _ hl3,ntl,Nat.le_refl _,Nat.zero_le _,hm,s3.trans s4,tlN,lgN⟩
   refine ⟨H,o,dx,d1,tl,lg,na,l,most,0,m,F,⟨[],[]⟩,xs,ts,fun _=>none,ρ',es,res,rfl,hR4,hF,⟨[],he4,Nat.le_refl _,fun z=>.inl ⟨rfl,rfl⟩⟩,hnaN,hl,hL,hmn,hrun,fun S1 q H5 hR5 dq H6 s6 hdq=>?_,fun a ea S1 q H5 hR5 s5=>?_,fun er S1 q H5 hR5 dq H6 s6 hdq=>?_⟩
   ·rcases hend with ⟨h1,rfl⟩ | ⟨h1,_⟩
    ·rw [q] at h1
     cases h1
     exact hE _ _ _ ⟨rfl,hR5.same s6,dq,rfl,hdq⟩
    ·rw [q] at h1;cases h1
   ·rcases hend with ⟨h1,_⟩ | ⟨h1,⟨h2,_⟩ | ⟨h2,rfl⟩⟩
    ·rw [q] at h1;cases h1
    ·rw [h2] at ea;cases ea
    rw [q] at h1
    cases h1
    rw [h2] at ea
    cases ea
    intro _
    have s5':Same H H5:=hR5.bs
    have hb1:=hR5.b1
    have hb3:=hR5.b3
    refine ⟨_,rfl,o,AA.c_PlainRun,dx,_,_,rfl,hR5.ins,T.cl_PlainRun,T.na_PlainRun_told,rfl,tl,_,rfl,.inl ⟨SqL.of hR5.told,fun pt hpt=>?_⟩⟩
    have s6:=same_upd (o:=.tup S'.told) hpt
    refine ⟨_,rfl,o,AA.c_PlainRun,dx,_,_,rfl,s6 _ _ hR5.ins,T.cl_PlainRun,T.na_PlainRun_log,rfl,(by show 3<=sizeLine;decide),fun p hp=>?_⟩
    have s7:=same_upd (o:=.tup [.str "done",.ref pt,.ref lg]) hp
    exact kq p pt lg _ ((s5'.trans s6).trans s7) upd_same (s7 _ _ upd_same) (s7 _ _ (s6 _ _ hR5.log))
   ·rcases hend with ⟨h1,_⟩ | ⟨h1,⟨h2,rfl⟩ | ⟨h2,_⟩⟩
    ·rw [q] at h1;cases h1
    ·rw [q] at h1
     cases h1
     exact hE _ _ _ ⟨rfl,hR5.same s6,dq,rfl,hdq⟩
    ·rw [h2] at er;cases er
  ·rintro c dd H4 ⟨rfl,hR4,dq,rfl,hdq⟩
   refine ⟨T.em_RunEnd_RunEnd,fun ea cx _ hea=>?_⟩
   have s5:=same_upd (o:=excD ea (.ref AA.x_RunEnd) (some dq) cx) hea
   have hE5:upd H4 ea (excD ea (.ref AA.x_RunEnd) (some dq) cx) ea=some (excD ea (.ref AA.x_RunEnd) (some dq) cx):=upd_same
   generalize upd H4 ea (excD ea (.ref AA.x_RunEnd) (some dq) cx)=H5 at s5 hE5 ⊢
   have hR5:=hR4.same s5
   have sm:=hR5.bs
   refine ⟨_,rfl,ea,AA.x_RunEnd,dq,cx,_,_,rfl,hE5,s5 _ _ hdq,T.xc_RunEnd,T.ic_RunEnd.hd,T.na_RunEnd_outcome,rfl,?_⟩
   refine ⟨_,rfl,o,AA.c_PlainRun,dx,_,_,rfl,hR5.ins,T.cl_PlainRun,T.na_PlainRun_told,rfl,tl,_,rfl,.inl ⟨SqL.of hR5.told,fun pt hpt=>?_⟩⟩
   have s6:=same_upd (o:=.tup S'.told) hpt
   refine ⟨_,rfl,o,AA.c_PlainRun,dx,_,_,rfl,s6 _ _ hR5.ins,T.cl_PlainRun,T.na_PlainRun_log,rfl,(by show 3<=sizeLine;decide),fun p hp=>?_⟩
   have s7:=same_upd (o:=.tup [.str wd,.ref pt,.ref lg]) hp
   exact kq p pt lg _ ((sm.trans s6).trans s7) upd_same (s7 _ _ upd_same) (s7 _ _ (s6 _ _ hR5.log))
end
section
variable {P:Program} {w:World} {K:PySem.W.Frag} {mg:Str->Option Value} {base:Heap} {AA:Adr} {DD:Fds}
mutual
noncomputable def trD:Tr->PyData
 | .set r n e=>.tuple [.str "set",.int ((r:Nat):Int),.str n,exD e]
 | .tell r e=>.tuple [.str "tell",.int ((r:Nat):Int),exD e]
 | .give r e=>.tuple [.str "give",.int ((r:Nat):Int),exD e]
 | .iff r e b o=>.tuple [.str "if",.int ((r:Nat):Int),exD e,.list (trsD b),.list (trsD o)]
 | .whl r e b=>.tuple [.str "while",.int ((r:Nat):Int),exD e,.list (trsD b)]
 | .df r n k ps b=>.tuple [.str "def",.int ((r:Nat):Int),.str n,.str k,prD ps,.list (trsD b)]
 | .kd r n ps=>.tuple [.str "kind",.int ((r:Nat):Int),.str n,prD ps]
noncomputable def trsD:List Tr->List PyData
 | []=>[]
 | t::ts=>trD t::trsD ts
end
theorem exs_nil {H:Hp} {xs:List V} (h:RdHA H xs []):xs=[]:=by cases h;rfl
theorem rd_cons {H:Hp} {xs:List V} {d:PyData} {ds:List PyData} (h:RdHA H xs (d::ds)):∃ v vs,xs=v::vs/\RdH H v d/\RdHA H vs ds:=by cases h with | cons a b=>exact ⟨_,_,rfl,a,b⟩
theorem rd_str {H:Hp} {v:V} {z:Str} (h:RdH H v (.str z)):v=.str z:=by cases h;rfl
theorem rd_int {H:Hp} {v:V} {n:Int} (h:RdH H v (.int n)):v=.int n:=by cases h;rfl
theorem rd_tup {H:Hp} {v:V} {ds:List PyData} (h:RdH H v (.tuple ds)):∃ t xs,v=.ref t/\H t=some (.tup xs)/\RdHA H xs ds:=by cases h with | tup a b=>exact ⟨_,_,rfl,a,b⟩
theorem rd_lst {H:Hp} {v:V} {ds:List PyData} (h:RdH H v (.list ds)):∃ t xs,v=.ref t/\H t=some (.lst xs)/\RdHA H xs ds:=by cases h with | lst a b=>exact ⟨_,_,rfl,a,b⟩
theorem rd_t2 {H:Hp} {v:V} {d1 d2:PyData} (h:RdH H v (.tuple [d1,d2])):∃ t a b,v=.ref t/\H t=some (.tup [a,b])/\RdH H a d1/\RdH H b d2:=by
 obtain ⟨t,xs,rfl,ht,h⟩:=rd_tup h
 obtain ⟨a,r,rfl,h1,h⟩:=rd_cons h
 obtain ⟨b,r,rfl,h2,h⟩:=rd_cons h
 rw [exs_nil h] at ht
 exact ⟨t,a,b,rfl,ht,h1,h2⟩
theorem rd_t3 {H:Hp} {v:V} {d1 d2 d3:PyData} (h:RdH H v (.tuple [d1,d2,d3])):∃ t a b c,v=.ref t/\H t=some (.tup [a,b,c])/\RdH H a d1/\RdH H b d2/\RdH H c d3:=by
 obtain ⟨t,xs,rfl,ht,h⟩:=rd_tup h
 obtain ⟨a,r,rfl,h1,h⟩:=rd_cons h
 obtain ⟨b,r,rfl,h2,h⟩:=rd_cons h
 obtain ⟨c,r,rfl,h3,h⟩:=rd_cons h
 rw [exs_nil h] at ht
 exact ⟨t,a,b,c,rfl,ht,h1,h2,h3⟩
mutual
theorem ex_of {H:Hp}:∀ {e:Ex} {v:V},RdH H v (exD e)->ExAt H v e
 | .num n,v,h=>by
  obtain ⟨t,a,b,rfl,ht,h1,h2⟩:=rd_t2 h
  rw [rd_str h1,rd_int h2] at ht
  exact .num ht
 | .truth z,v,h=>by
  obtain ⟨t,a,b,rfl,ht,h1,h2⟩:=rd_t2 h
  rw [rd_str h1,rd_str h2] at ht
  exact .truth ht
 | .name z,v,h=>by
  obtain ⟨t,a,b,rfl,ht,h1,h2⟩:=rd_t2 h
  rw [rd_str h1,rd_str h2] at ht
  exact .name ht
 | .not e,v,h=>by
  obtain ⟨t,a,b,rfl,ht,h1,h2⟩:=rd_t2 h
  rw [rd_str h1] at ht
  exact .not ht (ex_of h2)
 | .op w a b,v,h=>by
  obtain ⟨t,x,y,z,rfl,ht,h1,h2,h3⟩:=rd_t3 h
  rw [rd_str h1] at ht
  exact .op ht (ex_of h2) (ex_of h3)
 | .of f e,v,h=>by
  obtain ⟨t,x,y,z,rfl,ht,h1,h2,h3⟩:=rd_t3 h
  rw [rd_str h1,rd_str h2] at ht
  exact .of ht (ex_of h3)
 | .many w n es,v,h=>by
  obtain ⟨t,x,y,z,rfl,ht,h1,h2,h3⟩:=rd_t3 h
  rw [rd_str h1,rd_str h2] at ht
  obtain ⟨l,xs,rfl,hl,h4⟩:=rd_tup h3
  exact .many ht hl (exs_of h4)
theorem exs_of {H:Hp}:∀ {es:List Ex} {vs:List V},RdHA H vs (exsD es)->ExsAt H vs es
 | [],_,h=>by cases exs_nil h;exact .nil
 | e::es,_,h=>by
  obtain ⟨a,q,rfl,h1,h⟩:=rd_cons h
  exact .cons (ex_of h1) (exs_of h)
end
theorem prs_of {H:Hp} {v:V} {ps:List (Str × Str)} (h:RdH H v (prD ps)):PrsAt H v ps:=by
 obtain ⟨t,xs,rfl,ht,h⟩:=rd_tup h
 suffices g:∀ (ps:List (Str × Str)) (xs:List V),RdHA H xs (ps.map fun p=>PyData.tuple [.str p.1,.str p.2])->∃ us:List Addr,xs=us.map V.ref/\us.length=ps.length/\∀ (i:Nat) (u:Addr) (q:Str × Str),us[i]?=some u->ps[i]?=some q->H u=some (.tup [.str q.1,.str q.2]) by
  obtain ⟨us,rfl,hl,ha⟩:=g ps xs h
  exact ⟨t,us,rfl,ht,hl,ha⟩
 intro ps
 induction ps with
 | nil=>intro xs h;cases exs_nil h;exact ⟨[],rfl,rfl,fun i u q a=>by simp at a⟩
 | cons p ps ih =>
  intro xs h
  obtain ⟨a,r,rfl,h1,h⟩:=rd_cons h
  obtain ⟨us,rfl,hl,ha⟩:=ih r h
  obtain ⟨u,x,y,rfl,hu,h2,h3⟩:=rd_t2 h1
  rw [rd_str h2,rd_str h3] at hu
  refine ⟨u::us,rfl,by simp [hl],fun i u' q a b=>?_⟩
  cases i with
  | zero=>cases a;cases b;exact hu
  | succ i=>exact ha i u' q (by simpa using a) (by simpa using b)
mutual
theorem tr_of {H:Hp}:∀ {t:Tr} {v:V},RdH H v (trD t)->SAt H false v t
 | .set r n e,v,h=>by
  obtain ⟨t,xs,rfl,ht,h⟩:=rd_tup h
  obtain ⟨a,q,rfl,h1,h⟩:=rd_cons h
  obtain ⟨b,q,rfl,h2,h⟩:=rd_cons h
  obtain ⟨c,q,rfl,h3,h⟩:=rd_cons h
  obtain ⟨d,q,rfl,h4,h⟩:=rd_cons h
  rw [exs_nil h,rd_str h1,rd_int h2,rd_str h3] at ht
  exact .mk ht (.cons (.s _) (.cons (.i _) (.cons (.s _) (.cons (.e (ex_of h4)) .nil))))
 | .tell r e,v,h=>by
  obtain ⟨t,a,b,c,rfl,ht,h1,h2,h3⟩:=rd_t3 h
  rw [rd_str h1,rd_int h2] at ht
  exact .mk ht (.cons (.s _) (.cons (.i _) (.cons (.e (ex_of h3)) .nil)))
 | .give r e,v,h=>by
  obtain ⟨t,a,b,c,rfl,ht,h1,h2,h3⟩:=rd_t3 h
  rw [rd_str h1,rd_int h2] at ht
  exact .mk ht (.cons (.s _) (.cons (.i _) (.cons (.e (ex_of h3)) .nil)))
 | .iff r e b o,v,h=>by
  obtain ⟨t,xs,rfl,ht,h⟩:=rd_tup h
  obtain ⟨a1,q1,rfl,h1,k1⟩:=rd_cons h
  obtain ⟨a2,q2,rfl,h2,k2⟩:=rd_cons k1
  obtain ⟨a3,q3,rfl,h3,k3⟩:=rd_cons k2
  obtain ⟨a4,q4,rfl,h4,k4⟩:=rd_cons k3
  obtain ⟨a5,q5,rfl,h5,k5⟩:=rd_cons k4
  cases exs_nil k5
  obtain ⟨l4,x4,rfl,e4,h4⟩:=rd_lst h4
  obtain ⟨l5,x5,rfl,e5,h5⟩:=rd_lst h5
  cases rd_str h1
  cases rd_int h2
  exact .mk ht (.cons (.s _) (.cons (.i _) (.cons (.e (ex_of h3)) (.cons (.b e4 (trs_of h4)) (.cons (.b e5 (trs_of h5)) .nil)))))
 | .whl r e b,v,h=>by
  obtain ⟨t,xs,rfl,ht,h⟩:=rd_tup h
  obtain ⟨a1,q1,rfl,h1,k1⟩:=rd_cons h
  obtain ⟨a2,q2,rfl,h2,k2⟩:=rd_cons k1
  obtain ⟨a3,q3,rfl,h3,k3⟩:=rd_cons k2
  obtain ⟨a4,q4,rfl,h4,k4⟩:=rd_cons k3
  cases exs_nil k4
  obtain ⟨l4,x4,rfl,e4,h4⟩:=rd_lst h4
  cases rd_str h1
  cases rd_int h2
  exact .mk ht (.cons (.s _) (.cons (.i _) (.cons (.e (ex_of h3)) (.cons (.b e4 (trs_of h4)) .nil))))
 | .df r n k ps b,v,h=>by
  obtain ⟨t,xs,rfl,ht,h⟩:=rd_tup h
  obtain ⟨a1,q1,rfl,h1,k1⟩:=rd_cons h
  obtain ⟨a2,q2,rfl,h2,k2⟩:=rd_cons k1
  obtain ⟨a3,q3,rfl,h3,k3⟩:=rd_cons k2
  obtain ⟨a4,q4,rfl,h4,k4⟩:=rd_cons k3
  obtain ⟨a5,q5,rfl,h5,k5⟩:=rd_cons k4
  obtain ⟨a6,q6,rfl,h6,k6⟩:=rd_cons k5
  cases exs_nil k6
  obtain ⟨l6,x6,rfl,e6,h6⟩:=rd_lst h6
  cases rd_str h1
  cases rd_int h2
  cases rd_str h3
  cases rd_str h4
  exact .mk ht (.cons (.s _) (.cons (.i _) (.cons (.s _) (.cons (.s _) (.cons (.p (prs_of h5)) (.cons (.b e6 (trs_of h6)) .nil))))))
 | .kd r n ps,v,h=>by
  obtain ⟨t,xs,rfl,ht,h⟩:=rd_tup h
  obtain ⟨a1,q1,rfl,h1,k1⟩:=rd_cons h
  obtain ⟨a2,q2,rfl,h2,k2⟩:=rd_cons k1
  obtain ⟨a3,q3,rfl,h3,k3⟩:=rd_cons k2
  obtain ⟨a4,q4,rfl,h4,k4⟩:=rd_cons k3
  cases exs_nil k4
  cases rd_str h1
  cases rd_int h2
  cases rd_str h3
  exact .mk ht (.cons (.s _) (.cons (.i _) (.cons (.s _) (.cons (.p (prs_of h4)) .nil))))
theorem trs_of {H:Hp}:∀ {ts:List Tr} {vs:List V},RdHA H vs (trsD ts)->LAt H false vs ts
 | [],_,h=>by cases exs_nil h;exact .nil
 | t::ts,_,h=>by
  obtain ⟨a,q,rfl,h1,h⟩:=rd_cons h
  exact .cons (.plain rfl (tr_of h1)) (trs_of h)
end
end
open PySem.NumText PySem.W.KIN
theorem first_dig (m:Nat):0<m->((Nat.toDigits 10 m).map Char.toNat).getD 0 0≠48:=by
 induction m using Nat.strongRecOn with
 | _ m ih =>
  intro h0
  by_cases h:m<10
  ·rw [Nat.toDigits_of_lt_base h]
   have:∀ d:Nat,d<10->0<d->(Nat.digitChar d).toNat≠48:=by decide
   exact this m h h0
  ·have hm:m % 10<10:=Nat.mod_lt m (by decide)
   have t:Nat.toDigits 10 (m / 10)++Nat.toDigits 10 (m % 10)=Nat.toDigits 10 (10*(m / 10)+m % 10):=Nat.toDigits_append_toDigits (by decide) (by omega) hm
   rw [Nat.div_add_mod] at t
   have:=ih (m / 10) (by omega) (by omega)
   have hp:0<(Nat.toDigits 10 (m / 10)).length:=Nat.length_toDigits_pos
   rw [<- t,List.map_append]
   cases e:Nat.toDigits 10 (m / 10) with
   | nil=>rw [e] at hp;exact absurd hp (by decide)
   | cons _ _=>rw [e] at this;exact this
noncomputable abbrev nW (n:Int):Str:=Str.ofString (toString n)
theorem num_word {n:Nat} (h:n<1000000000000000000):isNum (nW ((n:Nat):Int))=true/\numV (nW ((n:Nat):Int))=((n:Nat):Int):=by
 have es:=PySem.W.KIN.signs_num n
 have hl:(Nat.toDigits 10 n).length<=18:=(Nat.length_toDigits_le_iff (by decide) (by decide)).mpr (by omega)
 have hd:AllDigits (nW ((n:Nat):Int)).cps.toList:=fun c hc=>by
  rw [es] at hc
  obtain ⟨ch,hch,e⟩:=List.mem_map.mp hc
  rw [<- e]
  exact PyProof.Rows.digit_range (Nat.isDigit_of_mem_toDigits (by decide) (by decide) hch)
 have hpos:0<(Nat.toDigits 10 n).length:=Nat.length_toDigits_pos
 have hne:(nW ((n:Nat):Int)).cps.toList≠[]:=fun e=>by
  rw [es] at e
  rw [List.map_eq_nil_iff.mp e] at hpos
  exact absurd hpos (by decide)
 have hlen:(nW ((n:Nat):Int)).length<=18:=by rw [str_len,es,List.length_map];exact hl
 have e1:=intText_digits hd hne (Nat.le_trans hlen (by decide))
 rw [es,PySem.W.KIN.val_back] at e1
 refine ⟨?_,by unfold numV;rw [e1];rfl⟩
 by_cases h0:n=0
 ·subst h0;decide +kernel
 unfold isNum
 rw [Bool.or_eq_true]
 refine .inr ?_
 simp only [madeOf,Bool.and_eq_true,Bool.not_eq_true',decide_eq_false_iff_not,decide_eq_true_eq,List.all_eq_true]
 refine ⟨⟨fun e=>hne (by rw [e];decide +kernel),hlen,fun c hc=>by simpa [isFig] using hd c hc⟩,fun e=>?_⟩
 rw [es] at e
 exact first_dig n (by omega) e
mutual
noncomputable def wdsE:Ex->List Str
 | .num n=>[nW n]
 | .truth z=>[z]
 | .name z=>[z]
 | .not e=>"not"::wdsE e
 | .op w a b=>w::(wdsE a++wdsE b)
 | .of n e=>"of"::n::wdsE e
 | .many w n es=>w::n::(wdsL es++[(".":Str)])
noncomputable def wdsL:List Ex->List Str
 | []=>[]
 | e::es=>wdsE e++wdsL es
end
mutual
noncomputable def depE:Ex->Nat
 | .num _=>1
 | .truth _=>1
 | .name _=>1
 | .not e=>depE e+1
 | .op _ a b=>max (depE a) (depE b)+1
 | .of _ e=>depE e+1
 | .many _ _ es=>depL es+1
noncomputable def depL:List Ex->Nat
 | []=>0
 | e::es=>max (depE e) (depL es)
end
mutual
noncomputable def GoodE:Ex->Prop
 | .num n=>0<=n/\n<1000000000000000000
 | .truth z=>z∈(["yes","no"]:List Str)
 | .name z=>isName z=true
 | .not e=>GoodE e
 | .op w a b=>w∈ops7/\GoodE a/\GoodE b
 | .of n e=>isName n=true/\GoodE e
 | .many w n es=>w∈(["do","new"]:List Str)/\isName n=true/\GoodL es
noncomputable def GoodL:List Ex->Prop
 | []=>True
 | e::es=>GoodE e/\GoodL es
end
mutual
theorem wdsE_pos:∀ e:Ex,0<(wdsE e).length
 | .num _=>by simp [wdsE]
 | .truth _=>by simp [wdsE]
 | .name _=>by simp [wdsE]
 | .not _=>by simp [wdsE]
 | .op _ _ _=>by simp [wdsE]
 | .of _ _=>by simp [wdsE]
 | .many _ _ _=>by simp [wdsE]
end
noncomputable def AtW (ws:List Str) (i:Nat) (vs:List Str):Prop:=∀ k,k<vs.length->ws[i+k]?=vs[k]?
theorem AtW.hd {ws:List Str} {i:Nat} {z:Str} {vs:List Str} (h:AtW ws i (z::vs)):ws[i]?=some z/\AtW ws (i+1) vs :=
 ⟨by have:=h 0 (by simp);simpa using this,fun k hk=>by have:=h (k+1) (by simp;omega);rw [show i+1+k=i+(k+1) by omega,this];rfl⟩
theorem AtW.app {ws:List Str} {i:Nat} {a b:List Str} (h:AtW ws i (a++b)):AtW ws i a/\AtW ws (i+a.length) b :=
 ⟨fun k hk=>by have:=h k (by simp;omega);rw [this,List.getElem?_append_left hk],fun k hk=>by
  have:=h (a.length+k) (by simp;omega)
  rw [show i+a.length+k=i+(a.length+k) by omega,this,List.getElem?_append_right (by omega),show a.length+k-a.length=k by omega]⟩
theorem AtW.len {ws:List Str} {i:Nat} {vs:List Str} (h:AtW ws i vs) (h0:0<vs.length):i+vs.length<=ws.length:=by
 have:=h (vs.length-1) (by omega)
 rw [List.getElem?_eq_getElem (show vs.length-1<vs.length by omega)] at this
 have:=(List.getElem?_eq_some_iff.mp this).1
 omega
theorem nm_num {z:Str} (h:isName z=true):isNum z=false:=by
 cases e:isNum z with
 | false=>rfl
 | true =>
  unfold isName at h
  simp only [madeOf,Bool.and_eq_true,Bool.not_eq_true',decide_eq_false_iff_not,decide_eq_true_eq,List.all_eq_true] at h
  obtain ⟨⟨hne,_,hlo⟩,_⟩:=h
  have hcn:z.cps.toList≠[]:=fun e=>hne (str_ext (e.trans (by decide +kernel)))
  obtain ⟨c,cs,ec⟩:∃ c cs,z.cps.toList=c::cs:=⟨_,_,(List.cons_head_tail hcn).symm⟩
  have h1:=hlo c (by rw [ec];simp)
  unfold isNum at e
  rw [Bool.or_eq_true] at e
  rcases e with e | e
  ·have:=of_decide_eq_true e
   rw [this] at ec
   have:c=48:=by
    have q:("0":Str).cps.toList=[48]:=by decide +kernel
    rw [q] at ec;injection ec with a b;exact a.symm
   rw [this] at h1;revert h1;decide
  ·simp only [madeOf,Bool.and_eq_true,List.all_eq_true] at e
   have h2:=e.1.2.2 c (by rw [ec];simp)
   unfold isLo at h1
   unfold isFig at h2
   have:=of_decide_eq_true h1
   have:=of_decide_eq_true h2
   omega
theorem ops_ok:∀ w∈ops7,isNum w=false/\w∉(["yes","no"]:List Str)/\isName w=false/\w≠"not"/\w≠".":=by decide +kernel
theorem mny_ok:∀ w∈(["do","new","of"]:List Str),isNum w=false/\w∉(["yes","no"]:List Str)/\isName w=false/\w≠"not"/\w∉ops7/\isMany w=true/\w≠".":=by decide +kernel
theorem yn_ok:∀ w∈(["yes","no"]:List Str),isNum w=false/\w≠".":=by decide +kernel
theorem not_ok:isNum "not"=false/\("not":Str)∉(["yes","no"]:List Str)/\isName "not"=false:=by decide +kernel
theorem nm_yn {z:Str} (h:isName z=true):z∉(["yes","no"]:List Str):=fun q=>by
 rcases List.mem_cons.mp q with e | e
 ·rw [e] at h;revert h;decide +kernel
 ·have:z="no":=by simpa using e
  rw [this] at h;revert h;decide +kernel
theorem nm_dot {z:Str} (h:isName z=true):z≠".":=by rintro rfl;revert h;decide +kernel
theorem num_dot {n:Int} (h0:0<=n) (h:n<1000000000000000000):nW n≠".":=fun e=>by
 obtain ⟨m,rfl⟩:=Int.eq_ofNat_of_zero_le h0
 have:=(num_word (n:=m) (by omega)).1
 rw [e] at this;revert this;decide +kernel
theorem hd_dot:∀ {e:Ex},GoodE e->(wdsE e).head?≠some (".":Str)
 | .num n,h=>by simp only [wdsE,List.head?_cons];exact fun e=>num_dot h.1 h.2 (Option.some.inj e)
 | .truth z,h=>by simp only [wdsE,List.head?_cons];exact fun e=>(yn_ok z h).2 (Option.some.inj e)
 | .name z,h=>by simp only [wdsE,List.head?_cons];exact fun e=>nm_dot h (Option.some.inj e)
 | .not _,_=>by simp only [wdsE,List.head?_cons];decide +kernel
 | .op w _ _,h=>by simp only [wdsE,List.head?_cons];exact fun e=>(ops_ok w h.1).2.2.2.2 (Option.some.inj e)
 | .of _ _,_=>by simp only [wdsE,List.head?_cons];decide +kernel
 | .many w _ _,h=>by
  simp only [wdsE,List.head?_cons]
  intro e
  have e:=Option.some.inj e
  rw [e] at h
  exact absurd h.1 (by decide +kernel)
theorem AtW.first {ws:List Str} {i:Nat} {e:Ex} (h:AtW ws i (wdsE e)) (g:GoodE e):ws[i]?≠some (".":Str):=by
 have h0:=h 0 (wdsE_pos e)
 rw [Nat.add_zero] at h0
 rw [h0,<- List.head?_eq_getElem?]
 exact hd_dot g
theorem wdsL_len:∀ es:List Ex,es.length<=(wdsL es).length
 | []=>by simp [wdsL]
 | e::es=>by have:=wdsE_pos e;have:=wdsL_len es;simp [wdsL];omega
theorem pM_own {k:Nat} {ws:List Str} (ih:∀ (e:Ex) (i:Nat),GoodE e->AtW ws i (wdsE e)->(depE e<=k->pE ws k i=some (e,i+(wdsE e).length))/\(k<depE e->pE ws k i=none)) :
  ∀ (es:List Ex) (f i:Nat),GoodL es->AtW ws i (wdsL es++[(".":Str)])->es.length<f->(depL es<=k->pM (pE ws k) ws f i=some (es,i+(wdsL es).length+1))/\(k<depL es->pM (pE ws k) ws f i=none)
 | [],f+1,i,_,h,_=>by
  have h0:ws[i]?=some ".":=h.hd.1
  unfold pM
  rw [if_pos h0]
  exact ⟨fun _=>rfl,fun q=>absurd q (by simp [depL])⟩
 | e::es,f+1,i,g,h,hf=>by
  have h:AtW ws i (wdsE e++(wdsL es++[(".":Str)])):=by rw [<- List.append_assoc];exact h
  obtain ⟨h1,h2⟩:=h.app
  have q1:=ih e i g.1 h1
  have q2:=pM_own ih es f (i+(wdsE e).length) g.2 h2 (by simpa using hf)
  have tn:=pM_turn (p:=pE ws k) (ws:=ws) (f:=f) (i:=i) (h1.first g.1)
  refine ⟨fun hd=>?_,fun hd=>?_⟩
  ·simp only [depL] at hd
   rw [tn.2 _ _ (q1.1 (by omega)),q2.1 (by omega)]
   simp only [wdsL,List.length_append,Option.map_some]
   rw [Nat.add_assoc i]
  ·simp only [depL] at hd
   by_cases c:k<depE e
   ·exact tn.1 (q1.2 c)
   ·rw [tn.2 _ _ (q1.1 (by omega)),q2.2 (by omega)]
    rfl
theorem pE_own:∀ (k:Nat) (ws:List Str) (e:Ex) (i:Nat),GoodE e->AtW ws i (wdsE e)->(depE e<=k->pE ws k i=some (e,i+(wdsE e).length))/\(k<depE e->pE ws k i=none)
 | 0,ws,e,i,g,h=>⟨fun q=>by have:0<depE e:=by cases e<;>simp [depE]
                            omega,fun _=>rfl⟩
 | k+1,ws,.num n,i,g,h=>by
  obtain ⟨h0,_⟩:=h.hd
  obtain ⟨m,rfl⟩:=Int.eq_ofNat_of_zero_le g.1
  have hw:=num_word (n:=m) (by have:=g.2;omega)
  unfold pE
  rw [h0]
  dsimp only
  rw [if_pos hw.1,hw.2]
  exact ⟨fun _=>rfl,fun q=>absurd q (by simp [depE])⟩
 | k+1,ws,.truth z,i,g,h=>by
  obtain ⟨h0,_⟩:=h.hd
  unfold pE
  rw [h0]
  dsimp only
  have g:z∈(["yes","no"]:List Str):=g
  rw [if_neg (by rw [(yn_ok z g).1];decide),if_pos g]
  exact ⟨fun _=>rfl,fun q=>absurd q (by simp [depE])⟩
 | k+1,ws,.name z,i,g,h=>by
  obtain ⟨h0,_⟩:=h.hd
  have g:isName z=true:=g
  unfold pE
  rw [h0]
  dsimp only
  rw [if_neg (by rw [nm_num g];decide),if_neg (nm_yn g),if_pos g]
  exact ⟨fun _=>rfl,fun q=>absurd q (by simp [depE])⟩
 | k+1,ws,.not e,i,g,h=>by
  obtain ⟨h0,h1⟩:=h.hd
  have q:=pE_own k ws e (i+1) g h1
  unfold pE
  rw [h0]
  dsimp only
  rw [if_neg (by rw [not_ok.1];decide),if_neg not_ok.2.1,if_neg (by rw [not_ok.2.2];decide),if_pos rfl]
  simp only [depE]
  refine ⟨fun hd=>?_,fun hd=>?_⟩
  ·rw [q.1 (by omega)]
   simp [wdsE];omega
  ·rw [q.2 (by omega)]
 | k+1,ws,.op w a b,i,g,h=>by
  obtain ⟨h0,h1⟩:=h.hd
  obtain ⟨h2,h3⟩:=h1.app
  have q1:=pE_own k ws a (i+1) g.2.1 h2
  have q2:=pE_own k ws b (i+1+(wdsE a).length) g.2.2 h3
  obtain ⟨o1,o2,o3,o4,_⟩:=ops_ok w g.1
  unfold pE
  rw [h0]
  dsimp only
  rw [if_neg (by rw [o1];decide),if_neg o2,if_neg (by rw [o3];decide),if_neg o4,if_pos g.1]
  simp only [depE]
  refine ⟨fun hd=>?_,fun hd=>?_⟩
  ·rw [q1.1 (by omega)]
   dsimp only
   rw [q2.1 (by omega)]
   simp [wdsE];omega
  ·by_cases c:k<depE a
   ·rw [q1.2 c]
   ·rw [q1.1 (by omega)]
    dsimp only
    rw [q2.2 (by omega)]
 | k+1,ws,.of n e,i,g,h=>by
  obtain ⟨h0,h1⟩:=h.hd
  obtain ⟨h2,h3⟩:=h1.hd
  have q:=pE_own k ws e (i+1+1) g.2 h3
  obtain ⟨o1,o2,o3,o4,o5,o6,_⟩:=mny_ok "of" (by decide +kernel)
  unfold pE
  rw [h0]
  dsimp only
  rw [if_neg (by rw [o1];decide),if_neg o2,if_neg (by rw [o3];decide),if_neg o4,if_neg o5]
  unfold pD pWd
  rw [if_pos o6,h2]
  dsimp only
  rw [if_pos g.1]
  dsimp only
  rw [if_pos rfl]
  simp only [depE]
  refine ⟨fun hd=>?_,fun hd=>?_⟩
  ·rw [q.1 (by omega)]
   simp [wdsE];omega
  ·rw [q.2 (by omega)]
 | k+1,ws,.many w n es,i,g,h=>by
  obtain ⟨h0,h1⟩:=h.hd
  obtain ⟨h2,h3⟩:=h1.hd
  have hl:=h3.len (by simp)
  have hle:=wdsL_len es
  have q:=pM_own (k:=k) (ws:=ws) (fun e i=>pE_own k ws e i) es (ws.length+1) (i+1+1) g.2.2 h3 (by simp at hl;omega)
  have hw:w∈(["do","new","of"]:List Str):=by
   rcases List.mem_cons.mp g.1 with e | e
   ·rw [e];decide +kernel
   ·have:w="new":=by simpa using e
    rw [this];decide +kernel
  have hof:w≠"of":=by
   rcases List.mem_cons.mp g.1 with e | e
   ·rw [e];decide +kernel
   ·have:w="new":=by simpa using e
    rw [this];decide +kernel
  obtain ⟨o1,o2,o3,o4,o5,o6,_⟩:=mny_ok w hw
  unfold pE
  rw [h0]
  dsimp only
  rw [if_neg (by rw [o1];decide),if_neg o2,if_neg (by rw [o3];decide),if_neg o4,if_neg o5]
  unfold pD pWd
  rw [if_pos o6,h2]
  dsimp only
  rw [if_pos g.2.1]
  dsimp only
  rw [if_neg hof]
  simp only [depE]
  refine ⟨fun hd=>?_,fun hd=>?_⟩
  ·rw [q.1 (by omega)]
   simp [wdsE];omega
  ·rw [q.2 (by omega)]
section
variable {P:Program} {w:World} {K:PySem.W.Frag} {mg:Str->Option Value} {base:Heap} {AA:Adr} {DD:Fds}
noncomputable def W1 (z:Str):Prop:=z.length<=100/\∀ c∈z.cps.toList,c<128
noncomputable instance (z:Str):Decidable (W1 z):=inferInstanceAs (Decidable (_/\_))
theorem name_ws {z:Str} (h:isName z=true):W1 z:=by
 unfold isName madeOf at h
 simp only [Bool.and_eq_true,Bool.not_eq_true',decide_eq_false_iff_not,decide_eq_true_eq,List.all_eq_true] at h
 refine ⟨by omega,fun c hc=>?_⟩
 have:=h.1.2.2 c hc
 unfold isLo at this
 have:=of_decide_eq_true this
 omega
theorem num_ws {z:Str} (h:isNum z=true):W1 z:=by
 unfold isNum madeOf at h
 simp only [Bool.or_eq_true,Bool.and_eq_true,Bool.not_eq_true',decide_eq_false_iff_not,decide_eq_true_eq,List.all_eq_true] at h
 rcases h with rfl | h
 ·decide +kernel
 ·refine ⟨by omega,fun c hc=>?_⟩
  have:=h.1.2.2 c hc
  unfold isFig at this
  have:=of_decide_eq_true this
  omega
theorem ops_ws:∀ z∈ops7,W1 z:=by decide +kernel
theorem mny_ws:∀ z∈(["do","new"]:List Str),W1 z:=by decide +kernel
theorem yn_ws:∀ z∈(["yes","no"]:List Str),W1 z:=by decide +kernel
theorem lit_ws:W1 "not"/\W1 "of"/\W1 "."/\W1 "tell"/\W1 "num"/\W1 "truth"/\W1 "name":=by decide +kernel
mutual
theorem good_ws:∀ (e:Ex),GoodE e->∀ z∈wdsE e,W1 z
 | .num n,g,z,h=>by
  have e:z=nW n:=by simpa [wdsE] using h
  obtain ⟨m,rfl⟩:=Int.eq_ofNat_of_zero_le g.1
  rw [e]
  exact num_ws (num_word (by have:=g.2;omega)).1
 | .truth y,g,z,h=>by
  have e:z=y:=by simpa [wdsE] using h
  rw [e];exact yn_ws _ g
 | .name y,g,z,h=>by
  have e:z=y:=by simpa [wdsE] using h
  rw [e];exact name_ws g
 | .not e,g,z,h=>by
  rcases List.mem_cons.mp h with rfl | h
  ·exact lit_ws.1
  ·exact good_ws e g z h
 | .op w a b,g,z,h=>by
  rcases List.mem_cons.mp h with rfl | h
  ·exact ops_ws _ g.1
  ·rcases List.mem_append.mp h with h | h
   ·exact good_ws a g.2.1 z h
   ·exact good_ws b g.2.2 z h
 | .of n e,g,z,h=>by
  rcases List.mem_cons.mp h with rfl | h
  ·exact lit_ws.2.1
  ·rcases List.mem_cons.mp h with rfl | h
   ·exact name_ws g.1
   ·exact good_ws e g.2 z h
 | .many w n es,g,z,h=>by
  rcases List.mem_cons.mp h with rfl | h
  ·exact mny_ws _ g.1
  ·rcases List.mem_cons.mp h with rfl | h
   ·exact name_ws g.2.1
   ·rcases List.mem_append.mp h with h | h
    ·exact goodL_ws es g.2.2 z h
    ·rw [show z="." by simpa using h];exact lit_ws.2.2.1
theorem goodL_ws:∀ (es:List Ex),GoodL es->∀ z∈wdsL es,W1 z
 | [],_,z,h=>by cases h
 | e::es,g,z,h=>by
  rcases List.mem_append.mp h with h | h
  ·exact good_ws e g.1 z h
  ·exact goodL_ws es g.2 z h
end
theorem row_of {ws:List Str} {z:Str} {j:Nat} {h:Hd} (h0:ws[0]?=some z) (hh:pHd ws z 1=some (h,j)) (hj:j=ws.length):pRow ws=some h:=by
 unfold pRow
 rw [h0]
 dsimp only
 rw [hh]
 dsimp only
 rw [if_pos hj]
theorem hd_ex {ws:List Str} {z:Str} {e:Ex} {j:Nat} (hz:z∈(["tell","give","if","while"]:List Str)) (he:pE ws 6 1=some (e,j)):pHd ws z 1=some (.ex z e,j):=by
 unfold pHd
 have h1:z∉(["else","end"]:List Str):=by
  revert hz;revert z
  intro z hz q
  simp only [List.mem_cons,List.not_mem_nil,or_false] at hz q
  rcases hz with rfl | rfl | rfl | rfl<;>revert q<;>decide +kernel
 rw [if_neg h1,if_pos hz,he];rfl
noncomputable def GoodT (e:Ex):Prop:=GoodE e/\depE e<=6
theorem atw_own {ws vs:List Str}:AtW (ws++vs) ws.length vs:=fun k hk=>by
 rw [List.getElem?_append_right (by omega)]
 congr 1;omega
theorem row_e {z:Str} (hz:z∈(["tell","give","if","while"]:List Str)) {e:Ex} (g:GoodT e):pRow (z::wdsE e)=some (.ex z e):=by
 have h:=(pE_own 6 (z::wdsE e) e 1 g.1 (atw_own (ws:=[z]))).1 g.2
 exact row_of (z:=z) rfl (hd_ex hz h) (by simp;omega)
theorem row_s {n:Str} (hn:isName n=true) {e:Ex} (g:GoodT e):pRow ("set"::n::wdsE e)=some (.st n e):=by
 have h:=(pE_own 6 ("set"::n::wdsE e) e 2 g.1 (atw_own (ws:=["set",n]))).1 g.2
 refine row_of (z:="set") (j:=2+(wdsE e).length) rfl ?_ (by simp;omega)
 unfold pHd
 have hw:pWd isName ("set"::n::wdsE e) 1=some n:=by
  unfold pWd
  simp [hn]
 rw [if_neg (by decide +kernel),if_neg (by decide +kernel),if_pos (by decide +kernel),hw]
 dsimp only
 rw [if_neg (by decide +kernel),if_pos rfl,h]
 rfl
end
section
variable {P:Program} {w:World} {K:PySem.W.Frag} {mg:Str->Option Value} {base:Heap} {AA:Adr} {DD:Fds}
theorem modN {a:Int} {n:Nat} (h:0<n):∃ m:Nat,a % ((n:Nat):Int)=((m:Nat):Int)/\m<n :=
 ⟨(a % ((n:Nat):Int)).toNat,(Int.toNat_of_nonneg (Int.emod_nonneg _ (by omega))).symm,by
   have h1:=Int.emod_nonneg a (show ((n:Nat):Int)≠0 by omega)
   have h2:=Int.emod_lt_of_pos a (show (0:Int)<((n:Nat):Int) by omega)
   omega⟩
noncomputable def spCellAt (K:PySem.W.Frag):Sp:=fun vs H Q _=>∃ (a:Addr) (ns:List Int) (k:Nat),vs=[.ref a,.int k]/\SqL K H a (ns.map V.int)/\Q (.int (ns.getD k 0)) H
noncomputable abbrev N_Zt:List Str:=["_law_script","_law_k"]
theorem sc_Zt:FnScope N_Zt ["_law_script","_law_k"] (defScope st_Zt):=⟨rfl,rfl,rfl,by decide +kernel,rfl,by decide +kernel,by decide +kernel⟩
theorem ok_cellat (T:All P w K mg AA DD):FnOk P w K mg base CX0 1 AA.Zt DD.Zt ["_law_script","_law_k"] (spCellAt K):=by
 refine T.F_Zt.ok sc_Zt (fun vs H Q E h=>?_) (fun cdv A outer s H vs Q E hr h=>?_)
 ·obtain ⟨a,ns,k,rfl,_⟩:=h
  rfl
 ·obtain ⟨a,ns,j,rfl,hS,k⟩:=h
  have nd:=sc_Zt.nd
  refine ⟨_,(@pss_cons _ _ _ _ _ (@ps_if _ _ _ _ _ _ _ _ (@pt_cmpR _ _ _ _ _ _ _ _ op_lt (pv 1) (pe_callB call_len_seq rfl T.n_len bt_len (@pa_cons _ _ _ _ _ (pv 0) pa_nil (by rfl))) (nomark _)) (@pss_one _ _ _ (@ps_ret _ _ _ _ (@pe_ix _ _ _ _ _ _ _ (ix_listK (K:=K) rfl) (pv 0) (pv 1) (fun _ _=>rfl)))) pss_nil) (@pss_one _ _ _ (@ps_ret _ _ _ _ pe_int))),?_⟩
  refine ⟨_,rfl,_,rfl,a,_,rfl,.inl hS,_,_,rfl,rfl,_,rfl,?_⟩
  rw [List.length_map]
  refine ite2 (fun h1=>?_) (fun h1=>?_)
  ·have h1:((j:Nat):Int)<(ns.length:Int):=of_decide_eq_true h1
   exact ⟨_,rfl,_,rfl,a,_,_,.int (ns.getD j 0),rfl,rfl,hS,atI_nat (j:=j) (by rw [List.getElem?_map,List.getElem?_eq_getElem (by omega),List.getD_eq_getElem?_getD,List.getElem?_eq_getElem (by omega)];rfl),k⟩
  ·have h1:¬ ((j:Nat):Int)<(ns.length:Int):=fun q=>h1 (decide_eq_true q)
   rw [List.getD_eq_getElem?_getD,List.getElem?_eq_none (by omega)] at k
   exact k
noncomputable def spStream:Sp:=fun vs H Q _=>∃ (c:Int),vs=[.int c,.int 8]/\∀ p (zs:List Int),H p=none->zs.length=8->(∀ z∈zs,0<=z/\z<2 ^ 32)->Q (.ref p) (upd H p (.lst (zs.map V.int)))
noncomputable abbrev N_ZB:List Str:=["_law_cell","_law_size","_law_found","_law_number","_law_k"]
theorem sc_ZB:FnScope N_ZB ["_law_cell","_law_size"] (defScope st_ZB):=⟨rfl,rfl,rfl,by decide +kernel,rfl,by decide +kernel,by decide +kernel⟩
theorem ok_stream (T:All P w K mg AA DD):FnOk P w K mg base CX0 1 AA.ZB DD.ZB ["_law_cell","_law_size"] spStream:=by
 refine T.F_ZB.ok sc_ZB (fun vs H Q E h=>?_) (fun cdv A outer s H vs Q E hr h=>?_)
 ·obtain ⟨c,rfl,_⟩:=h
  rfl
 ·obtain ⟨c,rfl,k⟩:=h
  have nd:=sc_ZB.nd
  refine ⟨_,(@pss_cons _ _ _ _ _ (@ps_set _ _ 2 _ _ _ _ nd rfl (Or.inl rfl) (@pe_lst _ _ _ _ pa_nil) (by rfl) (by first | exact .inl rfl | exact .inr rfl | assumption)) (@pss_cons _ _ _ _ _ (@ps_set _ _ 3 _ _ _ _ nd rfl (Or.inl rfl) (@pe_op _ _ _ _ _ _ _ _ op_mod (@pe_op _ _ _ _ _ _ _ _ op_mul (@pe_op _ _ _ _ _ _ _ _ op_add (@pe_op _ _ _ _ _ _ _ _ op_mod (pv 0) pe_int) pe_int) pe_int) pe_int) (by rfl) (by first | exact .inl rfl | exact .inr rfl | assumption)) (@pss_cons _ _ _ _ _ (@ps_for _ _ _ _ _ _ _ _ PassesOwn.never rfl (pi_range1 rfl T.n_range (@pa_cons _ _ _ _ _ (pv 1) pa_nil (by rfl))) (pg_name (i:=4) nd rfl (Or.inl rfl)) (@pss_cons _ _ _ _ _ (@ps_set _ _ 3 _ _ _ _ nd rfl (Or.inl rfl) (@pe_op _ _ _ _ _ _ _ _ op_add (@pe_op _ _ _ _ _ _ _ _ op_add (@pe_op _ _ _ _ _ _ _ _ op_mod (@pe_op _ _ _ _ _ _ _ _ op_mul (pv 3) (@pe_op _ _ _ _ _ _ _ _ op_add (@pe_op _ _ _ _ _ _ _ _ op_fdiv (pv 3) pe_int) pe_int)) pe_int) (pv 4)) pe_int) (by rfl) (by first | exact .inl rfl | exact .inr rfl | assumption)) (@pss_one _ _ _ (@ps_expr _ _ _ _ (pe_bm PySem.F.plainAttrs_list PySem.F.slot_list_append PySem.F.type_list_append mt_append (pv 2) (@pa_cons _ _ _ _ _ (pv 3) pa_nil (by rfl))) (by rfl)))) (by intro _;rfl)) (@pss_one _ _ _ (@ps_ret _ _ _ _ (pv 2)))))),?_⟩
  refine ⟨Nat.zero_le _,fun p hp=>?_⟩
  have b0:=Int.emod_nonneg c (show (2147483647:Int)≠0 by decide)
  have b1:=Int.emod_lt_of_pos c (show (0:Int)<2147483647 by decide)
  refine ⟨_,rfl,_,_,rfl,rfl,(by show (0:Int)<2147483647;decide),_,_,rfl,rfl,_,_,rfl,rfl,.inl ⟨by omega,by omega⟩,_,_,rfl,rfl,(by show (0:Int)<2147483647;decide),?_⟩
  dsimp only
  generalize hy:(c % 2147483647+1)*48271 % 2147483647=y
  have y0:0<=y:=by rw [<- hy];exact Int.emod_nonneg _ (by decide)
  have y1:y<2147483647:=by rw [<- hy];exact Int.emod_lt_of_pos _ (by decide)
  refine ⟨_,rfl,_,rfl,by decide,by decide,?_⟩
  refine for_range (fun i σ H'=>∃ (x:Int) (zs:List Int) (s4:Option V),0<=x/\x<2147483760/\zs.length=i/\(∀ z∈zs,0<=z/\z<2 ^ 32)/\H'=upd H p (.lst (zs.map V.int))/\σ=[some (.int c),some (.int 8),some (.ref p),some (.int x),s4])
   ⟨_,[],none,y0,by omega,rfl,by simp,rfl,rfl⟩ ?_ ?_
  ·rintro i σ H' hi ⟨x,zs,s4,h0,h1,hl,hz,rfl,rfl⟩
   have hi:i<8:=hi
   have d0:0<=x / 1009:=Int.ediv_nonneg h0 (by decide)
   have d1:x / 1009<=x:=by omega
   refine ⟨_,rfl,_,rfl,_,_,rfl,rfl,⟨by decide,by decide⟩,_,_,rfl,rfl,_,_,rfl,rfl,.inl ⟨by omega,by omega⟩,_,_,rfl,rfl,(by show (0:Int)<2147483647;decide),_,rfl,_,_,rfl,rfl,_,_,rfl,rfl,?_⟩
   dsimp only
   generalize hw:(x*(x / 1009+69621)) % 2147483647=u
   have u0:0<=u:=by rw [<- hw];exact Int.emod_nonneg _ (by decide)
   have u1:u<2147483647:=by rw [<- hw];exact Int.emod_lt_of_pos _ (by decide)
   refine ⟨_,rfl,.inl ⟨rfl,_,SqL.of upd_same⟩,_,rfl,p,_,_,rfl,rfl,upd_same,?_,?_⟩
   ·rw [List.length_map];exact small1000 (by omega)
   ·refine ⟨u+(0+(i:Int))+1,zs++[u+(0+(i:Int))+1],_,by omega,by omega,by simp [hl],fun z hz'=>?_,?_,rfl⟩
    ·rcases List.mem_append.mp hz' with q | q
     ·exact hz z q
     ·have:z=u+(0+(i:Int))+1:=by simpa using q
      subst this
      omega
    ·rw [upd_upd,List.map_append];rfl
  ·rintro σ H' ⟨x,zs,s4,h0,h1,hl,hz,rfl,rfl⟩
   refine ⟨_,rfl,?_⟩
   exact k p zs hp hl hz
end
section
variable {P:Program} {w:World} {K:PySem.W.Frag} {mg:Str->Option Value} {base:Heap} {AA:Adr} {DD:Fds}
noncomputable def in18 (v:Int):Prop:=0<=v/\v<1000000000000000000
theorem nm63:isName "x"=true/\isName "y"=true/\isName "r"=true/\isName "u"=true/\isName "v"=true/\isName "down"=true/\isName "left"=true/\isName "pair"=true:=by decide +kernel
noncomputable def lessE (n:Int):Ex:=.op "less" (.name "x") (.num n)
noncomputable def minE:Ex:=.op "-" (.name "x") (.num 1)
noncomputable def recE:Ex:=.op "+" (.name "x") (.many "do" "down" [.name "y"])
noncomputable def ofE (f:Str):Ex:=.of f (.name "r")
noncomputable def newE (sg:Str):Ex:=.many "new" "pair" [.op "+" (.name "x") (.num 1),.truth sg]
noncomputable def dleft:Ex:=.many "do" "left" [.name "r"]
noncomputable def ddown (n:Int):Ex:=.many "do" "down" [.num n]
noncomputable def kdT:Tr:=.kd 0 "pair" [("u","num"),("v","truth")]
noncomputable def dbody (d:Nat) (lo ad:Int):List Tr:=[.iff (d+1) (lessE lo) [.give (d+2) (.num ad)] [],.set (d+4) "y" minE,.give (d+5) recE]
noncomputable def lbody (d:Nat):List Tr:=[.set (d+8) "x" (ofE "u"),.give (d+9) (.name "x")]
noncomputable def downT (d:Nat) (lo ad:Int):Tr:=.df d "down" "num" [("x","num")] (dbody d lo ad)
noncomputable def leftT (d:Nat):Tr:=.df (d+7) "left" "num" [("r","pair")] (lbody d)
noncomputable def defsT (d:Nat) (lo ad:Int):List Tr:=[downT d lo ad,leftT d]
noncomputable def mainT (m:Nat) (n v:Int) (sg:Str):List Tr:=[.set m "x" (.num v),.set (m+1) "r" (newE sg),.tell (m+2) dleft,.tell (m+3) (ddown n),.tell (m+4) (ofE "v"),.tell (m+5) (.name "x")]
noncomputable def prog63 (ah:Bool) (n v:Int) (sg:Str) (lo ad:Int):List Tr:=kdT::(if ah=true then defsT 1 lo ad++mainT 12 n v sg else mainT 1 n v sg++defsT 7 lo ad)
noncomputable def defsR (lo ad:Int):List (List Str):=[(["def","down","num","x","num"]:List Str),("if":Str)::wdsE (lessE lo),("give":Str)::wdsE (.num ad),(["end"]:List Str)]++[("set":Str)::"y"::wdsE minE,("give":Str)::wdsE recE,(["end"]:List Str)]++[(["def","left","num","r","pair"]:List Str),"set"::"x"::wdsE (ofE "u"),"give"::wdsE (.name "x"),["end"]]
noncomputable def mainR (n v:Int) (sg:Str):List (List Str):=[("set":Str)::"x"::wdsE (.num v),"set"::"r"::wdsE (newE sg)]++[("tell":Str)::wdsE dleft,"tell"::wdsE (ddown n)]++[("tell":Str)::wdsE (ofE "v"),"tell"::wdsE (.name "x")]
noncomputable def kdR:List Str:=["kind","pair","u","num","v","truth"]
noncomputable def rows63 (ah:Bool) (n v:Int) (sg:Str) (lo ad:Int):List (List Str):=if ah=true then [kdR]++defsR lo ad++mainR n v sg else [kdR]++mainR n v sg++defsR lo ad
theorem g_less {n:Int} (h:in18 n):GoodT (lessE n):=⟨⟨by decide +kernel,nm63.1,h⟩,by simp [lessE,depE]⟩
theorem g_min:GoodT minE:=⟨⟨by decide +kernel,nm63.1,show in18 1 from ⟨by decide,by decide⟩⟩,by simp [minE,depE]⟩
theorem g_rec:GoodT recE:=⟨⟨by decide +kernel,nm63.1,by decide +kernel,nm63.2.2.2.2.2.1,nm63.2.1,trivial⟩,by simp [recE,depE,depL]⟩
theorem g_ofu:GoodT (ofE "u"):=⟨⟨nm63.2.2.2.1,nm63.2.2.1⟩,by simp [ofE,depE]⟩
theorem g_ofv:GoodT (ofE "v"):=⟨⟨nm63.2.2.2.2.1,nm63.2.2.1⟩,by simp [ofE,depE]⟩
theorem g_new {sg:Str} (h:sg∈(["yes","no"]:List Str)):GoodT (newE sg):=⟨⟨by decide +kernel,nm63.2.2.2.2.2.2.2,⟨by decide +kernel,nm63.1,show in18 1 from ⟨by decide,by decide⟩⟩,h,trivial⟩,by simp [newE,depE,depL]⟩
theorem g_dl:GoodT dleft:=⟨⟨by decide +kernel,nm63.2.2.2.2.2.2.1,nm63.2.2.1,trivial⟩,by simp [dleft,depE,depL]⟩
theorem g_dd {n:Int} (h:in18 n):GoodT (ddown n):=⟨⟨by decide +kernel,nm63.2.2.2.2.2.1,h,trivial⟩,by simp [ddown,depE,depL]⟩
theorem g_num {n:Int} (h:in18 n):GoodT (.num n):=⟨h,by simp [depE]⟩
theorem g_nm {z:Str} (h:isName z=true):GoodT (.name z):=⟨h,by simp [depE]⟩
theorem rdT_step {r:List Str} {rs:List (List Str)} {i:Nat} {S:List PyData × List PF} {h:Hd} (hr:pRow r=some h) (hp:pfP h.word (wdsP S.2)=.non):rdT (r::rs) i S=rdT rs (i+1) (stepP (.int ((i:Nat):Int)) h S):=by
 have hn:r≠[]:=fun e=>by rw [e] at hr;cases hr
 rw [rdT,if_neg hn,hr]
 dsimp only
 rw [hp]
section
variable {r:PyData} {ds:List PyData} {Z:List PF} {e:Ex} {n k:Str} {F:PF} {ps:List (Str × Str)}
theorem sp_no {h:Hd} (h1:h.word≠"end") (h2:h.word≠"else") (h3:h.word≠"if") (h4:h.word∉(["def","while"]:List Str)):stepP r h (ds,Z)=putP (.tuple (hdD r h)) (ds,Z):=by
 unfold stepP
 rw [if_neg h1,if_neg h2,if_neg h3,if_neg h4]
theorem sp_set:stepP r (Hd.st n e) (ds,Z)=putP (.tuple (hdD r (Hd.st n e))) (ds,Z):=sp_no (by show ("set":Str)≠"end";decide +kernel) (by show ("set":Str)≠"else";decide +kernel) (by show ("set":Str)≠"if";decide +kernel) (by show ("set":Str)∉(["def","while"]:List Str);decide +kernel)
theorem sp_tell:stepP r (Hd.ex "tell" e) (ds,Z)=putP (.tuple (hdD r (Hd.ex "tell" e))) (ds,Z):=sp_no (by show ("tell":Str)≠"end";decide +kernel) (by show ("tell":Str)≠"else";decide +kernel) (by show ("tell":Str)≠"if";decide +kernel) (by show ("tell":Str)∉(["def","while"]:List Str);decide +kernel)
theorem sp_give:stepP r (Hd.ex "give" e) (ds,Z)=putP (.tuple (hdD r (Hd.ex "give" e))) (ds,Z):=sp_no (by show ("give":Str)≠"end";decide +kernel) (by show ("give":Str)≠"else";decide +kernel) (by show ("give":Str)≠"if";decide +kernel) (by show ("give":Str)∉(["def","while"]:List Str);decide +kernel)
theorem sp_kind:stepP r (Hd.kd n ps) (ds,Z)=putP (.tuple (hdD r (Hd.kd n ps))) (ds,Z):=sp_no (by show ("kind":Str)≠"end";decide +kernel) (by show ("kind":Str)≠"else";decide +kernel) (by show ("kind":Str)≠"if";decide +kernel) (by show ("kind":Str)∉(["def","while"]:List Str);decide +kernel)
theorem sp_if:stepP r (Hd.ex "if" e) (ds,Z)=(ds,⟨"if",hdD r (Hd.ex "if" e),[],true⟩::Z):=by
 unfold stepP
 rw [if_neg (show ¬ (Hd.ex "if" e).word="end" from by show ¬ ("if":Str)="end";decide +kernel),if_neg (show ¬ (Hd.ex "if" e).word="else" from by show ¬ ("if":Str)="else";decide +kernel),if_pos (show (Hd.ex "if" e).word="if" from rfl)]
 rfl
theorem sp_def:stepP r (Hd.df n k ps) (ds,Z)=(ds,⟨"def",hdD r (Hd.df n k ps),[],false⟩::Z):=by
 unfold stepP
 rw [if_neg (show ¬ (Hd.df n k ps).word="end" from by show ¬ ("def":Str)="end";decide +kernel),if_neg (show ¬ (Hd.df n k ps).word="else" from by show ¬ ("def":Str)="else";decide +kernel),if_neg (show ¬ (Hd.df n k ps).word="if" from by show ¬ ("def":Str)="if";decide +kernel),if_pos (show (Hd.df n k ps).word∈(["def","while"]:List Str) from by show ("def":Str)∈(["def","while"]:List Str);decide +kernel)]
 rfl
theorem sp_end:stepP r (Hd.end_ "end") (ds,F::Z)=putP F.shut (ds,Z):=by
 unfold stepP
 rw [if_pos (show (Hd.end_ "end").word="end" from rfl)]
end
theorem row_en:pRow ["end"]=some (.end_ "end"):=row_of (z:="end") (j:=1) rfl (by unfold pHd;rw [if_pos (by decide +kernel)]) rfl
theorem row_kd:pRow kdR=some (.kd "pair" [("u","num"),("v","truth")]):=by
 refine row_of (z:="kind") (j:=6) rfl ?_ rfl
 unfold pHd
 have hw:pWd isName kdR 1=some ("pair":Str):=by decide +kernel
 have hp:pPr isPk kdR (kdR.length+1) (1+1)=some ([("u","num"),("v","truth")]:List (Str × Str)):=by decide +kernel
 rw [if_neg (by decide +kernel),if_neg (by decide +kernel),if_pos (by decide +kernel),hw]
 dsimp only
 rw [if_pos rfl,hp,unlO_some rfl (by decide +kernel)]
 rfl
theorem row_df {n k:Str} {ps:List (Str × Str)} {ws:List Str} (h0:ws[0]?=some ("def":Str)) (hw:pWd isName ws 1=some n) (hk:pWd isKd ws 2=some k) (hp:pPr isKd ws (ws.length+1) 3=some ps) (hu:Unl ps):pRow ws=some (.df n k ps):=by
 refine row_of (z:="def") (j:=ws.length) h0 ?_ rfl
 unfold pHd
 rw [if_neg (by decide +kernel),if_neg (by decide +kernel),if_pos (by decide +kernel),hw]
 dsimp only
 rw [if_neg (by decide +kernel),if_neg (by decide +kernel),hk]
 dsimp only
 rw [hp,unlO_some rfl hu]
 rfl
theorem row_d1:pRow ["def","down","num","x","num"]=some (.df "down" "num" [("x","num")]):=row_df rfl (by decide +kernel) (by decide +kernel) (by decide +kernel) (by decide +kernel)
theorem row_d2:pRow ["def","left","num","r","pair"]=some (.df "left" "num" [("r","pair")]):=row_df rfl (by decide +kernel) (by decide +kernel) (by decide +kernel) (by decide +kernel)
theorem pf63:pfP "kind" []=.non/\pfP "set" []=.non/\pfP "tell" []=.non/\pfP "def" []=.non/\pfP "if" ["def"]=.non/\pfP "give" ["def","if"]=.non/\pfP "end" ["def","if"]=.non/\pfP "set" ["def"]=.non/\pfP "give" ["def"]=.non/\pfP "end" ["def"]=.non:=by decide +kernel
theorem rd_defs {lo ad:Int} (h1:in18 lo) (h2:in18 ad) (rs:List (List Str)) (d:Nat) (ds:List PyData):rdT (defsR lo ad++rs) d (ds,[])=rdT rs (d+11) (ds++trsD (defsT d lo ad),[]):=by
 obtain ⟨_,_,_,w1,w2,w3,w4,w5,w6,w7⟩:=pf63
 unfold defsR
 simp only [List.cons_append,List.nil_append]
 rw [rdT_step (S:=(ds,[])) row_d1 (by exact w1),sp_def]
 rw [rdT_step (h:=.ex "if" (lessE lo)) (row_e (by simp) (g_less h1)) (by exact w2),sp_if]
 rw [rdT_step (h:=.ex "give" (.num ad)) (row_e (by simp) (g_num h2)) (by exact w3),sp_give,putP]
 rw [rdT_step row_en (by exact w4),sp_end,putP]
 rw [rdT_step (row_s nm63.2.1 g_min) (by exact w5),sp_set,putP]
 rw [rdT_step (h:=.ex "give" recE) (row_e (by simp) g_rec) (by exact w6),sp_give,putP]
 rw [rdT_step row_en (by exact w7),sp_end,putP]
 rw [rdT_step row_d2 (by exact w1),sp_def]
 rw [rdT_step (row_s nm63.1 g_ofu) (by exact w5),sp_set,putP]
 rw [rdT_step (h:=.ex "give" (.name "x")) (row_e (by simp) (g_nm nm63.1)) (by exact w6),sp_give,putP]
 rw [rdT_step row_en (by exact w7),sp_end,putP]
 rw [show ds++trsD (defsT d lo ad)=ds++[trD (downT d lo ad)]++[trD (leftT d)] by simp [defsT,trsD]]
 rfl
theorem rd_main {n v:Int} {sg:Str} (h1:in18 n) (h2:in18 v) (h3:sg∈(["yes","no"]:List Str)) (rs:List (List Str)) (m:Nat) (ds:List PyData):rdT (mainR n v sg++rs) m (ds,[])=rdT rs (m+6) (ds++trsD (mainT m n v sg),[]):=by
 obtain ⟨_,w1,w2,_⟩:=pf63
 unfold mainR
 simp only [List.cons_append,List.nil_append]
 rw [rdT_step (S:=(ds,[])) (row_s nm63.1 (g_num h2)) (by exact w1),sp_set,putP]
 rw [rdT_step (row_s nm63.2.2.1 (g_new h3)) (by exact w1),sp_set,putP]
 rw [rdT_step (h:=.ex "tell" dleft) (row_e (by simp) g_dl) (by exact w2),sp_tell,putP]
 rw [rdT_step (h:=.ex "tell" (ddown n)) (row_e (by simp) (g_dd h1)) (by exact w2),sp_tell,putP]
 rw [rdT_step (h:=.ex "tell" (ofE "v")) (row_e (by simp) g_ofv) (by exact w2),sp_tell,putP]
 rw [rdT_step (h:=.ex "tell" (.name "x")) (row_e (by simp) (g_nm nm63.1)) (by exact w2),sp_tell,putP]
 simp only [mainT,trsD,List.append_assoc,List.cons_append,List.nil_append]
 rfl
theorem trsD_app:∀ (a b:List Tr),trsD (a++b)=trsD a++trsD b
 | [],_=>rfl
 | t::a,b=>by simp [trsD,trsD_app a b]
theorem rd_63 {n v lo ad:Int} {sg:Str} (h1:in18 n) (h2:in18 v) (h3:sg∈(["yes","no"]:List Str)) (h4:in18 lo) (h5:in18 ad) (ah:Bool):rdT (rows63 ah n v sg lo ad) 0 ([],[])=.inr (trsD (prog63 ah n v sg lo ad),[]):=by
 have w0:=pf63.1
 cases ah with
 | true =>
  rw [rows63,if_pos rfl,List.append_assoc,List.singleton_append,rdT_step (S:=([],[])) row_kd w0,sp_kind,putP,rd_defs h4 h5]
  have:=rd_main h1 h2 h3 [] 12 ([]++[.tuple (hdD (.int ((0:Nat):Int)) (.kd "pair" [("u","num"),("v","truth")]))]++trsD (defsT 1 lo ad))
  rw [List.append_nil] at this
  rw [show 0+1+11=12 from rfl,this,prog63,if_pos rfl,trsD,trsD_app]
  rw [rdT]
  simp [kdT,trD,hdD]
 | false =>
  rw [rows63,if_neg Bool.false_ne_true,List.append_assoc,List.singleton_append,rdT_step (S:=([],[])) row_kd w0,sp_kind,putP,rd_main h1 h2 h3]
  have:=rd_defs h4 h5 [] 7 ([]++[.tuple (hdD (.int ((0:Nat):Int)) (.kd "pair" [("u","num"),("v","truth")]))]++trsD (mainT 1 n v sg))
  rw [List.append_nil] at this
  rw [show 0+1+6=7 from rfl,this,prog63,if_neg Bool.false_ne_true,trsD,trsD_app]
  rw [rdT]
  simp [kdT,trD,hdD]
end
section
variable {P:Program} {w:World} {K:PySem.W.Frag} {mg:Str->Option Value} {base:Heap} {AA:Adr} {DD:Fds}
noncomputable def dn (d:Nat) (lo ad:Int):Nat->Int->List Evn × Rs Int
 | 0,_=>([],.deep)
 | k+1,x=>if x<lo then ([.lg (d+1),.lg (d+2)],.ok ad) else
  ([.lg (d+1),.lg (d+4),.lg (d+5)]++(dn d lo ad k ((x-1) % 1000000000000000000)).1,match (dn d lo ad k ((x-1) % 1000000000000000000)).2 with
   | .ok a=>.ok ((x+a) % 1000000000000000000)
   | .deep=>.deep)
noncomputable def rsV:Rs Int->Rs RV
 | .ok a=>.ok (.pl (.int a))
 | .deep=>.deep
theorem mod18 (a:Int):in18 (a % 1000000000000000000):=⟨by omega,by omega⟩
theorem rk_less {a b:Int}:reckV "less" (.int a) (.int b)=some (yn (decide (a<b))):=by
 simp only [reckV]
 rw [if_neg (by decide +kernel),if_neg (by decide +kernel),if_neg (by decide +kernel),if_pos True.intro]
theorem rk_add {a b:Int}:reckV "+" (.int a) (.int b)=some (.int ((a+b) % 1000000000000000000)):=by
 simp only [reckV]
 rw [if_pos True.intro]
theorem rk_sub {a b:Int}:reckV "-" (.int a) (.int b)=some (.int ((a-b) % 1000000000000000000)):=by
 simp only [reckV]
 rw [if_neg (by decide +kernel),if_pos True.intro]
theorem yn_yes {b:Bool}:yn b=.str "yes"↔b=true:=by
 unfold yn
 cases b
 ·exact ⟨fun h=>by injection h with h;revert h;decide +kernel,fun h=>nomatch h⟩
 ·exact ⟨fun _=>rfl,fun _=>rfl⟩
theorem ops63:("less":Str)∈ops7/\("+":Str)∈ops7/\("-":Str)∈ops7:=by decide +kernel
section
variable {tt:List Tr} {dp n:Nat} {ρ:REnv}
theorem e_num {i:Int} (h:in18 i):EvX tt n dp ρ (.num i) [] (.ok (.pl (.int i))):=.num (by have:=h.1;omega) (by have:=h.2;omega)
theorem e_op {w:Str} {a b:Ex} {x y v:V} (hw:w∈ops7) (ha:EvX tt n dp ρ a [] (.ok (.pl x))) (hb:EvX tt n dp ρ b [] (.ok (.pl y))) (hv:reckV w x y=some v):EvX tt (n+1) dp ρ (.op w a b) [] (.ok (.pl v)) :=
 .op (es:=[]) hw (.cons (es:=[]) (fs:=[]) ha (.cons (es:=[]) (fs:=[]) hb .nil)) hv
theorem e_less {x lo:Int} (hx:ρ "x"=some (.pl (.int x))) (hl:in18 lo):EvX tt (n+1) dp ρ (lessE lo) [] (.ok (.pl (yn (decide (x<lo))))):=e_op ops63.1 (.name hx) (e_num hl) rk_less
theorem e_min {x:Int} (hx:ρ "x"=some (.pl (.int x))):EvX tt (n+1) dp ρ minE [] (.ok (.pl (.int ((x-1) % 1000000000000000000)))):=e_op ops63.2.2 (.name hx) (e_num ⟨by decide,by decide⟩) rk_sub
end
theorem env1_at {z:Str} {v:RV}:env1 z v z=some v:=if_pos rfl
theorem put_at {ρ:REnv} {z:Str} {v:RV}:ρ.put z v z=some v:=if_pos rfl
theorem put_ne {ρ:REnv} {z y:Str} {v:RV} (h:y≠z):ρ.put z v y=ρ y:=if_neg h
theorem nx_y:("x":Str)≠"y"/\("x":Str)≠"r":=by decide +kernel
theorem ev_down {tt:List Tr} {d:Nat} {lo ad:Int} (hdef:fst3 ("def","down") tt=some (downT d lo ad)) (hl:in18 lo) (ha:in18 ad):∀ (k dp:Nat) (x:Int) (ρ:REnv) (a:Ex),k+dp=6->(∀ n,EvX tt n dp ρ a [] (.ok (.pl (.int x)))) ->
  EvX tt (3*k+1) dp ρ (.many "do" "down" [a]) (dn d lo ad k x).1 (rsV (dn d lo ad k x).2)
 | 0,dp,x,ρ,a,hk,he=>.runD (es:=[]) (vs:=[.pl (.int x)]) (.cons (es:=[]) (fs:=[]) (he _) .nil) (by omega) (by simp)
 | k+1,dp,x,ρ,a,hk,he=>by
  have hL:∀ n,EvL tt n dp ρ [a] [] (.ok [.pl (.int x)]):=fun n=>.cons (es:=[]) (fs:=[]) (he n) .nil
  have hx:env1 "x" (.pl (.int x)) "x"=some (.pl (.int x)):=env1_at
  rw [show 3*(k+1)+1=3*k+3+1 by omega]
  by_cases hc:x<lo
  ·rw [dn,if_pos hc]
   refine .run (es:=[]) (hL _) (by omega) hdef ?_ (ρ':=env1 "x" (.pl (.int x)))
   refine .stop (RunX.iff (es:=[]) (fs:=[.lg (d+2)]) (e_less hx hl) ?_)
   rw [if_pos (yn_yes.mpr (decide_eq_true hc))]
   exact .stop (.give (e_num ha))
  ·rw [dn,if_neg hc]
   have h1:RunX tt (3*k+3) (dp+1) (env1 "x" (.pl (.int x))) (.iff (d+1) (lessE lo) [.give (d+2) (.num ad)] []) [.lg (d+1)] (env1 "x" (.pl (.int x))) (.ok none):=by
    refine RunX.iff (es:=[]) (fs:=[]) (e_less hx hl) ?_
    rw [if_neg (fun q=>hc (of_decide_eq_true (yn_yes.mp q)))]
    exact .nil
   have h2:RunX tt (3*k+3) (dp+1) (env1 "x" (.pl (.int x))) (.set (d+4) "y" minE) [.lg (d+4)] ((env1 "x" (.pl (.int x))).put "y" (.pl (.int ((x-1) % 1000000000000000000)))) (.ok none):=.set (es:=[]) (e_min hx)
   have ih:=ev_down hdef hl ha k (dp+1) ((x-1) % 1000000000000000000) ((env1 "x" (.pl (.int x))).put "y" (.pl (.int ((x-1) % 1000000000000000000)))) (.name "y") (by omega) (fun n=>.name put_at)
   have hx2:∀ n,EvX tt n (dp+1) ((env1 "x" (.pl (.int x))).put "y" (.pl (.int ((x-1) % 1000000000000000000)))) (.name "x") [] (.ok (.pl (.int x))):=fun n=>.name (by rw [put_ne nx_y.1];exact hx)
   cases q:(dn d lo ad k ((x-1) % 1000000000000000000)).2 with
   | ok r =>
    rw [q] at ih
    have h3:EvX tt (3*k+2) (dp+1) ((env1 "x" (.pl (.int x))).put "y" (.pl (.int ((x-1) % 1000000000000000000)))) recE ([]++((dn d lo ad k ((x-1) % 1000000000000000000)).1++[])) (.ok (.pl (.int ((x+r) % 1000000000000000000)))) :=
     .op ops63.2.1 (.cons (hx2 _) (.cons ih .nil)) rk_add
    rw [List.nil_append,List.append_nil] at h3
    have h4:=RunL.cons h1 (RunL.cons h2 (RunL.stop (ts:=[]) (RunX.give (r:=d+5) h3)))
    exact .run (es:=[]) (hL _) (by omega) hdef h4
   | deep =>
    rw [q] at ih
    have h3:EvX tt (3*k+2) (dp+1) ((env1 "x" (.pl (.int x))).put "y" (.pl (.int ((x-1) % 1000000000000000000)))) recE ([]++(dn d lo ad k ((x-1) % 1000000000000000000)).1) .deep :=
     .part (e:=recE) (.next (hx2 _) (.stop ih)) ops63.2.1 (by show 2<=20;decide)
    rw [List.nil_append] at h3
    have h4:=RunL.cons h1 (RunL.cons h2 (RunL.deep (ts:=[]) (RunX.deep (t:=.give (d+5) recE) rfl (fun r e b=>by intro w;cases w) h3)))
    exact .runI (es:=[]) (hL _) (by omega) hdef h4
theorem idx_u:(([("u","num"),("v","truth")]:List (Str × Str)).map (·.1)).idxOf? ("u":Str)=some 0/\(([("u","num"),("v","truth")]:List (Str × Str)).map (·.1)).idxOf? ("v":Str)=some 1:=by decide +kernel
theorem ev_of {tt:List Tr} {n dp j:Nat} {ρ:REnv} {f:Str} {vs:List V} {v:V} (hk:fst3 ("kind","pair") tt=some kdT) (hr:ρ "r"=some (.rcd "pair" vs)) (hj:(([("u","num"),("v","truth")]:List (Str × Str)).map (·.1)).idxOf? f=some j) (hv:vs[j]?=some v):EvX tt (n+1) dp ρ (ofE f) [] (.ok (.pl v)) :=
 .of (es:=[]) (.cons (es:=[]) (fs:=[]) (.name hr) .nil) hk (by simp) hj hv
theorem ev_left {tt:List Tr} {n d:Nat} {ρ:REnv} {w:Int} {sg:Str} (hk:fst3 ("kind","pair") tt=some kdT) (hdef:fst3 ("def","left") tt=some (leftT d)) (hr:ρ "r"=some (.rcd "pair" [.int w,.str sg])) :
  EvX tt (n+3) 0 ρ dleft [.lg (d+8),.lg (d+9)] (.ok (.pl (.int w))):=by
 refine .run (es:=[]) (fs:=[.lg (d+8),.lg (d+9)]) (.cons (es:=[]) (fs:=[]) (.name hr) .nil) (by omega) hdef (RunL.cons (es:=[.lg (d+8)]) (fs:=[.lg (d+9)]) (.set (es:=[]) (ev_of hk env1_at idx_u.1 rfl)) (.stop (.give (es:=[]) (.name put_at))))
noncomputable def evA (m d:Nat) (v:Int):List Evn:=[.lg m,.lg (m+1),.lg (m+2),.lg (d+8),.lg (d+9),.tl (.int ((v+1) % 1000000000000000000)),.lg (m+3)]
noncomputable def evZ (m:Nat) (b:Int) (sg:Str) (v:Int):List Evn:=[.tl (.int b),.lg (m+4),.tl (.str sg),.lg (m+5),.tl (.int v)]
noncomputable def fullE (m d:Nat) (v:Int) (sg:Str) (q:List Evn × Rs Int):List Evn:=match q.2 with
 | .deep=>evA m d v++q.1
 | .ok b=>evA m d v++q.1++evZ m b sg v
noncomputable def fullR (q:List Evn × Rs Int):Rs (Option RV):=match q.2 with
 | .deep=>.deep
 | .ok _=>.ok none
theorem evT_app (a b:List Evn):evT (a++b)=evT a+evT b:=by
 induction a with
 | nil=>simp [evT]
 | cons x a ih=>cases x<;>simp [evT,ih]<;>omega
theorem evG_app (a b:List Evn):evG (a++b)=evG a+evG b:=by
 induction a with
 | nil=>simp [evG]
 | cons x a ih=>cases x<;>simp [evG,ih]<;>omega
theorem dn_T (d:Nat) (lo ad:Int):∀ (k:Nat) (x:Int),evT (dn d lo ad k x).1=0
 | 0,x=>rfl
 | k+1,x=>by
  rw [dn]
  split
  ·rfl
  ·rw [evT_app,dn_T d lo ad k]
   rfl
theorem run_main {tt:List Tr} {m d:Nat} {n v lo ad:Int} {sg:Str} (hk:fst3 ("kind","pair") tt=some kdT) (hd1:fst3 ("def","down") tt=some (downT d lo ad)) (hd2:fst3 ("def","left") tt=some (leftT d)) (h1:in18 n) (h2:in18 v) (h3:in18 lo) (h4:in18 ad) (ts:List Tr)
  (hts:∀ ρ,RunL tt 20 0 ρ ts [] ρ (.ok none)):∃ ρ',RunL tt 20 0 (fun _=>none) (mainT m n v sg++ts) (fullE m d v sg (dn d lo ad 6 n)) ρ' (fullR (dn d lo ad 6 n)):=by
 have a1:RunX tt 20 0 (fun _=>none) (.set m "x" (.num v)) [.lg m] (REnv.put (fun _=>none) "x" (.pl (.int v))) (.ok none):=.set (es:=[]) (e_num h2)
 generalize hρ1:REnv.put (fun _=>none) "x" (.pl (.int v))=ρ1 at a1
 have x1:ρ1 "x"=some (.pl (.int v)):=by rw [<- hρ1];exact put_at
 have a2:RunX tt 20 0 ρ1 (.set (m+1) "r" (newE sg)) [.lg (m+1)] (ρ1.put "r" (.rcd "pair" [.int ((v+1) % 1000000000000000000),.str sg])) (.ok none) :=
  .set (es:=[]) (.new (es:=[]) (vs:=[.int ((v+1) % 1000000000000000000),.str sg]) (.cons (es:=[]) (fs:=[]) (e_op ops63.2.1 (.name x1) (e_num ⟨by decide,by decide⟩) rk_add) (.cons (es:=[]) (fs:=[]) .truth .nil)) (by simp))
 generalize hρ2:ρ1.put "r" (.rcd "pair" [.int ((v+1) % 1000000000000000000),.str sg])=ρ2 at a2
 have r2:ρ2 "r"=some (.rcd "pair" [.int ((v+1) % 1000000000000000000),.str sg]):=by rw [<- hρ2];exact put_at
 have x2:ρ2 "x"=some (.pl (.int v)):=by rw [<- hρ2,put_ne nx_y.2];exact x1
 have a3:=RunX.tell (r:=m+2) (ev_left (n:=16) hk hd2 r2) (by show 0<=_;omega)
 have hdn:=ev_down hd1 h3 h4 6 0 n ρ2 (.num n) rfl (fun k=>e_num h1)
 cases q:(dn d lo ad 6 n).2 with
 | deep =>
  rw [q] at hdn
  have a4:=RunX.deep (t:=.tell (m+3) (ddown n)) rfl (fun r e b=>by intro w;cases w) hdn
  refine ⟨ρ2,?_⟩
  have:=RunL.cons a1 (RunL.cons a2 (RunL.cons a3 (RunL.deep (ts:=[.tell (m+4) (ofE "v"),.tell (m+5) (.name "x")]++ts) a4)))
  unfold fullE fullR
  rw [q]
  simpa [evA,Tr.row,mainT] using this
 | ok b =>
  rw [q] at hdn
  have a4:=RunX.tell (r:=m+3) hdn (by rw [dn_T];exact Nat.zero_le _)
  have a5:RunX tt 20 0 ρ2 (.tell (m+4) (ofE "v")) [.lg (m+4),.tl (.str sg)] ρ2 (.ok none):=.tell (es:=[]) (ev_of hk r2 idx_u.2 rfl) (Nat.le_refl _)
  have a6:RunX tt 20 0 ρ2 (.tell (m+5) (.name "x")) [.lg (m+5),.tl (.int v)] ρ2 (.ok none):=.tell (es:=[]) (.name x2) (Nat.le_refl _)
  refine ⟨ρ2,?_⟩
  have:=RunL.cons a1 (RunL.cons a2 (RunL.cons a3 (RunL.cons a4 (RunL.cons a5 (RunL.cons a6 (hts ρ2))))))
  unfold fullE fullR
  rw [q]
  simpa [evA,evZ,mainT,ddown,rsV] using this
noncomputable def mAt (ah:Bool):Nat:=if ah=true then 12 else 1
noncomputable def dAt (ah:Bool):Nat:=if ah=true then 1 else 7
theorem fs_63 {ah:Bool} {n v lo ad:Int} {sg:Str}:fst3 ("kind","pair") (prog63 ah n v sg lo ad)=some kdT/\fst3 ("def","down") (prog63 ah n v sg lo ad)=some (downT (dAt ah) lo ad)/\fst3 ("def","left") (prog63 ah n v sg lo ad)=some (leftT (dAt ah)):=by
 cases ah<;>exact ⟨rfl,rfl,rfl⟩
theorem run_63 {ah:Bool} {n v lo ad:Int} {sg:Str} (h1:in18 n) (h2:in18 v) (h3:in18 lo) (h4:in18 ad):∃ ρ',RunL (prog63 ah n v sg lo ad) 20 0 (fun _=>none) (prog63 ah n v sg lo ad) (fullE (mAt ah) (dAt ah) v sg (dn (dAt ah) lo ad 6 n)) ρ' (fullR (dn (dAt ah) lo ad 6 n)):=by
 obtain ⟨f1,f2,f3⟩:=fs_63 (ah:=ah) (n:=n) (v:=v) (lo:=lo) (ad:=ad) (sg:=sg)
 have sk:∀ ρ r z ps,RunX (prog63 ah n v sg lo ad) 20 0 ρ (.kd r z ps) [] ρ (.ok none):=fun ρ r z ps=>.skip (by intro q;cases q)
 have sd:∀ ρ r z k ps b,RunX (prog63 ah n v sg lo ad) 20 0 ρ (.df r z k ps b) [] ρ (.ok none):=fun ρ r z k ps b=>.skip (by intro q;cases q)
 cases ah with
 | true =>
  obtain ⟨ρ',h⟩:=run_main (m:=12) f1 f2 f3 h1 h2 h3 h4 [] (fun ρ=>.nil)
  rw [List.append_nil] at h
  exact ⟨ρ',RunL.cons (es:=[]) (sk _ _ _ _) (RunL.cons (es:=[]) (sd _ _ _ _ _ _) (RunL.cons (es:=[]) (sd _ _ _ _ _ _) h))⟩
 | false =>
  obtain ⟨ρ',h⟩:=run_main (m:=1) f1 f2 f3 h1 h2 h3 h4 (defsT 7 lo ad) (fun ρ=>RunL.cons (es:=[]) (fs:=[]) (sd _ _ _ _ _ _) (RunL.cons (es:=[]) (fs:=[]) (sd _ _ _ _ _ _) .nil))
  exact ⟨ρ',RunL.cons (es:=[]) (sk _ _ _ _) h⟩
noncomputable def lgs:List Evn->List Nat
 | []=>[]
 | .lg r::es=>r::lgs es
 | .tl _::es=>lgs es
noncomputable def idxT:Nat->List Evn->List (Nat × V)
 | _,[]=>[]
 | i,.lg _::es=>idxT (i+1) es
 | i,.tl v::es=>(i,v)::idxT i es
theorem lgs_app (a b:List Evn):lgs (a++b)=lgs a++lgs b:=by
 induction a with
 | nil=>rfl
 | cons x a ih=>cases x<;>simp [lgs,ih]
theorem lgs_len:∀ (a:List Evn),(lgs a).length=evG a
 | []=>rfl
 | .lg _::a=>by simp [lgs,evG,lgs_len a]
 | .tl _::a=>by simp [lgs,evG,lgs_len a]
theorem idxT_app (b:List Evn):∀ (a:List Evn) (i:Nat),idxT i (a++b)=idxT i a++idxT (i+evG a) b
 | [],i=>by simp [idxT,evG]
 | .lg _::a,i=>by simp [idxT,evG,idxT_app b a];congr 1;omega
 | .tl _::a,i=>by simp [idxT,evG,idxT_app b a]
theorem idxT_ge:∀ (a:List Evn) (i:Nat),∀ p∈idxT i a,i<=p.1
 | [],i,p,h=>by cases h
 | .lg _::a,i,p,h=>Nat.le_trans (Nat.le_succ i) (idxT_ge a (i+1) p h)
 | .tl _::a,i,p,h=>by
  rcases List.mem_cons.mp h with rfl | h
  ·exact Nat.le_refl _
  ·exact idxT_ge a i p h
theorem appE_fin (most:Nat):∀ (es:List Evn) (S:RS),S.log.length<=most->appE most S es=(⟨S.told++((idxT S.log.length es).filter fun p=>decide (p.1<=most)).map (·.2),S.log++(lgs es).take (most-S.log.length)⟩,decide (S.log.length+evG es<=most))
 | [],S,h=>by simp [appE,idxT,lgs,evG,h]
 | .tl v::es,S,h=>by
  rw [appE,appE_fin most es ⟨S.told++[v],S.log⟩ h]
  simp [idxT,lgs,evG,h]
  rfl
 | .lg r::es,S,h=>by
  rw [appE]
  by_cases hl:S.log.length<most
  ·rw [if_pos hl,appE_fin most es _ (by simp;omega)]
   have e1:most-S.log.length=(most-(S.log.length+1))+1:=by omega
   simp only [List.length_append,List.length_cons,List.length_nil,idxT,lgs,evG,e1,List.take_succ_cons,List.append_assoc,List.cons_append,List.nil_append]
   congr 1
   exact decide_eq_decide.mpr (by omega)
  ·rw [if_neg hl]
   have e1:most-S.log.length=0:=by omega
   have e2:(idxT (S.log.length+1) es).filter (fun p=>decide (p.1<=most))=[]:=List.filter_eq_nil_iff.mpr fun p hp=>by
    have:=idxT_ge es _ p hp
    simp;omega
   have e3:decide (S.log.length+evG (.lg r::es)<=most)=false:=decide_eq_false (by rw [evG];omega)
   rw [e1,idxT,e2,e3]
   simp
end
section
variable {P:Program} {w:World} {K:PySem.W.Frag} {mg:Str->Option Value} {base:Heap} {AA:Adr} {DD:Fds}
theorem log18 {y:Int} (h:in18 y):y.natAbs.log2<1920:=by
 by_cases e:y.natAbs=0
 ·rw [e];decide
 ·exact (Nat.log2_lt e).mpr (Nat.lt_of_lt_of_le (show y.natAbs<2 ^ 64 by have:=h.1;have:=h.2;omega) (Nat.pow_le_pow_right (by decide) (by decide)))
structure LsR (H:Hp) (ls:List Addr) (rs:List (List Str)):Prop where
 len:ls.length=rs.length
 at_:∀ (j:Nat) (l:Addr) (r:List Str),ls[j]?=some l->rs[j]?=some r->H l=some (.lst (r.map V.str))
theorem LsR.push {H:Hp} {ls:List Addr} {rs:List (List Str)} {q:Addr} {r:List Str} (h:LsR H ls rs) (hq:H q=some (.lst (r.map V.str))):LsR H (ls++[q]) (rs++[r]):=by
 refine ⟨by simp [h.len],fun j l u a b=>?_⟩
 have hl:=h.len
 by_cases hj:j<ls.length
 ·rw [List.getElem?_append_left hj] at a
  rw [List.getElem?_append_left (by omega)] at b
  exact h.at_ j l u a b
 ·rw [List.getElem?_append_right (by omega)] at a
  rw [List.getElem?_append_right (by omega),<- hl] at b
  have hj2:=(List.getElem?_eq_some_iff.mp a).1
  have hj0:j-ls.length=0:=by simpa using hj2
  rw [hj0] at a b
  have e1:q=l:=by simpa using a
  have e2:r=u:=by simpa using b
  rw [<- e1,<- e2];exact hq
structure RWA (H H':Hp) (pr:Addr) (rs:List (List Str)):Prop where
 sm:Same H H'
 fr:H pr=none
 ex:∃ ls:List Addr,H' pr=some (.lst (ls.map V.ref))/\LsR H' ls rs/\∀ l∈ls,l≠pr
theorem RWA.ln {H H':Hp} {pr:Addr} {rs:List (List Str)} (h:RWA H H' pr rs):∃ ls:List Addr,H' pr=some (.lst (ls.map V.ref))/\ls.length=rs.length:=by obtain ⟨ls,a,b,_⟩:=h.ex;exact ⟨ls,a,b.len⟩
theorem RWA.mk' {H H':Hp} {pr:Addr} {ls:List Addr} {rs:List (List Str)} (s:Same H H') (hp:H' pr=none) (hl:LsR H' ls rs):RWA H (upd H' pr (.lst (ls.map V.ref))) pr rs:=by
 have sp:=same_upd (o:=.lst (ls.map V.ref)) hp
 refine ⟨s.trans sp,Same.free s hp,ls,upd_same,⟨hl.len,fun j l r a b=>sp _ _ (hl.at_ j l r a b)⟩,fun l hm=>?_⟩
 obtain ⟨j,hj⟩:=List.getElem?_of_mem hm
 have hjl:=(List.getElem?_eq_some_iff.mp hj).1
 have hjt:j<rs.length:=by rw [<- hl.len];exact hjl
 have e:=hl.at_ j l _ hj (List.getElem?_eq_getElem hjt)
 exact fun q=>by rw [q,hp] at e;cases e
theorem LsR.app {H:Hp} {ls ms:List Addr} {rs us:List (List Str)} (h:LsR H ls rs) (g:LsR H ms us):LsR H (ls++ms) (rs++us):=by
 refine ⟨by simp [h.len,g.len],fun j l u a b=>?_⟩
 have hl:=h.len
 by_cases hj:j<ls.length
 ·rw [List.getElem?_append_left hj] at a
  rw [List.getElem?_append_left (by omega)] at b
  exact h.at_ j l u a b
 ·rw [List.getElem?_append_right (by omega)] at a
  rw [List.getElem?_append_right (by omega),<- hl] at b
  exact g.at_ _ l u a b
theorem LsR.nil' {H:Hp}:LsR H [] []:=⟨rfl,fun j l r a b=>by simp at a⟩
theorem LsR.same {H H':Hp} {ls:List Addr} {rs:List (List Str)} (h:LsR H ls rs) (s:Same H H'):LsR H' ls rs:=⟨h.len,fun j l r a b=>s _ _ (h.at_ j l r a b)⟩
theorem LsR.nxt {H:Hp} {ls:List Addr} {rs:List (List Str)} {q:Addr} {r:List Str} (h:LsR H ls rs) (hq:H q=none):LsR (upd H q (.lst (r.map V.str))) (ls++[q]) (rs++[r]):=(h.same (same_upd hq)).push upd_same
theorem RWA.cat {H H' H2:Hp} {pr pf:Addr} {ls ms:List Addr} {rs us:List (List Str)} (h:RWA H H' pr rs) (el:H' pr=some (.lst (ls.map V.ref))) (s:Same H' H2) (g:LsR H2 ms us) (hp:H2 pf=none):RWA H (upd H2 pf (.lst (ls.map V.ref++ms.map V.ref))) pf (rs++us):=by
 obtain ⟨ls',e',hl,hn⟩:=h.ex
 have hls:ls'=ls:=by
  rw [el] at e'
  injection e' with e'
  injection e' with e'
  exact (List.map_inj_right (fun a b q=>by injection q)).mp e'.symm
 subst hls
 rw [<- List.map_append]
 exact RWA.mk' (h.sm.trans s) hp ((hl.same s).app g)
noncomputable def spDf:Sp:=fun vs H Q _=>∃ (lo ad:Int),vs=[.int lo,.int ad]/\in18 lo/\in18 ad/\∀ p H',RWA H H' p (defsR lo ad)->Q (.ref p) H'
noncomputable abbrev N_ZK:List Str:=["_law_low","_law_add","_law_rows"]
theorem sc_ZK:FnScope N_ZK ["_law_low","_law_add"] (defScope st_ZK):=⟨rfl,rfl,rfl,by decide +kernel,rfl,by decide +kernel,by decide +kernel⟩
theorem ok_ld (T:All P w K mg AA DD):FnOk P w K mg base CX0 1 AA.ZK DD.ZK ["_law_low","_law_add"] spDf:=by
 refine T.F_ZK.ok sc_ZK (fun vs H Q E h=>?_) (fun cdv A outer s H vs Q E hr h=>?_)
 ·obtain ⟨lo,ad,rfl,_⟩:=h
  rfl
 ·obtain ⟨lo,ad,rfl,h1,h2,kq⟩:=h
  have nd:=sc_ZK.nd
  refine ⟨_,(@pss_cons _ _ _ _ _ (@ps_set _ _ 2 _ _ _ _ nd rfl (Or.inl rfl) (@pe_lst _ _ _ _ (@pa_cons _ _ _ _ _ (@pe_lst _ _ _ _ (@pa_cons _ _ _ _ _ pe_str (@pa_cons _ _ _ _ _ pe_str (@pa_cons _ _ _ _ _ pe_str (@pa_cons _ _ _ _ _ pe_str (@pa_cons _ _ _ _ _ pe_str pa_nil (by rfl)) (by rfl)) (by rfl)) (by rfl)) (by rfl))) (@pa_cons _ _ _ _ _ (@pe_lst _ _ _ _ (@pa_cons _ _ _ _ _ pe_str (@pa_cons _ _ _ _ _ pe_str (@pa_cons _ _ _ _ _ pe_str (@pa_cons _ _ _ _ _ (pe_callTy call_strI rfl T.n_str bt_str (@pa_cons _ _ _ _ _ (pv 0) pa_nil (by rfl))) pa_nil (by rfl)) (by rfl)) (by rfl)) (by rfl))) (@pa_cons _ _ _ _ _ (@pe_lst _ _ _ _ (@pa_cons _ _ _ _ _ pe_str (@pa_cons _ _ _ _ _ (pe_callTy call_strI rfl T.n_str bt_str (@pa_cons _ _ _ _ _ (pv 1) pa_nil (by rfl))) pa_nil (by rfl)) (by rfl))) (@pa_cons _ _ _ _ _ (@pe_lst _ _ _ _ (@pa_cons _ _ _ _ _ pe_str pa_nil (by rfl))) pa_nil (by rfl)) (by rfl)) (by rfl)) (by rfl))) (by rfl) (by first | exact .inl rfl | exact .inr rfl | assumption)) (@pss_cons _ _ _ _ _ (@ps_set _ _ 2 _ _ _ _ nd rfl (Or.inl rfl) (@pe_op _ _ _ _ _ _ _ _ op_cat (pv 2) (@pe_lst _ _ _ _ (@pa_cons _ _ _ _ _ (@pe_lst _ _ _ _ (@pa_cons _ _ _ _ _ pe_str (@pa_cons _ _ _ _ _ pe_str (@pa_cons _ _ _ _ _ pe_str (@pa_cons _ _ _ _ _ pe_str (@pa_cons _ _ _ _ _ pe_str pa_nil (by rfl)) (by rfl)) (by rfl)) (by rfl)) (by rfl))) (@pa_cons _ _ _ _ _ (@pe_lst _ _ _ _ (@pa_cons _ _ _ _ _ pe_str (@pa_cons _ _ _ _ _ pe_str (@pa_cons _ _ _ _ _ pe_str (@pa_cons _ _ _ _ _ pe_str (@pa_cons _ _ _ _ _ pe_str (@pa_cons _ _ _ _ _ pe_str (@pa_cons _ _ _ _ _ pe_str pa_nil (by rfl)) (by rfl)) (by rfl)) (by rfl)) (by rfl)) (by rfl)) (by rfl))) (@pa_cons _ _ _ _ _ (@pe_lst _ _ _ _ (@pa_cons _ _ _ _ _ pe_str pa_nil (by rfl))) pa_nil (by rfl)) (by rfl)) (by rfl)))) (by rfl) (by first | exact .inl rfl | exact .inr rfl | assumption)) (@pss_cons _ _ _ _ _ (@ps_set _ _ 2 _ _ _ _ nd rfl (Or.inl rfl) (@pe_op _ _ _ _ _ _ _ _ op_cat (pv 2) (@pe_lst _ _ _ _ (@pa_cons _ _ _ _ _ (@pe_lst _ _ _ _ (@pa_cons _ _ _ _ _ pe_str (@pa_cons _ _ _ _ _ pe_str (@pa_cons _ _ _ _ _ pe_str (@pa_cons _ _ _ _ _ pe_str (@pa_cons _ _ _ _ _ pe_str pa_nil (by rfl)) (by rfl)) (by rfl)) (by rfl)) (by rfl))) (@pa_cons _ _ _ _ _ (@pe_lst _ _ _ _ (@pa_cons _ _ _ _ _ pe_str (@pa_cons _ _ _ _ _ pe_str (@pa_cons _ _ _ _ _ pe_str (@pa_cons _ _ _ _ _ pe_str (@pa_cons _ _ _ _ _ pe_str pa_nil (by rfl)) (by rfl)) (by rfl)) (by rfl)) (by rfl))) (@pa_cons _ _ _ _ _ (@pe_lst _ _ _ _ (@pa_cons _ _ _ _ _ pe_str (@pa_cons _ _ _ _ _ pe_str pa_nil (by rfl)) (by rfl))) (@pa_cons _ _ _ _ _ (@pe_lst _ _ _ _ (@pa_cons _ _ _ _ _ pe_str pa_nil (by rfl))) pa_nil (by rfl)) (by rfl)) (by rfl)) (by rfl)))) (by rfl) (by first | exact .inl rfl | exact .inr rfl | assumption)) (@pss_one _ _ _ (@ps_ret _ _ _ _ (pv 2)))))),?_⟩
  refine cut_sq (fun σ' H'=>∃ pr,σ'=[some (.int lo),some (.int ad),some (.ref pr)]/\RWA H H' pr [(["def","down","num","x","num"]:List Str),("if":Str)::wdsE (lessE lo),("give":Str)::wdsE (.num ad),(["end"]:List Str)]) (fun R hR=>?_) ?_
  ·refine ⟨(by show 5<=sizeLine;decide),fun q1 hq1=>⟨_,rfl,lo,rfl,log18 h1,(by show 4<=sizeLine;decide),fun q2 hq2=>⟨_,rfl,ad,rfl,log18 h2,(by show 2<=sizeLine;decide),fun q3 hq3=>⟨(by show 1<=sizeLine;decide),fun q4 hq4=>⟨(by show 4<=sizeLine;decide),fun pr hpr=>?_⟩⟩⟩⟩⟩
   have l4:=LsR.nxt (r:=["end"]) (LsR.nxt (r:="give"::wdsE (.num ad)) (LsR.nxt (r:="if"::wdsE (lessE lo)) (LsR.nxt (r:=["def","down","num","x","num"]) (LsR.nil' (H:=H)) hq1) hq2) hq3) hq4
   exact hR _ _ ⟨pr,rfl,RWA.mk' ((((same_upd hq1).trans (same_upd hq2)).trans (same_upd hq3)).trans (same_upd hq4)) hpr l4⟩
  rintro σ' H1 ⟨pr,rfl,hW⟩
  refine cut_sq (fun σ' H'=>∃ pr,σ'=[some (.int lo),some (.int ad),some (.ref pr)]/\RWA H H' pr ([(["def","down","num","x","num"]:List Str),("if":Str)::wdsE (lessE lo),("give":Str)::wdsE (.num ad),(["end"]:List Str)]++[("set":Str)::"y"::wdsE minE,("give":Str)::wdsE recE,(["end"]:List Str)])) (fun R hR=>?_) ?_
  ·obtain ⟨ls,el,hll⟩:=hW.ln
   refine ⟨_,rfl,(by show 5<=sizeLine;decide),fun q1 hq1=>⟨(by show 7<=sizeLine;decide),fun q2 hq2=>⟨(by show 1<=sizeLine;decide),fun q3 hq3=>⟨(by show 3<=sizeLine;decide),fun pb hpb=>?_⟩⟩⟩⟩
   have l3:=(LsR.nxt (r:=["end"]) (LsR.nxt (r:="give"::wdsE recE) (LsR.nxt (r:="set"::"y"::wdsE minE) (LsR.nil' (H:=H1)) hq1) hq2) hq3).same (same_upd (o:=.lst [.ref q1,.ref q2,.ref q3]) hpb)
   have sb:=(((same_upd hq1).trans (same_upd hq2)).trans (same_upd hq3)).trans (same_upd (o:=.lst [.ref q1,.ref q2,.ref q3]) hpb)
   refine ⟨pr,pb,_,_,rfl,rfl,sb _ _ el,upd_same,Nat.le_of_lt (small1000 (by rw [List.length_map,hll];simp)),fun pf hpf=>?_⟩
   exact hR _ _ ⟨pf,rfl,hW.cat el sb l3 hpf⟩
  rintro σ' H2 ⟨pr,rfl,hW⟩
  refine cut_sq (fun σ' H'=>∃ pr,σ'=[some (.int lo),some (.int ad),some (.ref pr)]/\RWA H H' pr (defsR lo ad)) (fun R hR=>?_) ?_
  ·obtain ⟨ls,el,hll⟩:=hW.ln
   refine ⟨_,rfl,(by show 5<=sizeLine;decide),fun q1 hq1=>⟨(by show 5<=sizeLine;decide),fun q2 hq2=>⟨(by show 2<=sizeLine;decide),fun q3 hq3=>⟨(by show 1<=sizeLine;decide),fun q4 hq4=>⟨(by show 4<=sizeLine;decide),fun pb hpb=>?_⟩⟩⟩⟩⟩
   have l4:=(LsR.nxt (r:=["end"]) (LsR.nxt (r:="give"::wdsE (.name "x")) (LsR.nxt (r:="set"::"x"::wdsE (ofE "u")) (LsR.nxt (r:=["def","left","num","r","pair"]) (LsR.nil' (H:=H2)) hq1) hq2) hq3) hq4).same (same_upd (o:=.lst [.ref q1,.ref q2,.ref q3,.ref q4]) hpb)
   have sb:=((((same_upd hq1).trans (same_upd hq2)).trans (same_upd hq3)).trans (same_upd hq4)).trans (same_upd (o:=.lst [.ref q1,.ref q2,.ref q3,.ref q4]) hpb)
   refine ⟨pr,pb,_,_,rfl,rfl,sb _ _ el,upd_same,Nat.le_of_lt (small1000 (by rw [List.length_map,hll];simp)),fun pf hpf=>?_⟩
   exact hR _ _ ⟨pf,rfl,hW.cat el sb l4 hpf⟩
  rintro σ' H3 ⟨pr,rfl,hW⟩
  exact ⟨_,rfl,kq pr _ hW⟩
noncomputable def spMnR:Sp:=fun vs H Q _=>∃ (n v:Int) (sg:Str),vs=[.int n,.int v,.str sg]/\in18 n/\in18 v/\∀ p H',RWA H H' p (mainR n v sg)->Q (.ref p) H'
noncomputable abbrev N_ZL:List Str:=["_law_number","_law_value","_law_sign","_law_rows"]
theorem sc_ZL:FnScope N_ZL ["_law_number","_law_value","_law_sign"] (defScope st_ZL):=⟨rfl,rfl,rfl,by decide +kernel,rfl,by decide +kernel,by decide +kernel⟩
theorem ok_lm (T:All P w K mg AA DD):FnOk P w K mg base CX0 1 AA.ZL DD.ZL ["_law_number","_law_value","_law_sign"] spMnR:=by
 refine T.F_ZL.ok sc_ZL (fun vs H Q E h=>?_) (fun cdv A outer s H vs Q E hr h=>?_)
 ·obtain ⟨n,v,sg,rfl,_⟩:=h
  rfl
 ·obtain ⟨n,v,sg,rfl,h1,h2,kq⟩:=h
  have nd:=sc_ZL.nd
  refine ⟨_,(@pss_cons _ _ _ _ _ (@ps_set _ _ 3 _ _ _ _ nd rfl (Or.inl rfl) (@pe_lst _ _ _ _ (@pa_cons _ _ _ _ _ (@pe_lst _ _ _ _ (@pa_cons _ _ _ _ _ pe_str (@pa_cons _ _ _ _ _ pe_str (@pa_cons _ _ _ _ _ (pe_callTy call_strI rfl T.n_str bt_str (@pa_cons _ _ _ _ _ (pv 1) pa_nil (by rfl))) pa_nil (by rfl)) (by rfl)) (by rfl))) (@pa_cons _ _ _ _ _ (@pe_lst _ _ _ _ (@pa_cons _ _ _ _ _ pe_str (@pa_cons _ _ _ _ _ pe_str (@pa_cons _ _ _ _ _ pe_str (@pa_cons _ _ _ _ _ pe_str (@pa_cons _ _ _ _ _ pe_str (@pa_cons _ _ _ _ _ pe_str (@pa_cons _ _ _ _ _ pe_str (@pa_cons _ _ _ _ _ (pv 2) (@pa_cons _ _ _ _ _ pe_str pa_nil (by rfl)) (by rfl)) (by rfl)) (by rfl)) (by rfl)) (by rfl)) (by rfl)) (by rfl)) (by rfl))) pa_nil (by rfl)) (by rfl))) (by rfl) (by first | exact .inl rfl | exact .inr rfl | assumption)) (@pss_cons _ _ _ _ _ (@ps_set _ _ 3 _ _ _ _ nd rfl (Or.inl rfl) (@pe_op _ _ _ _ _ _ _ _ op_cat (pv 3) (@pe_lst _ _ _ _ (@pa_cons _ _ _ _ _ (@pe_lst _ _ _ _ (@pa_cons _ _ _ _ _ pe_str (@pa_cons _ _ _ _ _ pe_str (@pa_cons _ _ _ _ _ pe_str (@pa_cons _ _ _ _ _ pe_str (@pa_cons _ _ _ _ _ pe_str pa_nil (by rfl)) (by rfl)) (by rfl)) (by rfl)) (by rfl))) (@pa_cons _ _ _ _ _ (@pe_lst _ _ _ _ (@pa_cons _ _ _ _ _ pe_str (@pa_cons _ _ _ _ _ pe_str (@pa_cons _ _ _ _ _ pe_str (@pa_cons _ _ _ _ _ (pe_callTy call_strI rfl T.n_str bt_str (@pa_cons _ _ _ _ _ (pv 0) pa_nil (by rfl))) (@pa_cons _ _ _ _ _ pe_str pa_nil (by rfl)) (by rfl)) (by rfl)) (by rfl)) (by rfl))) pa_nil (by rfl)) (by rfl)))) (by rfl) (by first | exact .inl rfl | exact .inr rfl | assumption)) (@pss_one _ _ _ (@ps_ret _ _ _ _ (@pe_op _ _ _ _ _ _ _ _ op_cat (pv 3) (@pe_lst _ _ _ _ (@pa_cons _ _ _ _ _ (@pe_lst _ _ _ _ (@pa_cons _ _ _ _ _ pe_str (@pa_cons _ _ _ _ _ pe_str (@pa_cons _ _ _ _ _ pe_str (@pa_cons _ _ _ _ _ pe_str pa_nil (by rfl)) (by rfl)) (by rfl)) (by rfl))) (@pa_cons _ _ _ _ _ (@pe_lst _ _ _ _ (@pa_cons _ _ _ _ _ pe_str (@pa_cons _ _ _ _ _ pe_str pa_nil (by rfl)) (by rfl))) pa_nil (by rfl)) (by rfl)))))))),?_⟩
  refine cut_sq (fun σ' H'=>∃ pr,σ'=[some (.int n),some (.int v),some (.str sg),some (.ref pr)]/\RWA H H' pr [("set":Str)::"x"::wdsE (.num v),("set":Str)::"r"::wdsE (newE sg)]) (fun R hR=>?_) ?_
  ·refine ⟨_,rfl,v,rfl,log18 h2,(by show 3<=sizeLine;decide),fun q1 hq1=>⟨_,rfl,(by show 9<=sizeLine;decide),fun q2 hq2=>⟨(by show 2<=sizeLine;decide),fun pr hpr=>?_⟩⟩⟩
   have l4:=LsR.nxt (r:="set"::"r"::wdsE (newE sg)) (LsR.nxt (r:="set"::"x"::wdsE (.num v)) (LsR.nil' (H:=H)) hq1) hq2
   exact hR _ _ ⟨pr,rfl,RWA.mk' ((same_upd hq1).trans (same_upd hq2)) hpr l4⟩
  rintro σ' H1 ⟨pr,rfl,hW⟩
  refine cut_sq (fun σ' H'=>∃ pr,σ'=[some (.int n),some (.int v),some (.str sg),some (.ref pr)]/\RWA H H' pr ([("set":Str)::"x"::wdsE (.num v),("set":Str)::"r"::wdsE (newE sg)]++[("tell":Str)::wdsE dleft,("tell":Str)::wdsE (ddown n)])) (fun R hR=>?_) ?_
  ·obtain ⟨ls,el,hll⟩:=hW.ln
   refine ⟨_,rfl,(by show 5<=sizeLine;decide),fun q1 hq1=>⟨_,rfl,n,rfl,log18 h1,(by show 5<=sizeLine;decide),fun q2 hq2=>⟨(by show 2<=sizeLine;decide),fun pb hpb=>?_⟩⟩⟩
   have l3:=(LsR.nxt (r:="tell"::wdsE (ddown n)) (LsR.nxt (r:="tell"::wdsE dleft) (LsR.nil' (H:=H1)) hq1) hq2).same (same_upd (o:=.lst [.ref q1,.ref q2]) hpb)
   have sb:=((same_upd hq1).trans (same_upd hq2)).trans (same_upd (o:=.lst [.ref q1,.ref q2]) hpb)
   refine ⟨pr,pb,_,_,rfl,rfl,sb _ _ el,upd_same,Nat.le_of_lt (small1000 (by rw [List.length_map,hll];simp)),fun pf hpf=>?_⟩
   exact hR _ _ ⟨pf,rfl,hW.cat el sb l3 hpf⟩
  rintro σ' H2 ⟨pr,rfl,hW⟩
  obtain ⟨ls,el,hll⟩:=hW.ln
  refine ⟨_,rfl,(by show 4<=sizeLine;decide),fun q1 hq1=>⟨(by show 2<=sizeLine;decide),fun q2 hq2=>⟨(by show 2<=sizeLine;decide),fun pb hpb=>?_⟩⟩⟩
  have l3:=(LsR.nxt (r:="tell"::wdsE (.name "x")) (LsR.nxt (r:="tell"::wdsE (ofE "v")) (LsR.nil' (H:=H2)) hq1) hq2).same (same_upd (o:=.lst [.ref q1,.ref q2]) hpb)
  have sb:=((same_upd hq1).trans (same_upd hq2)).trans (same_upd (o:=.lst [.ref q1,.ref q2]) hpb)
  refine ⟨pr,pb,_,_,rfl,rfl,sb _ _ el,upd_same,Nat.le_of_lt (small1000 (by rw [List.length_map,hll];simp)),fun pf hpf=>?_⟩
  exact kq _ _ (hW.cat el sb l3 hpf)
end
section
variable {P:Program} {w:World} {K:PySem.W.Frag} {mg:Str->Option Value} {base:Heap} {AA:Adr} {DD:Fds}
noncomputable def TdAt (H:Hp) (td:Addr) (ps:List (Nat × V)):Prop:=∃ ts:List Addr,H td=some (.lst (ts.map V.ref))/\ts.length=ps.length/\∀ (j:Nat) (t:Addr) (p:Nat × V),ts[j]?=some t->ps[j]?=some p->H t=some (.tup [.int ((p.1:Nat):Int),p.2])
theorem TdAt.same {H H':Hp} {td:Addr} {ps:List (Nat × V)} (h:TdAt H td ps) (s:Same H H'):TdAt H' td ps:=by obtain ⟨ts,a,b,c⟩:=h;exact ⟨ts,s _ _ a,b,fun j t p x y=>s _ _ (c j t p x y)⟩
noncomputable def nV (ns:List Nat):List V:=ns.map fun n=>V.int ((n:Nat):Int)
theorem nV_app (a b:List Nat):nV (a++b)=nV a++nV b:=List.map_append
theorem nV_len (a:List Nat):(nV a).length=a.length:=List.length_map ..
theorem dn_in {d:Nat} {lo ad:Int} (h:in18 ad):∀ (k:Nat) (x a:Int),(dn d lo ad k x).2=.ok a->in18 a
 | 0,x,a,q=>by cases q
 | k+1,x,a,q=>by
  rw [dn] at q
  split at q
  ·cases q;exact h
  ·dsimp only at q
   split at q
   ·cases q;exact mod18 _
   ·cases q
structure LpJ (d:Nat) (lo ad n:Int) (k:Nat) (x t:Int) (E:List Nat):Prop where
 ev:(dn d lo ad 6 n).1=E.map Evn.lg++(dn d lo ad k x).1
 rs:((dn d lo ad k x).2=.deep/\(dn d lo ad 6 n).2=.deep)∨∃ a,(dn d lo ad k x).2=.ok a/\(dn d lo ad 6 n).2=.ok ((t+a) % 1000000000000000000)
 ln:E.length=3*(6-k)
theorem LpJ.start {d:Nat} {lo ad n:Int} (h:in18 ad):LpJ d lo ad n 6 n 0 []:=by
 refine ⟨rfl,?_,rfl⟩
 cases q:(dn d lo ad 6 n).2 with
 | deep=>exact .inl ⟨rfl,rfl⟩
 | ok a =>
  have:=dn_in h 6 n a q
  refine .inr ⟨a,rfl,?_⟩
  rw [Int.zero_add,Int.emod_eq_of_lt this.1 this.2]
theorem LpJ.next {d:Nat} {lo ad n:Int} {k:Nat} {x t:Int} {E:List Nat} (h:LpJ d lo ad n (k+1) x t E) (hk:k<6) (hx:¬ x<lo):LpJ d lo ad n k ((x-1) % 1000000000000000000) (t+x) (E++[d+1,d+4,d+5]):=by
 obtain ⟨h1,h2,h3⟩:=h
 have e1:dn d lo ad (k+1) x=([.lg (d+1),.lg (d+4),.lg (d+5)]++(dn d lo ad k ((x-1) % 1000000000000000000)).1,match (dn d lo ad k ((x-1) % 1000000000000000000)).2 with
   | .ok a=>.ok ((x+a) % 1000000000000000000)
   | .deep=>.deep):=by
  first | (rw [dn,if_neg hx];done) | (rw [dn,if_neg hx];rfl)
 refine ⟨?_,?_,by simp;omega⟩
 ·rw [h1,e1]
  simp
 ·rw [e1] at h2
  dsimp only at h2
  cases q:(dn d lo ad k ((x-1) % 1000000000000000000)).2 with
  | deep =>
   rw [q] at h2
   rcases h2 with ⟨_,h2⟩ | ⟨a,h2,_⟩
   ·exact .inl ⟨rfl,h2⟩
   ·cases h2
  | ok a =>
   rw [q] at h2
   rcases h2 with ⟨h2,_⟩ | ⟨b,h2,h4⟩
   ·cases h2
   ·cases h2
    refine .inr ⟨a,rfl,?_⟩
    rw [h4]
    congr 1
    omega
noncomputable def wdR:Rs (Option RV)->Str
 | .deep=>"deep"
 | .ok _=>"done"
noncomputable def spRunL:Sp:=fun vs H Q _=>∃ (n v:Int) (sg:Str) (lo ad:Int) (st:Addr) (d m:Nat),vs=[.int n,.int v,.str sg,.int lo,.int ad,.ref st]/\H st=some (.tup [.int ((d:Nat):Int),.int ((m:Nat):Int)])/\in18 ad /\
 ∀ p lg td H',Same H H'->H' p=some (.tup [.ref lg,.ref td,.str (wdR (fullR (dn d lo ad 6 n)))])->H' lg=some (.lst (nV (lgs (fullE m d v sg (dn d lo ad 6 n)))))->TdAt H' td (idxT 0 (fullE m d v sg (dn d lo ad 6 n)))->(lgs (fullE m d v sg (dn d lo ad 6 n))).length<=40->Q (.ref p) H'
theorem lgs_lg (E:List Nat):lgs (E.map Evn.lg)=E:=by
 induction E with
 | nil=>rfl
 | cons a E ih=>simp [lgs,ih]
theorem idx_lg (E:List Nat):∀ i,idxT i (E.map Evn.lg)=[]:=by
 induction E with
 | nil=>intro i;rfl
 | cons a E ih=>intro i;exact ih (i+1)
theorem evG_lg (E:List Nat):evG (E.map Evn.lg)=E.length:=by
 induction E with
 | nil=>rfl
 | cons a E ih=>simp [evG,ih]
noncomputable abbrev N_ZP:List Str:=["_law_number","_law_value","_law_sign","_law_low","_law_add","_law_starts","_law_defs_here","_law_main_here","_law_log","_law_told","_law_total","_law_x","_law_calls"]
theorem sc_ZP:FnScope N_ZP ["_law_number","_law_value","_law_sign","_law_low","_law_add","_law_starts"] (defScope st_ZP):=⟨rfl,rfl,rfl,by decide +kernel,rfl,by decide +kernel,by decide +kernel⟩
theorem ok_run (T:All P w K mg AA DD):FnOk P w K mg base CX0 1 AA.ZP DD.ZP ["_law_number","_law_value","_law_sign","_law_low","_law_add","_law_starts"] spRunL:=by
 refine T.F_ZP.ok sc_ZP (fun vs H Q E h=>?_) (fun cdv A outer s H vs Q E hr h=>?_)
 ·obtain ⟨n,v,sg,lo,ad,st,d,m,rfl,_⟩:=h
  rfl
 ·obtain ⟨n,v,sg,lo,ad,st,d,m,rfl,hst,had,kq⟩:=h
  have nd:=sc_ZP.nd
  have c18:CPow 10 18:=by unfold CPow;decide
  have p18:(10:Int) ^ (18:Int).toNat=1000000000000000000:=by decide
  have q18:(0:Int)<10 ^ (18:Int).toNat:=by decide
  refine ⟨_,(@pss_cons _ _ _ _ _ (ps_asg (pv 5) (pg_tup rfl (pgs_cons (pg_name (i:=6) nd rfl (Or.inl rfl)) (pgs_cons (pg_name (i:=7) nd rfl (Or.inl rfl)) pgs_nil)))) (@pss_cons _ _ _ _ _ (@ps_set _ _ 8 _ _ _ _ nd rfl (Or.inl rfl) (@pe_lst _ _ _ _ (@pa_cons _ _ _ _ _ (pv 7) (@pa_cons _ _ _ _ _ (@pe_op _ _ _ _ _ _ _ _ op_add (pv 7) pe_int) (@pa_cons _ _ _ _ _ (@pe_op _ _ _ _ _ _ _ _ op_add (pv 7) pe_int) (@pa_cons _ _ _ _ _ (@pe_op _ _ _ _ _ _ _ _ op_add (pv 6) pe_int) (@pa_cons _ _ _ _ _ (@pe_op _ _ _ _ _ _ _ _ op_add (pv 6) pe_int) (@pa_cons _ _ _ _ _ (@pe_op _ _ _ _ _ _ _ _ op_add (pv 7) pe_int) pa_nil (by rfl)) (by rfl)) (by rfl)) (by rfl)) (by rfl)) (by rfl))) (by rfl) (by first | exact .inl rfl | exact .inr rfl | assumption)) (@pss_cons _ _ _ _ _ (@ps_set _ _ 9 _ _ _ _ nd rfl (Or.inl rfl) (@pe_lst _ _ _ _ (@pa_cons _ _ _ _ _ (@pe_tup _ _ _ _ _ (@pa_cons _ _ _ _ _ pe_int (@pa_cons _ _ _ _ _ (@pe_op _ _ _ _ _ _ _ _ op_mod (@pe_op _ _ _ _ _ _ _ _ op_add (pv 1) pe_int) (@pe_op _ _ _ _ _ _ _ _ op_pow pe_int pe_int)) pa_nil (by rfl)) (by rfl))) pa_nil (by rfl))) (by rfl) (by first | exact .inl rfl | exact .inr rfl | assumption)) (@pss_cons _ _ _ _ _ (@ps_set _ _ 10 _ _ _ _ nd rfl (Or.inl rfl) pe_int (by rfl) (by first | exact .inl rfl | exact .inr rfl | assumption)) (@pss_cons _ _ _ _ _ (@ps_set _ _ 11 _ _ _ _ nd rfl (Or.inl rfl) (pv 0) (by rfl) (by first | exact .inl rfl | exact .inr rfl | assumption)) (@pss_cons _ _ _ _ _ (@ps_set _ _ 12 _ _ _ _ nd rfl (Or.inl rfl) pe_int (by rfl) (by first | exact .inl rfl | exact .inr rfl | assumption)) (@pss_cons _ _ _ _ _ (@ps_while _ _ _ _ _ _ PassesOwn.never (PW.pt (pw_and (@pt_cmpR _ _ _ _ _ _ _ _ op_ge (pv 11) (pv 3) (nomark _)) (pw_and1 (@pt_cmpR _ _ _ _ _ _ _ _ op_lt (pv 12) pe_int (nomark _))))) (@pss_cons _ _ _ _ _ (@ps_set _ _ 8 _ _ _ _ nd rfl (Or.inl rfl) (@pe_op _ _ _ _ _ _ _ _ op_cat (pv 8) (@pe_lst _ _ _ _ (@pa_cons _ _ _ _ _ (@pe_op _ _ _ _ _ _ _ _ op_add (pv 6) pe_int) (@pa_cons _ _ _ _ _ (@pe_op _ _ _ _ _ _ _ _ op_add (pv 6) pe_int) (@pa_cons _ _ _ _ _ (@pe_op _ _ _ _ _ _ _ _ op_add (pv 6) pe_int) pa_nil (by rfl)) (by rfl)) (by rfl)))) (by rfl) (by first | exact .inl rfl | exact .inr rfl | assumption)) (@pss_cons _ _ _ _ _ (@ps_set _ _ 10 _ _ _ _ nd rfl (Or.inl rfl) (@pe_op _ _ _ _ _ _ _ _ op_add (pv 10) (pv 11)) (by rfl) (by first | exact .inl rfl | exact .inr rfl | assumption)) (@pss_cons _ _ _ _ _ (@ps_set _ _ 11 _ _ _ _ nd rfl (Or.inl rfl) (@pe_op _ _ _ _ _ _ _ _ op_mod (@pe_op _ _ _ _ _ _ _ _ op_sub (pv 11) pe_int) (@pe_op _ _ _ _ _ _ _ _ op_pow pe_int pe_int)) (by rfl) (by first | exact .inl rfl | exact .inr rfl | assumption)) (@pss_one _ _ _ (@ps_set _ _ 12 _ _ _ _ nd rfl (Or.inl rfl) (@pe_op _ _ _ _ _ _ _ _ op_add (pv 12) pe_int) (by rfl) (by first | exact .inl rfl | exact .inr rfl | assumption))))))) (@pss_cons _ _ _ _ _ (@ps_if _ _ _ _ _ _ _ _ (@pt_cmpR _ _ _ _ _ _ _ _ op_eq (pv 12) pe_int (nomark _)) (@pss_one _ _ _ (@ps_ret _ _ _ _ (@pe_tup _ _ _ _ _ (@pa_cons _ _ _ _ _ (pv 8) (@pa_cons _ _ _ _ _ (pv 9) (@pa_cons _ _ _ _ _ pe_str pa_nil (by rfl)) (by rfl)) (by rfl))))) pss_nil) (@pss_cons _ _ _ _ _ (@ps_set _ _ 8 _ _ _ _ nd rfl (Or.inl rfl) (@pe_op _ _ _ _ _ _ _ _ op_cat (pv 8) (@pe_lst _ _ _ _ (@pa_cons _ _ _ _ _ (@pe_op _ _ _ _ _ _ _ _ op_add (pv 6) pe_int) (@pa_cons _ _ _ _ _ (@pe_op _ _ _ _ _ _ _ _ op_add (pv 6) pe_int) pa_nil (by rfl)) (by rfl)))) (by rfl) (by first | exact .inl rfl | exact .inr rfl | assumption)) (@pss_cons _ _ _ _ _ (@ps_expr _ _ _ _ (pe_bm PySem.F.plainAttrs_list PySem.F.slot_list_append PySem.F.type_list_append mt_append (pv 9) (@pa_cons _ _ _ _ _ (@pe_tup _ _ _ _ _ (@pa_cons _ _ _ _ _ (pe_callB call_len_seq rfl T.n_len bt_len (@pa_cons _ _ _ _ _ (pv 8) pa_nil (by rfl))) (@pa_cons _ _ _ _ _ (@pe_op _ _ _ _ _ _ _ _ op_mod (@pe_op _ _ _ _ _ _ _ _ op_add (pv 10) (pv 4)) (@pe_op _ _ _ _ _ _ _ _ op_pow pe_int pe_int)) pa_nil (by rfl)) (by rfl))) pa_nil (by rfl))) (by rfl)) (@pss_cons _ _ _ _ _ (@ps_set _ _ 8 _ _ _ _ nd rfl (Or.inl rfl) (@pe_op _ _ _ _ _ _ _ _ op_cat (pv 8) (@pe_lst _ _ _ _ (@pa_cons _ _ _ _ _ (@pe_op _ _ _ _ _ _ _ _ op_add (pv 7) pe_int) (@pa_cons _ _ _ _ _ (@pe_op _ _ _ _ _ _ _ _ op_add (pv 7) pe_int) pa_nil (by rfl)) (by rfl)))) (by rfl) (by first | exact .inl rfl | exact .inr rfl | assumption)) (@pss_cons _ _ _ _ _ (@ps_set _ _ 9 _ _ _ _ nd rfl (Or.inl rfl) (@pe_op _ _ _ _ _ _ _ _ op_cat (pv 9) (@pe_lst _ _ _ _ (@pa_cons _ _ _ _ _ (@pe_tup _ _ _ _ _ (@pa_cons _ _ _ _ _ (@pe_op _ _ _ _ _ _ _ _ op_sub (pe_callB call_len_seq rfl T.n_len bt_len (@pa_cons _ _ _ _ _ (pv 8) pa_nil (by rfl))) pe_int) (@pa_cons _ _ _ _ _ (pv 2) pa_nil (by rfl)) (by rfl))) (@pa_cons _ _ _ _ _ (@pe_tup _ _ _ _ _ (@pa_cons _ _ _ _ _ (pe_callB call_len_seq rfl T.n_len bt_len (@pa_cons _ _ _ _ _ (pv 8) pa_nil (by rfl))) (@pa_cons _ _ _ _ _ (pv 1) pa_nil (by rfl)) (by rfl))) pa_nil (by rfl)) (by rfl)))) (by rfl) (by first | exact .inl rfl | exact .inr rfl | assumption)) (@pss_one _ _ _ (@ps_ret _ _ _ _ (@pe_tup _ _ _ _ _ (@pa_cons _ _ _ _ _ (pv 8) (@pa_cons _ _ _ _ _ (pv 9) (@pa_cons _ _ _ _ _ pe_str pa_nil (by rfl)) (by rfl)) (by rfl))))))))))))))))),?_⟩
  refine cut_sq (fun σ' H'=>σ'=[some (.int n),some (.int v),some (.str sg),some (.int lo),some (.int ad),some (.ref st),some (.int ((d:Nat):Int)),some (.int ((m:Nat):Int)),none,none,none,none,none]/\H'=H) (fun R hR=>?_) ?_
  ·exact ⟨_,rfl,st,_,rfl,SqT.of hst,rfl,_,_,rfl,_,_,rfl,rfl,hR _ _ ⟨rfl,rfl⟩⟩
  rintro σ' H' ⟨rfl,rfl⟩
  refine cut_sq (fun σ' H1=>Same H' H1/\∃ lg,σ'=[some (.int n),some (.int v),some (.str sg),some (.int lo),some (.int ad),some (.ref st),some (.int ((d:Nat):Int)),some (.int ((m:Nat):Int)),some (.ref lg),none,none,none,none]/\H1 lg=some (.lst (nV [m,m+1,m+2,d+8,d+9,m+3]))) (fun R hR=>?_) ?_
  ·refine ⟨_,rfl,_,rfl,_,_,rfl,rfl,_,rfl,_,_,rfl,rfl,_,rfl,_,_,rfl,rfl,_,rfl,_,_,rfl,rfl,_,rfl,_,_,rfl,rfl,(by show 6<=sizeLine;decide),fun lg hlg=>?_⟩
   exact hR _ _ ⟨same_upd hlg,lg,rfl,upd_same⟩
  rintro σ' H1 ⟨s1,lg,rfl,hlg⟩
  refine cut_sq (fun σ' H2=>Same H' H2/\∃ lg td t0,σ'=[some (.int n),some (.int v),some (.str sg),some (.int lo),some (.int ad),some (.ref st),some (.int ((d:Nat):Int)),some (.int ((m:Nat):Int)),some (.ref lg),some (.ref td),none,none,none]/\H2 lg=some (.lst (nV [m,m+1,m+2,d+8,d+9,m+3]))/\H2 td=some (.lst [.ref t0])/\H2 t0=some (.tup [.int 5,.int ((v+1) % 1000000000000000000)])/\H' td=none) (fun R hR=>?_) ?_
  ·refine ⟨_,rfl,_,_,rfl,rfl,_,_,rfl,rfl,c18,_,_,rfl,rfl,q18,(by show 2<=sizeLine;decide),fun t0 ht0=>⟨(by show 1<=sizeLine;decide),fun td htd=>?_⟩⟩
   rw [p18] at htd ⊢
   have sa:=same_upd (o:=.tup [.int 5,.int ((v+1) % 1000000000000000000)]) ht0
   have sb:=same_upd (o:=.lst [.ref t0]) htd
   exact hR _ _ ⟨(s1.trans sa).trans sb,lg,td,t0,rfl,sb _ _ (sa _ _ hlg),upd_same,sb _ _ upd_same,Same.free (s1.trans sa) htd⟩
  rintro σ' H2 ⟨s2,lg,td,t0,rfl,hlg,htd,ht0,htn⟩
  refine cut_sq (fun σ' H'=>H'=H2/\σ'=[some (.int n),some (.int v),some (.str sg),some (.int lo),some (.int ad),some (.ref st),some (.int ((d:Nat):Int)),some (.int ((m:Nat):Int)),some (.ref lg),some (.ref td),some (.int 0),none,none]) (fun R hR=>hR _ _ ⟨rfl,rfl⟩) ?_
  rintro σ' H3 ⟨rfl,rfl⟩
  refine cut_sq (fun σ' H'=>H'=H3/\σ'=[some (.int n),some (.int v),some (.str sg),some (.int lo),some (.int ad),some (.ref st),some (.int ((d:Nat):Int)),some (.int ((m:Nat):Int)),some (.ref lg),some (.ref td),some (.int 0),some (.int n),none]) (fun R hR=>⟨_,rfl,hR _ _ ⟨rfl,rfl⟩⟩) ?_
  rintro σ' H3 ⟨rfl,rfl⟩
  refine cut_sq (fun σ' H'=>H'=H3/\σ'=[some (.int n),some (.int v),some (.str sg),some (.int lo),some (.int ad),some (.ref st),some (.int ((d:Nat):Int)),some (.int ((m:Nat):Int)),some (.ref lg),some (.ref td),some (.int 0),some (.int n),some (.int 1)]) (fun R hR=>hR _ _ ⟨rfl,rfl⟩) ?_
  rintro σ' H3 ⟨rfl,rfl⟩
  refine cut_sq (fun σ' H5=>∃ lg t x k E,σ'=[some (.int n),some (.int v),some (.str sg),some (.int lo),some (.int ad),some (.ref st),some (.int ((d:Nat):Int)),some (.int ((m:Nat):Int)),some (.ref lg),some (.ref td),some (.int t),some (.int x),some (.int (((7-k:Nat):Nat):Int))]/\Same H3 H5/\H5 lg=some (.lst (nV ([m,m+1,m+2,d+8,d+9,m+3]++E)))/\k<=6/\LpJ d lo ad n k x t E/\(k=0∨(k≠0/\x<lo))) (fun R hR=>?_) ?_
  ·refine ⟨fun k σ' H5=>∃ lg t x E,σ'=[some (.int n),some (.int v),some (.str sg),some (.int lo),some (.int ad),some (.ref st),some (.int ((d:Nat):Int)),some (.int ((m:Nat):Int)),some (.ref lg),some (.ref td),some (.int t),some (.int x),some (.int (((7-k:Nat):Nat):Int))]/\Same H3 H5/\H5 lg=some (.lst (nV ([m,m+1,m+2,d+8,d+9,m+3]++E)))/\k<=6/\LpJ d lo ad n k x t E,⟨6,lg,0,n,[],rfl,Same.refl _,hlg,Nat.le_refl _,LpJ.start had⟩,?_⟩
   rintro k σ' H5 ⟨lg,t,x,E,rfl,s5,hl5,hk,hJ⟩
   refine ⟨_,rfl,_,rfl,_,_,rfl,rfl,_,rfl,?_⟩
   by_cases hx:x<lo
   ·refine iteFb (decide_eq_false (by omega)) ?_
    refine iteF ?_
    refine hR _ _ ⟨lg,t,x,k,E,rfl,s5,hl5,hk,hJ,?_⟩
    by_cases h0:k=0
    ·exact .inl h0
    ·exact .inr ⟨h0,hx⟩
   refine iteTb (decide_eq_true (by omega)) ?_
   refine ⟨_,rfl,_,_,rfl,rfl,_,rfl,?_⟩
   cases k with
   | zero =>
    refine iteFb (decide_eq_false (by decide)) ?_
    exact hR _ _ ⟨lg,t,x,0,E,rfl,s5,hl5,hk,hJ,.inl rfl⟩
   | succ k =>
    refine iteTb (decide_eq_true (by omega)) ?_
    refine ⟨fun σ' H6=>∃ k',k'<k+1/\∃ lg t x E,σ'=[some (.int n),some (.int v),some (.str sg),some (.int lo),some (.int ad),some (.ref st),some (.int ((d:Nat):Int)),some (.int ((m:Nat):Int)),some (.ref lg),some (.ref td),some (.int t),some (.int x),some (.int (((7-k':Nat):Nat):Int))]/\Same H3 H6/\H6 lg=some (.lst (nV ([m,m+1,m+2,d+8,d+9,m+3]++E)))/\k'<=6/\LpJ d lo ad n k' x t E,fun σ' H' h=>h,?_⟩
    have hE:=hJ.ln
    refine cut_sq (fun σ' H6=>Same H5 H6/\∃ lg,σ'=[some (.int n),some (.int v),some (.str sg),some (.int lo),some (.int ad),some (.ref st),some (.int ((d:Nat):Int)),some (.int ((m:Nat):Int)),some (.ref lg),some (.ref td),some (.int t),some (.int x),some (.int (((7-(k+1):Nat):Nat):Int))]/\H6 lg=some (.lst (nV ([m,m+1,m+2,d+8,d+9,m+3]++(E++[d+1,d+4,d+5]))))) (fun R2 hR2=>?_) ?_
    ·refine ⟨_,rfl,_,rfl,_,_,rfl,rfl,_,rfl,_,_,rfl,rfl,_,rfl,_,_,rfl,rfl,(by show 3<=sizeLine;decide),fun q hq=>?_⟩
     have sa:=same_upd (o:=.lst (nV [d+1,d+4,d+5])) hq
     refine ⟨lg,q,_,_,rfl,rfl,sa _ _ hl5,upd_same,Nat.le_of_lt (small1000 (by simp [nV];omega)),fun l2 hl2=>?_⟩
     refine hR2 _ _ ⟨sa.trans (same_upd hl2),l2,rfl,?_⟩
     rw [upd_same,<- List.append_assoc,nV_app _ [d+1,d+4,d+5]]
     rfl
    rintro σ' H6 ⟨s6,lg,rfl,hl6⟩
    refine cut_sq (fun σ' H7=>H7=H6/\σ'=[some (.int n),some (.int v),some (.str sg),some (.int lo),some (.int ad),some (.ref st),some (.int ((d:Nat):Int)),some (.int ((m:Nat):Int)),some (.ref lg),some (.ref td),some (.int (t+x)),some (.int x),some (.int (((7-(k+1):Nat):Nat):Int))]) (fun R2 hR2=>⟨_,rfl,_,rfl,_,_,rfl,rfl,hR2 _ _ ⟨rfl,rfl⟩⟩) ?_
    rintro σ' H7 ⟨rfl,rfl⟩
    refine cut_sq (fun σ' H8=>H8=H7/\σ'=[some (.int n),some (.int v),some (.str sg),some (.int lo),some (.int ad),some (.ref st),some (.int ((d:Nat):Int)),some (.int ((m:Nat):Int)),some (.ref lg),some (.ref td),some (.int (t+x)),some (.int ((x-1) % 1000000000000000000)),some (.int (((7-(k+1):Nat):Nat):Int))]) (fun R2 hR2=>?_) ?_
    ·refine ⟨_,rfl,_,_,rfl,rfl,_,_,rfl,rfl,c18,_,_,rfl,rfl,q18,?_⟩
     rw [p18]
     exact hR2 _ _ ⟨rfl,rfl⟩
    rintro σ' H8 ⟨rfl,rfl⟩
    refine ⟨_,rfl,_,_,rfl,rfl,?_⟩
    refine ⟨k,by omega,lg,t+x,(x-1) % 1000000000000000000,E++[d+1,d+4,d+5],?_,s5.trans s6,hl6,by omega,hJ.next (by omega) hx⟩
    have ek:((7-k:Nat):Int)=((7-(k+1):Nat):Int)+1:=by omega
    rw [ek]
    rfl
  rintro σ' H5 ⟨lg,t,x,k,E,rfl,s5,hl5,hk,hJ,hend⟩
  have htd5:=s5 _ _ htd
  have ht5:=s5 _ _ ht0
  have hE:=hJ.ln
  refine ⟨_,rfl,rfl,_,rfl,?_⟩
  rcases hend with rfl | ⟨hk0,hx⟩
  ·refine iteTb (decide_eq_true rfl) ?_
   refine ⟨_,rfl,_,rfl,(by show 3<=sizeLine;decide),fun p hp=>?_⟩
   have sp:=same_upd (o:=.tup [.ref lg,.ref td,.str "deep"]) hp
   have hr6:(dn d lo ad 6 n).2=.deep:=by
    rcases hJ.rs with ⟨_,h⟩ | ⟨a,h,_⟩
    ·exact h
    ·cases h
   have he6:(dn d lo ad 6 n).1=E.map Evn.lg:=by rw [hJ.ev];simp [dn]
   have ef:fullE m d v sg (dn d lo ad 6 n)=evA m d v++E.map Evn.lg:=by unfold fullE;rw [hr6,he6]
   have eR:fullR (dn d lo ad 6 n)=.deep:=by unfold fullR;rw [hr6]
   have el:lgs (evA m d v++E.map Evn.lg)=[m,m+1,m+2,d+8,d+9,m+3]++E:=by rw [lgs_app,lgs_lg];rfl
   have ei:idxT 0 (evA m d v++E.map Evn.lg)=[(5,.int ((v+1) % 1000000000000000000))]:=by rw [idxT_app,idx_lg];rfl
   refine kq p lg td _ ((s2.trans s5).trans sp) ?_ ?_ ?_ ?_
   ·rw [eR];exact upd_same
   ·rw [ef,el];exact sp _ _ hl5
   ·rw [ef,ei]
    refine ⟨[t0],sp _ _ htd5,rfl,fun j u q a b=>?_⟩
    match j,a,b with
    | 0,a,b=>cases a;cases b;exact sp _ _ ht5
    | j+1,a,b=>simp at a
   ·rw [ef,el];simp;omega
  ·obtain ⟨k,rfl⟩:∃ j,k=j+1:=⟨k-1,by omega⟩
   refine iteFb (decide_eq_false (fun q=>by injection q with q;omega)) ?_
   dsimp only [tNext]
   have e1:dn d lo ad (k+1) x=([.lg (d+1),.lg (d+2)],.ok ad):=by rw [dn,if_pos hx]
   have hr6:(dn d lo ad 6 n).2=.ok ((t+ad) % 1000000000000000000):=by
    rcases hJ.rs with ⟨h,_⟩ | ⟨a,h,h2⟩
    ·rw [e1] at h;cases h
    ·rw [e1] at h;cases h;exact h2
   have he6:(dn d lo ad 6 n).1=(E++[d+1,d+2]).map Evn.lg:=by rw [hJ.ev,e1];simp
   have ef:fullE m d v sg (dn d lo ad 6 n)=evA m d v++(E++[d+1,d+2]).map Evn.lg++evZ m ((t+ad) % 1000000000000000000) sg v:=by unfold fullE;rw [hr6,he6]
   have eR:fullR (dn d lo ad 6 n)=.ok none:=by unfold fullR;rw [hr6]
   have el:lgs (evA m d v++(E++[d+1,d+2]).map Evn.lg++evZ m ((t+ad) % 1000000000000000000) sg v)=[m,m+1,m+2,d+8,d+9,m+3]++E++[d+1,d+2]++[m+4,m+5]:=by
    rw [lgs_app,lgs_app,lgs_lg,List.append_assoc _ E];rfl
   have ei:idxT 0 (evA m d v++(E++[d+1,d+2]).map Evn.lg++evZ m ((t+ad) % 1000000000000000000) sg v)=[(5,.int ((v+1) % 1000000000000000000)),(8+E.length,.int ((t+ad) % 1000000000000000000)),(9+E.length,.str sg),(10+E.length,.int v)]:=by
    rw [idxT_app,idxT_app,idx_lg,evG_app,evG_lg]
    simp [evA,evZ,idxT,evG]
    omega
   refine cut_sq (fun σ' H6=>Same H5 H6/\∃ lg,σ'=[some (.int n),some (.int v),some (.str sg),some (.int lo),some (.int ad),some (.ref st),some (.int ((d:Nat):Int)),some (.int ((m:Nat):Int)),some (.ref lg),some (.ref td),some (.int t),some (.int x),some (.int (((7-(k+1):Nat):Nat):Int))]/\H6 lg=some (.lst (nV ([m,m+1,m+2,d+8,d+9,m+3]++E++[d+1,d+2])))) (fun R2 hR2=>?_) ?_
   ·refine ⟨_,rfl,_,rfl,_,_,rfl,rfl,_,rfl,_,_,rfl,rfl,(by show 2<=sizeLine;decide),fun q hq=>?_⟩
    have sa:=same_upd (o:=.lst (nV [d+1,d+2])) hq
    refine ⟨lg,q,_,_,rfl,rfl,sa _ _ hl5,upd_same,Nat.le_of_lt (small1000 (by simp [nV];omega)),fun l2 hl2=>?_⟩
    refine hR2 _ _ ⟨sa.trans (same_upd hl2),l2,rfl,?_⟩
    rw [upd_same,nV_app _ [d+1,d+2]]
    rfl
   rintro σ' H6 ⟨s6,lg,rfl,hl6⟩
   have htd6:=s6 _ _ htd5
   have ht6:=s6 _ _ ht5
   have sH6:=(s2.trans s5).trans s6
   refine cut_sq (fun σ' H7=>Same H' H7/\∃ t1,σ'=[some (.int n),some (.int v),some (.str sg),some (.int lo),some (.int ad),some (.ref st),some (.int ((d:Nat):Int)),some (.int ((m:Nat):Int)),some (.ref lg),some (.ref td),some (.int t),some (.int x),some (.int (((7-(k+1):Nat):Nat):Int))]/\H7 lg=some (.lst (nV ([m,m+1,m+2,d+8,d+9,m+3]++E++[d+1,d+2])))/\H7 td=some (.lst [.ref t0,.ref t1])/\H7 t0=some (.tup [.int 5,.int ((v+1) % 1000000000000000000)])/\H7 t1=some (.tup [.int (((8+E.length:Nat):Nat):Int),.int ((t+ad) % 1000000000000000000)])) (fun R2 hR2=>?_) ?_
   ·refine ⟨_,rfl,.inl ⟨rfl,_,SqL.of htd6⟩,_,rfl,lg,_,rfl,.inl (SqL.of hl6),_,rfl,_,rfl,_,_,rfl,rfl,_,_,rfl,rfl,c18,_,_,rfl,rfl,q18,(by show 2<=sizeLine;decide),fun t1 ht1=>?_⟩
    rw [p18,nV_len]
    have sa:=same_upd (o:=.tup [.int (((([m,m+1,m+2,d+8,d+9,m+3]++E++[d+1,d+2]).length:Nat)):Int),.int ((t+ad) % 1000000000000000000)]) ht1
    refine ⟨td,_,_,rfl,rfl,sa _ _ htd6,small1000 (by simp),?_⟩
    have e8:([m,m+1,m+2,d+8,d+9,m+3]++E++[d+1,d+2]).length=8+E.length:=by simp;omega
    have ntd:td≠t1:=fun z=>by rw [<- z,htd6] at ht1;cases ht1
    have nlg:lg≠td:=fun z=>by
     rw [z,htd6] at hl6
     injection hl6 with hl6
     injection hl6 with hl6
     simp [nV] at hl6
    have n0:t0≠td:=fun z=>by rw [z,htd6] at ht6;cases ht6
    refine hR2 _ _ ⟨same_upd' (sH6.trans sa) htn,t1,rfl,?_,?_,?_,?_⟩
    ·rw [upd_ne nlg];exact sa _ _ hl6
    ·rw [upd_same];rfl
    ·rw [upd_ne n0];exact sa _ _ ht6
    ·rw [upd_ne ntd.symm,upd_same,e8]
   rintro σ' H7 ⟨s7,t1,rfl,hl7,htd7,ht7,ht71⟩
   refine cut_sq (fun σ' H8=>Same H7 H8/\∃ lg,σ'=[some (.int n),some (.int v),some (.str sg),some (.int lo),some (.int ad),some (.ref st),some (.int ((d:Nat):Int)),some (.int ((m:Nat):Int)),some (.ref lg),some (.ref td),some (.int t),some (.int x),some (.int (((7-(k+1):Nat):Nat):Int))]/\H8 lg=some (.lst (nV ([m,m+1,m+2,d+8,d+9,m+3]++E++[d+1,d+2]++[m+4,m+5])))) (fun R2 hR2=>?_) ?_
   ·refine ⟨_,rfl,_,rfl,_,_,rfl,rfl,_,rfl,_,_,rfl,rfl,(by show 2<=sizeLine;decide),fun q hq=>?_⟩
    have sa:=same_upd (o:=.lst (nV [m+4,m+5])) hq
    refine ⟨lg,q,_,_,rfl,rfl,sa _ _ hl7,upd_same,Nat.le_of_lt (small1000 (by simp [nV];omega)),fun l2 hl2=>?_⟩
    refine hR2 _ _ ⟨sa.trans (same_upd hl2),l2,rfl,?_⟩
    rw [upd_same,nV_app _ [m+4,m+5]]
    rfl
   rintro σ' H8 ⟨s8,lg,rfl,hl8⟩
   have e10:([m,m+1,m+2,d+8,d+9,m+3]++E++[d+1,d+2]++[m+4,m+5]).length=10+E.length:=by simp;omega
   refine cut_sq (fun σ' H9=>Same H8 H9/\∃ td,σ'=[some (.int n),some (.int v),some (.str sg),some (.int lo),some (.int ad),some (.ref st),some (.int ((d:Nat):Int)),some (.int ((m:Nat):Int)),some (.ref lg),some (.ref td),some (.int t),some (.int x),some (.int (((7-(k+1):Nat):Nat):Int))]/\TdAt H9 td [(5,.int ((v+1) % 1000000000000000000)),(8+E.length,.int ((t+ad) % 1000000000000000000)),(9+E.length,.str sg),(10+E.length,.int v)]) (fun R2 hR2=>?_) ?_
   ·refine ⟨_,rfl,_,rfl,lg,_,rfl,.inl (SqL.of hl8),_,_,rfl,rfl,_,rfl,(by show 2<=sizeLine;decide),fun a1 ha1=>?_⟩
    rw [nV_len,e10]
    have sa:=same_upd (o:=.tup [.int ((((10+E.length:Nat):Nat):Int)-1),.str sg]) ha1
    refine ⟨_,rfl,lg,_,rfl,.inl (SqL.of (sa _ _ hl8)),_,rfl,(by show 2<=sizeLine;decide),fun a2 ha2=>?_⟩
    rw [nV_len,e10]
    have sb:=same_upd (o:=.tup [.int (((10+E.length:Nat):Nat):Int),.int v]) ha2
    refine ⟨(by show 2<=sizeLine;decide),fun pb hpb=>?_⟩
    have sc:=same_upd (o:=.lst [.ref a1,.ref a2]) hpb
    have sabc:=(sa.trans sb).trans sc
    refine ⟨td,pb,_,_,rfl,rfl,sabc _ _ (s8 _ _ htd7),upd_same,Nat.le_of_lt (small1000 (by simp)),fun t9 ht9=>?_⟩
    have sd:=same_upd (o:=.lst ([.ref t0,.ref t1]++[.ref a1,.ref a2])) ht9
    refine hR2 _ _ ⟨sabc.trans sd,t9,rfl,[t0,t1,a1,a2],upd_same,rfl,fun j u q a b=>?_⟩
    match j,a,b with
    | 0,a,b=>cases a;cases b;exact sd _ _ (sabc _ _ (s8 _ _ ht7))
    | 1,a,b=>cases a;cases b;exact sd _ _ (sabc _ _ (s8 _ _ ht71))
    | 2,a,b =>
     cases a;cases b
     have:(((9+E.length:Nat):Nat):Int)=(((10+E.length:Nat):Nat):Int)-1:=by omega
     show _=some (HO.tup [.int (((9+E.length:Nat):Nat):Int),.str sg])
     rw [this]
     exact sd _ _ (sc _ _ (sb _ _ upd_same))
    | 3,a,b=>cases a;cases b;exact sd _ _ (sc _ _ upd_same)
    | j+4,a,b=>simp at a
   rintro σ' H9 ⟨s9,td,rfl,htd9⟩
   refine ⟨_,rfl,_,rfl,(by show 3<=sizeLine;decide),fun p hp=>?_⟩
   have sp:=same_upd (o:=.tup [.ref lg,.ref td,.str "done"]) hp
   refine kq p lg td _ (((s7.trans s8).trans s9).trans sp) ?_ ?_ ?_ ?_
   ·rw [eR];exact upd_same
   ·rw [ef,el];exact sp _ _ (s9 _ _ hl8)
   ·rw [ef,ei];exact htd9.same sp
   ·rw [ef,el];simp;omega
end
section
variable {P:Program} {w:World} {K:PySem.W.Frag} {mg:Str->Option Value} {base:Heap} {AA:Adr} {DD:Fds}
theorem RWA.same {H H' H2:Hp} {pr:Addr} {rs:List (List Str)} (h:RWA H H' pr rs) (s:Same H' H2):RWA H H2 pr rs:=by obtain ⟨ls,a,b,c⟩:=h.ex;exact ⟨h.sm.trans s,h.fr,ls,s _ _ a,b.same s,c⟩
theorem pass20 {κ:Option Value->Prop} {X:Cx}:Passes (CX2 κ P w) X E0:=fun _ _ _ _ _ _ _ h=>by
 obtain ⟨_,_,_,_,_,_,_,_,_,_,_,_,_,_,_,q⟩:=h
 exact q.elim
noncomputable def ScV (v:V):Prop:=(∃ i,v=.int i)∨∃ z:Str,v=.str z/\z∈(["yes","no"]:List Str)
noncomputable def vD:V->PyData
 | .int i=>.int i
 | .str z=>.str z
 | _=>.int 0
theorem rdv_sc {H:Hp}:∀ us:List V,(∀ u∈us,ScV u)->RdvA K H us (us.map vD)
 | [],_=>.nil
 | u::us,h=>by
  rcases h u (by simp) with ⟨i,rfl⟩ | ⟨z,rfl,_⟩
  ·exact .cons (.int _) (rdv_sc us fun x hx=>h x (List.mem_cons_of_mem _ hx))
  ·exact .cons (.str _) (rdv_sc us fun x hx=>h x (List.mem_cons_of_mem _ hx))
theorem shd_sc {us:List V} (h:∀ u∈us,ScV u):Shd 1 (.list (us.map vD)):=Shd.list (n:=0) fun d hd=>by
 obtain ⟨u,hu,rfl⟩:=List.mem_map.mp hd
 rcases h u hu with ⟨i,rfl⟩ | ⟨z,rfl,hz⟩
 ·exact .int _
 ·exact .str ((show ∀ z∈(["yes","no"]:List Str),∀ c∈z.cps.toList,c<128 by decide +kernel) z hz)
theorem rdv_nats {H:Hp}:∀ ns:List Nat,RdvA K H (nV ns) (ns.map fun r=>PyData.int ((r:Nat):Int))
 | []=>.nil
 | n::ns=>.cons (.int _) (rdv_nats ns)
theorem shd_nats (ns:List Nat):Shd 1 (.list (ns.map fun r=>PyData.int ((r:Nat):Int))):=Shd.list (n:=0) fun d hd=>by
 obtain ⟨r,_,rfl⟩:=List.mem_map.mp hd
 exact .int _
theorem cut_m (xs:List V) (m:Nat):cutV xs none (some ((m:Nat):Int))=xs.take m:=by
 unfold cutV
 rw [HT.sIx_nat]
 have h1:HT.sIx xs.length 0 none=0:=by simp [HT.sIx]
 rw [h1,List.drop_zero,Nat.sub_zero]
 by_cases h:m<=xs.length
 ·rw [Nat.min_eq_left h]
 ·rw [Nat.min_eq_right (by omega),List.take_of_length_le (Nat.le_refl _),List.take_of_length_le (by omega)]
theorem idxT_mem:∀ (es:List Evn) (i:Nat) (p:Nat × V),p∈idxT i es->Evn.tl p.2∈es
 | [],i,p,h=>by cases h
 | .lg _::es,i,p,h=>List.mem_cons_of_mem _ (idxT_mem es (i+1) p h)
 | .tl v::es,i,p,h=>by
  rcases List.mem_cons.mp h with rfl | h
  ·simp
  ·exact List.mem_cons_of_mem _ (idxT_mem es i p h)
theorem dn_tl {d:Nat} {lo ad:Int} {v:V}:∀ (k:Nat) (x:Int),Evn.tl v∉(dn d lo ad k x).1
 | 0,x=>by simp [dn]
 | k+1,x=>by
  rw [dn]
  split
  ·simp
  ·simp [dn_tl k]
theorem full_sc {m d:Nat} {v lo ad n:Int} {sg:Str} (hs:sg∈(["yes","no"]:List Str)):∀ p∈idxT 0 (fullE m d v sg (dn d lo ad 6 n)),ScV p.2:=fun p hp=>by
 have:=idxT_mem _ _ _ hp
 unfold fullE at this
 split at this
 ·rcases List.mem_append.mp this with h | h
  ·simp [evA] at h;rw [h];exact .inl ⟨_,rfl⟩
  ·exact absurd h (dn_tl _ _)
 ·rcases List.mem_append.mp this with h | h
  ·rcases List.mem_append.mp h with h | h
   ·simp [evA] at h;rw [h];exact .inl ⟨_,rfl⟩
   ·exact absurd h (dn_tl _ _)
  ·simp [evZ] at h
   rcases h with h | h | h
   ·rw [h];exact .inl ⟨_,rfl⟩
   ·rw [h];exact .inr ⟨_,rfl,hs⟩
   ·rw [h];exact .inl ⟨_,rfl⟩
theorem idxT_len:∀ (es:List Evn) (i:Nat),(idxT i es).length=evT es
 | [],i=>rfl
 | .lg _::es,i=>by simp [idxT,evT,idxT_len es]
 | .tl _::es,i=>by simp [idxT,evT,idxT_len es]
theorem full_T {m d:Nat} {v lo ad n:Int} {sg:Str}:evT (fullE m d v sg (dn d lo ad 6 n))<=4:=by
 unfold fullE
 split
 ·rw [evT_app,dn_T];simp [evA,evT]
 ·rw [evT_app,evT_app,dn_T];simp [evA,evZ,evT]
theorem fullR_or (q:List Evn × Rs Int):fullR q=.deep∨fullR q=.ok none:=by
 unfold fullR
 split
 ·exact .inl rfl
 ·exact .inr rfl
theorem ws_63 {ah:Bool} {n v lo ad:Int} {sg:Str} (h1:in18 n) (h2:in18 v) (h3:sg∈(["yes","no"]:List Str)) (h4:in18 lo) (h5:in18 ad):∀ r∈rows63 ah n v sg lo ad,WsOk r/\r.length<=10:=by
 have L:∀ z,z∈(["set","x","y","r","if","give","tell","end","def","down","num","left","pair","kind","u","v","truth"]:List Str)->W1 z:=by decide +kernel
 have c0:∀ {e:Ex} {z:Str},GoodT e->z∈(["set","x","y","r","if","give","tell","end","def","down","num","left","pair","kind","u","v","truth"]:List Str)->(wdsE e).length<=7->WsOk (z::wdsE e)/\(z::wdsE e).length<=10:=fun {e z} g hz hl=>⟨fun y hy=>(List.mem_cons.mp hy).elim (fun q=>q ▸ L z hz) (good_ws e g.1 y),by simp;omega⟩
 have c1:∀ {e:Ex} {z u:Str},GoodT e->z∈(["set","x","y","r","if","give","tell","end","def","down","num","left","pair","kind","u","v","truth"]:List Str)->u∈(["set","x","y","r","if","give","tell","end","def","down","num","left","pair","kind","u","v","truth"]:List Str)->(wdsE e).length<=7->WsOk (z::u::wdsE e)/\(z::u::wdsE e).length<=10:=fun {e z u} g hz hu hl=>⟨fun y hy=>(List.mem_cons.mp hy).elim (fun q=>q ▸ L z hz) fun hy=>(List.mem_cons.mp hy).elim (fun q=>q ▸ L u hu) (good_ws e g.1 y),by simp;omega⟩
 have c2:∀ {l:List Str},(∀ z∈l,z∈(["set","x","y","r","if","give","tell","end","def","down","num","left","pair","kind","u","v","truth"]:List Str))->l.length<=10->WsOk l/\l.length<=10:=fun h hl=>⟨fun y hy=>L y (h y hy),hl⟩
 have dfs:∀ r∈defsR lo ad,WsOk r/\r.length<=10:=fun r hr=>by
  simp only [defsR,List.cons_append,List.nil_append,List.mem_cons,List.not_mem_nil,or_false] at hr
  rcases hr with rfl | rfl | rfl | rfl | rfl | rfl | rfl | rfl | rfl | rfl | rfl
  ·exact c2 (by simp) (by simp)
  ·exact c0 (g_less h4) (by simp) (by simp [lessE,wdsE])
  ·exact c0 (g_num h5) (by simp) (by simp [wdsE])
  ·exact c2 (by simp) (by simp)
  ·exact c1 g_min (by simp) (by simp) (by simp [minE,wdsE])
  ·exact c0 g_rec (by simp) (by simp [recE,wdsE,wdsL])
  ·exact c2 (by simp) (by simp)
  ·exact c2 (by simp) (by simp)
  ·exact c1 g_ofu (by simp) (by simp) (by simp [ofE,wdsE])
  ·exact c0 (g_nm nm63.1) (by simp) (by simp [wdsE])
  ·exact c2 (by simp) (by simp)
 have mn:∀ r∈mainR n v sg,WsOk r/\r.length<=10:=fun r hr=>by
  simp only [mainR,List.cons_append,List.nil_append,List.mem_cons,List.not_mem_nil,or_false] at hr
  rcases hr with rfl | rfl | rfl | rfl | rfl | rfl
  ·exact c1 (g_num h2) (by simp) (by simp) (by simp [wdsE])
  ·exact c1 (g_new h3) (by simp) (by simp) (by simp [newE,wdsE,wdsL])
  ·exact c0 g_dl (by simp) (by simp [dleft,wdsE,wdsL])
  ·exact c0 (g_dd h1) (by simp) (by simp [ddown,wdsE,wdsL])
  ·exact c0 g_ofv (by simp) (by simp [ofE,wdsE])
  ·exact c0 (g_nm nm63.1) (by simp) (by simp [wdsE])
 have kd:WsOk kdR/\kdR.length<=10:=c2 (by unfold kdR;simp) (by decide)
 intro r hr
 cases ah with
 | true =>
  rw [rows63,if_pos rfl] at hr
  rcases List.mem_append.mp hr with hr | hr
  ·rcases List.mem_append.mp hr with hr | hr
   ·rw [show r=kdR from by simpa using hr];exact kd
   ·exact dfs r hr
  ·exact mn r hr
 | false =>
  rw [rows63,if_neg Bool.false_ne_true] at hr
  rcases List.mem_append.mp hr with hr | hr
  ·rcases List.mem_append.mp hr with hr | hr
   ·rw [show r=kdR from by simpa using hr];exact kd
   ·exact mn r hr
  ·exact dfs r hr
noncomputable def spLaw (K:PySem.W.Frag):Sp:=fun vs H Q _=>∃ (a:Addr) (ns:List Int),vs=[.ref a]/\SqL K H a (ns.map V.int)/\ns.length<=63/\∀ H',Q (.bl true) H'
noncomputable abbrev N_law:List Str:=["_law_script","_law_xs","_law_low","_law_number","_law_value","_law_sign","_law_add","_law_ahead","_law_most","_law_rows","_law_log","_law_told","_law_last","_law_outcome","_law_found","_law_ran"]
theorem sc_law:FnScope N_law ["_law_script"] (defScope st_law):=⟨rfl,rfl,rfl,by decide +kernel,rfl,by decide +kernel,by decide +kernel⟩
theorem ok_law (T:All P w K mg AA DD) {f:Addr} {fd:FuncData} (F:Fun K "law" "law" st_law f fd):FnOk P w K mg base CX0 199 f fd ["_law_script"] (spLaw K):=by
 have GCA:=ok_cellat (base:=base) T
 have GST:=ok_stream (base:=base) T
 have GLD:=ok_ld (base:=base) T
 have GLM:=ok_lm (base:=base) T
 have GRUN:=ok_run (base:=base) T
 have GPL:=ok_plainT (base:=base) T
 have GRP:=ok_rp (base:=base) T 21
 refine F.ok sc_law (fun vs H Q E h=>?_) (fun cdv A outer s H vs Q E hr h=>?_)
 ·obtain ⟨a,ns,rfl,_⟩:=h
  rfl
 ·obtain ⟨a,is,rfl,hS,hlen,kq⟩:=h
  have nd:=sc_law.nd
  have hu64:=hr.units
  have hrR:Room (3*21+4) _:=hr.mono (by decide)
  have hrP:Room 25 _:=hr.mono (by decide)
  have hr2:Room 1 _:=hr.mono (by decide)
  have hr1:Room 1 _:=hr.mono (by decide)
  have c17:CPow 10 17:=by unfold CPow;decide
  have c18:CPow 10 18:=by unfold CPow;decide
  have c9:CPow 10 9:=by unfold CPow;decide
  have p17:(10:Int) ^ (17:Int).toNat=100000000000000000:=by decide
  have p18:(10:Int) ^ (18:Int).toNat=1000000000000000000:=by decide
  have p9:(10:Int) ^ (9:Int).toNat=1000000000:=by decide
  refine ⟨_,(@pss_cons _ _ _ _ _ (@ps_set _ _ 1 _ _ _ _ nd rfl (Or.inl rfl) (pe_call GST hr1 rfl T.m_ZB T.k_ZB T.b_ZB .nil pass0 (@pa_cons _ _ _ _ _ (pe_call GCA hr1 rfl T.m_Zt T.k_Zt T.b_Zt .nil pass0 (@pa_cons _ _ _ _ _ (pv 0) (@pa_cons _ _ _ _ _ pe_int pa_nil (by rfl)) (by rfl))) (@pa_cons _ _ _ _ _ pe_int pa_nil (by rfl)) (by rfl))) (by rfl) (by first | exact .inl rfl | exact .inr rfl | assumption)) (@pss_cons _ _ _ _ _ (@ps_set _ _ 2 _ _ _ _ nd rfl (Or.inl rfl) (@pe_ix _ _ _ _ _ _ _ (ix_listK (K:=K) rfl) (@pe_lst _ _ _ _ (@pa_cons _ _ _ _ _ (@pe_op _ _ _ _ _ _ _ _ op_mod (@pe_ix _ _ _ _ _ _ _ (ix_listK (K:=K) rfl) (pv 1) pe_int (fun _ _=>rfl)) pe_int) (@pa_cons _ _ _ _ _ (@pe_op _ _ _ _ _ _ _ _ op_add (@pe_op _ _ _ _ _ _ _ _ op_pow pe_int pe_int) pe_int) pa_nil (by rfl)) (by rfl))) (@pe_op _ _ _ _ _ _ _ _ op_mod (@pe_ix _ _ _ _ _ _ _ (ix_listK (K:=K) rfl) (pv 1) pe_int (fun _ _=>rfl)) pe_int) (fun _ _=>rfl)) (by rfl) (by first | exact .inl rfl | exact .inr rfl | assumption)) (@pss_cons _ _ _ _ _ (@ps_set _ _ 3 _ _ _ _ nd rfl (Or.inl rfl) (@pe_op _ _ _ _ _ _ _ _ op_sub (@pe_op _ _ _ _ _ _ _ _ op_add (pv 2) (@pe_op _ _ _ _ _ _ _ _ op_mod (@pe_ix _ _ _ _ _ _ _ (ix_listK (K:=K) rfl) (pv 1) pe_int (fun _ _=>rfl)) pe_int)) pe_int) (by rfl) (by first | exact .inl rfl | exact .inr rfl | assumption)) (@pss_cons _ _ _ _ _ (@ps_if _ _ _ _ _ _ _ _ (@pt_cmpR _ _ _ _ _ _ _ _ op_lt (pv 3) pe_int (nomark _)) (@pss_one _ _ _ (@ps_set _ _ 3 _ _ _ _ nd rfl (Or.inl rfl) pe_int (by rfl) (by first | exact .inl rfl | exact .inr rfl | assumption))) pss_nil) (@pss_cons _ _ _ _ _ (@ps_set _ _ 4 _ _ _ _ nd rfl (Or.inl rfl) (@pe_ix _ _ _ _ _ _ _ (ix_listK (K:=K) rfl) (@pe_lst _ _ _ _ (@pa_cons _ _ _ _ _ (@pe_op _ _ _ _ _ _ _ _ op_mod (@pe_ix _ _ _ _ _ _ _ (ix_listK (K:=K) rfl) (pv 1) pe_int (fun _ _=>rfl)) pe_int) (@pa_cons _ _ _ _ _ (@pe_op _ _ _ _ _ _ _ _ op_sub (@pe_op _ _ _ _ _ _ _ _ op_pow pe_int pe_int) pe_int) pa_nil (by rfl)) (by rfl))) (@pe_op _ _ _ _ _ _ _ _ op_mod (@pe_ix _ _ _ _ _ _ _ (ix_listK (K:=K) rfl) (pv 1) pe_int (fun _ _=>rfl)) pe_int) (fun _ _=>rfl)) (by rfl) (by first | exact .inl rfl | exact .inr rfl | assumption)) (@pss_cons _ _ _ _ _ (@ps_set _ _ 5 _ _ _ _ nd rfl (Or.inl rfl) (@pe_ix _ _ _ _ _ _ _ (ix_listK (K:=K) rfl) (@pe_lst _ _ _ _ (@pa_cons _ _ _ _ _ pe_str (@pa_cons _ _ _ _ _ pe_str pa_nil (by rfl)) (by rfl))) (@pe_op _ _ _ _ _ _ _ _ op_mod (@pe_ix _ _ _ _ _ _ _ (ix_listK (K:=K) rfl) (pv 1) pe_int (fun _ _=>rfl)) pe_int) (fun _ _=>rfl)) (by rfl) (by first | exact .inl rfl | exact .inr rfl | assumption)) (@pss_cons _ _ _ _ _ (@ps_set _ _ 6 _ _ _ _ nd rfl (Or.inl rfl) (@pe_op _ _ _ _ _ _ _ _ op_mod (@pe_ix _ _ _ _ _ _ _ (ix_listK (K:=K) rfl) (pv 1) pe_int (fun _ _=>rfl)) (@pe_op _ _ _ _ _ _ _ _ op_pow pe_int pe_int)) (by rfl) (by first | exact .inl rfl | exact .inr rfl | assumption)) (@pss_cons _ _ _ _ _ (@ps_set _ _ 7 _ _ _ _ nd rfl (Or.inl rfl) (@pe_cmpR _ _ _ _ _ _ _ _ op_eq (@pe_op _ _ _ _ _ _ _ _ op_mod (@pe_ix _ _ _ _ _ _ _ (ix_listK (K:=K) rfl) (pv 1) pe_int (fun _ _=>rfl)) pe_int) pe_int (nomark _)) (by rfl) (by first | exact .inl rfl | exact .inr rfl | assumption)) (@pss_cons _ _ _ _ _ (@ps_set _ _ 8 _ _ _ _ nd rfl (Or.inr rfl) (@pe_op _ _ _ _ _ _ _ _ op_mod (pe_call GCA hr1 rfl T.m_Zt T.k_Zt T.b_Zt .nil pass0 (@pa_cons _ _ _ _ _ (pv 0) (@pa_cons _ _ _ _ _ pe_int pa_nil (by rfl)) (by rfl))) pe_int) (by rfl) (by first | exact .inl rfl | exact .inr rfl | assumption)) (@pss_cons _ _ _ _ _ (@ps_set _ _ 9 _ _ _ _ nd rfl (Or.inl rfl) (@pe_lst _ _ _ _ (@pa_cons _ _ _ _ _ (@pe_lst _ _ _ _ (@pa_cons _ _ _ _ _ pe_str (@pa_cons _ _ _ _ _ pe_str (@pa_cons _ _ _ _ _ pe_str (@pa_cons _ _ _ _ _ pe_str (@pa_cons _ _ _ _ _ pe_str (@pa_cons _ _ _ _ _ pe_str pa_nil (by rfl)) (by rfl)) (by rfl)) (by rfl)) (by rfl)) (by rfl))) pa_nil (by rfl))) (by rfl) (by first | exact .inl rfl | exact .inr rfl | assumption)) (@pss_cons _ _ _ _ _ (@ps_if _ _ _ _ _ _ _ _ (pt_val (pv 7)) (@pss_cons _ _ _ _ _ (@ps_set _ _ 9 _ _ _ _ nd rfl (Or.inl rfl) (@pe_op _ _ _ _ _ _ _ _ op_cat (@pe_op _ _ _ _ _ _ _ _ op_cat (pv 9) (pe_call GLD hr1 rfl T.m_ZK T.k_ZK T.b_ZK .nil pass0 (@pa_cons _ _ _ _ _ (pv 2) (@pa_cons _ _ _ _ _ (pv 6) pa_nil (by rfl)) (by rfl)))) (pe_call GLM hr1 rfl T.m_ZL T.k_ZL T.b_ZL .nil pass0 (@pa_cons _ _ _ _ _ (pv 3) (@pa_cons _ _ _ _ _ (pv 4) (@pa_cons _ _ _ _ _ (pv 5) pa_nil (by rfl)) (by rfl)) (by rfl)))) (by rfl) (by first | exact .inl rfl | exact .inr rfl | assumption)) (@pss_one _ _ _ (ps_asg (pe_call GRUN hr2 rfl T.m_ZP T.k_ZP T.b_ZP .nil pass0 (@pa_cons _ _ _ _ _ (pv 3) (@pa_cons _ _ _ _ _ (pv 4) (@pa_cons _ _ _ _ _ (pv 5) (@pa_cons _ _ _ _ _ (pv 2) (@pa_cons _ _ _ _ _ (pv 6) (@pa_cons _ _ _ _ _ (@pe_tup _ _ _ _ _ (@pa_cons _ _ _ _ _ pe_int (@pa_cons _ _ _ _ _ pe_int pa_nil (by rfl)) (by rfl))) pa_nil (by rfl)) (by rfl)) (by rfl)) (by rfl)) (by rfl)) (by rfl))) (pg_tup rfl (pgs_cons (pg_name (i:=10) nd rfl (Or.inl rfl)) (pgs_cons (pg_name (i:=11) nd rfl (Or.inl rfl)) (pgs_cons (pg_name (i:=12) nd rfl (Or.inl rfl)) pgs_nil))))))) (@pss_cons _ _ _ _ _ (@ps_set _ _ 9 _ _ _ _ nd rfl (Or.inl rfl) (@pe_op _ _ _ _ _ _ _ _ op_cat (@pe_op _ _ _ _ _ _ _ _ op_cat (pv 9) (pe_call GLM hr1 rfl T.m_ZL T.k_ZL T.b_ZL .nil pass0 (@pa_cons _ _ _ _ _ (pv 3) (@pa_cons _ _ _ _ _ (pv 4) (@pa_cons _ _ _ _ _ (pv 5) pa_nil (by rfl)) (by rfl)) (by rfl)))) (pe_call GLD hr1 rfl T.m_ZK T.k_ZK T.b_ZK .nil pass0 (@pa_cons _ _ _ _ _ (pv 2) (@pa_cons _ _ _ _ _ (pv 6) pa_nil (by rfl)) (by rfl)))) (by rfl) (by first | exact .inl rfl | exact .inr rfl | assumption)) (@pss_one _ _ _ (ps_asg (pe_call GRUN hr2 rfl T.m_ZP T.k_ZP T.b_ZP .nil pass0 (@pa_cons _ _ _ _ _ (pv 3) (@pa_cons _ _ _ _ _ (pv 4) (@pa_cons _ _ _ _ _ (pv 5) (@pa_cons _ _ _ _ _ (pv 2) (@pa_cons _ _ _ _ _ (pv 6) (@pa_cons _ _ _ _ _ (@pe_tup _ _ _ _ _ (@pa_cons _ _ _ _ _ pe_int (@pa_cons _ _ _ _ _ pe_int pa_nil (by rfl)) (by rfl))) pa_nil (by rfl)) (by rfl)) (by rfl)) (by rfl)) (by rfl)) (by rfl))) (pg_tup rfl (pgs_cons (pg_name (i:=10) nd rfl (Or.inl rfl)) (pgs_cons (pg_name (i:=11) nd rfl (Or.inl rfl)) (pgs_cons (pg_name (i:=12) nd rfl (Or.inl rfl)) pgs_nil)))))))) (@pss_cons _ _ _ _ _ (@ps_if _ _ _ _ _ _ _ _ (@pt_cmpR _ _ _ _ _ _ _ _ op_lt (pv 8) (pe_callB call_len_seq rfl T.n_len bt_len (@pa_cons _ _ _ _ _ (pv 10) pa_nil (by rfl))) (nomark _)) (@pss_one _ _ _ (@ps_set _ _ 12 _ _ _ _ nd rfl (Or.inl rfl) pe_str (by rfl) (by first | exact .inl rfl | exact .inr rfl | assumption))) pss_nil) (@pss_cons _ _ _ _ _ (ps_asg (pe_call GRP hrR rfl T.m_ZF T.k_ZF T.b_ZF .nil pass0 (@pa_cons _ _ _ _ _ (pe_call GPL hrP rfl T.m_Zy T.k_Zy T.b_Zy .nil pass20 (@pa_cons _ _ _ _ _ (pv 9) pa_nil (by rfl))) (@pa_cons _ _ _ _ _ (pv 8) pa_nil (by rfl)) (by rfl))) (pg_tup rfl (pgs_cons (pg_name (i:=13) nd rfl (Or.inl rfl)) (pgs_cons (pg_name (i:=14) nd rfl (Or.inl rfl)) (pgs_cons (pg_name (i:=15) nd rfl (Or.inl rfl)) pgs_nil))))) (@pss_cons _ _ _ _ _ (@ps_if _ _ _ _ _ _ _ _ (PW.pt (pw_or (@pt_cmpR _ _ _ _ _ _ _ _ op_ne (pv 13) (pv 12) (nomark _)) (pw_or (@pt_cmpR _ _ _ _ _ _ _ _ (op_neD (K:=K) rfl hu64) (pv 15) (pe_slice sl_list (pv 10) po_none (po_some (pv 8))) (nomark _)) (pw_or1 (pt_not (pt_val (pe_callB (call_isinstK (K:=K) (n:="tuple") rfl) rfl T.n_isinstance bt_isi (@pa_cons _ _ _ _ _ (pv 14) (@pa_cons _ _ _ _ _ (pe_bltn (v:=.ty "tuple") rfl T.n_tuple bt_tuple rfl) pa_nil (by rfl)) (by rfl))))))))) (@pss_one _ _ _ (@ps_ret _ _ _ _ pe_bl)) pss_nil) (@pss_one _ _ _ (@ps_ret _ _ _ _ (@pe_cmpR _ _ _ _ _ _ _ _ (op_eqD (K:=K) rfl hu64) (pe_callTy (call_list_ofK (K:=K) rfl) rfl T.n_list bt_list (@pa_cons _ _ _ _ _ (pv 14) pa_nil (by rfl))) (pe_comp2 (xs:=["_law_at","_law_one"]) (defScope st_law) N_law ["_law_most"] [8] rfl (by exact ⟨rfl,rfl,by decide +kernel,by decide +kernel,by decide +kernel,by decide +kernel,by decide +kernel,rfl,by decide +kernel⟩) rfl rfl (pi_list (pv 11)) (fun _ _ _ _=>(pg_tupK (K:=K) (n:=2) rfl rfl (pgs_cons (pg_name (i:=0) (show (["_law_at","_law_one","_law_most"]:List Str).Nodup by decide +kernel) rfl (Or.inl rfl)) (pgs_cons (pg_name (i:=1) (show (["_law_at","_law_one","_law_most"]:List Str).Nodup by decide +kernel) rfl (Or.inl rfl)) pgs_nil)))) (fun _ _ _ _=>pif_one (pt_cmpR op_le (pv 0) (pv 2) (nomark _))) (fun _ _ _ _=>(pv 1))) (nomark _)))))))))))))))))),?_⟩
  refine cut_sq (fun σ' H'=>Same H H'/\∃ (px:Addr) (zz:List Int),σ'=[some (.ref a),some (.ref px),none,none,none,none,none,none,none,none,none,none,none,none,none,none]/\H' px=some (.lst (zz.map V.int))/\zz.length=8/\∀ y∈zz,0<=y/\y<2 ^ 32) (fun R hR=>?_) ?_
  ·refine ⟨_,rfl,a,is,0,rfl,hS,_,rfl,fun px zz hpx hzl hzz=>?_⟩
   exact hR _ _ ⟨same_upd hpx,px,zz,rfl,upd_same,hzl,hzz⟩
  rintro σ' H1 ⟨t1,px,zz,rfl,hpx,hzl,hzz⟩
  obtain ⟨z0,z1,z2,z3,z4,z5,z6,z7,rfl⟩:∃ a b c d e f g h,zz=[a,b,c,d,e,f,g,h]:=by
   match zz,hzl with
   | [a,b,c,d,e,f,g,h],_=>exact ⟨a,b,c,d,e,f,g,h,rfl⟩
  refine cut_sq (fun σ' H'=>Same H1 H'/\∃ lo:Int,σ'=[some (.ref a),some (.ref px),some (.int lo),none,none,none,none,none,none,none,none,none,none,none,none,none]/\0<=lo/\lo<=100000000000000001) (fun R hR=>?_) ?_
  ·refine ⟨_,rfl,px,_,_,_,rfl,rfl,SqL.of hpx,atI_nat (j:=0) rfl,_,_,rfl,rfl,(by show (0:Int)<5;decide),_,_,rfl,rfl,c17,_,_,rfl,rfl,(by show 2<=sizeLine;decide),fun q hq=>?_⟩
   have sq:=same_upd (o:=.lst [.int (z0 % 5),.int (10 ^ (17:Int).toNat+1)]) hq
   obtain ⟨j,ej,hj⟩:=modN (a:=z5) (n:=2) (by decide)
   have ej:z5 % 2=((j:Nat):Int):=ej
   have hfi:∃ fi:Int,([.int (z0 % 5),.int (10 ^ (17:Int).toNat+1)]:List V)[j]?=some (.int fi)/\0<=fi/\fi<=100000000000000001:=by
    rcases (show j=0∨j=1 by omega) with rfl | rfl
    ·exact ⟨_,rfl,by omega,by omega⟩
    ·exact ⟨_,rfl,by rw [p17];omega,by rw [p17];omega⟩
   obtain ⟨fi,e1,e2,e3⟩:=hfi
   refine ⟨_,rfl,px,_,_,_,rfl,rfl,SqL.of (sq _ _ hpx),atI_nat (j:=5) rfl,_,_,rfl,rfl,(by show (0:Int)<2;decide),q,_,_,.int fi,rfl,rfl,SqL.of upd_same,?_,?_⟩
   ·show atI _ (z5 % 2)=_
    rw [ej];exact atI_nat e1
   ·exact hR _ _ ⟨sq,fi,rfl,e2,e3⟩
  rintro σ' H2 ⟨t2,lo,rfl,hlo0,hlo1⟩
  have hpx2:=t2 _ _ hpx
  refine cut_sq (fun σ' H'=>H'=H2/\∃ n:Int,σ'=[some (.ref a),some (.ref px),some (.int lo),some (.int n),none,none,none,none,none,none,none,none,none,none,none,none]/\n<=lo+8) (fun R hR=>?_) ?_
  ·refine ⟨_,rfl,_,rfl,px,_,_,_,rfl,rfl,SqL.of hpx2,atI_nat (j:=1) rfl,_,_,rfl,rfl,(by show (0:Int)<9;decide),_,_,rfl,rfl,_,_,rfl,rfl,?_⟩
   exact hR _ _ ⟨rfl,lo+z1 % 9-1,rfl,by omega⟩
  rintro σ' H3 ⟨rfl,n',rfl,hn1⟩
  refine cut_sq (fun σ' H'=>H'=H3/\∃ n:Int,σ'=[some (.ref a),some (.ref px),some (.int lo),some (.int n),none,none,none,none,none,none,none,none,none,none,none,none]/\0<=n/\n<=lo+8) (fun R hR=>?_) ?_
  ·refine ⟨_,rfl,_,_,rfl,rfl,_,rfl,?_⟩
   by_cases hneg:n'<0
   ·refine iteTb (decide_eq_true hneg) ?_
    exact hR _ _ ⟨rfl,0,rfl,Int.le_refl _,by omega⟩
   ·refine iteFb (decide_eq_false hneg) ?_
    exact hR _ _ ⟨rfl,n',rfl,by omega,hn1⟩
  rintro σ' H4 ⟨rfl,n,rfl,hn0,hn1'⟩
  refine cut_sq (fun σ' H'=>Same H4 H'/\∃ v:Int,σ'=[some (.ref a),some (.ref px),some (.int lo),some (.int n),some (.int v),none,none,none,none,none,none,none,none,none,none,none]/\in18 v) (fun R hR=>?_) ?_
  ·refine ⟨_,rfl,px,_,_,_,rfl,rfl,SqL.of hpx2,atI_nat (j:=2) rfl,_,_,rfl,rfl,(by show (0:Int)<100;decide),_,_,rfl,rfl,c18,_,_,rfl,rfl,(by show 2<=sizeLine;decide),fun q hq=>?_⟩
   have sq:=same_upd (o:=.lst [.int (z2 % 100),.int (10 ^ (18:Int).toNat-1)]) hq
   obtain ⟨j,ej,hj⟩:=modN (a:=z6) (n:=2) (by decide)
   have ej:z6 % 2=((j:Nat):Int):=ej
   have hfi:∃ fi:Int,([.int (z2 % 100),.int (10 ^ (18:Int).toNat-1)]:List V)[j]?=some (.int fi)/\in18 fi:=by
    rcases (show j=0∨j=1 by omega) with rfl | rfl
    ·exact ⟨_,rfl,by omega,by omega⟩
    ·exact ⟨_,rfl,by rw [p18];decide,by rw [p18];decide⟩
   obtain ⟨fi,e1,e2⟩:=hfi
   refine ⟨_,rfl,px,_,_,_,rfl,rfl,SqL.of (sq _ _ hpx2),atI_nat (j:=6) rfl,_,_,rfl,rfl,(by show (0:Int)<2;decide),q,_,_,.int fi,rfl,rfl,SqL.of upd_same,?_,?_⟩
   ·show atI _ (z6 % 2)=_
    rw [ej];exact atI_nat e1
   ·exact hR _ _ ⟨sq,fi,rfl,e2⟩
  rintro σ' H5 ⟨t5,v,rfl,hv⟩
  have hpx5:=t5 _ _ hpx2
  refine cut_sq (fun σ' H'=>Same H5 H'/\∃ sg:Str,σ'=[some (.ref a),some (.ref px),some (.int lo),some (.int n),some (.int v),some (.str sg),none,none,none,none,none,none,none,none,none,none]/\sg∈(["yes","no"]:List Str)) (fun R hR=>?_) ?_
  ·refine ⟨(by show 2<=sizeLine;decide),fun q hq=>?_⟩
   have sq:=same_upd (o:=.lst [.str "yes",.str "no"]) hq
   obtain ⟨j,ej,hj⟩:=modN (a:=z3) (n:=2) (by decide)
   have ej:z3 % 2=((j:Nat):Int):=ej
   have hfi:∃ sg:Str,([.str "yes",.str "no"]:List V)[j]?=some (.str sg)/\sg∈(["yes","no"]:List Str):=by
    rcases (show j=0∨j=1 by omega) with rfl | rfl
    ·exact ⟨_,rfl,by simp⟩
    ·exact ⟨_,rfl,by simp⟩
   obtain ⟨sg,e1,e2⟩:=hfi
   refine ⟨_,rfl,px,_,_,_,rfl,rfl,SqL.of (sq _ _ hpx5),atI_nat (j:=3) rfl,_,_,rfl,rfl,(by show (0:Int)<2;decide),q,_,_,.str sg,rfl,rfl,SqL.of upd_same,?_,?_⟩
   ·show atI _ (z3 % 2)=_
    rw [ej];exact atI_nat e1
   ·exact hR _ _ ⟨sq,sg,rfl,e2⟩
  rintro σ' H6 ⟨t6,sg,rfl,hsg⟩
  have hpx6:=t6 _ _ hpx5
  refine cut_sq (fun σ' H'=>H'=H6/\∃ ad:Int,σ'=[some (.ref a),some (.ref px),some (.int lo),some (.int n),some (.int v),some (.str sg),some (.int ad),none,none,none,none,none,none,none,none,none]/\in18 ad) (fun R hR=>?_) ?_
  ·refine ⟨_,rfl,px,_,_,_,rfl,rfl,SqL.of hpx6,atI_nat (j:=4) rfl,_,_,rfl,rfl,c9,_,_,rfl,rfl,(by show (0:Int)<10 ^ (9:Int).toNat;decide),?_⟩
   exact hR _ _ ⟨rfl,z4 % 10 ^ (9:Int).toNat,rfl,by rw [p9];omega,by rw [p9];omega⟩
  rintro σ' H7 ⟨rfl,ad,rfl,had⟩
  refine cut_sq (fun σ' H'=>H'=H7/\∃ ah:Bool,σ'=[some (.ref a),some (.ref px),some (.int lo),some (.int n),some (.int v),some (.str sg),some (.int ad),some (.bl ah),none,none,none,none,none,none,none,none]) (fun R hR=>?_) ?_
  ·refine ⟨_,rfl,px,_,_,_,rfl,rfl,SqL.of hpx6,atI_nat (j:=7) rfl,_,_,rfl,rfl,(by show (0:Int)<2;decide),rfl,?_⟩
   exact hR _ _ ⟨rfl,_,rfl⟩
  rintro σ' H8 ⟨rfl,ah,rfl⟩
  obtain ⟨m,em,hm⟩:=modN (a:=is.getD 1 0) (n:=121) (by decide)
  have em:is.getD 1 0 % 121=((m:Nat):Int):=em
  have sH:=((t1.trans t2).trans t5).trans t6
  have hS8:SqL K H8 a (is.map V.int):=sH.ls.seq hS
  refine cut_sq (fun σ' H'=>H'=H8/\σ'=[some (.ref a),some (.ref px),some (.int lo),some (.int n),some (.int v),some (.str sg),some (.int ad),some (.bl ah),some (.int ((m:Nat):Int)),none,none,none,none,none,none,none]) (fun R hR=>?_) ?_
  ·refine ⟨_,rfl,a,is,1,rfl,hS8,_,_,rfl,rfl,(by show (0:Int)<121;decide),?_⟩
   refine hR _ _ ⟨rfl,?_⟩
   rw [<- em];rfl
  rintro σ' H9 ⟨rfl,rfl⟩
  have iN:in18 n:=⟨hn0,by omega⟩
  have iL:in18 lo:=⟨hlo0,by omega⟩
  refine cut_sq (fun σ' H'=>∃ pr,σ'=[some (.ref a),some (.ref px),some (.int lo),some (.int n),some (.int v),some (.str sg),some (.int ad),some (.bl ah),some (.int ((m:Nat):Int)),some (.ref pr),none,none,none,none,none,none]/\RWA H9 H' pr [kdR]) (fun R hR=>?_) ?_
  ·refine ⟨(by show 6<=sizeLine;decide),fun q1 hq1=>⟨(by show 1<=sizeLine;decide),fun pr hpr=>?_⟩⟩
   exact hR _ _ ⟨pr,rfl,RWA.mk' (same_upd hq1) hpr (LsR.nxt (r:=kdR) (LsR.nil' (H:=H9)) hq1)⟩
  rintro σ' HA ⟨pr,rfl,hW⟩
  have hsc:=full_sc (m:=mAt ah) (d:=dAt ah) (v:=v) (lo:=lo) (ad:=ad) (n:=n) hsg
  obtain ⟨ρ',hrun⟩:=run_63 (ah:=ah) (sg:=sg) iN hv iL had
  have hfT:=full_T (m:=mAt ah) (d:=dAt ah) (v:=v) (lo:=lo) (ad:=ad) (n:=n) (sg:=sg)
  have hpL:(prog63 ah n v sg lo ad).length<=20:=by unfold prog63 defsT mainT;cases ah<;>simp
  have hfo:=fullR_or (dn (dAt ah) lo ad 6 n)
  have hrd:=rd_63 iN hv hsg iL had ah
  have hwsk:=ws_63 (ah:=ah) iN hv hsg iL had
  have hrl:(rows63 ah n v sg lo ad).length<=20:=by unfold rows63 defsR mainR;cases ah<;>simp
  refine cut_sq (fun σ' H'=>∃ pr lg td,σ'=[some (.ref a),some (.ref px),some (.int lo),some (.int n),some (.int v),some (.str sg),some (.int ad),some (.bl ah),some (.int ((m:Nat):Int)),some (.ref pr),some (.ref lg),some (.ref td),some (.str (wdR (fullR (dn (dAt ah) lo ad 6 n)))),none,none,none]/\RWA H9 H' pr (rows63 ah n v sg lo ad)/\H' lg=some (.lst (nV (lgs (fullE (mAt ah) (dAt ah) v sg (dn (dAt ah) lo ad 6 n)))))/\TdAt H' td (idxT 0 (fullE (mAt ah) (dAt ah) v sg (dn (dAt ah) lo ad 6 n)))/\(lgs (fullE (mAt ah) (dAt ah) v sg (dn (dAt ah) lo ad 6 n))).length<=40) (fun R hR=>?_) ?_
  ·obtain ⟨ls,el,hll⟩:=hW.ln
   have hl1:ls.length=1:=hll
   cases ah with
   | true =>
    refine ⟨_,rfl,_,rfl,iteT ?_⟩
    refine cut_sq (fun σ' H'=>∃ pr,σ'=[some (.ref a),some (.ref px),some (.int lo),some (.int n),some (.int v),some (.str sg),some (.int ad),some (.bl true),some (.int ((m:Nat):Int)),some (.ref pr),none,none,none,none,none,none]/\RWA H9 H' pr (rows63 true n v sg lo ad)) (fun R2 hR2=>?_) ?_
    ·refine ⟨_,rfl,_,rfl,_,rfl,lo,ad,rfl,iL,had,fun pd HB hWd=>?_⟩
     obtain ⟨ms,emd,hlm,_⟩:=hWd.ex
     have hml:ms.length=11:=hlm.len
     refine ⟨pr,pd,_,_,rfl,rfl,hWd.sm _ _ el,emd,Nat.le_of_lt (small1000 (by simp;omega)),fun pf hpf=>?_⟩
     have hWf:=hW.cat el hWd.sm hlm hpf
     generalize hHC:upd HB pf _=HC at hWf ⊢
     obtain ⟨ls2,el2,hll2⟩:=hWf.ln
     have hl2:ls2.length=12:=hll2
     refine ⟨_,rfl,_,rfl,_,rfl,n,v,sg,rfl,iN,hv,fun pm HD hWm=>?_⟩
     obtain ⟨us,eum,hlu,_⟩:=hWm.ex
     have hul:us.length=6:=hlu.len
     refine ⟨pf,pm,_,_,rfl,rfl,hWm.sm _ _ el2,eum,Nat.le_of_lt (small1000 (by simp;omega)),fun pg hpg=>?_⟩
     exact hR2 _ _ ⟨pg,rfl,hWf.cat el2 hWm.sm hlu hpg⟩
    rintro σ' HB ⟨pr,rfl,hW⟩
    refine ⟨_,rfl,_,rfl,_,rfl,_,rfl,_,rfl,(by show 2<=sizeLine;decide),fun st hst=>?_⟩
    have ss:=same_upd (o:=.tup [.int 1,.int 12]) hst
    refine ⟨n,v,sg,lo,ad,st,1,12,rfl,upd_same,had,fun p lg td H' s' hp h1 h2 h3=>?_⟩
    refine ⟨p,_,rfl,SqT.of hp,rfl,_,_,rfl,_,_,rfl,_,_,rfl,rfl,?_⟩
    exact hR _ _ ⟨pr,lg,td,rfl,(hW.same ss).same s',h1,h2,h3⟩
   | false =>
    refine ⟨_,rfl,_,rfl,iteF ?_⟩
    refine cut_sq (fun σ' H'=>∃ pr,σ'=[some (.ref a),some (.ref px),some (.int lo),some (.int n),some (.int v),some (.str sg),some (.int ad),some (.bl false),some (.int ((m:Nat):Int)),some (.ref pr),none,none,none,none,none,none]/\RWA H9 H' pr (rows63 false n v sg lo ad)) (fun R2 hR2=>?_) ?_
    ·refine ⟨_,rfl,_,rfl,_,rfl,_,rfl,n,v,sg,rfl,iN,hv,fun pd HB hWd=>?_⟩
     obtain ⟨ms,emd,hlm,_⟩:=hWd.ex
     have hml:ms.length=6:=hlm.len
     refine ⟨pr,pd,_,_,rfl,rfl,hWd.sm _ _ el,emd,Nat.le_of_lt (small1000 (by simp;omega)),fun pf hpf=>?_⟩
     have hWf:=hW.cat el hWd.sm hlm hpf
     generalize hHC:upd HB pf _=HC at hWf ⊢
     obtain ⟨ls2,el2,hll2⟩:=hWf.ln
     have hl2:ls2.length=7:=hll2
     refine ⟨_,rfl,_,rfl,lo,ad,rfl,iL,had,fun pm HD hWm=>?_⟩
     obtain ⟨us,eum,hlu,_⟩:=hWm.ex
     have hul:us.length=11:=hlu.len
     refine ⟨pf,pm,_,_,rfl,rfl,hWm.sm _ _ el2,eum,Nat.le_of_lt (small1000 (by simp;omega)),fun pg hpg=>?_⟩
     exact hR2 _ _ ⟨pg,rfl,hWf.cat el2 hWm.sm hlu hpg⟩
    rintro σ' HB ⟨pr,rfl,hW⟩
    refine ⟨_,rfl,_,rfl,_,rfl,_,rfl,_,rfl,(by show 2<=sizeLine;decide),fun st hst=>?_⟩
    have ss:=same_upd (o:=.tup [.int 7,.int 1]) hst
    refine ⟨n,v,sg,lo,ad,st,7,1,rfl,upd_same,had,fun p lg td H' s' hp h1 h2 h3=>?_⟩
    refine ⟨p,_,rfl,SqT.of hp,rfl,_,_,rfl,_,_,rfl,_,_,rfl,rfl,?_⟩
    exact hR _ _ ⟨pr,lg,td,rfl,(hW.same ss).same s',h1,h2,h3⟩
  rintro σ' HB ⟨pr,lg,td,rfl,hW,hlg,htd,hlL⟩
  generalize hes:fullE (mAt ah) (dAt ah) v sg (dn (dAt ah) lo ad 6 n)=es at hlg htd hlL hsc hrun hfT
  generalize hrs:fullR (dn (dAt ah) lo ad 6 n)=res at hfo hrun ⊢
  generalize prog63 ah n v sg lo ad=ts at hrun hrd hpL
  generalize rows63 ah n v sg lo ad=rows at hW hrd hwsk hrl
  have hGE:=lgs_len es
  obtain ⟨wd,hwd⟩:∃ wd:Str,wd=if m<(lgs es).length then ("long":Str) else wdR res:=⟨_,rfl⟩
  refine cut_sq (fun σ' H'=>H'=HB/\σ'=[some (.ref a),some (.ref px),some (.int lo),some (.int n),some (.int v),some (.str sg),some (.int ad),some (.bl ah),some (.int ((m:Nat):Int)),some (.ref pr),some (.ref lg),some (.ref td),some (.str wd),none,none,none]) (fun R hR=>?_) ?_
  ·refine ⟨_,rfl,_,rfl,lg,_,rfl,.inl (SqL.of hlg),_,_,rfl,rfl,_,rfl,?_⟩
   rw [nV_len]
   by_cases hlt:m<(lgs es).length
   ·refine iteTb (decide_eq_true (by omega)) ?_
    refine hR _ _ ⟨rfl,?_⟩
    rw [hwd,if_pos hlt];rfl
   ·refine iteFb (decide_eq_false (by omega)) ?_
    refine hR _ _ ⟨rfl,?_⟩
    rw [hwd,if_neg hlt]
  rintro σ' HC ⟨rfl,rfl⟩
  have hap:=appE_fin m es ⟨[],[]⟩ (Nat.zero_le _)
  obtain ⟨S',hS'⟩:∃ S':RS,S'=⟨((idxT 0 es).filter fun p=>decide (p.1<=m)).map (·.2),(lgs es).take m⟩:=⟨_,rfl⟩
  have hap':appE m ⟨[],[]⟩ es=(S',decide (evG es<=m)):=by rw [hap,hS'];simp
  have hends:Ends m es res S' wd:=by
   by_cases hlt:m<(lgs es).length
   ·left
    refine ⟨by rw [hap',decide_eq_false (by omega)],by rw [hwd,if_pos hlt]⟩
   ·right
    refine ⟨by rw [hap',decide_eq_true (by omega)],?_⟩
    rcases hfo with e | e
    ·exact .inl ⟨e,by rw [hwd,if_neg hlt,e];rfl⟩
    ·exact .inr ⟨e,by rw [hwd,if_neg hlt,e];rfl⟩
  have htS:S'.told=((idxT 0 es).filter fun p=>decide (p.1<=m)).map (·.2):=by rw [hS']
  have hlS:S'.log=(lgs es).take m:=by rw [hS']
  have hscS:∀ u∈S'.told,ScV u:=fun u hu=>by
   rw [htS] at hu
   obtain ⟨p,hp,rfl⟩:=List.mem_map.mp hu
   exact hsc p (List.mem_filter.mp hp).1
  obtain ⟨ls,els,hls,_⟩:=hW.ex
  have hRows:RowsAt HC pr rows:=⟨ls,els,hls.len,fun j l r h1 h2=>⟨hls.at_ j l r h1 h2,(hwsk r (List.mem_of_getElem? h2)).1,Nat.le_trans (hwsk r (List.mem_of_getElem? h2)).2 (by decide)⟩⟩
  refine cut_sq (fun σ' H'=>Same HC H'/\∃ (pq ln:Addr),σ'=[some (.ref a),some (.ref px),some (.int lo),some (.int n),some (.int v),some (.str sg),some (.int ad),some (.bl ah),some (.int ((m:Nat):Int)),some (.ref pr),some (.ref lg),some (.ref td),some (.str wd),some (.str wd),some (.ref pq),some (.ref ln)]/\H' pq=some (.tup S'.told)/\H' ln=some (.lst (nV S'.log))) (fun R hR=>?_) ?_
  ·refine ⟨_,rfl,pr,rows,rfl,hRows,by omega,fun ds pt xs HD e1 sC _ hpt hrdv _=>?_,(fun ds S e hS=>by rw [hrd] at e;cases e;exact absurd rfl hS),fun i f e=>by rw [hrd] at e;cases e⟩
   rw [hrd] at e1
   cases e1
   have hL:LAt HD false xs ts:=(trs_of hrdv).kept (msk_in _ _).ls
   refine ⟨_,rfl,pt,m,20,xs,ts,es,ρ',res,S',wd,rfl,hpt,hL,?_,by omega,by decide,hrun,hends,fun p pq ln HE sD hp hq hln=>?_⟩
   ·rw [hL.length];omega
   refine ⟨p,_,rfl,SqT.of hp,rfl,_,_,rfl,_,_,rfl,_,_,rfl,rfl,?_⟩
   exact hR _ _ ⟨sC.trans sD,pq,ln,rfl,hq,hln⟩
  rintro σ' HD ⟨sB,pq,ln,rfl,hpq,hln⟩
  have hlgB:=sB _ _ hlg
  have htdB:=htd.same sB
  refine cut_if (fun σ' H'=>Same HD H'/\σ'=[some (.ref a),some (.ref px),some (.int lo),some (.int n),some (.int v),some (.str sg),some (.int ad),some (.bl ah),some (.int ((m:Nat):Int)),some (.ref pr),some (.ref lg),some (.ref td),some (.str wd),some (.str wd),some (.ref pq),some (.ref ln)]) (fun R hR=>?_) ?_
  ·refine ⟨_,rfl,_,rfl,rfl,_,rfl,iteFb (by rw [decide_eq_true rfl];rfl) ?_⟩
   refine ⟨_,rfl,_,rfl,_,rfl,_,rfl,lg,_,rfl,SqL.of hlgB,fun pf hpf=>?_⟩
   have e5:cutV (nV (lgs es)) none (some ((m:Nat):Int))=nV ((lgs es).take m):=by rw [cut_m];unfold nV;rw [List.map_take]
   have s7:=same_upd (o:=.lst (cutV (nV (lgs es)) none (some ((m:Nat):Int)))) hpf
   have hl7:=s7 _ _ hln
   rw [hlS] at hl7
   have hf7:_=some (HO.lst (nV ((lgs es).take m))):=(upd_same (H:=HD) (a:=pf) (o:=.lst (cutV (nV (lgs es)) none (some ((m:Nat):Int))))).trans (by rw [e5])
   refine ⟨_,_,.lst (SqL.of hl7) (rdv_nats _),.lst (SqL.of hf7) (rdv_nats _),(shd_nats _).ok (by decide),(shd_nats _).ok (by decide),_,rfl,?_⟩
   rw [(shd_nats _).refl]
   refine iteF ?_
   refine ⟨_,rfl,.ref pq,_,true,rfl,.tup (s7 _ _ hpq),by rfl,true,rfl,iteF ?_⟩
   exact hR _ _ ⟨s7,rfl⟩
  rintro σ' HG ⟨sG,rfl⟩
  have hpG:=sG _ _ hpq
  obtain ⟨tt,et1,et2,et3⟩:=htdB.same sG
  refine ⟨_,rfl,pq,_,rfl,.inr (SqT.of hpG),fun pl2 hpl2=>?_⟩
  have sL:=same_upd (o:=.lst S'.told) hpl2
  have hpl:upd HG pl2 (.lst S'.told) pl2=some (.lst S'.told):=upd_same
  have et1':=sL _ _ et1
  generalize upd HG pl2 (.lst S'.told)=HH at sL hpl et1' ⊢
  refine ⟨_,rfl,td,rfl,⟨_,SqL.of et1'⟩,?_⟩
  have hil:(idxT 0 es).length<=900:=by rw [idxT_len];omega
  refine comp2_list (K:=K) (a:=td) (xs:=tt.map V.ref) (fun i ys H'=>H'=HH/\i<=tt.length/\ys=(((idxT 0 es).take i).filter (fun p=>decide (p.1<=m))).map (·.2)) ⟨rfl,Nat.zero_le _,by simp⟩ (fun i ys H' _ h=>by rw [h.1];exact SqL.of et1') ?_ ?_
  ·rintro i x us H3 hx ⟨rfl,hi,rfl⟩
   have hilt:i<tt.length:=by have:=(List.getElem?_eq_some_iff.mp hx).1;simpa using this
   have hik:i<(idxT 0 es).length:=by omega
   have ex:x=.ref tt[i]:=by rw [List.getElem?_map,List.getElem?_eq_getElem hilt] at hx;exact (Option.some.inj hx).symm
   subst ex
   have ht3:=sL _ _ (et3 i tt[i] _ (List.getElem?_eq_getElem hilt) (List.getElem?_eq_getElem hik))
   intro os hos
   obtain ⟨o1,o2,rfl⟩:∃ a b,os=[a,b]:=by
    match os,hos with
    | [a,b],_=>exact ⟨a,b,rfl⟩
   refine ⟨tt[i],_,rfl,SqT.of ht3,rfl,_,_,rfl,_,_,rfl,rfl,⟨[_,_],rfl,rfl⟩,?_⟩
   refine ⟨_,rfl,_,rfl,_,_,rfl,rfl,_,rfl,?_⟩
   rw [List.take_succ_eq_append_getElem hik,List.filter_append,List.map_append]
   have hfl:((((idxT 0 es).take i).filter (fun p=>decide (p.1<=m))).map (·.2)).length<=i:=by
    rw [List.length_map]
    exact Nat.le_trans (List.length_filter_le _ _) (by rw [List.length_take];omega)
   by_cases hc:((idxT 0 es)[i]).1<=m
   ·refine iteTb (decide_eq_true (by omega)) ?_
    refine ⟨_,rfl,small1000 (by omega),rfl,hilt,?_⟩
    rw [List.filter_cons_of_pos (by simpa using hc)]
    simp
   ·refine iteFb (decide_eq_false (by omega)) ?_
    refine ⟨rfl,hilt,?_⟩
    rw [List.filter_cons_of_neg (by simpa using hc)]
    simp
  ·rintro us H3 ⟨rfl,_,rfl⟩ pz hpz
   rw [List.length_map,et2,List.take_length,<- htS]
   have sz:=same_upd (o:=.lst S'.told) hpz
   refine ⟨_,_,.lst (SqL.of (sz _ _ hpl)) (rdv_sc _ hscS),.lst (SqL.of upd_same) (rdv_sc _ hscS),(shd_sc hscS).ok (by decide),(shd_sc hscS).ok (by decide),?_⟩
   rw [(shd_sc hscS).refl]
   exact kq _
end
theorem all_mk {l:PySem.W.OpenLaw} {w:World} {K:PySem.W.Frag} {h:Heap} {mg:Str->Option Value} {fa f_ZM f_ZN f_ZD f_ZG f_ZE f_Zy f_Zr f_Zp f_ZH f_ZQ f_ZR f_ZO f_ZI f_Zz f_Zs f_ZJ f_ZA f_ZF f_Zt f_ZB f_ZK f_ZL f_ZP f_Zu f_Zq f_Zv f_Zj f_Za f_Zk f_Zc f_Zd f_Zb f_Zl f_Ze f_Zf f_ZC f_Zn f_Zg f_Zm f_Zo f_Zh f_Zi f_Zw f_Zx f_law c_Phrase c_Block c_PlainRun x_MakesError x_NoForm x_RunEnd q_LANGUAGE_WORDS q_OPERATORS q_PLAIN_KINDS:Addr} (X:K.In h) (G:h.Ns mainGlobals mg) (hfa:mg "law"=some (.ref fa))
  {od_ZM an_ZM od_ZN an_ZN od_ZD an_ZD od_ZG an_ZG od_ZE an_ZE od_Zy an_Zy od_Zr an_Zr od_Zp an_Zp od_ZH an_ZH od_ZQ an_ZQ od_ZR an_ZR od_ZO an_ZO od_ZI an_ZI od_Zz an_Zz od_Zs an_Zs od_ZJ an_ZJ od_ZA an_ZA od_ZF an_ZF od_Zt an_Zt od_ZB an_ZB od_ZK an_ZK od_ZL an_ZL od_ZP an_ZP od_Zu an_Zu od_Zq an_Zq od_Zv an_Zv od_Zj an_Zj od_Za an_Za od_Zk an_Zk od_Zc an_Zc od_Zd an_Zd od_Zb an_Zb od_Zl an_Zl od_Ze an_Ze od_Zf an_Zf od_ZC an_ZC od_Zn an_Zn od_Zg an_Zg od_Zm an_Zm od_Zo an_Zo od_Zh an_Zh od_Zi an_Zi od_Zw an_Zw od_Zx an_Zx od_law an_law:Option Addr} {sl_ZM sl_ZN sl_ZD sl_ZG sl_ZE sl_Zy sl_Zr sl_Zp sl_ZH sl_ZQ sl_ZR sl_ZO sl_ZI sl_Zz sl_Zs sl_ZJ sl_ZA sl_ZF sl_Zt sl_ZB sl_ZK sl_ZL sl_ZP sl_Zu sl_Zq sl_Zv sl_Zj sl_Za sl_Zk sl_Zc sl_Zd sl_Zb sl_Zl sl_Ze sl_Zf sl_ZC sl_Zn sl_Zg sl_Zm sl_Zo sl_Zh sl_Zi sl_Zw sl_Zx sl_law:Array (Option Value)} {oc_ZM kV_ZM dc_ZM pm_ZM cd_ZM ct_ZM oc_ZN kV_ZN dc_ZN pm_ZN cd_ZN ct_ZN oc_ZD kV_ZD dc_ZD pm_ZD cd_ZD ct_ZD oc_ZG kV_ZG dc_ZG pm_ZG cd_ZG ct_ZG oc_ZE kV_ZE dc_ZE pm_ZE cd_ZE ct_ZE oc_Zy kV_Zy dc_Zy pm_Zy cd_Zy ct_Zy oc_Zr kV_Zr dc_Zr pm_Zr cd_Zr ct_Zr oc_Zp kV_Zp dc_Zp pm_Zp cd_Zp ct_Zp oc_ZH kV_ZH dc_ZH pm_ZH cd_ZH ct_ZH oc_ZQ kV_ZQ dc_ZQ pm_ZQ cd_ZQ ct_ZQ oc_ZR kV_ZR dc_ZR pm_ZR cd_ZR ct_ZR oc_ZO kV_ZO dc_ZO pm_ZO cd_ZO ct_ZO oc_ZI kV_ZI dc_ZI pm_ZI cd_ZI ct_ZI oc_Zz kV_Zz dc_Zz pm_Zz cd_Zz ct_Zz oc_Zs kV_Zs dc_Zs pm_Zs cd_Zs ct_Zs oc_ZJ kV_ZJ dc_ZJ pm_ZJ cd_ZJ ct_ZJ oc_ZA kV_ZA dc_ZA pm_ZA cd_ZA ct_ZA oc_ZF kV_ZF dc_ZF pm_ZF cd_ZF ct_ZF oc_Zt kV_Zt dc_Zt pm_Zt cd_Zt ct_Zt oc_ZB kV_ZB dc_ZB pm_ZB cd_ZB ct_ZB oc_ZK kV_ZK dc_ZK pm_ZK cd_ZK ct_ZK oc_ZL kV_ZL dc_ZL pm_ZL cd_ZL ct_ZL oc_ZP kV_ZP dc_ZP pm_ZP cd_ZP ct_ZP oc_Zu kV_Zu dc_Zu pm_Zu cd_Zu ct_Zu oc_Zq kV_Zq dc_Zq pm_Zq cd_Zq ct_Zq oc_Zv kV_Zv dc_Zv pm_Zv cd_Zv ct_Zv oc_Zj kV_Zj dc_Zj pm_Zj cd_Zj ct_Zj oc_Za kV_Za dc_Za pm_Za cd_Za ct_Za oc_Zk kV_Zk dc_Zk pm_Zk cd_Zk ct_Zk oc_Zc kV_Zc dc_Zc pm_Zc cd_Zc ct_Zc oc_Zd kV_Zd dc_Zd pm_Zd cd_Zd ct_Zd oc_Zb kV_Zb dc_Zb pm_Zb cd_Zb ct_Zb oc_Zl kV_Zl dc_Zl pm_Zl cd_Zl ct_Zl oc_Ze kV_Ze dc_Ze pm_Ze cd_Ze ct_Ze oc_Zf kV_Zf dc_Zf pm_Zf cd_Zf ct_Zf oc_ZC kV_ZC dc_ZC pm_ZC cd_ZC ct_ZC oc_Zn kV_Zn dc_Zn pm_Zn cd_Zn ct_Zn oc_Zg kV_Zg dc_Zg pm_Zg cd_Zg ct_Zg oc_Zm kV_Zm dc_Zm pm_Zm cd_Zm ct_Zm oc_Zo kV_Zo dc_Zo pm_Zo cd_Zo ct_Zo oc_Zh kV_Zh dc_Zh pm_Zh cd_Zh ct_Zh oc_Zi kV_Zi dc_Zi pm_Zi cd_Zi ct_Zi oc_Zw kV_Zw dc_Zw pm_Zw cd_Zw ct_Zw oc_Zx kV_Zx dc_Zx pm_Zx cd_Zx ct_Zx oc_law kV_law dc_law pm_law cd_law ct_law:Value}
  {t_SMALL_LETTERS t_FIGURES t_LONGEST_NAME t_LONGEST_NUMBER t_DEEPEST_EXPR t_MOST_BLOCKS t_ROUND t_MOST_RUNNINGS:Tok}
  {t_LANGUAGE_WORDS_0 t_LANGUAGE_WORDS_1 t_LANGUAGE_WORDS_2 t_LANGUAGE_WORDS_3 t_LANGUAGE_WORDS_4 t_LANGUAGE_WORDS_5 t_LANGUAGE_WORDS_6 t_LANGUAGE_WORDS_7 t_LANGUAGE_WORDS_8 t_LANGUAGE_WORDS_9 t_LANGUAGE_WORDS_10 t_LANGUAGE_WORDS_11 t_LANGUAGE_WORDS_12 t_LANGUAGE_WORDS_13 t_LANGUAGE_WORDS_14 t_LANGUAGE_WORDS_15 t_LANGUAGE_WORDS_16 t_LANGUAGE_WORDS_17 t_LANGUAGE_WORDS_18 t_LANGUAGE_WORDS_19 t_LANGUAGE_WORDS_20 t_LANGUAGE_WORDS_21 t_LANGUAGE_WORDS_22 t_LANGUAGE_WORDS_23 t_LANGUAGE_WORDS_24:Tok} {od_LANGUAGE_WORDS:Option Addr} {n_LANGUAGE_WORDS:Nat} {sl_LANGUAGE_WORDS:Array (Option Value)}
  {t_OPERATORS_0 t_OPERATORS_1 t_OPERATORS_2 t_OPERATORS_3 t_OPERATORS_4 t_OPERATORS_5 t_OPERATORS_6:Tok} {od_OPERATORS:Option Addr} {n_OPERATORS:Nat} {sl_OPERATORS:Array (Option Value)}
  {t_PLAIN_KINDS_0 t_PLAIN_KINDS_1:Tok} {od_PLAIN_KINDS:Option Addr} {n_PLAIN_KINDS:Nat} {sl_PLAIN_KINDS:Array (Option Value)}
  (aC_Phrase:PySem.W.nsIn K mainGlobals "Phrase"=some (some (.ref c_Phrase)))
  (aC_Block:PySem.W.nsIn K mainGlobals "Block"=some (some (.ref c_Block)))
  (aC_PlainRun:PySem.W.nsIn K mainGlobals "PlainRun"=some (some (.ref c_PlainRun)))
  (a_ZM:PySem.W.nsIn K mainGlobals "made_of"=some (some (.ref f_ZM)))
  (l_ZM:K.lookup f_ZM=some ⟨oc_ZM,od_ZM,.func (PySem.W.fnOf "made_of" "made_of" (defArgs st_ZM) (defBody st_ZM) (defScope st_ZM) .none kV_ZM dc_ZM pm_ZM an_ZM cd_ZM ct_ZM),sl_ZM⟩)
  (c_ZM':PySem.W.codeIn K cd_ZM "made_of"=true)
  (k_ZM:PySem.W.keepIn K (.ref f_ZM)=true)
  (a_ZN:PySem.W.nsIn K mainGlobals "is_name"=some (some (.ref f_ZN)))
  (l_ZN:K.lookup f_ZN=some ⟨oc_ZN,od_ZN,.func (PySem.W.fnOf "is_name" "is_name" (defArgs st_ZN) (defBody st_ZN) (defScope st_ZN) .none kV_ZN dc_ZN pm_ZN an_ZN cd_ZN ct_ZN),sl_ZN⟩)
  (c_ZN':PySem.W.codeIn K cd_ZN "is_name"=true)
  (k_ZN:PySem.W.keepIn K (.ref f_ZN)=true)
  (a_ZD:PySem.W.nsIn K mainGlobals "is_number"=some (some (.ref f_ZD)))
  (l_ZD:K.lookup f_ZD=some ⟨oc_ZD,od_ZD,.func (PySem.W.fnOf "is_number" "is_number" (defArgs st_ZD) (defBody st_ZD) (defScope st_ZD) .none kV_ZD dc_ZD pm_ZD an_ZD cd_ZD ct_ZD),sl_ZD⟩)
  (c_ZD':PySem.W.codeIn K cd_ZD "is_number"=true)
  (k_ZD:PySem.W.keepIn K (.ref f_ZD)=true)
  (a_ZG:PySem.W.nsIn K mainGlobals "read_row"=some (some (.ref f_ZG)))
  (l_ZG:K.lookup f_ZG=some ⟨oc_ZG,od_ZG,.func (PySem.W.fnOf "read_row" "read_row" (defArgs st_ZG) (defBody st_ZG) (defScope st_ZG) .none kV_ZG dc_ZG pm_ZG an_ZG cd_ZG ct_ZG),sl_ZG⟩)
  (c_ZG':PySem.W.codeIn K cd_ZG "read_row"=true)
  (k_ZG:PySem.W.keepIn K (.ref f_ZG)=true)
  (a_ZE:PySem.W.nsIn K mainGlobals "read_head"=some (some (.ref f_ZE)))
  (l_ZE:K.lookup f_ZE=some ⟨oc_ZE,od_ZE,.func (PySem.W.fnOf "read_head" "read_head" (defArgs st_ZE) (defBody st_ZE) (defScope st_ZE) .none kV_ZE dc_ZE pm_ZE an_ZE cd_ZE ct_ZE),sl_ZE⟩)
  (c_ZE':PySem.W.codeIn K cd_ZE "read_head"=true)
  (k_ZE:PySem.W.keepIn K (.ref f_ZE)=true)
  (a_Zy:PySem.W.nsIn K mainGlobals "read_plain"=some (some (.ref f_Zy)))
  (l_Zy:K.lookup f_Zy=some ⟨oc_Zy,od_Zy,.func (PySem.W.fnOf "read_plain" "read_plain" (defArgs st_Zy) (defBody st_Zy) (defScope st_Zy) .none kV_Zy dc_Zy pm_Zy an_Zy cd_Zy ct_Zy),sl_Zy⟩)
  (c_Zy':PySem.W.codeIn K cd_Zy "read_plain"=true)
  (k_Zy:PySem.W.keepIn K (.ref f_Zy)=true)
  (a_Zr:PySem.W.nsIn K mainGlobals "place_fault"=some (some (.ref f_Zr)))
  (l_Zr:K.lookup f_Zr=some ⟨oc_Zr,od_Zr,.func (PySem.W.fnOf "place_fault" "place_fault" (defArgs st_Zr) (defBody st_Zr) (defScope st_Zr) .none kV_Zr dc_Zr pm_Zr an_Zr cd_Zr ct_Zr),sl_Zr⟩)
  (c_Zr':PySem.W.codeIn K cd_Zr "place_fault"=true)
  (k_Zr:PySem.W.keepIn K (.ref f_Zr)=true)
  (a_Zp:PySem.W.nsIn K mainGlobals "is_misplaced"=some (some (.ref f_Zp)))
  (l_Zp:K.lookup f_Zp=some ⟨oc_Zp,od_Zp,.func (PySem.W.fnOf "is_misplaced" "is_misplaced" (defArgs st_Zp) (defBody st_Zp) (defScope st_Zp) .none kV_Zp dc_Zp pm_Zp an_Zp cd_Zp ct_Zp),sl_Zp⟩)
  (c_Zp':PySem.W.codeIn K cd_Zp "is_misplaced"=true)
  (k_Zp:PySem.W.keepIn K (.ref f_Zp)=true)
  (a_ZH:PySem.W.nsIn K mainGlobals "is_stray"=some (some (.ref f_ZH)))
  (l_ZH:K.lookup f_ZH=some ⟨oc_ZH,od_ZH,.func (PySem.W.fnOf "is_stray" "is_stray" (defArgs st_ZH) (defBody st_ZH) (defScope st_ZH) .none kV_ZH dc_ZH pm_ZH an_ZH cd_ZH ct_ZH),sl_ZH⟩)
  (c_ZH':PySem.W.codeIn K cd_ZH "is_stray"=true)
  (k_ZH:PySem.W.keepIn K (.ref f_ZH)=true)
  (a_ZQ:PySem.W.nsIn K mainGlobals "put_in"=some (some (.ref f_ZQ)))
  (l_ZQ:K.lookup f_ZQ=some ⟨oc_ZQ,od_ZQ,.func (PySem.W.fnOf "put_in" "put_in" (defArgs st_ZQ) (defBody st_ZQ) (defScope st_ZQ) .none kV_ZQ dc_ZQ pm_ZQ an_ZQ cd_ZQ ct_ZQ),sl_ZQ⟩)
  (c_ZQ':PySem.W.codeIn K cd_ZQ "put_in"=true)
  (k_ZQ:PySem.W.keepIn K (.ref f_ZQ)=true)
  (a_ZR:PySem.W.nsIn K mainGlobals "begun"=some (some (.ref f_ZR)))
  (l_ZR:K.lookup f_ZR=some ⟨oc_ZR,od_ZR,.func (PySem.W.fnOf "begun" "begun" (defArgs st_ZR) (defBody st_ZR) (defScope st_ZR) .none kV_ZR dc_ZR pm_ZR an_ZR cd_ZR ct_ZR),sl_ZR⟩)
  (c_ZR':PySem.W.codeIn K cd_ZR "begun"=true)
  (k_ZR:PySem.W.keepIn K (.ref f_ZR)=true)
  (a_ZO:PySem.W.nsIn K mainGlobals "expr_of"=some (some (.ref f_ZO)))
  (l_ZO:K.lookup f_ZO=some ⟨oc_ZO,od_ZO,.func (PySem.W.fnOf "expr_of" "expr_of" (defArgs st_ZO) (defBody st_ZO) (defScope st_ZO) .none kV_ZO dc_ZO pm_ZO an_ZO cd_ZO ct_ZO),sl_ZO⟩)
  (c_ZO':PySem.W.codeIn K cd_ZO "expr_of"=true)
  (k_ZO:PySem.W.keepIn K (.ref f_ZO)=true)
  (a_ZI:PySem.W.nsIn K mainGlobals "exprs_in"=some (some (.ref f_ZI)))
  (l_ZI:K.lookup f_ZI=some ⟨oc_ZI,od_ZI,.func (PySem.W.fnOf "exprs_in" "exprs_in" (defArgs st_ZI) (defBody st_ZI) (defScope st_ZI) .none kV_ZI dc_ZI pm_ZI an_ZI cd_ZI ct_ZI),sl_ZI⟩)
  (c_ZI':PySem.W.codeIn K cd_ZI "exprs_in"=true)
  (k_ZI:PySem.W.keepIn K (.ref f_ZI)=true)
  (a_Zz:PySem.W.nsIn K mainGlobals "first_ones"=some (some (.ref f_Zz)))
  (l_Zz:K.lookup f_Zz=some ⟨oc_Zz,od_Zz,.func (PySem.W.fnOf "first_ones" "first_ones" (defArgs st_Zz) (defBody st_Zz) (defScope st_Zz) .none kV_Zz dc_Zz pm_Zz an_Zz cd_Zz ct_Zz),sl_Zz⟩)
  (c_Zz':PySem.W.codeIn K cd_Zz "first_ones"=true)
  (k_Zz:PySem.W.keepIn K (.ref f_Zz)=true)
  (a_Zs:PySem.W.nsIn K mainGlobals "field_value"=some (some (.ref f_Zs)))
  (l_Zs:K.lookup f_Zs=some ⟨oc_Zs,od_Zs,.func (PySem.W.fnOf "field_value" "field_value" (defArgs st_Zs) (defBody st_Zs) (defScope st_Zs) .none kV_Zs dc_Zs pm_Zs an_Zs cd_Zs ct_Zs),sl_Zs⟩)
  (c_Zs':PySem.W.codeIn K cd_Zs "field_value"=true)
  (k_Zs:PySem.W.keepIn K (.ref f_Zs)=true)
  (a_ZJ:PySem.W.nsIn K mainGlobals "reckoned"=some (some (.ref f_ZJ)))
  (l_ZJ:K.lookup f_ZJ=some ⟨oc_ZJ,od_ZJ,.func (PySem.W.fnOf "reckoned" "reckoned" (defArgs st_ZJ) (defBody st_ZJ) (defScope st_ZJ) .none kV_ZJ dc_ZJ pm_ZJ an_ZJ cd_ZJ ct_ZJ),sl_ZJ⟩)
  (c_ZJ':PySem.W.codeIn K cd_ZJ "reckoned"=true)
  (k_ZJ:PySem.W.keepIn K (.ref f_ZJ)=true)
  (a_ZA:PySem.W.nsIn K mainGlobals "truth_text"=some (some (.ref f_ZA)))
  (l_ZA:K.lookup f_ZA=some ⟨oc_ZA,od_ZA,.func (PySem.W.fnOf "truth_text" "truth_text" (defArgs st_ZA) (defBody st_ZA) (defScope st_ZA) .none kV_ZA dc_ZA pm_ZA an_ZA cd_ZA ct_ZA),sl_ZA⟩)
  (c_ZA':PySem.W.codeIn K cd_ZA "truth_text"=true)
  (k_ZA:PySem.W.keepIn K (.ref f_ZA)=true)
  (a_ZF:PySem.W.nsIn K mainGlobals "run_plain"=some (some (.ref f_ZF)))
  (l_ZF:K.lookup f_ZF=some ⟨oc_ZF,od_ZF,.func (PySem.W.fnOf "run_plain" "run_plain" (defArgs st_ZF) (defBody st_ZF) (defScope st_ZF) .none kV_ZF dc_ZF pm_ZF an_ZF cd_ZF ct_ZF),sl_ZF⟩)
  (c_ZF':PySem.W.codeIn K cd_ZF "run_plain"=true)
  (k_ZF:PySem.W.keepIn K (.ref f_ZF)=true)
  (a_Zt:PySem.W.nsIn K mainGlobals "_law_cell_at"=some (some (.ref f_Zt)))
  (l_Zt:K.lookup f_Zt=some ⟨oc_Zt,od_Zt,.func (PySem.W.fnOf "_law_cell_at" "_law_cell_at" (defArgs st_Zt) (defBody st_Zt) (defScope st_Zt) .none kV_Zt dc_Zt pm_Zt an_Zt cd_Zt ct_Zt),sl_Zt⟩)
  (c_Zt':PySem.W.codeIn K cd_Zt "_law_cell_at"=true)
  (k_Zt:PySem.W.keepIn K (.ref f_Zt)=true)
  (a_ZB:PySem.W.nsIn K mainGlobals "_law_stream"=some (some (.ref f_ZB)))
  (l_ZB:K.lookup f_ZB=some ⟨oc_ZB,od_ZB,.func (PySem.W.fnOf "_law_stream" "_law_stream" (defArgs st_ZB) (defBody st_ZB) (defScope st_ZB) .none kV_ZB dc_ZB pm_ZB an_ZB cd_ZB ct_ZB),sl_ZB⟩)
  (c_ZB':PySem.W.codeIn K cd_ZB "_law_stream"=true)
  (k_ZB:PySem.W.keepIn K (.ref f_ZB)=true)
  (a_ZK:PySem.W.nsIn K mainGlobals "_law_defs"=some (some (.ref f_ZK)))
  (l_ZK:K.lookup f_ZK=some ⟨oc_ZK,od_ZK,.func (PySem.W.fnOf "_law_defs" "_law_defs" (defArgs st_ZK) (defBody st_ZK) (defScope st_ZK) .none kV_ZK dc_ZK pm_ZK an_ZK cd_ZK ct_ZK),sl_ZK⟩)
  (c_ZK':PySem.W.codeIn K cd_ZK "_law_defs"=true)
  (k_ZK:PySem.W.keepIn K (.ref f_ZK)=true)
  (a_ZL:PySem.W.nsIn K mainGlobals "_law_main"=some (some (.ref f_ZL)))
  (l_ZL:K.lookup f_ZL=some ⟨oc_ZL,od_ZL,.func (PySem.W.fnOf "_law_main" "_law_main" (defArgs st_ZL) (defBody st_ZL) (defScope st_ZL) .none kV_ZL dc_ZL pm_ZL an_ZL cd_ZL ct_ZL),sl_ZL⟩)
  (c_ZL':PySem.W.codeIn K cd_ZL "_law_main"=true)
  (k_ZL:PySem.W.keepIn K (.ref f_ZL)=true)
  (a_ZP:PySem.W.nsIn K mainGlobals "_law_run"=some (some (.ref f_ZP)))
  (l_ZP:K.lookup f_ZP=some ⟨oc_ZP,od_ZP,.func (PySem.W.fnOf "_law_run" "_law_run" (defArgs st_ZP) (defBody st_ZP) (defScope st_ZP) .none kV_ZP dc_ZP pm_ZP an_ZP cd_ZP ct_ZP),sl_ZP⟩)
  (c_ZP':PySem.W.codeIn K cd_ZP "_law_run"=true)
  (k_ZP:PySem.W.keepIn K (.ref f_ZP)=true)
  (a_Zu:PySem.W.findIn K (.ref c_Phrase) "__init__"=some (some (.ref f_Zu)))
  (i_Zu:PySem.W.isFn K (.ref f_Zu)=true)
  (l_Zu:K.lookup f_Zu=some ⟨oc_Zu,od_Zu,.func (PySem.W.fnOf "__init__" "Phrase.__init__" (defArgs st_Zu) (defBody st_Zu) (defScope st_Zu) .none kV_Zu dc_Zu pm_Zu an_Zu cd_Zu ct_Zu),sl_Zu⟩)
  (c_Zu':PySem.W.codeIn K cd_Zu "Phrase.__init__"=true)
  (k_Zu:PySem.W.keepIn K (.ref f_Zu)=true)
  (a_Zq:PySem.W.findIn K (.ref c_Phrase) "ended"=some (some (.ref f_Zq)))
  (i_Zq:PySem.W.isFn K (.ref f_Zq)=true)
  (l_Zq:K.lookup f_Zq=some ⟨oc_Zq,od_Zq,.func (PySem.W.fnOf "ended" "Phrase.ended" (defArgs st_Zq) (defBody st_Zq) (defScope st_Zq) .none kV_Zq dc_Zq pm_Zq an_Zq cd_Zq ct_Zq),sl_Zq⟩)
  (c_Zq':PySem.W.codeIn K cd_Zq "Phrase.ended"=true)
  (k_Zq:PySem.W.keepIn K (.ref f_Zq)=true)
  (a_Zv:PySem.W.findIn K (.ref c_Phrase) "take"=some (some (.ref f_Zv)))
  (i_Zv:PySem.W.isFn K (.ref f_Zv)=true)
  (l_Zv:K.lookup f_Zv=some ⟨oc_Zv,od_Zv,.func (PySem.W.fnOf "take" "Phrase.take" (defArgs st_Zv) (defBody st_Zv) (defScope st_Zv) .none kV_Zv dc_Zv pm_Zv an_Zv cd_Zv ct_Zv),sl_Zv⟩)
  (c_Zv':PySem.W.codeIn K cd_Zv "Phrase.take"=true)
  (k_Zv:PySem.W.keepIn K (.ref f_Zv)=true)
  (a_Zj:PySem.W.findIn K (.ref c_Phrase) "take_name"=some (some (.ref f_Zj)))
  (i_Zj:PySem.W.isFn K (.ref f_Zj)=true)
  (l_Zj:K.lookup f_Zj=some ⟨oc_Zj,od_Zj,.func (PySem.W.fnOf "take_name" "Phrase.take_name" (defArgs st_Zj) (defBody st_Zj) (defScope st_Zj) .none kV_Zj dc_Zj pm_Zj an_Zj cd_Zj ct_Zj),sl_Zj⟩)
  (c_Zj':PySem.W.codeIn K cd_Zj "Phrase.take_name"=true)
  (k_Zj:PySem.W.keepIn K (.ref f_Zj)=true)
  (a_Za:PySem.W.findIn K (.ref c_Phrase) "take_plain_kind"=some (some (.ref f_Za)))
  (i_Za:PySem.W.isFn K (.ref f_Za)=true)
  (l_Za:K.lookup f_Za=some ⟨oc_Za,od_Za,.func (PySem.W.fnOf "take_plain_kind" "Phrase.take_plain_kind" (defArgs st_Za) (defBody st_Za) (defScope st_Za) .none kV_Za dc_Za pm_Za an_Za cd_Za ct_Za),sl_Za⟩)
  (c_Za':PySem.W.codeIn K cd_Za "Phrase.take_plain_kind"=true)
  (k_Za:PySem.W.keepIn K (.ref f_Za)=true)
  (a_Zk:PySem.W.findIn K (.ref c_Phrase) "take_kind"=some (some (.ref f_Zk)))
  (i_Zk:PySem.W.isFn K (.ref f_Zk)=true)
  (l_Zk:K.lookup f_Zk=some ⟨oc_Zk,od_Zk,.func (PySem.W.fnOf "take_kind" "Phrase.take_kind" (defArgs st_Zk) (defBody st_Zk) (defScope st_Zk) .none kV_Zk dc_Zk pm_Zk an_Zk cd_Zk ct_Zk),sl_Zk⟩)
  (c_Zk':PySem.W.codeIn K cd_Zk "Phrase.take_kind"=true)
  (k_Zk:PySem.W.keepIn K (.ref f_Zk)=true)
  (a_Zc:PySem.W.findIn K (.ref c_Phrase) "take_fields"=some (some (.ref f_Zc)))
  (i_Zc:PySem.W.isFn K (.ref f_Zc)=true)
  (l_Zc:K.lookup f_Zc=some ⟨oc_Zc,od_Zc,.func (PySem.W.fnOf "take_fields" "Phrase.take_fields" (defArgs st_Zc) (defBody st_Zc) (defScope st_Zc) .none kV_Zc dc_Zc pm_Zc an_Zc cd_Zc ct_Zc),sl_Zc⟩)
  (c_Zc':PySem.W.codeIn K cd_Zc "Phrase.take_fields"=true)
  (k_Zc:PySem.W.keepIn K (.ref f_Zc)=true)
  (a_Zd:PySem.W.findIn K (.ref c_Phrase) "take_params"=some (some (.ref f_Zd)))
  (i_Zd:PySem.W.isFn K (.ref f_Zd)=true)
  (l_Zd:K.lookup f_Zd=some ⟨oc_Zd,od_Zd,.func (PySem.W.fnOf "take_params" "Phrase.take_params" (defArgs st_Zd) (defBody st_Zd) (defScope st_Zd) .none kV_Zd dc_Zd pm_Zd an_Zd cd_Zd ct_Zd),sl_Zd⟩)
  (c_Zd':PySem.W.codeIn K cd_Zd "Phrase.take_params"=true)
  (k_Zd:PySem.W.keepIn K (.ref f_Zd)=true)
  (a_Zb:PySem.W.findIn K (.ref c_Phrase) "unlike_names"=some (some (.ref f_Zb)))
  (i_Zb:PySem.W.isFn K (.ref f_Zb)=true)
  (l_Zb:K.lookup f_Zb=some ⟨oc_Zb,od_Zb,.func (PySem.W.fnOf "unlike_names" "Phrase.unlike_names" (defArgs st_Zb) (defBody st_Zb) (defScope st_Zb) .none kV_Zb dc_Zb pm_Zb an_Zb cd_Zb ct_Zb),sl_Zb⟩)
  (c_Zb':PySem.W.codeIn K cd_Zb "Phrase.unlike_names"=true)
  (k_Zb:PySem.W.keepIn K (.ref f_Zb)=true)
  (a_Zl:PySem.W.findIn K (.ref c_Phrase) "take_expr"=some (some (.ref f_Zl)))
  (i_Zl:PySem.W.isFn K (.ref f_Zl)=true)
  (l_Zl:K.lookup f_Zl=some ⟨oc_Zl,od_Zl,.func (PySem.W.fnOf "take_expr" "Phrase.take_expr" (defArgs st_Zl) (defBody st_Zl) (defScope st_Zl) .none kV_Zl dc_Zl pm_Zl an_Zl cd_Zl ct_Zl),sl_Zl⟩)
  (c_Zl':PySem.W.codeIn K cd_Zl "Phrase.take_expr"=true)
  (k_Zl:PySem.W.keepIn K (.ref f_Zl)=true)
  (a_Ze:PySem.W.findIn K (.ref c_Phrase) "take_named"=some (some (.ref f_Ze)))
  (i_Ze:PySem.W.isFn K (.ref f_Ze)=true)
  (l_Ze:K.lookup f_Ze=some ⟨oc_Ze,od_Ze,.func (PySem.W.fnOf "take_named" "Phrase.take_named" (defArgs st_Ze) (defBody st_Ze) (defScope st_Ze) .none kV_Ze dc_Ze pm_Ze an_Ze cd_Ze ct_Ze),sl_Ze⟩)
  (c_Ze':PySem.W.codeIn K cd_Ze "Phrase.take_named"=true)
  (k_Ze:PySem.W.keepIn K (.ref f_Ze)=true)
  (a_Zf:PySem.W.findIn K (.ref c_Phrase) "take_exprs"=some (some (.ref f_Zf)))
  (i_Zf:PySem.W.isFn K (.ref f_Zf)=true)
  (l_Zf:K.lookup f_Zf=some ⟨oc_Zf,od_Zf,.func (PySem.W.fnOf "take_exprs" "Phrase.take_exprs" (defArgs st_Zf) (defBody st_Zf) (defScope st_Zf) .none kV_Zf dc_Zf pm_Zf an_Zf cd_Zf ct_Zf),sl_Zf⟩)
  (c_Zf':PySem.W.codeIn K cd_Zf "Phrase.take_exprs"=true)
  (k_Zf:PySem.W.keepIn K (.ref f_Zf)=true)
  (a_ZC:PySem.W.findIn K (.ref c_Block) "__init__"=some (some (.ref f_ZC)))
  (i_ZC:PySem.W.isFn K (.ref f_ZC)=true)
  (l_ZC:K.lookup f_ZC=some ⟨oc_ZC,od_ZC,.func (PySem.W.fnOf "__init__" "Block.__init__" (defArgs st_ZC) (defBody st_ZC) (defScope st_ZC) .none kV_ZC dc_ZC pm_ZC an_ZC cd_ZC ct_ZC),sl_ZC⟩)
  (c_ZC':PySem.W.codeIn K cd_ZC "Block.__init__"=true)
  (k_ZC:PySem.W.keepIn K (.ref f_ZC)=true)
  (a_Zn:PySem.W.findIn K (.ref c_PlainRun) "__init__"=some (some (.ref f_Zn)))
  (i_Zn:PySem.W.isFn K (.ref f_Zn)=true)
  (l_Zn:K.lookup f_Zn=some ⟨oc_Zn,od_Zn,.func (PySem.W.fnOf "__init__" "PlainRun.__init__" (defArgs st_Zn) (defBody st_Zn) (defScope st_Zn) .none kV_Zn dc_Zn pm_Zn an_Zn cd_Zn ct_Zn),sl_Zn⟩)
  (c_Zn':PySem.W.codeIn K cd_Zn "PlainRun.__init__"=true)
  (k_Zn:PySem.W.keepIn K (.ref f_Zn)=true)
  (a_Zg:PySem.W.findIn K (.ref c_PlainRun) "run_rows"=some (some (.ref f_Zg)))
  (i_Zg:PySem.W.isFn K (.ref f_Zg)=true)
  (l_Zg:K.lookup f_Zg=some ⟨oc_Zg,od_Zg,.func (PySem.W.fnOf "run_rows" "PlainRun.run_rows" (defArgs st_Zg) (defBody st_Zg) (defScope st_Zg) .none kV_Zg dc_Zg pm_Zg an_Zg cd_Zg ct_Zg),sl_Zg⟩)
  (c_Zg':PySem.W.codeIn K cd_Zg "PlainRun.run_rows"=true)
  (k_Zg:PySem.W.keepIn K (.ref f_Zg)=true)
  (a_Zm:PySem.W.findIn K (.ref c_PlainRun) "run_row"=some (some (.ref f_Zm)))
  (i_Zm:PySem.W.isFn K (.ref f_Zm)=true)
  (l_Zm:K.lookup f_Zm=some ⟨oc_Zm,od_Zm,.func (PySem.W.fnOf "run_row" "PlainRun.run_row" (defArgs st_Zm) (defBody st_Zm) (defScope st_Zm) .none kV_Zm dc_Zm pm_Zm an_Zm cd_Zm ct_Zm),sl_Zm⟩)
  (c_Zm':PySem.W.codeIn K cd_Zm "PlainRun.run_row"=true)
  (k_Zm:PySem.W.keepIn K (.ref f_Zm)=true)
  (a_Zo:PySem.W.findIn K (.ref c_PlainRun) "step"=some (some (.ref f_Zo)))
  (i_Zo:PySem.W.isFn K (.ref f_Zo)=true)
  (l_Zo:K.lookup f_Zo=some ⟨oc_Zo,od_Zo,.func (PySem.W.fnOf "step" "PlainRun.step" (defArgs st_Zo) (defBody st_Zo) (defScope st_Zo) .none kV_Zo dc_Zo pm_Zo an_Zo cd_Zo ct_Zo),sl_Zo⟩)
  (c_Zo':PySem.W.codeIn K cd_Zo "PlainRun.step"=true)
  (k_Zo:PySem.W.keepIn K (.ref f_Zo)=true)
  (a_Zh:PySem.W.findIn K (.ref c_PlainRun) "value_of"=some (some (.ref f_Zh)))
  (i_Zh:PySem.W.isFn K (.ref f_Zh)=true)
  (l_Zh:K.lookup f_Zh=some ⟨oc_Zh,od_Zh,.func (PySem.W.fnOf "value_of" "PlainRun.value_of" (defArgs st_Zh) (defBody st_Zh) (defScope st_Zh) .none kV_Zh dc_Zh pm_Zh an_Zh cd_Zh ct_Zh),sl_Zh⟩)
  (c_Zh':PySem.W.codeIn K cd_Zh "PlainRun.value_of"=true)
  (k_Zh:PySem.W.keepIn K (.ref f_Zh)=true)
  (a_Zi:PySem.W.findIn K (.ref c_PlainRun) "given_by"=some (some (.ref f_Zi)))
  (i_Zi:PySem.W.isFn K (.ref f_Zi)=true)
  (l_Zi:K.lookup f_Zi=some ⟨oc_Zi,od_Zi,.func (PySem.W.fnOf "given_by" "PlainRun.given_by" (defArgs st_Zi) (defBody st_Zi) (defScope st_Zi) .none kV_Zi dc_Zi pm_Zi an_Zi cd_Zi ct_Zi),sl_Zi⟩)
  (c_Zi':PySem.W.codeIn K cd_Zi "PlainRun.given_by"=true)
  (k_Zi:PySem.W.keepIn K (.ref f_Zi)=true)
  (a_law:PySem.W.nsIn K mainGlobals "law"=some (some (.ref f_law)))
  (l_law:K.lookup f_law=some ⟨oc_law,od_law,.func (PySem.W.fnOf "law" "law" (defArgs st_law) (defBody st_law) (defScope st_law) .none kV_law dc_law pm_law an_law cd_law ct_law),sl_law⟩)
  (c_law':PySem.W.codeIn K cd_law "law"=true)
  (k_law:PySem.W.keepIn K (.ref f_law)=true)
  (pg_Phrase:PySem.W.plainGet K c_Phrase Str.empty=true)
  (hd_Phrase:PySem.W.hasDictIn K c_Phrase=true)
  (po_Phrase:PySem.W.plainOver K c_Phrase=true)
  (sa_Phrase:PySem.W.findIn K (.ref c_Phrase) "__setattr__"=some (some (.builtin "object.__setattr__")))
  (mk_Phrase:PySem.W.makesIn K c_Phrase=true)
  (kc_Phrase:PySem.W.keepIn K (.ref c_Phrase)=true)
  (na_Phrase_words:PySem.W.findIn K (.ref c_Phrase) "words"=some none)
  (na_Phrase_at:PySem.W.findIn K (.ref c_Phrase) "at"=some none)
  (na_Phrase_place:PySem.W.findIn K (.ref c_Phrase) "place"=some none)
  (t1_Phrase:PySem.W.findIn K (.ref c_Phrase) "__class__"=some (some (.builtin "object.__class__")))
  (t2_Phrase:PySem.W.specialIn K (.builtin "object.__class__") "__get__"=some (some (.builtin "getset_descriptor.__get__")))
  (t3_Phrase:PySem.W.takesIn K (.builtin "object.__class__")=some true)
  (t4_Phrase:PySem.W.mroIn K c_Phrase (.type "object")=some true)
  (pg_Block:PySem.W.plainGet K c_Block Str.empty=true)
  (hd_Block:PySem.W.hasDictIn K c_Block=true)
  (po_Block:PySem.W.plainOver K c_Block=true)
  (sa_Block:PySem.W.findIn K (.ref c_Block) "__setattr__"=some (some (.builtin "object.__setattr__")))
  (mk_Block:PySem.W.makesIn K c_Block=true)
  (kc_Block:PySem.W.keepIn K (.ref c_Block)=true)
  (na_Block_word:PySem.W.findIn K (.ref c_Block) "word"=some none)
  (na_Block_body:PySem.W.findIn K (.ref c_Block) "body"=some none)
  (na_Block_other:PySem.W.findIn K (.ref c_Block) "other"=some none)
  (t1_Block:PySem.W.findIn K (.ref c_Block) "__class__"=some (some (.builtin "object.__class__")))
  (t2_Block:PySem.W.specialIn K (.builtin "object.__class__") "__get__"=some (some (.builtin "getset_descriptor.__get__")))
  (t3_Block:PySem.W.takesIn K (.builtin "object.__class__")=some true)
  (t4_Block:PySem.W.mroIn K c_Block (.type "object")=some true)
  (pg_PlainRun:PySem.W.plainGet K c_PlainRun Str.empty=true)
  (hd_PlainRun:PySem.W.hasDictIn K c_PlainRun=true)
  (po_PlainRun:PySem.W.plainOver K c_PlainRun=true)
  (sa_PlainRun:PySem.W.findIn K (.ref c_PlainRun) "__setattr__"=some (some (.builtin "object.__setattr__")))
  (mk_PlainRun:PySem.W.makesIn K c_PlainRun=true)
  (kc_PlainRun:PySem.W.keepIn K (.ref c_PlainRun)=true)
  (na_PlainRun_firsts:PySem.W.findIn K (.ref c_PlainRun) "firsts"=some none)
  (na_PlainRun_most:PySem.W.findIn K (.ref c_PlainRun) "most"=some none)
  (na_PlainRun_told:PySem.W.findIn K (.ref c_PlainRun) "told"=some none)
  (na_PlainRun_log:PySem.W.findIn K (.ref c_PlainRun) "log"=some none)
  (t1_PlainRun:PySem.W.findIn K (.ref c_PlainRun) "__class__"=some (some (.builtin "object.__class__")))
  (t2_PlainRun:PySem.W.specialIn K (.builtin "object.__class__") "__get__"=some (some (.builtin "getset_descriptor.__get__")))
  (t3_PlainRun:PySem.W.takesIn K (.builtin "object.__class__")=some true)
  (t4_PlainRun:PySem.W.mroIn K c_PlainRun (.type "object")=some true)
  (v_SMALL_LETTERS:PySem.W.nsIn K mainGlobals "SMALL_LETTERS"=some (some (.str "abcdefghijklmnopqrstuvwxyz" t_SMALL_LETTERS)))
  (v_FIGURES:PySem.W.nsIn K mainGlobals "FIGURES"=some (some (.str "0123456789" t_FIGURES)))
  (v_LONGEST_NAME:PySem.W.nsIn K mainGlobals "LONGEST_NAME"=some (some (.int 8 t_LONGEST_NAME)))
  (v_LONGEST_NUMBER:PySem.W.nsIn K mainGlobals "LONGEST_NUMBER"=some (some (.int 18 t_LONGEST_NUMBER)))
  (v_DEEPEST_EXPR:PySem.W.nsIn K mainGlobals "DEEPEST_EXPR"=some (some (.int 6 t_DEEPEST_EXPR)))
  (v_MOST_BLOCKS:PySem.W.nsIn K mainGlobals "MOST_BLOCKS"=some (some (.int 4 t_MOST_BLOCKS)))
  (v_ROUND:PySem.W.nsIn K mainGlobals "ROUND"=some (some (.int 1000000000000000000 t_ROUND)))
  (v_MOST_RUNNINGS:PySem.W.nsIn K mainGlobals "MOST_RUNNINGS"=some (some (.int 6 t_MOST_RUNNINGS)))
  (a_LANGUAGE_WORDS:PySem.W.nsIn K mainGlobals "LANGUAGE_WORDS"=some (some (.ref q_LANGUAGE_WORDS)))
  (l_LANGUAGE_WORDS:K.lookup q_LANGUAGE_WORDS=some ⟨.type "tuple",od_LANGUAGE_WORDS,.seq #[.str "kind" t_LANGUAGE_WORDS_0,.str "def" t_LANGUAGE_WORDS_1,.str "set" t_LANGUAGE_WORDS_2,.str "tell" t_LANGUAGE_WORDS_3,.str "give" t_LANGUAGE_WORDS_4,.str "if" t_LANGUAGE_WORDS_5,.str "else" t_LANGUAGE_WORDS_6,.str "while" t_LANGUAGE_WORDS_7,.str "end" t_LANGUAGE_WORDS_8,.str "num" t_LANGUAGE_WORDS_9,.str "truth" t_LANGUAGE_WORDS_10,.str "yes" t_LANGUAGE_WORDS_11,.str "no" t_LANGUAGE_WORDS_12,.str "less" t_LANGUAGE_WORDS_13,.str "same" t_LANGUAGE_WORDS_14,.str "and" t_LANGUAGE_WORDS_15,.str "or" t_LANGUAGE_WORDS_16,.str "not" t_LANGUAGE_WORDS_17,.str "do" t_LANGUAGE_WORDS_18,.str "new" t_LANGUAGE_WORDS_19,.str "of" t_LANGUAGE_WORDS_20,.str "+" t_LANGUAGE_WORDS_21,.str "-" t_LANGUAGE_WORDS_22,.str "*" t_LANGUAGE_WORDS_23,.str "." t_LANGUAGE_WORDS_24] n_LANGUAGE_WORDS,sl_LANGUAGE_WORDS⟩)
  (a_OPERATORS:PySem.W.nsIn K mainGlobals "OPERATORS"=some (some (.ref q_OPERATORS)))
  (l_OPERATORS:K.lookup q_OPERATORS=some ⟨.type "tuple",od_OPERATORS,.seq #[.str "+" t_OPERATORS_0,.str "-" t_OPERATORS_1,.str "*" t_OPERATORS_2,.str "less" t_OPERATORS_3,.str "same" t_OPERATORS_4,.str "and" t_OPERATORS_5,.str "or" t_OPERATORS_6] n_OPERATORS,sl_OPERATORS⟩)
  (a_PLAIN_KINDS:PySem.W.nsIn K mainGlobals "PLAIN_KINDS"=some (some (.ref q_PLAIN_KINDS)))
  (l_PLAIN_KINDS:K.lookup q_PLAIN_KINDS=some ⟨.type "tuple",od_PLAIN_KINDS,.seq #[.str "num" t_PLAIN_KINDS_0,.str "truth" t_PLAIN_KINDS_1] n_PLAIN_KINDS,sl_PLAIN_KINDS⟩)
  (ax_MakesError:PySem.W.nsIn K mainGlobals "MakesError"=some (some (.ref x_MakesError)))
  (pg_MakesError:PySem.W.findIn K (.ref x_MakesError) "__getattribute__"=some (some (.builtin "BaseException.__getattribute__")))
  (pk_MakesError:PySem.W.findIn K (.ref x_MakesError) "__getattr__"=some none)
  (pb_MakesError:PySem.W.mroIn K x_MakesError (.type "BaseException")=some true)
  (t1_MakesError:PySem.W.findIn K (.ref x_MakesError) "__class__"=some (some (.builtin "object.__class__")))
  (t2_MakesError:PySem.W.specialIn K (.builtin "object.__class__") "__get__"=some (some (.builtin "getset_descriptor.__get__")))
  (t3_MakesError:PySem.W.takesIn K (.builtin "object.__class__")=some true)
  (t4_MakesError:PySem.W.mroIn K x_MakesError (.type "object")=some true)
  (ax_NoForm:PySem.W.nsIn K mainGlobals "NoForm"=some (some (.ref x_NoForm)))
  (pg_NoForm:PySem.W.findIn K (.ref x_NoForm) "__getattribute__"=some (some (.builtin "BaseException.__getattribute__")))
  (pk_NoForm:PySem.W.findIn K (.ref x_NoForm) "__getattr__"=some none)
  (pb_NoForm:PySem.W.mroIn K x_NoForm (.type "BaseException")=some true)
  (t1_NoForm:PySem.W.findIn K (.ref x_NoForm) "__class__"=some (some (.builtin "object.__class__")))
  (t2_NoForm:PySem.W.specialIn K (.builtin "object.__class__") "__get__"=some (some (.builtin "getset_descriptor.__get__")))
  (t3_NoForm:PySem.W.takesIn K (.builtin "object.__class__")=some true)
  (t4_NoForm:PySem.W.mroIn K x_NoForm (.type "object")=some true)
  (ax_RunEnd:PySem.W.nsIn K mainGlobals "RunEnd"=some (some (.ref x_RunEnd)))
  (pg_RunEnd:PySem.W.findIn K (.ref x_RunEnd) "__getattribute__"=some (some (.builtin "BaseException.__getattribute__")))
  (pk_RunEnd:PySem.W.findIn K (.ref x_RunEnd) "__getattr__"=some none)
  (pb_RunEnd:PySem.W.mroIn K x_RunEnd (.type "BaseException")=some true)
  (t1_RunEnd:PySem.W.findIn K (.ref x_RunEnd) "__class__"=some (some (.builtin "object.__class__")))
  (t2_RunEnd:PySem.W.specialIn K (.builtin "object.__class__") "__get__"=some (some (.builtin "getset_descriptor.__get__")))
  (t3_RunEnd:PySem.W.takesIn K (.builtin "object.__class__")=some true)
  (t4_RunEnd:PySem.W.mroIn K x_RunEnd (.type "object")=some true)
  (a_Zw:PySem.W.findIn K (.ref x_NoForm) "__init__"=some (some (.ref f_Zw)))
  (i_Zw:PySem.W.isFn K (.ref f_Zw)=true)
  (l_Zw:K.lookup f_Zw=some ⟨oc_Zw,od_Zw,.func (PySem.W.fnOf "__init__" "NoForm.__init__" (defArgs st_Zw) (defBody st_Zw) (defScope st_Zw) .none kV_Zw dc_Zw pm_Zw an_Zw cd_Zw ct_Zw),sl_Zw⟩)
  (c_Zw':PySem.W.codeIn K cd_Zw "NoForm.__init__"=true)
  (k_Zw:PySem.W.keepIn K (.ref f_Zw)=true)
  (a_Zx:PySem.W.findIn K (.ref x_RunEnd) "__init__"=some (some (.ref f_Zx)))
  (i_Zx:PySem.W.isFn K (.ref f_Zx)=true)
  (l_Zx:K.lookup f_Zx=some ⟨oc_Zx,od_Zx,.func (PySem.W.fnOf "__init__" "RunEnd.__init__" (defArgs st_Zx) (defBody st_Zx) (defScope st_Zx) .none kV_Zx dc_Zx pm_Zx an_Zx cd_Zx ct_Zx),sl_Zx⟩)
  (c_Zx':PySem.W.codeIn K cd_Zx "RunEnd.__init__"=true)
  (k_Zx:PySem.W.keepIn K (.ref f_Zx)=true)
  (mi_NoForm:excInI K x_NoForm bmVE "ValueError.__new__" f_Zw=true)
  (po_NoForm:(PySem.W.clsIn K x_NoForm).any (fun cd=>refsThen 2 cd.mro)=true)
  (sa_NoForm:PySem.W.findIn K (.ref x_NoForm) "__setattr__"=some (some (.builtin "object.__setattr__")))
  (hd_NoForm:PySem.W.hasDictIn K x_NoForm=true)
  (na_NoForm_at:PySem.W.findIn K (.ref x_NoForm) "at"=some none)
  (na_NoForm_what:PySem.W.findIn K (.ref x_NoForm) "what"=some none)
  (mi_RunEnd:excInI K x_RunEnd bmEX "Exception.__new__" f_Zx=true)
  (po_RunEnd:(PySem.W.clsIn K x_RunEnd).any (fun cd=>refsThen 1 cd.mro)=true)
  (sa_RunEnd:PySem.W.findIn K (.ref x_RunEnd) "__setattr__"=some (some (.builtin "object.__setattr__")))
  (hd_RunEnd:PySem.W.hasDictIn K x_RunEnd=true)
  (na_RunEnd_outcome:PySem.W.findIn K (.ref x_RunEnd) "outcome"=some none)
  (em_NoForm_NoForm:PySem.W.exmOne K (.ref x_NoForm) (.ref x_NoForm)=some true)
  (em_RunEnd_RunEnd:PySem.W.exmOne K (.ref x_RunEnd) (.ref x_RunEnd)=some true)
  (ki_NoForm_MakesError:PySem.W.kitOne K (.ref x_NoForm) (.ref x_MakesError)=some true)
  (z_len:PySem.W.nsIn K mainGlobals "len"=some none)
  (z_range:PySem.W.nsIn K mainGlobals "range"=some none)
  (z_int:PySem.W.nsIn K mainGlobals "int"=some none)
  (z_bool:PySem.W.nsIn K mainGlobals "bool"=some none)
  (z_all:PySem.W.nsIn K mainGlobals "all"=some none)
  (z_min:PySem.W.nsIn K mainGlobals "min"=some none)
  (z_list:PySem.W.nsIn K mainGlobals "list"=some none)
  (z_enumerate:PySem.W.nsIn K mainGlobals "enumerate"=some none)
  (z_isinstance:PySem.W.nsIn K mainGlobals "isinstance"=some none)
  (z_tuple:PySem.W.nsIn K mainGlobals "tuple"=some none)
  (z_set:PySem.W.nsIn K mainGlobals "set"=some none)
  (z_str:PySem.W.nsIn K mainGlobals "str"=some none)
  (z_max:PySem.W.nsIn K mainGlobals "max"=some none)
  (z_dict:PySem.W.nsIn K mainGlobals "dict"=some none)
  (z_zip:PySem.W.nsIn K mainGlobals "zip"=some none)
  :
  ∃ fd:FuncData,(∀ (s:Shared) (v:Value),BindsTo s fd ⟨[v],[]⟩ [("_law_script",v)])/\∀ base:Heap,K.In base->base.Ns mainGlobals mg->FnOk l.prog w K mg base CX0 199 fa fd ["_law_script"] (spLaw K):=by
 have e:=hfa.symm.trans (PySem.W.mg_of X G a_law)
 cases e
 have F_ZM:=fun_mk (st:=st_ZM) l_ZM c_ZM' k_ZM
 have F_ZN:=fun_mk (st:=st_ZN) l_ZN c_ZN' k_ZN
 have F_ZD:=fun_mk (st:=st_ZD) l_ZD c_ZD' k_ZD
 have F_ZG:=fun_mk (st:=st_ZG) l_ZG c_ZG' k_ZG
 have F_ZE:=fun_mk (st:=st_ZE) l_ZE c_ZE' k_ZE
 have F_Zy:=fun_mk (st:=st_Zy) l_Zy c_Zy' k_Zy
 have F_Zr:=fun_mk (st:=st_Zr) l_Zr c_Zr' k_Zr
 have F_Zp:=fun_mk (st:=st_Zp) l_Zp c_Zp' k_Zp
 have F_ZH:=fun_mk (st:=st_ZH) l_ZH c_ZH' k_ZH
 have F_ZQ:=fun_mk (st:=st_ZQ) l_ZQ c_ZQ' k_ZQ
 have F_ZR:=fun_mk (st:=st_ZR) l_ZR c_ZR' k_ZR
 have F_ZO:=fun_mk (st:=st_ZO) l_ZO c_ZO' k_ZO
 have F_ZI:=fun_mk (st:=st_ZI) l_ZI c_ZI' k_ZI
 have F_Zz:=fun_mk (st:=st_Zz) l_Zz c_Zz' k_Zz
 have F_Zs:=fun_mk (st:=st_Zs) l_Zs c_Zs' k_Zs
 have F_ZJ:=fun_mk (st:=st_ZJ) l_ZJ c_ZJ' k_ZJ
 have F_ZA:=fun_mk (st:=st_ZA) l_ZA c_ZA' k_ZA
 have F_ZF:=fun_mk (st:=st_ZF) l_ZF c_ZF' k_ZF
 have F_Zt:=fun_mk (st:=st_Zt) l_Zt c_Zt' k_Zt
 have F_ZB:=fun_mk (st:=st_ZB) l_ZB c_ZB' k_ZB
 have F_ZK:=fun_mk (st:=st_ZK) l_ZK c_ZK' k_ZK
 have F_ZL:=fun_mk (st:=st_ZL) l_ZL c_ZL' k_ZL
 have F_ZP:=fun_mk (st:=st_ZP) l_ZP c_ZP' k_ZP
 have F_Zu:=fun_mk (st:=st_Zu) l_Zu c_Zu' k_Zu
 have F_Zq:=fun_mk (st:=st_Zq) l_Zq c_Zq' k_Zq
 have F_Zv:=fun_mk (st:=st_Zv) l_Zv c_Zv' k_Zv
 have F_Zj:=fun_mk (st:=st_Zj) l_Zj c_Zj' k_Zj
 have F_Za:=fun_mk (st:=st_Za) l_Za c_Za' k_Za
 have F_Zk:=fun_mk (st:=st_Zk) l_Zk c_Zk' k_Zk
 have F_Zc:=fun_mk (st:=st_Zc) l_Zc c_Zc' k_Zc
 have F_Zd:=fun_mk (st:=st_Zd) l_Zd c_Zd' k_Zd
 have F_Zb:=fun_mk (st:=st_Zb) l_Zb c_Zb' k_Zb
 have F_Zl:=fun_mk (st:=st_Zl) l_Zl c_Zl' k_Zl
 have F_Ze:=fun_mk (st:=st_Ze) l_Ze c_Ze' k_Ze
 have F_Zf:=fun_mk (st:=st_Zf) l_Zf c_Zf' k_Zf
 have F_ZC:=fun_mk (st:=st_ZC) l_ZC c_ZC' k_ZC
 have F_Zn:=fun_mk (st:=st_Zn) l_Zn c_Zn' k_Zn
 have F_Zg:=fun_mk (st:=st_Zg) l_Zg c_Zg' k_Zg
 have F_Zm:=fun_mk (st:=st_Zm) l_Zm c_Zm' k_Zm
 have F_Zo:=fun_mk (st:=st_Zo) l_Zo c_Zo' k_Zo
 have F_Zh:=fun_mk (st:=st_Zh) l_Zh c_Zh' k_Zh
 have F_Zi:=fun_mk (st:=st_Zi) l_Zi c_Zi' k_Zi
 have F_Zw:=fun_mk (st:=st_Zw) l_Zw c_Zw' k_Zw
 have F_Zx:=fun_mk (st:=st_Zx) l_Zx c_Zx' k_Zx
 have F_law:=fun_mk (st:=st_law) l_law c_law' k_law
 have b_ZM:=F_ZM.binds (ps:=["word","signs","most"]) fun _ _ _ _ _ _ us hl=>by obtain ⟨_,_,_,rfl⟩:=len3 hl;rfl
 have b_ZN:=F_ZN.binds (ps:=["word"]) fun _ _ _ _ _ _ us hl=>by obtain ⟨_,rfl⟩:=len1 hl;rfl
 have b_ZD:=F_ZD.binds (ps:=["word"]) fun _ _ _ _ _ _ us hl=>by obtain ⟨_,rfl⟩:=len1 hl;rfl
 have b_ZG:=F_ZG.binds (ps:=["words","at"]) fun _ _ _ _ _ _ us hl=>by obtain ⟨_,_,rfl⟩:=len2 hl;rfl
 have b_ZE:=F_ZE.binds (ps:=["phrase","word"]) fun _ _ _ _ _ _ us hl=>by obtain ⟨_,_,rfl⟩:=len2 hl;rfl
 have b_Zy:=F_Zy.binds (ps:=["rows"]) fun _ _ _ _ _ _ us hl=>by obtain ⟨_,rfl⟩:=len1 hl;rfl
 have b_Zr:=F_Zr.binds (ps:=["word","within"]) fun _ _ _ _ _ _ us hl=>by obtain ⟨_,_,rfl⟩:=len2 hl;rfl
 have b_Zp:=F_Zp.binds (ps:=["word","within"]) fun _ _ _ _ _ _ us hl=>by obtain ⟨_,_,rfl⟩:=len2 hl;rfl
 have b_ZH:=F_ZH.binds (ps:=["word","within"]) fun _ _ _ _ _ _ us hl=>by obtain ⟨_,_,rfl⟩:=len2 hl;rfl
 have b_ZQ:=F_ZQ.binds (ps:=["head","tree","blocks"]) fun _ _ _ _ _ _ us hl=>by obtain ⟨_,_,_,rfl⟩:=len3 hl;rfl
 have b_ZR:=F_ZR.binds (ps:=["head","blocks"]) fun _ _ _ _ _ _ us hl=>by obtain ⟨_,_,rfl⟩:=len2 hl;rfl
 have b_ZO:=F_ZO.binds (ps:=["one"]) fun _ _ _ _ _ _ us hl=>by obtain ⟨_,rfl⟩:=len1 hl;rfl
 have b_ZI:=F_ZI.binds (ps:=["e"]) fun _ _ _ _ _ _ us hl=>by obtain ⟨_,rfl⟩:=len1 hl;rfl
 have b_Zz:=F_Zz.binds (ps:=["tree"]) fun _ _ _ _ _ _ us hl=>by obtain ⟨_,rfl⟩:=len1 hl;rfl
 have b_Zs:=F_Zs.binds (ps:=["record","field","one"]) fun _ _ _ _ _ _ us hl=>by obtain ⟨_,_,_,rfl⟩:=len3 hl;rfl
 have b_ZJ:=F_ZJ.binds (ps:=["word","values"]) fun _ _ _ _ _ _ us hl=>by obtain ⟨_,_,rfl⟩:=len2 hl;rfl
 have b_ZA:=F_ZA.binds (ps:=["so"]) fun _ _ _ _ _ _ us hl=>by obtain ⟨_,rfl⟩:=len1 hl;rfl
 have b_ZF:=F_ZF.binds (ps:=["tree","most"]) fun _ _ _ _ _ _ us hl=>by obtain ⟨_,_,rfl⟩:=len2 hl;rfl
 have b_Zt:=F_Zt.binds (ps:=["_law_script","_law_k"]) fun _ _ _ _ _ _ us hl=>by obtain ⟨_,_,rfl⟩:=len2 hl;rfl
 have b_ZB:=F_ZB.binds (ps:=["_law_cell","_law_size"]) fun _ _ _ _ _ _ us hl=>by obtain ⟨_,_,rfl⟩:=len2 hl;rfl
 have b_ZK:=F_ZK.binds (ps:=["_law_low","_law_add"]) fun _ _ _ _ _ _ us hl=>by obtain ⟨_,_,rfl⟩:=len2 hl;rfl
 have b_ZL:=F_ZL.binds (ps:=["_law_number","_law_value","_law_sign"]) fun _ _ _ _ _ _ us hl=>by obtain ⟨_,_,_,rfl⟩:=len3 hl;rfl
 have b_ZP:=F_ZP.binds (ps:=["_law_number","_law_value","_law_sign","_law_low","_law_add","_law_starts"]) fun _ _ _ _ _ _ us hl=>by obtain ⟨_,_,_,_,_,_,rfl⟩:=len6 hl;rfl
 have b_Zu:=F_Zu.binds (ps:=["self","words","at"]) fun _ _ _ _ _ _ us hl=>by obtain ⟨_,_,_,rfl⟩:=len3 hl;rfl
 have b_Zq:=F_Zq.binds (ps:=["self"]) fun _ _ _ _ _ _ us hl=>by obtain ⟨_,rfl⟩:=len1 hl;rfl
 have b_Zv:=F_Zv.binds (ps:=["self"]) fun _ _ _ _ _ _ us hl=>by obtain ⟨_,rfl⟩:=len1 hl;rfl
 have b_Zj:=F_Zj.binds (ps:=["self"]) fun _ _ _ _ _ _ us hl=>by obtain ⟨_,rfl⟩:=len1 hl;rfl
 have b_Za:=F_Za.binds (ps:=["self"]) fun _ _ _ _ _ _ us hl=>by obtain ⟨_,rfl⟩:=len1 hl;rfl
 have b_Zk:=F_Zk.binds (ps:=["self"]) fun _ _ _ _ _ _ us hl=>by obtain ⟨_,rfl⟩:=len1 hl;rfl
 have b_Zc:=F_Zc.binds (ps:=["self"]) fun _ _ _ _ _ _ us hl=>by obtain ⟨_,rfl⟩:=len1 hl;rfl
 have b_Zd:=F_Zd.binds (ps:=["self"]) fun _ _ _ _ _ _ us hl=>by obtain ⟨_,rfl⟩:=len1 hl;rfl
 have b_Zb:=F_Zb.binds (ps:=["self","pairs"]) fun _ _ _ _ _ _ us hl=>by obtain ⟨_,_,rfl⟩:=len2 hl;rfl
 have b_Zl:=F_Zl.binds (ps:=["self","deep"]) fun _ _ _ _ _ _ us hl=>by obtain ⟨_,_,rfl⟩:=len2 hl;rfl
 have b_Ze:=F_Ze.binds (ps:=["self","word","deep"]) fun _ _ _ _ _ _ us hl=>by obtain ⟨_,_,_,rfl⟩:=len3 hl;rfl
 have b_Zf:=F_Zf.binds (ps:=["self","deep"]) fun _ _ _ _ _ _ us hl=>by obtain ⟨_,_,rfl⟩:=len2 hl;rfl
 have b_ZC:=F_ZC.binds (ps:=["self","word","body","other"]) fun _ _ _ _ _ _ us hl=>by obtain ⟨_,_,_,_,rfl⟩:=len4 hl;rfl
 have b_Zn:=F_Zn.binds (ps:=["self","tree","most"]) fun _ _ _ _ _ _ us hl=>by obtain ⟨_,_,_,rfl⟩:=len3 hl;rfl
 have b_Zg:=F_Zg.binds (ps:=["self","statements","names","depth"]) fun _ _ _ _ _ _ us hl=>by obtain ⟨_,_,_,_,rfl⟩:=len4 hl;rfl
 have b_Zm:=F_Zm.binds (ps:=["self","one","names","depth"]) fun _ _ _ _ _ _ us hl=>by obtain ⟨_,_,_,_,rfl⟩:=len4 hl;rfl
 have b_Zo:=F_Zo.binds (ps:=["self","one","names","depth"]) fun _ _ _ _ _ _ us hl=>by obtain ⟨_,_,_,_,rfl⟩:=len4 hl;rfl
 have b_Zh:=F_Zh.binds (ps:=["self","e","names","depth"]) fun _ _ _ _ _ _ us hl=>by obtain ⟨_,_,_,_,rfl⟩:=len4 hl;rfl
 have b_Zi:=F_Zi.binds (ps:=["self","name","values","depth"]) fun _ _ _ _ _ _ us hl=>by obtain ⟨_,_,_,_,rfl⟩:=len4 hl;rfl
 have b_Zw:=F_Zw.binds (ps:=["self","at","what"]) fun _ _ _ _ _ _ us hl=>by obtain ⟨_,_,_,rfl⟩:=len3 hl;rfl
 have b_Zx:=F_Zx.binds (ps:=["self","outcome"]) fun _ _ _ _ _ _ us hl=>by obtain ⟨_,_,rfl⟩:=len2 hl;rfl
 have T:All l.prog w K mg ⟨f_ZM,f_ZN,f_ZD,f_ZG,f_ZE,f_Zy,f_Zr,f_Zp,f_ZH,f_ZQ,f_ZR,f_ZO,f_ZI,f_Zz,f_Zs,f_ZJ,f_ZA,f_ZF,f_Zt,f_ZB,f_ZK,f_ZL,f_ZP,f_Zu,f_Zq,f_Zv,f_Zj,f_Za,f_Zk,f_Zc,f_Zd,f_Zb,f_Zl,f_Ze,f_Zf,f_ZC,f_Zn,f_Zg,f_Zm,f_Zo,f_Zh,f_Zi,f_Zw,f_Zx,c_Phrase,c_Block,c_PlainRun,x_MakesError,x_NoForm,x_RunEnd,q_LANGUAGE_WORDS,q_OPERATORS,q_PLAIN_KINDS⟩ ⟨_,_,_,_,_,_,_,_,_,_,_,_,_,_,_,_,_,_,_,_,_,_,_,_,_,_,_,_,_,_,_,_,_,_,_,_,_,_,_,_,_,_,_,_⟩:={
  m_ZM:=PySem.W.mg_of X G a_ZM
  k_ZM:=k_ZM
  F_ZM:=F_ZM
  b_ZM:=b_ZM
  m_ZN:=PySem.W.mg_of X G a_ZN
  k_ZN:=k_ZN
  F_ZN:=F_ZN
  b_ZN:=b_ZN
  m_ZD:=PySem.W.mg_of X G a_ZD
  k_ZD:=k_ZD
  F_ZD:=F_ZD
  b_ZD:=b_ZD
  m_ZG:=PySem.W.mg_of X G a_ZG
  k_ZG:=k_ZG
  F_ZG:=F_ZG
  b_ZG:=b_ZG
  m_ZE:=PySem.W.mg_of X G a_ZE
  k_ZE:=k_ZE
  F_ZE:=F_ZE
  b_ZE:=b_ZE
  m_Zy:=PySem.W.mg_of X G a_Zy
  k_Zy:=k_Zy
  F_Zy:=F_Zy
  b_Zy:=b_Zy
  m_Zr:=PySem.W.mg_of X G a_Zr
  k_Zr:=k_Zr
  F_Zr:=F_Zr
  b_Zr:=b_Zr
  m_Zp:=PySem.W.mg_of X G a_Zp
  k_Zp:=k_Zp
  F_Zp:=F_Zp
  b_Zp:=b_Zp
  m_ZH:=PySem.W.mg_of X G a_ZH
  k_ZH:=k_ZH
  F_ZH:=F_ZH
  b_ZH:=b_ZH
  m_ZQ:=PySem.W.mg_of X G a_ZQ
  k_ZQ:=k_ZQ
  F_ZQ:=F_ZQ
  b_ZQ:=b_ZQ
  m_ZR:=PySem.W.mg_of X G a_ZR
  k_ZR:=k_ZR
  F_ZR:=F_ZR
  b_ZR:=b_ZR
  m_ZO:=PySem.W.mg_of X G a_ZO
  k_ZO:=k_ZO
  F_ZO:=F_ZO
  b_ZO:=b_ZO
  m_ZI:=PySem.W.mg_of X G a_ZI
  k_ZI:=k_ZI
  F_ZI:=F_ZI
  b_ZI:=b_ZI
  m_Zz:=PySem.W.mg_of X G a_Zz
  k_Zz:=k_Zz
  F_Zz:=F_Zz
  b_Zz:=b_Zz
  m_Zs:=PySem.W.mg_of X G a_Zs
  k_Zs:=k_Zs
  F_Zs:=F_Zs
  b_Zs:=b_Zs
  m_ZJ:=PySem.W.mg_of X G a_ZJ
  k_ZJ:=k_ZJ
  F_ZJ:=F_ZJ
  b_ZJ:=b_ZJ
  m_ZA:=PySem.W.mg_of X G a_ZA
  k_ZA:=k_ZA
  F_ZA:=F_ZA
  b_ZA:=b_ZA
  m_ZF:=PySem.W.mg_of X G a_ZF
  k_ZF:=k_ZF
  F_ZF:=F_ZF
  b_ZF:=b_ZF
  m_Zt:=PySem.W.mg_of X G a_Zt
  k_Zt:=k_Zt
  F_Zt:=F_Zt
  b_Zt:=b_Zt
  m_ZB:=PySem.W.mg_of X G a_ZB
  k_ZB:=k_ZB
  F_ZB:=F_ZB
  b_ZB:=b_ZB
  m_ZK:=PySem.W.mg_of X G a_ZK
  k_ZK:=k_ZK
  F_ZK:=F_ZK
  b_ZK:=b_ZK
  m_ZL:=PySem.W.mg_of X G a_ZL
  k_ZL:=k_ZL
  F_ZL:=F_ZL
  b_ZL:=b_ZL
  m_ZP:=PySem.W.mg_of X G a_ZP
  k_ZP:=k_ZP
  F_ZP:=F_ZP
  b_ZP:=b_ZP
  M_Phrase:=⟨mk_Phrase,a_Zu,i_Zu,kc_Phrase⟩
  k_Zu:=k_Zu
  F_Zu:=F_Zu
  b_Zu:=b_Zu
  M_Zq:=⟨a_Zq,i_Zq,k_Zq⟩
  k_Zq:=k_Zq
  F_Zq:=F_Zq
  b_Zq:=b_Zq
  M_Zv:=⟨a_Zv,i_Zv,k_Zv⟩
  k_Zv:=k_Zv
  F_Zv:=F_Zv
  b_Zv:=b_Zv
  M_Zj:=⟨a_Zj,i_Zj,k_Zj⟩
  k_Zj:=k_Zj
  F_Zj:=F_Zj
  b_Zj:=b_Zj
  M_Za:=⟨a_Za,i_Za,k_Za⟩
  k_Za:=k_Za
  F_Za:=F_Za
  b_Za:=b_Za
  M_Zk:=⟨a_Zk,i_Zk,k_Zk⟩
  k_Zk:=k_Zk
  F_Zk:=F_Zk
  b_Zk:=b_Zk
  M_Zc:=⟨a_Zc,i_Zc,k_Zc⟩
  k_Zc:=k_Zc
  F_Zc:=F_Zc
  b_Zc:=b_Zc
  M_Zd:=⟨a_Zd,i_Zd,k_Zd⟩
  k_Zd:=k_Zd
  F_Zd:=F_Zd
  b_Zd:=b_Zd
  M_Zb:=⟨a_Zb,i_Zb,k_Zb⟩
  k_Zb:=k_Zb
  F_Zb:=F_Zb
  b_Zb:=b_Zb
  M_Zl:=⟨a_Zl,i_Zl,k_Zl⟩
  k_Zl:=k_Zl
  F_Zl:=F_Zl
  b_Zl:=b_Zl
  M_Ze:=⟨a_Ze,i_Ze,k_Ze⟩
  k_Ze:=k_Ze
  F_Ze:=F_Ze
  b_Ze:=b_Ze
  M_Zf:=⟨a_Zf,i_Zf,k_Zf⟩
  k_Zf:=k_Zf
  F_Zf:=F_Zf
  b_Zf:=b_Zf
  M_Block:=⟨mk_Block,a_ZC,i_ZC,kc_Block⟩
  k_ZC:=k_ZC
  F_ZC:=F_ZC
  b_ZC:=b_ZC
  M_PlainRun:=⟨mk_PlainRun,a_Zn,i_Zn,kc_PlainRun⟩
  k_Zn:=k_Zn
  F_Zn:=F_Zn
  b_Zn:=b_Zn
  M_Zg:=⟨a_Zg,i_Zg,k_Zg⟩
  k_Zg:=k_Zg
  F_Zg:=F_Zg
  b_Zg:=b_Zg
  M_Zm:=⟨a_Zm,i_Zm,k_Zm⟩
  k_Zm:=k_Zm
  F_Zm:=F_Zm
  b_Zm:=b_Zm
  M_Zo:=⟨a_Zo,i_Zo,k_Zo⟩
  k_Zo:=k_Zo
  F_Zo:=F_Zo
  b_Zo:=b_Zo
  M_Zh:=⟨a_Zh,i_Zh,k_Zh⟩
  k_Zh:=k_Zh
  F_Zh:=F_Zh
  b_Zh:=b_Zh
  M_Zi:=⟨a_Zi,i_Zi,k_Zi⟩
  k_Zi:=k_Zi
  F_Zi:=F_Zi
  b_Zi:=b_Zi
  M_NoForm:=⟨mi_NoForm,i_Zw⟩
  ic_NoForm:=⟨⟨2,po_NoForm⟩,sa_NoForm,hd_NoForm⟩
  na_NoForm_at:=na_NoForm_at
  na_NoForm_what:=na_NoForm_what
  k_Zw:=k_Zw
  F_Zw:=F_Zw
  b_Zw:=b_Zw
  M_RunEnd:=⟨mi_RunEnd,i_Zx⟩
  ic_RunEnd:=⟨⟨1,po_RunEnd⟩,sa_RunEnd,hd_RunEnd⟩
  na_RunEnd_outcome:=na_RunEnd_outcome
  k_Zx:=k_Zx
  F_Zx:=F_Zx
  b_Zx:=b_Zx
  m_Phrase:=PySem.W.mg_of X G aC_Phrase
  cl_Phrase:=⟨pg_Phrase,hd_Phrase,po_Phrase,sa_Phrase⟩
  na_Phrase_words:=na_Phrase_words
  na_Phrase_at:=na_Phrase_at
  na_Phrase_place:=na_Phrase_place
  ty_Phrase:=fun H a dx fs e=>.ins e ⟨pg_Phrase,hd_Phrase,po_Phrase,sa_Phrase⟩ t1_Phrase t2_Phrase t3_Phrase t4_Phrase
  is_Phrase:=kit_same _ _
  m_Block:=PySem.W.mg_of X G aC_Block
  cl_Block:=⟨pg_Block,hd_Block,po_Block,sa_Block⟩
  na_Block_word:=na_Block_word
  na_Block_body:=na_Block_body
  na_Block_other:=na_Block_other
  ty_Block:=fun H a dx fs e=>.ins e ⟨pg_Block,hd_Block,po_Block,sa_Block⟩ t1_Block t2_Block t3_Block t4_Block
  is_Block:=kit_same _ _
  m_PlainRun:=PySem.W.mg_of X G aC_PlainRun
  cl_PlainRun:=⟨pg_PlainRun,hd_PlainRun,po_PlainRun,sa_PlainRun⟩
  na_PlainRun_firsts:=na_PlainRun_firsts
  na_PlainRun_most:=na_PlainRun_most
  na_PlainRun_told:=na_PlainRun_told
  na_PlainRun_log:=na_PlainRun_log
  ty_PlainRun:=fun H a dx fs e=>.ins e ⟨pg_PlainRun,hd_PlainRun,po_PlainRun,sa_PlainRun⟩ t1_PlainRun t2_PlainRun t3_PlainRun t4_PlainRun
  is_PlainRun:=kit_same _ _
  v_SMALL_LETTERS:=⟨_,PySem.W.mg_of X G v_SMALL_LETTERS⟩
  v_FIGURES:=⟨_,PySem.W.mg_of X G v_FIGURES⟩
  v_LONGEST_NAME:=⟨_,PySem.W.mg_of X G v_LONGEST_NAME⟩
  v_LONGEST_NUMBER:=⟨_,PySem.W.mg_of X G v_LONGEST_NUMBER⟩
  v_DEEPEST_EXPR:=⟨_,PySem.W.mg_of X G v_DEEPEST_EXPR⟩
  v_MOST_BLOCKS:=⟨_,PySem.W.mg_of X G v_MOST_BLOCKS⟩
  v_ROUND:=⟨_,PySem.W.mg_of X G v_ROUND⟩
  v_MOST_RUNNINGS:=⟨_,PySem.W.mg_of X G v_MOST_RUNNINGS⟩
  m_LANGUAGE_WORDS:=PySem.W.mg_of X G a_LANGUAGE_WORDS
  Q_LANGUAGE_WORDS:=fun H=>.inr ⟨_,_,_,l_LANGUAGE_WORDS,rfl,rfl,(by show 25<=sizeLine;decide),.cons ⟨_,rfl⟩ (.cons ⟨_,rfl⟩ (.cons ⟨_,rfl⟩ (.cons ⟨_,rfl⟩ (.cons ⟨_,rfl⟩ (.cons ⟨_,rfl⟩ (.cons ⟨_,rfl⟩ (.cons ⟨_,rfl⟩ (.cons ⟨_,rfl⟩ (.cons ⟨_,rfl⟩ (.cons ⟨_,rfl⟩ (.cons ⟨_,rfl⟩ (.cons ⟨_,rfl⟩ (.cons ⟨_,rfl⟩ (.cons ⟨_,rfl⟩ (.cons ⟨_,rfl⟩ (.cons ⟨_,rfl⟩ (.cons ⟨_,rfl⟩ (.cons ⟨_,rfl⟩ (.cons ⟨_,rfl⟩ (.cons ⟨_,rfl⟩ (.cons ⟨_,rfl⟩ (.cons ⟨_,rfl⟩ (.cons ⟨_,rfl⟩ (.cons ⟨_,rfl⟩ (.nil)))))))))))))))))))))))))⟩
  m_OPERATORS:=PySem.W.mg_of X G a_OPERATORS
  Q_OPERATORS:=fun H=>.inr ⟨_,_,_,l_OPERATORS,rfl,rfl,(by show 7<=sizeLine;decide),.cons ⟨_,rfl⟩ (.cons ⟨_,rfl⟩ (.cons ⟨_,rfl⟩ (.cons ⟨_,rfl⟩ (.cons ⟨_,rfl⟩ (.cons ⟨_,rfl⟩ (.cons ⟨_,rfl⟩ (.nil)))))))⟩
  m_PLAIN_KINDS:=PySem.W.mg_of X G a_PLAIN_KINDS
  Q_PLAIN_KINDS:=fun H=>.inr ⟨_,_,_,l_PLAIN_KINDS,rfl,rfl,(by show 2<=sizeLine;decide),.cons ⟨_,rfl⟩ (.cons ⟨_,rfl⟩ (.nil))⟩
  m_MakesError:=PySem.W.mg_of X G ax_MakesError
  xc_MakesError:=⟨pg_MakesError,pk_MakesError,pb_MakesError,t1_MakesError,t2_MakesError,t3_MakesError,t4_MakesError⟩
  m_NoForm:=PySem.W.mg_of X G ax_NoForm
  xc_NoForm:=⟨pg_NoForm,pk_NoForm,pb_NoForm,t1_NoForm,t2_NoForm,t3_NoForm,t4_NoForm⟩
  m_RunEnd:=PySem.W.mg_of X G ax_RunEnd
  xc_RunEnd:=⟨pg_RunEnd,pk_RunEnd,pb_RunEnd,t1_RunEnd,t2_RunEnd,t3_RunEnd,t4_RunEnd⟩
  em_NoForm_NoForm:=em_NoForm_NoForm
  em_RunEnd_RunEnd:=em_RunEnd_RunEnd
  ki_NoForm_MakesError:=ki_NoForm_MakesError
  n_len:=PySem.W.mg_none_of X G z_len
  n_range:=PySem.W.mg_none_of X G z_range
  n_int:=PySem.W.mg_none_of X G z_int
  n_bool:=PySem.W.mg_none_of X G z_bool
  n_all:=PySem.W.mg_none_of X G z_all
  n_min:=PySem.W.mg_none_of X G z_min
  n_list:=PySem.W.mg_none_of X G z_list
  n_enumerate:=PySem.W.mg_none_of X G z_enumerate
  n_isinstance:=PySem.W.mg_none_of X G z_isinstance
  n_tuple:=PySem.W.mg_none_of X G z_tuple
  n_set:=PySem.W.mg_none_of X G z_set
  n_str:=PySem.W.mg_none_of X G z_str
  n_max:=PySem.W.mg_none_of X G z_max
  n_dict:=PySem.W.mg_none_of X G z_dict
  n_zip:=PySem.W.mg_none_of X G z_zip
 }
 exact ⟨PySem.W.fnOf "law" "law" (defArgs st_law) (defBody st_law) (defScope st_law) .none kV_law dc_law pm_law an_law cd_law ct_law,fun s v=>.of_eq rfl,fun base _ _=>ok_law T F_law⟩
theorem walk {l:PySem.W.OpenLaw} {q:Program} {loose:List Str} {XP:(Str->Option Value)->Heap->Prop} {YP:World->Heap->Prop} {d:DefRec} {K:Params->PySem.W.Frag} (hn:l.most=some 63) (hdf:d.params.defaults=[])
  (hY:∀ (w:World) (h:Heap),YP w h->(K w.params).In h)
  (F:∀ (w:World) (mg:Str->Option Value) (fa:Addr) (h:Heap),(K w.params).In h->h.Ns mainGlobals mg->mg d.name=some (.ref fa) ->
   ∃ fd:FuncData,(∀ (s:Shared) (u:Value),BindsTo s fd ⟨[u],[]⟩ [("_law_script",u)])/\∀ base:Heap,(K w.params).In base->base.Ns mainGlobals mg->FnOk l.prog w (K w.params) mg base CX0 199 fa fd ["_law_script"] (spLaw (K w.params))) :
  PySem.W.WalkO q loose XP YP l.row.toRowW d [] (fun f vs=>PySem.call f vs) :=
 L2.walk_of (n:=63) (k:=199) (x:="_law_script") (CX:=fun _=>CX0) (sp:=fun w=>spLaw (K w.params)) hn (by decide) hdf ⟨rfl,by decide,by decide⟩ hY F (fun _ _ a ns hl _ hS=>⟨a,ns,rfl,hS,hl,fun _=>rfl⟩) fun _ _ _ _ _ z=>z
end K63
open PySem PySem.W PyProof.Rows
set_option maxRecDepth 100000 in
set_option maxHeartbeats 0 in
theorem PySem.Challenge.cw_manymakes_k63_calls_and_records_run_holds : PySem.Challenge.rw_manymakes_k63_calls_and_records_run.Holds := by
 w_on;o_law
 refine PySem.W.holds_open (r:=OpenLaw.row PySem.Challenge.rw_manymakes_k63_calls_and_records_run) (q:=K63.vw) (loose:=[]) (Xt:=K63.xt) (XP:=XL K63.vw [])
  (Yf:=(kHook K63.pre.heap_1 K63.as K63.ase).obs) (Ya:=(kHook K63.pre.heap_1 K63.as K63.ase).val) (YP:=(kHook K63.pre.heap_1 K63.as K63.ase).says)
  (N:=5770) K63.left
  ((kHook K63.pre.heap_1 K63.as K63.ase).of) ((kHook K63.pre.heap_1 K63.as K63.ase).keeps) (fun s e=>xl_of s (Mm.both_true e).1)
  (XL.keeps) (by rfl) (by rfl) (by rfl) (fun s e=>recFacts_of (Mm.both_true e).2)
  (by rfl) (by assumption) (by decide +kernel)
  ⟨rfl,rfl,rfl,rfl,rfl,by decide +kernel⟩ ?hw ?hc
 (case hw=>w_witness2)
 k_fill
 refine K63.walk (l:=PySem.Challenge.rw_manymakes_k63_calls_and_records_run) rfl rfl (fun w h Y=>PySem.W.kIn_of Y) ?F
 case F =>
  intro w mg fa h KX G hmg
  refine' K63.all_mk KX G hmg ?aC_Phrase ?aC_Block ?aC_PlainRun ?a_ZM ?l_ZM ?c_ZM' ?k_ZM ?a_ZN ?l_ZN ?c_ZN' ?k_ZN ?a_ZD ?l_ZD ?c_ZD' ?k_ZD ?a_ZG ?l_ZG ?c_ZG' ?k_ZG ?a_ZE ?l_ZE ?c_ZE' ?k_ZE ?a_Zy ?l_Zy ?c_Zy' ?k_Zy ?a_Zr ?l_Zr ?c_Zr' ?k_Zr ?a_Zp ?l_Zp ?c_Zp' ?k_Zp ?a_ZH ?l_ZH ?c_ZH' ?k_ZH ?a_ZQ ?l_ZQ ?c_ZQ' ?k_ZQ ?a_ZR ?l_ZR ?c_ZR' ?k_ZR ?a_ZO ?l_ZO ?c_ZO' ?k_ZO ?a_ZI ?l_ZI ?c_ZI' ?k_ZI ?a_Zz ?l_Zz ?c_Zz' ?k_Zz ?a_Zs ?l_Zs ?c_Zs' ?k_Zs ?a_ZJ ?l_ZJ ?c_ZJ' ?k_ZJ ?a_ZA ?l_ZA ?c_ZA' ?k_ZA ?a_ZF ?l_ZF ?c_ZF' ?k_ZF ?a_Zt ?l_Zt ?c_Zt' ?k_Zt ?a_ZB ?l_ZB ?c_ZB' ?k_ZB ?a_ZK ?l_ZK ?c_ZK' ?k_ZK ?a_ZL ?l_ZL ?c_ZL' ?k_ZL ?a_ZP ?l_ZP ?c_ZP' ?k_ZP ?a_Zu ?i_Zu ?l_Zu ?c_Zu' ?k_Zu ?a_Zq ?i_Zq ?l_Zq ?c_Zq' ?k_Zq ?a_Zv ?i_Zv ?l_Zv ?c_Zv' ?k_Zv ?a_Zj ?i_Zj ?l_Zj ?c_Zj' ?k_Zj ?a_Za ?i_Za ?l_Za ?c_Za' ?k_Za ?a_Zk ?i_Zk ?l_Zk ?c_Zk' ?k_Zk ?a_Zc ?i_Zc ?l_Zc ?c_Zc' ?k_Zc ?a_Zd ?i_Zd ?l_Zd ?c_Zd' ?k_Zd ?a_Zb ?i_Zb ?l_Zb ?c_Zb' ?k_Zb ?a_Zl ?i_Zl ?l_Zl ?c_Zl' ?k_Zl ?a_Ze ?i_Ze ?l_Ze ?c_Ze' ?k_Ze ?a_Zf ?i_Zf ?l_Zf ?c_Zf' ?k_Zf ?a_ZC ?i_ZC ?l_ZC ?c_ZC' ?k_ZC ?a_Zn ?i_Zn ?l_Zn ?c_Zn' ?k_Zn ?a_Zg ?i_Zg ?l_Zg ?c_Zg' ?k_Zg ?a_Zm ?i_Zm ?l_Zm ?c_Zm' ?k_Zm ?a_Zo ?i_Zo ?l_Zo ?c_Zo' ?k_Zo ?a_Zh ?i_Zh ?l_Zh ?c_Zh' ?k_Zh ?a_Zi ?i_Zi ?l_Zi ?c_Zi' ?k_Zi ?a_law ?l_law ?c_law' ?k_law ?pg_Phrase ?hd_Phrase ?po_Phrase ?sa_Phrase ?mk_Phrase ?kc_Phrase ?na_Phrase_words ?na_Phrase_at ?na_Phrase_place ?t1_Phrase ?t2_Phrase ?t3_Phrase ?t4_Phrase ?pg_Block ?hd_Block ?po_Block ?sa_Block ?mk_Block ?kc_Block ?na_Block_word ?na_Block_body ?na_Block_other ?t1_Block ?t2_Block ?t3_Block ?t4_Block ?pg_PlainRun ?hd_PlainRun ?po_PlainRun ?sa_PlainRun ?mk_PlainRun ?kc_PlainRun ?na_PlainRun_firsts ?na_PlainRun_most ?na_PlainRun_told ?na_PlainRun_log ?t1_PlainRun ?t2_PlainRun ?t3_PlainRun ?t4_PlainRun ?v_SMALL_LETTERS ?v_FIGURES ?v_LONGEST_NAME ?v_LONGEST_NUMBER ?v_DEEPEST_EXPR ?v_MOST_BLOCKS ?v_ROUND ?v_MOST_RUNNINGS ?a_LANGUAGE_WORDS ?l_LANGUAGE_WORDS ?a_OPERATORS ?l_OPERATORS ?a_PLAIN_KINDS ?l_PLAIN_KINDS ?ax_MakesError ?pg_MakesError ?pk_MakesError ?pb_MakesError ?t1_MakesError ?t2_MakesError ?t3_MakesError ?t4_MakesError ?ax_NoForm ?pg_NoForm ?pk_NoForm ?pb_NoForm ?t1_NoForm ?t2_NoForm ?t3_NoForm ?t4_NoForm ?ax_RunEnd ?pg_RunEnd ?pk_RunEnd ?pb_RunEnd ?t1_RunEnd ?t2_RunEnd ?t3_RunEnd ?t4_RunEnd ?a_Zw ?i_Zw ?l_Zw ?c_Zw' ?k_Zw ?a_Zx ?i_Zx ?l_Zx ?c_Zx' ?k_Zx ?mi_NoForm ?po_NoForm ?sa_NoForm ?hd_NoForm ?na_NoForm_at ?na_NoForm_what ?mi_RunEnd ?po_RunEnd ?sa_RunEnd ?hd_RunEnd ?na_RunEnd_outcome ?em_NoForm_NoForm ?em_RunEnd_RunEnd ?ki_NoForm_MakesError ?z_len ?z_range ?z_int ?z_bool ?z_all ?z_min ?z_list ?z_enumerate ?z_isinstance ?z_tuple ?z_set ?z_str ?z_max ?z_dict ?z_zip
  (case aC_Phrase=>k_is)
  (case aC_Block=>k_is)
  (case aC_PlainRun=>k_is)
  (case a_ZM=>k_is)
  (case l_ZM=>k_is)
  (case c_ZM'=>k_is)
  (case k_ZM=>k_is)
  (case a_ZN=>k_is)
  (case l_ZN=>k_is)
  (case c_ZN'=>k_is)
  (case k_ZN=>k_is)
  (case a_ZD=>k_is)
  (case l_ZD=>k_is)
  (case c_ZD'=>k_is)
  (case k_ZD=>k_is)
  (case a_ZG=>k_is)
  (case l_ZG=>k_is)
  (case c_ZG'=>k_is)
  (case k_ZG=>k_is)
  (case a_ZE=>k_is)
  (case l_ZE=>k_is)
  (case c_ZE'=>k_is)
  (case k_ZE=>k_is)
  (case a_Zy=>k_is)
  (case l_Zy=>k_is)
  (case c_Zy'=>k_is)
  (case k_Zy=>k_is)
  (case a_Zr=>k_is)
  (case l_Zr=>k_is)
  (case c_Zr'=>k_is)
  (case k_Zr=>k_is)
  (case a_Zp=>k_is)
  (case l_Zp=>k_is)
  (case c_Zp'=>k_is)
  (case k_Zp=>k_is)
  (case a_ZH=>k_is)
  (case l_ZH=>k_is)
  (case c_ZH'=>k_is)
  (case k_ZH=>k_is)
  (case a_ZQ=>k_is)
  (case l_ZQ=>k_is)
  (case c_ZQ'=>k_is)
  (case k_ZQ=>k_is)
  (case a_ZR=>k_is)
  (case l_ZR=>k_is)
  (case c_ZR'=>k_is)
  (case k_ZR=>k_is)
  (case a_ZO=>k_is)
  (case l_ZO=>k_is)
  (case c_ZO'=>k_is)
  (case k_ZO=>k_is)
  (case a_ZI=>k_is)
  (case l_ZI=>k_is)
  (case c_ZI'=>k_is)
  (case k_ZI=>k_is)
  (case a_Zz=>k_is)
  (case l_Zz=>k_is)
  (case c_Zz'=>k_is)
  (case k_Zz=>k_is)
  (case a_Zs=>k_is)
  (case l_Zs=>k_is)
  (case c_Zs'=>k_is)
  (case k_Zs=>k_is)
  (case a_ZJ=>k_is)
  (case l_ZJ=>k_is)
  (case c_ZJ'=>k_is)
  (case k_ZJ=>k_is)
  (case a_ZA=>k_is)
  (case l_ZA=>k_is)
  (case c_ZA'=>k_is)
  (case k_ZA=>k_is)
  (case a_ZF=>k_is)
  (case l_ZF=>k_is)
  (case c_ZF'=>k_is)
  (case k_ZF=>k_is)
  (case a_Zt=>k_is)
  (case l_Zt=>k_is)
  (case c_Zt'=>k_is)
  (case k_Zt=>k_is)
  (case a_ZB=>k_is)
  (case l_ZB=>k_is)
  (case c_ZB'=>k_is)
  (case k_ZB=>k_is)
  (case a_ZK=>k_is)
  (case l_ZK=>k_is)
  (case c_ZK'=>k_is)
  (case k_ZK=>k_is)
  (case a_ZL=>k_is)
  (case l_ZL=>k_is)
  (case c_ZL'=>k_is)
  (case k_ZL=>k_is)
  (case a_ZP=>k_is)
  (case l_ZP=>k_is)
  (case c_ZP'=>k_is)
  (case k_ZP=>k_is)
  (case a_Zu=>k_is)
  (case i_Zu=>k_is)
  (case l_Zu=>k_is)
  (case c_Zu'=>k_is)
  (case k_Zu=>k_is)
  (case a_Zq=>k_is)
  (case i_Zq=>k_is)
  (case l_Zq=>k_is)
  (case c_Zq'=>k_is)
  (case k_Zq=>k_is)
  (case a_Zv=>k_is)
  (case i_Zv=>k_is)
  (case l_Zv=>k_is)
  (case c_Zv'=>k_is)
  (case k_Zv=>k_is)
  (case a_Zj=>k_is)
  (case i_Zj=>k_is)
  (case l_Zj=>k_is)
  (case c_Zj'=>k_is)
  (case k_Zj=>k_is)
  (case a_Za=>k_is)
  (case i_Za=>k_is)
  (case l_Za=>k_is)
  (case c_Za'=>k_is)
  (case k_Za=>k_is)
  (case a_Zk=>k_is)
  (case i_Zk=>k_is)
  (case l_Zk=>k_is)
  (case c_Zk'=>k_is)
  (case k_Zk=>k_is)
  (case a_Zc=>k_is)
  (case i_Zc=>k_is)
  (case l_Zc=>k_is)
  (case c_Zc'=>k_is)
  (case k_Zc=>k_is)
  (case a_Zd=>k_is)
  (case i_Zd=>k_is)
  (case l_Zd=>k_is)
  (case c_Zd'=>k_is)
  (case k_Zd=>k_is)
  (case a_Zb=>k_is)
  (case i_Zb=>k_is)
  (case l_Zb=>k_is)
  (case c_Zb'=>k_is)
  (case k_Zb=>k_is)
  (case a_Zl=>k_is)
  (case i_Zl=>k_is)
  (case l_Zl=>k_is)
  (case c_Zl'=>k_is)
  (case k_Zl=>k_is)
  (case a_Ze=>k_is)
  (case i_Ze=>k_is)
  (case l_Ze=>k_is)
  (case c_Ze'=>k_is)
  (case k_Ze=>k_is)
  (case a_Zf=>k_is)
  (case i_Zf=>k_is)
  (case l_Zf=>k_is)
  (case c_Zf'=>k_is)
  (case k_Zf=>k_is)
  (case a_ZC=>k_is)
  (case i_ZC=>k_is)
  (case l_ZC=>k_is)
  (case c_ZC'=>k_is)
  (case k_ZC=>k_is)
  (case a_Zn=>k_is)
  (case i_Zn=>k_is)
  (case l_Zn=>k_is)
  (case c_Zn'=>k_is)
  (case k_Zn=>k_is)
  (case a_Zg=>k_is)
  (case i_Zg=>k_is)
  (case l_Zg=>k_is)
  (case c_Zg'=>k_is)
  (case k_Zg=>k_is)
  (case a_Zm=>k_is)
  (case i_Zm=>k_is)
  (case l_Zm=>k_is)
  (case c_Zm'=>k_is)
  (case k_Zm=>k_is)
  (case a_Zo=>k_is)
  (case i_Zo=>k_is)
  (case l_Zo=>k_is)
  (case c_Zo'=>k_is)
  (case k_Zo=>k_is)
  (case a_Zh=>k_is)
  (case i_Zh=>k_is)
  (case l_Zh=>k_is)
  (case c_Zh'=>k_is)
  (case k_Zh=>k_is)
  (case a_Zi=>k_is)
  (case i_Zi=>k_is)
  (case l_Zi=>k_is)
  (case c_Zi'=>k_is)
  (case k_Zi=>k_is)
  (case a_law=>k_is)
  (case l_law=>k_is)
  (case c_law'=>k_is)
  (case k_law=>k_is)
  (case pg_Phrase=>k_is)
  (case hd_Phrase=>k_is)
  (case po_Phrase=>k_is)
  (case sa_Phrase=>k_is)
  (case mk_Phrase=>k_is)
  (case kc_Phrase=>k_is)
  (case na_Phrase_words=>k_is)
  (case na_Phrase_at=>k_is)
  (case na_Phrase_place=>k_is)
  (case t1_Phrase=>k_is)
  (case t2_Phrase=>k_is)
  (case t3_Phrase=>k_is)
  (case t4_Phrase=>k_is)
  (case pg_Block=>k_is)
  (case hd_Block=>k_is)
  (case po_Block=>k_is)
  (case sa_Block=>k_is)
  (case mk_Block=>k_is)
  (case kc_Block=>k_is)
  (case na_Block_word=>k_is)
  (case na_Block_body=>k_is)
  (case na_Block_other=>k_is)
  (case t1_Block=>k_is)
  (case t2_Block=>k_is)
  (case t3_Block=>k_is)
  (case t4_Block=>k_is)
  (case pg_PlainRun=>k_is)
  (case hd_PlainRun=>k_is)
  (case po_PlainRun=>k_is)
  (case sa_PlainRun=>k_is)
  (case mk_PlainRun=>k_is)
  (case kc_PlainRun=>k_is)
  (case na_PlainRun_firsts=>k_is)
  (case na_PlainRun_most=>k_is)
  (case na_PlainRun_told=>k_is)
  (case na_PlainRun_log=>k_is)
  (case t1_PlainRun=>k_is)
  (case t2_PlainRun=>k_is)
  (case t3_PlainRun=>k_is)
  (case t4_PlainRun=>k_is)
  (case v_SMALL_LETTERS=>k_is)
  (case v_FIGURES=>k_is)
  (case v_LONGEST_NAME=>k_is)
  (case v_LONGEST_NUMBER=>k_is)
  (case v_DEEPEST_EXPR=>k_is)
  (case v_MOST_BLOCKS=>k_is)
  (case v_ROUND=>k_is)
  (case v_MOST_RUNNINGS=>k_is)
  (case a_LANGUAGE_WORDS=>k_is)
  (case l_LANGUAGE_WORDS=>k_is)
  (case a_OPERATORS=>k_is)
  (case l_OPERATORS=>k_is)
  (case a_PLAIN_KINDS=>k_is)
  (case l_PLAIN_KINDS=>k_is)
  (case ax_MakesError=>k_is)
  (case pg_MakesError=>k_is)
  (case pk_MakesError=>k_is)
  (case pb_MakesError=>k_is)
  (case t1_MakesError=>k_is)
  (case t2_MakesError=>k_is)
  (case t3_MakesError=>k_is)
  (case t4_MakesError=>k_is)
  (case ax_NoForm=>k_is)
  (case pg_NoForm=>k_is)
  (case pk_NoForm=>k_is)
  (case pb_NoForm=>k_is)
  (case t1_NoForm=>k_is)
  (case t2_NoForm=>k_is)
  (case t3_NoForm=>k_is)
  (case t4_NoForm=>k_is)
  (case ax_RunEnd=>k_is)
  (case pg_RunEnd=>k_is)
  (case pk_RunEnd=>k_is)
  (case pb_RunEnd=>k_is)
  (case t1_RunEnd=>k_is)
  (case t2_RunEnd=>k_is)
  (case t3_RunEnd=>k_is)
  (case t4_RunEnd=>k_is)
  (case a_Zw=>k_is)
  (case i_Zw=>k_is)
  (case l_Zw=>k_is)
  (case c_Zw'=>k_is)
  (case k_Zw=>k_is)
  (case a_Zx=>k_is)
  (case i_Zx=>k_is)
  (case l_Zx=>k_is)
  (case c_Zx'=>k_is)
  (case k_Zx=>k_is)
  (case mi_NoForm=>kernel_rfl)
  (case po_NoForm=>kernel_rfl)
  (case sa_NoForm=>k_is)
  (case hd_NoForm=>k_is)
  (case na_NoForm_at=>k_is)
  (case na_NoForm_what=>k_is)
  (case mi_RunEnd=>kernel_rfl)
  (case po_RunEnd=>kernel_rfl)
  (case sa_RunEnd=>k_is)
  (case hd_RunEnd=>k_is)
  (case na_RunEnd_outcome=>k_is)
  (case em_NoForm_NoForm=>kts_exm)
  (case em_RunEnd_RunEnd=>kts_exm)
  (case ki_NoForm_MakesError=>kit_is)
  (case z_len=>k_is)
  (case z_range=>k_is)
  (case z_int=>k_is)
  (case z_bool=>k_is)
  (case z_all=>k_is)
  (case z_min=>k_is)
  (case z_list=>k_is)
  (case z_enumerate=>k_is)
  (case z_isinstance=>k_is)
  (case z_tuple=>k_is)
  (case z_set=>k_is)
  (case z_str=>k_is)
  (case z_max=>k_is)
  (case z_dict=>k_is)
  (case z_zip=>k_is)
