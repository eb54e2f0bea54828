import PyProof.Rows.All
import Wide.All
import OpenK.AllK
import Wide.FinOn
import Lean
import PyProof.EqAt
import PyProof.EqKinds
import PyProof.TupleCall
import PyProof.Rows.BitMore
import KE.IntBitsLaws
import KE.KRevIter
import KE.KTryMore
import PyProof.StrLawsRepr
import KE.KIsAll
import KE.RegKIsAll
import KE.RegKTryMore
import PyProof.StrCalls2
import PyProof.StrLawsTight
import PyProof.StrLawsChain
import PyProof.Rows.StrItems
import PyProof.Rows.StrWeight2
import PyProof.EnumMake
import PyProof.EnumStmt
import PyProof.Rows.EnumRows
import PyProof.Rows.ZipGen
import PyProof.Rows.FactsT2
import PyProof.IsiH_list
import PyProof.AttrMiss
import KE.KDictOf
import PyProof.Rows.EqDataRows
import PyProof.P3Eq
import PyProof.Rows.SortRev
import KE.KSortTup
import PyProof.StrWalks
import KE.KIntText
import KE.IntTextLaws
import PyProof.CallStr
import KE.KDictSum
import PyProof.SumWalk
import PyProof.Rows.InDataRows
import PySem.Challenge.RW_manymakes_k43_calls_and_gives
set_option Elab.async false
set_option maxRecDepth 100000
set_option linter.all false
set_option maxHeartbeats 4000000
section
open PySem PySem.W
noncomputable def Mm.hdTr {α:Type} (_:α):Prop:=True
noncomputable def Mm.hdPk {α:Type} (s:α) (_:Mm.hdTr s):α:=s
theorem Mm.hdOf {α:Type} {a s:α} (_:a=s):Mm.hdTr s:=trivial
noncomputable def K43.t0:Stmt:=Mm.hdPk (Stmt.Assign _ _ _) (Mm.hdOf (a:=PySem.Challenge.pw_manymakes_k43_calls_and_gives.main.body.getD 0 (Stmt.Pass ⟨0,0,0,0⟩)) rfl)
noncomputable def K43.t1:Stmt:=Mm.hdPk (Stmt.FunctionDef _ _ _ _ _ _ _ _ _ _) (Mm.hdOf (a:=PySem.Challenge.pw_manymakes_k43_calls_and_gives.main.body.getD 1 (Stmt.Pass ⟨0,0,0,0⟩)) rfl)
noncomputable def K43.t2:Stmt:=Mm.hdPk (Stmt.FunctionDef _ _ _ _ _ _ _ _ _ _) (Mm.hdOf (a:=PySem.Challenge.pw_manymakes_k43_calls_and_gives.main.body.getD 2 (Stmt.Pass ⟨0,0,0,0⟩)) rfl)
noncomputable def K43.t3:Stmt:=Mm.hdPk (Stmt.FunctionDef _ _ _ _ _ _ _ _ _ _) (Mm.hdOf (a:=PySem.Challenge.pw_manymakes_k43_calls_and_gives.main.body.getD 3 (Stmt.Pass ⟨0,0,0,0⟩)) rfl)
noncomputable def K43.t4:Stmt:=Mm.hdPk (Stmt.FunctionDef _ _ _ _ _ _ _ _ _ _) (Mm.hdOf (a:=PySem.Challenge.pw_manymakes_k43_calls_and_gives.main.body.getD 4 (Stmt.Pass ⟨0,0,0,0⟩)) rfl)
noncomputable def K43.t5:Stmt:=Mm.hdPk (Stmt.FunctionDef _ _ _ _ _ _ _ _ _ _) (Mm.hdOf (a:=PySem.Challenge.pw_manymakes_k43_calls_and_gives.main.body.getD 5 (Stmt.Pass ⟨0,0,0,0⟩)) rfl)
noncomputable def K43.t6:Stmt:=Mm.hdPk (Stmt.FunctionDef _ _ _ _ _ _ _ _ _ _) (Mm.hdOf (a:=PySem.Challenge.pw_manymakes_k43_calls_and_gives.main.body.getD 6 (Stmt.Pass ⟨0,0,0,0⟩)) rfl)
noncomputable def K43.t7:Stmt:=Mm.hdPk (Stmt.Assign _ _ _) (Mm.hdOf (a:=PySem.Challenge.pw_manymakes_k43_calls_and_gives.main.body.getD 7 (Stmt.Pass ⟨0,0,0,0⟩)) rfl)
noncomputable def K43.t8:Stmt:=Mm.hdPk (Stmt.FunctionDef _ _ _ _ _ _ _ _ _ _) (Mm.hdOf (a:=PySem.Challenge.pw_manymakes_k43_calls_and_gives.main.body.getD 8 (Stmt.Pass ⟨0,0,0,0⟩)) rfl)
noncomputable def K43.t9:Stmt:=Mm.hdPk (Stmt.FunctionDef _ _ _ _ _ _ _ _ _ _) (Mm.hdOf (a:=PySem.Challenge.pw_manymakes_k43_calls_and_gives.main.body.getD 9 (Stmt.Pass ⟨0,0,0,0⟩)) rfl)
noncomputable def K43.t10:Stmt:=Mm.hdPk (Stmt.FunctionDef _ _ _ _ _ _ _ _ _ _) (Mm.hdOf (a:=PySem.Challenge.pw_manymakes_k43_calls_and_gives.main.body.getD 10 (Stmt.Pass ⟨0,0,0,0⟩)) rfl)
noncomputable def K43.t11:Stmt:=Mm.hdPk (Stmt.FunctionDef _ _ _ _ _ _ _ _ _ _) (Mm.hdOf (a:=PySem.Challenge.pw_manymakes_k43_calls_and_gives.main.body.getD 11 (Stmt.Pass ⟨0,0,0,0⟩)) rfl)
noncomputable def K43.t12:Stmt:=Mm.hdPk (Stmt.FunctionDef _ _ _ _ _ _ _ _ _ _) (Mm.hdOf (a:=PySem.Challenge.pw_manymakes_k43_calls_and_gives.main.body.getD 12 (Stmt.Pass ⟨0,0,0,0⟩)) rfl)
noncomputable def K43.t13:Stmt:=Mm.hdPk (Stmt.FunctionDef _ _ _ _ _ _ _ _ _ _) (Mm.hdOf (a:=PySem.Challenge.pw_manymakes_k43_calls_and_gives.main.body.getD 13 (Stmt.Pass ⟨0,0,0,0⟩)) rfl)
noncomputable def K43.t14:Stmt:=Mm.hdPk (Stmt.Assign _ _ _) (Mm.hdOf (a:=PySem.Challenge.pw_manymakes_k43_calls_and_gives.main.body.getD 14 (Stmt.Pass ⟨0,0,0,0⟩)) rfl)
noncomputable def K43.t15:Stmt:=Mm.hdPk (Stmt.Assign _ _ _) (Mm.hdOf (a:=PySem.Challenge.pw_manymakes_k43_calls_and_gives.main.body.getD 15 (Stmt.Pass ⟨0,0,0,0⟩)) rfl)
noncomputable def K43.t16:Stmt:=Mm.hdPk (Stmt.FunctionDef _ _ _ _ _ _ _ _ _ _) (Mm.hdOf (a:=PySem.Challenge.pw_manymakes_k43_calls_and_gives.main.body.getD 16 (Stmt.Pass ⟨0,0,0,0⟩)) rfl)
noncomputable def K43.t17:Stmt:=Mm.hdPk (Stmt.FunctionDef _ _ _ _ _ _ _ _ _ _) (Mm.hdOf (a:=PySem.Challenge.pw_manymakes_k43_calls_and_gives.main.body.getD 17 (Stmt.Pass ⟨0,0,0,0⟩)) rfl)
noncomputable def K43.t18:Stmt:=Mm.hdPk (Stmt.FunctionDef _ _ _ _ _ _ _ _ _ _) (Mm.hdOf (a:=PySem.Challenge.pw_manymakes_k43_calls_and_gives.main.body.getD 18 (Stmt.Pass ⟨0,0,0,0⟩)) rfl)
noncomputable def K43.t19:Stmt:=Mm.hdPk (Stmt.FunctionDef _ _ _ _ _ _ _ _ _ _) (Mm.hdOf (a:=PySem.Challenge.pw_manymakes_k43_calls_and_gives.main.body.getD 19 (Stmt.Pass ⟨0,0,0,0⟩)) rfl)
noncomputable def K43.t20:Stmt:=Mm.hdPk (Stmt.Assign _ _ _) (Mm.hdOf (a:=PySem.Challenge.pw_manymakes_k43_calls_and_gives.main.body.getD 20 (Stmt.Pass ⟨0,0,0,0⟩)) rfl)
noncomputable def K43.t21:Stmt:=Mm.hdPk (Stmt.Assign _ _ _) (Mm.hdOf (a:=PySem.Challenge.pw_manymakes_k43_calls_and_gives.main.body.getD 21 (Stmt.Pass ⟨0,0,0,0⟩)) rfl)
noncomputable def K43.t22:Stmt:=Mm.hdPk (Stmt.Assign _ _ _) (Mm.hdOf (a:=PySem.Challenge.pw_manymakes_k43_calls_and_gives.main.body.getD 22 (Stmt.Pass ⟨0,0,0,0⟩)) rfl)
noncomputable def K43.t23:Stmt:=Mm.hdPk (Stmt.ClassDef _ _ _ _ _ _ _ _ _ _ _) (Mm.hdOf (a:=PySem.Challenge.pw_manymakes_k43_calls_and_gives.main.body.getD 23 (Stmt.Pass ⟨0,0,0,0⟩)) rfl)
noncomputable def K43.t24:Stmt:=Mm.hdPk (Stmt.FunctionDef _ _ _ _ _ _ _ _ _ _) (Mm.hdOf (a:=PySem.Challenge.pw_manymakes_k43_calls_and_gives.main.body.getD 24 (Stmt.Pass ⟨0,0,0,0⟩)) rfl)
noncomputable def K43.t25:Stmt:=Mm.hdPk (Stmt.FunctionDef _ _ _ _ _ _ _ _ _ _) (Mm.hdOf (a:=PySem.Challenge.pw_manymakes_k43_calls_and_gives.main.body.getD 25 (Stmt.Pass ⟨0,0,0,0⟩)) rfl)
noncomputable def K43.t26:Stmt:=Mm.hdPk (Stmt.FunctionDef _ _ _ _ _ _ _ _ _ _) (Mm.hdOf (a:=PySem.Challenge.pw_manymakes_k43_calls_and_gives.main.body.getD 26 (Stmt.Pass ⟨0,0,0,0⟩)) rfl)
noncomputable def K43.t27:Stmt:=Mm.hdPk (Stmt.FunctionDef _ _ _ _ _ _ _ _ _ _) (Mm.hdOf (a:=PySem.Challenge.pw_manymakes_k43_calls_and_gives.main.body.getD 27 (Stmt.Pass ⟨0,0,0,0⟩)) rfl)
noncomputable def K43.t28:Stmt:=Mm.hdPk (Stmt.FunctionDef _ _ _ _ _ _ _ _ _ _) (Mm.hdOf (a:=PySem.Challenge.pw_manymakes_k43_calls_and_gives.main.body.getD 28 (Stmt.Pass ⟨0,0,0,0⟩)) rfl)
noncomputable def K43.t29:Stmt:=Mm.hdPk (Stmt.Assign _ _ _) (Mm.hdOf (a:=PySem.Challenge.pw_manymakes_k43_calls_and_gives.main.body.getD 29 (Stmt.Pass ⟨0,0,0,0⟩)) rfl)
noncomputable def K43.t30:Stmt:=Mm.hdPk (Stmt.FunctionDef _ _ _ _ _ _ _ _ _ _) (Mm.hdOf (a:=PySem.Challenge.pw_manymakes_k43_calls_and_gives.main.body.getD 30 (Stmt.Pass ⟨0,0,0,0⟩)) rfl)
noncomputable def K43.t31:Stmt:=Mm.hdPk (Stmt.FunctionDef _ _ _ _ _ _ _ _ _ _) (Mm.hdOf (a:=PySem.Challenge.pw_manymakes_k43_calls_and_gives.main.body.getD 31 (Stmt.Pass ⟨0,0,0,0⟩)) rfl)
noncomputable def K43.t32:Stmt:=Mm.hdPk (Stmt.FunctionDef _ _ _ _ _ _ _ _ _ _) (Mm.hdOf (a:=PySem.Challenge.pw_manymakes_k43_calls_and_gives.main.body.getD 32 (Stmt.Pass ⟨0,0,0,0⟩)) rfl)
noncomputable def K43.t33:Stmt:=Mm.hdPk (Stmt.FunctionDef _ _ _ _ _ _ _ _ _ _) (Mm.hdOf (a:=PySem.Challenge.pw_manymakes_k43_calls_and_gives.main.body.getD 33 (Stmt.Pass ⟨0,0,0,0⟩)) rfl)
noncomputable def K43.t34:Stmt:=Mm.hdPk (Stmt.FunctionDef _ _ _ _ _ _ _ _ _ _) (Mm.hdOf (a:=PySem.Challenge.pw_manymakes_k43_calls_and_gives.main.body.getD 34 (Stmt.Pass ⟨0,0,0,0⟩)) rfl)
noncomputable def K43.t35:Stmt:=Mm.hdPk (Stmt.FunctionDef _ _ _ _ _ _ _ _ _ _) (Mm.hdOf (a:=PySem.Challenge.pw_manymakes_k43_calls_and_gives.main.body.getD 35 (Stmt.Pass ⟨0,0,0,0⟩)) rfl)
noncomputable def K43.t36:Stmt:=Mm.hdPk (Stmt.FunctionDef _ _ _ _ _ _ _ _ _ _) (Mm.hdOf (a:=PySem.Challenge.pw_manymakes_k43_calls_and_gives.main.body.getD 36 (Stmt.Pass ⟨0,0,0,0⟩)) rfl)
noncomputable def K43.t37:Stmt:=Mm.hdPk (Stmt.FunctionDef _ _ _ _ _ _ _ _ _ _) (Mm.hdOf (a:=PySem.Challenge.pw_manymakes_k43_calls_and_gives.main.body.getD 37 (Stmt.Pass ⟨0,0,0,0⟩)) rfl)
noncomputable def K43.t38:Stmt:=Mm.hdPk (Stmt.FunctionDef _ _ _ _ _ _ _ _ _ _) (Mm.hdOf (a:=PySem.Challenge.pw_manymakes_k43_calls_and_gives.main.body.getD 38 (Stmt.Pass ⟨0,0,0,0⟩)) rfl)
noncomputable def K43.t39:Stmt:=Mm.hdPk (Stmt.FunctionDef _ _ _ _ _ _ _ _ _ _) (Mm.hdOf (a:=PySem.Challenge.pw_manymakes_k43_calls_and_gives.main.body.getD 39 (Stmt.Pass ⟨0,0,0,0⟩)) rfl)
noncomputable def K43.t40:Stmt:=Mm.hdPk (Stmt.FunctionDef _ _ _ _ _ _ _ _ _ _) (Mm.hdOf (a:=PySem.Challenge.pw_manymakes_k43_calls_and_gives.main.body.getD 40 (Stmt.Pass ⟨0,0,0,0⟩)) rfl)
noncomputable def K43.sc:Scope:=Mm.hdPk (Scope.mk _ _ _ _ _) (Mm.hdOf (a:=PySem.Challenge.pw_manymakes_k43_calls_and_gives.main.scope) rfl)
noncomputable def K43.pw:Program:=Mm.hdPk (Program.mk (Module.mk (K43.t0::K43.t1::K43.t2::K43.t3::K43.t4::K43.t5::K43.t6::K43.t7::K43.t8::K43.t9::K43.t10::K43.t11::K43.t12::K43.t13::K43.t14::K43.t15::K43.t16::K43.t17::K43.t18::K43.t19::K43.t20::K43.t21::K43.t22::K43.t23::K43.t24::K43.t25::K43.t26::K43.t27::K43.t28::K43.t29::K43.t30::K43.t31::K43.t32::K43.t33::K43.t34::K43.t35::K43.t36::K43.t37::K43.t38::K43.t39::K43.t40::List.nil) K43.sc _ _ _) _ _ _ _ _) (Mm.hdOf (a:=PySem.Challenge.pw_manymakes_k43_calls_and_gives) rfl)
noncomputable def K43.rw:OpenLaw:=Mm.hdPk { prog:=K43.pw,name:=_,about:=_,foot:=_,most:=_,bound:=_,writes:=_ } (Mm.hdOf (a:=PySem.Challenge.rw_manymakes_k43_calls_and_gives) rfl)
theorem K43.rwe:K43.rw=PySem.Challenge.rw_manymakes_k43_calls_and_gives:=rfl
end
section
open PySem PySem.W PyProof.Rows
theorem K43.pwe:PySem.Challenge.pw_manymakes_k43_calls_and_gives=K43.pw:=rfl
noncomputable def K43.vw:Program:={ K43.pw with main:={ K43.pw.main with body:=K43.t1::K43.t2::K43.t3::K43.t4::K43.t5::K43.t6::K43.t8::K43.t9::K43.t10::K43.t11::K43.t12::K43.t13::K43.t14::K43.t16::K43.t17::K43.t18::K43.t19::K43.t21::K43.t22::K43.t23::K43.t24::K43.t25::K43.t26::K43.t27::K43.t28::K43.t30::K43.t31::K43.t32::K43.t33::K43.t34::K43.t35::K43.t36::K43.t37::K43.t38::K43.t39::K43.t40::List.nil } }
theorem Mm.keepIt (_:Hook) {p:Prop} (h:p):p:=h
section
local macro_rules | `(tactic| o_head $H)=>`(tactic| exact Mm.keepIt $H (by assumption))
set_option maxHeartbeats 0 in
theorem K43.pre (h:(OpenLaw.row PySem.Challenge.rw_manymakes_k43_calls_and_gives).Holds):(OpenLaw.row PySem.Challenge.rw_manymakes_k43_calls_and_gives).Holds:=by k_head
end
def K43.as:List Addr:=[2,3,15,17,18,20,21,22,24,25,27,28,29,31,32,34,35,36,39,40,41,43,44,46,47,48,51,52,53,56,57,58,61,62,63,65,66,68,69,70,73,74,75,78,79,80,83,84,85,86,88,89,91,92,93,95,96,98,99,100,102,103,105,106,107,109,110,112,113,114,115,123,125,126,128,129,130,132,133,135,136,137,139,140,142,143,144,147,148,149,152,153,154,156,157,159,160,161,163,164,166,167,168,171,172,173,175,176,178,179,180,183,184,185,186,187,188,189,192,195,196,197,199,200,202,203,204,206,207,209,210,211,213,214,216,217,218,221,222,223,225,226,228,229,230,232,233,235,236,237,240,241,242,245,246,247,250,251,252,255,256,257,260,261,262,264,265,267,268,269,271,272,274,275,276,279,280,281,283,284,286,287]
theorem K43.ase (P:Params):K43.as=(K43.pre.heap_1 P).map (·.1):=by kernel_rfl
theorem Mm.both_true {a b:Bool} (h:(a&&b)=true):a=true/\b=true:=by cases a<;>cases b<;>simp_all
noncomputable abbrev K43.xt:Shared->Bool:=fun s=>(xlAt K43.vw [] s)&&(recOk (RowW.records (OpenRow.toRowW (OpenLaw.row K43.rw))) s)
noncomputable def K43.oe (w:World):Option Shared :=
 (importEnds treeTable (opening K43.pw) w 3706 (start (opening K43.pw)).1 (start (opening K43.pw)).2).bind fun s=>(fenceModules? K43.pw s).bind fun s₀ =>
 match s₀.heap.isNs mainGlobals&&s₀.gens.size == 0 with
 | true=>(topRun treeTable K43.pw w s₀.heap.objs.size (s₀.heap.nsMap mainGlobals "__annotations__") 3706 s₀ (topStub K43.pw)).bind fun s₁=>match staticsOk (importedModules K43.pw.main.body) s₀.heap s₁.heap&&namesBound K43.pw s₁.heap&&gensDone s₁&&laidKept s₀.heap s₁.heap with
   | true=>some s₁
   | false=>none
 | false=>none
theorem Mm.bindAss {α β γ:Type} (o:Option α) (f:α->Option β) (g:β->Option γ):(o.bind f).bind g=o.bind fun s=>(f s).bind g:=by cases o<;>rfl
theorem K43.oe_eq (w:World):openEnds treeTable PySem.Challenge.pw_manymakes_k43_calls_and_gives w 3706=K43.oe w:=by
 rw [K43.pwe]
 show ((importEnds _ _ _ _ _ _).bind _).bind _=_
 rw [Mm.bindAss]
 rfl
noncomputable def K43.ga (w:World):=Option.map (openSeen K43.vw ["MAKES","ASKS"] (importedModules K43.pw.main.body) K43.xt true) (K43.oe w)
noncomputable def K43.gb:=some (openGood K43.vw ["MAKES","ASKS"])
noncomputable def K43.oa (w:World):Option (List (Option Obj)):=Option.map (fun s=>K43.as.map s.heap.get?) (K43.oe w)
def Mm.hdTt {α:Type} (_:α):Bool:=true
theorem K43.lay1:Mm.hdTt K43.ga=true:=by k_qdec
theorem K43.lay2:Mm.hdTt K43.gb=true:=by k_qdec
theorem K43.lay3:Mm.hdTt K43.oa=true:=by k_qdec
theorem K43.la0 (w:World):PySem.W.Fast.tw13121388959471348647 (w.withFollow "special-get-raises" false)=PySem.W.Fast.tw8025032985091030729:=by kernel_rfl
theorem K43.lb0 (w:World):PySem.W.Fast.tw5130262733995282548 (w.withFollow "special-get-raises" false)=some ((K43.pre.heap_1 (w.withFollow "special-get-raises" false).params).map fun p=>some p.2):=by kernel_rfl
theorem K43.la1 (w:World):PySem.W.Fast.tw13121388959471348647 (w.withFollow "special-get-raises" true)=PySem.W.Fast.tw8025032985091030729:=by kernel_rfl
theorem K43.lb1 (w:World):PySem.W.Fast.tw5130262733995282548 (w.withFollow "special-get-raises" true)=some ((K43.pre.heap_1 (w.withFollow "special-get-raises" true).params).map fun p=>some p.2):=by kernel_rfl
theorem K43.la (w:World):PySem.W.Fast.tw13121388959471348647 w=PySem.W.Fast.tw8025032985091030729:=byRow2 "special-get-raises" (P:=fun w=>PySem.W.Fast.tw13121388959471348647 w=PySem.W.Fast.tw8025032985091030729) K43.la0 K43.la1 w
theorem K43.lb (w:World):PySem.W.Fast.tw5130262733995282548 w=some ((K43.pre.heap_1 w.params).map fun p=>some p.2):=byRow2 "special-get-raises" (P:=fun w=>PySem.W.Fast.tw5130262733995282548 w=some ((K43.pre.heap_1 w.params).map fun p=>some p.2)) K43.lb0 K43.lb1 w
theorem Mm.twoM {α β γ:Type} {o:Option α} {f:α->β} {g:α->γ} {b:β} {c:γ} (h1:o.map f=some b) (h2:o.map g=some c):o.map (fun s=>(f s,g s))=some (b,c):=by
 cases o with
 | none=>cases h1
 | some s =>
  have h1:=Option.some.inj h1
  have h2:=Option.some.inj h2
  show some (f s,g s)=_
  rw [h1,h2]
theorem K43.left:LeftO PySem.Challenge.pw_manymakes_k43_calls_and_gives K43.vw ["MAKES","ASKS"] K43.xt (kHook K43.pre.heap_1 K43.as K43.ase).obs (kHook K43.pre.heap_1 K43.as K43.ase).val 3706:=fun w=>by
 rw [K43.oe_eq]
 exact Mm.twoM ((congrFun PySem.W.Fast.te13121388959471348647 w).trans ((K43.la w).trans PySem.W.Fast.te8025032985091030729.symm)) ((congrFun PySem.W.Fast.te5130262733995282548 w).trans (K43.lb w))
end
namespace L2
open PySem PySem.Spec PyProof.Rows
noncomputable abbrev Key:=Sum Int Str
noncomputable def keyIs:Key->Value->Bool
 | .inl k,v=>Value.isInt k v
 | .inr x,v=>Value.isStrOf x v
noncomputable def keyH (w:World):Key->Int
 | .inl k=>hashInt k
 | .inr x=>hashStr w x
theorem keyIs_shape:∀ {k:Key} {v:Value},keyIs k v=true->(∃ i t,k=Sum.inl i/\v=Value.int i t)∨(∃ x t,k=Sum.inr x/\v=Value.str x t)
 | .inl i,v,h=>by
  obtain ⟨t,e⟩:=Value.isInt_shape (k:=i) (v:=v) h
  exact .inl ⟨i,t,rfl,e⟩
 | .inr x,v,h=>by
  obtain ⟨t,e⟩:=Value.isStrOf_shape (x:=x) (v:=v) h
  exact .inr ⟨x,t,rfl,e⟩
theorem keyIs_int (i:Int) (t:Tok):keyIs (.inl i) (.int i t)=true:=by simp [keyIs,Value.isInt]
theorem keyIs_str (x:Str) (t:Tok):keyIs (.inr x) (.str x t)=true:=by simp [keyIs,Value.isStrOf]
theorem key_ll (a b:Int):decide ((Sum.inl a:Key)=Sum.inl b)=(a == b):=by
 by_cases e:a=b
 ·subst e;simp
 ·have h:¬ (Sum.inl a:Key)=Sum.inl b:=fun q=>e (Sum.inl.inj q)
  rw [decide_eq_false h]
  exact (beq_eq_false_iff_ne.mpr e).symm
theorem key_rr (a b:Str):decide ((Sum.inr a:Key)=Sum.inr b)=decide (a=b):=by
 by_cases e:a=b
 ·subst e;simp
 ·have h:¬ (Sum.inr a:Key)=Sum.inr b:=fun q=>e (Sum.inr.inj q)
  rw [decide_eq_false h,decide_eq_false e]
theorem key_lr (a:Int) (b:Str):decide ((Sum.inl a:Key)=Sum.inr b)=false:=decide_eq_false (fun q=>nomatch q)
theorem key_rl (a:Str) (b:Int):decide ((Sum.inr a:Key)=Sum.inl b)=false:=decide_eq_false (fun q=>nomatch q)
noncomputable def mixKind (prog:Program) (w:World):PySem.KeyKind prog w Key where
 is:=keyIs
 hash:=keyH w
 inj:=fun v a b ha hb=>by
  rcases keyIs_shape ha with ⟨i,t,rfl,rfl⟩ | ⟨x,t,rfl,rfl⟩
  ·rcases keyIs_shape hb with ⟨j,u,rfl,e⟩ | ⟨y,u,rfl,e⟩
   ·injection e with e1 _;rw [e1]
   ·exact nomatch e
  ·rcases keyIs_shape hb with ⟨j,u,rfl,e⟩ | ⟨y,u,rfl,e⟩
   ·exact nomatch e
   ·injection e with e1 _;rw [e1]
 byValue:=fun k v h=>by
  rcases keyIs_shape h with ⟨i,t,rfl,rfl⟩ | ⟨x,t,rfl,rfl⟩<;>rfl
 pyHash:=fun hv h=>by
  rcases keyIs_shape hv with ⟨i,t,rfl,rfl⟩ | ⟨x,t,rfl,rfl⟩
  ·exact wpAny_pyHash_int h
  ·exact wpAny_pyHash_str h
 eqBool:=fun hu hv h=>by
  rcases keyIs_shape hu with ⟨i,t,rfl,rfl⟩ | ⟨x,t,rfl,rfl⟩
  ·rcases keyIs_shape hv with ⟨j,u,rfl,rfl⟩ | ⟨y,u,rfl,rfl⟩
   ·rw [key_ll] at h;exact wpAny_eqBool_int h
   ·rw [key_lr] at h;exact SeqAt.EqAt.int_str i t y u _ _ _ _ h
  ·rcases keyIs_shape hv with ⟨j,u,rfl,rfl⟩ | ⟨y,u,rfl,rfl⟩
   ·rw [key_rl] at h;exact SeqAt.EqAt.str_int x t j u _ _ _ _ h
   ·rw [key_rr] at h;exact wpAny_eqBool_str h
 «strs»:=fun k x t v h=>by
  rcases keyIs_shape h with ⟨i,u,rfl,e⟩ | ⟨y,u,rfl,e⟩
  ·exact nomatch e
  ·injection e with e1 _
   subst e1
   cases v<;>rfl
theorem mixKind_int (prog:Program) (w:World) (i:Int) (t:Tok):(mixKind prog w).is (.inl i) (.int i t)=true:=keyIs_int i t
theorem mixKind_str (prog:Program) (w:World) (x:Str) (t:Tok):(mixKind prog w).is (.inr x) (.str x t)=true:=keyIs_str x t
end L2
namespace L2
open PySem PySem.Spec PyProof.Rows
inductive V where
 | non | bl (b:Bool) | int (i:Int) | str (x:Str) | byt (b:Array UInt8) | flt (b:UInt64) | ref (a:Addr) | ty (n:String)
 deriving DecidableEq
noncomputable def RelV:V->Value->Prop
 | .non,u=>u=Value.none
 | .bl b,u=>u=Value.bool b
 | .int i,u=>∃ t,u=Value.int i t
 | .str x,u=>∃ t,u=Value.str x t
 | .byt b,u=>∃ t,u=Value.bytes b t
 | .flt b,u=>∃ t,u=Value.float b t
 | .ref a,u=>u=Value.ref a
 | .ty n,u=>u=Value.type n
noncomputable abbrev Vals:List V->List Value->Prop:=Paired RelV
theorem Vals.length {xs:List V} {us:List Value} (r:Vals xs us):xs.length=us.length:=Paired.length r
theorem Vals.get:∀ {xs:List V} {us:List Value} {i:Nat} {x:V},Vals xs us->xs[i]?=some x->∃ u,us[i]?=some u/\RelV x u
 | _,_,_,_,.nil,e=>by simp at e
 | _,_,0,_,.cons r _,e=>by simp at e;subst e;exact ⟨_,rfl,r⟩
 | _,_,i+1,x,.cons _ t,e=>by
  obtain ⟨u,h1,h2⟩:=Vals.get (i:=i) (x:=x) t (by simpa using e)
  exact ⟨u,by simpa using h1,h2⟩
theorem Vals.append:∀ {xs ys:List V} {us ws:List Value},Vals xs us->Vals ys ws->Vals (xs++ys) (us++ws)
 | _,_,_,_,.nil,s=>s
 | _,_,_,_,.cons r t,s=>.cons r (Vals.append t s)
theorem Vals.take:∀ {xs:List V} {us:List Value} (n:Nat),Vals xs us->Vals (xs.take n) (us.take n)
 | _,_,0,_=>.nil
 | _,_,_+1,.nil=>.nil
 | _,_,n+1,.cons r t=>.cons r (Vals.take n t)
theorem Vals.drop:∀ {xs:List V} {us:List Value} (n:Nat),Vals xs us->Vals (xs.drop n) (us.drop n)
 | _,_,0,r=>r
 | _,_,_+1,.nil=>.nil
 | _,_,n+1,.cons _ t=>Vals.drop n t
noncomputable def RelO:Option V->Option Value->Prop
 | some v,some u=>RelV v u
 | none,none=>True
 | _,_=>False
noncomputable def KV {κ:Type}:List (κ × V)->List (κ × Value)->Prop:=Paired fun (p:κ × V) (q:κ × Value)=>p.1=q.1/\RelV p.2 q.2
noncomputable def kV:Key->V
 | .inl i=>.int i
 | .inr x=>.str x
inductive HO where
 | lst (xs:List V)
 | tup (xs:List V)
 | dK (kvs:List (Key × V)) | dT (kvs:List (List Key × V))
 | set (S:Int->Bool) (n:Nat)
 | ins (C dx:Addr) (fs:List (Str × V))
 | own (x:Addr)
 | xd (fs:List (Str × V))
 | met (f x:Addr)
 | rng (lo hi:Int)
 | frz (o:Obj) (u:HO)
 | tbl (ps:Array Value)
 | ext (φ:Heap->Prop)
noncomputable abbrev Hp:=Addr->Option HO
noncomputable def upd (H:Hp) (a:Addr) (o:HO):Hp:=fun b=>if b=a then some o else H b
theorem upd_same {H:Hp} {a:Addr} {o:HO}:upd H a o a=some o:=by unfold upd;rw [if_pos rfl]
theorem upd_ne {H:Hp} {a b:Addr} {o:HO} (h:b≠a):upd H a o b=H b:=by unfold upd;rw [if_neg h]
theorem ne_of {H:Hp} {a b:Addr} {o u:HO} (h:H a=some o) (h':H b=some u) (d:o≠u):a≠b:=by
 intro e;subst e;rw [h] at h';exact d (Option.some.inj h')
theorem ne_of_none {H:Hp} {a b:Addr} {o:HO} (h:H a=some o) (h':H b=none):a≠b:=by
 intro e;subst e;rw [h] at h';cases h'
section
variable (P:Program) (w:World)
noncomputable def ObjOk (H:Hp) (h:Heap) (a:Addr):HO->Prop
 | .lst xs=>xs.length<=sizeLine/\∃ (its:List Value) (n:Nat),Vals xs its/\h.get? a=some { cls:=.type "list",data:=.seq its.toArray n }
 | .tup xs=>xs.length<=sizeLine/\∃ its:List Value,Vals xs its/\IsTup h a its.toArray
 | .dK kvs=>kvs.length<=sizeLine/\(a == sysModules)=false/\∃ vs,KV kvs vs/\h.DictOf (mixKind P w) a vs
 | .dT kvs=>kvs.length<=sizeLine/\(a == sysModules)=false/\∃ xs:List (List Key × Addr × Value),
   Paired (fun (p:List Key × V) (q:List Key × Addr × Value)=>p.1=q.1/\H q.2.1=some (.tup (p.1.map kV))/\RelV p.2 q.2.2) kvs xs /\
   ∃ o es ep,h.get? a=some o/\o.ExactDict/\o.data=.dict es ep/\es.toList=xs.map (entryOfKey (tupleKind (mixKind P w)))/\(xs.map (·.1)).Nodup
 | .set S n=>h.SetOf (intKind P w) a S n
 | .ins C dx fs=>H dx=some (.own a)/\fs.length<=1000/\dx≠a/\h.get? a=some (PySem.W.instObj C dx) /\
   ∃ mA,h.Ns1 dx mA/\(∀ f,RelO (fs.lookup f) (mA f))/\PySem.Within mA (fs.map (·.1))
 | .own _=>∃ o,h.get? a=some o
 | .xd fs=>∃ mA,h.Ns1 a mA/\∀ f,RelO (fs.lookup f) (mA f)
 | .rng lo hi=>∃ t u v,h.get? a=some { cls:=.type "range",data:=.fields #[.int lo t,.int hi u,.int 1 v] }
 | .frz o u=>h.get? a=some o/\ObjOk H h a u
 | .tbl ps=>h.get? a=some { cls:=.none,data:=.fields ps }
 | .met f x=>h.get? a=some (PySem.W.methodObj (.ref f) (.ref x))
 | .ext φ=>φ h/\(∃ o,h.get? a=some o)/\∀ h1 h2:Heap,φ h1->(∀ o,h1.get? a=some o->h2.get? a=some o)->φ h2
noncomputable def HOk (H:Hp) (h:Heap):Prop:=∀ a o,H a=some o->ObjOk P w H h a o
end
section
variable {P:Program} {w:World} {H H':Hp} {h h':Heap} {a:Addr} {o:HO}
theorem ObjOk.lt (x:ObjOk P w H h a o):a<h.objs.size:=by
 cases o with
 | lst xs=>obtain ⟨_,_,_,_,e⟩:=x;exact Heap.lt_size e
 | tup xs=>obtain ⟨_,_,_,p⟩:=x;exact p.lt
 | dK kvs=>obtain ⟨_,_,_,_,o,_,_,e,_⟩:=x;exact Heap.lt_size e
 | dT kvs=>obtain ⟨_,_,_,_,o,_,_,e,_⟩:=x;exact Heap.lt_size e
 | set S n=>obtain ⟨o,_,_,_,e,_⟩:=x;exact Heap.lt_size e
 | ins C dx fs=>obtain ⟨_,_,_,e,_⟩:=x;exact Heap.lt_size e
 | own y=>obtain ⟨_,e⟩:=x;exact Heap.lt_size e
 | xd fs=>obtain ⟨_,⟨_,_,_,e,_⟩,_⟩:=x;exact Heap.lt_size e
 | rng lo hi=>obtain ⟨_,_,_,e⟩:=x;exact Heap.lt_size e
 | frz ob u=>obtain ⟨e,_⟩:=x;exact Heap.lt_size e
 | tbl ps=>exact Heap.lt_size (show h.get? a=some _ from x)
 | met f y=>exact Heap.lt_size (show h.get? a=some _ from x)
 | ext φ=>obtain ⟨_,⟨_,e⟩,_⟩:=x;exact Heap.lt_size e
theorem Paired.mapP {α β:Type} {F G:α->β->Prop}:∀ {l₁:List α} {l₂:List β},Paired F l₁ l₂->(∀ a b,F a b->G a b)->Paired G l₁ l₂
 | _,_,.nil,_=>.nil
 | _,_,.cons r t,f=>.cons (f _ _ r) (Paired.mapP t f)
theorem ObjOk.stay (x:ObjOk P w H h a o) (k:∀ b u,(b=a∨H b=some (.own a))->h.get? b=some u->h'.get? b=some u)
  (ho:∀ b,H b=some (.own a)->H' b=some (.own a)) (ht:∀ b xs,H b=some (.tup xs)->H' b=some (.tup xs)):ObjOk P w H' h' a o:=by
 induction o with
 | lst xs=>obtain ⟨z,its,n,r,e⟩:=x;exact ⟨z,its,n,r,k _ _ (.inl rfl) e⟩
 | tup xs=>obtain ⟨z,its,r,ob,e,c⟩:=x;exact ⟨z,its,r,ob,k _ _ (.inl rfl) e,c⟩
 | dK kvs=>obtain ⟨z,y,vs,r,ob,es,ep,e,c⟩:=x;exact ⟨z,y,vs,r,ob,es,ep,k _ _ (.inl rfl) e,c⟩
 | dT kvs =>
  obtain ⟨z,y,xs,r,ob,es,ep,e,c⟩:=x
  exact ⟨z,y,xs,Paired.mapP r fun p q z=>⟨z.1,ht _ _ z.2.1,z.2.2⟩,ob,es,ep,k _ _ (.inl rfl) e,c⟩
 | set S n=>obtain ⟨ob,es,ep,t,e,c⟩:=x;exact ⟨ob,es,ep,t,k _ _ (.inl rfl) e,c⟩
 | ins C dx fs =>
  obtain ⟨d,z,ne,e,mA,⟨od,es,ep,e2,c⟩,r⟩:=x
  exact ⟨ho _ d,z,ne,k _ _ (.inl rfl) e,mA,⟨od,es,ep,k _ _ (.inr d) e2,c⟩,r⟩
 | own y=>obtain ⟨ob,e⟩:=x;exact ⟨ob,k _ _ (.inl rfl) e⟩
 | xd fs=>obtain ⟨mA,⟨od,es,ep,e,c⟩,r⟩:=x;exact ⟨mA,⟨od,es,ep,k _ _ (.inl rfl) e,c⟩,r⟩
 | rng lo hi=>obtain ⟨t,u,v,e⟩:=x;exact ⟨t,u,v,k _ _ (.inl rfl) e⟩
 | frz ob u ih=>obtain ⟨e,q⟩:=x;exact ⟨k _ _ (.inl rfl) e,ih q⟩
 | tbl ps =>
  have e:h.get? a=some { cls:=.none,data:=.fields ps }:=x
  show h'.get? a=some { cls:=.none,data:=.fields ps }
  exact k a _ (.inl rfl) e
 | met f y =>
  have e:h.get? a=some (PySem.W.methodObj (.ref f) (.ref y)):=x
  show h'.get? a=some (PySem.W.methodObj (.ref f) (.ref y))
  exact k a _ (.inl rfl) e
 | ext φ=>obtain ⟨p,⟨o,e⟩,st⟩:=x;exact ⟨st _ _ p fun o q=>k _ _ (.inl rfl) q,⟨o,k _ _ (.inl rfl) e⟩,st⟩
theorem HOk.lt (x:HOk P w H h) (e:H a=some o):a<h.objs.size:=(x a o e).lt
theorem HOk.fresh (x:HOk P w H h) (e:h.objs.size<=a):H a=none:=by
 cases q:H a with
 | none=>rfl
 | some u=>exact absurd (Nat.lt_of_lt_of_le (x.lt q) e) (Nat.lt_irrefl _)
theorem HOk.kept (x:HOk P w H h) (k:∀ b u,h.get? b=some u->h'.get? b=some u):HOk P w H h':=fun a o e =>
 (x a o e).stay (fun b u _ q=>k b u q) (fun _ q=>q) fun _ _ q=>q
theorem HOk.laid (x:HOk P w H h) (k:∀ b u,h.get? b=some u->h'.get? b=some u) (hp:h.objs.size<=a) (new:ObjOk P w (upd H a o) h' a o):HOk P w (upd H a o) h':=fun b u e=>by
 have hn:=x.fresh hp
 by_cases hb:b=a
 ·subst hb;rw [upd_same] at e;cases e;exact new
 ·rw [upd_ne hb] at e
  exact (x b u e).stay (fun c v _ q=>k c v q) (fun c q=>by rw [upd_ne (ne_of_none q hn)];exact q) fun c xs q=>by rw [upd_ne (ne_of_none q hn)];exact q
end
noncomputable def Rd (H:Hp) (a:Addr) (u:HO):Prop:=H a=some u∨∃ o,H a=some (.frz o u)
theorem Rd.ok {P:Program} {w:World} {H:Hp} {h:Heap} {a:Addr} {u:HO} (r:Rd H a u) (x:HOk P w H h):ObjOk P w H h a u:=by
 rcases r with r | ⟨o,r⟩
 ·exact x a u r
 ·obtain ⟨_,q⟩:=x a _ r
  exact q
noncomputable def Mut:Option HO->Prop
 | some (.lst _)=>True
 | some (.dK _)=>True
 | some (.dT _)=>True
 | some (.set _ _)=>True
 | some (.ins _ _ _)=>True
 | some (.ext _)=>True
 | _=>False
section
variable {P:Program} {w:World} {H:Hp} {h h':Heap} {x e:Addr} {o':HO}
theorem HOk.write (ok:HOk P w H h) (mu:Mut (H x)) (he:e=x∨H e=some (.own x)) (k:∀ b u,b≠e->h.get? b=some u->h'.get? b=some u) (heo:∃ u,h'.get? e=some u)
  (new:ObjOk P w (upd H x o') h' x o'):HOk P w (upd H x o') h':=fun b u q=>by
 have nown:∀ c y,H c=some (.own y)->c≠x:=fun c y r z=>by subst z;rw [r] at mu;exact mu
 have ntup:∀ c xs,H c=some (.tup xs)->c≠x:=fun c xs r z=>by subst z;rw [r] at mu;exact mu
 by_cases hb:b=x
 ·subst hb;rw [upd_same] at q;cases q;exact new
 ·rw [upd_ne hb] at q
  by_cases hbe:b=e
  ·have q':H b=some (.own x):=by
    rcases he with z | z
    ·exact absurd (hbe.trans z) hb
    ·rw [hbe];exact z
   rw [q] at q';cases q'
   obtain ⟨v,hv⟩:=heo
   exact ⟨v,by rw [hbe];exact hv⟩
  ·refine (ok b u q).stay (fun c v hc r=>k c v ?_ r) (fun c r=>by rw [upd_ne (nown c b r)];exact r) fun c xs r=>by rw [upd_ne (ntup c xs r)];exact r
   rcases hc with rfl | hc
   ·exact hbe
   ·rintro rfl
    rcases he with z | z
    ·exact nown c b hc z
    ·rw [hc] at z;cases z;exact hb rfl
end
structure Un (fs ex:List Addr) (H H':Hp) (h h':Heap):Prop where
 keep:∀ b o,h.get? b=some o->H b=none->b∉fs->b∉ex->h'.get? b=some o
 slot:∀ b o,h.get? b=some o->H b=none->b∈fs->b∉ex->∃ sl,h'.get? b=some { o with slots:=sl }
 free:∀ b o,h.get? b=some o->H b=none->b∉ex->H' b=none
 there:∀ b o,h.get? b=some o->b∉ex->∃ o',h'.get? b=some o'
 tups:∀ b xs,H b=some (.tup xs)->H' b=some (.tup xs)
 frzs:∀ b o u,H b=some (.frz o u)->H' b=some (.frz o u)
 tbls:∀ b ps,H b=some (.tbl ps)->∃ more,H' b=some (.tbl (ps++more))
section
variable {fs fs' ex ex':List Addr} {H H1 H2:Hp} {h h1 h2 h':Heap} {a x e:Addr} {o:HO}
theorem Un.any (u:Un fs ex H H1 h h1) {b:Addr} {ob:Obj} (q:h.get? b=some ob) (n:H b=none) (hx:b∉ex):∃ sl,h1.get? b=some { ob with slots:=sl }:=by
 by_cases hb:b∈fs
 ·exact u.slot b ob q n hb hx
 ·exact ⟨ob.slots,u.keep b ob q n hb hx⟩
theorem Un.kept (k:∀ b u,h.get? b=some u->h'.get? b=some u):Un fs ex H H h h' :=
 ⟨fun b ob q _ _ _=>k b ob q,fun b ob q _ _ _=>⟨ob.slots,k b ob q⟩,fun _ _ _ n _=>n,fun b ob q _=>⟨ob,k b ob q⟩,fun _ _ q=>q,fun _ _ _ q=>q,fun _ ps q=>⟨#[],by rw [q];simp⟩⟩
theorem Un.refl:Un fs ex H H h h:=Un.kept fun _ _ q=>q
theorem Un.laid (k:∀ b u,h.get? b=some u->h'.get? b=some u) (hp:h.objs.size<=a) (hn:H a=none):Un fs ex H (upd H a o) h h' where
 keep:=fun b u q _ _ _=>k b u q
 slot:=fun b u q _ _ _=>⟨u.slots,k b u q⟩
 free:=fun b u q n _=>by rw [upd_ne (Nat.ne_of_lt (Nat.lt_of_lt_of_le (Heap.lt_size q) hp))];exact n
 there:=fun b u q _=>⟨u,k b u q⟩
 tups:=fun b xs q=>by rw [upd_ne (ne_of_none q hn)];exact q
 frzs:=fun b u xs q=>by rw [upd_ne (ne_of_none q hn)];exact q
 tbls:=fun b ps q=>⟨#[],by rw [upd_ne (ne_of_none q hn),q];simp⟩
theorem Un.write (mu:Mut (H x)) (he:e=x∨H e=some (.own x)) (k:∀ b u,b≠e->h.get? b=some u->h'.get? b=some u) (heo:∃ u,h'.get? e=some u):Un fs ex H (upd H x o) h h':=by
 have hx:∀ b,H b=none->b≠x:=fun b n z=>by subst z;rw [n] at mu;exact mu
 have hb:∀ b,H b=none->b≠e:=fun b n z=>by
  subst z
  rcases he with r | r
  ·exact hx b n r
  ·rw [n] at r;cases r
 have hm:∀ b u,H b=some u->¬ Mut (some u)->b≠x:=fun b u q nm z=>by subst z;rw [q] at mu;exact nm mu
 refine ⟨fun b u q n _ _=>k b u (hb b n) q,fun b u q n _ _=>⟨u.slots,k b u (hb b n) q⟩,fun b u q n _=>by rw [upd_ne (hx b n)];exact n,fun b u q _=>?_,
  fun b xs q=>by rw [upd_ne (hm b _ q fun z=>z)];exact q,fun b u xs q=>by rw [upd_ne (hm b _ q fun z=>z)];exact q,fun b ps q=>⟨#[],by rw [upd_ne (hm b _ q fun z=>z),q];simp⟩⟩
 by_cases hbe:b=e
 ·subst hbe;exact heo
 ·exact ⟨u,k b u hbe q⟩
end
noncomputable def trk (h:Heap) (H:Hp):List Addr:=(List.range h.objs.size).filter fun a=>(H a).isSome
noncomputable def hidT (h:Heap) (H:Hp):Heap:=PySem.W.hideAll h (trk h H)
theorem hidT_size (h:Heap) (H:Hp):(hidT h H).objs.size=h.objs.size:=PySem.W.hideAll_size _ _
theorem hidT_get {h:Heap} {H:Hp} {b:Addr} {o:Obj} (e:h.get? b=some o) (n:H b=none):(hidT h H).get? b=some o :=
 PySem.W.hideAll_get _ e fun hm=>by
  have q:(H b).isSome=true:=(List.mem_filter.mp hm).2
  rw [n] at q;simp at q
theorem of_hidT {h:Heap} {H:Hp} {b:Addr} {o:Obj} (e:(hidT h H).get? b=some o):h.get? b=some o/\H b=none:=by
 have e':h.get? b=some o:=PySem.W.of_hideAll (trk h H) e
 refine ⟨e',?_⟩
 cases q:H b with
 | none=>rfl
 | some x =>
  have hm:b∈trk h H:=List.mem_filter.mpr ⟨List.mem_range.mpr (Heap.lt_size e'),by simp [q]⟩
  have z:(hidT h H).get? b=none:=PySem.W.hideAll_none (trk h H) hm
  rw [z] at e;cases e
end L2
namespace L2
open PySem PySem.Spec PyProof.Rows
structure Mod (K:PySem.W.Frag) (mg:Str->Option Value) (base:Heap):Prop where
 kin:K.In base
 glob:base.Ns mainGlobals mg
 blt:∃ mb,base.Ns builtinsNs mb/\∀ x:Str,x≠"__name__"->mb x=bootBuiltins x
 nolimit:base.NoLimit
structure Cx where
 prog:Program
 w:World
 K:PySem.W.Frag
 mg:Str->Option Value
 base:Heap
 A:Around
 N:List Str
 s₀:Shared
 H₀:Hp
 env:Env
 outer:List Env
 stack:List Env
 ex:List Addr
 fn:Str->Bool
 calm:Bool
 pn:List (Addr × Obj)
 xe:Value->Shared->Prop
noncomputable def frs (l:List Env):List Addr:=l.filterMap (·.frame)
noncomputable abbrev Cx.fs (X:Cx):List Addr:=frs X.outer
noncomputable def Vis (sc:Scope) (x:Str):Prop:=sc.names.lookup x=some .local∨sc.names.lookup x=some .cell∨sc.names.lookup x=some .free
noncomputable def Loc (sc:Scope) (x:Str):Prop:=sc.names.lookup x=some .local∨sc.names.lookup x=some .cell
noncomputable def Look (env:Env) (h:Heap) (m:Str->Option Value) (x:Str) (u:Value):Prop :=
 (env.kindOf x=some .local/\m x=some u)∨((env.kindOf x=some .cell∨env.kindOf x=some .free)/\∃ c,env.cells.lookup x=some c/\h.IsCell c (some u))
structure Cx.Ok (X:Cx):Prop where
 mod:Mod X.K X.mg X.base
 kind:X.env.scope.kind=.function
 glob:X.env.globals=mainGlobals
 blt:X.env.builtins=builtinsNs
 above:X.s₀.heap.objs.size<=X.env.locals
 inj:∀ x y c,X.env.cells.lookup x=some c->X.env.cells.lookup y=some c->x=y
 has:∀ x,(X.env.kindOf x=some .cell∨X.env.kindOf x=some .free)->∃ c,X.env.cells.lookup x=some c
 cab:∀ x c,X.fn x=true->X.env.cells.lookup x=some c->X.s₀.heap.objs.size<=c
 hd:X.calm=true->X.A.handled=none
 frames:X.A.frames=some X.stack
 stk:X.stack=X.outer∨(X.stack=X.env::X.outer/\X.env.frame=some X.env.locals)
 exf:∀ b∈X.ex,b≠X.env.locals/\∀ x c,X.env.cells.lookup x=some c->c≠b
 bs:∀ b o,X.base.get? b=some o->X.s₀.heap.get? b=some o/\X.H₀ b=none
 bsz:X.base.objs.size<=X.s₀.heap.objs.size
 noex:∀ b o,X.base.get? b=some o->b∉X.ex
 exfs:∀ b∈X.ex,b∉X.fs
 funs:X.s₀.heap.FunFrames X.base X.outer
 frf:∀ b∈X.fs,X.H₀ b=none
structure Inv (X:Cx) (pins:List (Addr × Obj)) (σ:List (Option V)) (H:Hp) (s:Shared):Prop where
 ok:X.Ok
 os:s.os=X.s₀.os
 bare:AllBare s.gens
 base:Un X.fs X.ex X.H₀ H X.s₀.heap s.heap
 loc:∃ m,s.heap.Ns X.env.locals m/\∀ (i:Nat) (x:Str) (v:V),X.N[i]?=some x->σ[i]?=some (some v)->Vis X.env.scope x->∃ u,RelV v u/\Look X.env s.heap m x u
 cell:∀ x c,X.env.cells.lookup x=some c->∃ v,s.heap.IsCell c v
 free:H X.env.locals=none
 freeC:∀ x c,X.env.cells.lookup x=some c->H c=none
 pin:∀ p∈X.pn++pins,s.heap.get? p.1=some p.2/\H p.1=none/\p.1≠X.env.locals/\p.1∉X.fs/\∀ v,p.2.data≠.cell v
 hok:HOk X.prog X.w H s.heap
 len:σ.length=X.N.length
section
variable {X:Cx} {pins:List (Addr × Obj)} {σ:List (Option V)} {H H':Hp} {s:Shared} {h':Heap}
theorem Cx.Ok.nofr (ok:X.Ok) {b:Addr} {o:Obj} (e:X.base.get? b=some o):b∉X.fs:=fun hb=>by
 have:=(ok.funs.mem hb).1
 rw [e] at this;cases this
theorem Inv.bs (I:Inv X pins σ H s):∀ b o,X.base.get? b=some o->s.heap.get? b=some o/\H b=none:=fun b o e =>
 ⟨I.base.keep b o (I.ok.bs b o e).1 (I.ok.bs b o e).2 (I.ok.nofr e) (I.ok.noex b o e),I.base.free b o (I.ok.bs b o e).1 (I.ok.bs b o e).2 (I.ok.noex b o e)⟩
theorem Inv.bk (I:Inv X pins σ H s):∀ b o,X.base.get? b=some o->s.heap.get? b=some o:=fun b o e=>(I.bs b o e).1
theorem Inv.mod (I:Inv X pins σ H s):Mod X.K X.mg X.base:=I.ok.mod
theorem Inv.kIn (I:Inv X pins σ H s):X.K.In s.heap:=I.ok.mod.kin.keeps I.bk
theorem Inv.lt (I:Inv X pins σ H s):X.env.locals<s.heap.objs.size:=by obtain ⟨_,hn,_⟩:=I.loc;exact hn.lt
theorem Inv.sz (I:Inv X pins σ H s):X.s₀.heap.objs.size<=s.heap.objs.size:=Nat.le_trans I.ok.above (Nat.le_of_lt I.lt)
theorem Inv.nofs (I:Inv X pins σ H s) {a:Addr} (h:s.heap.objs.size<=a):a∉X.fs:=fun hb=>by
 obtain ⟨_,o,ho,_⟩:=I.ok.funs.mem hb
 exact absurd (Nat.lt_of_lt_of_le (Heap.lt_size ho) (Nat.le_trans I.sz h)) (Nat.lt_irrefl _)
theorem Inv.cne (I:Inv X pins σ H s):∀ x c,X.env.cells.lookup x=some c->c≠X.env.locals:=fun x c e z=>by
 obtain ⟨v,o,ho,hd⟩:=I.cell x c e
 obtain ⟨m,⟨o',es,ep,ho',hd',_⟩,_⟩:=I.loc
 rw [z,ho'] at ho;cases ho;rw [hd'] at hd;cases hd
theorem Inv.funs (I:Inv X pins σ H s):s.heap.FunFrames X.base X.outer:=by
 have all:∀ (l:List Env),(∀ b∈frs l,b∈X.fs)->X.s₀.heap.FunFrames X.base l->s.heap.FunFrames X.base l:=by
  intro l
  induction l with
  | nil=>intro _ _;trivial
  | cons env r ih =>
   intro hs hl
   obtain ⟨hk,⟨L,o,hf,hn,ho,hd⟩,hr⟩:=hl
   have hL:L∈X.fs:=hs L (by unfold frs;rw [List.filterMap_cons,hf];exact List.mem_cons_self)
   obtain ⟨sl,e⟩:=I.base.slot L o ho (I.ok.frf L hL) hL fun z=>I.ok.exfs L z hL
   exact ⟨hk,⟨L,_,hf,hn,e,hd⟩,ih (fun b hb=>hs b (by unfold frs;rw [List.filterMap_cons,hf];exact List.mem_cons_of_mem _ hb)) hr⟩
 exact all X.outer (fun _ hb=>hb) I.ok.funs
theorem Inv.stack (I:Inv X pins σ H s):s.heap.FunFrames X.base X.stack:=by
 rcases I.ok.stk with e | ⟨e,hf⟩
 ·rw [e];exact I.funs
 ·rw [e]
  obtain ⟨m,hn,_⟩:=I.loc
  refine .cons (by rw [I.ok.kind];decide) hf hn ?_ I.funs
  exact Heap.get?_none_of_le (Nat.le_trans I.ok.bsz I.ok.above)
theorem Inv.stkSub (I:Inv X pins σ H s):∀ b∈frs X.stack,b∈X.env.locals::X.fs:=fun b hb=>by
 rcases I.ok.stk with e | ⟨e,hf⟩
 ·rw [e] at hb;exact List.mem_cons_of_mem _ hb
 ·rw [e] at hb
  unfold frs at hb
  rw [List.filterMap_cons,hf] at hb
  exact hb
theorem Inv.stkFree (I:Inv X pins σ H s):∀ b∈frs X.stack,H b=none:=fun b hb=>by
 rcases List.mem_cons.mp (I.stkSub b hb) with e | hb
 ·rw [e];exact I.free
 ·obtain ⟨_,o,ho,_⟩:=I.ok.funs.mem hb
  exact I.base.free b o ho (I.ok.frf b hb) fun z=>I.ok.exfs b z hb
theorem Inv.step {g':Array GenState} {t':Nat} {d':Drawn} {ch:List Addr} (I:Inv X pins σ H s)
  (hch:∀ b∈ch,(b∈X.ex∨X.s₀.heap.objs.size<=b)/\b≠X.env.locals/\(∀ x c,X.env.cells.lookup x=some c->c≠b)/\∀ p∈X.pn++pins,p.1≠b)
  (keep:∀ b o,b≠X.env.locals->b∉X.fs->b∉ch->s.heap.get? b=some o->H b=none->h'.get? b=some o)
  (slot:∀ b o,b≠X.env.locals->b∈X.fs->b∉ch->s.heap.get? b=some o->H b=none->∃ sl,h'.get? b=some { o with slots:=sl }) (free:∀ b o,b∉ch->s.heap.get? b=some o->H b=none->H' b=none)
  (there:∀ b o,b∉ch->s.heap.get? b=some o->∃ o',h'.get? b=some o')
  (tups:∀ b xs,H b=some (.tup xs)->H' b=some (.tup xs)) (frzs:∀ b o u,H b=some (.frz o u)->H' b=some (.frz o u)) (tbls:∀ b ps,H b=some (.tbl ps)->∃ more,H' b=some (.tbl (ps++more)))
  (ns:∀ m,s.heap.Ns X.env.locals m->h'.Ns X.env.locals m) (hok:HOk X.prog X.w H' h') (hg:AllBare g') :
  Inv X pins σ H' { s with heap:=h',gens:=g',drawn:=d',toks:=t' }:=by
 have neL:∀ b o,X.s₀.heap.get? b=some o->b≠X.env.locals:=fun b o e=>Nat.ne_of_lt (Nat.lt_of_lt_of_le (Heap.lt_size e) I.ok.above)
 have neC:∀ b o,X.s₀.heap.get? b=some o->b∉X.ex->b∉ch:=fun b o e hx hb=>by
  rcases (hch b hb).1 with z | z
  ·exact hx z
  ·exact absurd (Nat.lt_of_lt_of_le (Heap.lt_size e) z) (Nat.lt_irrefl _)
 have cellK:∀ x c,X.env.cells.lookup x=some c->∀ v,s.heap.IsCell c v->h'.IsCell c v:=fun x c e v ⟨o,ho,hd⟩=>by
  have nch:c∉ch:=fun z=>(hch c z).2.2.1 x c e rfl
  by_cases hc:c∈X.fs
  ·obtain ⟨sl,q⟩:=slot c o (I.cne x c e) hc nch ho (I.freeC x c e)
   exact ⟨_,q,hd⟩
  ·exact ⟨o,keep c o (I.cne x c e) hc nch ho (I.freeC x c e),hd⟩
 refine ⟨I.ok,I.os,hg,⟨fun b o e n hb hx=>?_,fun b o e n hb hx=>?_,fun b o e n hx=>?_,fun b o e hx=>?_,fun b xs e=>tups b xs (I.base.tups b xs e),fun b o xs e=>frzs b o xs (I.base.frzs b o xs e),fun b ps e=>?_⟩,?_,fun x c e=>?_,?_,fun x c e=>?_,fun p hp=>?_,hok,I.len⟩
 ·exact keep b o (neL b o e) hb (neC b o e hx) (I.base.keep b o e n hb hx) (I.base.free b o e n hx)
 ·obtain ⟨sl,e1⟩:=I.base.slot b o e n hb hx
  obtain ⟨sl',e2⟩:=slot b _ (neL b o e) hb (neC b o e hx) e1 (I.base.free b o e n hx)
  exact ⟨sl',e2⟩
 ·obtain ⟨o',e1⟩:=I.base.there b o e hx
  exact free b o' (neC b o e hx) e1 (I.base.free b o e n hx)
 ·obtain ⟨o',e1⟩:=I.base.there b o e hx
  exact there b o' (neC b o e hx) e1
 ·obtain ⟨m1,e1⟩:=I.base.tbls b ps e
  obtain ⟨m2,e2⟩:=tbls b _ e1
  exact ⟨m1++m2,by rw [e2,Array.append_assoc]⟩
 ·obtain ⟨m,hn,hl⟩:=I.loc
  refine ⟨m,ns m hn,fun i x v e1 e2 e3=>?_⟩
  obtain ⟨u,r,l⟩:=hl i x v e1 e2 e3
  refine ⟨u,r,?_⟩
  rcases l with l | ⟨k,c,e,z⟩
  ·exact .inl l
  ·exact .inr ⟨k,c,e,cellK x c e _ z⟩
 ·obtain ⟨v,z⟩:=I.cell x c e
  exact ⟨v,cellK x c e v z⟩
 ·obtain ⟨m,⟨o,_,_,ho,_⟩,_⟩:=I.loc
  exact free _ o (fun z=>(hch _ z).2.1 rfl) ho I.free
 ·obtain ⟨v,o,ho,hd⟩:=I.cell x c e
  exact free c o (fun z=>(hch c z).2.2.1 x c e rfl) ho (I.freeC x c e)
 ·obtain ⟨e,n,ne,nf,d⟩:=I.pin p hp
  have nch:p.1∉ch:=fun z=>(hch p.1 z).2.2.2 p hp rfl
  exact ⟨keep p.1 p.2 ne nf nch e n,free p.1 p.2 nch e n,ne,nf,d⟩
theorem Inv.un {t':Nat} (I:Inv X pins σ H s) (u:Un X.fs [] H H' s.heap h') (hok:HOk X.prog X.w H' h'):Inv X pins σ H' { s with heap:=h',toks:=t' }:=by
 obtain ⟨m,⟨o,es,ep,ho,r⟩,_⟩:=id I.loc
 obtain ⟨sl,hL⟩:=u.any ho I.free (by simp)
 exact I.step (g':=s.gens) (d':=s.drawn) (ch:=[]) (fun _ z=>nomatch z) (fun b o _ hb _ e n=>u.keep b o e n hb (by simp)) (fun b o _ hb _ e n=>u.slot b o e n hb (by simp)) (fun b o _ e n=>u.free b o e n (by simp)) (fun b o _ e=>u.there b o e (by simp)) u.tups u.frzs u.tbls (fun m' hm=>by
  obtain ⟨o',es',ep',ho',r'⟩:=hm
  rw [ho] at ho';cases ho'
  exact ⟨_,es',ep',hL,r'⟩) hok I.bare
theorem Inv.call {g':Array GenState} {t':Nat} {d':Drawn} {ch:List Addr} (I:Inv X pins σ H s) (u:Un (frs X.stack) ch H H' s.heap h') (hok:HOk X.prog X.w H' h') (hg:AllBare g')
  (hch:∀ b∈ch,(b∈X.ex∨X.s₀.heap.objs.size<=b)/\b≠X.env.locals/\(∀ x c,X.env.cells.lookup x=some c->c≠b)/\∀ p∈X.pn++pins,p.1≠b) :
  Inv X pins σ H' { s with heap:=h',gens:=g',drawn:=d',toks:=t' }:=by
 obtain ⟨m,⟨o,es,ep,ho,r⟩,_⟩:=id I.loc
 obtain ⟨sl,hL⟩:=u.any ho I.free fun z=>(hch _ z).2.1 rfl
 exact I.step (ch:=ch) hch (fun b o hL hb hc e n=>u.keep b o e n (fun z=>(List.mem_cons.mp (I.stkSub b z)).elim hL hb) hc) (fun b o _ _ hc e n=>u.any e n hc) (fun b o hc e n=>u.free b o e n hc) (fun b o hc e=>u.there b o e hc) u.tups u.frzs u.tbls (fun m' hm=>by
  obtain ⟨o',es',ep',ho',r'⟩:=hm
  rw [ho] at ho';cases ho'
  exact ⟨_,es',ep',hL,r'⟩) hok hg
theorem Inv.turned {t':Nat} {it:Addr} (I:Inv X pins σ H s) (k:∀ b o,b≠it->s.heap.get? b=some o->h'.get? b=some o) (hn:H it=none) (hL:it≠X.env.locals)
  (h1:it∈X.ex∨X.s₀.heap.objs.size<=it) (h2:∀ x c,X.env.cells.lookup x=some c->c≠it) (h3:∀ p∈X.pn++pins,p.1≠it):Inv X pins σ H { s with heap:=h',toks:=t' }:=by
 have nit:∀ b u,H b=some u->b≠it:=fun b u e z=>by rw [z,hn] at e;cases e
 refine I.step (g':=s.gens) (d':=s.drawn) (ch:=[it]) (fun b hb=>?_) (fun b o _ _ hc e _=>k b o (fun z=>hc (by simp [z])) e) (fun b o _ _ hc e _=>⟨o.slots,k b o (fun z=>hc (by simp [z])) e⟩) (fun _ _ _ _ n=>n)
  (fun b o hc e=>⟨o,k b o (fun z=>hc (by simp [z])) e⟩) (fun _ _ e=>e) (fun _ _ _ e=>e) (fun b ps e=>⟨#[],by rw [e];simp⟩) (fun m hm=>?_) (fun b u e=>?_) I.bare
 ·have e:b=it:=by simpa using hb
  subst e
  exact ⟨h1,hL,h2,h3⟩
 ·obtain ⟨o,es,ep,ho,r⟩:=hm
  exact ⟨o,es,ep,k _ o (Ne.symm hL) ho,r⟩
 ·refine (I.hok b u e).stay (fun c v hc q=>k c v ?_ q) (fun _ q=>q) fun _ _ q=>q
  rcases hc with z | z
  ·rw [z];exact nit b u e
  ·exact nit c _ z
theorem Inv.tok (I:Inv X pins σ H s) (t:Nat):Inv X pins σ H { s with toks:=t }:=I.un (h':=s.heap) (t':=t) Un.refl I.hok
theorem Inv.kept {t':Nat} (I:Inv X pins σ H s) (k:∀ b u,s.heap.get? b=some u->h'.get? b=some u):Inv X pins σ H { s with heap:=h',toks:=t' }:=I.un (Un.kept k) (I.hok.kept k)
theorem Inv.laid {a:Addr} {o:HO} {t':Nat} (I:Inv X pins σ H s) (k:∀ b u,s.heap.get? b=some u->h'.get? b=some u) (hp:s.heap.objs.size<=a) (new:ObjOk X.prog X.w (upd H a o) h' a o) :
  Inv X pins σ (upd H a o) { s with heap:=h',toks:=t' }:=I.un (Un.laid k hp (I.hok.fresh hp)) (I.hok.laid k hp new)
theorem Inv.write {x e:Addr} {o:HO} {t':Nat} (I:Inv X pins σ H s) (mu:Mut (H x)) (he:e=x∨H e=some (.own x)) (k:∀ b u,b≠e->s.heap.get? b=some u->h'.get? b=some u) (heo:∃ u,h'.get? e=some u)
  (new:ObjOk X.prog X.w (upd H x o) h' x o):Inv X pins σ (upd H x o) { s with heap:=h',toks:=t' }:=I.un (Un.write mu he k heo) (I.hok.write mu he k heo new)
theorem Inv.pins_of {pins':List (Addr × Obj)} (I:Inv X pins σ H s) (h:∀ p∈pins',s.heap.get? p.1=some p.2/\H p.1=none/\p.1≠X.env.locals/\p.1∉X.fs/\∀ v,p.2.data≠.cell v):Inv X pins' σ H s :=
 ⟨I.ok,I.os,I.bare,I.base,I.loc,I.cell,I.free,I.freeC,fun p hp=>(List.mem_append.mp hp).elim (fun z=>I.pin p (List.mem_append_left _ z)) (h p),I.hok,I.len⟩
theorem nodup_ix {N:List Str} (hN:N.Nodup) {i j:Nat} {x:Str} (a:N[i]?=some x) (b:N[j]?=some x):i=j:=by
 obtain ⟨h1,e1⟩:=List.getElem?_eq_some_iff.mp a
 obtain ⟨h2,e2⟩:=List.getElem?_eq_some_iff.mp b
 exact (List.getElem_inj hN).mp (e1.trans e2.symm)
theorem store_ok2 {M:Model} {A:Around} {E:Value->Shared->Prop} {i:Nat} {x:Str} {v:V} {u:Value} {Q:Unit->Shared->Prop} (I:Inv X pins σ H s) (hN:X.N.Nodup) (hi:X.N[i]?=some x) (hx:Loc X.env.scope x) (r:RelV v u)
  (h:∀ s',Inv X pins (σ.set i (some v)) H s'->(∃ a,Heap.SameBut a s.heap s'.heap/\(a=X.env.locals∨X.env.cells.lookup x=some a))->Q () s') (hf:X.fn x=true∨X.env.scope.names.lookup x=some .local:=by first | exact .inl rfl | exact .inr rfl | assumption):wpAny M A (storeName X.env x u) Q E s:=by
 obtain ⟨m,hn,hl⟩:=id I.loc
 have hcls:(X.env.scope.kind == .class||(X.env.scope.kind == .module&&X.env.locals != X.env.globals))=false:=by rw [I.ok.kind];rfl
 have hiσ:i<σ.length:=by rw [I.len];exact (List.getElem?_eq_some_iff.mp hi).1
 have cne:=I.cne
 have tracked:∀ {a:Addr} {h':Heap},(∃ o,s.heap.get? a=some o/\H a=none)->Heap.SameBut a s.heap h'->HOk X.prog X.w H h':=fun {a h'} ha hs b ob e=>by
  obtain ⟨_,_,hfree⟩:=ha
  refine (I.hok b ob e).stay (fun c w' hc q=>(hs.2 c ?_).trans q) (fun _ q=>q) fun _ _ q=>q
  rintro rfl
  rcases hc with rfl | hc
  ·rw [hfree] at e;cases e
  ·rw [hfree] at hc;cases hc
 rcases hx with hk | hk
 ·refine wpAny_storeName_local hk hn (fun h' hn' hs=>?_) hcls
  obtain ⟨oL,_,_,hoL,_⟩:=id hn
  refine h _ ⟨I.ok,I.os,I.bare,⟨fun b o e n hb hx=>?_,fun b o e n hb hx=>?_,I.base.free,fun b o e hx=>?_,I.base.tups,I.base.frzs,I.base.tbls⟩,⟨_,hn',fun j y v' e1 e2 e3=>?_⟩,fun y c e=>?_,I.free,I.freeC,fun p hp=>?_,tracked ⟨oL,hoL,I.free⟩ hs,by simpa using I.len⟩ ⟨_,hs,.inl rfl⟩
  ·exact (hs.2 b (Nat.ne_of_lt (Nat.lt_of_lt_of_le (Heap.lt_size e) I.ok.above))).trans (I.base.keep b o e n hb hx)
  ·obtain ⟨sl,e1⟩:=I.base.slot b o e n hb hx
   exact ⟨sl,(hs.2 b (Nat.ne_of_lt (Nat.lt_of_lt_of_le (Heap.lt_size e) I.ok.above))).trans e1⟩
  ·obtain ⟨o',e1⟩:=I.base.there b o e hx
   exact ⟨o',(hs.2 b (Nat.ne_of_lt (Nat.lt_of_lt_of_le (Heap.lt_size e) I.ok.above))).trans e1⟩
  ·by_cases hj:j=i
   ·subst hj
    rw [hi] at e1;cases e1
    rw [List.getElem?_set_self hiσ] at e2
    cases e2
    exact ⟨u,r,.inl ⟨hk,by simp⟩⟩
   ·rw [List.getElem?_set_ne (Ne.symm hj)] at e2
    obtain ⟨u',r',q⟩:=hl j y v' e1 e2 e3
    refine ⟨u',r',?_⟩
    rcases q with ⟨k,e⟩ | ⟨k,c,e,z⟩
    ·refine .inl ⟨k,?_⟩
     have:y≠x:=fun e=>hj (nodup_ix hN e1 (e ▸ hi))
     simp [this,e]
    ·exact .inr ⟨k,c,e,z.sameBut hs (cne y c e)⟩
  ·obtain ⟨w',z⟩:=I.cell y c e
   exact ⟨w',z.sameBut hs (cne y c e)⟩
  ·obtain ⟨e,n,ne,nf,d⟩:=I.pin p hp
   exact ⟨(hs.2 p.1 ne).trans e,n,ne,nf,d⟩
 ·have hfn:X.fn x=true:=by
   rcases hf with z | z
   ·exact z
   ·rw [z] at hk;cases hk
  obtain ⟨c,hc⟩:=I.ok.has x (.inl hk)
  obtain ⟨w',z⟩:=I.cell x c hc
  refine wpAny_storeName_cell I.ok.kind hk hc z (fun h' hc' hs=>?_)
  obtain ⟨oc,hoc,hocd⟩:=id z
  refine h { s with heap:=h' } ⟨I.ok,I.os,I.bare,⟨fun b o e n hb hx=>?_,fun b o e n hb hx=>?_,I.base.free,fun b o e hx=>?_,I.base.tups,I.base.frzs,I.base.tbls⟩,⟨m,hn.sameBut hs (Ne.symm (cne x c hc)),fun j y v' e1 e2 e3=>?_⟩,fun y c' e=>?_,I.free,I.freeC,fun p hp=>?_,tracked ⟨oc,hoc,I.freeC x c hc⟩ hs,by simpa using I.len⟩ ⟨c,hs,.inr hc⟩
  ·exact (hs.2 b (Nat.ne_of_lt (Nat.lt_of_lt_of_le (Heap.lt_size e) (I.ok.cab x c hfn hc)))).trans (I.base.keep b o e n hb hx)
  ·obtain ⟨sl,e1⟩:=I.base.slot b o e n hb hx
   exact ⟨sl,(hs.2 b (Nat.ne_of_lt (Nat.lt_of_lt_of_le (Heap.lt_size e) (I.ok.cab x c hfn hc)))).trans e1⟩
  ·obtain ⟨o',e1⟩:=I.base.there b o e hx
   exact ⟨o',(hs.2 b (Nat.ne_of_lt (Nat.lt_of_lt_of_le (Heap.lt_size e) (I.ok.cab x c hfn hc)))).trans e1⟩
  ·by_cases hj:j=i
   ·subst hj
    rw [hi] at e1;cases e1
    rw [List.getElem?_set_self hiσ] at e2
    cases e2
    exact ⟨u,r,.inr ⟨.inl hk,c,hc,hc'⟩⟩
   ·rw [List.getElem?_set_ne (Ne.symm hj)] at e2
    obtain ⟨u',r',q⟩:=hl j y v' e1 e2 e3
    refine ⟨u',r',?_⟩
    rcases q with q | ⟨k,c',e,z'⟩
    ·exact .inl q
    ·refine .inr ⟨k,c',e,z'.sameBut hs ?_⟩
     rintro rfl
     exact hj (nodup_ix hN e1 (I.ok.inj _ _ _ e hc ▸ hi))
  ·by_cases hcc:c'=c
   ·subst hcc;exact ⟨_,hc'⟩
   ·obtain ⟨w2,z2⟩:=I.cell y c' e
    exact ⟨w2,z2.sameBut hs hcc⟩
  ·obtain ⟨e,n,ne,nf,d⟩:=I.pin p hp
   refine ⟨(hs.2 p.1 ?_).trans e,n,ne,nf,d⟩
   intro q
   rw [q,hoc] at e
   have q':oc=p.2:=Option.some.inj e
   exact d w' (by rw [<- q'];exact hocd)
theorem store_ok {M:Model} {A:Around} {E:Value->Shared->Prop} {i:Nat} {x:Str} {v:V} {u:Value} {Q:Unit->Shared->Prop} (I:Inv X pins σ H s) (hN:X.N.Nodup) (hi:X.N[i]?=some x) (hx:Loc X.env.scope x) (r:RelV v u)
  (h:∀ s',Inv X pins (σ.set i (some v)) H s'->Q () s') (hf:X.fn x=true∨X.env.scope.names.lookup x=some .local:=by first | exact .inl rfl | exact .inr rfl | assumption):wpAny M A (storeName X.env x u) Q E s :=
 store_ok2 I hN hi hx r (fun s' I' _=>h s' I') hf
theorem Inv.call' {s':Shared} {ch:List Addr} (I:Inv X pins σ H s) (ho:s'.os=s.os) (u:Un (frs X.stack) ch H H' s.heap s'.heap) (hok:HOk X.prog X.w H' s'.heap) (hg:AllBare s'.gens)
  (hch:∀ b∈ch,(b∈X.ex∨X.s₀.heap.objs.size<=b)/\b≠X.env.locals/\(∀ x c,X.env.cells.lookup x=some c->c≠b)/\∀ p∈X.pn++pins,p.1≠b):Inv X pins σ H' s':=by
 obtain ⟨h',g',d',t',o'⟩:=s'
 have e:o'=s.os:=ho
 subst e
 exact I.call (g':=g') (t':=t') (d':=d') u hok hg hch
end
noncomputable abbrev XK:=Value->Option Addr->Hp->Prop
noncomputable abbrev St:=List (Option V)
noncomputable abbrev VK:=V->Hp->Prop
noncomputable abbrev TE:=St->Hp->VK->Prop
noncomputable abbrev TT:=St->Hp->(Bool->Hp->Prop)->Prop
noncomputable abbrev TA:=St->Hp->(List V->Hp->Prop)->Prop
structure Ends where
 nx:St->Hp->Prop
 rt:VK
 bk:St->Hp->Prop:=fun _ _=>False
 ct:St->Hp->Prop:=fun _ _=>False
noncomputable abbrev TS:=Ends->St->Hp->Prop
noncomputable def EP (X:Cx) (pins:List (Addr × Obj)) (σ:St) (Q:VK) (u:Value) (s':Shared):Prop:=∃ v H',Inv X pins σ H' s'/\RelV v u/\Q v H'
noncomputable def TP (X:Cx) (pins:List (Addr × Obj)) (σ:St) (Q:Bool->Hp->Prop) (b:Bool) (s':Shared):Prop:=∃ H',Inv X pins σ H' s'/\Q b H'
noncomputable def AP (X:Cx) (pins:List (Addr × Obj)) (σ:St) (Q:List V->Hp->Prop) (us:List Value) (s':Shared):Prop:=∃ vs H',Inv X pins σ H' s'/\Vals vs us/\Q vs H'
noncomputable def SP (X:Cx) (pins:List (Addr × Obj)) (D:Ends) (f:Flow) (s':Shared):Prop :=
 match f with
 | .next=>∃ σ' H',Inv X pins σ' H' s'/\D.nx σ' H'
 | .brk=>∃ σ' H',Inv X pins σ' H' s'/\D.bk σ' H'
 | .cont=>∃ σ' H',Inv X pins σ' H' s'/\D.ct σ' H'
 | .ret u=>∃ v σ' H',Inv X pins σ' H' s'/\RelV v u/\D.rt v H'
noncomputable def PE (X:Cx) (e:Expr) (t:TE):Prop :=
 ∀ (pins:List (Addr × Obj)) (s:Shared) (σ:St) (H:Hp) (Q:VK),Inv X pins σ H s->t σ H Q->wpAny (model X.prog X.w) X.A (eval e X.env) (EP X pins σ Q) X.xe s
noncomputable def PT (X:Cx) (e:Expr) (t:TT):Prop :=
 ∀ (pins:List (Addr × Obj)) (s:Shared) (σ:St) (H:Hp) (Q:Bool->Hp->Prop),Inv X pins σ H s->t σ H Q->wpAny (model X.prog X.w) X.A (isTrue e X.env (eval e X.env)) (TP X pins σ Q) X.xe s
noncomputable def PW (X:Cx) (e:Expr) (t:TT):Prop :=
 ∀ (whole:Sem Value) (pins:List (Addr × Obj)) (s:Shared) (σ:St) (H:Hp) (Q:Bool->Hp->Prop),Inv X pins σ H s->t σ H Q->wpAny (model X.prog X.w) X.A (isTrue e X.env whole) (TP X pins σ Q) X.xe s
theorem PW.pt {X:Cx} {e:Expr} {t:TT} (h:PW X e t):PT X e t:=h _
noncomputable def PA (X:Cx) (es:List Expr) (t:TA):Prop :=
 ∀ (pos:Pos) (pins:List (Addr × Obj)) (s:Shared) (σ:St) (H:Hp) (Q:List V->Hp->Prop),Inv X pins σ H s->t σ H Q->wpAny (model X.prog X.w) X.A (spliced (backTo pos (starEach es X.env))) (AP X pins σ Q) X.xe s
noncomputable def PS (X:Cx) (st:Stmt) (t:TS):Prop :=
 ∀ (pins:List (Addr × Obj)) (s:Shared) (σ:St) (H:Hp) (D:Ends),Inv X pins σ H s->t D σ H->wpAny (model X.prog X.w) X.A (exec st X.env) (SP X pins D) X.xe s
noncomputable def PSs (X:Cx) (st:List Stmt) (t:TS):Prop :=
 ∀ (pins:List (Addr × Obj)) (s:Shared) (σ:St) (H:Hp) (D:Ends),Inv X pins σ H s->t D σ H->wpAny (model X.prog X.w) X.A (execs st X.env) (SP X pins D) X.xe s
theorem thn {α:Type} {t:Sem α} {Q Q':α->Shared->Prop} {M:Model} {A:Around} {E:Value->Shared->Prop} {s:Shared} (h:wpAny M A t Q E s) (hQ:∀ a s,Q a s->Q' a s):wpAny M A t Q' E s:=wpAny_mono h hQ fun _ _ x=>x
end L2
namespace L2
open PySem PySem.Spec PyProof.Rows
section
variable {X:Cx}
noncomputable def tVar (i:Nat):TE:=fun σ H Q=>∃ v,σ[i]?=some (some v)/\Q v H
noncomputable def tC (v:V):TE:=fun _ H Q=>Q v H
theorem pe_var {i:Nat} {x:Str} {pos:Pos} (hN:X.N[i]?=some x) (hv:Vis X.env.scope x) (hd:(x == ("__debug__":Str))=false:=by decide) (hcd:(x == ("__classdict__":Str))=false:=by decide):PE X (.Name x pos) (tVar i):=by
 intro pins s σ H Q I h
 obtain ⟨v,e,h⟩:=h
 obtain ⟨m,hn,hl⟩:=I.loc
 obtain ⟨u,r,l⟩:=hl i x v hN e hv
 have fin:EP X pins σ Q u s:=⟨v,H,I,r,h⟩
 rcases l with ⟨hk,hm⟩ | ⟨hk,c,hc,hcell⟩
 ·exact wpAny_Name (wpAny_loadName_local I.ok.kind hk hn hm fin) hd
 ·rcases hk with hk | hk
  ·exact wpAny_Name (wpAny_loadName_cell I.ok.kind hk hc hcell fin) hd
  ·exact wpAny_Name (wpAny_loadName_free I.ok.kind hk hc hcell fin hcd) hd
theorem pe_int {i j pos}:PE X (.Constant (.int i) j pos) (tC (.int i)):=fun _ _ _ H _ I h=>wpAny_Constant_int ⟨.int i,H,I.tok _,⟨_,rfl⟩,h⟩
theorem pe_bl {b j pos}:PE X (.Constant (.bool b) j pos) (tC (.bl b)):=fun _ _ _ H _ I h=>Constant_bool ⟨.bl b,H,I,rfl,h⟩
theorem pe_non {j pos}:PE X (.Constant .none j pos) (tC .non):=fun _ _ _ H _ I h=>Constant_none ⟨.non,H,I,rfl,h⟩
theorem pe_str {x j pos}:PE X (.Constant (.str x) j pos) (tC (.str x)):=fun _ _ _ H _ I h=>Calls.Constant_str ⟨.str x,H,I.tok _,⟨_,rfl⟩,h⟩
noncomputable def Gl (X:Cx) (x:Str):Prop:=X.env.kindOf x=some .globalImplicit
theorem ld_glob {E:Value->Shared->Prop} {pins:List (Addr × Obj)} {s:Shared} {σ:St} {H:Hp} {x:Str} {u:Value} {pos:Pos} {Q:Value->Shared->Prop} (I:Inv X pins σ H s) (hg:Gl X x) (hm:X.mg x=some u) (h:Q u s)
  (hd:(x == ("__debug__":Str))=false:=by decide):wpAny (model X.prog X.w) X.A (eval (.Name x pos) X.env) Q E s :=
 Calls.Name_function_global I.ok.kind hg (Calls.loadGlobal_global (by rw [I.ok.glob];exact I.mod.glob.keeps I.bk) hm h) hd
theorem ld_blt {E:Value->Shared->Prop} {pins:List (Addr × Obj)} {s:Shared} {σ:St} {H:Hp} {x:Str} {u:Value} {pos:Pos} {Q:Value->Shared->Prop} (I:Inv X pins σ H s) (hg:Gl X x) (hm:X.mg x=none) (hv:bootBuiltins x=some u) (h:Q u s)
  (hn:x≠"__name__":=by decide) (hd:(x == ("__debug__":Str))=false:=by decide):wpAny (model X.prog X.w) X.A (eval (.Name x pos) X.env) Q E s:=by
 obtain ⟨mb,h1,h2⟩:=I.mod.blt
 exact Calls.Name_function_global I.ok.kind hg (Calls.loadGlobal_builtin (by rw [I.ok.glob];exact I.mod.glob.keeps I.bk) hm (by rw [I.ok.blt];exact h1.keeps I.bk) ((h2 x hn).trans hv) h) hd
theorem pe_glob {x:Str} {v:V} {u:Value} {pos:Pos} (hg:Gl X x) (hm:X.mg x=some u) (r:RelV v u) (hd:(x == ("__debug__":Str))=false:=by decide):PE X (.Name x pos) (tC v) :=
 fun _ _ _ H _ I h=>ld_glob I hg hm ⟨v,H,I,r,h⟩ hd
theorem pe_bltn {x:Str} {v:V} {u:Value} {pos:Pos} (hg:Gl X x) (hm:X.mg x=none) (hv:bootBuiltins x=some u) (r:RelV v u) (hn:x≠"__name__":=by decide) (hd:(x == ("__debug__":Str))=false:=by decide):PE X (.Name x pos) (tC v) :=
 fun _ _ _ H _ I h=>ld_blt I hg hm hv ⟨v,H,I,r,h⟩ hn hd
variable {a b:Expr} {ta tb:TE} {pos:Pos}
noncomputable def PC (X:Cx) (op:CmpOp) (a b:Expr) (t:TE):Prop :=
 ∀ (pins:List (Addr × Obj)) (s:Shared) (σ:St) (H:Hp) (Q:VK),Inv X pins σ H s->t σ H Q ->
  wpAny (model X.prog X.w) X.A (eval a X.env) (fun v s₁=>wpAny (model X.prog X.w) X.A (eval b X.env) (fun u s₂=>wpAny (model X.prog X.w) X.A (compareOp op v u) (EP X pins σ Q) X.xe s₂) X.xe s₁) X.xe s
theorem nobehind (b:Expr) {op:CmpOp} (h:op≠.In) (h2:op≠.NotIn):behindInMarks op b=false:=by
 have e1:(op == CmpOp.In)=false:=by cases op<;>first | rfl | exact absurd rfl h
 have e2:(op == CmpOp.NotIn)=false:=by cases op<;>first | rfl | exact absurd rfl h2
 cases b<;>simp [behindInMarks,e1,e2]
noncomputable def tNotN (ta:TE):TE:=fun σ H Q=>ta σ H fun x H1=>Q (.bl (!decide (x=.non))) H1
theorem RelV.none_iff {x:V} {v:Value} (r:RelV x v):(v == Value.none)=decide (x=.non):=by
 cases x with
 | non=>cases r;rfl
 | bl _=>cases r;rfl
 | int _=>obtain ⟨t,rfl⟩:=r;rfl
 | str _=>obtain ⟨t,rfl⟩:=r;rfl
 | byt _=>obtain ⟨t,rfl⟩:=r;rfl
 | flt _=>obtain ⟨t,rfl⟩:=r;rfl
 | ref _=>cases r;rfl
 | ty _=>cases r;rfl
theorem pc_notN {j pos'} (ha:PE X a ta):PC X .IsNot a (.Constant .none j pos') (tNotN ta):=by
 intro pins s σ H Q I h
 refine thn (ha pins s σ H _ I h) fun v s1 hsl1=>?_
 obtain ⟨x,H1,I1,r1,q1⟩:=hsl1
 exact Constant_none (isnot_none_gen ⟨.bl _,H1,I1,by rw [r1.none_iff];rfl,q1⟩)
noncomputable def tB (t:TE):TT:=fun σ H Q=>t σ H fun x H1=>∃ c,x=.bl c/\Q c H1
theorem pe_cmp {op:CmpOp} {t:TE} (h:PC X op a b t) (h1:behindInMarks op b=false:=by first | exact nobehind _ (by decide) (by decide) | rfl):PE X (.Compare a [op] [b] pos) t:=fun pins s σ H Q I hw=>wpAny_Compare1 (h pins s σ H Q I hw) h1
theorem pt_cmp {op:CmpOp} {t:TE} (h:PC X op a b t) (h1:behindInMarks op b=false:=by first | exact nobehind _ (by decide) (by decide) | rfl):PT X (.Compare a [op] [b] pos) (tB t):=by
 intro pins s σ H Q I hw
 refine wpAny_isTrue_Compare1 (thn (h pins s σ H _ I hw) fun v s1 h1=>thn h1 fun u s2 h2=>thn h2 fun c s3 hsl2=>?_) h1
 obtain ⟨x,H1,I1,r1,q1⟩:=hsl2
 obtain ⟨d,rfl,q⟩:=q1
 cases r1
 exact wpAny_truthy_bool ⟨H1,I1,q⟩
theorem pt_val {e:Expr} {t:TE} (h:PE X e t) (he:∀ whole,isTrue e X.env whole=(do let v <- whole;standAt e.pos;holding [v] (truthy v)):=by intro _;rfl):PT X e (tB t):=by
 intro pins s σ H Q I hw
 refine isTrue_plain (thn (h pins s σ H _ I hw) fun v s1 hsl3=>?_) (he _)
 obtain ⟨x,H1,I1,r1,q1⟩:=hsl3
 obtain ⟨d,rfl,q⟩:=q1
 cases r1
 exact wpAny_truthy_bool ⟨H1,I1,q⟩
variable {tA tB':TT} {rest:List Expr}
noncomputable def tAnd (t u:TT):TT:=fun σ H Q=>t σ H fun c H1=>if c=true then u σ H1 Q else Q false H1
noncomputable def tOr (t u:TT):TT:=fun σ H Q=>t σ H fun c H1=>if c=true then Q true H1 else u σ H1 Q
theorem pw_and1 (ha:PT X a tA):PW X (.BoolOp .And [a] pos) tA:=by
 intro wh pins s σ H Q I h
 refine isTrue_and (thn (ha pins s σ H Q I h) fun c s1 e=>?_)
 cases c with
 | true=>exact isTrue_and_nil e
 | false=>exact e
theorem pw_or1 (ha:PT X a tA):PW X (.BoolOp .Or [a] pos) tA:=by
 intro wh pins s σ H Q I h
 refine isTrue_or (thn (ha pins s σ H Q I h) fun c s1 e=>?_)
 cases c with
 | false=>exact isTrue_or_nil e
 | true=>exact e
theorem pw_and (ha:PT X a tA) (hb:PW X (.BoolOp .And (b::rest) pos) tB'):PW X (.BoolOp .And (a::b::rest) pos) (tAnd tA tB'):=by
 intro wh pins s σ H Q I h
 refine isTrue_and (thn (ha pins s σ H _ I h) fun c s1 hsl4=>?_)
 obtain ⟨H1,I1,q1⟩:=hsl4
 cases c with
 | true=>exact hb wh pins s1 σ H1 Q I1 q1
 | false=>exact ⟨H1,I1,q1⟩
theorem pw_or (ha:PT X a tA) (hb:PW X (.BoolOp .Or (b::rest) pos) tB'):PW X (.BoolOp .Or (a::b::rest) pos) (tOr tA tB'):=by
 intro wh pins s σ H Q I h
 refine isTrue_or (thn (ha pins s σ H _ I h) fun c s1 hsl5=>?_)
 obtain ⟨H1,I1,q1⟩:=hsl5
 cases c with
 | true=>exact ⟨H1,I1,q1⟩
 | false=>exact hb wh pins s1 σ H1 Q I1 q1
noncomputable def tAndV (ta tb:TE):TE:=fun σ H Q=>ta σ H fun x H1=>∃ c,x=.bl c/\if c=true then tb σ H1 Q else Q (.bl false) H1
noncomputable def tOrV (ta tb:TE):TE:=fun σ H Q=>ta σ H fun x H1=>∃ c,x=.bl c/\if c=true then Q (.bl true) H1 else tb σ H1 Q
theorem pe_one {op} {t:TE} (h:PE X a t):PE X (.BoolOp op [a] pos) t:=fun pins s σ H Q I hw=>BoolOp_one (h pins s σ H Q I hw)
theorem pe_and (ha:PE X a ta) (hb:PE X (.BoolOp .And (b::rest) pos) tb):PE X (.BoolOp .And (a::b::rest) pos) (tAndV ta tb):=by
 intro pins s σ H Q I h
 refine BoolOp_and (thn (ha pins s σ H _ I h) fun v s1 hsl6=>?_)
 obtain ⟨x,H1,I1,r1,q1⟩:=hsl6
 obtain ⟨c,rfl,q1⟩:=q1
 cases r1
 refine wpAny_truthy_bool ?_
 cases c with
 | true=>exact hb pins s1 σ H1 Q I1 q1
 | false=>exact ⟨.bl false,H1,I1,rfl,q1⟩
theorem pe_or (ha:PE X a ta) (hb:PE X (.BoolOp .Or (b::rest) pos) tb):PE X (.BoolOp .Or (a::b::rest) pos) (tOrV ta tb):=by
 intro pins s σ H Q I h
 refine BoolOp_or (thn (ha pins s σ H _ I h) fun v s1 hsl7=>?_)
 obtain ⟨x,H1,I1,r1,q1⟩:=hsl7
 obtain ⟨c,rfl,q1⟩:=q1
 cases r1
 refine wpAny_truthy_bool ?_
 cases c with
 | false=>exact hb pins s1 σ H1 Q I1 q1
 | true=>exact ⟨.bl true,H1,I1,rfl,q1⟩
noncomputable def tIf (t:TT) (ta tb:TE):TE:=fun σ H Q=>t σ H fun c H1=>if c=true then ta σ H1 Q else tb σ H1 Q
theorem pe_ifExp {c:Expr} (hc:PT X c tA) (ha:PE X a ta) (hb:PE X b tb):PE X (.IfExp c a b pos) (tIf tA ta tb):=by
 intro pins s σ H Q I h
 refine wpAny_IfExp (thn (hc pins s σ H _ I h) fun d s1 hsl8=>?_)
 obtain ⟨H1,I1,q1⟩:=hsl8
 cases d with
 | true=>exact ha pins s1 σ H1 Q I1 q1
 | false=>exact hb pins s1 σ H1 Q I1 q1
end
end L2
namespace L2
open PySem PySem.Spec PyProof.Rows
noncomputable def SqL (K:PySem.W.Frag) (H:Hp) (a:Addr) (xs:List V):Prop :=
 Rd H a (.lst xs) ∨
  ∃ (o:Obj) (its:Array Value) (n:Nat),K.lookup a=some o/\o.cls=.type "list"/\o.dict=none/\o.data=.seq its n/\its.size<=sizeLine/\Vals xs its.toList
noncomputable def SqT (K:PySem.W.Frag) (H:Hp) (a:Addr) (xs:List V):Prop :=
 Rd H a (.tup xs) ∨
  ∃ (o:Obj) (its:Array Value) (n:Nat),K.lookup a=some o/\o.cls=.type "tuple"/\o.data=.seq its n/\its.size<=sizeLine/\Vals xs its.toList
noncomputable def absV:Value->Option V
 | .none=>some .non
 | .bool b=>some (.bl b)
 | .int i _=>some (.int i)
 | .str x _=>some (.str x)
 | .bytes b _=>some (.byt b)
 | .float b _=>some (.flt b)
 | .ref a=>some (.ref a)
 | .type n=>some (.ty n)
 | _=>none
theorem RelV.abs {x:V} {u:Value} (r:RelV x u):absV u=some x:=by
 cases x with
 | non=>cases r;rfl
 | bl _=>cases r;rfl
 | int _=>obtain ⟨t,rfl⟩:=r;rfl
 | str _=>obtain ⟨t,rfl⟩:=r;rfl
 | byt _=>obtain ⟨t,rfl⟩:=r;rfl
 | flt _=>obtain ⟨t,rfl⟩:=r;rfl
 | ref _=>cases r;rfl
 | ty _=>cases r;rfl
theorem RelV.inj {x y:V} {u:Value} (r:RelV x u) (q:RelV y u):x=y:=Option.some.inj (r.abs.symm.trans q.abs)
theorem Vals.inj:∀ {xs ys:List V} {us:List Value},Vals xs us->Vals ys us->xs=ys
 | _,_,_,.nil,.nil=>rfl
 | _,_,_,.cons r t,.cons r' t'=>by rw [r.inj r',Vals.inj t t']
section
variable {X:Cx} {pins:List (Addr × Obj)} {σ:St} {H:Hp} {s:Shared} {a:Addr} {xs ys:List V}
theorem SqL.of {K:PySem.W.Frag} (h:H a=some (.lst xs)):SqL K H a xs:=.inl (.inl h)
theorem SqT.of {K:PySem.W.Frag} (h:H a=some (.tup xs)):SqT K H a xs:=.inl (.inl h)
theorem Inv.list (I:Inv X pins σ H s) (h:SqL X.K H a xs):∃ its:List Value,Vals xs its/\PlainL s.heap a its.toArray/\xs.length<=sizeLine:=by
 rcases h with h | ⟨o,its,n,hk,hc,hd,hs,hz,r⟩
 ·obtain ⟨z,its,n,r,e⟩:=h.ok I.hok
  exact ⟨its,r,⟨_,n,e,rfl,rfl,rfl⟩,z⟩
 ·refine ⟨its.toList,r,⟨o,n,I.kIn a o hk,hc,hd,by simpa using hs⟩,?_⟩
  have e:=r.length
  simp only [Array.length_toList] at e
  omega
theorem Inv.tuple (I:Inv X pins σ H s) (h:SqT X.K H a xs):∃ its:List Value,Vals xs its/\IsTup s.heap a its.toArray/\xs.length<=sizeLine:=by
 rcases h with h | ⟨o,its,n,hk,hc,hs,hz,r⟩
 ·obtain ⟨z,its,r,p⟩:=h.ok I.hok
  exact ⟨its,r,p,z⟩
 ·refine ⟨its.toList,r,⟨o,I.kIn a o hk,hc,n,by simpa using hs⟩,?_⟩
  have e:=r.length
  simp only [Array.length_toList] at e
  omega
theorem Inv.list_inj (I:Inv X pins σ H s) (h:SqL X.K H a xs) (h':SqL X.K H a ys):xs=ys:=by
 obtain ⟨its,r,⟨o,n,e,_,_,d⟩,_⟩:=I.list h
 obtain ⟨its',r',⟨o',n',e',_,_,d'⟩,_⟩:=I.list h'
 rw [e] at e';cases e'
 rw [d] at d'
 injection d' with d1 _
 have:its=its':=by simpa using congrArg Array.toList d1
 subst this
 exact r.inj r'
theorem Inv.tuple_inj (I:Inv X pins σ H s) (h:SqT X.K H a xs) (h':SqT X.K H a ys):xs=ys:=by
 obtain ⟨its,r,⟨o,e,_,n,d⟩,_⟩:=I.tuple h
 obtain ⟨its',r',⟨o',e',_,n',d'⟩,_⟩:=I.tuple h'
 rw [e] at e';cases e'
 rw [d] at d'
 injection d' with d1 _
 have:its=its':=by simpa using congrArg Array.toList d1
 subst this
 exact r.inj r'
end
noncomputable abbrev Cx.wish (X:Cx) (E:Value->Shared->Prop):Cx:={ X with xe:=E }
noncomputable abbrev Cx.nox (X:Cx):Cx:=X.wish fun _ _=>False
theorem Cx.Ok.wish {X:Cx} (ok:X.Ok) (E:Value->Shared->Prop):(X.wish E).Ok :=
 ⟨ok.mod,ok.kind,ok.glob,ok.blt,ok.above,ok.inj,ok.has,ok.cab,ok.hd,ok.frames,ok.stk,ok.exf,ok.bs,ok.bsz,ok.noex,ok.exfs,ok.funs,ok.frf⟩
theorem Cx.Ok.unwish {X:Cx} {E:Value->Shared->Prop} (ok:(X.wish E).Ok):X.Ok :=
 ⟨ok.mod,ok.kind,ok.glob,ok.blt,ok.above,ok.inj,ok.has,ok.cab,ok.hd,ok.frames,ok.stk,ok.exf,ok.bs,ok.bsz,ok.noex,ok.exfs,ok.funs,ok.frf⟩
section
variable {X:Cx} {pins:List (Addr × Obj)} {σ:St} {H:Hp} {s:Shared} {E:Value->Shared->Prop}
theorem Inv.wish (I:Inv X pins σ H s) (E:Value->Shared->Prop):Inv (X.wish E) pins σ H s:=⟨I.ok.wish E,I.os,I.bare,I.base,I.loc,I.cell,I.free,I.freeC,I.pin,I.hok,I.len⟩
theorem Inv.unwish (I:Inv (X.wish E) pins σ H s):Inv X pins σ H s:=⟨I.ok.unwish,I.os,I.bare,I.base,I.loc,I.cell,I.free,I.freeC,I.pin,I.hok,I.len⟩
theorem SP.unwish {D:Ends} {f:Flow} {s':Shared} (h:SP (X.wish E) pins D f s'):SP X pins D f s':=by
 cases f with
 | next=>obtain ⟨σ',H',I,q⟩:=h;exact ⟨σ',H',I.unwish,q⟩
 | brk=>obtain ⟨σ',H',I,q⟩:=h;exact ⟨σ',H',I.unwish,q⟩
 | cont=>obtain ⟨σ',H',I,q⟩:=h;exact ⟨σ',H',I.unwish,q⟩
 | ret u=>obtain ⟨v,σ',H',I,r,q⟩:=h;exact ⟨v,σ',H',I.unwish,r,q⟩
theorem PSs.nox {st:List Stmt} {t:TS} (h:PSs X.nox st t):PSs X st t:=fun pins s σ H D I hw =>
 wpAny_mono (h pins s σ H D (I.wish _) hw) (fun _ _ q=>q.unwish) fun _ _ z=>False.elim z
end
section
variable {X:Cx} {st:Stmt} {rest:List Stmt} {t u:TS} {e:Expr} {te:TE} {pos:Pos}
noncomputable def tNext:TS:=fun D σ H=>D.nx σ H
noncomputable def tSeq (t u:TS):TS:=fun D σ H=>t { D with nx:=u D } σ H
theorem pss_nil:PSs X [] tNext:=fun _ _ σ H _ I h=>wpAny_execs_nil ⟨σ,H,I,h⟩
theorem pss_cons (h1:PS X st t) (h2:PSs X rest u):PSs X (st::rest) (tSeq t u):=by
 intro pins s σ H D I h
 refine wpAny_execs_cons (thn (h1 pins s σ H { D with nx:=u D } I h) fun f s1 q=>?_)
 cases f with
 | next =>
  obtain ⟨σ',H',I',q⟩:=q
  exact h2 pins s1 σ' H' D I' q
 | ret v=>exact q
 | brk=>exact q
 | cont=>exact q
theorem pss_one (h1:PS X st t):PSs X [st] t:=by
 intro pins s σ H D I h
 refine wpAny_execs_cons (thn (h1 pins s σ H D I h) fun f s1 q=>?_)
 cases f with
 | next=>exact wpAny_execs_nil q
 | ret v=>exact q
 | brk=>exact q
 | cont=>exact q
theorem Inv.quiet {pins:List (Addr × Obj)} {σ:St} {H:Hp} {s:Shared} (I:Inv X pins σ H s):interactive X.env=false:=by simp [interactive,I.ok.kind]
noncomputable def tDrop (te:TE):TS:=fun D σ H=>te σ H fun _ H1=>D.nx σ H1
theorem ps_expr (he:PE X e te) (hs:swapsWith e none pos.line X.env=pure false:=by rfl):PS X (.Expr e pos) (tDrop te):=by
 intro pins s σ H D I h
 exact wpAny_Expr_any (thn (he pins s σ H _ I h) fun v s1 hsl11=>by obtain ⟨x,H1,I1,r1,q1⟩:=hsl11;exact ⟨σ,H1,I1,q1⟩) I.quiet hs
noncomputable def tRet (te:TE):TS:=fun D σ H=>te σ H D.rt
theorem ps_ret (he:PE X e te):PS X (.Return (some e) pos) (tRet te):=by
 intro pins s σ H D I h
 exact wpAny_Return_some (thn (he pins s σ H _ I h) fun v s1 hsl12=>by obtain ⟨x,H1,I1,r1,q1⟩:=hsl12;exact ⟨x,σ,H1,I1,r1,q1⟩)
noncomputable def tIfS (c:TT) (t u:TS):TS:=fun D σ H=>c σ H fun b H1=>if b=true then t D σ H1 else u D σ H1
theorem ps_if {c:Expr} {a b:List Stmt} {tc:TT} (hc:PT X c tc) (ha:PSs X a t) (hb:PSs X b u):PS X (.If c a b pos) (tIfS tc t u):=by
 intro pins s σ H D I h
 refine wpAny_If (thn (hc pins s σ H _ I h) fun d s1 hsl13=>?_)
 obtain ⟨H1,I1,q1⟩:=hsl13
 cases d with
 | true=>exact ha pins s1 σ H1 D I1 q1
 | false=>exact hb pins s1 σ H1 D I1 q1
noncomputable def tNever:TS:=fun _ _ _=>False
theorem pss_never {sts:List Stmt}:PSs X sts tNever:=fun _ _ _ _ _ _ h=>h.elim
end
noncomputable abbrev TG:=V->St->Hp->(St->Hp->Prop)->Prop
noncomputable abbrev TGs:=List V->St->Hp->(St->Hp->Prop)->Prop
noncomputable def PG (X:Cx) (target:Expr) (t:TG):Prop :=
 ∀ (pins:List (Addr × Obj)) (s:Shared) (σ:St) (H:Hp) (v:V) (u:Value) (Q:St->Hp->Prop),Inv X pins σ H s->RelV v u->t v σ H Q ->
  wpAny (model X.prog X.w) X.A (assign target X.env u) (fun _ s'=>∃ σ' H',Inv X pins σ' H' s'/\Q σ' H') X.xe s
noncomputable def PGs (X:Cx) (ts:List Expr) (t:TGs):Prop :=
 ∀ (pins:List (Addr × Obj)) (s:Shared) (σ:St) (H:Hp) (vs:List V) (us:List Value) (Q:St->Hp->Prop),Inv X pins σ H s->Vals vs us->t vs σ H Q ->
  wpAny (model X.prog X.w) X.A (assignInOrder ((assignEach ts X.env).map (·.2)) us) (fun _ s'=>∃ σ' H',Inv X pins σ' H' s'/\Q σ' H') X.xe s
section
variable {X:Cx} {pos:Pos}
noncomputable def gName (i:Nat):TG:=fun v σ H Q=>Q (σ.set i (some v)) H
theorem pg_name {i:Nat} {x:Str} (hN:X.N.Nodup) (hi:X.N[i]?=some x) (hx:Loc X.env.scope x) (hf:X.fn x=true∨X.env.scope.names.lookup x=some .local:=by first | exact .inl rfl | exact .inr rfl | assumption):PG X (.Name x pos) (gName i):=by
 intro pins s σ H v u Q I r h
 exact wpAny_assign_Name (store_ok I hN hi hx r (fun s' I'=>⟨_,H,I',h⟩) hf)
noncomputable def gNil:TGs:=fun vs σ H Q=>vs=[]/\Q σ H
noncomputable def gCons (t:TG) (u:TGs):TGs:=fun vs σ H Q=>∃ v r,vs=v::r/\t v σ H fun σ' H'=>u r σ' H' Q
theorem pgs_nil:PGs X [] gNil:=by
 intro pins s σ H vs us Q I r h
 obtain ⟨e,h⟩:=h
 subst e
 cases r
 exact assignInOrder_nil ⟨σ,H,I,h⟩
theorem pgs_cons {e:Expr} {es:List Expr} {t:TG} {u:TGs} (h1:PG X e t) (h2:PGs X es u)
  (hs:(assignEach (e::es) X.env).map (·.2)=assign e X.env::(assignEach es X.env).map (·.2):=by rfl):PGs X (e::es) (gCons t u):=by
 intro pins s σ H vs us Q I r h
 obtain ⟨v,vr,e1,h⟩:=h
 subst e1
 cases r with
 | cons r rr =>
  rw [hs]
  refine assignInOrder_cons (thn (h1 pins s σ H _ _ _ I r h) fun _ s1 hsl14=>?_)
  obtain ⟨σ1,H1,I1,q1⟩:=hsl14
  exact h2 pins s1 σ1 H1 _ _ Q I1 rr q1
noncomputable def gTup (K:PySem.W.Frag) (n:Nat) (t:TGs):TG:=fun v σ H Q=>∃ a xs,v=.ref a/\SqT K H a xs/\xs.length=n/\t xs σ H Q
theorem pg_tup {es:List Expr} {k:Nat} {t:TGs} {n:Nat} (hc:X.calm=true) (h:PGs X es t)
  (hn:(assignEach es X.env).length=n:=by rfl) (hst:(assignEach es X.env).findIdx? (·.1)=none:=by rfl):PG X (.Tuple es k pos) (gTup X.K n t):=by
 intro pins s σ H v u Q I r hw
 obtain ⟨a,xs,e1,hq,hl,hw⟩:=hw
 subst e1
 cases r
 obtain ⟨its,rv,ht,hz⟩:=I.tuple hq
 refine assign_Tuple_tuple (I.ok.hd hc) ht (by simp [hn,<- hl,rv.length]) hst fun h' hx=>?_
 have I1:Inv X pins σ H { s with heap:=h' }:=I.kept (t':=s.toks) fun b o e=>hx b o (Nat.ne_of_lt (Heap.lt_size e)) e
 exact h pins _ σ H xs _ Q I1 (by simpa using rv) hw
noncomputable def tAsg (te:TE) (g:TG):TS:=fun D σ H=>te σ H fun x H1=>g x σ H1 D.nx
theorem ps_asg {tg e:Expr} {te:TE} {g:TG} (he:PE X e te) (hg:PG X tg g) (hs:swapsWithSole [tg] e pos.line X.env=pure false:=by rfl) (hw:swappedStores [tg] e X.env=pure none:=by rfl)
  (h1:(assignEach [tg] X.env).map (·.2)=[assign tg X.env]:=by rfl):PS X (.Assign [tg] e pos) (tAsg te g):=by
 intro pins s σ H D I h
 refine wpAny_Assign_stores (thn (he pins s σ H _ I h) fun v s1 hsl15=>?_) hs hw
 obtain ⟨x,H1,I1,r1,q1⟩:=hsl15
 rw [h1]
 exact thn (hg pins s1 σ H1 x v _ I1 r1 q1) fun _ s2 q=>q
theorem ps_set {i:Nat} {x:Str} {e:Expr} {te:TE} {pos':Pos} (hN:X.N.Nodup) (hi:X.N[i]?=some x) (hx:Loc X.env.scope x) (he:PE X e te) (hs:swapsWith e (some (.Name x pos')) pos.line X.env=pure false:=by rfl) (hf:X.fn x=true∨X.env.scope.names.lookup x=some .local:=by first | exact .inl rfl | exact .inr rfl | assumption) :
  PS X (.Assign [.Name x pos'] e pos) (tAsg te (gName i)):=by
 intro pins s σ H D I h
 refine wpAny_Assign_Name (thn (he pins s σ H _ I h) fun v s1 hsl16=>?_) hs
 obtain ⟨y,H1,I1,r1,q1⟩:=hsl16
 exact store_ok I1 hN hi hx r1 (fun s2 I2=>⟨_,H1,I2,q1⟩) hf
end
section
variable {X:Cx} {pos:Pos}
end
structure It where
 go:Nat->Hp->Prop
 yld:Nat->Hp->V->Hp->Prop
 stop:Nat->Hp->Prop
noncomputable def FpOk (X:Cx) (pins:List (Addr × Obj)) (H:Hp) (b:Addr):Prop :=
 H b=none/\b≠X.env.locals/\b∉X.fs/\(b∈X.ex∨X.s₀.heap.objs.size<=b)/\(∀ x c,X.env.cells.lookup x=some c->c≠b)/\∀ p∈X.pn++pins,p.1≠b
theorem Inv.fpOk {X:Cx} {pins:List (Addr × Obj)} {σ:St} {H H':Hp} {s:Shared} {b:Addr} (I:Inv X pins σ H s) (hb:s.heap.objs.size<=b) (hn:H' b=none):FpOk X pins H' b:=by
 refine ⟨hn,Nat.ne_of_gt (Nat.lt_of_lt_of_le I.lt hb),I.nofs hb,.inr (Nat.le_trans I.sz hb),fun x c e z=>?_,fun p hp z=>?_⟩
 ·obtain ⟨v,q⟩:=I.cell x c e
  exact absurd (Nat.lt_of_lt_of_le q.lt (by rw [z];exact hb)) (Nat.lt_irrefl _)
 ·exact absurd (Nat.lt_of_lt_of_le (Heap.lt_size (I.pin p hp).1) (by rw [z];exact hb)) (Nat.lt_irrefl _)
structure Turn (P:Program) (w:World) (K:PySem.W.Frag) (tg:Expr) (J:It) (fp:List Addr) (it:Addr) (tn:Nat->Heap->Prop):Prop where
 mem:it∈fp
 obj:∀ i h,tn i h->∀ b∈fp,∃ o,h.get? b=some o/\∀ v,o.data≠.cell v
 keep:∀ i h h',tn i h->(∀ b∈fp,∀ o,h.get? b=some o->h'.get? b=some o)->tn i h'
 item:∀ (X:Cx),X.prog=P->X.w=w->X.K=K->X.calm=true->∀ (i:Nat) (pins:List (Addr × Obj)) (s:Shared) (σ:St) (H:Hp) (E:Value->Shared->Prop),Inv X pins σ H s->(∀ b∈fp,FpOk X pins H b)->tn i s.heap->J.go i H ->
  wpAny (model P w) X.A (pyNext (.ref it)) (fun r s1=>∃ u,r=some u /\
   wpAny (model P w) X.A (letOwnedTupleGo tg (.ref it) u) (fun _ s2=>∃ x H',Inv X pins σ H' s2/\RelV x u/\J.yld i H x H'/\tn (i+1) s2.heap/\∀ b∈fp,H' b=none) E s1) E s
 done:∀ (X:Cx),X.prog=P->X.w=w->X.K=K->X.calm=true->∀ (i:Nat) (pins:List (Addr × Obj)) (s:Shared) (σ:St) (H:Hp) (E:Value->Shared->Prop),Inv X pins σ H s->(∀ b∈fp,FpOk X pins H b)->tn i s.heap->J.stop i H ->
  wpAny (model P w) X.A (pyNext (.ref it)) (fun r s1=>r=none/\Inv X pins σ H s1) E s
 self:∀ (A:Around) (i:Nat) (s:Shared) (Q:Value->Shared->Prop) (E:Value->Shared->Prop),tn i s.heap->Q (.ref it) s->wpAny (model P w) A (pyIter (.ref it)) Q E s
noncomputable abbrev TI:=St->Hp->(It->Hp->Prop)->Prop
noncomputable def PIE (X:Cx) (pins:List (Addr × Obj)) (σ:St) (tg:Expr) (R:It->Hp->Prop) (itv:Value) (s2:Shared):Prop :=
 ∃ (it:Addr) (fp:List Addr) (tn:Nat->Heap->Prop) (J:It) (H':Hp),itv=.ref it/\Inv X pins σ H' s2/\Turn X.prog X.w X.K tg J fp it tn/\tn 0 s2.heap/\(∀ b∈fp,FpOk X pins H' b)/\R J H'
noncomputable def PI (X:Cx) (tg iter:Expr) (wi:TI):Prop :=
 ∀ (pins:List (Addr × Obj)) (s:Shared) (σ:St) (H:Hp) (R:It->Hp->Prop),Inv X pins σ H s->wi σ H R ->
  wpAny (model X.prog X.w) X.A (eval iter X.env) (fun v s1=>wpAny (model X.prog X.w) X.A (pyIter v) (PIE X pins σ tg R) X.xe s1) X.xe s
theorem go_of {M:Model} {A:Around} {E:Value->Shared->Prop} {s:Shared} {tg:Expr} {it:Addr} {u:Value} {o:Obj} {n:String} {vs:Array Value} {Q:Unit->Shared->Prop} (ho:s.heap.get? it=some o) (hc:o.cls=.type n) (hd:o.data=.fields vs)
  (hn:["enumerate","zip","dict_itemiterator","dict_reverseitemiterator","odict_iterator","itertools.zip_longest","itertools.pairwise"].contains n=false) (hQ:Q () s):wpAny M A (letOwnedTupleGo tg (.ref it) u) Q E s:=by
 unfold letOwnedTupleGo
 cases tg<;>first
  | exact wpAny_pure hQ
  | (cases u<;>first
    | exact wpAny_pure hQ
    | (refine wpAny_bind (wpAny_load ho ?_)
       rw [hc,hd]
       show wpAny M A (if (["enumerate","zip","dict_itemiterator","dict_reverseitemiterator","odict_iterator","itertools.zip_longest","itertools.pairwise"].contains n&&vs[0]? == some (rawInt _))=true then _ else _) Q E s
       rw [if_neg (by intro h;rw [hn,Bool.false_and] at h;cases h)]
       exact wpAny_pure hQ))
noncomputable def Itl (K:PySem.W.Frag) (a:Addr):It :=
 ⟨fun i H=>∃ xs x,SqL K H a xs/\xs[i]?=some x,fun i H x H'=>H'=H/\∀ xs,SqL K H a xs->xs[i]?=some x,fun i H=>∃ xs,SqL K H a xs/\xs.length<=i⟩
noncomputable def Itt (K:PySem.W.Frag) (a:Addr):It :=
 ⟨fun i H=>∃ xs x,SqT K H a xs/\xs[i]?=some x,fun i H x H'=>H'=H/\∀ xs,SqT K H a xs->xs[i]?=some x,fun i H=>∃ xs,SqT K H a xs/\xs.length<=i⟩
noncomputable def Itr (lo:Int) (n:Nat):It:=⟨fun i _=>i<n,fun i H x H'=>H'=H/\x=.int (lo+i),fun i _=>n<=i⟩
theorem turn_list {P:Program} {w:World} {K:PySem.W.Frag} {tg:Expr} (a it:Addr):Turn P w K tg (Itl K a) [it] it (fun i h=>h.IsListIter it a i) where
 mem:=by simp
 obj:=fun i h st b hb=>by
  have e:b=it:=by simpa using hb
  subst e
  obtain ⟨o,e,c,d⟩:=st
  exact ⟨o,e,fun v z=>by rw [d] at z;cases z⟩
 keep:=fun i h h' st k=>st.at fun o e=>k it (by simp) o e
 item:=by
  intro X hP hw hK hc i pins s σ H E I hf st hg
  subst hP hw hK
  obtain ⟨xs,x,hq,hx⟩:=hg
  obtain ⟨its,rv,p,hz⟩:=I.list hq
  obtain ⟨u,hu,ru⟩:=rv.get hx
  obtain ⟨f0,f1,f2,f3,f4,f5⟩:=hf it (by simp)
  refine wpAny_pyNext_list_item st p.isList (x:=u) (by simpa using hu) fun h' st' sb=>?_
  have I1:Inv X pins σ H { s with heap:=h' }:=I.turned (t':=s.toks) (fun b o hb e=>(sb.2 b hb).trans e) f0 f1 f3 f4 f5
  obtain ⟨o,e,c,d⟩:=id st'
  exact ⟨u,rfl,go_of (s:={ s with heap:=h' }) e c d (by decide) ⟨x,H,I1,ru,⟨rfl,fun ys hy=>by rw [I.list_inj hy hq];exact hx⟩,st',fun b hb=>(hf b hb).1⟩⟩
 done:=by
  intro X hP hw hK hc i pins s σ H E I hf st hg
  subst hP hw hK
  obtain ⟨xs,hq,hx⟩:=hg
  obtain ⟨its,rv,p,hz⟩:=I.list hq
  obtain ⟨f0,f1,f2,f3,f4,f5⟩:=hf it (by simp)
  have hl:=rv.length
  exact wpAny_pyNext_list_end (I.ok.hd hc) st p.isList (by simp;omega) fun h' eb=>⟨rfl,I.turned (t':=s.toks) (fun b o hb e=>eb b o hb e) f0 f1 f3 f4 f5⟩
 self:=fun _ _ _ _ _ st h=>wpAny_pyIter_listiter st h
theorem turn_tuple {P:Program} {w:World} {K:PySem.W.Frag} {tg:Expr} (a it:Addr):Turn P w K tg (Itt K a) [it] it (fun i h=>h.IsTupleIter it a i) where
 mem:=by simp
 obj:=fun i h st b hb=>by
  have e:b=it:=by simpa using hb
  subst e
  obtain ⟨o,e,c,d⟩:=st
  exact ⟨o,e,fun v z=>by rw [d] at z;cases z⟩
 keep:=fun i h h' st k=>st.at fun o e=>k it (by simp) o e
 item:=by
  intro X hP hw hK hc i pins s σ H E I hf st hg
  subst hP hw hK
  obtain ⟨xs,x,hq,hx⟩:=hg
  obtain ⟨its,rv,p,hz⟩:=I.tuple hq
  obtain ⟨u,hu,ru⟩:=rv.get hx
  obtain ⟨f0,f1,f2,f3,f4,f5⟩:=hf it (by simp)
  refine wpAny_pyNext_tuple_item st (show s.heap.IsTuple a its.toArray from p) (x:=u) (by simpa using hu) fun h' st' sb=>?_
  have I1:Inv X pins σ H { s with heap:=h' }:=I.turned (t':=s.toks) (fun b o hb e=>(sb.2 b hb).trans e) f0 f1 f3 f4 f5
  obtain ⟨o,e,c,d⟩:=id st'
  exact ⟨u,rfl,go_of (s:={ s with heap:=h' }) e c d (by decide) ⟨x,H,I1,ru,⟨rfl,fun ys hy=>by rw [I.tuple_inj hy hq];exact hx⟩,st',fun b hb=>(hf b hb).1⟩⟩
 done:=by
  intro X hP hw hK hc i pins s σ H E I hf st hg
  subst hP hw hK
  obtain ⟨xs,hq,hx⟩:=hg
  obtain ⟨its,rv,p,hz⟩:=I.tuple hq
  obtain ⟨f0,f1,f2,f3,f4,f5⟩:=hf it (by simp)
  have hl:=rv.length
  exact wpAny_pyNext_tuple_end (I.ok.hd hc) st (show s.heap.IsTuple a its.toArray from p) (by simp;omega) fun h' eb=>⟨rfl,I.turned (t':=s.toks) (fun b o hb e=>eb b o hb e) f0 f1 f3 f4 f5⟩
 self:=fun _ _ _ _ _ st h=>wpAny_pyIter_tupleiter st h
theorem turn_range {P:Program} {w:World} {K:PySem.W.Frag} {tg:Expr} (it:Addr) (lo:Int) (n:Nat):Turn P w K tg (Itr lo n) [it] it (fun i h=>IsRangeIter h it (lo+(i:Nat)*1) ((n:Int)-(i:Nat)) 1) where
 mem:=by simp
 obj:=fun i h st b hb=>by
  have e:b=it:=by simpa using hb
  subst e
  exact ⟨_,st,fun v z=>by
   have z':Data.fields _=Data.cell v:=z
   cases z'⟩
 keep:=fun i h h' st k=>k it (by simp) _ st
 item:=by
  intro X hP hw hK hc i pins s σ H E I hf st hg
  subst hP hw hK
  obtain ⟨f0,f1,f2,f3,f4,f5⟩:=hf it (by simp)
  have W:=Walks.range (prog:=X.prog) (w:=X.w) (I.ok.hd hc) it lo 1 n
  refine W.item i s _ _ hg st fun v h' tk hv st' kk=>?_
  obtain ⟨t,rfl⟩:=hv
  have I1:Inv X pins σ H { s with heap:=h',toks:=tk }:=I.turned (fun b o hb e=>kk b o (by simpa using hb) e) f0 f1 f3 f4 f5
  refine ⟨_,rfl,go_of (s:={ s with heap:=h',toks:=tk }) (n:="range_iterator") st' rfl rfl (by decide) ⟨.int (lo+i),H,I1,⟨t,?_⟩,⟨rfl,rfl⟩,st',fun b hb=>(hf b hb).1⟩⟩
  rw [Int.mul_one]
 done:=by
  intro X hP hw hK hc i pins s σ H E I hf st hg
  subst hP hw hK
  obtain ⟨f0,f1,f2,f3,f4,f5⟩:=hf it (by simp)
  exact wpAny_pyNext_range_end (I.ok.hd hc) st (by have:n<=i:=hg;omega) fun h' eb=>⟨rfl,I.turned (t':=s.toks) (fun b o hb e=>eb b o hb e) f0 f1 f3 f4 f5⟩
 self:=fun _ _ _ _ _ st h=>wpAny_pyIter_rangeiter st h
end L2
namespace L2
open PySem PySem.Spec PyProof.Rows
section
variable {X:Cx} {tg:Expr}
noncomputable def iList (K:PySem.W.Frag) (tl:TE):TI:=fun σ H R=>tl σ H fun x H1=>∃ a,x=.ref a/\(∃ xs,SqL K H1 a xs)/\R (Itl K a) H1
noncomputable def iTup (K:PySem.W.Frag) (tl:TE):TI:=fun σ H R=>tl σ H fun x H1=>∃ a,x=.ref a/\(∃ xs,SqT K H1 a xs)/\R (Itt K a) H1
theorem pi_list {l:Expr} {tl:TE} (hl:PE X l tl):PI X tg l (iList X.K tl):=by
 intro pins s σ H R I h
 refine thn (hl pins s σ H _ I h) fun v s1 hsl17=>?_
 obtain ⟨x,H1,I1,r1,q1⟩:=hsl17
 obtain ⟨a,e,⟨xs,hq⟩,q⟩:=q1
 subst e
 cases r1
 obtain ⟨its,rv,p,hz⟩:=I1.list hq
 refine wpAny_pyIter_list p.isList ?_
 refine ⟨s1.heap.objs.size,[s1.heap.objs.size],_,_,H1,rfl,I1.kept (t':=s1.toks) fun b o e=>Heap.get?_push_of_some _ e,turn_list a _,⟨_,Heap.get?_push_size _ rfl,rfl,rfl⟩,fun b hb=>?_,q⟩
 have e:b=s1.heap.objs.size:=by simpa using hb
 subst e
 exact I1.fpOk (Nat.le_refl _) (I1.hok.fresh (Nat.le_refl _))
theorem pi_tup {l:Expr} {tl:TE} (hl:PE X l tl):PI X tg l (iTup X.K tl):=by
 intro pins s σ H R I h
 refine thn (hl pins s σ H _ I h) fun v s1 hsl18=>?_
 obtain ⟨x,H1,I1,r1,q1⟩:=hsl18
 obtain ⟨a,e,⟨xs,hq⟩,q⟩:=q1
 subst e
 cases r1
 obtain ⟨its,rv,p,hz⟩:=I1.tuple hq
 refine wpAny_pyIter_tuple (show s1.heap.IsTuple a its.toArray from p) ?_
 refine ⟨s1.heap.objs.size,[s1.heap.objs.size],_,_,H1,rfl,I1.kept (t':=s1.toks) fun b o e=>Heap.get?_push_of_some _ e,turn_tuple a _,⟨_,Heap.get?_push_size _ rfl,rfl,rfl⟩,fun b hb=>?_,q⟩
 have e:b=s1.heap.objs.size:=by simpa using hb
 subst e
 exact I1.fpOk (Nat.le_refl _) (I1.hok.fresh (Nat.le_refl _))
theorem range_it {pins:List (Addr × Obj)} {σ:St} {H:Hp} {s:Shared} {R:It->Hp->Prop} {E:Value->Shared->Prop} {lo hi:Int} {t u v:Tok} {tk:Nat} (I:Inv X pins σ H s) (h1:-(2 ^ 62)<=lo) (h2:lo<2 ^ 62) (h3:-(2 ^ 62)<=hi) (h4:hi<2 ^ 62)
  (q:R (Itr lo (hi-lo).toNat) H):wpAny (model X.prog X.w) X.A (pyIter (.ref s.heap.objs.size)) (PIE X pins σ tg R) E { s with heap:=s.heap.push { cls:=.type "range",data:=.fields #[.int lo t,.int hi u,.int 1 v] },toks:=tk }:=by
 refine wpAny_pyIter_range (IsRange.new ..) (small_one h1 h2 h3 h4) ?_
 have I1:Inv X pins σ H { s with heap:=s.heap.push { cls:=.type "range",data:=.fields #[.int lo t,.int hi u,.int 1 v] },toks:=tk }:=I.kept fun b o e=>Heap.get?_push_of_some _ e
 refine ⟨(s.heap.push { cls:=.type "range",data:=.fields #[.int lo t,.int hi u,.int 1 v] }).objs.size,[(s.heap.push { cls:=.type "range",data:=.fields #[.int lo t,.int hi u,.int 1 v] }).objs.size],_,_,H,rfl,
  I1.kept (t':=tk) fun b o e=>Heap.get?_push_of_some _ e,turn_range _ lo (hi-lo).toNat,?_,fun b hb=>?_,q⟩
 ·have e1:lo+((0:Nat):Int)*1=lo:=by simp
  have e2:(((hi-lo).toNat:Nat):Int)-((0:Nat):Int)=Builtin.Range.rangeSize lo hi 1:=by rw [rangeSize_one];split<;>omega
  show IsRangeIter _ _ (lo+((0:Nat):Int)*1) ((((hi-lo).toNat:Nat):Int)-((0:Nat):Int)) 1
  rw [e1,e2]
  exact Heap.get?_push_size _ rfl
 ·have e:b=(s.heap.push { cls:=.type "range",data:=.fields #[.int lo t,.int hi u,.int 1 v] }).objs.size:=by simpa using hb
  subst e
  exact I1.fpOk (Nat.le_refl _) (I1.hok.fresh (Nat.le_refl _))
noncomputable def iRng1 (ta:TA):TI:=fun σ H R=>ta σ H fun vs H1=>∃ j:Int,vs=[.int j]/\-(2 ^ 62)<=j/\j<2 ^ 62/\R (Itr 0 j.toNat) H1
theorem pi_range1 {a:Expr} {ta:TA} {p pos:Pos} (hg:Gl X "range") (hm:X.mg "range"=none) (ha:PA X [a] ta) (hs:starEach [a] X.env=[(false,eval a X.env)]:=by rfl):PI X tg (.Call (.Name "range" p) [a] [] pos) (iRng1 ta):=by
 intro pins s σ H R I h
 refine Call_ (ld_blt I hg hm boot_range (PyProof.Rows.callWith_type1 (thn (ha pos pins s σ H _ I h) fun us s1 hsl19=>?_) hs rfl))
 obtain ⟨vs,H1,I1,r1,q1⟩:=hsl19
 obtain ⟨j,e,q1,q2,q⟩:=q1
 subst e
 cases r1 with
 | cons r rr =>
  cases rr
  obtain ⟨t,rfl⟩:=r
  exact call_range_1 (range_it I1 (by omega) (by omega) q1 q2 (by simpa using q))
noncomputable def tFor (wi:TI) (g:TG) (tb:TS):TS:=fun D σ H=>wi σ H fun J H1=>∃ W:Nat->Nat->St->Hp->Prop,(∃ m,W 0 m σ H1)/\∀ i m σ H,W i m σ H ->
 (J.stop i H/\D.nx σ H)∨(J.go i H/\∃ N:St->Hp->Prop,(∀ σ' H',N σ' H'->∃ m',m'<m/\W (i+1) m' σ' H')/\∀ x H',J.yld i H x H'->g x σ H' fun σ2 H2=>tb { D with nx:=N,ct:=N,bk:=D.nx } σ2 H2)
noncomputable def pinsAt (fp:List Addr) (h:Heap):List (Addr × Obj):=fp.filterMap fun b=>(h.get? b).map fun o=>(b,o)
theorem mem_pinsAt {fp:List Addr} {h:Heap} {b:Addr} {o:Obj} (hb:b∈fp) (e:h.get? b=some o):(b,o)∈pinsAt fp h:=List.mem_filterMap.mpr ⟨b,hb,by rw [e];rfl⟩
theorem of_pinsAt {fp:List Addr} {h:Heap} {p:Addr × Obj} (hp:p∈pinsAt fp h):p.1∈fp/\h.get? p.1=some p.2:=by
 obtain ⟨b,hb,e⟩:=List.mem_filterMap.mp hp
 cases q:h.get? b with
 | none=>rw [q] at e;cases e
 | some o =>
  rw [q] at e
  have e':(b,o)=p:=Option.some.inj e
  subst e'
  exact ⟨hb,q⟩
theorem Inv.pinned {pins:List (Addr × Obj)} {σ:St} {H:Hp} {s:Shared} {fp:List Addr} (I:Inv X pins σ H s) (hf:∀ b∈fp,FpOk X pins H b) (ho:∀ b∈fp,∃ o,s.heap.get? b=some o/\∀ v,o.data≠.cell v):Inv X (pins++pinsAt fp s.heap) σ H s :=
 I.pins_of fun p hp=>(List.mem_append.mp hp).elim (fun z=>I.pin p (List.mem_append_right _ z)) fun z=>by
  obtain ⟨hb,e⟩:=of_pinsAt z
  obtain ⟨f0,f1,f2,_⟩:=hf p.1 hb
  obtain ⟨o,e',d⟩:=ho p.1 hb
  rw [e] at e';cases e'
  exact ⟨e,f0,f1,f2,d⟩
theorem Inv.unpinned {pins pl:List (Addr × Obj)} {σ:St} {H:Hp} {s:Shared} (I:Inv X (pins++pl) σ H s):Inv X pins σ H s:=I.pins_of fun p hp=>I.pin p (List.mem_append_right _ (List.mem_append_left _ hp))
theorem ps_for {iter:Expr} {body:List Stmt} {wi:TI} {g:TG} {tb:TS} {pos:Pos} (hp:PassesOwn (model X.prog X.w) X.A X.env X.xe) (hc:X.calm=true) (hi:PI X tg iter wi) (hg:PG X tg g) (hb:PSs X body tb)
  (hs:∀ x,foldedSetIterable iter X.env x=pure x:=by intro _;rfl):PS X (.For tg iter body [] pos) (tFor wi g tb):=by
 intro pins s σ H D I h
 refine wpAny_For (thn (hi pins s σ H _ I h) fun v s1 h1=>thn h1 fun itv s2 h2=>?_) hs
 obtain ⟨it,fp,tn,J,H2,e,I2,T,st2,f2,W,⟨m0,w0⟩,turn⟩:=h2
 subst e
 have stat:∀ {H':Hp},(∀ b∈fp,H' b=none)->∀ b∈fp,FpOk X pins H' b:=fun hn b hb=>⟨hn b hb,(f2 b hb).2⟩
 refine codeAny_forLoop_any (fun n s'=>∃ i σ' H',Inv X pins σ' H' s'/\tn i s'.heap/\(∀ b∈fp,H' b=none)/\W i n σ' H') ?_ m0 ⟨0,σ,H2,I2,st2,fun b hb=>(f2 b hb).1,w0⟩
 rintro n s3 ⟨i,σ3,H3,I3,st3,fr3,w3⟩
 rcases turn i n σ3 H3 w3 with ⟨stop,qn⟩ | ⟨go,N,hN,step⟩
 ·refine wpAny_passesOwn hp (thn (T.done X rfl rfl rfl hc i pins s3 σ3 H3 X.xe I3 (stat fr3) st3 stop) fun r s4 hsl20=>?_)
  obtain ⟨hr,I4⟩:=hsl20
  subst hr
  exact wpAny_execs_nil ⟨σ3,H3,I4,qn⟩
 ·refine wpAny_passesOwn hp (thn (T.item X rfl rfl rfl hc i pins s3 σ3 H3 X.xe I3 (stat fr3) st3 go) fun r s4 hsl21=>?_)
  obtain ⟨u,hr,h4⟩:=hsl21
  subst hr
  refine wpAny_passesOwn hp (thn h4 fun _ s5 hsl22=>?_)
  obtain ⟨x,H5,I5,r5,y5,st5,fr5⟩:=hsl22
  have I5':=I5.pinned (stat fr5) (T.obj _ _ st5)
  refine wpAny_passesOwn hp (thn (hg _ s5 σ3 H5 x u _ I5' r5 (step x H5 y5)) fun _ s6 hsl23=>?_)
  obtain ⟨σ6,H6,I6,q6⟩:=hsl23
  refine wpAny_passesOwn hp (thn (hb _ s6 σ6 H6 _ I6 q6) fun f s7 q7=>?_)
  have again:∀ {σ7:St} {H7:Hp},Inv X (pins++pinsAt fp s5.heap) σ7 H7 s7->N σ7 H7->∃ m,m<n/\∃ i σ' H',Inv X pins σ' H' s7/\tn i s7.heap/\(∀ b∈fp,H' b=none)/\W i m σ' H':=fun {σ7 H7} I7 n7=>by
   obtain ⟨m',hm,w7⟩:=hN σ7 H7 n7
   refine ⟨m',hm,i+1,σ7,H7,I7.unpinned,T.keep _ _ _ st5 fun b hb o e=>(I7.pin (b,o) (List.mem_append_right _ (List.mem_append_right _ (mem_pinsAt hb e)))).1,fun b hb=>?_,w7⟩
   obtain ⟨o,e,d⟩:=T.obj _ _ st5 b hb
   exact (I7.pin (b,o) (List.mem_append_right _ (List.mem_append_right _ (mem_pinsAt hb e)))).2.1
  cases f with
  | next=>obtain ⟨σ7,H7,I7,n7⟩:=q7;exact again I7 n7
  | cont=>obtain ⟨σ7,H7,I7,n7⟩:=q7;exact again I7 n7
  | brk=>obtain ⟨σ7,H7,I7,q7⟩:=q7;exact ⟨σ7,H7,I7.unpinned,q7⟩
  | ret v=>obtain ⟨x7,σ7,H7,I7,r7,q7⟩:=q7;exact ⟨x7,σ7,H7,I7.unpinned,r7,q7⟩
end
theorem for_list {K:PySem.W.Frag} {a:Addr} {xs:List V} {g:TG} {tb:TS} {D:Ends} {σ:St} {H:Hp} (Pv:Nat->St->Hp->Prop) (h0:Pv 0 σ H) (hl:∀ i σ H,i<=xs.length->Pv i σ H->SqL K H a xs)
  (hs:∀ i x σ H,xs[i]?=some x->Pv i σ H->g x σ H fun σ2 H2=>tb { D with nx:=Pv (i+1),ct:=Pv (i+1),bk:=D.nx } σ2 H2) (hd:∀ σ H,Pv xs.length σ H->D.nx σ H) :
  ∃ W:Nat->Nat->St->Hp->Prop,(∃ m,W 0 m σ H)/\∀ i m σ H,W i m σ H ->
   ((Itl K a).stop i H/\D.nx σ H)∨((Itl K a).go i H/\∃ N:St->Hp->Prop,(∀ σ' H',N σ' H'->∃ m',m'<m/\W (i+1) m' σ' H')/\∀ x H',(Itl K a).yld i H x H'->g x σ H' fun σ2 H2=>tb { D with nx:=N,ct:=N,bk:=D.nx } σ2 H2):=by
 refine ⟨fun i m σ H=>m=xs.length-i/\i<=xs.length/\Pv i σ H,⟨xs.length,by simp,Nat.zero_le _,h0⟩,?_⟩
 rintro i m σ H ⟨rfl,hi,p⟩
 have q:=hl i σ H hi p
 by_cases hlt:i<xs.length
 ·refine .inr ⟨⟨xs,xs[i],q,by simp [hlt]⟩,Pv (i+1),fun σ' H' p'=>⟨xs.length-(i+1),by omega,rfl,hlt,p'⟩,fun x H' y=>?_⟩
  obtain ⟨e,y⟩:=y
  subst e
  exact hs i x σ _ (y xs q) p
 ·have e:i=xs.length:=by omega
  subst e
  exact .inl ⟨⟨xs,q,Nat.le_refl _⟩,hd σ H p⟩
theorem for_tup {K:PySem.W.Frag} {a:Addr} {xs:List V} {g:TG} {tb:TS} {D:Ends} {σ:St} {H:Hp} (Pv:Nat->St->Hp->Prop) (h0:Pv 0 σ H) (hl:∀ i σ H,i<=xs.length->Pv i σ H->SqT K H a xs)
  (hs:∀ i x σ H,xs[i]?=some x->Pv i σ H->g x σ H fun σ2 H2=>tb { D with nx:=Pv (i+1),ct:=Pv (i+1),bk:=D.nx } σ2 H2) (hd:∀ σ H,Pv xs.length σ H->D.nx σ H) :
  ∃ W:Nat->Nat->St->Hp->Prop,(∃ m,W 0 m σ H)/\∀ i m σ H,W i m σ H ->
   ((Itt K a).stop i H/\D.nx σ H)∨((Itt K a).go i H/\∃ N:St->Hp->Prop,(∀ σ' H',N σ' H'->∃ m',m'<m/\W (i+1) m' σ' H')/\∀ x H',(Itt K a).yld i H x H'->g x σ H' fun σ2 H2=>tb { D with nx:=N,ct:=N,bk:=D.nx } σ2 H2):=by
 refine ⟨fun i m σ H=>m=xs.length-i/\i<=xs.length/\Pv i σ H,⟨xs.length,by simp,Nat.zero_le _,h0⟩,?_⟩
 rintro i m σ H ⟨rfl,hi,p⟩
 have q:=hl i σ H hi p
 by_cases hlt:i<xs.length
 ·refine .inr ⟨⟨xs,xs[i],q,by simp [hlt]⟩,Pv (i+1),fun σ' H' p'=>⟨xs.length-(i+1),by omega,rfl,hlt,p'⟩,fun x H' y=>?_⟩
  obtain ⟨e,y⟩:=y
  subst e
  exact hs i x σ _ (y xs q) p
 ·have e:i=xs.length:=by omega
  subst e
  exact .inl ⟨⟨xs,q,Nat.le_refl _⟩,hd σ H p⟩
theorem for_range {lo:Int} {n:Nat} {g:TG} {tb:TS} {D:Ends} {σ:St} {H:Hp} (Pv:Nat->St->Hp->Prop) (h0:Pv 0 σ H)
  (hs:∀ i σ H,i<n->Pv i σ H->g (.int (lo+i)) σ H fun σ2 H2=>tb { D with nx:=Pv (i+1),ct:=Pv (i+1),bk:=D.nx } σ2 H2) (hd:∀ σ H,Pv n σ H->D.nx σ H) :
  ∃ W:Nat->Nat->St->Hp->Prop,(∃ m,W 0 m σ H)/\∀ i m σ H,W i m σ H ->
   ((Itr lo n).stop i H/\D.nx σ H)∨((Itr lo n).go i H/\∃ N:St->Hp->Prop,(∀ σ' H',N σ' H'->∃ m',m'<m/\W (i+1) m' σ' H')/\∀ x H',(Itr lo n).yld i H x H'->g x σ H' fun σ2 H2=>tb { D with nx:=N,ct:=N,bk:=D.nx } σ2 H2):=by
 refine ⟨fun i m σ H=>m=n-i/\i<=n/\Pv i σ H,⟨n,by simp,Nat.zero_le _,h0⟩,?_⟩
 rintro i m σ H ⟨rfl,hi,p⟩
 by_cases hlt:i<n
 ·refine .inr ⟨hlt,Pv (i+1),fun σ' H' p'=>⟨n-(i+1),by omega,rfl,hlt,p'⟩,fun x H' y=>?_⟩
  obtain ⟨e,y⟩:=y
  subst e y
  exact hs i σ _ hlt p
 ·have e:i=n:=by omega
  subst e
  exact .inl ⟨Nat.le_refl _,hd σ H p⟩
end L2
namespace L2
open PySem PySem.Spec PyProof.Rows
noncomputable abbrev R2:=V->V->Hp->VK->Prop
noncomputable def OpR (X:Cx) (f:Value->Value->Sem Value) (r:R2):Prop :=
 ∀ (pins:List (Addr × Obj)) (s:Shared) (σ:St) (H:Hp) (x y:V) (v u:Value) (Q:VK),Inv X pins σ H s->RelV x v->RelV y u->r x y H Q ->
  wpAny (model X.prog X.w) X.A (f v u) (EP X pins σ Q) X.xe s
noncomputable def UnR (X:Cx) (f:Value->Sem Value) (r:V->Hp->VK->Prop):Prop :=
 ∀ (pins:List (Addr × Obj)) (s:Shared) (σ:St) (H:Hp) (x:V) (v:Value) (Q:VK),Inv X pins σ H s->RelV x v->r x H Q ->
  wpAny (model X.prog X.w) X.A (f v) (EP X pins σ Q) X.xe s
noncomputable def CallR (X:Cx) (f:Value) (r:List V->Hp->VK->Prop):Prop :=
 ∀ (pins:List (Addr × Obj)) (s:Shared) (σ:St) (H:Hp) (xs:List V) (us:List Value) (Q:VK),Inv X pins σ H s->Vals xs us->r xs H Q ->
  wpAny (model X.prog X.w) X.A (call f us) (EP X pins σ Q) X.xe s
noncomputable def tOp (r:R2) (ta tb:TE):TE:=fun σ H Q=>ta σ H fun x H1=>tb σ H1 fun y H2=>r x y H2 Q
noncomputable def tUn (r:V->Hp->VK->Prop) (ta:TE):TE:=fun σ H Q=>ta σ H fun x H1=>r x H1 Q
noncomputable def rI (C:Int->Int->Prop) (g:Int->Int->V):R2:=fun x y H Q=>∃ i j,x=.int i/\y=.int j/\C i j/\Q (g i j) H
noncomputable def rI0 (g:Int->Int->V):R2:=fun x y H Q=>∃ i j,x=.int i/\y=.int j/\Q (g i j) H
noncomputable def rU (g:Int->V):V->Hp->VK->Prop:=fun x H Q=>∃ i,x=.int i/\Q (g i) H
section
variable {X:Cx} {a b c:Expr} {ta tb tc:TE} {pos:Pos}
theorem binT (ha:PE X a ta) (hb:PE X b tb) {pins:List (Addr × Obj)} {s:Shared} {σ:St} {H:Hp} {R:V->V->Hp->Prop} (I:Inv X pins σ H s)
  (h:ta σ H fun x H1=>tb σ H1 fun y H2=>R x y H2) {Q:Value->Shared->Prop} {f:Value->Value->Sem Value}
  (hf:∀ v u s2 x y H2,Inv X pins σ H2 s2->RelV x v->RelV y u->R x y H2->wpAny (model X.prog X.w) X.A (f v u) Q X.xe s2) :
  wpAny (model X.prog X.w) X.A (eval a X.env) (fun v s₁=>wpAny (model X.prog X.w) X.A (eval b X.env) (fun u s₂=>wpAny (model X.prog X.w) X.A (f v u) Q X.xe s₂) X.xe s₁) X.xe s:=by
 refine thn (ha pins s σ H _ I h) fun v s1 hsl24=>?_
 obtain ⟨x,H1,I1,r1,q1⟩:=hsl24
 refine thn (hb pins s1 σ H1 _ I1 q1) fun u s2 hsl25=>?_
 obtain ⟨y,H2,I2,r2,q2⟩:=hsl25
 exact hf v u s2 x y H2 I2 r1 r2 q2
theorem pe_op {op:Operator} {r:R2} (ho:OpR X (binaryOp op) r) (ha:PE X a ta) (hb:PE X b tb):PE X (.BinOp a op b pos) (tOp r ta tb):=by
 intro pins s σ H Q I h
 exact wpAny_BinOp (binT ha hb I h fun v u s2 x y H2 I2 rx ry q=>ho pins s2 σ H2 x y v u Q I2 rx ry q)
theorem pe_un {op:UnaryOp} {r:V->Hp->VK->Prop} (ho:UnR X (unaryOp op) r) (ha:PE X a ta):PE X (.UnaryOp op a pos) (tUn r ta):=by
 intro pins s σ H Q I h
 exact UnaryOp_ (thn (ha pins s σ H _ I h) fun v s1 hsl26=>by obtain ⟨x,H1,I1,r1,q1⟩:=hsl26;exact ho pins s1 σ H1 x v Q I1 r1 q1)
theorem opI {f:Value->Value->Sem Value} {C:Int->Int->Prop} {g:Int->Int->Int}
  (rule:∀ (i j:Int) (t u:Tok) (s:Shared) (Q:Value->Shared->Prop) (E:Value->Shared->Prop),C i j->Q (.int (g i j) s.toks) { s with toks:=s.toks+1 }->wpAny (model X.prog X.w) X.A (f (.int i t) (.int j u)) Q E s) :
  OpR X f (rI C fun i j=>.int (g i j)):=by
 intro pins s σ H x y v u Q I rx ry h
 obtain ⟨i,j,rfl,rfl,hc,q⟩:=h
 obtain ⟨t,rfl⟩:=rx
 obtain ⟨t',rfl⟩:=ry
 exact rule i j t t' s _ _ hc ⟨.int (g i j),H,I.tok _,⟨_,rfl⟩,q⟩
theorem opI0 {f:Value->Value->Sem Value} {g:Int->Int->Int}
  (rule:∀ (i j:Int) (t u:Tok) (s:Shared) (Q:Value->Shared->Prop) (E:Value->Shared->Prop),Q (.int (g i j) s.toks) { s with toks:=s.toks+1 }->wpAny (model X.prog X.w) X.A (f (.int i t) (.int j u)) Q E s) :
  OpR X f (rI0 fun i j=>.int (g i j)):=by
 intro pins s σ H x y v u Q I rx ry h
 obtain ⟨i,j,rfl,rfl,q⟩:=h
 obtain ⟨t,rfl⟩:=rx
 obtain ⟨t',rfl⟩:=ry
 exact rule i j t t' s _ _ ⟨.int (g i j),H,I.tok _,⟨_,rfl⟩,q⟩
theorem opB0 {f:Value->Value->Sem Value} {g:Int->Int->Bool}
  (rule:∀ (i j:Int) (t u:Tok) (s:Shared) (Q:Value->Shared->Prop) (E:Value->Shared->Prop),Q (.bool (g i j)) s->wpAny (model X.prog X.w) X.A (f (.int i t) (.int j u)) Q E s) :
  OpR X f (rI0 fun i j=>.bl (g i j)):=by
 intro pins s σ H x y v u Q I rx ry h
 obtain ⟨i,j,rfl,rfl,q⟩:=h
 obtain ⟨t,rfl⟩:=rx
 obtain ⟨t',rfl⟩:=ry
 exact rule i j t t' s _ _ ⟨.bl (g i j),H,I,rfl,q⟩
noncomputable def CDiv (i j:Int):Prop:=0<j/\j<1073741824
noncomputable def CPow (i j:Int):Prop:=0<=j/\j<=1000000/\i.natAbs<2 ^ 64
noncomputable def CMul (i j:Int):Prop:=(-(2 ^ 64)<i/\i<2 ^ 64)∨(-(2 ^ 64)<j/\j<2 ^ 64)
theorem CMul.ok {i j:Int} (h:CMul i j):IntMulOk i j:=by
 rcases h with ⟨h1,h2⟩ | ⟨h1,h2⟩
 ·exact .of_left (intBits_le_64 h1 h2)
 ·exact .of_right (intBits_le_64 h1 h2)
theorem op_add:OpR X (binaryOp .Add) (rI0 fun i j=>.int (i+j)):=opI0 fun _ _ _ _ _ _ _ q=>add_int q
theorem op_sub:OpR X (binaryOp .Sub) (rI0 fun i j=>.int (i-j)):=opI0 fun _ _ _ _ _ _ _ q=>sub_int q
theorem op_mul:OpR X (binaryOp .Mult) (rI CMul fun i j=>.int (i*j)):=opI fun _ _ _ _ _ _ _ hc q=>mul_int q hc.ok
theorem op_fdiv:OpR X (binaryOp .FloorDiv) (rI CDiv fun i j=>.int (i / j)):=opI fun i j _ _ _ _ _ hc q=>by
 have h1:(0:Int)<j:=hc.1
 have h2:j<1073741824:=hc.2
 exact floordiv_int (by omega) (by rw [Int.fdiv_eq_ediv_of_nonneg i (by omega)];exact q) (.inl (PyProof.noPylong_small (by omega)))
theorem op_mod:OpR X (binaryOp .Mod) (rI (fun _ j=>0<j) fun i j=>.int (i % j)):=opI fun i j _ _ _ _ _ hc q=>by
 have h1:(0:Int)<j:=hc
 exact mod_int' (by omega) (by rw [Int.fmod_eq_emod_of_nonneg i (by omega)];exact q)
theorem op_pow:OpR X (binaryOp .Pow) (rI CPow fun i j=>.int (i ^ j.toNat)):=opI fun _ _ _ _ _ _ _ hc q=>pow_int_small hc.1 hc.2.1 hc.2.2 q
theorem op_and:OpR X (binaryOp .BitAnd) (rI0 fun i j=>.int (Builtin.bitAnd i j)):=opI0 fun _ _ _ _ _ _ _ q=>and_int q
theorem op_or:OpR X (binaryOp .BitOr) (rI0 fun i j=>.int (Builtin.bitOr i j)):=opI0 fun _ _ _ _ _ _ _ q=>or_int q
theorem op_xor:OpR X (binaryOp .BitXor) (rI0 fun i j=>.int (Builtin.bitXor i j)):=opI0 fun _ _ _ _ _ _ _ q=>xor_int q
theorem unI {f:Value->Sem Value} {g:Int->Int}
  (rule:∀ (i:Int) (t:Tok) (s:Shared) (Q:Value->Shared->Prop) (E:Value->Shared->Prop),Q (.int (g i) s.toks) { s with toks:=s.toks+1 }->wpAny (model X.prog X.w) X.A (f (.int i t)) Q E s) :
  UnR X f (rU fun i=>.int (g i)):=by
 intro pins s σ H x v Q I rx h
 obtain ⟨i,rfl,q⟩:=h
 obtain ⟨t,rfl⟩:=rx
 exact rule i t s _ _ ⟨.int (g i),H,I.tok _,⟨_,rfl⟩,q⟩
theorem un_neg:UnR X (unaryOp .USub) (rU fun i=>.int (-i)):=unI fun _ _ _ _ _ q=>neg_int q
end
noncomputable def scal:V->V->Bool
 | .non,.non=>true | .non,.int _=>true | .int _,.non=>true | .non,.bl _=>true | .bl _,.non=>true | .non,.str _=>true | .str _,.non=>true
 | .int _,.int _=>true | .bl _,.bl _=>true | .str _,.str _=>true | .byt _,.byt _=>true
 | .int _,.str _=>true | .str _,.int _=>true | .bl _,.str _=>true | .str _,.bl _=>true
 | _,_=>false
noncomputable def rEq:R2:=fun x y H Q=>scal x y=true/\Q (.bl (decide (x=y))) H
noncomputable def rNe:R2:=fun x y H Q=>scal x y=true/\Q (.bl (!decide (x=y))) H
theorem dec_int {i j:Int}:decide (V.int i=V.int j)=(i == j):=by
 rw [Bool.eq_iff_iff]
 simp
theorem dec_bl {i j:Bool}:decide (V.bl i=V.bl j)=(i == j):=by
 rw [Bool.eq_iff_iff]
 simp
theorem dec_str {i j:Str}:decide (V.str i=V.str j)=(i == j):=by
 rw [Bool.eq_iff_iff]
 simp
theorem dec_byt {i j:Array UInt8}:decide (V.byt i=V.byt j)=(i.toList == j.toList):=by
 rw [Bool.eq_iff_iff]
 cases i
 cases j
 simp
section
variable {X:Cx} {a b c:Expr} {ta tb tc:TE} {pos:Pos}
theorem fin_bl {pins:List (Addr × Obj)} {σ:St} {H:Hp} {s:Shared} {Q:VK} {k k':Bool} (I:Inv X pins σ H s) (q:Q (.bl k) H) (e:k=k'):EP X pins σ Q (.bool k') s:=by
 subst e
 exact ⟨.bl k,H,I,rfl,q⟩
theorem op_eq:OpR X (compareOp .Eq) rEq:=by
 intro pins s σ H x y v u Q I rx ry h
 obtain ⟨hs,q⟩:=h
 cases x with
 | non =>
  cases rx
  cases y with
  | non=>cases ry;exact PySem.EqNone.eq_none_none (fin_bl I q (by simp))
  | bl j=>cases ry;exact PySem.EqNone.eq_none_bool (fin_bl I q (by simp))
  | int j=>obtain ⟨t',rfl⟩:=ry;exact PySem.EqNone.eq_none_int (fin_bl I q (by simp))
  | str j=>obtain ⟨t',rfl⟩:=ry;exact PySem.EqNone.eq_none_str (fin_bl I q (by simp))
  | _=>exact absurd (show false=true from hs) Bool.false_ne_true
 | bl i =>
  cases rx
  cases y with
  | non=>cases ry;exact PySem.EqNone.eq_bool_none (fin_bl I q (by simp))
  | bl j=>cases ry;exact eq_bool (fin_bl I q dec_bl)
  | str j=>obtain ⟨t',rfl⟩:=ry;exact PySem.EqMixed.eq_bool_str (fin_bl I q (by simp))
  | _=>exact absurd (show false=true from hs) Bool.false_ne_true
 | int i =>
  obtain ⟨t,rfl⟩:=rx
  cases y with
  | non=>cases ry;exact PySem.EqNone.eq_int_none (fin_bl I q (by simp))
  | int j=>obtain ⟨t',rfl⟩:=ry;exact eq_int (fin_bl I q dec_int)
  | str j=>obtain ⟨t',rfl⟩:=ry;exact PySem.EqMixed.eq_int_str (fin_bl I q (by simp))
  | _=>exact absurd (show false=true from hs) Bool.false_ne_true
 | str i =>
  obtain ⟨t,rfl⟩:=rx
  cases y with
  | non=>cases ry;exact PySem.EqNone.eq_str_none (fin_bl I q (by simp))
  | bl j=>cases ry;exact PySem.EqMixed.eq_str_bool (fin_bl I q (by simp))
  | int j=>obtain ⟨t',rfl⟩:=ry;exact PySem.EqMixed.eq_str_int (fin_bl I q (by simp))
  | str j=>obtain ⟨t',rfl⟩:=ry;exact eq_str (fin_bl I q dec_str)
  | _=>exact absurd (show false=true from hs) Bool.false_ne_true
 | byt i =>
  obtain ⟨t,rfl⟩:=rx
  cases y with
  | byt j=>obtain ⟨t',rfl⟩:=ry;exact PySem.W.eq_bytes (fin_bl I q dec_byt)
  | _=>exact absurd (show false=true from hs) Bool.false_ne_true
 | _=>cases y<;>exact absurd (show false=true from hs) Bool.false_ne_true
theorem op_ne:OpR X (compareOp .NotEq) rNe:=by
 intro pins s σ H x y v u Q I rx ry h
 obtain ⟨hs,q⟩:=h
 cases x with
 | non =>
  cases rx
  cases y with
  | non=>cases ry;exact PySem.EqNone.ne_none_none (fin_bl I q (by simp))
  | bl j=>cases ry;exact PySem.EqNone.ne_none_bool (fin_bl I q (by simp))
  | int j=>obtain ⟨t',rfl⟩:=ry;exact PySem.EqNone.ne_none_int (fin_bl I q (by simp))
  | str j=>obtain ⟨t',rfl⟩:=ry;exact PySem.EqNone.ne_none_str (fin_bl I q (by simp))
  | _=>exact absurd (show false=true from hs) Bool.false_ne_true
 | bl i =>
  cases rx
  cases y with
  | non=>cases ry;exact PySem.EqNone.ne_bool_none (fin_bl I q (by simp))
  | bl j=>cases ry;exact ne_bool (fin_bl I q (congrArg not dec_bl))
  | str j=>obtain ⟨t',rfl⟩:=ry;exact PySem.EqMixed.ne_bool_str (fin_bl I q (by simp))
  | _=>exact absurd (show false=true from hs) Bool.false_ne_true
 | int i =>
  obtain ⟨t,rfl⟩:=rx
  cases y with
  | non=>cases ry;exact PySem.EqNone.ne_int_none (fin_bl I q (by simp))
  | int j=>obtain ⟨t',rfl⟩:=ry;exact ne_int (fin_bl I q (congrArg not dec_int))
  | str j=>obtain ⟨t',rfl⟩:=ry;exact PySem.EqMixed.ne_int_str (fin_bl I q (by simp))
  | _=>exact absurd (show false=true from hs) Bool.false_ne_true
 | str i =>
  obtain ⟨t,rfl⟩:=rx
  cases y with
  | non=>cases ry;exact PySem.EqNone.ne_str_none (fin_bl I q (by simp))
  | bl j=>cases ry;exact PySem.EqMixed.ne_str_bool (fin_bl I q (by simp))
  | int j=>obtain ⟨t',rfl⟩:=ry;exact PySem.EqMixed.ne_str_int (fin_bl I q (by simp))
  | str j=>obtain ⟨t',rfl⟩:=ry;exact ne_str (fin_bl I q (congrArg not dec_str))
  | _=>exact absurd (show false=true from hs) Bool.false_ne_true
 | byt i =>
  obtain ⟨t,rfl⟩:=rx
  cases y with
  | byt j=>obtain ⟨t',rfl⟩:=ry;exact PySem.W.ne_bytes (fin_bl I q (congrArg not dec_byt))
  | _=>exact absurd (show false=true from hs) Bool.false_ne_true
 | _=>cases y<;>exact absurd (show false=true from hs) Bool.false_ne_true
theorem op_lt:OpR X (compareOp .Lt) (rI0 fun i j=>.bl (decide (i<j))):=opB0 fun _ _ _ _ _ _ _ q=>lt_int q
theorem nomark (b:Expr) {op:CmpOp} (h:op≠.In:=by decide) (h2:op≠.NotIn:=by decide):behindInMarks op b=false:=by
 have e1:(op == CmpOp.In)=false:=by cases op<;>first | rfl | exact absurd rfl h
 have e2:(op == CmpOp.NotIn)=false:=by cases op<;>first | rfl | exact absurd rfl h2
 cases b<;>simp [behindInMarks,e1,e2]
theorem pe_cmpR {op:CmpOp} {r:R2} (ho:OpR X (compareOp op) r) (ha:PE X a ta) (hb:PE X b tb) (hm:behindInMarks op b=false):PE X (.Compare a [op] [b] pos) (tOp r ta tb):=by
 intro pins s σ H Q I h
 exact wpAny_Compare1 (binT ha hb I h fun v u s2 x y H2 I2 rx ry q=>ho pins s2 σ H2 x y v u Q I2 rx ry q) hm
noncomputable def tTest (t:TE):TT:=fun σ H Q=>t σ H fun x H'=>∃ k,x=.bl k/\Q k H'
theorem pt_cmpR {op:CmpOp} {r:R2} (ho:OpR X (compareOp op) r) (ha:PE X a ta) (hb:PE X b tb) (hm:behindInMarks op b=false):PT X (.Compare a [op] [b] pos) (tTest (tOp r ta tb)):=by
 intro pins s σ H Q I h
 refine wpAny_isTrue_Compare1 (thn (ha pins s σ H _ I h) fun v s1 ⟨x,H1,I1,r1,q1⟩=>thn (hb pins s1 σ H1 _ I1 q1) fun u s2 ⟨y,H2,I2,r2,q2⟩ =>
  thn (ho pins s2 σ H2 x y v u _ I2 r1 r2 q2) fun c s3 ⟨z,H3,I3,r3,k,e,q3⟩=>?_) hm
 subst e
 cases r3
 exact wpAny_truthy_bool ⟨H3,I3,q3⟩
theorem line63:(sizeLine:Nat)<2 ^ 63:=by rw [sizeLine_eq];decide
theorem op_add_str:OpR X (binaryOp .Add) (fun x y H Q=>∃ i j,x=.str i/\y=.str j/\i.length+j.length<=sizeLine/\Q (.str (i++j)) H):=by
 intro pins s σ H x y v u Q I rx ry h
 obtain ⟨i,j,rfl,rfl,hz,q⟩:=h
 obtain ⟨t,rfl⟩:=rx
 obtain ⟨t',rfl⟩:=ry
 exact add_str (fun t' tk=>⟨.str (i++j),H,I.tok _,⟨_,rfl⟩,q⟩) hz
theorem vals1 {x:V} {us:List Value} (r:Vals [x] us):∃ u,us=[u]/\RelV x u:=by
 cases r with
 | cons r1 r2=>cases r2;exact ⟨_,rfl,r1⟩
theorem vals2 {x y:V} {us:List Value} (r:Vals [x,y] us):∃ u w',us=[u,w']/\RelV x u/\RelV y w':=by
 cases r with
 | cons r1 r2 =>
  cases r2 with
  | cons r3 r4=>cases r4;exact ⟨_,_,rfl,r1,r3⟩
end
end L2
namespace L2
open PySem PySem.Spec PyProof.Rows
structure ObjM (h:Heap) (x dx C:Addr) (mA:Str->Option Value):Prop where
 obj:h.get? x=some (PySem.W.instObj C dx)
 ns:h.Ns1 dx mA
 ne:dx≠x
theorem lookIn_ns {h:Heap} {dx:Addr} {mA:Str->Option Value} (n:h.Ns1 dx mA):∃ od,h.get? dx=some od/\∀ name,PySem.W.lookIn name od=some (mA name):=by
 obtain ⟨o,es,ep,ho,hd,hk,_,hm⟩:=n
 refine ⟨o,ho,fun name=>?_⟩
 have e:=hm name
 unfold nsFind findBy at e
 rw [<- Array.find?_toList] at e
 unfold PySem.W.lookIn
 rw [hd]
 dsimp only
 split
 ·rename_i y q
  rw [q] at e
  exact congrArg some e
 ·rename_i q
  rw [q] at e
  have a:es.toList.any (·.refKey)=false:=by
   rw [List.any_eq_false]
   intro y hy
   obtain ⟨z,t,hkey⟩:=hk y (Array.mem_toList_iff.mp hy)
   simp [DictEntry.refKey,hkey]
  have a':¬ es.toList.any (·.refKey)=true:=by rw [a];exact Bool.false_ne_true
  rw [if_neg a']
  exact congrArg some e
theorem ObjM.look {h:Heap} {x dx C:Addr} {mA:Str->Option Value} (I:ObjM h x dx C mA):∃ od,PySem.W.InstAt h x (PySem.W.instObj C dx) C (some od)/\∀ name,PySem.W.lookIn name od=some (mA name) :=
 let ⟨od,ho,hl⟩:=lookIn_ns I.ns
 ⟨od,⟨I.obj,rfl,rfl,ho⟩,hl⟩
section
variable {prog:Program} {w:World} {A:Around} {E:Value->Shared->Prop} {s:Shared} {K:PySem.W.Frag} {x dx C f:Addr} {mA:Str->Option Value} {name:Str} {v:Value}
theorem get_map {expr:Bool} {Q:Value->Shared->Prop} (X:K.In s.heap) (I:ObjM s.heap x dx C mA) (hg:PySem.W.plainGet K C name=true) (hh:PySem.W.hasDictIn K C=true)
  (ha:PySem.W.findIn K (.ref C) name=some none) (hv:mA name=some v) (hv':PySem.W.handedIn v=true) (h:Q v { s with toks:=s.toks+1 }) :
  wpAny (model prog w) A (getAttr (.ref x) name expr) Q E s:=by
 obtain ⟨od,J,hl⟩:=I.look
 exact PySem.W.get_value X J (PySem.W.plainGet_of hg).1 (PySem.W.findObj_own hh ha rfl (by rw [hl,hv])) hv' h
theorem get_meth {pl:Sem Bool} {Q:Value × List Value->Shared->Prop} (X:K.In s.heap) (I:ObjM s.heap x dx C mA) (hg:PySem.W.plainGet K C name=true)
  (hf:PySem.W.findIn K (.ref C) name=some (some (.ref f))) (ht:PySem.W.isFn K (.ref f)=true) (hv:mA name=none) (h:Q (.ref f,[.ref x]) s) :
  wpAny (model prog w) A (getMethod (.ref x) name pl) Q E s:=by
 obtain ⟨od,J,hl⟩:=I.look
 exact PySem.W.method_fn X J (PySem.W.plainGet_of hg).1 (PySem.W.plainGet_of hg).2 hf (beq_iff_eq.mp ht) (by show (PySem.W.lookIn name od).map (·.isSome)=some false;rw [hl,hv];rfl) h
theorem set_map {ns:List Str} {Q:Unit->Shared->Prop} (X:K.In s.heap) (I:ObjM s.heap x dx C mA)
  (hs:PySem.W.findIn K (.ref C) "__setattr__"=some (some (.builtin "object.__setattr__"))) (hp:PySem.W.plainOver K C=true) (ht:PySem.W.takerIn K C name=some none) (hh:PySem.W.hasDictIn K C=true)
  (hw:PySem.Within mA ns) (hsz:ns.length<=sizeLine)
  (h:∀ h',ObjM h' x dx C (fun y=>if y=name then some v else mA y)->Heap.SameBut dx s.heap h'->Q () { s with heap:=h',toks:=s.toks+2 }) :
  wpAny (model prog w) A (setAttr (.ref x) name v) Q E s:=by
 obtain ⟨od,J,hl⟩:=I.look
 refine PySem.W.set_plain X J hs (PySem.W.osa_open (s:={ s with toks:=s.toks+1 }) (r:=none) X J hp ht fun b=>?_)
 obtain ⟨cd,hc,hd'⟩:=PySem.W.any_some hh
 have hx:s.heap.get? x=some ⟨.ref C,some dx,.plain,#[]⟩:=I.obj
 refine wpAny_bind (wpAny_pure (wpAny_bind (wpAny_bind (wpAny_loadPart hx (wpAny_bind (PySem.W.Looks.here (s:={ s with toks:=s.toks+1 }) (PySem.W.looks_clsIn X hc) ?_))))))
 rw [hd']
 refine wpAny_pure (a:=some dx) (wpAny_bind (wpAny_pure (wpAny_bind ?_)))
 refine wpAny_nsSet1 (s:={ s with toks:=s.toks+1 }) I.ns fun h' hn2 hs2=>?_
 obtain ⟨oD,esD,epD,hoD,hdD,hcD⟩:=hn2.count (PySem.Within.cons name v hw)
 refine wpAny_bind (wpAny_lookBehind hoD (by rw [hdD];exact pastItsLine_dict (Nat.le_trans hcD (by rw [List.length_cons];omega))) ?_)
 exact wpAny_pure (h _ ⟨(hs2.2 _ (Ne.symm I.ne)).trans I.obj,hn2,I.ne⟩ hs2)
theorem make_map {R:Result->Shared->Prop} {vs:List Value} {kw:List (Str × Value)} (X:K.In s.heap) (hm:PySem.W.makesIn K C=true)
  (hi:PySem.W.findIn K (.ref C) "__init__"=some (some (.ref f))) (hf:PySem.W.typeIn K (.ref f)=some (.type "function"))
  (h:codeAny (model prog w) (A.under (.builtin "type.__call__" ⟨.ref C::vs,kw⟩)) (.call (.ref f) ⟨.ref (s.heap.objs.size+1)::vs,kw⟩) (PySem.W.InitBack (s.heap.objs.size+1) R)
   { s with heap:=(s.heap.push PySem.W.emptyDict).push (PySem.W.instObj C s.heap.objs.size) }) :
  codeAny (model prog w) A (.call (.ref C) ⟨vs,kw⟩) R s:=by
 obtain ⟨hh,g,d,t,os⟩:=s
 exact PySem.W.make_core (PySem.W.makes_of X hm) (PySem.W.looks_findIn X hi) (fun self=>PySem.W.bind_fn X self hf) (.inl rfl) h
end
noncomputable def putF (f:Str) (v:V):List (Str × V)->List (Str × V)
 | []=>[(f,v)]
 | (g,x)::r=>if g=f then (g,v)::r else (g,x)::putF f v r
theorem lookup_putF (f g:Str) (v:V):∀ fs:List (Str × V),(putF f v fs).lookup g=if g=f then some v else fs.lookup g
 | []=>by
  show List.lookup g [(f,v)]=_
  by_cases h:g=f
  ·have hb:(g == f)=true:=beq_iff_eq.mpr h
   simp only [List.lookup,hb,if_pos h]
  ·have hb:(g == f)=false:=beq_eq_false_iff_ne.mpr h
   simp only [List.lookup,hb,if_neg h]
 | (k,x)::r=>by
  have ih:=lookup_putF f g v r
  rw [show putF f v ((k,x)::r)=(if k=f then (k,v)::r else (k,x)::putF f v r) from rfl]
  by_cases hk:k=f
  ·rw [if_pos hk]
   by_cases h:g=k
   ·have hb:(g == k)=true:=beq_iff_eq.mpr h
    simp only [List.lookup,hb,if_pos (h.trans hk)]
   ·have hb:(g == k)=false:=beq_eq_false_iff_ne.mpr h
    simp only [List.lookup,hb,if_neg (fun e:g=f=>h (e.trans hk.symm))]
  ·rw [if_neg hk]
   by_cases h:g=k
   ·have hb:(g == k)=true:=beq_iff_eq.mpr h
    simp only [List.lookup,hb,if_neg (fun e:g=f=>hk (h.symm.trans e))]
   ·have hb:(g == k)=false:=beq_eq_false_iff_ne.mpr h
    simp only [List.lookup,hb]
    exact ih
theorem keys_putF (f:Str) (v:V):∀ fs:List (Str × V),f∈(putF f v fs).map (·.1)/\∀ g,g∈fs.map (·.1)->g∈(putF f v fs).map (·.1)
 | []=>⟨by simp [putF],fun g h=>by simp at h⟩
 | (k,x)::r=>by
  obtain ⟨i1,i2⟩:=keys_putF f v r
  rw [show putF f v ((k,x)::r)=(if k=f then (k,v)::r else (k,x)::putF f v r) from rfl]
  by_cases hk:k=f
  ·rw [if_pos hk]
   subst hk
   exact ⟨by simp,fun g h=>by simpa using h⟩
  ·rw [if_neg hk]
   refine ⟨?_,fun g h=>?_⟩
   ·rw [List.map_cons]
    exact List.mem_cons_of_mem _ i1
   ·rw [List.map_cons] at h ⊢
    rcases List.mem_cons.mp h with e | e
    ·exact List.mem_cons.mpr (.inl e)
    ·exact List.mem_cons_of_mem _ (i2 g e)
theorem length_putF (f:Str) (v:V):∀ fs:List (Str × V),(putF f v fs).length<=fs.length+1
 | []=>by simp [putF]
 | (k,x)::r=>by
  have ih:=length_putF f v r
  rw [show putF f v ((k,x)::r)=(if k=f then (k,v)::r else (k,x)::putF f v r) from rfl]
  by_cases hk:k=f
  ·rw [if_pos hk,List.length_cons,List.length_cons];omega
  ·rw [if_neg hk,List.length_cons,List.length_cons];omega
theorem RelO.some_of {v:V} {o:Option Value} (r:RelO (some v) o):∃ u,o=some u/\RelV v u:=by
 cases o with
 | none=>exact (show False from r).elim
 | some u=>exact ⟨u,rfl,r⟩
theorem RelO.none_of {o:Option Value} (r:RelO none o):o=none:=by
 cases o with
 | none=>rfl
 | some u=>exact (show False from r).elim
theorem handed_of {v:V} {u:Value} (r:RelV v u):PySem.W.handedIn u=true:=by
 cases v with
 | non=>cases (show u=Value.none from r);rfl
 | bl b=>cases (show u=Value.bool b from r);rfl
 | int i=>obtain ⟨t,e⟩:=(show ∃ t,u=Value.int i t from r);cases e;rfl
 | str x=>obtain ⟨t,e⟩:=(show ∃ t,u=Value.str x t from r);cases e;rfl
 | byt b=>obtain ⟨t,e⟩:=(show ∃ t,u=Value.bytes b t from r);cases e;rfl
 | flt b=>obtain ⟨t,e⟩:=(show ∃ t,u=Value.float b t from r);cases e;rfl
 | ref a=>cases (show u=Value.ref a from r);rfl
 | ty n=>cases (show u=Value.type n from r);rfl
section
variable {P:Program} {w:World} {H H':Hp} {h h':Heap} {a C dx:Addr} {fs fs':List (Str × V)}
theorem ins_get (hok:HOk P w H h) (e:H a=some (.ins C dx fs)):∃ mA,ObjM h a dx C mA/\(∀ f,RelO (fs.lookup f) (mA f))/\PySem.Within mA (fs.map (·.1))/\fs.length<=1000/\H dx=some (.own a):=by
 obtain ⟨d,z,ne,ob,mA,n,r,q⟩:=(show ObjOk P w H h a (.ins C dx fs) from hok a _ e)
 exact ⟨mA,⟨ob,n,ne⟩,r,q,z,d⟩
end
structure Cls (K:PySem.W.Frag) (C:Addr):Prop where
 pg:PySem.W.plainGet K C Str.empty=true
 hd:PySem.W.hasDictIn K C=true
 po:PySem.W.plainOver K C=true
 sa:PySem.W.findIn K (.ref C) "__setattr__"=some (some (.builtin "object.__setattr__"))
theorem Cls.get {K:PySem.W.Frag} {C:Addr} (c:Cls K C) (f:Str):PySem.W.plainGet K C f=true:=c.pg
noncomputable def NoAttr (K:PySem.W.Frag) (C:Addr) (f:Str):Prop:=PySem.W.findIn K (.ref C) f=some none
theorem NoAttr.taker {K:PySem.W.Frag} {C:Addr} {f:Str} (n:NoAttr K C f):PySem.W.takerIn K C f=some none:=by
 unfold PySem.W.takerIn
 rw [show PySem.W.findIn K (.ref C) f=some none from n]
 rfl
structure Meth (K:PySem.W.Frag) (C:Addr) (m:Str) (f:Addr):Prop where
 at_:PySem.W.findIn K (.ref C) m=some (some (.ref f))
 fn:PySem.W.isFn K (.ref f)=true
 kp:PySem.W.keepIn K (.ref f)=true
section
variable {X:Cx} {pins:List (Addr × Obj)} {σ:St} {H:Hp} {s:Shared} {a C dx:Addr} {fs:List (Str × V)} {f:Str} {v:V} {A:Around} {E:Value->Shared->Prop}
theorem getattr_ok {b:Bool} {Q:Value->Shared->Prop} (I:Inv X pins σ H s) (e:H a=some (.ins C dx fs)) (c:Cls X.K C) (n:NoAttr X.K C f) (l:fs.lookup f=some v)
  (h:∀ u s',Inv X pins σ H s'->RelV v u->Q u s'):wpAny (model X.prog X.w) A (getAttr (.ref a) f b) Q E s:=by
 obtain ⟨mA,O,r,_,_,_⟩:=ins_get I.hok e
 obtain ⟨u,hu,ru⟩:=RelO.some_of (v:=v) (o:=mA f) (by rw [<- l];exact r f)
 exact get_map I.kIn O (c.get f) c.hd n hu (handed_of ru) (h u _ (I.tok _) ru)
theorem getmeth_ok {m:Str} {g:Addr} {pl:Sem Bool} {Q:Value × List Value->Shared->Prop} (I:Inv X pins σ H s) (e:H a=some (.ins C dx fs)) (c:Cls X.K C) (k:Meth X.K C m g) (l:fs.lookup m=none)
  (h:Q (.ref g,[.ref a]) s):wpAny (model X.prog X.w) A (getMethod (.ref a) m pl) Q E s:=by
 obtain ⟨mA,O,r,_,_,_⟩:=ins_get I.hok e
 have hn:mA m=none:=RelO.none_of (by rw [<- l];exact r m)
 exact get_meth I.kIn O (c.get m) k.at_ k.fn hn h
theorem setattr_ok {y:V} {u:Value} {Q:Unit->Shared->Prop} (I:Inv X pins σ H s) (e:H a=some (.ins C dx fs)) (c:Cls X.K C) (n:NoAttr X.K C f) (hl:fs.length<1000) (ry:RelV y u)
  (h:∀ s',Inv X pins σ (upd H a (.ins C dx (putF f y fs))) s'->Q () s'):wpAny (model X.prog X.w) A (setAttr (.ref a) f u) Q E s:=by
 obtain ⟨mA,O,r,wi,_,ho⟩:=ins_get I.hok e
 have hz:(fs.map (·.1)).length<=sizeLine:=by rw [List.length_map,sizeLine_eq];omega
 refine set_map I.kIn O c.sa c.po n.taker c.hd wi hz fun h' O' sb=>h _ ?_
 have hd:∃ o,h'.get? dx=some o:=by obtain ⟨o,_,_,e',_⟩:=O'.ns;exact ⟨o,e'⟩
 refine I.write (x:=a) (e:=dx) (by rw [e];exact True.intro) (.inr ho) (fun b q hb z=>(sb.2 b hb).trans z) hd ?_
 refine ⟨by rw [upd_ne O.ne];exact ho,?_,O.ne,O'.obj,_,O'.ns,fun g=>?_,fun g hg=>?_⟩
 ·have:=length_putF f y fs;omega
 ·show RelO ((putF f y fs).lookup g) (if g=f then some u else mA g)
  rw [lookup_putF]
  by_cases q:g=f
  ·rw [if_pos q,if_pos q];exact ry
  ·rw [if_neg q,if_neg q];exact r g
 ·by_cases q:g=f
  ·rw [q];exact (keys_putF f y fs).1
  ·refine (keys_putF f y fs).2 g (wi g fun z=>hg ?_)
   show (if g=f then some u else mA g)=none
   rw [if_neg q];exact z
theorem Inv.made (I:Inv X pins σ H s):Inv X pins σ (upd (upd H s.heap.objs.size (.own (s.heap.objs.size+1))) (s.heap.objs.size+1) (.ins C s.heap.objs.size []))
  { s with heap:=(s.heap.push PySem.W.emptyDict).push (PySem.W.instObj C s.heap.objs.size) }:=by
 have e1:(s.heap.push PySem.W.emptyDict).get? s.heap.objs.size=some PySem.W.emptyDict:=Heap.get?_push_size s.heap rfl
 have e2:((s.heap.push PySem.W.emptyDict).push (PySem.W.instObj C s.heap.objs.size)).get? (s.heap.objs.size+1)=some (PySem.W.instObj C s.heap.objs.size):=by
  have:=Heap.get?_push_size (s.heap.push PySem.W.emptyDict) (o:=PySem.W.instObj C s.heap.objs.size) rfl
  rwa [Heap.size_push] at this
 have e3:(s.heap.push PySem.W.emptyDict).Ns s.heap.objs.size (fun _=>none):=⟨PySem.W.emptyDict,#[],_,e1,rfl,(fun e he=>absurd he (by simp)),fun _=>rfl⟩
 have I1:=I.laid (a:=s.heap.objs.size) (o:=.own (s.heap.objs.size+1)) (h':=s.heap.push PySem.W.emptyDict) (t':=s.toks) (fun b u q=>Heap.get?_push_of_some _ q) (Nat.le_refl _) ⟨_,e1⟩
 refine I1.laid (a:=s.heap.objs.size+1) (o:=.ins C s.heap.objs.size []) (t':=s.toks) (fun b u q=>Heap.get?_push_of_some _ q) (Nat.le_of_eq (Heap.size_push _ _)) ?_
 have ne:s.heap.objs.size≠s.heap.objs.size+1:=Nat.ne_of_lt (Nat.lt_succ_self _)
 refine ⟨by rw [upd_ne ne,upd_same],Nat.zero_le _,ne,e2,fun _=>none,(Heap.Ns1.of_empty e3).at fun o q=>Heap.get?_push_of_some _ q,fun _=>True.intro,fun y hy=>absurd rfl hy⟩
theorem attr_of {prog:Program} {w:World} {env:Env} {e:Expr} {f:Str} {pos:Pos} {s:Shared} {Q:Value->Shared->Prop} (hb:attributeBase e f env (eval e env)=eval e env)
  (h:wpAny (model prog w) A (eval e env) (fun o s₁=>wpAny (model prog w) A (getAttr o f true) Q E s₁) E s):wpAny (model prog w) A (eval (.Attribute e f pos) env) Q E s :=
 Attribute_any_ h (by rw [arm_eval_Attribute,hb])
end
noncomputable def tFld (K:PySem.W.Frag) (ta:TE) (f:Str):TE:=fun σ H Q=>ta σ H fun x H1=>∃ a C dx fs v,x=.ref a/\H1 a=some (.ins C dx fs)/\Cls K C/\NoAttr K C f/\fs.lookup f=some v/\Q v H1
noncomputable def sFld (K:PySem.W.Frag) (ta tv:TE) (f:Str):TS:=fun D σ H=>tv σ H fun y H1=>ta σ H1 fun x H2=>∃ a C dx fs,x=.ref a/\H2 a=some (.ins C dx fs)/\Cls K C/\NoAttr K C f/\fs.length<1000 /\
 D.nx σ (upd H2 a (.ins C dx (putF f y fs)))
section
variable {X:Cx} {o e value:Expr} {f:Str} {pos pos' tpos:Pos} {ta tv:TE}
theorem pe_fld (he:PE X e ta) (hb:attributeBase e f X.env (eval e X.env)=eval e X.env):PE X (.Attribute e f pos) (tFld X.K ta f):=by
 intro pins s σ H Q I h
 refine attr_of hb (thn (he pins s σ H _ I h) fun u s1 hsl27=>?_)
 obtain ⟨x,H1,I1,rx,a,C,dx,fs,v,ex,ea,c,n,l,q⟩:=hsl27
 subst ex
 obtain rfl:u=Value.ref a:=rx
 exact getattr_ok I1 ea c n l fun u' s2 I2 ru=>⟨v,H1,I2,ru,q⟩
theorem ps_fld (ha:PE X o ta) (hv:PE X value tv) (hs:swapsWith value (some (.Attribute o f pos')) pos.line X.env=pure false):PS X (.Assign [.Attribute o f pos'] value pos) (sFld X.K ta tv f):=by
 intro pins s σ H D I h
 refine plainObj_wpAny_Assign_Attribute (thn (hv pins s σ H _ I h) fun u s1 ⟨y,H1,I1,ry,q⟩=>thn (ha pins s1 σ H1 _ I1 q) fun ov s2 hsl28=>?_) hs
 obtain ⟨x,H2,I2,rx,a,C,dx,fs,ex,ea,c,n,l,q2⟩:=hsl28
 subst ex
 obtain rfl:ov=Value.ref a:=rx
 exact setattr_ok I2 ea c n l ry fun s3 I3=>⟨σ,_,I3,q2⟩
end
section
variable {X:Cx} {pins:List (Addr × Obj)} {σ:St} {H:Hp} {s:Shared} {A:Around} {E:Value->Shared->Prop} {Q:Value->Shared->Prop} {c:Value} {b:Bool}
inductive TyOf (K:PySem.W.Frag) (H:Hp):V->Value->Prop where
 | non:TyOf K H .non (.type "NoneType")
 | bl (x:Bool):TyOf K H (.bl x) (.type "bool")
 | int (i:Int):TyOf K H (.int i) (.type "int")
 | str (x:Str):TyOf K H (.str x) (.type "str")
 | flt (x:UInt64):TyOf K H (.flt x) (.type "float")
 | lst {a:Addr} {xs:List V} (e:H a=some (.lst xs)):TyOf K H (.ref a) (.type "list")
 | frz {a:Addr} {o:Obj} {xs:List V} (e:H a=some (.frz o (.lst xs))):TyOf K H (.ref a) (.type "list")
 | tup {a:Addr} {xs:List V} (e:H a=some (.tup xs)):TyOf K H (.ref a) (.type "tuple")
 | dK {a:Addr} {kvs:List (Key × V)} (e:H a=some (.dK kvs)):TyOf K H (.ref a) (.type "dict")
 | dT {a:Addr} {kvs:List (List Key × V)} (e:H a=some (.dT kvs)):TyOf K H (.ref a) (.type "dict")
 | ins {a C dx:Addr} {fs:List (Str × V)} (e:H a=some (.ins C dx fs)) (cl:Cls K C) (ha:PySem.W.findIn K (.ref C) "__class__"=some (some (.builtin "object.__class__")))
   (hn:PySem.W.specialIn K (.builtin "object.__class__") "__get__"=some (some (.builtin "getset_descriptor.__get__"))) (htk:PySem.W.takesIn K (.builtin "object.__class__")=some true)
   (hm:PySem.W.mroIn K C (.type "object")=some true):TyOf K H (.ref a) (.ref C)
theorem isinst_ok {x:V} {u t:Value} (I:Inv X pins σ H s) (rx:RelV x u) (ty:TyOf X.K H x t) (e:PySem.W.kitOne X.K t c=some b) (h:∀ tk,Q (.bool b) { s with toks:=tk }) :
  wpAny (model X.prog X.w) A (call (.builtin "isinstance") [u,c]) Q E s:=by
 cases ty with
 | non=>cases (show u=Value.none from rx);exact PySem.W.kia_one PySem.W.kitx_none I.kIn True.intro e (fun z=>nomatch z) h
 | bl y=>cases (show u=Value.bool y from rx);exact PySem.W.kia_one PySem.W.kitx_bool I.kIn True.intro e (fun z=>nomatch z) h
 | int i=>obtain ⟨t,q⟩:=(show ∃ t,u=Value.int i t from rx);cases q;exact PySem.W.kia_one PySem.W.kitx_int I.kIn True.intro e (fun z=>nomatch z) h
 | str y=>obtain ⟨t,q⟩:=(show ∃ t,u=Value.str y t from rx);cases q;exact PySem.W.kia_one PySem.W.kitx_str I.kIn True.intro e (fun z=>nomatch z) h
 | flt y=>obtain ⟨t,q⟩:=(show ∃ t,u=Value.float y t from rx);cases q;exact PySem.W.kia_one PySem.W.kitx_float I.kIn True.intro e (fun z=>nomatch z) h
 | @lst a xs ea =>
  cases (show u=Value.ref a from rx)
  obtain ⟨_,_,n,_,h1⟩:=(show ObjOk X.prog X.w H s.heap a (.lst xs) from I.hok a _ ea)
  exact PySem.W.kia_one PySem.W.kitx_list I.kIn ⟨_,h1,rfl⟩ e (fun z=>nomatch z) h
 | @frz a ob xs ea =>
  cases (show u=Value.ref a from rx)
  obtain ⟨_,_,_,n,_,h1⟩:=(show ObjOk X.prog X.w H s.heap a (.frz ob (.lst xs)) from I.hok a _ ea)
  exact PySem.W.kia_one PySem.W.kitx_list I.kIn ⟨_,h1,rfl⟩ e (fun z=>nomatch z) h
 | @tup a xs ea =>
  cases (show u=Value.ref a from rx)
  obtain ⟨_,_,_,p⟩:=(show ObjOk X.prog X.w H s.heap a (.tup xs) from I.hok a _ ea)
  obtain ⟨o,h1,h2,_⟩:=p
  exact PySem.W.kia_one PySem.W.kitx_tuple I.kIn ⟨o,h1,h2⟩ e (fun z=>nomatch z) h
 | @dK a kvs ea =>
  cases (show u=Value.ref a from rx)
  obtain ⟨_,_,vs,_,p⟩:=(show ObjOk X.prog X.w H s.heap a (.dK kvs) from I.hok a _ ea)
  obtain ⟨o,es,ep,h1,h2,_⟩:=p
  exact PySem.W.kia_one PySem.W.kitx_dict I.kIn ⟨o,h1,h2.1⟩ e (fun z=>nomatch z) h
 | @dT a kvs ea =>
  cases (show u=Value.ref a from rx)
  obtain ⟨_,_,xs,_,o,es,ep,h1,h2,_⟩:=(show ObjOk X.prog X.w H s.heap a (.dT kvs) from I.hok a _ ea)
  exact PySem.W.kia_one PySem.W.kitx_dict I.kIn ⟨o,h1,h2.1⟩ e (fun z=>nomatch z) h
 | @ins a C dx fs ea cl ha hn htk hm =>
  cases (show u=Value.ref a from rx)
  obtain ⟨mA,O,_⟩:=ins_get I.hok ea
  obtain ⟨od,J,_⟩:=O.look
  exact PySem.W.kia_one (PySem.W.kitx_own (cl.get _) cl.hd ha hn htk hm) I.kIn J e (fun z=>nomatch z) h
end
end L2
namespace L2
open PySem PySem.Spec PyProof.Rows
structure Room (k:Nat) (A:Around):Prop where
 hd:A.handled=none
 dp:A.depth+3*k+5<recursionLimit
 un:A.units+16*k+200<cLine
theorem Room.mono {j k:Nat} {A:Around} (r:Room k A) (h:j<=k):Room j A:=⟨r.hd,by have:=r.dp;omega,by have:=r.un;omega⟩
theorem Room.deeper {k:Nat} {A:Around} (r:Room (k+1) A) (env:Env):Room k (A.deeper env) :=
 ⟨r.hd,by have:=r.dp;show A.depth+1+3*k+5<_;omega,by have:=r.un;show A.units+3+16*k+200<_;omega⟩
theorem Room.in1 {k:Nat} {A:Around} (r:Room (k+1) A):Room k A.in1 :=
 ⟨r.hd,by have:=r.dp;show A.depth+3*k+5<_;omega,by have:=r.un;show A.units+1+16*k+200<_;omega⟩
theorem make_depth {A:Around} {C:Addr} {us:List Value} {kw:List (Str × Value)}:(A.under (.builtin "type.__call__" ⟨.ref C::us,kw⟩)).depth=A.depth+1:=by
 first | rfl | simp [Around.under,Code.weight,Code.isCreation,Code.isGuard,Code.isCaller,Code.frames,Code.isFrame,guardIds]
theorem make_units {A:Around} {C:Addr} {us:List Value} {kw:List (Str × Value)}:(A.under (.builtin "type.__call__" ⟨.ref C::us,kw⟩)).units=A.units+1:=by
 first | rfl | simp [Around.under,Code.cUnits,Code.frames,Code.isFrame]
theorem Room.make {k:Nat} {A:Around} (r:Room (k+1) A) (C:Addr) (us:List Value) (kw:List (Str × Value)):Room k (A.under (.builtin "type.__call__" ⟨.ref C::us,kw⟩)) :=
 ⟨r.hd,by have:=r.dp;rw [make_depth];omega,by have:=r.un;rw [make_units];omega⟩
theorem Room.depth {k:Nat} {A:Around} (r:Room k A):A.depth<recursionLimit:=by have:=r.dp;omega
theorem Room.units {k:Nat} {A:Around} (r:Room k A):A.units+64<cLine:=by have:=r.un;omega
noncomputable def tNil:TA:=fun _ H Q=>Q [] H
noncomputable def tCons (ta:TE) (tr:TA):TA:=fun σ H Q=>ta σ H fun x H1=>tr σ H1 fun xs H2=>Q (x::xs) H2
section
variable {X:Cx} {e:Expr} {es:List Expr} {te:TE} {t:TA} {pos:Pos}
theorem pa_nil:PA X [] tNil:=fun _ _ _ _ H Q I h=>Calls.spliced_nil ⟨[],H,I,.nil,h⟩
theorem pa_cons (ha:PE X e te) (hr:PA X es t) (hs:starEach (e::es) X.env=(false,eval e X.env)::starEach es X.env:=by rfl):PA X (e::es) (tCons te t):=by
 intro pos pins s σ H Q I h
 rw [hs]
 show wpAny _ _ (spliced ((false,eval e X.env)::backTo pos (starEach es X.env))) _ _ s
 refine Calls.spliced_cons (thn (ha pins s σ H _ I h) fun u s1 hsl30=>?_)
 obtain ⟨x,H1,I1,r1,q1⟩:=hsl30
 exact thn (hr pos pins s1 σ H1 _ I1 q1) fun us s2 hsl31=>by obtain ⟨xs,H2,I2,r2,q2⟩:=hsl31;exact ⟨x::xs,H2,I2,.cons r1 r2,q2⟩
noncomputable def tTup (t:TA):TE:=fun σ H Q=>t σ H fun xs H1=>xs.length<=sizeLine/\∀ p,H1 p=none->Q (.ref p) (upd H1 p (.tup xs))
noncomputable def tLst (t:TA):TE:=fun σ H Q=>t σ H fun xs H1=>xs.length<=sizeLine/\∀ p,H1 p=none->Q (.ref p) (upd H1 p (.lst xs))
theorem pe_tup {x1} (h:PA X es t):PE X (.Tuple es x1 pos) (tTup t):=by
 intro pins s σ H Q I hq
 refine wpAny_Tuple_spliced (thn (h pos pins s σ H _ I hq) fun us s1 ⟨xs,H1,I1,r,z,q⟩=>⟨by rw [<- r.length];exact z,?_⟩)
 have hf:H1 s1.heap.objs.size=none:=I1.hok.fresh (Nat.le_refl _)
 refine ⟨.ref s1.heap.objs.size,upd H1 s1.heap.objs.size (.tup xs),I1.laid (t':=s1.toks) (fun b u e=>Heap.get?_push_of_some _ e) (Nat.le_refl _) ?_,rfl,q _ hf⟩
 exact ⟨z,us,r,⟨_,Heap.get?_push_size _ rfl,rfl,_,rfl⟩⟩
theorem pe_lst (h:PA X es t):PE X (.List es pos) (tLst t):=by
 intro pins s σ H Q I hq
 refine wpAny_List_spliced (thn (h pos pins s σ H _ I hq) fun us s1 ⟨xs,H1,I1,r,z,q⟩=>⟨by rw [<- r.length];exact z,?_⟩)
 have hf:H1 s1.heap.objs.size=none:=I1.hok.fresh (Nat.le_refl _)
 refine ⟨.ref s1.heap.objs.size,upd H1 s1.heap.objs.size (.lst xs),I1.laid (t':=s1.toks) (fun b u e=>Heap.get?_push_of_some _ e) (Nat.le_refl _) ?_,rfl,q _ hf⟩
 exact ⟨z,us,0,r,Heap.get?_push_size _ rfl⟩
end
noncomputable abbrev Sp:=List V->Hp->VK->XK->Prop
noncomputable abbrev CXT:=List Env->Hp->Shared->XK->Value->Shared->Prop
structure Env0 (P:Program) (w:World) (K:PySem.W.Frag) (mg:Str->Option Value) (base:Heap) (A:Around) (outer:List Env) (s:Shared) (H:Hp):Prop where
 frames:A.frames=some outer
 mod:Mod K mg base
 bs:∀ b o,base.get? b=some o->s.heap.get? b=some o/\H b=none
 bsz:base.objs.size<=s.heap.objs.size
 funs:s.heap.FunFrames base outer
 frf:∀ b∈frs outer,H b=none
 hok:HOk P w H s.heap
 bare:AllBare s.gens
noncomputable def CE (outer:List Env) (P:Program) (w:World) (H:Hp) (s:Shared) (Q:VK) (u:Value) (s':Shared):Prop :=
 ∃ v H',s'.os=s.os/\AllBare s'.gens/\Un (frs outer) [] H H' s.heap s'.heap/\HOk P w H' s'.heap/\RelV v u/\Q v H'
noncomputable def CR (CX:CXT) (outer:List Env) (P:Program) (w:World) (H:Hp) (s:Shared) (Q:VK) (E:XK) (r:Result) (s':Shared):Prop :=
 match r with
 | .ok (.ret u)=>CE outer P w H s Q u s'
 | .ok _=>False
 | .error e=>CX outer H s E e s'
structure FnOk (P:Program) (w:World) (K:PySem.W.Frag) (mg:Str->Option Value) (base:Heap) (CX:CXT) (k:Nat) (f:Addr) (fd:FuncData) (ps:List Str) (sp:Sp):Prop where
 len:∀ vs H Q E,sp vs H Q E->vs.length=ps.length
 run:∀ (A:Around) (outer:List Env) (s:Shared) (H:Hp) (args:Args) (us:List Value) (vs:List V) (Q:VK) (E:XK),Room k A->Env0 P w K mg base A outer s H->BindsTo s fd args (ps.zip us)->Vals vs us->sp vs H Q E ->
  codeAny (model P w) A (.call (.ref f) args) (CR CX outer P w H s Q E) s
theorem Env0.make {P:Program} {w:World} {K:PySem.W.Frag} {mg:Str->Option Value} {base:Heap} {A:Around} {outer:List Env} {s:Shared} {H:Hp} (e:Env0 P w K mg base A outer s H) (C:Addr) (us:List Value) (kw:List (Str × Value)) :
  Env0 P w K mg base (A.under (.builtin "type.__call__" ⟨.ref C::us,kw⟩)) outer s H:=⟨by first | exact e.frames | (simpa [Around.under,Code.envs,Code.isFrame,pushEnvs] using e.frames),e.mod,e.bs,e.bsz,e.funs,e.frf,e.hok,e.bare⟩
theorem Env0.in1 {P:Program} {w:World} {K:PySem.W.Frag} {mg:Str->Option Value} {base:Heap} {A:Around} {outer:List Env} {s:Shared} {H:Hp} (e:Env0 P w K mg base A outer s H) :
  Env0 P w K mg base A.in1 outer s H:=⟨e.frames,e.mod,e.bs,e.bsz,e.funs,e.frf,e.hok,e.bare⟩
section
variable {X:Cx} {pins:List (Addr × Obj)} {σ:St} {H:Hp} {s s':Shared}
theorem Inv.env0 (I:Inv X pins σ H s):Env0 X.prog X.w X.K X.mg X.base X.A X.stack s H :=
 ⟨I.ok.frames,I.ok.mod,I.bs,Nat.le_trans I.ok.bsz I.sz,I.stack,I.stkFree,I.hok,I.bare⟩
theorem Inv.after {Q:VK} {u:Value} (I:Inv X pins σ H s) (h:CE X.stack X.prog X.w H s Q u s'):EP X pins σ Q u s':=by
 obtain ⟨v,H',os,bare,un,hok,r,q⟩:=h
 obtain ⟨hh,g,d,t,os'⟩:=s'
 obtain rfl:os'=s.os:=os
 exact ⟨v,H',I.call (h':=hh) (g':=g) (d':=d) (t':=t) (ch:=[]) un hok bare (fun b z=>absurd z (by simp)),r,q⟩
end
noncomputable def tCall (sp:Sp) (dvs:List V) (E:XK) (t:TA):TE:=fun σ H Q=>t σ H fun vs H1=>sp (vs++dvs) H1 Q E
noncomputable def tMeth (C:Addr) (m:Str) (sp:Sp) (dvs:List V) (E:XK) (ta:TE) (t:TA):TE:=fun σ H Q=>ta σ H fun x H1=>∃ a dx fs,x=.ref a/\H1 a=some (.ins C dx fs)/\fs.lookup m=none /\
 t σ H1 fun vs H2=>sp (x::(vs++dvs)) H2 Q E
noncomputable def tMake (C:Addr) (sp:Sp) (dvs:List V) (E:XK) (t:TA):TE:=fun σ H Q=>t σ H fun vs H1=>∀ x dx,H1 x=none->H1 dx=none->dx≠x ->
 sp (.ref x::(vs++dvs)) (upd (upd H1 dx (.own x)) x (.ins C dx [])) (fun v H2=>v=.non/\Q (.ref x) H2) E
noncomputable def Binds (K:PySem.W.Frag) (fd:FuncData) (ps:List Str) (ds:List Value):Prop :=
 ∀ (s:Shared) (us:List Value),K.In s.heap->(us++ds).length=ps.length->BindsTo s fd ⟨us,[]⟩ (ps.zip (us++ds))
theorem Binds.all {K:PySem.W.Frag} {fd:FuncData} {ps:List Str} (h:∀ us:List Value,us.length=ps.length->bindArgs fd ⟨us,[]⟩=pure (ps.zip us)):Binds K fd ps []:=fun s us _ hl=>by
 rw [List.append_nil] at hl ⊢
 exact .of_eq (h us hl)
noncomputable def Passes (CX:CXT) (X:Cx) (E:XK):Prop:=∀ (pins:List (Addr × Obj)) (σ:St) (H:Hp) (s:Shared) (e:Value) (s':Shared),Inv X pins σ H s->CX X.stack H s E e s'->X.xe e s'
section
variable {X:Cx} {CX:CXT} {k:Nat} {f C:Addr} {fd:FuncData} {ps:List Str} {sp:Sp} {dvs:List V} {ds:List Value} {E:XK} {x m:Str} {p pos apos:Pos} {e o:Expr} {es:List Expr} {ta:TE} {t:TA}
theorem run_fn {pins:List (Addr × Obj)} {σ:St} {H:Hp} {s:Shared} {Q:VK} {us:List Value} {vs:List V} (F:FnOk X.prog X.w X.K X.mg X.base CX k f fd ps sp) (hr:Room k X.A) (hb:Binds X.K fd ps ds) (hd:Vals dvs ds) (hx:Passes CX X E)
  (I:Inv X pins σ H s) (r:Vals vs us) (h:sp (vs++dvs) H Q E):wpAny (model X.prog X.w) X.A (call (.ref f) us) (EP X pins σ Q) X.xe s:=by
 have r2:Vals (vs++dvs) (us++ds):=r.append hd
 have hl:(us++ds).length=ps.length:=by rw [<- r2.length];exact F.len _ _ _ _ h
 refine wpAny_call (codeAny_mono (F.run X.A X.stack s H ⟨us,[]⟩ (us++ds) (vs++dvs) Q E hr I.env0 (hb s us I.kIn hl) r2 h) fun r s' hq=>?_)
 cases r with
 | error e=>exact hx pins σ H s e s' I hq
 | ok fl =>
  cases fl with
  | ret u=>exact I.after hq
  | next=>exact False.elim hq
  | brk=>exact False.elim hq
  | cont=>exact False.elim hq
theorem pe_call (F:FnOk X.prog X.w X.K X.mg X.base CX k f fd ps sp) (hr:Room k X.A) (hg:Gl X x) (hm:X.mg x=some (.ref f)) (hk:PySem.W.keepIn X.K (.ref f)=true) (hb:Binds X.K fd ps ds) (hd:Vals dvs ds) (hx:Passes CX X E)
  (ha:PA X (e::es) t) (hdb:(x == ("__debug__":Str))=false:=by decide) (he:starEach (e::es) X.env=(false,eval e X.env)::starEach es X.env:=by rfl) (hpl:(backTo pos (starEach es X.env)).any (·.1)=false:=by rfl) :
  PE X (.Call (.Name x p) (e::es) [] pos) (tCall sp dvs E t):=by
 intro pins s σ H Q I h
 refine wpAny_Call_Name_kw (ld_glob I hg hm ?_ hdb)
 refine PySem.W.callWith_K (h₀:=X.base) I.ok.mod.kin hk (thn (ha pos pins s σ H _ I h) fun us s1 ⟨vs,H1,I1,r,q⟩=>⟨I1.kIn,?_⟩) he hpl
 exact run_fn F hr hb hd hx I1 r q
theorem pe_meth {pl:Sem Bool} (he:PE X o ta) (c:Cls X.K C) (hm:Meth X.K C m f) (F:FnOk X.prog X.w X.K X.mg X.base CX k f fd ps sp) (hr:Room k X.A) (hb:Binds X.K fd ps ds) (hd:Vals dvs ds) (hx:Passes CX X E) (ha:PA X (e::es) t)
  (hst:starEach (e::es) X.env=(false,eval e X.env)::starEach es X.env:=by rfl) (hpl:(backTo pos (starEach es X.env)).any (·.1)=false:=by rfl)
  (ht:eval (.Call (.Attribute o m apos) (e::es) [] pos) X.env=(do
   let ov <- eval o X.env
   standAt apos.atName
   let (f,first) <- holding [ov] (getMethod ov m pl)
   callWith pos f first (backTo pos (starEach (e::es) X.env)) (backToKw pos (keywordEach [] X.env))):=by rfl) :
  PE X (.Call (.Attribute o m apos) (e::es) [] pos) (tMeth C m sp dvs E ta t):=by
 intro pins s σ H Q I h
 refine PySem.W.methodCall_KW (pl:=pl) (thn (he pins s σ H _ I h) fun u s1 hsl32=>?_) ht
 obtain ⟨x,H1,I1,rx,a,dx,fs,ex,ea,l,q⟩:=hsl32
 subst ex
 obtain rfl:u=Value.ref a:=rx
 refine getmeth_ok I1 ea c hm l ?_
 refine PySem.W.callWith_K (first:=[.ref a]) (h₀:=X.base) I.ok.mod.kin hm.kp (thn (ha pos pins s1 σ H1 _ I1 q) fun us s2 ⟨vs,H2,I2,r,q2⟩=>⟨I2.kIn,?_⟩) hst hpl
 exact run_fn (us:=.ref a::us) (vs:=.ref a::vs) F hr hb hd hx I2 (.cons rfl r) q2
structure Mk (K:PySem.W.Frag) (C f:Addr):Prop where
 makes:PySem.W.makesIn K C=true
 init:PySem.W.findIn K (.ref C) "__init__"=some (some (.ref f))
 fn:PySem.W.isFn K (.ref f)=true
 kp:PySem.W.keepIn K (.ref C)=true
theorem run_make {pins:List (Addr × Obj)} {σ:St} {H:Hp} {s:Shared} {Q:VK} {us:List Value} {vs:List V} (M:Mk X.K C f) (F:FnOk X.prog X.w X.K X.mg X.base CX k f fd ps sp) (hr:Room (k+1) X.A) (hb:Binds X.K fd ps ds) (hd:Vals dvs ds)
  (hx:Passes CX X E) (I:Inv X pins σ H s) (r:Vals vs us)
  (h:∀ x dx,H x=none->H dx=none->dx≠x->sp (.ref x::(vs++dvs)) (upd (upd H dx (.own x)) x (.ins C dx [])) (fun v H2=>v=.non/\Q (.ref x) H2) E) :
  wpAny (model X.prog X.w) X.A (call (.ref C) us) (EP X pins σ Q) X.xe s:=by
 have hq:=h (s.heap.objs.size+1) s.heap.objs.size (I.hok.fresh (Nat.le_succ _)) (I.hok.fresh (Nat.le_refl _)) (Nat.ne_of_lt (Nat.lt_succ_self _))
 have I2:=Inv.made (C:=C) I
 have r2:Vals (V.ref (s.heap.objs.size+1)::(vs++dvs)) (Value.ref (s.heap.objs.size+1)::(us++ds)):=.cons rfl (r.append hd)
 have hl:(Value.ref (s.heap.objs.size+1)::us++ds).length=ps.length:=by
  have e:=r2.length
  rw [F.len _ _ _ _ hq] at e
  exact e.symm
 refine wpAny_call (make_map (f:=f) I.kIn M.makes M.init (beq_iff_eq.mp M.fn) (codeAny_mono (F.run _ X.stack _ _ ⟨Value.ref (s.heap.objs.size+1)::us,[]⟩ (Value.ref (s.heap.objs.size+1)::(us++ds)) _ _ E (hr.make C us [])
  (I2.env0.make C us []) (hb _ (Value.ref (s.heap.objs.size+1)::us) I2.kIn hl) r2 hq) fun r s' hq'=>?_))
 cases r with
 | error e=>exact hx pins σ _ _ e s' I2 hq'
 | ok fl =>
  cases fl with
  | ret u =>
   obtain ⟨v,H',I3,rv,ev,q3⟩:=I2.after hq'
   subst ev
   exact ⟨rv,⟨V.ref (s.heap.objs.size+1),H',I3,rfl,q3⟩⟩
  | next=>exact False.elim hq'
  | brk=>exact False.elim hq'
  | cont=>exact False.elim hq'
theorem pe_make (M:Mk X.K C f) (F:FnOk X.prog X.w X.K X.mg X.base CX k f fd ps sp) (hr:Room (k+1) X.A) (hg:Gl X x) (hm:X.mg x=some (.ref C)) (hb:Binds X.K fd ps ds) (hd:Vals dvs ds) (hx:Passes CX X E)
  (ha:PA X (e::es) t) (hdb:(x == ("__debug__":Str))=false:=by decide) (he:starEach (e::es) X.env=(false,eval e X.env)::starEach es X.env:=by rfl) (hpl:(backTo pos (starEach es X.env)).any (·.1)=false:=by rfl) :
  PE X (.Call (.Name x p) (e::es) [] pos) (tMake C sp dvs E t):=by
 intro pins s σ H Q I h
 refine wpAny_Call_Name_kw (ld_glob I hg hm ?_ hdb)
 refine PySem.W.callWith_K (h₀:=X.base) I.ok.mod.kin M.kp (thn (ha pos pins s σ H _ I h) fun us s1 ⟨vs,H1,I1,r,q⟩=>⟨I1.kIn,?_⟩) he hpl
 exact run_make M F hr hb hd hx I1 r q
end
noncomputable def PK (X:Cx) (kws:List Keyword) (t:TA):Prop :=
 ∀ (pos:Pos) (pins:List (Addr × Obj)) (s:Shared) (σ:St) (H:Hp) (Q:List V->Hp->Prop),Inv X pins σ H s->t σ H Q->wpAny (model X.prog X.w) X.A (evalAll ((backToKw pos (keywordEach kws X.env)).map (·.2))) (AP X pins σ Q) X.xe s
section
variable {X:Cx} {CX:CXT} {k:Nat} {f C:Addr} {fd:FuncData} {ps ks:List Str} {sp:Sp} {E:XK} {x m:Str} {p pos apos kpos:Pos} {e o:Expr} {es:List Expr} {kws:List Keyword} {te ta:TE} {t tk:TA} {nm:Option Str}
theorem pk_nil:PK X [] tNil:=fun _ _ _ _ H Q I h=>wpAny_evalAll_nil ⟨[],H,I,.nil,h⟩
theorem pk_cons (ha:PE X e te) (hr:PK X kws t):PK X (⟨nm,e,kpos⟩::kws) (tCons te t):=by
 intro pos pins s σ H Q I h
 show wpAny _ _ (evalAll ((do let v <- eval e X.env;standAt pos;pure v)::(backToKw pos (keywordEach kws X.env)).map (·.2))) _ _ s
 refine wpAny_evalAll_cons (wpAny_bind (thn (ha pins s σ H _ I h) fun u s1 ⟨x,H1,I1,r1,q1⟩=>wpAny_bind (wpAny_standAt (wpAny_pure ?_))))
 exact thn (hr pos pins s1 σ H1 _ I1 q1) fun us s2 hsl33=>by obtain ⟨xs,H2,I2,r2,q2⟩:=hsl33;exact ⟨x::xs,H2,I2,.cons r1 r2,q2⟩
variable {g:List Value->List Value->List Value} {gV:List V->List V->List V}
end
structure FnScope (N P:List Str) (sc:Scope):Prop where
 kind:sc.kind=.function
 co:sc.isCoroutine=false
 gen:sc.isGenerator=false
 nd:N.Nodup
 pre:N.take P.length=P
 par:∀ x∈P,sc.names.lookup x=some .local∨sc.names.lookup x=some .cell
 nofree:∀ y∈sc.names,y.2≠.free
theorem bindL_out {kindOf:Str->Option NameKind} {x:Str}:∀ {binds:List (Str × Value)} {m:Str->Option Value},(∀ v,(x,v)∉binds)->bindL kindOf binds m x=m x
 | [],_,_=>rfl
 | (n,v)::r,m,h=>by
  unfold bindL
  rw [bindL_out fun w hw=>h w (List.mem_cons_of_mem _ hw)]
  split
  ·have:x≠n:=by rintro rfl;exact h v List.mem_cons_self
   simp [this]
  ·rfl
theorem bindC_out {kindOf:Str->Option NameKind} {x:Str}:∀ {binds:List (Str × Value)} {m:Str->Option Value},(∀ v,(x,v)∉binds)->bindC kindOf binds m x=m x
 | [],_,_=>rfl
 | (n,v)::r,m,h=>by
  unfold bindC
  rw [bindC_out fun w hw=>h w (List.mem_cons_of_mem _ hw)]
  split
  ·rfl
  ·have:x≠n:=by rintro rfl;exact h v List.mem_cons_self
   simp [this]
theorem bindL_get {kindOf:Str->Option NameKind} {x:Str} {v:Value}:∀ {P:List Str} {vs:List Value} {i:Nat} {m:Str->Option Value},P.Nodup->P[i]?=some x->vs[i]?=some v->kindOf x=some .local ->
  bindL kindOf (P.zip vs) m x=some v
 | [],_,_,_,_,h,_,_=>by simp at h
 | _::_,[],_,_,_,_,h,_=>by simp at h
 | p::P,w::vs,0,m,nd,h1,h2,hk=>by
  simp at h1 h2;subst h1;subst h2
  show bindL kindOf ((p,w)::P.zip vs) m p=_
  unfold bindL
  rw [bindL_out fun v hv=>(List.nodup_cons.mp nd).1 (List.of_mem_zip hv).1,if_pos hk]
  simp
 | p::P,w::vs,i+1,m,nd,h1,h2,hk=>by
  show bindL kindOf ((p,w)::P.zip vs) m x=_
  unfold bindL
  exact bindL_get (i:=i) (List.nodup_cons.mp nd).2 (by simpa using h1) (by simpa using h2) hk
theorem bindC_get {kindOf:Str->Option NameKind} {x:Str} {v:Value}:∀ {P:List Str} {vs:List Value} {i:Nat} {m:Str->Option Value},P.Nodup->P[i]?=some x->vs[i]?=some v->kindOf x≠some .local ->
  bindC kindOf (P.zip vs) m x=some v
 | [],_,_,_,_,h,_,_=>by simp at h
 | _::_,[],_,_,_,_,h,_=>by simp at h
 | p::P,w::vs,0,m,nd,h1,h2,hk=>by
  simp at h1 h2;subst h1;subst h2
  show bindC kindOf ((p,w)::P.zip vs) m p=_
  unfold bindC
  rw [bindC_out fun v hv=>(List.nodup_cons.mp nd).1 (List.of_mem_zip hv).1,if_neg hk]
  simp
 | p::P,w::vs,i+1,m,nd,h1,h2,hk=>by
  show bindC kindOf ((p,w)::P.zip vs) m x=_
  unfold bindC
  exact bindC_get (i:=i) (List.nodup_cons.mp nd).2 (by simpa using h1) (by simpa using h2) hk
noncomputable def start (N:List Str) (vs:List V):St:=vs.map some++List.replicate (N.length-vs.length) none
noncomputable def cxOf (CX:CXT) (P:Program) (w:World) (K:PySem.W.Frag) (mg:Str->Option Value) (base:Heap) (N:List Str) (qual:Str) (scope:Scope) (f:Addr) (cd:Value) (A:Around) (outer:List Env) (s:Shared) (H:Hp) (E:XK):Cx where
 prog:=P
 w:=w
 K:=K
 mg:=mg
 base:=base
 A:=A.deeper (envOfC qual scope s.heap.objs.size f cd)
 N:=N
 s₀:=s
 H₀:=H
 env:=envOfC qual scope s.heap.objs.size f cd
 outer:=outer
 stack:=envOfC qual scope s.heap.objs.size f cd::outer
 ex:=[]
 calm:=true
 fn:=fun _=>true
 pn:=[]
 xe:=fun e s'=>wpAny (model P w) (A.deeper (envOfC qual scope s.heap.objs.size f cd)) (leaving (envOfC qual scope s.heap.objs.size f cd) e) (fun _ s''=>CX outer H s E e s'') (fun e' s''=>CX outer H s E e' s'') s'
theorem cell_has {sc:Scope} {n:Nat} {x:Str} (h:sc.names.lookup x=some .cell):∃ c,(cellsFrom n sc.names []).lookup x=some c:=by
 have q:=PySem.W.cellsFrom_some sc.names n [] (.inl h)
 exact Option.isSome_iff_exists.mp q
theorem inv_start {CX:CXT} {P:Program} {w:World} {K:PySem.W.Frag} {mg:Str->Option Value} {base:Heap} {N ps:List Str} {qual:Str} {scope:Scope} {f:Addr} {cd:Value} {A:Around} {outer:List Env} {s s1:Shared} {H:Hp} {E:XK} {us:List Value} {vs:List V}
  (S:FnScope N ps scope) (hd:A.handled=none) (e0:Env0 P w K mg base A outer s H) (hl:vs.length=ps.length) (r:Vals vs us)
  (x:InCallC s s.heap.objs.size (bindL (envOfC qual scope s.heap.objs.size f cd).kindOf (ps.zip us) fun _=>none) (cellsFrom (s.heap.objs.size+1) scope.names []) (bindC (envOfC qual scope s.heap.objs.size f cd).kindOf (ps.zip us) fun _=>none) s1) :
  Inv (cxOf CX P w K mg base N qual scope f cd A outer s H E) [] (start N vs) H s1:=by
 have hpl:ps.length<=N.length:=by have:=congrArg List.length S.pre;rw [List.length_take] at this;omega
 obtain ⟨h1,tk,rfl,hk⟩:=x.done
 have noA:∀ b:Addr,b∉(cxOf CX P w K mg base N qual scope f cd A outer s H E).ex:=fun b z=>absurd (show b∈([]:List Addr) from z) (by simp)
 refine ⟨⟨e0.mod,S.kind,rfl,rfl,Nat.le_refl _,fun y z c h1 h2=>?_,fun y hy=>?_,fun y c _ h=>?_,fun _=>hd,Around.frames_deeper e0.frames,.inr ⟨rfl,rfl⟩,fun b z=>absurd z (noA b),e0.bs,e0.bsz,fun b _ _=>noA b,fun b z=>absurd z (noA b),e0.funs,e0.frf⟩,
  rfl,e0.bare,Un.kept hk,⟨_,x.toInCall.ns,fun i y v h1 h2 h3=>?_⟩,fun y c h=>⟨_,x.cell y c h⟩,e0.hok.fresh (Nat.le_refl _),fun y c h=>?_,fun p hp=>absurd (show p∈([]:List (Addr × Obj)) from hp) (by simp),e0.hok.kept hk,?_⟩
 ·exact name_of_addr x.apart (PySem.mem_of_lookup h1) (PySem.mem_of_lookup h2)
 ·have hy:scope.names.lookup y=some .cell∨scope.names.lookup y=some .free:=hy
  rcases hy with hy | hy
  ·exact cell_has hy
  ·exact absurd rfl (S.nofree _ (PySem.mem_of_lookup hy))
 ·exact Nat.le_of_lt (x.above y c (PySem.mem_of_lookup h))
 ·have hi:i<vs.length:=by
   unfold start at h2
   by_cases hi:i<vs.length
   ·exact hi
   ·rw [List.getElem?_append_right (by simpa using hi)] at h2
    rw [List.getElem?_replicate] at h2
    split at h2<;>cases h2
  have ha:vs[i]?=some v:=by
   unfold start at h2
   rw [List.getElem?_append_left (by simpa using hi),List.getElem?_map] at h2
   cases e:vs[i]? with
   | none=>rw [e] at h2;cases h2
   | some a=>rw [e] at h2;cases h2;rfl
  obtain ⟨u,hu,rv⟩:=r.get ha
  have hp:ps[i]?=some y:=by
   rw [<- S.pre,List.getElem?_take_of_lt (by omega)];exact h1
  have ndP:ps.Nodup:=by rw [<- S.pre];exact S.nd.sublist (List.take_sublist _ _)
  refine ⟨u,rv,?_⟩
  rcases S.par y (List.mem_of_getElem? hp) with k | k
  ·exact .inl ⟨k,bindL_get ndP hp hu k⟩
  ·obtain ⟨c,e⟩:=cell_has (n:=s.heap.objs.size+1) k
   refine .inr ⟨.inl k,c,e,?_⟩
   have q:=x.cell y c e
   rw [bindC_get ndP hp hu (by show scope.names.lookup y≠_;rw [k];decide)] at q
   exact q
 ·exact e0.hok.fresh (Nat.le_of_lt (x.above y c (PySem.mem_of_lookup h)))
 ·unfold start
  show _=N.length
  rw [List.length_append,List.length_map,List.length_replicate]
  omega
theorem fn_of {CX:CXT} {P:Program} {w:World} {K:PySem.W.Frag} {mg:Str->Option Value} {base:Heap} {k:Nat} {f:Addr} {name qual:Str} {params:Arguments} {body:List Stmt} {scope:Scope} {dV kV doc pm cdv ct oc:Value} {an od:Option Addr}
  {osl:Array (Option Value)} {N ps:List Str} {sp:Sp} (lk:K.lookup f=some ⟨oc,od,.func (PySem.W.fnOf name qual params body scope dV kV doc pm an cdv ct),osl⟩) (hcd:PySem.W.codeIn K cdv qual=true) (S:FnScope N ps scope)
  (len:∀ vs H Q E,sp vs H Q E->vs.length=ps.length)
  (hbody:∀ (A:Around) (outer:List Env) (s:Shared) (H:Hp) (vs:List V) (Q:VK) (E:XK),Room k (A.deeper (envOfC qual scope s.heap.objs.size f cdv))->sp vs H Q E ->
   ∃ t,PSs (cxOf CX P w K mg base N qual scope f cdv A outer s H E) body t/\t { nx:=fun _ H'=>Q .non H',rt:=Q } (start N vs) H) :
  FnOk P w K mg base CX (k+1) f (PySem.W.fnOf name qual params body scope dV kV doc pm an cdv ct) ps sp:=by
 refine ⟨len,fun A outer s H args us vs Q E hr e0 hb r hsp=>?_⟩
 have hl:=len _ _ _ _ hsp
 have KX:K.In s.heap:=e0.mod.kin.keeps fun b o e=>(e0.bs b o e).1
 have lim:s.heap.NoLimit:=e0.mod.nolimit.keeps fun b o e=>(e0.bs b o e).1
 have hkind:∀ y∈ps.zip us,scope.names.lookup y.1=some .local∨(scope.names.lookup y.1=some .cell/\((cellsFrom (s.heap.objs.size+1) scope.names []).lookup y.1).isSome=true):=fun ⟨n,v⟩ hy=>by
  rcases S.par n (List.of_mem_zip hy).1 with q | q
  ·exact .inl q
  ·exact .inr ⟨q,PySem.W.cellsFrom_some _ _ _ (.inl q)⟩
 refine codeAny_call_function hr.depth (KX _ _ lk) rfl S.co S.gen rfl (PySem.W.codeRec_of KX hcd) (hb _ _ _ _ ?_)
 refine wpAny_newFunctionEnv_cells S.kind hkind fun env he s1 x=>?_
 subst he
 refine ⟨lim.keeps x.toInCall.keep,codeAny_func ?_⟩
 obtain ⟨t,ht,hq⟩:=hbody A outer s H vs Q E (hr.deeper _) hsp
 have I:Inv (cxOf CX P w K mg base N qual scope f cdv A outer s H E) [] (start N vs) H s1:=inv_start S hr.hd e0 hl r x
 refine wpAny_mono (ht [] s1 (start N vs) H _ I hq) (fun fl s' hs=>?_) fun e s' hs=>hs
 have fin:∀ {σ':St} {H':Hp} {v:V} {u:Value},Inv (cxOf CX P w K mg base N qual scope f cdv A outer s H E) [] σ' H' s'->RelV v u->Q v H'->CE outer P w H s Q u s' :=
  fun {σ' H' v u} J rv q=>⟨v,H',J.os,J.bare,J.base,J.hok,rv,q⟩
 cases fl with
 | ret u =>
  obtain ⟨v,σ',H',J,rv,q⟩:=hs
  exact fin J rv q
 | next =>
  obtain ⟨σ',H',J,q⟩:=hs
  exact fin (v:=V.non) (u:=Value.none) J rfl q
 | brk =>
  obtain ⟨_,_,_,q⟩:=hs
  exact False.elim q
 | cont =>
  obtain ⟨_,_,_,q⟩:=hs
  exact False.elim q
end L2
namespace L2
open PySem PySem.Spec PyProof.Rows
section
variable {X:Cx} {x:Str} {p pos:Pos} {e:Expr} {es:List Expr} {t:TA} {id T:String} {r:List V->Hp->VK->Prop}
noncomputable def tCB (r:List V->Hp->VK->Prop) (t:TA):TE:=fun σ H Q=>t σ H fun vs H1=>r vs H1 Q
theorem pe_callB (hc:CallR X (.builtin id) r) (hg:Gl X x) (hm:X.mg x=none) (hv:bootBuiltins x=some (.builtin id)) (ha:PA X (e::es) t) (hn:x≠"__name__":=by decide) (hdb:(x == ("__debug__":Str))=false:=by decide)
  (he:starEach (e::es) X.env=(false,eval e X.env)::starEach es X.env:=by rfl) (hpl:(backTo pos (starEach es X.env)).any (·.1)=false:=by rfl):PE X (.Call (.Name x p) (e::es) [] pos) (tCB r t):=by
 intro pins s σ H Q I h
 refine wpAny_Call_Name_kw (ld_blt I hg hm hv ?_ hn hdb)
 exact PyProof.Rows.callWith_builtin1 (thn (ha pos pins s σ H _ I h) fun us s1 hsl34=>by obtain ⟨vs,H1,I1,r1,q1⟩:=hsl34;exact hc pins s1 σ H1 vs us Q I1 r1 q1) he hpl
theorem pe_callTy (hc:CallR X (.type T) r) (hg:Gl X x) (hm:X.mg x=none) (hv:bootBuiltins x=some (.type T)) (ha:PA X (e::es) t) (hn:x≠"__name__":=by decide) (hdb:(x == ("__debug__":Str))=false:=by decide)
  (he:starEach (e::es) X.env=(false,eval e X.env)::starEach es X.env:=by rfl) (hpl:(backTo pos (starEach es X.env)).any (·.1)=false:=by rfl):PE X (.Call (.Name x p) (e::es) [] pos) (tCB r t):=by
 intro pins s σ H Q I h
 refine wpAny_Call_Name_kw (ld_blt I hg hm hv ?_ hn hdb)
 exact PyProof.Rows.callWith_type1 (thn (ha pos pins s σ H _ I h) fun us s1 hsl35=>by obtain ⟨vs,H1,I1,r1,q1⟩:=hsl35;exact hc pins s1 σ H1 vs us Q I1 r1 q1) he hpl
end
end L2
namespace HT
open PySem PyProof.Rows
section
open PySem.SeqAt
open PySem.AutoSeq1 (wpAny_loadPart')
open PySem.MeetsSeq PySem.MeetsSeq2 PySem.MeetsSeq3
end
section
variable {prog:Program} {w:World} {A:Around} {E:Value->Shared->Prop} {s:Shared}
theorem cat_tup {t b:Addr} {vs ws:List Value} {Q:Value->Shared->Prop} (ht:IsTup s.heap t vs.toArray) (hb:IsTup s.heap b ws.toArray) (hv:vs≠[])
  (h1:ws=[]->Q (.ref t) s) (h2:ws≠[]->Q (.ref s.heap.objs.size) { s with heap:=s.heap.push { cls:=.type "tuple",data:=.seq (vs++ws).toArray } })
  (hsz:vs.length+ws.length<=sizeLine):wpAny (model prog w) A (binaryOp .Add (.ref t) (.ref b)) Q E s:=by
 obtain ⟨⟨cls,dd,data,sl⟩,ho,hc,n,hd⟩:=id ht
 obtain ⟨⟨cls2,dd2,data2,sl2⟩,ho2,hc2,n2,hd2⟩:=id hb
 simp only at hc hd hc2 hd2
 subst hc hd hc2 hd2
 have e:vs.toArray++ws.toArray=(vs++ws).toArray:=by simp
 by_cases hw:ws=[]
 ·exact concat_meets ⟨_,ho,rfl⟩ ⟨_,ho2,rfl⟩ noFill_tuple_add seq_tuple_add PySem.F.slot_tuple_add PySem.F.entry_tuple_add (PySem.F.args_tuple_add_2 _ _)
   (tuple_addW1 t b vs.toArray ws.toArray n n2 dd dd2 sl sl2 (by simpa using hv) (by simp [hw])) ⟨ho,ho2,h1 hw⟩
 ·refine concat_meets ⟨_,ho,rfl⟩ ⟨_,ho2,rfl⟩ noFill_tuple_add seq_tuple_add PySem.F.slot_tuple_add PySem.F.entry_tuple_add (PySem.F.args_tuple_add_2 _ _)
   (tuple_addW2 t b vs.toArray ws.toArray n n2 dd dd2 sl sl2 (by simpa using hv) (by simpa using hw) (by rw [List.size_toArray,List.size_toArray];exact hsz)) ⟨ho,ho2,?_⟩
  rw [e]
  exact h2 hw
noncomputable def sIx (n d:Nat):Option Int->Nat
 | none=>d
 | some v=>if v<0 then (v+(n:Int)).toNat else min v.toNat n
theorem sIx_nat (n d k:Nat):sIx n d (some (k:Int))=min k n:=by
 show (if (k:Int)<0 then ((k:Int)+(n:Int)).toNat else min (k:Int).toNat n)=min k n
 rw [if_neg (by omega),Int.toNat_natCast]
theorem sIx_le (n d:Nat) (hd:d<=n) (o:Option Int):sIx n d o<=n:=by
 cases o with
 | none=>exact hd
 | some v =>
  show (if v<0 then (v+(n:Int)).toNat else min v.toNat n)<=n
  by_cases hv:v<0
  ·rw [if_pos hv];omega
  ·rw [if_neg hv];exact Nat.min_le_right _ _
theorem clip_eq (v:Int) (n d:Nat):(if v<0 then max (v+(n:Int)) 0 else min v (n:Int))=((sIx n d (some v):Nat):Int):=by
 show (if v<0 then max (v+(n:Int)) 0 else min v (n:Int))=(((if v<0 then (v+(n:Int)).toNat else min v.toNat n):Nat):Int)
 by_cases hv:v<0
 ·simp only [if_pos hv];omega
 ·simp only [if_neg hv];omega
theorem adjust_gen (lo hi:Option Int) (n:Nat):Builtin.Slice.sliceAdjust lo hi 1 (n:Int)=(((sIx n 0 lo:Nat):Int),((sIx n n hi:Nat):Int)):=by
 have h1:¬ ((1:Int)<0):=by omega
 unfold Builtin.Slice.sliceAdjust
 simp only [h1,if_false]
 refine Prod.ext ?_ ?_
 ·cases lo with
  | none=>rfl
  | some v=>exact clip_eq v n 0
 ·cases hi with
  | none=>rfl
  | some v=>exact clip_eq v n n
theorem places_gen (i j:Nat):Builtin.Slice.slicePlaces (i:Int) (j:Int) 1=j-i:=by
 unfold Builtin.Slice.slicePlaces
 have h1:(1:Int)>0:=by omega
 simp only [h1,if_true,Int.ediv_one]
 split<;>omega
theorem slicePart_ {v:Value} {o:Option Int} {Q:Option Int->Shared->Prop} (p:IsPart v o) (h:Q o s):wpAny (model prog w) A (Builtin.Slice.slicePartIndex v) Q E s:=by
 cases p with
 | none=>exact slicePart_none h
 | int i t=>exact slicePart_int h
theorem sliceApplied_gen {sl:Addr} {vl vu:Value} {lo hi:Option Int} {n:Nat} {Q:Int × Int × Nat->Shared->Prop} (hs:s.heap.IsSliceOf sl vl vu .none) (pl:IsPart vl lo) (pu:IsPart vu hi)
  (h:Q (((sIx n 0 lo:Nat):Int),1,sIx n n hi-sIx n 0 lo) s):wpAny (model prog w) A (Builtin.Slice.sliceApplied (.ref sl) (pure (n:Int))) Q E s:=by
 obtain ⟨os,hos,hcs,hds⟩:=id hs
 unfold Builtin.Slice.sliceApplied Builtin.Slice.sliceFields
 refine wpAny_bind (wpAny_bind (wpAny_field hos hds (x:=vl) rfl (wpAny_bind (wpAny_field hos hds (x:=vu) rfl (wpAny_bind (wpAny_field hos hds (x:=.none) rfl (wpAny_pure ?_)))))))
 refine wpAny_bind (slicePart_none ?_)
 show wpAny _ _ (if ((1:Int) == 0)=true then _ else _) _ _ s
 rw [if_neg (by decide)]
 refine wpAny_bind (slicePart_ pl (wpAny_bind (slicePart_ pu (wpAny_bind (wpAny_pure ?_)))))
 show wpAny _ _ (match Builtin.Slice.sliceAdjust lo hi 1 (n:Int) with | (lo,hi)=>pure (lo,(1:Int),Builtin.Slice.slicePlaces lo hi 1)) _ _ s
 rw [adjust_gen lo hi n]
 show wpAny _ _ (pure (((sIx n 0 lo:Nat):Int),(1:Int),Builtin.Slice.slicePlaces ((sIx n 0 lo:Nat):Int) ((sIx n n hi:Nat):Int) 1)) _ _ s
 rw [places_gen]
 exact wpAny_pure h
theorem pick_gen (xs:Array Value) (i k:Nat):((List.range k).filterMap fun (m:Nat)=>xs[((i:Int)+(m:Int)*1).toNat]?).toArray=((xs.toList.drop i).take k).toArray:=by
 have e:(fun (m:Nat)=>xs[((i:Int)+(m:Int)*1).toNat]?)=fun m=>xs[i+m]?:=by
  funext m
  have:((i:Int)+(m:Int)*1).toNat=i+m:=by omega
  rw [this]
 rw [e]
 have:=pick_run xs i k
 rw [List.filterMap_map] at this
 have e2:((fun x=>xs[x]?)∘fun x=>i+x)=fun m=>xs[i+m]?:=rfl
 rw [e2] at this
 rw [this]
theorem getItem_tuple_cut {t sl:Addr} {items:Array Value} {vl vu:Value} {lo hi:Option Int} {Q:Value->Shared->Prop} (ht:IsTup s.heap t items) (hs:s.heap.IsSliceOf sl vl vu .none) (pl:IsPart vl lo) (pu:IsPart vu hi)
  (hw:¬ (sIx items.size 0 lo=0/\sIx items.size items.size hi=items.size))
  (h:Q (.ref s.heap.objs.size) { s with heap:=s.heap.push { cls:=.type "tuple",data:=.seq ((items.toList.drop (sIx items.size 0 lo)).take (sIx items.size items.size hi-sIx items.size 0 lo)).toArray } })
  (hsz:items.size<=sizeLine):wpAny (model prog w) A (getItem (.ref t) (.ref sl)) Q E s:=by
 have htake:sizeOk (.seq ((items.toList.drop (sIx items.size 0 lo)).take (sIx items.size items.size hi-sIx items.size 0 lo)).toArray):=by
  show ((items.toList.drop (sIx items.size 0 lo)).take (sIx items.size items.size hi-sIx items.size 0 lo)).toArray.size<=sizeLine
  rw [List.size_toArray,List.length_take,List.length_drop,Array.length_toList]
  omega
 have hj:sIx items.size items.size hi<=items.size:=sIx_le _ _ (Nat.le_refl _) hi
 obtain ⟨os,hos,hcs,hds⟩:=id hs
 have hTs:s.TypeIs (.ref sl) "slice":=⟨os,hos,hcs⟩
 unfold getItem
 try with_reducible refine wpAny_holding ?_
 first | refine wpAny_bind (wpAny_pure ?_) | skip
 refine wpAny_bind (wpAny_sequenceKey ht.typeIs (by decide) ?_)
 refine wpAny_bind (wpAny_callSpecial?_slot (name:=Str.ofString "__getitem__") ht.typeIs PyProof.Rows.slot_tuple_getitem
  (wpAny_call_entry PyProof.Rows.slot_tuple_getitem ht.typeIs entry_tuple_getitem ?_ (args_tuple_getitem _ _)))
 show wpAny _ _ (Builtin.Tuple.tupleItemsOf (.ref t) >>= _) _ _ s
 refine wpAny_bind (tupleItemsOf_ ht ?_)
 refine wpAny_bind (wpAny_typeOf hTs ?_)
 rw [if_pos (by decide)]
 refine wpAny_bind (sliceApplied_gen hs pl pu ?_)
 have hno:¬ ((((sIx items.size 0 lo:Nat):Int) == 0&&(1:Int) == 1&&(sIx items.size items.size hi-sIx items.size 0 lo) == items.size)=true):=by
  intro q
  rw [Bool.and_eq_true,Bool.and_eq_true] at q
  have q1:((sIx items.size 0 lo:Nat):Int)=0:=eq_of_beq q.1.1
  have q2:sIx items.size items.size hi-sIx items.size 0 lo=items.size:=eq_of_beq q.2
  exact hw ⟨by omega,by omega⟩
 show wpAny _ _ (if (((sIx items.size 0 lo:Nat):Int) == 0&&(1:Int) == 1&&(sIx items.size items.size hi-sIx items.size 0 lo) == items.size)=true then _ else _) _ _ s
 rw [if_neg hno,pick_gen]
 first
  | exact wpAny_bind (m:=Builtin.Tuple.tupleExact _) (wpAny_newObj_type (wpAny_pure ⟨_,rfl,wpAny_pure h⟩) htake)
  | exact wpAny_bind (m:=Builtin.Tuple.tupleExact _) (wpAny_newObj_type (wpAny_bind (wpAny_pure (wpAny_pure ⟨_,rfl,wpAny_pure h⟩))) htake)
  | exact wpAny_bind (wpAny_bind (m:=Builtin.Tuple.tupleExact _) (wpAny_newObj_type (wpAny_pure (wpAny_pure ⟨_,rfl,wpAny_pure h⟩)) htake))
  | exact wpAny_bind (wpAny_bind (m:=Builtin.Tuple.tupleExact _) (wpAny_newObj_type (wpAny_pure ⟨_,rfl,wpAny_pure h⟩) htake))
end
end HT
namespace L2
open PySem PySem.Spec PyProof.Rows
noncomputable abbrev TO:=St->Hp->(Option Int->Hp->Prop)->Prop
noncomputable def PO (X:Cx) (e:Option Expr) (t:TO):Prop :=
 ∀ (pins:List (Addr × Obj)) (s:Shared) (σ:St) (H:Hp) (Q:Option Int->Hp->Prop),Inv X pins σ H s->t σ H Q ->
  wpAny (model X.prog X.w) X.A (evalPart e X.env) (fun u s'=>∃ o H',Inv X pins σ H' s'/\IsPart u o/\Q o H') X.xe s
noncomputable def tNoPart:TO:=fun _ H Q=>Q none H
noncomputable def tPart (t:TE):TO:=fun σ H Q=>t σ H fun x H1=>∃ i,x=.int i/\Q (some i) H1
section
variable {X:Cx} {e:Expr} {te:TE} {lo hi:Option Expr} {tl th:TO} {pos p2:Pos}
theorem po_none:PO X none tNoPart:=by
 intro pins s σ H Q I h
 rw [evalPart_none]
 exact wpAny_pure ⟨none,H,I,.none,h⟩
theorem po_some (h:PE X e te):PO X (some e) (tPart te):=by
 intro pins s σ H Q I hw
 rw [evalPart_some]
 refine thn (h pins s σ H _ I hw) fun u s1 hsl36=>?_
 obtain ⟨x,H1,I1,r1,q1⟩:=hsl36
 obtain ⟨i,rfl,q⟩:=q1
 obtain ⟨t,rfl⟩:=r1
 exact ⟨some i,H1,I1,.int i t,q⟩
noncomputable def SlR (X:Cx) (r:V->Option Int->Option Int->Hp->VK->Prop):Prop :=
 ∀ (pins:List (Addr × Obj)) (s:Shared) (σ:St) (H:Hp) (x:V) (v vl vu:Value) (lo hi:Option Int) (sl:Addr) (Q:VK),Inv X pins σ H s->RelV x v->s.heap.IsSliceOf sl vl vu .none->IsPart vl lo->IsPart vu hi->r x lo hi H Q ->
  ∃ T id,typeLookup (.type T) "__getitem__"=pure (some (.builtin id))/\s.TypeIs v T/\wpAny (model X.prog X.w) X.A (getItem v (.ref sl)) (EP X pins σ Q) X.xe s
noncomputable def tSl (r:V->Option Int->Option Int->Hp->VK->Prop) (te:TE) (tl th:TO):TE:=fun σ H Q=>te σ H fun x H1=>tl σ H1 fun l H2=>th σ H2 fun u H3=>r x l u H3 Q
theorem pe_slice {r:V->Option Int->Option Int->Hp->VK->Prop} (hr:SlR X r) (he:PE X e te) (hl:PO X lo tl) (hu:PO X hi th):PE X (.Subscript e (.Slice lo hi none p2) pos) (tSl r te tl th):=by
 intro pins s σ H Q I h
 refine Subscript_ (thn (he pins s σ H _ I h) fun v s1 hsl37=>?_)
 obtain ⟨x,H1,I1,r1,q1⟩:=hsl37
 refine wpAny_Slice (thn (hl pins s1 σ H1 _ I1 q1) fun vl s2 ⟨l,H2,I2,pl,q2⟩=>thn (hu pins s2 σ H2 _ I2 q2) fun vu s3 hsl38=>?_)
 obtain ⟨u,H3,I3,pu,q3⟩:=hsl38
 rw [evalPart_none]
 refine wpAny_pure ?_
 have I4:Inv X pins σ H3 { s3 with heap:=s3.heap.push { cls:=.type "slice",data:=.fields #[vl,vu,.none] } }:=I3.kept (t':=s3.toks) fun b ob q=>Heap.get?_push_of_some _ q
 obtain ⟨T,id,hT,ht,hg⟩:=hr pins { s3 with heap:=s3.heap.push { cls:=.type "slice",data:=.fields #[vl,vu,.none] } } σ H3 x v vl vu l u s3.heap.objs.size Q I4 r1 (Heap.IsSliceOf.new ..) pl pu q3
 show wpAny (model X.prog X.w) X.A (subscriptTail e (.Slice lo hi none p2) v (.ref s3.heap.objs.size)) (EP X pins σ Q) X.xe { s3 with heap:=s3.heap.push { cls:=.type "slice",data:=.fields #[vl,vu,.none] } }
 exact tail_any (ops:=[.ref s3.heap.objs.size,v]) ht hT hg (by with_unfolding_all rfl)
noncomputable def cutV (xs:List V) (lo hi:Option Int):List V:=(xs.drop (HT.sIx xs.length 0 lo)).take (HT.sIx xs.length xs.length hi-HT.sIx xs.length 0 lo)
theorem cutV_length (xs:List V) (lo hi:Option Int):(cutV xs lo hi).length<=xs.length:=by
 unfold cutV
 rw [List.length_take,List.length_drop]
 omega
noncomputable def rSlT (K:PySem.W.Frag):V->Option Int->Option Int->Hp->VK->Prop:=fun x lo hi H Q=>∃ a xs,x=.ref a/\SqT K H a xs /\
 ¬ (HT.sIx xs.length 0 lo=0/\HT.sIx xs.length xs.length hi=xs.length)/\∀ p,H p=none->Q (.ref p) (upd H p (.tup (cutV xs lo hi)))
theorem sl_tup:SlR X (rSlT X.K):=by
 intro pins s σ H x v vl vu lo hi sl Q I rx hs pl pu h
 obtain ⟨a,xs,rfl,hx,hw,q⟩:=h
 cases rx
 obtain ⟨its,r,ht,hz⟩:=I.tuple hx
 have hlen:its.toArray.size=xs.length:=by rw [List.size_toArray];exact r.length.symm
 refine ⟨"tuple",_,PyProof.Rows.slot_tuple_getitem.lookup,ht.typeIs,?_⟩
 refine HT.getItem_tuple_cut ht hs pl pu (by rw [hlen];exact hw) ?_ (by rw [hlen];exact hz)
 rw [hlen]
 refine ⟨.ref s.heap.objs.size,_,I.laid (t':=s.toks) (o:=.tup (cutV xs lo hi)) (fun b ob q=>Heap.get?_push_of_some _ q) (Nat.le_refl _) ?_,rfl,q _ (I.hok.fresh (Nat.le_refl _))⟩
 exact ⟨Nat.le_trans (cutV_length xs lo hi) hz,_,(r.drop (HT.sIx xs.length 0 lo)).take (HT.sIx xs.length xs.length hi-HT.sIx xs.length 0 lo),IsTup.new _ _⟩
noncomputable def rCatT (K:PySem.W.Frag):R2:=fun x y H Q=>∃ a b xs ys,x=.ref a/\y=.ref b/\SqT K H a xs/\SqT K H b ys/\xs≠[]/\xs.length+ys.length<=sizeLine /\
 (ys=[]->Q (.ref a) H)/\(ys≠[]->∀ p,H p=none->Q (.ref p) (upd H p (.tup (xs++ys))))
theorem Vals.nil_iff {xs:List V} {us:List Value} (r:Vals xs us):us=[]↔xs=[]:=by
 cases r with
 | nil=>simp
 | cons _ _=>simp
theorem op_catT:OpR X (binaryOp .Add) (rCatT X.K):=by
 intro pins s σ H x y v u Q I rx ry h
 obtain ⟨a,b,xs,ys,rfl,rfl,ha,hb,hx,hz,q1,q2⟩:=h
 cases rx
 cases ry
 obtain ⟨its,r1,p1,_⟩:=I.tuple ha
 obtain ⟨its2,r2,p2,_⟩:=I.tuple hb
 refine HT.cat_tup p1 p2 (fun z=>hx (r1.nil_iff.mp z)) (fun z=>⟨.ref a,H,I,rfl,q1 (r2.nil_iff.mp z)⟩) (fun z=>?_) (by rw [<- r1.length,<- r2.length];exact hz)
 refine ⟨.ref s.heap.objs.size,_,I.laid (t':=s.toks) (o:=.tup (xs++ys)) (fun b ob q=>Heap.get?_push_of_some _ q) (Nat.le_refl _) ?_,rfl,q2 (fun w=>z (r2.nil_iff.mpr w)) _ (I.hok.fresh (Nat.le_refl _))⟩
 exact ⟨by rw [List.length_append];exact hz,_,r1.append r2,IsTup.new _ _⟩
end
end L2
namespace L2
open PySem PySem.Spec PyProof.Rows
noncomputable def ixN (n:Nat) (i:Int):Option Nat:=if 0<=i then (if i<n then some i.toNat else none) else if -(n:Int)<=i then some (i+n).toNat else none
noncomputable def atI {α:Type} (xs:List α) (i:Int):Option α:=(ixN xs.length i).bind fun j=>xs[j]?
theorem ixN_seq {n:Nat} {i:Int} {j:Nat} (h:ixN n i=some j):seqIndex? i n=some j/\j<n/\-(n:Int)<=i/\i<n:=by
 unfold ixN at h
 by_cases h0:0<=i
 ·rw [if_pos h0] at h
  by_cases h1:i<n
  ·rw [if_pos h1] at h
   have e:i.toNat=j:=Option.some.inj h
   exact ⟨by rw [seqIndex_of h0 h1,e],by omega,by omega,h1⟩
  ·rw [if_neg h1] at h;cases h
 ·rw [if_neg h0] at h
  by_cases h1:-(n:Int)<=i
  ·rw [if_pos h1] at h
   have e:(i+n).toNat=j:=Option.some.inj h
   exact ⟨by rw [seqIndex_neg (by omega) h1,e],by omega,h1,by omega⟩
  ·rw [if_neg h1] at h;cases h
theorem atI_get {α:Type} {xs:List α} {i:Int} {v:α} (h:atI xs i=some v):∃ j,seqIndex? i xs.length=some j/\xs[j]?=some v/\j<xs.length/\-(xs.length:Int)<=i/\i<xs.length:=by
 unfold atI at h
 cases e:ixN xs.length i with
 | none=>rw [e] at h;cases h
 | some j =>
  rw [e] at h
  obtain ⟨h1,h2,h3,h4⟩:=ixN_seq e
  exact ⟨j,h1,h,h2,h3,h4⟩
theorem atI_nat {α:Type} {xs:List α} {j:Nat} {v:α} (h:xs[j]?=some v):atI xs (j:Int)=some v:=by
 have hj:j<xs.length:=(List.getElem?_eq_some_iff.mp h).1
 have e:ixN xs.length (j:Int)=some j:=by
  unfold ixN
  rw [if_pos (by omega),if_pos (by omega)];simp
 unfold atI;rw [e];exact h
theorem atI_last {α:Type} (xs:List α) (v:α):atI (xs++[v]) (-1)=some v:=by
 have hl:(xs++[v]).length=xs.length+1:=by simp
 have e:ixN (xs++[v]).length (-1)=some xs.length:=by
  unfold ixN
  rw [hl,if_neg (by decide),if_pos (by omega)]
  congr 1
  omega
 unfold atI
 rw [e]
 show (xs++[v])[xs.length]?=some v
 simp
noncomputable def PlainIx (b:Expr):Prop:=∀ o i,subscripted b false o i=operate [o,i] (getItem o i)
noncomputable def IxR (X:Cx) (r:R2):Prop :=
 ∀ (value slice:Expr) (pins:List (Addr × Obj)) (s:Shared) (σ:St) (H:Hp) (x y:V) (v u:Value) (Q:VK),Inv X pins σ H s->RelV x v->RelV y u->r x y H Q ->
  subscripted slice false v u=operate [v,u] (getItem v u)->wpAny (model X.prog X.w) X.A (subscriptTail value slice v u) (EP X pins σ Q) X.xe s
noncomputable def MtR (X:Cx) (id:String) (r:V->List V->Hp->VK->Prop):Prop :=
 ∀ (pins:List (Addr × Obj)) (s:Shared) (σ:St) (H:Hp) (x:V) (xs:List V) (v:Value) (us:List Value) (Q:VK),Inv X pins σ H s->RelV x v->Vals xs us->r x xs H Q ->
  wpAny (model X.prog X.w) X.A (call (.builtin id) (v::us)) (EP X pins σ Q) X.xe s
section
variable {X:Cx} {a b:Expr} {ta tb:TE} {pos:Pos}
theorem IxR.or {r r':R2} (h:IxR X r) (h':IxR X r'):IxR X (fun x y H Q=>r x y H Q∨r' x y H Q):=by
 intro value slice pins s σ H x y v u Q I rx ry q hs
 rcases q with q | q
 ·exact h value slice pins s σ H x y v u Q I rx ry q hs
 ·exact h' value slice pins s σ H x y v u Q I rx ry q hs
theorem pe_ix {r:R2} (hr:IxR X r) (ha:PE X a ta) (hb:PE X b tb) (hs:PlainIx b):PE X (.Subscript a b pos) (tOp r ta tb):=by
 intro pins s σ H Q I h
 exact Subscript_ (binT ha hb I h fun v u s2 x y H2 I2 rx ry q=>hr a b pins s2 σ H2 x y v u Q I2 rx ry q (hs _ _))
noncomputable def rIxL (K:PySem.W.Frag):R2:=fun x y H Q=>∃ p xs i v,x=.ref p/\y=.int i/\SqL K H p xs/\atI xs i=some v/\Q v H
noncomputable def rIxT (K:PySem.W.Frag):R2:=fun x y H Q=>∃ p xs i v,x=.ref p/\y=.int i/\SqT K H p xs/\atI xs i=some v/\Q v H
noncomputable def rIxS:R2:=fun x y H Q=>∃ z i c,x=.str z/\y=.int i/\z.length<=sizeLine/\atI z.cps.toList i=some c/\Q (.str ⟨#[c]⟩) H
theorem ix_list:IxR X (rIxL X.K):=by
 intro value slice pins s σ H x y v u Q I rx ry h hs
 obtain ⟨p,xs,i,z,rfl,rfl,hq,he,q⟩:=h
 cases rx
 obtain ⟨t,rfl⟩:=ry
 obtain ⟨its,r,pl,hz⟩:=I.list hq
 obtain ⟨j,h1,h2,h3,h4,h5⟩:=atI_get he
 obtain ⟨w,ew,rw'⟩:=r.get h2
 have hl:=r.length
 have hn:=line63
 have fin:EP X pins σ Q w s:=⟨z,H,I,rw',q⟩
 by_cases h0:0<=i
 ·have hj:i.toNat=j:=by
   rw [seqIndex_of h0 h5] at h1
   exact Option.some.inj h1
  exact item_listR pl.isList h0 (by omega) (by rw [hj];simpa using ew) fin hs
 ·have hj:(i+(its.toArray.size:Int)).toNat=j:=by
   rw [seqIndex_neg (by omega) h4] at h1
   rw [List.size_toArray,<- hl]
   exact Option.some.inj h1
  exact subscriptTail_builtinR (x:=w) pl.isList.typeIs slot_list_getitem.lookup
   (wpAny_getItem_list_neg (Q:=fun r s'=>r=w/\EP X pins σ Q r s') pl.isList (by omega) (by rw [List.size_toArray]<;>omega) (by omega) (by rw [hj];simpa using ew) ⟨rfl,fin⟩) hs
theorem ix_tup:IxR X (rIxT X.K):=by
 intro value slice pins s σ H x y v u Q I rx ry h hs
 obtain ⟨p,xs,i,z,rfl,rfl,hq,he,q⟩:=h
 cases rx
 obtain ⟨t,rfl⟩:=ry
 obtain ⟨its,r,pl,hz⟩:=I.tuple hq
 obtain ⟨j,h1,h2,h3,h4,h5⟩:=atI_get he
 obtain ⟨w,ew,rw'⟩:=r.get h2
 have hl:=r.length
 have hn:=line63
 have fin:EP X pins σ Q w s:=⟨z,H,I,rw',q⟩
 exact subscriptTail_builtinR (x:=w) pl.typeIs slot_tuple_getitem.lookup
  (getItem_tuple (j:=j) (Q:=fun r s'=>r=w/\EP X pins σ Q r s') pl (by omega) (by omega) (by rw [List.size_toArray,<- hl];exact h1) (by simpa using ew) ⟨rfl,fin⟩) hs
theorem ix_str:IxR X rIxS:=by
 intro value slice pins s σ H x y v u Q I rx ry h hs
 obtain ⟨z,i,c,rfl,rfl,hz,he,q⟩:=h
 obtain ⟨t,rfl⟩:=rx
 obtain ⟨t',rfl⟩:=ry
 obtain ⟨j,h1,h2,h3,h4,h5⟩:=atI_get he
 have hl:z.cps.toList.length=z.length:=by simp [Str.length]
 rw [hl] at h1 h4 h5
 have hn:=line63
 exact tail_any (typeIs_str s z t) slot_str_getitem.lookup (getItem_str (c:=c) (by
  have e1:decide (i < -(2 ^ 63:Int))=false:=decide_eq_false (by omega)
  have e2:decide (i ≥ 2 ^ 63)=false:=decide_eq_false (by omega)
  rw [e1,e2,Bool.or_false]) (by rw [h1];simpa using h2) ⟨.str ⟨#[c]⟩,H,I.tok _,⟨_,rfl⟩,q⟩) hs
theorem slice_bounds (lo hi:Option Int) (n:Nat):(sliceBounds lo hi none n).1=((HT.sIx n 0 lo:Nat):Int)/\(sliceBounds lo hi none n).2.1=((HT.sIx n n hi:Nat):Int)/\(sliceBounds lo hi none n).2.2=1:=by
 refine ⟨?_,?_,rfl⟩
 ·cases lo with
  | none=>simp [sliceBounds,HT.sIx]
  | some i =>
   simp only [sliceBounds,HT.sIx,Option.getD_none,show (1:Int)>0 by decide,if_true]
   by_cases h:i<0
   ·simp only [h,if_true]<;>omega
   ·simp only [h,if_false]<;>omega
 ·cases hi with
  | none=>simp [sliceBounds,HT.sIx]
  | some i =>
   simp only [sliceBounds,HT.sIx,Option.getD_none,show (1:Int)>0 by decide,if_true]
   by_cases h:i<0
   ·simp only [h,if_true]<;>omega
   ·simp only [h,if_false]<;>omega
theorem slicePick_cut (its:List Value) (lo hi:Option Int):slicePick its.toArray lo hi none=((its.drop (HT.sIx its.length 0 lo)).take (HT.sIx its.length its.length hi-HT.sIx its.length 0 lo)).toArray:=by
 obtain ⟨h1,h2,h3⟩:=slice_bounds lo hi its.toArray.size
 unfold slicePick
 rw [h1,h2,h3]
 simp only [sliceRange_one,pick_run,List.size_toArray]<;>rfl
noncomputable def rSlL (K:PySem.W.Frag):V->Option Int->Option Int->Hp->VK->Prop:=fun x lo hi H Q=>∃ a xs,x=.ref a/\SqL K H a xs/\∀ p,H p=none->Q (.ref p) (upd H p (.lst (cutV xs lo hi)))
theorem sl_list:SlR X (rSlL X.K):=by
 intro pins s σ H x v vl vu lo hi sl Q I rx hs pl pu h
 obtain ⟨a,xs,rfl,hx,q⟩:=h
 cases rx
 obtain ⟨its,r,ht,hz⟩:=I.list hx
 have hlen:=r.length
 refine ⟨"list",_,slot_list_getitem.lookup,ht.isList.typeIs,?_⟩
 refine wpAny_getItem_list_slice ht.isList hs pl pu .none (by simp) ?_ (by rw [List.size_toArray]<;>omega)
 rw [slicePick_cut,<- hlen]
 refine ⟨.ref s.heap.objs.size,_,I.laid (t':=s.toks) (o:=.lst (cutV xs lo hi)) (fun b ob q=>Heap.get?_push_of_some _ q) (Nat.le_refl _) ?_,rfl,q _ (I.hok.fresh (Nat.le_refl _))⟩
 exact ⟨Nat.le_trans (cutV_length xs lo hi) hz,_,0,(r.drop (HT.sIx xs.length 0 lo)).take (HT.sIx xs.length xs.length hi-HT.sIx xs.length 0 lo),Heap.get?_push_size _ rfl⟩
noncomputable def flatV:V->Bool
 | .non=>true
 | .bl _=>true
 | .int _=>true
 | .str _=>true
 | _=>false
noncomputable def eqV:V->V->Bool
 | .non,.non=>true
 | .bl a,.bl b=>a == b
 | .bl a,.int b=>(if a then 1 else 0) == b
 | .int a,.bl b=>a == (if b then 1 else 0)
 | .int a,.int b=>a == b
 | .str a,.str b=>a == b
 | _,_=>false
theorem eqAt_V {A:Around} {s:Shared} {y x:V} {u v:Value} (ry:RelV y u) (rx:RelV x v) (fy:flatV y=true) (fx:flatV x=true):SeqAt.EqAt A s u v (eqV y x):=by
 cases y with
 | non =>
  cases ry
  cases x with
  | non=>cases rx;exact SeqAt.EqAt.same _
  | bl b=>cases rx;exact SeqAt.EqAt.none_bool b
  | int b=>obtain ⟨t,rfl⟩:=rx;exact SeqAt.EqAt.none_int b t
  | str b=>obtain ⟨t,rfl⟩:=rx;exact SeqAt.EqAt.none_str b t
  | _=>exact absurd (show false=true from fx) Bool.false_ne_true
 | bl a =>
  cases ry
  cases x with
  | non=>cases rx;exact SeqAt.EqAt.bool_none a
  | bl b=>cases rx;exact SeqAt.EqAt.bool_bool a b
  | int b=>obtain ⟨t,rfl⟩:=rx;exact SeqAt.EqAt.bool_int a b t
  | str b=>obtain ⟨t,rfl⟩:=rx;exact SeqAt.EqAt.bool_str a b t
  | _=>exact absurd (show false=true from fx) Bool.false_ne_true
 | int a =>
  obtain ⟨t',rfl⟩:=ry
  cases x with
  | non=>cases rx;exact SeqAt.EqAt.int_none a t'
  | bl b=>cases rx;exact SeqAt.EqAt.int_bool a t' b
  | int b=>obtain ⟨t,rfl⟩:=rx;exact SeqAt.EqAt.int_int a t' b t
  | str b=>obtain ⟨t,rfl⟩:=rx;exact SeqAt.EqAt.int_str a t' b t
  | _=>exact absurd (show false=true from fx) Bool.false_ne_true
 | str a =>
  obtain ⟨t',rfl⟩:=ry
  cases x with
  | non=>cases rx;exact SeqAt.EqAt.str_none a t'
  | bl b=>cases rx;exact SeqAt.EqAt.str_bool a t' b
  | int b=>obtain ⟨t,rfl⟩:=rx;exact SeqAt.EqAt.str_int a t' b t
  | str b=>obtain ⟨t,rfl⟩:=rx;exact SeqAt.EqAt.str_str a t' b t
  | _=>exact absurd (show false=true from fx) Bool.false_ne_true
 | _=>exact absurd (show false=true from fy) Bool.false_ne_true
noncomputable def eqU (x:V) (u:Value):Bool:=match u with
 | .none=>eqV .non x
 | .bool b=>eqV (.bl b) x
 | .int i _=>eqV (.int i) x
 | .str z _=>eqV (.str z) x
 | _=>false
theorem eqU_of {x y:V} {u:Value} (r:RelV y u) (f:flatV y=true):eqU x u=eqV y x:=by
 cases y with
 | non=>cases r;rfl
 | bl b=>cases r;rfl
 | int i=>obtain ⟨t,rfl⟩:=r;rfl
 | str z=>obtain ⟨t,rfl⟩:=r;rfl
 | _=>exact absurd (show false=true from f) Bool.false_ne_true
theorem any_eqU {x:V}:∀ {xs:List V} {us:List Value},Vals xs us->xs.all flatV=true->us.any (eqU x)=xs.any fun y=>eqV y x
 | _,_,.nil,_=>rfl
 | y::xs,u::us,.cons r t,f=>by
  rw [List.all_cons,Bool.and_eq_true] at f
  rw [List.any_cons,List.any_cons,eqU_of r f.1,any_eqU t f.2]
theorem mem_eqAt {A:Around} {s:Shared} {x:V} {v:Value} (rx:RelV x v) (fx:flatV x=true):∀ {xs:List V} {us:List Value},Vals xs us->xs.all flatV=true->∀ u∈us,SeqAt.EqAt A s u v (eqU x u)
 | _,_,.nil,_=>fun u hu=>by cases hu
 | y::xs,u::us,.cons r t,f=>fun u' hu=>by
  rw [List.all_cons,Bool.and_eq_true] at f
  rcases List.mem_cons.mp hu with rfl | hu
  ·rw [eqU_of r f.1];exact eqAt_V r rx f.1 fx
  ·exact mem_eqAt rx fx t f.2 u' hu
noncomputable def inV (x:V) (xs:List V):Bool:=xs.any fun y=>eqV y x
noncomputable def rIn (K:PySem.W.Frag) (neg:Bool):R2:=fun x y H Q=>∃ p xs,y=.ref p/\(SqL K H p xs∨SqT K H p xs)/\flatV x=true/\xs.all flatV=true/\Q (.bl (if neg then !inV x xs else inV x xs)) H
theorem op_in_seq:OpR X (compareOp .In) (rIn X.K false):=by
 intro pins s σ H x y v u Q I rx ry h
 obtain ⟨p,xs,rfl,hq,fx,fs,q⟩:=h
 cases ry
 rcases hq with hq | hq
 ·obtain ⟨its,r,pl,hz⟩:=I.list hq
  refine SeqAt.in_listAt (eqU x) pl.isList (fun w hw=>mem_eqAt rx fx r fs w (by simpa using hw)) ⟨.bl _,H,I,rfl,?_⟩
  rw [show its.toArray.any (eqU x)=its.any (eqU x) by simp,any_eqU r fs]
  exact q
 ·obtain ⟨its,r,pl,hz⟩:=I.tuple hq
  refine SeqAt.in_tupleAt (eqU x) pl (fun w hw=>mem_eqAt rx fx r fs w (by simpa using hw)) ⟨.bl _,H,I,rfl,?_⟩
  rw [show its.toArray.any (eqU x)=its.any (eqU x) by simp,any_eqU r fs]
  exact q
theorem op_notIn_seq:OpR X (compareOp .NotIn) (rIn X.K true):=by
 intro pins s σ H x y v u Q I rx ry h
 obtain ⟨p,xs,rfl,hq,fx,fs,q⟩:=h
 cases ry
 rcases hq with hq | hq
 ·obtain ⟨its,r,pl,hz⟩:=I.list hq
  refine SeqAt.notIn_listAt (eqU x) pl.isList (fun w hw=>mem_eqAt rx fx r fs w (by simpa using hw)) ⟨.bl _,H,I,rfl,?_⟩
  rw [show its.toArray.any (eqU x)=its.any (eqU x) by simp,any_eqU r fs]
  exact q
 ·obtain ⟨its,r,pl,hz⟩:=I.tuple hq
  refine SeqAt.notIn_tupleAt (eqU x) pl (fun w hw=>mem_eqAt rx fx r fs w (by simpa using hw)) ⟨.bl _,H,I,rfl,?_⟩
  rw [show its.toArray.any (eqU x)=its.any (eqU x) by simp,any_eqU r fs]
  exact q
theorem call_len_seq:CallR X (.builtin "len") (fun xs H Q=>∃ p ys,xs=[.ref p]/\(SqL X.K H p ys∨SqT X.K H p ys)/\Q (.int ys.length) H):=by
 intro pins s σ H xs us Q I r h
 obtain ⟨p,ys,rfl,hq,q⟩:=h
 obtain ⟨u,rfl,rx⟩:=vals1 r
 cases rx
 have hn:=line63
 rcases hq with hq | hq
 ·obtain ⟨its,r',pl,hz⟩:=I.list hq
  have hlen:=r'.length
  exact Calls.call_len_list pl.isList (by simp only [List.size_toArray]<;>omega) ⟨.int ys.length,H,I.tok _,⟨s.toks+1,by rw [List.size_toArray,hlen]⟩,q⟩
 ·obtain ⟨its,r',pl,hz⟩:=I.tuple hq
  have hlen:=r'.length
  exact len_tuple pl (by simp only [List.size_toArray]<;>omega) ⟨.int ys.length,H,I.tok _,⟨s.toks+1,by rw [List.size_toArray,hlen]⟩,q⟩
theorem call_len_str:CallR X (.builtin "len") (fun xs H Q=>∃ z,xs=[.str z]/\z.length<=sizeLine/\Q (.int z.length) H):=by
 intro pins s σ H xs us Q I r h
 obtain ⟨z,rfl,hz,q⟩:=h
 obtain ⟨u,rfl,t,rfl⟩:=vals1 r
 have hn:=line63
 exact len_str (by omega) ⟨.int z.length,H,I.tok _,⟨_,rfl⟩,q⟩
theorem call_list_of:CallR X (.type "list") (fun xs H Q=>∃ p ys,xs=[.ref p]/\(SqL X.K H p ys∨SqT X.K H p ys)/\∀ l,H l=none->Q (.ref l) (upd H l (.lst ys))):=by
 intro pins s σ H xs us Q I r h
 obtain ⟨p,ys,rfl,hq,q⟩:=h
 obtain ⟨u,rfl,rx⟩:=vals1 r
 cases rx
 have fin:∀ (its:List Value),Vals ys its->ys.length<=sizeLine->∀ (h':Heap) (c':Nat),(∀ b o',s.heap.get? b=some o'->h'.get? b=some o') ->
   h'.get? s.heap.objs.size=some { cls:=.type "list",dict:=none,data:=.seq its.toArray c',slots:=#[] }->EP X pins σ Q (.ref s.heap.objs.size) { s with heap:=h' }:=fun its r' hz h' c' kp e =>
  ⟨.ref s.heap.objs.size,_,I.laid (t':=s.toks) kp (Nat.le_refl _) (show ObjOk X.prog X.w _ h' _ (.lst ys) from ⟨hz,its,c',r',e⟩),rfl,q _ (I.hok.fresh (Nat.le_refl _))⟩
 rcases hq with hq | hq
 ·obtain ⟨its,r',pl,hz⟩:=I.list hq
  have hlen:=r'.length
  obtain ⟨o,ho,hc,n,hd⟩:=pl.isList
  exact call_list_seq p (.inl rfl) ho hc hd (fun h' c' kp e=>fin its r' hz h' c' kp e) (by simp only [List.size_toArray]<;>omega)
 ·obtain ⟨its,r',pl,hz⟩:=I.tuple hq
  have hlen:=r'.length
  obtain ⟨o,ho,hc,n,hd⟩:=pl
  exact call_list_seq p (.inr rfl) ho hc hd (fun h' c' kp e=>fin its r' hz h' c' kp e) (by simp only [List.size_toArray]<;>omega)
theorem call_tuple_of:CallR X (.type "tuple") (fun xs H Q=>∃ p ys,xs=[.ref p]/\((SqL X.K H p ys/\∀ l,H l=none->Q (.ref l) (upd H l (.tup ys)))∨(SqT X.K H p ys/\Q (.ref p) H))):=by
 intro pins s σ H xs us Q I r h
 obtain ⟨p,ys,rfl,h⟩:=h
 obtain ⟨u,rfl,rx⟩:=vals1 r
 cases rx
 rcases h with ⟨hq,q⟩ | ⟨hq,q⟩
 ·obtain ⟨its,r',pl,hz⟩:=I.list hq
  have hlen:=r'.length
  refine call_tuple_list pl.isList (fun h' kp=>?_) (by simp only [List.size_toArray]<;>omega)
  have I1:Inv X pins σ H { s with heap:=h' }:=I.kept (t':=s.toks) kp
  have I2:Inv X pins σ (upd H h'.objs.size (.tup ys)) { s with heap:=h'.push { cls:=.type "tuple",data:=.seq its.toArray } } :=
   I1.laid (t':=s.toks) (fun b o e=>Heap.get?_push_of_some _ e) (Nat.le_refl _) (show ObjOk X.prog X.w _ _ _ (.tup ys) from ⟨hz,its,r',IsTup.new _ _⟩)
  exact ⟨.ref h'.objs.size,_,I2,rfl,q _ (I1.hok.fresh (Nat.le_refl _))⟩
 ·obtain ⟨its,r',pl,hz⟩:=I.tuple hq
  exact call_tuple_same pl ⟨.ref p,H,I,rfl,q⟩
noncomputable def tyV (K:PySem.W.Frag) (T:String) (x:V) (H:Hp):Prop:=match x with
 | .str _=>T="str"
 | .int _=>T="int"
 | .ref p=>(T="list"/\∃ xs,SqL K H p xs)∨(T="tuple"/\∃ o,K.lookup p=some o/\o.cls=.type "tuple"/\o.dict=none) ∨
   (T="dict"/\((∃ kvs,H p=some (.dK kvs))∨∃ kvs,H p=some (.dT kvs)))∨(T="set"/\∃ S n,H p=some (.set S n))
 | _=>False
theorem tyV_is {pins:List (Addr × Obj)} {σ:St} {H:Hp} {s:Shared} {T:String} {x:V} {v:Value} (I:Inv X pins σ H s) (r:RelV x v) (ty:tyV X.K T x H) :
  s.TypeIs v T/\∀ a,v=.ref a->∃ ob,s.heap.get? a=some ob/\ob.dict=none:=by
 cases x with
 | str z =>
  obtain ⟨t,rfl⟩:=r
  cases (show T="str" from ty)
  exact ⟨typeIs_str s z t,fun _ e=>nomatch e⟩
 | int i =>
  obtain ⟨t,rfl⟩:=r
  cases (show T="int" from ty)
  exact ⟨typeIs_int s i t,fun _ e=>nomatch e⟩
 | ref p =>
  cases r
  rcases ty with ⟨rfl,xs,hq⟩ | ⟨rfl,o,hk,hc,hd⟩ | ⟨rfl,hk⟩ | ⟨rfl,S,n,hk⟩
  ·obtain ⟨its,_,pl,_⟩:=I.list hq
   refine ⟨pl.isList.typeIs,fun a e=>?_⟩
   cases e
   obtain ⟨o,n,e,c,hd,_⟩:=pl
   exact ⟨o,e,hd⟩
  ·refine ⟨⟨o,I.kIn p o hk,hc⟩,fun a e=>?_⟩
   cases e
   exact ⟨o,I.kIn _ o hk,hd⟩
  ·have z:∃ o,s.heap.get? p=some o/\o.ExactDict:=by
    rcases hk with ⟨kvs,hk⟩ | ⟨kvs,hk⟩
    ·obtain ⟨_,_,_,_,o,_,_,e,ex,_⟩:=I.hok p _ hk
     exact ⟨o,e,ex⟩
    ·obtain ⟨_,_,_,_,o,_,_,e,ex,_⟩:=I.hok p _ hk
     exact ⟨o,e,ex⟩
   obtain ⟨o,e,ex⟩:=z
   refine ⟨⟨o,e,ex.1⟩,fun a e2=>?_⟩
   cases e2
   exact ⟨o,e,ex.2.1⟩
  ·obtain ⟨o,_,_,_,e,ex,_⟩:=I.hok p _ hk
   refine ⟨⟨o,e,ex.1⟩,fun a e2=>?_⟩
   cases e2
   exact ⟨o,e,ex.2.1⟩
 | _=>exact False.elim ty
noncomputable def tBM0 (K:PySem.W.Frag) (T:String) (r:V->List V->Hp->VK->Prop) (to:TE):TE:=fun σ H Q=>to σ H fun x H1=>tyV K T x H1/\r x [] H1 Q
noncomputable def tBM (K:PySem.W.Frag) (T:String) (r:V->List V->Hp->VK->Prop) (to:TE) (t:TA):TE:=fun σ H Q=>to σ H fun x H1=>tyV K T x H1/\t σ H1 fun xs H2=>r x xs H2 Q
variable {o e:Expr} {es:List Expr} {to:TE} {t:TA} {name:Str} {apos cpos:Pos} {T id:String} {r:V->List V->Hp->VK->Prop}
theorem pe_bm0 (pa:PlainAttrs T) (slot:Slot T name id) (hty:typeOf (.builtin id)=pure (.type "method_descriptor")) (hm:MtR X id r) (ho:PE X o to)
  (hbase:attributeBase o name X.env (eval o X.env)=eval o X.env:=by rfl) (hline:(apos.endLine == cpos.line)=true:=by rfl):PE X (.Call (.Attribute o name apos) [] [] cpos) (tBM0 X.K T r to):=by
 intro pins s σ H Q I h
 refine wpAny_Call_method0_late hbase hline (thn (ho pins s σ H _ I h) fun v s1 hsl39=>?_)
 obtain ⟨x,H1,I1,r1,ty,q1⟩:=hsl39
 obtain ⟨h1,h2⟩:=tyV_is I1 r1 ty
 exact ⟨T,id,pa,slot,hty,h1,h2,Calls.callWith_builtin rfl (PySem.evalArgs_none (hm pins s1 σ H1 x [] v [] Q I1 r1 .nil q1))⟩
theorem pe_bm (pa:PlainAttrs T) (slot:Slot T name id) (hty:typeOf (.builtin id)=pure (.type "method_descriptor")) (hm:MtR X id r) (ho:PE X o to) (ha:PA X (e::es) t)
  (hbase:attributeBase o name X.env (eval o X.env)=eval o X.env:=by rfl)
  (hfew:((backTo cpos (starEach (e::es) X.env)).all (fun x=>!x.1)&&(backToKw cpos (keywordEach [] X.env)).all (fun x=>x.1.isSome)
   && decide ((e::es).length+([]:List Keyword).length+(if ([]:List Keyword).isEmpty then 0 else 1)<30))=true:=by rfl)
  (hline:(apos.endLine == cpos.line)=true:=by rfl) (hs:starEach (e::es) X.env=(false,eval e X.env)::starEach es X.env:=by rfl) (hplain:(backTo cpos (starEach es X.env)).any (·.1)=false:=by rfl) :
  PE X (.Call (.Attribute o name apos) (e::es) [] cpos) (tBM X.K T r to t):=by
 intro pins s σ H Q I h
 refine wpAny_Call_method_late hbase hfew hline rfl (thn (ho pins s σ H _ I h) fun v s1 hsl40=>?_)
 obtain ⟨x,H1,I1,r1,ty,q1⟩:=hsl40
 obtain ⟨h1,h2⟩:=tyV_is I1 r1 ty
 refine ⟨T,id,pa,slot,hty,h1,h2,?_⟩
 have hA:=ha cpos pins s1 σ H1 _ I1 q1
 rw [hs] at hA ⊢
 refine Calls.callWith_builtin (by show (false||(backTo cpos (starEach es X.env)).any (·.1))=false;rw [hplain]<;>rfl) (Calls.evalArgs_plain ?_)
 exact thn hA fun us s2 hsl41=>by obtain ⟨vs,H2,I2,r2,q2⟩:=hsl41;exact hm pins s2 σ H2 x vs v us Q I2 r1 r2 q2
end
end L2
namespace L2
open PySem PySem.Spec PyProof.Rows
noncomputable def MtM (X:Cx) (id:String) (r:V->List V->Hp->VK->Prop):Prop :=
 ∀ (pins:List (Addr × Obj)) (s:Shared) (σ:St) (H:Hp) (x:V) (xs:List V) (v:Value) (us:List Value) (Q:VK),Inv X pins σ H s->RelV x v->Vals xs us->r x xs H Q ->
  wpAny (model X.prog X.w) X.A (call (.builtin id) (v::us)) (EP X pins σ Q) X.xe s
theorem Vals.one:∀ {x:V} {us:List Value},Vals [x] us->∃ u,us=[u]/\RelV x u
 | _,_,.cons r .nil=>⟨_,rfl,r⟩
section
variable {X:Cx} {pins:List (Addr × Obj)} {σ:St} {H:Hp} {s:Shared} {l b:Addr} {xs ys zs:List V}
theorem Inv.lset {its its':List Value} {n:Nat} {f:Array Value->Array Value} {t':Nat} (I:Inv X pins σ H s) (hH:H l=some (.lst xs))
  (e:s.heap.get? l=some { cls:=.type "list",data:=.seq its.toArray n }) (hf:f its.toArray=its'.toArray) (hv:Vals ys its') (hz:ys.length<=sizeLine) :
  Inv X pins σ (upd H l (.lst ys)) { s with heap:=s.heap.update l (Obj.mapSeq f),toks:=t' }:=by
 have q:=PySem.IsL.update e f
 rw [hf] at q
 refine I.write (x:=l) (e:=l) (by rw [hH];exact trivial) (.inl rfl) (fun b' u hb hu=>(Heap.get?_update_other s.heap (Obj.mapSeq f) (Ne.symm hb)).trans hu) ⟨_,q⟩ ?_
 exact ⟨hz,its',_,hv,q⟩
theorem Inv.lnew {its:List Value} {t':Nat} (I:Inv X pins σ H s) (hv:Vals ys its) (hz:ys.length<=sizeLine) :
  Inv X pins σ (upd H s.heap.objs.size (.lst ys)) { s with heap:=s.heap.push { cls:=.type "list",data:=.seq its.toArray },toks:=t' } :=
 I.laid (fun _ _ q=>Heap.get?_push_of_some _ q) (Nat.le_refl _) ⟨hz,its,0,hv,Heap.get?_push_size _ rfl⟩
theorem Inv.fresh (I:Inv X pins σ H s):H s.heap.objs.size=none:=I.hok.fresh (Nat.le_refl _)
theorem Inv.lstM (I:Inv X pins σ H s) (hH:H l=some (.lst xs)):xs.length<=sizeLine/\∃ (its:List Value) (n:Nat),Vals xs its/\xs.length=its.length/\s.heap.get? l=some { cls:=.type "list",data:=.seq its.toArray n }:=by
 obtain ⟨z,its,n,r,e⟩:=I.hok l _ hH
 exact ⟨z,its,n,r,r.length,e⟩
end
section
variable {X:Cx}
noncomputable def rAppend:V->List V->Hp->VK->Prop:=fun x vs H Q=>∃ l xs y,x=.ref l/\vs=[y]/\H l=some (.lst xs)/\xs.length<sizeLine/\Q .non (upd H l (.lst (xs++[y])))
theorem mt_append:MtM X "list.append" rAppend:=by
 intro pins s σ H x vs v us Q I rx rv h
 obtain ⟨l,xs,y,rfl,rfl,hH,hz,q⟩:=h
 cases rx
 obtain ⟨u,rfl,ru⟩:=rv.one
 obtain ⟨z,its,n,r,hl,e⟩:=I.lstM hH
 refine call_meets F.slot_list_append ⟨_,e,rfl⟩ F.entry_list_append (F.args_list_append_2 _ _) (PySem.list_append l its.toArray n u (by rw [List.size_toArray];omega)) ⟨e,?_⟩
 refine ⟨.non,_,I.lset (its':=its++[u]) hH e (by simp) (r.append (.cons ru .nil)) ?_,rfl,q⟩
 rw [List.length_append,List.length_singleton]
 omega
noncomputable def rCat:R2:=fun x y H Q=>∃ l b xs zs,x=.ref l/\y=.ref b/\H l=some (.lst xs)/\H b=some (.lst zs)/\xs.length+zs.length<=sizeLine/\∀ p,H p=none->Q (.ref p) (upd H p (.lst (xs++zs)))
theorem op_cat:OpR X (binaryOp .Add) rCat:=by
 intro pins s σ H x y v u Q I rx ry h
 obtain ⟨l,b,xs,zs,rfl,rfl,hH,hB,hz,q⟩:=h
 cases rx
 cases ry
 obtain ⟨z,its,n,r,hl,e⟩:=I.lstM hH
 obtain ⟨z2,its2,n2,r2,hl2,e2⟩:=I.lstM hB
 refine PySem.P.add_list e e2 ?_ (by rw [List.size_toArray,List.size_toArray];omega)
 have ea:its.toArray++its2.toArray=(its++its2).toArray:=by simp
 rw [ea]
 exact ⟨.ref _,_,I.lnew (t':=s.toks) (r.append r2) (by rw [List.length_append];omega),rfl,q _ I.fresh⟩
end
section
variable {prog:Program} {w:World} {A:Around} {E:Value->Shared->Prop} {s:Shared}
end
section
variable {X:Cx}
end
end L2
namespace Att
open PySem PySem.W PySem.Calls PyProof.Rows
theorem ints_of_wellAll {P:Params} {h:Heap}:∀ (ns:List Int) (vs:List Value),WellAll P h vs (ns.map WData.int)->IntsAre vs ns:=by
 intro ns
 induction ns with
 | nil =>
  intro vs w
  rw [List.map_nil] at w
  cases w
  exact .nil
 | cons n ns ih =>
  intro vs w
  rw [List.map_cons] at w
  cases w with
  | cons a b =>
   cases a
   exact .cons _ _ (ih _ b)
theorem script_of {l:OpenLaw} {n:Nat} (hn:l.most=some n) {P:Params} {h:Heap} {args:List WData} {vals:List Value}
  (hpre:l.row.toRowW.claim.pre args=true) (hwl:WellAll P h vals args) :
  ∃ a vs ns,vals=[Value.ref a]/\args=[WData.list (ns.map WData.int)]/\h.get? a=some { cls:=.type "list",data:=.seq vs.toArray }/\IntsAre vs ns/\ns.length<=n:=by
 have hsh:WShape.hasAll [] args [.list .int]=true:=(pre_splitW hpre).1
 have hc:l.pre.holds [] { args:=args }=true:=(pre_splitW hpre).2
 obtain ⟨d,r,rfl,h1,h2⟩:=hasAllW_cons hsh
 obtain rfl:=hasAllW_nil h2
 obtain ⟨xs,rfl,h3⟩:=hasW_list h1
 obtain ⟨ns,rfl⟩:=items_int h3
 have hlen:ns.length<=n:=by
  unfold OpenLaw.pre at hc
  have h4:(WTm.not (.lt (.lit (.int (n:Int))) (.len (.arg 0)))).holds [] { args:=[.list (ns.map .int)] }=true:=by
   have h4:=(holds_andW hc).1
   rw [hn] at h4
   exact h4
  have h5:=condW_of h4 (w_not (w_lt w_lit (w_len_list (w_arg rfl))))
  rw [List.length_map] at h5
  refine Nat.le_of_not_lt fun q=>?_
  have q':(n:Int)<((ns.length:Nat):Int):=by omega
  first
   | (rw [decide_eq_true q'] at h5;exact absurd h5 (by decide))
   | (simp at h5;omega)
 cases hwl with
 | cons w1 w2 =>
  cases w2
  cases w1 with
  | list ho hall=>exact ⟨_,_,ns,rfl,rfl,ho,ints_of_wellAll ns _ hall,hlen⟩
theorem post_true (l:OpenLaw) (args:List WData):l.row.toRowW.claim.post args (.bool true) args=true :=
 postW_of (r:=l.row.toRowW) (X:=(true == true))
  (show WShape.has [] (.bool true) .bool=true by first | rfl | decide | simp [WShape.has,WShape.arms,WShape.armsAll])
  (show (WTm.eq .res (.lit (.bool true))).value [] { args:=args,res:=some (.bool true),after:=args }=some (.bool (true == true)) from w_eq_bool (w_res rfl) w_lit) rfl
theorem attach_call {l:OpenLaw} {n:Nat} {q:Program} {loose:List Str} {XP:(Str->Option Value)->Heap->Prop} {YP:World->Heap->Prop} {d:DefRec}
  (hn:l.most=some n) (hdf:d.params.defaults=[])
  (call:∀ (w:World) (s₀ s₁:Shared) (mg mb:Str->Option Value) (fa:Addr) (o:Obj) (pm cd doc:Value) (a:Addr) (vs:List Value) (ns:List Int),
   Ground q loose [] XP w s₀ mg mb s₁.heap->YP w s₁.heap ->
   s₁.heap.get? fa=some o->o.data=.func (docDef d.name d.params d.body d.scope pm cd doc)->s₁.heap.CodeRec cd d.name->mg d.name=some (.ref fa) ->
   s₁.heap.get? a=some { cls:=.type "list",data:=.seq vs.toArray }->IntsAre vs ns->ns.length<=n->s₁.gens=#[] ->
   codeAny (model l.prog w) callerA (.call (.ref fa) ⟨[.ref a],[]⟩) (fun r s'=>r=.ok (.ret (.bool true))/\OldK s₁.heap s'.heap/\s'.os=s₁.os/\AllBare s'.gens) s₁) :
  WalkO q loose XP YP l.row.toRowW d [] (fun f vs=>PySem.call f vs):=by
 intro w s₀ s₁ mg mb G Y fa o pm cd doc dV kV ho hd hcd hD hmg hg args vals as hpre hlay hrd hwl hlo
 obtain rfl:dV=.none:=Dflts.none hD hdf
 obtain rfl:kV=.none:=Dflts.noKw hD
 obtain ⟨a,vs,ns,rfl,rfl,hobj,hints,hlen⟩:=script_of hn hpre hwl
 refine enter_call (codeAny_mono (call w s₀ s₁ mg mb fa o pm cd doc a vs ns G Y ho (fd_plain hd) hcd hmg hobj hints hlen hg) fun r s' hq=>?_)
 obtain ⟨rfl,h2,h3,h4⟩:=hq
 exact ⟨.inl ⟨.bool true,.bool true,[],rfl,fun _=>rfl,.bool true,post_true l _,fun _=>⟨List.Pairwise.nil,fun _ hm=>(nomatch hm)⟩⟩,h2,h3,h4⟩
section
variable {prog:Program} {w:World} {A:Around} {E:Value->Shared->Prop} {s:Shared} {K:Frag}
end
end Att
namespace L2
open PySem PySem.Spec PyProof.Rows
theorem vals_ints:∀ {vs:List Value} {ns:List Int},IntsAre vs ns->Vals (ns.map V.int) vs
 | _,_,.nil=>.nil
 | _,_,.cons n t h=>.cons ⟨t,rfl⟩ (vals_ints h)
noncomputable def Only (H:Hp):Prop:=∀ b,H b=none∨∃ o xs,H b=some (.frz o (.lst xs))
theorem law_call {P:Program} {w:World} {K:PySem.W.Frag} {mg mb:Str->Option Value} {CX:CXT} {k:Nat} {fa a:Addr} {fd:FuncData} {x:Str} {sp:Sp} {s₁:Shared} {vs:List Value} {ns:List Int}
  (KX:K.In s₁.heap) (hns:s₁.heap.Ns mainGlobals mg) (hb:s₁.heap.Ns builtinsNs mb) (hbb:∀ x:Str,x≠"__name__"->mb x=bootBuiltins x) (hlim:s₁.heap.NoLimit) (hg:s₁.gens=#[])
  (ha:s₁.heap.get? a=some { cls:=.type "list",data:=.seq vs.toArray }) (hi:IntsAre vs ns) (hl:ns.length<=sizeLine) (hr:Room k callerA)
  (F:∀ base:Heap,K.In base->base.Ns mainGlobals mg->FnOk P w K mg base CX k fa fd [x] sp) (hbind:∀ (s:Shared) (u:Value),BindsTo s fd ⟨[u],[]⟩ [(x,u)])
  (hsp:∀ H:Hp,Only H->SqL K H a (ns.map V.int)->sp [.ref a] H (fun v _=>v=.bl true) fun _ _ _=>False)
  (hCX:∀ H e s',CX [] H s₁ (fun _ _ _=>False) e s'->False) :
  codeAny (model P w) callerA (.call (.ref fa) ⟨[.ref a],[]⟩) (fun r s'=>r=.ok (.ret (.bool true))/\OldK s₁.heap s'.heap/\s'.os=s₁.os/\AllBare s'.gens) s₁:=by
 have rv:=vals_ints hi
 have lenV:=hi.length
 have core:∀ H:Hp,Only H->SqL K H a (ns.map V.int)->HOk P w H s₁.heap->(∀ b,H b≠none->b=a)->(H a≠none->K.lookup a=none) ->
   codeAny (model P w) callerA (.call (.ref fa) ⟨[.ref a],[]⟩) (fun r s'=>r=.ok (.ret (.bool true))/\OldK s₁.heap s'.heap/\s'.os=s₁.os/\AllBare s'.gens) s₁:=by
  intro H hO hS hok hA hK
  have base_of:∀ {b:Addr} {o:Obj},s₁.heap.get? b=some o->H b=none->(hidT s₁.heap H).get? b=some o:=fun e n=>hidT_get e n
  have noA:∀ {b:Addr} {o:Obj} {es:Array DictEntry} {ep:Nat},s₁.heap.get? b=some o->o.data=.dict es ep->H b=none:=fun {b o es ep} e d=>by
   cases q:H b with
   | none=>rfl
   | some u =>
    have e':b=a:=hA b (by rw [q];simp)
    subst e'
    rw [ha] at e;cases e
    have d':Data.seq vs.toArray _=Data.dict es ep:=d
    cases d'
  have nsK:∀ {b:Addr} {m:Str->Option Value},s₁.heap.Ns b m->(hidT s₁.heap H).Ns b m:=fun {b m} ⟨o,es,ep,e,d,r⟩=>⟨o,es,ep,base_of e (noA e d),d,r⟩
  have hKb:K.In (hidT s₁.heap H):=fun b o e=>base_of (KX b o e) (by
   cases q:H b with
   | none=>rfl
   | some u =>
    have e':b=a:=hA b (by rw [q];simp)
    subst e'
    rw [hK (by rw [q];simp)] at e;cases e)
  have hM:Mod K mg (hidT s₁.heap H):=⟨hKb,nsK hns,⟨mb,nsK hb,hbb⟩,by obtain ⟨mc,h1,h2⟩:=hlim;exact ⟨mc,nsK h1,h2⟩⟩
  have e0:Env0 P w K mg (hidT s₁.heap H) callerA [] s₁ H:=⟨rfl,hM,fun b o e=>of_hidT e,Nat.le_of_eq (hidT_size _ _),trivial,fun b hb=>absurd (show b∈([]:List Addr) from hb) (by simp),hok,.of_eq hg⟩
  refine codeAny_mono ((F _ hKb (nsK hns)).run callerA [] s₁ H ⟨[.ref a],[]⟩ [.ref a] [.ref a] _ _ hr e0 (hbind s₁ (.ref a)) (.cons rfl .nil) (hsp H hO hS)) fun r s' h=>?_
  cases r with
  | error e=>exact (hCX H e s' h).elim
  | ok fl =>
   cases fl with
   | next=>exact False.elim h
   | brk=>exact False.elim h
   | cont=>exact False.elim h
   | ret u =>
    obtain ⟨v,H',os,bare,un,hok',r',q⟩:=h
    have q':v=.bl true:=q
    subst q'
    obtain rfl:u=Value.bool true:=r'
    refine ⟨rfl,OldK.of_keep fun b o e=>?_,os,bare⟩
    cases q:H b with
    | none=>exact un.keep b o e q (by intro z;exact absurd (show b∈([]:List Addr) from z) (by simp)) (by simp)
    | some u =>
     rcases hO b with z | ⟨ob,xs,z⟩
     ·rw [q] at z;cases z
     ·have z2:=un.frzs b ob _ z
      obtain ⟨e1,_⟩:=hok b _ z
      obtain ⟨e2,_⟩:=hok' b _ z2
      rw [e] at e1;cases e1
      exact e2
 cases hk:K.lookup a with
 | some o =>
  have e:=KX a o hk
  rw [ha] at e
  cases e
  refine core (fun _=>none) (fun _=>.inl rfl) (.inr ⟨_,vs.toArray,_,hk,rfl,rfl,rfl,by rw [List.size_toArray,lenV];exact hl,by simpa using rv⟩) (fun b u z=>by have z':(none:Option HO)=some u:=z;cases z') (fun b z=>absurd rfl z) fun z=>absurd rfl z
 | none =>
  refine core (fun b=>if b=a then some (.frz { cls:=.type "list",data:=.seq vs.toArray } (.lst (ns.map V.int))) else none) (fun b=>?_) (.inl (.inr ⟨{ cls:=.type "list",data:=.seq vs.toArray },if_pos rfl⟩)) (fun b u z=>?_) (fun b z=>?_) fun _=>hk
  ·by_cases hb:b=a
   ·exact .inr ⟨_,_,if_pos hb⟩
   ·exact .inl (if_neg hb)
  ·by_cases hb:b=a
   ·have z':=(if_pos hb).symm.trans z
    cases z'
    subst hb
    exact ⟨ha,by rw [List.length_map];exact hl,vs,_,rv,ha⟩
   ·have z':=(if_neg hb).symm.trans z
    cases z'
  ·by_cases hb:b=a
   ·exact hb
   ·exact absurd (if_neg hb) z
end L2
namespace L2
open PySem PySem.Spec PyProof.Rows
theorem walk_of {l:PySem.W.OpenLaw} {n k:Nat} {q:Program} {loose:List Str} {XP:(Str->Option Value)->Heap->Prop} {YP:World->Heap->Prop} {d:DefRec} {K:Params->PySem.W.Frag} {CX:World->CXT} {sp:World->Sp} {x:Str}
  (hn:l.most=some n) (hn2:n<=sizeLine) (hdf:d.params.defaults=[]) (hr:Room k callerA)
  (hY:∀ (w:World) (h:Heap),YP w h->(K w.params).In h)
  (F:∀ (w:World) (mg:Str->Option Value) (fa:Addr) (h:Heap),(K w.params).In h->h.Ns mainGlobals mg->mg d.name=some (.ref fa) ->
   ∃ fd:FuncData,(∀ (s:Shared) (u:Value),BindsTo s fd ⟨[u],[]⟩ [(x,u)]) /\
    ∀ base:Heap,(K w.params).In base->base.Ns mainGlobals mg->FnOk l.prog w (K w.params) mg base (CX w) k fa fd [x] (sp w))
  (hsp:∀ (w:World) (H:Hp) (a:Addr) (ns:List Int),ns.length<=n->Only H->SqL (K w.params) H a (ns.map V.int)->sp w [.ref a] H (fun v _=>v=.bl true) fun _ _ _=>False)
  (hCX:∀ (w:World) (H:Hp) (s:Shared) (e:Value) (s':Shared),CX w [] H s (fun _ _ _=>False) e s'->False) :
  PySem.W.WalkO q loose XP YP l.row.toRowW d [] (fun f vs=>PySem.call f vs):=by
 refine Att.attach_call hn hdf fun w s₀ s₁ mg mb fa o pm cd doc a vs ns G Y ho hd hcd hmg hobj hints hlen hg=>?_
 have KX:=hY w _ Y
 obtain ⟨fd,hb,hF⟩:=F w mg fa _ KX G.T.g hmg
 exact law_call KX G.T.g G.T.b G.T.builtins G.T.nolimit hg hobj hints (Nat.le_trans hlen hn2) hr hF hb (fun H hO hS=>hsp w H a ns hlen hO hS) fun H e s'=>hCX w H s₁ e s'
end L2
namespace L2
open PySem PySem.Spec PyProof.Rows
noncomputable def inClass (s:Stmt) (j:Nat):Stmt:=match s with
 | .ClassDef _ _ _ body _ _ _ _ _ _ _=>body.getD j (.Pass ⟨0,0,0,0⟩)
 | _=>.Pass ⟨0,0,0,0⟩
noncomputable def defArgs (s:Stmt):Arguments:=match s with
 | .FunctionDef _ a _ _ _ _ _ _ _ _=>a
 | _=>{ posonlyargs:=[],args:=[],vararg:=none,kwonlyargs:=[],kw_defaults:=[],kwarg:=none,defaults:=[] }
noncomputable def defBody (s:Stmt):List Stmt:=match s with
 | .FunctionDef _ _ b _ _ _ _ _ _ _=>b
 | _=>[]
noncomputable def defScope (s:Stmt):Scope:=match s with
 | .FunctionDef _ _ _ _ _ _ sc _ _ _=>sc
 | _=>{ kind:=.function,names:=[],isGenerator:=false,isCoroutine:=false }
noncomputable abbrev CX0:CXT:=fun _ _ _ _ _ _=>False
noncomputable abbrev E0:XK:=fun _ _ _=>False
theorem pass0 {X:Cx}:Passes CX0 X E0:=fun _ _ _ _ _ _ _ h=>h.elim
structure Fun (K:PySem.W.Frag) (x qual:Str) (st:Stmt) (f:Addr) (fd:FuncData):Prop where
 ex:∃ (oc:Value) (od:Option Addr) (kV doc pm:Value) (an:Option Addr) (cdv ct:Value) (osl:Array (Option Value)),
  fd=PySem.W.fnOf x qual (defArgs st) (defBody st) (defScope st) .none kV doc pm an cdv ct/\K.lookup f=some ⟨oc,od,.func fd,osl⟩/\PySem.W.codeIn K cdv qual=true
 kp:PySem.W.keepIn K (.ref f)=true
section
variable {P:Program} {w:World} {K:PySem.W.Frag} {mg:Str->Option Value} {base:Heap}
theorem Fun.ok {x qual:Str} {st:Stmt} {f:Addr} {fd:FuncData} {N ps:List Str} {k:Nat} {sp:Sp} (F:Fun K x qual st f fd) (S:FnScope N ps (defScope st)) (len:∀ vs H Q E,sp vs H Q E->vs.length=ps.length)
  (hbody:∀ (cdv:Value) (A:Around) (outer:List Env) (s:Shared) (H:Hp) (vs:List V) (Q:VK) (E:XK),Room k (A.deeper (envOfC qual (defScope st) s.heap.objs.size f cdv))->sp vs H Q E ->
   ∃ t,PSs (cxOf CX0 P w K mg base N qual (defScope st) f cdv A outer s H E).nox (defBody st) t/\t { nx:=fun _ H'=>Q .non H',rt:=Q } (start N vs) H):FnOk P w K mg base CX0 (k+1) f fd ps sp:=by
 obtain ⟨oc,od,kV,doc,pm,an,cdv,ct,osl,rfl,lk,hcd⟩:=F.ex
 refine fn_of lk hcd S len fun A outer s H vs Q E hr hsp=>?_
 obtain ⟨t,h,q⟩:=hbody cdv A outer s H vs Q E hr hsp
 exact ⟨t,h.nox,q⟩
theorem Fun.binds {x qual:Str} {st:Stmt} {f:Addr} {fd:FuncData} {ps:List Str} (F:Fun K x qual st f fd)
  (h:∀ (kV doc pm:Value) (an:Option Addr) (cdv ct:Value) (us:List Value),us.length=ps.length->bindArgs (PySem.W.fnOf x qual (defArgs st) (defBody st) (defScope st) .none kV doc pm an cdv ct) ⟨us,[]⟩=pure (ps.zip us)):Binds K fd ps []:=by
 obtain ⟨oc,od,kV,doc,pm,an,cdv,ct,osl,rfl,lk,hcd⟩:=F.ex
 exact .all (h kV doc pm an cdv ct)
theorem fun_mk {x qual:Str} {st:Stmt} {f:Addr} {oc:Value} {od an:Option Addr} {osl:Array (Option Value)} {kV doc pm cdv ct:Value} (l:K.lookup f=some ⟨oc,od,.func (PySem.W.fnOf x qual (defArgs st) (defBody st) (defScope st) .none kV doc pm an cdv ct),osl⟩)
  (c:PySem.W.codeIn K cdv qual=true) (k:PySem.W.keepIn K (.ref f)=true):Fun K x qual st f (PySem.W.fnOf x qual (defArgs st) (defBody st) (defScope st) .none kV doc pm an cdv ct):=⟨⟨oc,od,kV,doc,pm,an,cdv,ct,osl,rfl,l,c⟩,k⟩
end
theorem small1000 {n:Nat} (h:n<=1000):n<sizeLine:=Nat.lt_of_le_of_lt h (by decide)
section
variable {X:Cx}
theorem pv (i:Nat) {x:Str} {pos:Pos} (hN:X.N[i]?=some x:=by rfl) (hv:Vis X.env.scope x:=by first | exact Or.inl rfl | exact Or.inr (Or.inl rfl) | exact Or.inr (Or.inr rfl)) (hd:(x == ("__debug__":Str))=false:=by decide)
  (hcd:(x == ("__classdict__":Str))=false:=by decide):PE X (.Name x pos) (tVar i):=pe_var hN hv hd hcd
end
theorem iteF {A B:Prop} (h:B):if false=true then A else B:=by
 rw [if_neg Bool.false_ne_true]
 exact h
theorem iteT {A B:Prop} (h:A):if true=true then A else B:=by
 rw [if_pos rfl]
 exact h
theorem ite2 {c A B:Prop} [Decidable c] (h1:c->A) (h2:¬ c->B):if c then A else B:=by
 by_cases h:c
 ·rw [if_pos h]
  exact h1 h
 ·rw [if_neg h]
  exact h2 h
noncomputable def Same (H H':Hp):Prop:=∀ b o,H b=some o->H' b=some o
theorem Same.refl (H:Hp):Same H H:=fun _ _ h=>h
theorem Same.trans {H H1 H2:Hp} (a:Same H H1) (b:Same H1 H2):Same H H2:=fun c o h=>b c o (a c o h)
theorem Same.free {H H':Hp} (e:Same H H') {l:Addr} (h:H' l=Option.none):H l=Option.none:=by
 cases q:H l with
 | none=>rfl
 | some o =>
  rw [e l o q] at h
  cases h
end L2
namespace L2
open PySem PySem.Spec PyProof.Rows
noncomputable abbrev cmpTests (ifs:List Expr) (env:Env):Sem Bool :=
 forIn ifs true fun c r=>if r=true then do let ok <- isTrue c env (eval c env);pure (ForInStep.yield ok) else pure (ForInStep.yield r)
noncomputable def clOf (cells:List (Str × Addr)):List (Str × NameKind)->List (Str × Addr)->List (Str × Addr)
 | [],acc=>acc
 | (n,k)::r,acc=>clOf cells r (if k == .free then (n,(cells.lookup n).getD 0)::acc else acc)
theorem clOf_eq {env:Env}:∀ (ns:List (Str × NameKind)) (acc:List (Str × Addr)),(∀ y∈ns,y.2=.free->∃ c,env.cells.lookup y.1=some c) ->
  (forIn ns acc fun (p:Str × NameKind) (cs:List (Str × Addr))=>(if p.2 == .free then (do let c <- cellOf env p.1;pure (ForInStep.yield ((p.1,c)::cs))) else pure (ForInStep.yield cs):Sem (ForInStep (List (Str × Addr)))))=(pure (clOf env.cells ns acc):Sem (List (Str × Addr)))
 | [],acc,_=>rfl
 | (n,k)::r,acc,h=>by
  rw [List.forIn_cons]
  by_cases hk:k=.free
  ·subst hk
   obtain ⟨c,hc⟩:=h (n,.free) List.mem_cons_self rfl
   have e1:cellOf env n=pure c:=by unfold cellOf;rw [show env.cells.lookup n=some c from hc]
   simp only [beq_self_eq_true,if_true,e1,clOf,hc,Option.getD_some]
   exact clOf_eq r ((n,c)::acc) fun y hy=>h y (List.mem_cons_of_mem _ hy)
  ·have hb:(k == NameKind.free)=false:=by simpa using hk
   simp only [hb,Bool.false_eq_true,if_false,clOf]
   exact clOf_eq r acc fun y hy=>h y (List.mem_cons_of_mem _ hy)
theorem closure_eq {env:Env} {sc:Scope} (h:∀ y∈sc.names,y.2=.free->∃ c,env.cells.lookup y.1=some c):closureFor sc env=pure (clOf env.cells sc.names []):=by
 unfold closureFor
 have q:=clOf_eq (env:=env) sc.names [] h
 have e:(forIn sc.names [] fun (p:Str × NameKind) (cs:List (Str × Addr))=>(match p with | (name,kind)=>if kind == .free then (do let c <- cellOf env name;pure (ForInStep.yield ((name,c)::cs))) else pure (ForInStep.yield cs):Sem (ForInStep (List (Str × Addr)))))=(pure (clOf env.cells sc.names []):Sem (List (Str × Addr))):=q
 simp only [e]
 rfl
theorem clOf_look {cells:List (Str × Addr)}:∀ (ns:List (Str × NameKind)) (acc:List (Str × Addr)),(∀ y∈ns,y.2=.free->∃ c,cells.lookup y.1=some c)->(∀ y c,acc.lookup y=some c->cells.lookup y=some c) ->
  (∀ y c,(clOf cells ns acc).lookup y=some c->cells.lookup y=some c)/\(∀ y,(acc.lookup y).isSome=true->((clOf cells ns acc).lookup y).isSome=true)/\(∀ y,(y,NameKind.free)∈ns->((clOf cells ns acc).lookup y).isSome=true)
 | [],acc,_,h2=>⟨h2,fun _ h=>h,fun _ h=>nomatch h⟩
 | (n,k)::r,acc,h1,h2=>by
  have h1':∀ y∈r,y.2=.free->∃ c,cells.lookup y.1=some c:=fun y hy=>h1 y (List.mem_cons_of_mem _ hy)
  by_cases hk:k=.free
  ·subst hk
   obtain ⟨c,hc⟩:=h1 (n,.free) List.mem_cons_self rfl
   have hc':cells.lookup n=some c:=hc
   have e:clOf cells ((n,.free)::r) acc=clOf cells r ((n,c)::acc):=by simp only [clOf,beq_self_eq_true,if_true,hc',Option.getD_some]
   have ih:=clOf_look (cells:=cells) r ((n,c)::acc) h1' (fun y d hy=>by
    rw [List.lookup_cons] at hy
    cases q:y == n with
    | true=>rw [q] at hy;cases hy;rw [eq_of_beq q];exact hc'
    | false=>rw [q] at hy;exact h2 y d hy)
   rw [e]
   refine ⟨ih.1,fun y hy=>ih.2.1 y ?_,fun y hy=>?_⟩
   ·rw [List.lookup_cons];split
    ·rfl
    ·exact hy
   ·rcases List.mem_cons.mp hy with z | z
    ·cases z;exact ih.2.1 n (by rw [List.lookup_cons];simp)
    ·exact ih.2.2 y z
  ·have hb:(k == NameKind.free)=false:=by simpa using hk
   have e:clOf cells ((n,k)::r) acc=clOf cells r acc:=by simp only [clOf,hb,Bool.false_eq_true,if_false]
   have ih:=clOf_look (cells:=cells) r acc h1' h2
   rw [e]
   refine ⟨ih.1,ih.2.1,fun y hy=>?_⟩
   rcases List.mem_cons.mp hy with z | z
   ·cases z;exact absurd rfl hk
   ·exact ih.2.2 y z
structure CompSc (scX sc:Scope) (NX:List Str) (x:Str) (fv:List Str) (js:List Nat):Prop where
 kind:sc.kind=.function
 kindX:scX.kind=.function
 cell:∀ y∈sc.names,y.2≠.cell
 own:sc.names.lookup x=some .local
 names:∀ y∈sc.names,y.2=.local->sc.names.lookup y.1=some .local
 free:∀ y∈sc.names,y.2=.free->scX.names.lookup y.1=some .cell
 nd:(x::fv).Nodup
 at':js.map (fun j=>NX[j]?)=fv.map some
 fr:∀ y∈fv,sc.names.lookup y=some .free
theorem relabel_free {env:Env} (hk:env.scope.kind=.function):∀ {ns:List (Str × NameKind)} {y:Str},ns.lookup y=some .free->env.kindOf y=some .cell ->
  (ns.map fun (n,k)=>if (k == NameKind.free&&env.scope.kind == .function&&env.kindOf n == some .cell) then (n,NameKind.cell) else (n,k)).lookup y=some .cell
 | [],_,h,_=>by simp at h
 | (n,k)::r,y,h,hc=>by
  have ih:=@relabel_free env hk r y
  show List.lookup y ((if (k == NameKind.free&&env.scope.kind == .function&&env.kindOf n == some .cell)=true then (n,NameKind.cell) else (n,k))::_)=_
  cases hx:y == n with
  | true =>
   simp only [List.lookup_cons,hx] at h
   cases h
   have e:y=n:=eq_of_beq hx
   subst e
   simp [List.lookup_cons,hc,hk]
  | false =>
   simp only [List.lookup_cons,hx] at h
   split<;>(simp only [List.lookup_cons,hx];exact ih h hc)
theorem relabel_back {env:Env}:∀ {ns:List (Str × NameKind)} {y:Str},(∀ z∈ns,z.2≠.cell) ->
  ((ns.map fun (n,k)=>if (k == NameKind.free&&env.scope.kind == .function&&env.kindOf n == some .cell) then (n,NameKind.cell) else (n,k)).lookup y=some .cell ∨
   (ns.map fun (n,k)=>if (k == NameKind.free&&env.scope.kind == .function&&env.kindOf n == some .cell) then (n,NameKind.cell) else (n,k)).lookup y=some .free)->(y,NameKind.free)∈ns
 | [],_,_,h=>by simp at h
 | (n,k)::r,y,hz,h=>by
  have ih:=@relabel_back env r y fun z hm=>hz z (List.mem_cons_of_mem _ hm)
  have hk:k≠.cell:=hz (n,k) List.mem_cons_self
  rw [List.map_cons] at h
  by_cases hc:(k == NameKind.free&&env.scope.kind == .function&&env.kindOf n == some .cell)=true
  ·have hf:k=.free:=by
    rw [Bool.and_eq_true,Bool.and_eq_true] at hc
    exact eq_of_beq hc.1.1
   simp only [hc,if_true,List.lookup_cons] at h
   cases hx:y == n with
   | true=>rw [eq_of_beq hx,hf];exact List.mem_cons_self
   | false=>rw [hx] at h;exact List.mem_cons_of_mem _ (ih h)
  ·rw [Bool.not_eq_true] at hc
   simp only [hc,Bool.false_eq_true,if_false,List.lookup_cons] at h
   cases hx:y == n with
   | true =>
    rw [hx] at h
    rcases h with h | h
    ·exact absurd (Option.some.inj h) hk
    ·have:k=.free:=Option.some.inj h
     rw [eq_of_beq hx,this];exact List.mem_cons_self
   | false=>rw [hx] at h;exact List.mem_cons_of_mem _ (ih h)
noncomputable def pick (js:List Nat) (σ:St):St:=js.map fun j=>(σ[j]?).getD none
noncomputable abbrev xc (X:Cx) (sc:Scope) (x:Str) (fv:List Str) (C:Addr) (s0:Shared) (H0:Hp) (ex:List Addr):Cx :=
 { X with N:=x::fv,s₀:=s0,H₀:=H0,env:=compEnvC sc (clOf X.env.cells sc.names []) C X.env,outer:=X.stack,ex:=ex,fn:=fun _=>false,pn:=[],xe:=fun _ _=>False }
noncomputable def PIf (X:Cx) (ifs:List Expr) (t:TT):Prop :=
 ∀ (pins:List (Addr × Obj)) (s:Shared) (σ:St) (H:Hp) (Q:Bool->Hp->Prop),Inv X pins σ H s->t σ H Q->wpAny (model X.prog X.w) X.A (cmpTests ifs X.env) (TP X pins σ Q) X.xe s
noncomputable def tYes:TT:=fun _ H Q=>Q true H
theorem tYes_ok {σ:St} {H:Hp} {Q:Bool->Hp->Prop} (h:Q true H):tYes σ H Q:=h
theorem pif_nil {X:Cx}:PIf X [] tYes:=fun _ _ _ H _ I h=>wpAny_tests_nil ⟨H,I,h⟩
theorem pif_one {X:Cx} {c:Expr} {t:TT} (hc:PT X c t):PIf X [c] t:=fun pins s σ H Q I h=>wpAny_tests_one (hc pins s σ H Q I h)
noncomputable def tCompB (J:It) (js:List Nat) (tt:TT) (te:TE):TE:=fun σ H1 Q=>∃ W:Nat->Nat->List V->Hp->Prop,(∃ m,W 0 m [] H1)/\∀ i m ys H,W i m ys H ->
 (J.stop i H/\∀ p,H p=none->Q (.ref p) (upd H p (.lst ys))) ∨
 (J.go i H/\∃ N:List V->Hp->Prop,(∀ ys' H',N ys' H'->∃ m',m'<m/\W (i+1) m' ys' H') /\
  ∀ x H',J.yld i H x H'->tt (some x::pick js σ) H' fun b H2=>if b=true then te (some x::pick js σ) H2 fun y H3=>ys.length<sizeLine/\N (ys++[y]) H3 else N ys H2)
noncomputable def tComp (wi:TI) (js:List Nat) (tt:TT) (te:TE):TE:=fun σ H Q=>wi σ H fun J H1=>tCompB J js tt te σ H1 Q
section
variable {X:Cx} {pins:List (Addr × Obj)} {σ:St} {H2:Hp} {s2:Shared} {elt iter:Expr} {x:Str} {px:Pos} {ifs:List Expr} {sc scX:Scope} {pos:Pos} {fv:List Str} {js:List Nat} {tt:TT} {te:TE}
theorem comp_range {lo:Int} {n:Nat} {σ:St} {H:Hp} {Q:VK} (Pv:Nat->List V->Hp->Prop) (h0:Pv 0 [] H)
  (hs:∀ i ys H,i<n->Pv i ys H->tt (some (.int (lo+i))::pick js σ) H fun b H2=>if b=true then te (some (.int (lo+i))::pick js σ) H2 fun y H3=>ys.length<sizeLine/\Pv (i+1) (ys++[y]) H3 else Pv (i+1) ys H2)
  (hd:∀ ys H,Pv n ys H->∀ p,H p=none->Q (.ref p) (upd H p (.lst ys))) :
  tCompB (Itr lo n) js tt te σ H Q:=by
 refine ⟨fun i m ys H=>m=n-i/\i<=n/\Pv i ys H,⟨n,by simp,Nat.zero_le _,h0⟩,?_⟩
 rintro i m ys H ⟨rfl,hi,p⟩
 by_cases hlt:i<n
 ·refine .inr ⟨hlt,Pv (i+1),fun ys' H' p'=>⟨n-(i+1),by omega,rfl,hlt,p'⟩,fun x H' y=>?_⟩
  obtain ⟨e,y⟩:=y
  subst e y
  exact hs i ys _ hlt p
 ·have e:i=n:=by omega
  subst e
  exact .inl ⟨Nat.le_refl _,hd ys H p⟩
theorem comp_list {K:PySem.W.Frag} {a:Addr} {xs:List V} {σ:St} {H:Hp} {Q:VK} (Pv:Nat->List V->Hp->Prop) (h0:Pv 0 [] H) (hl:∀ i ys H,i<=xs.length->Pv i ys H->SqL K H a xs)
  (hs:∀ i x ys H,xs[i]?=some x->Pv i ys H->tt (some x::pick js σ) H fun b H2=>if b=true then te (some x::pick js σ) H2 fun y H3=>ys.length<sizeLine/\Pv (i+1) (ys++[y]) H3 else Pv (i+1) ys H2)
  (hd:∀ ys H,Pv xs.length ys H->∀ p,H p=none->Q (.ref p) (upd H p (.lst ys))) :
  tCompB (Itl K a) js tt te σ H Q:=by
 refine ⟨fun i m ys H=>m=xs.length-i/\i<=xs.length/\Pv i ys H,⟨xs.length,by simp,Nat.zero_le _,h0⟩,?_⟩
 rintro i m ys H ⟨rfl,hi,p⟩
 have q:=hl i ys H hi p
 by_cases hlt:i<xs.length
 ·refine .inr ⟨⟨xs,xs[i],q,by simp [hlt]⟩,Pv (i+1),fun ys' H' p'=>⟨xs.length-(i+1),by omega,rfl,hlt,p'⟩,fun x H' y=>?_⟩
  obtain ⟨e,y⟩:=y
  subst e
  exact hs i x ys _ (y xs q) p
 ·have e:i=xs.length:=by omega
  subst e
  exact .inl ⟨⟨xs,q,Nat.le_refl _⟩,hd ys H p⟩
end
end L2
namespace Mm
open PySem
theorem or_xor_and:∀ (n a b:Nat),a<=n->(a ||| b)=(a ^^^ b)+(a &&& b)
 | 0,a,b,h=>by
  have:a=0:=by omega
  subst this
  simp
 | n+1,a,b,h=>by
  by_cases ha:a=0
  ·subst ha;simp
  ·have ih:=or_xor_and n (a / 2) (b / 2) (by omega)
   have e1:(a ||| b) / 2=a / 2 ||| b / 2:=Nat.or_div_two
   have e2:(a ^^^ b) / 2=a / 2 ^^^ b / 2:=Nat.xor_div_two
   have e3:(a &&& b) / 2=a / 2 &&& b / 2:=Nat.and_div_two
   have m1:(a ||| b) % 2=(a % 2 ||| b % 2):=by simpa using Nat.or_mod_two_pow (a:=a) (b:=b) (n:=1)
   have m2:(a ^^^ b) % 2=(a % 2 ^^^ b % 2):=by simpa using Nat.xor_mod_two_pow (a:=a) (b:=b) (n:=1)
   have m3:(a &&& b) % 2=(a % 2 &&& b % 2):=by simpa using Nat.and_mod_two_pow (a:=a) (b:=b) (n:=1)
   have d:∀ x<2,∀ y<2,(x ||| y)=(x ^^^ y)+(x &&& y):=by decide
   have dd:=d (a % 2) (by omega) (b % 2) (by omega)
   omega
theorem bitAnd_nat (a b:Nat):Builtin.bitAnd (a:Int) (b:Int)=((a &&& b:Nat):Int):=by
 rw [PyProof.Rows.bitAnd_pp (by omega) (by omega)]
 simp
theorem bitOr_nat (a b:Nat):Builtin.bitOr (a:Int) (b:Int)=((a ||| b:Nat):Int):=by
 have ha:¬ 0<=Builtin.bitNot (a:Int):=by unfold Builtin.bitNot;omega
 have hb:¬ 0<=Builtin.bitNot (b:Int):=by unfold Builtin.bitNot;omega
 unfold Builtin.bitOr
 rw [PyProof.Rows.bitAnd_nn ha hb,PyProof.Rows.bitNot_bitNot,PyProof.Rows.bitNot_bitNot,PyProof.Rows.bitNot_bitNot]
 simp
theorem bitXor_nat (a b:Nat):Builtin.bitXor (a:Int) (b:Int)=((a ^^^ b:Nat):Int):=by
 unfold Builtin.bitXor
 rw [bitOr_nat,bitAnd_nat]
 have:=or_xor_and a a b (Nat.le_refl _)
 omega
end Mm
namespace L2
open PySem PySem.Spec PyProof.Rows
section
variable {X:Cx}
theorem call_isinst {n:String}:CallR X (.builtin "isinstance") (fun xs H Q=>∃ x t b,xs=[x,.ty n]/\TyOf X.K H x t/\PySem.W.kitOne X.K t (.type n)=some b/\Q (.bl b) H):=by
 intro pins s σ H xs us Q I r h
 obtain ⟨x,t,b,rfl,ty,e,q⟩:=h
 obtain ⟨u,w',rfl,rx,rw'⟩:=vals2 r
 cases (show w'=Value.type n from rw')
 exact isinst_ok I rx ty e fun tk=>⟨.bl b,H,I.tok _,rfl,q⟩
end
theorem bt_len:bootBuiltins "len"=some (.builtin "len"):=by decide +kernel
theorem bt_isi:bootBuiltins "isinstance"=some (.builtin "isinstance"):=by decide +kernel
theorem ix_listK {X:Cx} {K:PySem.W.Frag} (h:X.K=K):IxR X (rIxL K):=by subst h;exact ix_list
end L2
namespace L2
open PySem PySem.Spec PyProof.Rows
section
variable {X:Cx}
theorem mt_bitlen:MtR X "int.bit_length" (fun x xs H Q=>∃ i,x=.int i/\xs=[]/\Q (.int ((Builtin.Int.intBits i:Nat):Int)) H):=by
 intro pins s σ H x xs v us Q I rx rs h
 obtain ⟨i,rfl,rfl,q⟩:=h
 obtain ⟨t,rfl⟩:=rx
 cases rs
 exact call_int_bit_length ⟨.int _,H,I.tok _,⟨_,rfl⟩,q⟩
end
theorem bt_list:bootBuiltins "list"=some (.type "list"):=by decide +kernel
end L2
namespace L2
open PySem PySem.Spec PyProof.Rows
section
variable {X:Cx}
noncomputable def cutS (z:Str) (lo hi:Option Int):Str:=⟨((z.cps.toList.drop (HT.sIx z.length 0 lo)).take (HT.sIx z.length z.length hi-HT.sIx z.length 0 lo)).toArray⟩
theorem sIx_clip (n d:Nat) (v:Option Int):(match v with | none=>(d:Int) | some i=>max 0 (min (if i<0 then i+(n:Int) else i) (n:Int)))=((HT.sIx n d v:Nat):Int):=by
 cases v with
 | none=>rfl
 | some i =>
  show max 0 (min (if i<0 then i+(n:Int) else i) (n:Int))=(((if i<0 then (i+(n:Int)).toNat else min i.toNat n):Nat):Int)
  by_cases h:i<0
  ·simp only [if_pos h];omega
  ·simp only [if_neg h];omega
theorem sliceIdx (lo hi:Option Int) (n:Nat):Builtin.Str.strSliceIndices lo hi 1 n=(List.range (HT.sIx n n hi-HT.sIx n 0 lo)).map (HT.sIx n 0 lo+·):=by
 rw [<- sliceRange_one]
 have e1:=sIx_clip n 0 lo
 have e2:=sIx_clip n n hi
 rw [<- e1,<- e2]
 rfl
theorem slice_cut (z:Str) (lo hi:Option Int):Txt.slice z lo hi=cutS z lo hi:=by
 have hL:=HT.sIx_le z.length 0 (Nat.zero_le _) lo
 have hH:=HT.sIx_le z.length z.length (Nat.le_refl _) hi
 have hz:z.cps.toList.length=z.length:=by simp [Str.length]
 unfold Txt.slice cutS
 rw [sliceIdx]
 split
 ·rename_i h
  have h':HT.sIx z.length z.length hi-HT.sIx z.length 0 lo=z.length:=by simpa using h
  rw [h']
  by_cases h0:HT.sIx z.length 0 lo=0
  ·rw [h0,List.drop_zero,List.take_of_length_le (by omega)]
  ·have:z.length=0:=by omega
   omega
 ·rw [pick_run]
theorem cutS_list (z:Str) (lo hi:Option Int):(cutS z lo hi).cps.toList=(z.cps.toList.drop (HT.sIx z.length 0 lo)).take (HT.sIx z.length z.length hi-HT.sIx z.length 0 lo):=rfl
theorem cutS_len (z:Str) (lo hi:Option Int):(cutS z lo hi).length<=z.length:=by
 show ((z.cps.toList.drop (HT.sIx z.length 0 lo)).take (HT.sIx z.length z.length hi-HT.sIx z.length 0 lo)).toArray.size<=z.length
 rw [List.size_toArray,List.length_take,List.length_drop]
 have hz:z.cps.toList.length=z.length:=by simp [Str.length]
 omega
theorem sl_str:SlR X (fun x lo hi H Q=>∃ z,x=.str z/\z.length<=sizeLine/\Q (.str (cutS z lo hi)) H):=by
 intro pins s σ H x v vl vu lo hi sl Q I rx hs pl pu h
 obtain ⟨z,rfl,hz,q⟩:=h
 obtain ⟨t,rfl⟩:=rx
 rw [<- slice_cut] at q
 refine ⟨"str",_,slot_str_getitem.lookup,typeIs_str s z t,?_⟩
 have key:∀ (l u:Option (Int × Tok)),s.heap.IsSliceOf sl (partValue l) (partValue u) .none->l.map (·.1)=lo->u.map (·.1)=hi->wpAny (model X.prog X.w) X.A (getItem (.str z t) (.ref sl)) (EP X pins σ Q) X.xe s:=by
  intro l u hs' hl hu
  subst hl hu
  exact wpAny_getItem_str_slice (l:=l) (u:=u) (st:=none) hs' rfl (post_val_or_str ⟨Nat.le_trans (Txt.slice_le z _ _) hz,fun t' k=>⟨.str (Txt.slice z (l.map (·.1)) (u.map (·.1))),H,I.tok k,⟨t',rfl⟩,q⟩⟩)
 cases pl with
 | none=>cases pu with
  | none=>exact key none none hs rfl rfl
  | int j tj=>exact key none (some (j,tj)) hs rfl rfl
 | int i ti=>cases pu with
  | none=>exact key (some (i,ti)) none hs rfl rfl
  | int j tj=>exact key (some (i,ti)) (some (j,tj)) hs rfl rfl
noncomputable def ItN (n:Nat) (y:Nat->V):It:=⟨fun i _=>i<n,fun i H x H'=>H'=H/\x=y i,fun i _=>n<=i⟩
end
end L2
namespace PySem.F
end PySem.F
namespace PySem
section
variable {prog:Program} {w:World} {A:Around} {E:Value->Shared->Prop} {s:Shared}
end
end PySem
namespace L2
open PySem PySem.Spec PyProof.Rows
section
variable {X:Cx} {tg:Expr}
end
end L2
namespace L2
open PySem PySem.Spec PyProof.Rows
section
variable {X:Cx} {a:Addr} {kvs:List (Str × Int)} {x:Str} {p pos apos cpos:Pos} {e f:Expr} {ty tx:TE}
end
end L2
namespace L2
open PySem PySem.Spec PyProof.Rows
section
variable {X:Cx}
end
theorem kit_same (K:PySem.W.Frag) (C:Addr):PySem.W.kitOne K (.ref C) (.ref C)=some true:=by
 unfold PySem.W.kitOne
 rw [if_pos (by simp)]
end L2
namespace L2
open PySem PySem.Spec PyProof.Rows
section
variable {X:Cx}
end
section
variable {X:Cx} {pins:List (Addr × Obj)} {σ:St} {H H':Hp} {s s':Shared} {B h'':Heap}
end
section
variable {P:Program} {w:World} {K:PySem.W.Frag} {mg:Str->Option Value} {base:Heap} {N:List Str} {qual:Str} {scope:Scope} {f:Addr} {cd:Value} {A:Around} {outer:List Env} {s₀:Shared} {H₀:Hp} {E:XK}
end
section
variable {X:Cx}
end
end L2
namespace L2
open PySem PySem.Spec PyProof.Rows
section
variable {prog:Program} {w:World} {A:Around} {E:Value->Shared->Prop} {s:Shared} {K:PySem.W.Frag} {x D:Addr} {name:Str}
end
section
variable {X:Cx}
end
section
variable {X:Cx} {CX:CXT} {k:Nat} {f C:Addr} {fd:FuncData} {ps:List Str} {sp:Sp} {dvs:List V} {ds:List Value} {x m:Str} {p pos apos:Pos} {e o:Expr} {es:List Expr} {ta:TE} {t:TA}
end
section
variable {X:Cx} {pins:List (Addr × Obj)} {σ:St} {H:Hp} {s:Shared}
end
section
variable {X:Cx}
end
end L2
namespace L2
open PySem PySem.Spec PyProof.Rows
section
variable {X:Cx} {CX:CXT} {e:Expr} {te:XK->TE} {pos:Pos}
end
section
variable {X:Cx} {CX:CXT} {k:Nat} {f C:Addr} {fd:FuncData} {ps:List Str} {sp:Sp} {dvs:List V} {ds:List Value} {x m:Str} {p pos apos:Pos} {e o:Expr} {es:List Expr} {ta:TE} {t:TA}
end
section
variable {X:Cx}
end
end L2
namespace L2
open PySem PySem.Spec PyProof.Rows
theorem cmp_loop2 {prog:Program} {w:World} {A:Around} {R:Result->Shared->Prop} {s:Shared} {elt iter:Expr} {tg:Expr} {ifs:List Expr} {sc:Scope} {pos:Pos} {it acc:Value} {env:Env} (J:Nat->Shared->Prop)
  (one:∀ k st,J k st->wpAny (model prog w) A (pyNext it) (fun r s₁=>match r with
   | none=>R (.ok .next) s₁
   | some v=>wpAny (model prog w) A (letOwnedTupleGo tg it v) (fun _ sg=>wpAny (model prog w) A (assign tg env v) (fun _ s₂ =>
     wpAny (model prog w) A (cmpTests ifs env) (fun ok s₃ =>
      if ok=true then wpAny (model prog w) A (eval elt env) (fun y s₄=>wpAny (model prog w) A (call (.builtin "list.append") [acc,y]) (fun _ s₅=>∃ m,m<k/\J m s₅) (fun _ _=>False) s₄) (fun _ _=>False) s₃
      else ∃ m,m<k/\J m s₃) (fun _ _=>False) s₂) (fun _ _=>False) sg) (fun _ _=>False) s₁) (fun _ _=>False) st)
  (k0:Nat) (h0:J k0 s):codeAny (model prog w) A (.compLoop (.ListComp elt [⟨tg,iter,ifs,0⟩] sc pos) 0 it acc env) R s:=by
 refine codeAny_loop rfl J (fun k st hk=>?_) k0 h0
 show wpAny _ A ((compTurn (.ListComp elt [⟨tg,iter,ifs,0⟩] sc pos) 0 it acc env).onRaise (fun y=>do noteFrame y env;theTreesLotGoes y)) _ _ st
 refine wpAny_noted ?_
 rw [compTurn_list]
 refine wpAny_bind (wpAny_standAt (wpAny_bind (wpAny_mono (one k st hk) (fun r s₁ h₁=>?_) fun _ _ z=>z.elim)))
 cases r with
 | none=>exact wpAny_pure h₁
 | some v =>
  refine wpAny_bind (wpAny_mono h₁ (fun _ sg hg=>?_) fun _ _ z=>z.elim)
  refine wpAny_bind (wpAny_mono hg (fun _ s₂ h₂=>?_) fun _ _ z=>z.elim)
  refine wpAny_bind (wpAny_mono h₂ (fun ok s₃ h₃=>?_) fun _ _ z=>z.elim)
  cases ok with
  | false=>exact wpAny_pure ⟨rfl,h₃⟩
  | true =>
   refine wpAny_bind (wpAny_bind (wpAny_mono h₃ (fun y s₄ h₄=>?_) fun _ _ z=>z.elim))
   exact wpAny_bind (wpAny_mono h₄ (fun _ s₅ h₅=>wpAny_pure (wpAny_pure ⟨rfl,h₅⟩)) fun _ _ z=>z.elim)
structure CompSc2 (scX sc:Scope) (NX:List Str) (xs:List Str) (fv:List Str) (js:List Nat):Prop where
 kind:sc.kind=.function
 kindX:scX.kind=.function
 cell:∀ y∈sc.names,y.2≠.cell
 own:∀ x∈xs,sc.names.lookup x=some .local
 names:∀ y∈sc.names,y.2=.local->sc.names.lookup y.1=some .local
 free:∀ y∈sc.names,y.2=.free->scX.names.lookup y.1=some .cell
 nd:(xs++fv).Nodup
 at':js.map (fun j=>NX[j]?)=fv.map some
 fr:∀ y∈fv,sc.names.lookup y=some .free
noncomputable abbrev xc2 (X:Cx) (sc:Scope) (xs:List Str) (fv:List Str) (C:Addr) (s0:Shared) (H0:Hp) (ex:List Addr):Cx :=
 { X with N:=xs++fv,s₀:=s0,H₀:=H0,env:=compEnvC sc (clOf X.env.cells sc.names []) C X.env,outer:=X.stack,ex:=ex,fn:=fun _=>false,pn:=[],xe:=fun _ _=>False }
noncomputable def tStep2 (k:Nat) (js:List Nat) (g:TG) (tt:TT) (te:TE) (σ:St) (ys:List V) (N:List V->Hp->Prop) (x:V) (H':Hp):Prop :=
 ∀ os:List (Option V),os.length=k->g x (os++pick js σ) H' fun σ6 H6=>(∃ os':List (Option V),os'.length=k/\σ6=os'++pick js σ) /\
  tt σ6 H6 fun b H2=>if b=true then te σ6 H2 fun y H3=>ys.length<sizeLine/\N (ys++[y]) H3 else N ys H2
noncomputable def tCompB2 (J:It) (k:Nat) (js:List Nat) (g:TG) (tt:TT) (te:TE):TE:=fun σ H1 Q=>∃ W:Nat->Nat->List V->Hp->Prop,(∃ m,W 0 m [] H1)/\∀ i m ys H,W i m ys H ->
 (J.stop i H/\∀ p,H p=none->Q (.ref p) (upd H p (.lst ys))) ∨
 (J.go i H/\∃ N:List V->Hp->Prop,(∀ ys' H',N ys' H'->∃ m',m'<m/\W (i+1) m' ys' H')/\∀ x H',J.yld i H x H'->tStep2 k js g tt te σ ys N x H')
noncomputable def tComp2 (wi:TI) (k:Nat) (js:List Nat) (g:TG) (tt:TT) (te:TE):TE:=fun σ H Q=>wi σ H fun J H1=>tCompB2 J k js g tt te σ H1 Q
section
variable {X:Cx} {pins:List (Addr × Obj)} {σ:St} {H2:Hp} {s2:Shared} {elt iter tg:Expr} {xs:List Str} {ifs:List Expr} {sc scX:Scope} {pos:Pos} {fv:List Str} {js:List Nat} {g:TG} {tt:TT} {te:TE}
theorem comp_core2 (S:CompSc2 scX sc X.N xs fv js) (hsx:X.env.scope=scX) (hcalm:X.calm=true) (hgg:∀ C s0 H0 ex,PG (xc2 X sc xs fv C s0 H0 ex) tg g)
  (ht:∀ C s0 H0 ex,PIf (xc2 X sc xs fv C s0 H0 ex) ifs tt) (he:∀ C s0 H0 ex,PE (xc2 X sc xs fv C s0 H0 ex) elt te)
  {it:Addr} {fp:List Addr} {tn:Nat->Heap->Prop} {J:It} (I2:Inv X pins σ H2 s2) (T:Turn X.prog X.w X.K tg J fp it tn) (st2:tn 0 s2.heap) (f2:∀ b∈fp,FpOk X pins H2 b)
  {Q:VK} {W:Nat->Nat->List V->Hp->Prop} (w0:∃ m,W 0 m [] H2)
  (step:∀ i m ys H,W i m ys H->(J.stop i H/\∀ p,H p=none->Q (.ref p) (upd H p (.lst ys))) ∨
   (J.go i H/\∃ N:List V->Hp->Prop,(∀ ys' H',N ys' H'->∃ m',m'<m/\W (i+1) m' ys' H') /\
    ∀ x H',J.yld i H x H'->tStep2 xs.length js g tt te σ ys N x H'))
  {RR:Value->Addr->Result->Shared->Prop} {E:Value->Shared->Prop}
  (fin:∀ (D C:Addr) (s':Shared) (H':Hp),Inv X pins σ H' s'->Q (.ref D) H'->(∃ m,s'.heap.Ns C m)->FpOk X pins H' C->RR (.ref D) C (.ok .next) s') :
  wpAny (model X.prog X.w) X.A (newList []) (fun acc s₃=>wpAny (model X.prog X.w) X.A (newFunctionEnv sc X.env.globals (clOf X.env.cells sc.names []) [] X.env.qual none .none (some X.env)) (fun cenv s₄ =>
   codeAny (model X.prog X.w) X.A (.compStart (.ListComp elt [⟨tg,iter,ifs,0⟩] sc pos) 0 (.ref it) acc { cenv with scope:=relabel sc X.env }) (RR acc cenv.locals) s₄) E s₃) E s2:=by
 have hfree:∀ y∈sc.names,y.2=.free->∃ c,X.env.cells.lookup y.1=some c:=fun y hy hf=>I2.ok.has y.1 (.inl (by show X.env.scope.names.lookup y.1=_;rw [hsx];exact S.free y hy hf))
 obtain ⟨cl1,_,cl3⟩:=clOf_look (cells:=X.env.cells) sc.names [] hfree (fun y c h=>by simp at h)
 refine wpAny_newObj_type (wpAny_newFunctionEnv S.cell (by intro y hy;simp at hy) (fun h₁ hns₁ hsb₁=>?_) S.kind)
 dsimp only at hns₁ hsb₁ ⊢
 generalize hG:s2.heap.push { cls:=.type "list",dict:=none,data:=.seq ([]:List Value).toArray }=G at hns₁ hsb₁ ⊢
 have hGz:G.objs.size=s2.heap.objs.size+1:=by rw [<- hG,Heap.size_push]
 have upG:∀ b o,s2.heap.get? b=some o->G.get? b=some o:=fun b o e=>hG ▸ Heap.get?_push_of_some _ e
 have upH:∀ b o,G.get? b=some o->h₁.get? b=some o:=fun b o e=>hsb₁.extBut b o (Nat.ne_of_lt (Heap.lt_size e)) (Heap.get?_push_of_some _ e)
 have ltD:∀ b o,s2.heap.get? b=some o->b≠s2.heap.objs.size:=fun b o e=>Nat.ne_of_lt (Heap.lt_size e)
 have fpo:∀ b∈fp,∃ o,s2.heap.get? b=some o:=fun b hb=>by obtain ⟨o,e,_⟩:=T.obj 0 _ st2 b hb;exact ⟨o,e⟩
 have fpD:∀ b∈fp,b≠s2.heap.objs.size:=fun b hb=>by obtain ⟨o,e⟩:=fpo b hb;exact ltD b o e
 have fpC:∀ b∈fp,b≠G.objs.size:=fun b hb=>by obtain ⟨o,e⟩:=fpo b hb;exact Nat.ne_of_lt (Heap.lt_size (upG b o e))
 have cellO:∀ y c,(clOf X.env.cells sc.names []).lookup y=some c->∃ v,s2.heap.IsCell c v:=fun y c e=>I2.cell y c (cl1 y c e)
 have cellD:∀ y c,(clOf X.env.cells sc.names []).lookup y=some c->c≠s2.heap.objs.size:=fun y c e=>by obtain ⟨v,q⟩:=cellO y c e;exact Nat.ne_of_lt q.lt
 have Dfs:s2.heap.objs.size∉frs X.stack:=fun hb=>by
  rcases List.mem_cons.mp (I2.stkSub _ hb) with z | z
  ·exact absurd I2.lt (by rw [<- z];exact Nat.lt_irrefl _)
  ·exact I2.nofs (Nat.le_refl _) z
 have fpfs:∀ b∈fp,b∉frs X.stack:=fun b hb hz=>by
  obtain ⟨_,f1,f2',_⟩:=f2 b hb
  rcases List.mem_cons.mp (I2.stkSub _ hz) with z | z
  ·exact f1 z
  ·exact f2' z
 have HD:H2 s2.heap.objs.size=none:=I2.hok.fresh (Nat.le_refl _)
 have HC:H2 G.objs.size=none:=I2.hok.fresh (by rw [hGz];exact Nat.le_succ _)
 have DC:s2.heap.objs.size≠G.objs.size:=by rw [hGz];exact Nat.ne_of_lt (Nat.lt_succ_self _)
 have okC:Cx.Ok (xc2 X sc xs fv G.objs.size { s2 with heap:=G } H2 (s2.heap.objs.size::fp)):=by
  refine ⟨I2.ok.mod,S.kind,I2.ok.glob,I2.ok.blt,Nat.le_refl _,fun y z c h1 h2=>I2.ok.inj y z c (cl1 _ _ h1) (cl1 _ _ h2),fun y hy=>?_,fun y c hfn _=>(by cases hfn),I2.ok.hd,I2.ok.frames,.inl rfl,fun b hb=>?_,fun b o e=>?_,?_,fun b o e hb=>?_,fun b hb=>?_,?_,I2.stkFree⟩
  ·exact Option.isSome_iff_exists.mp (cl3 y (relabel_back S.cell hy))
  ·rcases List.mem_cons.mp hb with z | z
   ·subst z;exact ⟨DC,cellD⟩
   ·refine ⟨fpC b z,fun y c e=>?_⟩
    obtain ⟨_,_,_,_,f4,_⟩:=f2 b z
    exact f4 y c (cl1 y c e)
  ·exact ⟨upG b o (I2.bs b o e).1,(I2.bs b o e).2⟩
  ·show X.base.objs.size<=G.objs.size
   rw [hGz];exact Nat.le_succ_of_le (Nat.le_trans I2.ok.bsz I2.sz)
  ·rcases List.mem_cons.mp hb with z | z
   ·exact ltD b o (I2.bk b o e) z
   ·obtain ⟨_,_,_,f3,_⟩:=f2 b z
    rcases f3 with q | q
    ·exact I2.ok.noex b o e q
    ·exact absurd (Nat.lt_of_lt_of_le (Heap.lt_size e) (Nat.le_trans I2.ok.bsz q)) (Nat.lt_irrefl _)
  ·rcases List.mem_cons.mp hb with z | z
   ·subst z;exact Dfs
   ·exact fpfs b z
  ·exact (I2.stack).of_keeps fun b o e _=>⟨o,upG b o e,rfl⟩
 have lenC:∀ os:List (Option V),os.length=xs.length->(os++pick js σ).length=(xs++fv).length:=fun os ho=>by
  have:=congrArg List.length S.at'
  simp only [List.length_map] at this
  simp [pick,this,ho]
 have hacc:h₁.get? s2.heap.objs.size=some { cls:=.type "list",dict:=none,data:=.seq ([]:List Value).toArray }:=upH _ _ (hG ▸ Heap.get?_push_size _ rfl)
 have I4:Inv (xc2 X sc xs fv G.objs.size { s2 with heap:=G } H2 (s2.heap.objs.size::fp)) [(s2.heap.objs.size,{ cls:=.type "list",dict:=none,data:=.seq ([]:List Value).toArray })] (xs.map (fun _=>none)++pick js σ) H2 { s2 with heap:=h₁,toks:=s2.toks+([]:List (Str × Value)).length }:=by
  refine ⟨okC,rfl,I2.bare,Un.kept upH,⟨_,hns₁,fun i y v e1 e2 e3=>?_⟩,fun y c e=>?_,HC,fun y c e=>I2.freeC y c (cl1 y c e),fun p hp=>?_,I2.hok.kept fun b u e=>upH b u (upG b u e),lenC _ (by simp)⟩
  ·by_cases hix:i<xs.length
   ·have:(xs.map (fun _=>(none:Option V))++pick js σ)[i]?=some none:=by
     rw [List.getElem?_append_left (by simpa using hix),List.getElem?_map,List.getElem?_eq_getElem hix];rfl
    rw [this] at e2
    cases e2
   ·obtain ⟨i',rfl⟩:∃ i',i=xs.length+i':=⟨i-xs.length,by omega⟩
    have e1':fv[i']?=some y:=by
     have e1a:(xs++fv)[xs.length+i']?=some y:=e1
     rw [List.getElem?_append_right (by omega),Nat.add_sub_cancel_left] at e1a
     exact e1a
    have e2':(pick js σ)[i']?=some (some v):=by
     have e2a:=e2
     rw [List.getElem?_append_right (by simp),List.length_map,Nat.add_sub_cancel_left] at e2a
     exact e2a
    have q:=congrArg (fun l=>l[i']?) S.at'
    simp only [List.getElem?_map,e1',Option.map_some] at q
    cases hj:js[i']? with
    | none=>rw [hj] at q;cases q
    | some j =>
     rw [hj] at q
     have hj':X.N[j]?=some y:=Option.some.inj q
     unfold pick at e2'
     rw [List.getElem?_map,hj] at e2'
     have e2'':(σ[j]?).getD none=some v:=Option.some.inj e2'
     have e2b:σ[j]?=some (some v):=by
      cases hh:σ[j]? with
      | none=>rw [hh] at e2'';cases e2''
      | some o=>rw [hh] at e2'';exact congrArg some e2''
     have hm:y∈fv:=List.mem_of_getElem? e1'
     have hcX:scX.names.lookup y=some .cell:=S.free (y,.free) (PySem.mem_of_lookup (S.fr y hm)) rfl
     have kX:X.env.kindOf y=some .cell:=by show X.env.scope.names.lookup y=_;rw [hsx];exact hcX
     obtain ⟨m,hn,hl⟩:=I2.loc
     obtain ⟨u,r,lk⟩:=hl j y v hj' e2b (.inr (.inl kX))
     refine ⟨u,r,?_⟩
     rcases lk with ⟨k,_⟩ | ⟨_,c,ec,z⟩
     ·rw [kX] at k;cases k
     ·refine .inr ⟨.inl (relabel_free (by rw [hsx];exact S.kindX) (S.fr y hm) kX),c,?_,?_⟩
      ·obtain ⟨c',ec'⟩:=Option.isSome_iff_exists.mp (cl3 y (PySem.mem_of_lookup (S.fr y hm)))
       have:=cl1 y c' ec'
       rw [ec] at this;cases this
       exact ec'
      ·obtain ⟨o,ho,hd⟩:=z
       exact ⟨o,upH c o (upG c o ho),hd⟩
  ·obtain ⟨v,o,ho,hd⟩:=cellO y c e
   exact ⟨v,o,upH c o (upG c o ho),hd⟩
  ·have hp':p=(s2.heap.objs.size,{ cls:=.type "list",dict:=none,data:=.seq ([]:List Value).toArray }):=by simpa using hp
   subst hp'
   exact ⟨hacc,HD,DC,Dfs,fun v z=>by cases z⟩
 have loop:codeAny (model X.prog X.w) X.A (.compLoop (.ListComp elt [⟨tg,iter,ifs,0⟩] sc pos) 0 (.ref it) (.ref s2.heap.objs.size) (compEnvC sc (clOf X.env.cells sc.names []) G.objs.size X.env)) (RR (.ref s2.heap.objs.size) G.objs.size) { s2 with heap:=h₁,toks:=s2.toks+([]:List (Str × Value)).length }:=by
  obtain ⟨m0,w0⟩:=w0
  have fok:∀ {H':Hp} {o:Obj},(∀ b∈fp,H' b=none)->∀ b∈fp,FpOk (xc2 X sc xs fv G.objs.size { s2 with heap:=G } H2 (s2.heap.objs.size::fp)) [(s2.heap.objs.size,o)] H' b:=fun {H' o} hn b hb=>by
   refine ⟨hn b hb,fpC b hb,fpfs b hb,.inl (List.mem_cons_of_mem _ hb),fun y c e=>?_,fun p hp=>?_⟩
   ·obtain ⟨_,_,_,_,f4,_⟩:=f2 b hb
    exact f4 y c (cl1 y c e)
   ·have hp':p=(s2.heap.objs.size,o):=by simpa using hp
    subst hp'
    exact (fpD b hb).symm
  refine cmp_loop2 (fun k st=>∃ (i:Nat) (ys:List V) (its:List Value) (n:Nat) (os:List (Option V)) (H':Hp),os.length=xs.length/\Inv (xc2 X sc xs fv G.objs.size { s2 with heap:=G } H2 (s2.heap.objs.size::fp)) [(s2.heap.objs.size,{ cls:=.type "list",data:=.seq its.toArray n })] (os++pick js σ) H' st /\
   Vals ys its/\ys.length<=sizeLine/\tn i st.heap/\(∀ b∈fp,H' b=none)/\W i k ys H') ?_ m0
   ⟨0,[],[],_,xs.map (fun _=>none),H2,by simp,I4,.nil,Nat.zero_le _,T.keep _ _ _ st2 fun b _ o e=>upH b o (upG b o e),fun b hb=>(f2 b hb).1,w0⟩
  rintro k s3 ⟨i,ys,its,n,os,H3,hos,I3,rv,hz,st3,fr3,w3⟩
  rcases step i k ys H3 w3 with ⟨stop,q⟩ | ⟨go,N,hN,hgo⟩
  ·refine thn (T.done (xc2 X sc xs fv G.objs.size { s2 with heap:=G } H2 (s2.heap.objs.size::fp)) rfl rfl rfl hcalm i _ s3 _ H3 _ I3 (fok fr3) st3 stop) fun r s4 hsl42=>?_
   obtain ⟨hr,I4⟩:=hsl42
   subst hr
   obtain ⟨pD,pn,_,_,_⟩:=I4.pin _ (List.mem_append_right _ List.mem_cons_self)
   have B:=I4.base
   have nD:∀ b o,s2.heap.get? b=some o->b∉fp->b∉s2.heap.objs.size::fp:=fun b o e hx hm=>(List.mem_cons.mp hm).elim (ltD b o e) hx
   have neH:∀ b u,H2 b=some u->b≠s2.heap.objs.size:=fun b u e z=>by rw [z,HD] at e;cases e
   have JX:Inv X pins σ (upd H3 s2.heap.objs.size (.lst ys)) s4:=by
    refine I2.call' (ch:=fp) I4.os ⟨fun b o e hn hb hx=>B.keep b o (upG b o e) hn hb (nD b o e hx),fun b o e hn hb hx=>B.slot b o (upG b o e) hn hb (nD b o e hx),fun b o e hn hx=>?_,fun b o e hx=>B.there b o (upG b o e) (nD b o e hx),fun b xs e=>?_,fun b o u e=>?_,fun b ps e=>?_⟩ (fun b u e=>?_) I4.bare fun b hb=>?_
    ·rw [upd_ne (ltD b o e)];exact B.free b o (upG b o e) hn (nD b o e hx)
    ·rw [upd_ne (neH b _ e)];exact B.tups b xs e
    ·rw [upd_ne (neH b _ e)];exact B.frzs b o u e
    ·rw [upd_ne (neH b _ e)];exact B.tbls b ps e
    ·by_cases hb:b=s2.heap.objs.size
     ·subst hb
      rw [upd_same] at e;cases e
      exact ⟨hz,its,n,rv,pD⟩
     ·rw [upd_ne hb] at e
      exact (I4.hok b u e).stay (fun _ _ _ z=>z) (fun c z=>by rw [upd_ne (ne_of_none z pn)];exact z) fun c xs z=>by rw [upd_ne (ne_of_none z pn)];exact z
    ·obtain ⟨_,f1,_,f3,f4,f5⟩:=f2 b hb
     exact ⟨f3,f1,f4,f5⟩
   refine fin _ _ s4 _ JX (q _ pn) (by obtain ⟨m,hm,_⟩:=I4.loc;exact ⟨m,hm⟩) (I2.fpOk (by rw [hGz];exact Nat.le_succ _) ?_)
   rw [upd_ne DC.symm];exact I4.free
  ·refine thn (T.item (xc2 X sc xs fv G.objs.size { s2 with heap:=G } H2 (s2.heap.objs.size::fp)) rfl rfl rfl hcalm i _ s3 _ H3 _ I3 (fok fr3) st3 go) fun r s4 hsl43=>?_
   obtain ⟨u,hr,h4⟩:=hsl43
   subst hr
   refine thn h4 fun _ s5 hsl44=>?_
   obtain ⟨y,H5,I5,r5,y5,st5,fr5⟩:=hsl44
   have I5':=I5.pinned (fok fr5) (T.obj _ _ st5)
   refine thn (hgg _ _ _ _ _ s5 _ H5 y u _ I5' r5 (hgo y _ y5 os hos)) fun _ s6 hsl45=>?_
   obtain ⟨σ6,H6,I6,⟨os',hos',eσ⟩,q6⟩:=hsl45
   subst eσ
   refine thn (ht _ _ _ _ _ s6 _ _ _ I6 q6) fun b s7 hsl46=>?_
   obtain ⟨H7,I7,q7⟩:=hsl46
   cases b with
   | false =>
    rw [if_neg Bool.false_ne_true] at q7 ⊢
    obtain ⟨m',hm,w7⟩:=hN ys H7 q7
    exact ⟨m',hm,i+1,ys,its,n,os',H7,hos',I7.unpinned,rv,hz,T.keep _ _ _ st5 fun b hb o e=>(I7.pin (b,o) (List.mem_append_right _ (List.mem_append_right _ (mem_pinsAt hb e)))).1,fun b hb=>by
     obtain ⟨o,e,d⟩:=T.obj _ _ st5 b hb
     exact (I7.pin (b,o) (List.mem_append_right _ (List.mem_append_right _ (mem_pinsAt hb e)))).2.1,w7⟩
   | true =>
    rw [if_pos rfl] at q7 ⊢
    refine thn (he _ _ _ _ _ s7 _ H7 _ I7 q7) fun u8 s8 hsl47=>?_
    obtain ⟨y8,H8,I8,r8,hl8,q8⟩:=hsl47
    obtain ⟨m',hm,w8⟩:=hN _ H8 q8
    obtain ⟨pD,pn,pC,pf,_⟩:=I8.pin _ (List.mem_append_right _ (List.mem_append_left _ List.mem_cons_self))
    refine wpAny_list_append_plain (items:=its.toArray) ⟨n,pD⟩ (fun h9 hl9 sb9=>?_) (by rw [List.size_toArray,<- rv.length];exact Nat.le_of_lt hl8)
    have pinF:∀ p∈pinsAt fp s5.heap,p∈[(s2.heap.objs.size,({ cls:=.type "list",data:=.seq its.toArray n }:Obj))]++pinsAt fp s5.heap:=fun p hp=>List.mem_append_right _ hp
    have I8a:=I8.pins_of (pins':=pinsAt fp s5.heap) fun p hp=>I8.pin p (List.mem_append_right _ (pinF p hp))
    have I9:=I8a.turned (it:=s2.heap.objs.size) (h':=h9) (t':=s8.toks) (fun b o hb e=>(sb9.2 b hb).trans e) pn DC (.inl List.mem_cons_self) (fun y c e=>cellD y c e) fun p hp=>fpD p.1 (of_pinsAt (by simpa using hp)).1
    obtain ⟨n9,e9⟩:=hl9
    have e9':h9.get? s2.heap.objs.size=some { cls:=.type "list",data:=.seq (its++[u8]).toArray n9 }:=by
     rw [e9,show (its++[u8]).toArray=its.toArray.push u8 by simp]
    refine ⟨m',hm,i+1,ys++[y8],its++[u8],n9,os',H8,hos',I9.pins_of fun p hp=>?_,rv.append (.cons r8 .nil),by rw [List.length_append];exact hl8,T.keep _ _ _ st5 fun b hb o e=>(I9.pin (b,o) (List.mem_append_right _ (mem_pinsAt hb e))).1,fun b hb=>?_,w8⟩
    ·have hp':p=(s2.heap.objs.size,{ cls:=.type "list",data:=.seq (its++[u8]).toArray n9 }):=by simpa using hp
     subst hp'
     exact ⟨e9',pn,DC,pf,fun v z=>by cases z⟩
    ·obtain ⟨o,e,d⟩:=T.obj _ _ st5 b hb
     exact (I9.pin (b,o) (List.mem_append_right _ (mem_pinsAt hb e))).2.1
 exact codeAny_compStart_list loop (T.self _ 0 _ _ _ (T.keep _ _ _ st2 fun b _ o e=>upH b o (upG b o e)) loop)
theorem pe_comp2 {wi:TI} (scX:Scope) (NX fv:List Str) (js:List Nat) (hNX:X.N=NX) (S:CompSc2 scX sc NX xs fv js) (hsx:X.env.scope=scX) (hcalm:X.calm=true) (hi:PI X tg iter wi) (hgg:∀ C s0 H0 ex,PG (xc2 X sc xs fv C s0 H0 ex) tg g)
  (ht:∀ C s0 H0 ex,PIf (xc2 X sc xs fv C s0 H0 ex) ifs tt) (he:∀ C s0 H0 ex,PE (xc2 X sc xs fv C s0 H0 ex) elt te)
  (hs:∀ v,foldedSetIterable iter X.env v=pure v:=by intro _;rfl):PE X (.ListComp elt [⟨tg,iter,ifs,0⟩] sc pos) (tComp2 wi xs.length js g tt te):=by
 intro pins s σ H Q I h
 rw [<- hNX] at S
 have hfree:∀ y∈sc.names,y.2=.free->∃ c,X.env.cells.lookup y.1=some c:=fun y hy hf=>I.ok.has y.1 (.inl (by show X.env.scope.names.lookup y.1=_;rw [hsx];exact S.free y hy hf))
 rw [eval_ListComp]
 refine wpAny_comprehension_free (use:=none) rfl hs (closure_eq hfree) S.kind S.names (thn (hi pins s σ H _ I h) fun v s1 h1=>thn h1 fun itv s2 h2=>?_)
 obtain ⟨it,fp,tn,J,H2,e,I2,T,st2,f2,W,w0,step⟩:=h2
 subst e
 refine comp_core2 (RR:=fun acc C=>compPost (model X.prog X.w) X.A X.xe none (EP X pins σ Q) acc C) S hsx hcalm hgg ht he I2 T st2 f2 w0 step fun D C s' H' I' q hsl48 hC=>?_
 obtain ⟨m,hm⟩:=hsl48
 obtain ⟨f0,f1,_,f3,f4,f5⟩:=hC
 exact ⟨m,hm,fun h' sb=>⟨.ref D,H',I'.turned (t':=s'.toks) (fun b o hb e=>(sb.2 b hb).trans e) f0 f1 f3 f4 f5,rfl,q⟩⟩
theorem ps_setcomp2 {wi:TI} {i:Nat} {y:Str} {py spos:Pos} (scX:Scope) (NX fv:List Str) (js:List Nat) (hNX:X.N=NX) (S:CompSc2 scX sc NX xs fv js) (hsx:X.env.scope=scX) (hcalm:X.calm=true) (hi:PI X tg iter wi) (hgg:∀ C s0 H0 ex,PG (xc2 X sc xs fv C s0 H0 ex) tg g)
  (ht:∀ C s0 H0 ex,PIf (xc2 X sc xs fv C s0 H0 ex) ifs tt) (he:∀ C s0 H0 ex,PE (xc2 X sc xs fv C s0 H0 ex) elt te)
  (hN:X.N.Nodup) (hy:X.N[i]?=some y) (hl:X.env.scope.names.lookup y=some .local) (hsw:swapsWith (.ListComp elt [⟨tg,iter,ifs,0⟩] sc pos) (some (.Name y py)) spos.line X.env=pure true)
  (hs:∀ v,foldedSetIterable iter X.env v=pure v:=by intro _;rfl):PS X (.Assign [.Name y py] (.ListComp elt [⟨tg,iter,ifs,0⟩] sc pos) spos) (tAsg (tComp2 wi xs.length js g tt te) (gName i)):=by
 intro pins s σ H D I h
 rw [<- hNX] at S
 have hfree:∀ y∈sc.names,y.2=.free->∃ c,X.env.cells.lookup y.1=some c:=fun y hy hf=>I.ok.has y.1 (.inl (by show X.env.scope.names.lookup y.1=_;rw [hsx];exact S.free y hy hf))
 rw [exec_Assign_Name_used _ _ _ _ hsw]
 refine wpAny_bind (wpAny_standAt (wpAny_bind ?_))
 show wpAny _ _ (do let _ <- comprehension (.ListComp elt [⟨tg,iter,ifs,0⟩] sc pos) sc X.env _ (newList []) false (eval iter X.env) (some (assign (.Name y py) X.env))) _ _ s
 refine wpAny_bind (wpAny_mono (wpAny_comprehension_free (use:=some (assign (.Name y py) X.env)) (Q:=fun _ st=>SP X pins D .next st) rfl hs (closure_eq hfree) S.kind S.names
  (thn (hi pins s σ H _ I h) fun v s1 h1=>thn h1 fun itv s2 h2=>?_)) (fun _ st hq=>wpAny_pure (wpAny_pure hq)) fun _ _ e=>e)
 obtain ⟨it,fp,tn,J,H2,e,I2,T,st2,f2,W,w0,step⟩:=h2
 subst e
 refine comp_core2 (Q:=fun v H1=>gName i v σ H1 D.nx) (RR:=fun acc C=>compPost (model X.prog X.w) X.A X.xe (some (assign (.Name y py) X.env)) (fun _ st=>SP X pins D .next st) acc C) S hsx hcalm hgg ht he I2 T st2 f2 w0 step fun Dl C s' H' I' q hsl49 hC=>?_
 obtain ⟨m,hm⟩:=hsl49
 obtain ⟨f0,f1,_,f3,f4,f5⟩:=hC
 refine wpAny_assign_Name (store_ok2 I' hN hy (.inl hl) (show RelV (.ref Dl) (.ref Dl) from rfl) (fun s'' I'' hsl50=>?_) (.inr hl))
 obtain ⟨a,sb,ha⟩:=hsl50
 have aC:C≠a:=fun z=>by
  rcases ha with ha | ha
  ·exact f1 (z.trans ha)
  ·exact f4 y a ha z.symm
 refine ⟨m,hm.sameBut sb aC,fun h' sb'=>?_⟩
 exact ⟨_,_,I''.turned (t':=s''.toks) (fun b o hb e=>(sb'.2 b hb).trans e) f0 f1 f3 f4 f5,q⟩
end
theorem CompSc.two {scX sc:Scope} {NX:List Str} {x:Str} {fv:List Str} {js:List Nat} (S:CompSc scX sc NX x fv js):CompSc2 scX sc NX [x] fv js :=
 ⟨S.kind,S.kindX,S.cell,fun y hy=>by rw [List.mem_singleton.mp hy];exact S.own,S.names,S.free,S.nd,S.at',S.fr⟩
section
variable {X:Cx} {pins:List (Addr × Obj)} {σ:St} {H2:Hp} {s2:Shared} {elt iter:Expr} {x:Str} {px:Pos} {ifs:List Expr} {sc scX:Scope} {pos:Pos} {fv:List Str} {js:List Nat} {tt:TT} {te:TE}
theorem comp_core (S:CompSc scX sc X.N x fv js) (hsx:X.env.scope=scX) (hcalm:X.calm=true)
  (ht:∀ C s0 H0 ex,PIf (xc X sc x fv C s0 H0 ex) ifs tt) (he:∀ C s0 H0 ex,PE (xc X sc x fv C s0 H0 ex) elt te)
  {it:Addr} {fp:List Addr} {tn:Nat->Heap->Prop} {J:It} (I2:Inv X pins σ H2 s2) (T:Turn X.prog X.w X.K (.Name x px) J fp it tn) (st2:tn 0 s2.heap) (f2:∀ b∈fp,FpOk X pins H2 b)
  {Q:VK} {W:Nat->Nat->List V->Hp->Prop} (w0:∃ m,W 0 m [] H2)
  (step:∀ i m ys H,W i m ys H->(J.stop i H/\∀ p,H p=none->Q (.ref p) (upd H p (.lst ys))) ∨
   (J.go i H/\∃ N:List V->Hp->Prop,(∀ ys' H',N ys' H'->∃ m',m'<m/\W (i+1) m' ys' H') /\
    ∀ x H',J.yld i H x H'->tt (some x::pick js σ) H' fun b H2=>if b=true then te (some x::pick js σ) H2 fun y H3=>ys.length<sizeLine/\N (ys++[y]) H3 else N ys H2))
  {RR:Value->Addr->Result->Shared->Prop} {E:Value->Shared->Prop}
  (fin:∀ (D C:Addr) (s':Shared) (H':Hp),Inv X pins σ H' s'->Q (.ref D) H'->(∃ m,s'.heap.Ns C m)->FpOk X pins H' C->RR (.ref D) C (.ok .next) s') :
  wpAny (model X.prog X.w) X.A (newList []) (fun acc s₃=>wpAny (model X.prog X.w) X.A (newFunctionEnv sc X.env.globals (clOf X.env.cells sc.names []) [] X.env.qual none .none (some X.env)) (fun cenv s₄ =>
   codeAny (model X.prog X.w) X.A (.compStart (.ListComp elt [⟨.Name x px,iter,ifs,0⟩] sc pos) 0 (.ref it) acc { cenv with scope:=relabel sc X.env }) (RR acc cenv.locals) s₄) E s₃) E s2:=by
 refine comp_core2 (xs:=[x]) (g:=gName 0) (RR:=RR) S.two hsx hcalm (fun C s0 H0 ex=>pg_name S.nd rfl (.inl (lookup_relabel_local S.own)) (.inr (lookup_relabel_local S.own))) ht he I2 T st2 f2 w0 (fun i m ys H w=>?_) fin
 rcases step i m ys H w with h | ⟨go,N,hN,st⟩
 ·exact .inl h
 ·refine .inr ⟨go,N,hN,fun y H' hy os hos=>?_⟩
  obtain ⟨o,rfl⟩:=List.length_eq_one_iff.mp hos
  exact ⟨⟨[some y],rfl,rfl⟩,st y H' hy⟩
theorem pe_comp {wi:TI} (scX:Scope) (NX fv:List Str) (js:List Nat) (hNX:X.N=NX) (S:CompSc scX sc NX x fv js) (hsx:X.env.scope=scX) (hcalm:X.calm=true) (hi:PI X (.Name x px) iter wi)
  (ht:∀ C s0 H0 ex,PIf (xc X sc x fv C s0 H0 ex) ifs tt) (he:∀ C s0 H0 ex,PE (xc X sc x fv C s0 H0 ex) elt te)
  (hs:∀ v,foldedSetIterable iter X.env v=pure v:=by intro _;rfl):PE X (.ListComp elt [⟨.Name x px,iter,ifs,0⟩] sc pos) (tComp wi js tt te):=by
 intro pins s σ H Q I h
 rw [<- hNX] at S
 have hfree:∀ y∈sc.names,y.2=.free->∃ c,X.env.cells.lookup y.1=some c:=fun y hy hf=>I.ok.has y.1 (.inl (by show X.env.scope.names.lookup y.1=_;rw [hsx];exact S.free y hy hf))
 rw [eval_ListComp]
 refine wpAny_comprehension_free (use:=none) rfl hs (closure_eq hfree) S.kind S.names (thn (hi pins s σ H _ I h) fun v s1 h1=>thn h1 fun itv s2 h2=>?_)
 obtain ⟨it,fp,tn,J,H2,e,I2,T,st2,f2,W,w0,step⟩:=h2
 subst e
 refine comp_core (RR:=fun acc C=>compPost (model X.prog X.w) X.A X.xe none (EP X pins σ Q) acc C) S hsx hcalm ht he I2 T st2 f2 w0 step fun D C s' H' I' q hsl51 hC=>?_
 obtain ⟨m,hm⟩:=hsl51
 obtain ⟨f0,f1,_,f3,f4,f5⟩:=hC
 exact ⟨m,hm,fun h' sb=>⟨.ref D,H',I'.turned (t':=s'.toks) (fun b o hb e=>(sb.2 b hb).trans e) f0 f1 f3 f4 f5,rfl,q⟩⟩
theorem ps_setcomp {wi:TI} {i:Nat} {y:Str} {py spos:Pos} (scX:Scope) (NX fv:List Str) (js:List Nat) (hNX:X.N=NX) (S:CompSc scX sc NX x fv js) (hsx:X.env.scope=scX) (hcalm:X.calm=true) (hi:PI X (.Name x px) iter wi)
  (ht:∀ C s0 H0 ex,PIf (xc X sc x fv C s0 H0 ex) ifs tt) (he:∀ C s0 H0 ex,PE (xc X sc x fv C s0 H0 ex) elt te)
  (hN:X.N.Nodup) (hy:X.N[i]?=some y) (hl:X.env.scope.names.lookup y=some .local) (hsw:swapsWith (.ListComp elt [⟨.Name x px,iter,ifs,0⟩] sc pos) (some (.Name y py)) spos.line X.env=pure true)
  (hs:∀ v,foldedSetIterable iter X.env v=pure v:=by intro _;rfl):PS X (.Assign [.Name y py] (.ListComp elt [⟨.Name x px,iter,ifs,0⟩] sc pos) spos) (tAsg (tComp wi js tt te) (gName i)):=by
 intro pins s σ H D I h
 rw [<- hNX] at S
 have hfree:∀ y∈sc.names,y.2=.free->∃ c,X.env.cells.lookup y.1=some c:=fun y hy hf=>I.ok.has y.1 (.inl (by show X.env.scope.names.lookup y.1=_;rw [hsx];exact S.free y hy hf))
 rw [exec_Assign_Name_used _ _ _ _ hsw]
 refine wpAny_bind (wpAny_standAt (wpAny_bind ?_))
 show wpAny _ _ (do let _ <- comprehension (.ListComp elt [⟨.Name x px,iter,ifs,0⟩] sc pos) sc X.env _ (newList []) false (eval iter X.env) (some (assign (.Name y py) X.env))) _ _ s
 refine wpAny_bind (wpAny_mono (wpAny_comprehension_free (use:=some (assign (.Name y py) X.env)) (Q:=fun _ st=>SP X pins D .next st) rfl hs (closure_eq hfree) S.kind S.names
  (thn (hi pins s σ H _ I h) fun v s1 h1=>thn h1 fun itv s2 h2=>?_)) (fun _ st hq=>wpAny_pure (wpAny_pure hq)) fun _ _ e=>e)
 obtain ⟨it,fp,tn,J,H2,e,I2,T,st2,f2,W,w0,step⟩:=h2
 subst e
 refine comp_core (Q:=fun v H1=>gName i v σ H1 D.nx) (RR:=fun acc C=>compPost (model X.prog X.w) X.A X.xe (some (assign (.Name y py) X.env)) (fun _ st=>SP X pins D .next st) acc C) S hsx hcalm ht he I2 T st2 f2 w0 step fun Dl C s' H' I' q hsl52 hC=>?_
 obtain ⟨m,hm⟩:=hsl52
 obtain ⟨f0,f1,_,f3,f4,f5⟩:=hC
 refine wpAny_assign_Name (store_ok2 I' hN hy (.inl hl) (show RelV (.ref Dl) (.ref Dl) from rfl) (fun s'' I'' hsl53=>?_) (.inr hl))
 obtain ⟨a,sb,ha⟩:=hsl53
 have aC:C≠a:=fun z=>by
  rcases ha with ha | ha
  ·exact f1 (z.trans ha)
  ·exact f4 y a ha z.symm
 refine ⟨m,hm.sameBut sb aC,fun h' sb'=>?_⟩
 exact ⟨_,_,I''.turned (t':=s''.toks) (fun b o hb e=>(sb'.2 b hb).trans e) f0 f1 f3 f4 f5,q⟩
end
end L2
namespace L2
open PySem PySem.Spec PyProof.Rows
section
variable {κ:Type} [DecidableEq κ]
noncomputable def valV (kvs:List (κ × V)) (k:κ):Option V:=(kvs.find? fun kv=>decide (kv.1=k)).map (·.2)
noncomputable def putK (kvs:List (κ × V)) (k:κ) (v:V):List (κ × V) :=
 if (kvs.any fun kv=>decide (kv.1=k))=true then kvs.map (fun kv=>if kv.1=k then (kv.1,v) else kv) else kvs++[(k,v)]
theorem valV_pos {p:κ × V} {r:List (κ × V)} {k:κ} (e:p.1=k):valV (p::r) k=some p.2:=by simp [valV,List.find?_cons,e]
theorem valV_neg {p:κ × V} {r:List (κ × V)} {k:κ} (e:¬ p.1=k):valV (p::r) k=valV r k:=by simp [valV,List.find?_cons,e]
theorem valV_any (k:κ):∀ kvs:List (κ × V),(kvs.any fun kv=>decide (kv.1=k))=(valV kvs k).isSome
 | []=>rfl
 | p::r=>by
  rw [List.any_cons]
  by_cases e:p.1=k
  ·simp only [valV_pos e,decide_eq_true e,Bool.true_or,Option.isSome_some]
  ·rw [valV_neg e,decide_eq_false e,Bool.false_or];exact valV_any k r
theorem valV_map (k j:κ) (y:V):∀ kvs:List (κ × V),valV (kvs.map fun kv=>if kv.1=k then (kv.1,y) else kv) j=(valV kvs j).map fun x=>if j=k then y else x
 | []=>rfl
 | p::r=>by
  have ih:=valV_map k j y r
  rw [List.map_cons]
  by_cases h:p.1=k
  ·rw [if_pos h]
   by_cases e:p.1=j
   ·rw [valV_pos (p:=(p.1,y)) e,valV_pos e,Option.map_some,if_pos (e.symm.trans h)]
   ·rw [valV_neg (p:=(p.1,y)) e,valV_neg e,ih]
  ·rw [if_neg h]
   by_cases e:p.1=j
   ·rw [valV_pos (p:=p) e,valV_pos e,Option.map_some,if_neg (fun z=>h (e.trans z))]
   ·rw [valV_neg (p:=p) e,valV_neg e,ih]
theorem valV_snoc (k j:κ) (y:V):∀ kvs:List (κ × V),valV kvs k=none->valV (kvs++[(k,y)]) j=if j=k then some y else valV kvs j
 | [],_=>by
  by_cases e:k=j
  ·rw [if_pos e.symm];exact valV_pos (p:=(k,y)) e
  ·rw [if_neg (fun z=>e z.symm)];exact valV_neg (p:=(k,y)) e
 | p::r,hn=>by
  rw [List.cons_append]
  have hk:¬ p.1=k:=fun z=>by rw [valV_pos z] at hn;cases hn
  rw [valV_neg hk] at hn
  have ih:=valV_snoc k j y r hn
  by_cases e:p.1=j
  ·rw [valV_pos e,valV_pos e,if_neg (fun z=>hk (e.trans z))]
  ·rw [valV_neg e,valV_neg e,ih]
theorem valV_put (kvs:List (κ × V)) (k j:κ) (y:V):valV (putK kvs k y) j=if j=k then some y else valV kvs j:=by
 unfold putK
 by_cases a:(kvs.any fun kv=>decide (kv.1=k))=true
 ·rw [if_pos a,valV_map]
  rw [valV_any] at a
  by_cases e:j=k
  ·obtain ⟨x,hx⟩:=Option.isSome_iff_exists.mp a
   rw [if_pos e,e,hx,Option.map_some,if_pos rfl]
  ·rw [if_neg e]
   cases valV kvs j with
   | none=>rfl
   | some x=>rw [Option.map_some,if_neg e]
 ·rw [if_neg a]
  refine valV_snoc k j y kvs ?_
  rw [valV_any] at a
  cases q:valV kvs k with
  | none=>rfl
  | some x=>rw [q] at a;exact (a rfl).elim
theorem length_putK (kvs:List (κ × V)) (k:κ) (v:V):(putK kvs k v).length<=kvs.length+1:=by
 unfold putK
 split
 ·rw [List.length_map];omega
 ·rw [List.length_append,List.length_cons,List.length_nil];omega
theorem RelO.isSome_eq {o:Option V} {u:Option Value} (r:RelO o u):o.isSome=u.isSome:=by
 cases o with
 | none=>cases u with
  | none=>rfl
  | some _=>exact (show False from r).elim
 | some _=>cases u with
  | none=>exact (show False from r).elim
  | some _=>rfl
theorem RelO.getD {o:Option V} {u:Option Value} {d:V} {d':Value} (r:RelO o u) (rd:RelV d d'):RelV (o.getD d) (u.getD d'):=by
 cases o with
 | none=>cases u with
  | none=>exact rd
  | some _=>exact (show False from r).elim
 | some _=>cases u with
  | none=>exact (show False from r).elim
  | some _=>exact r
theorem KV.val {kvs:List (κ × V)} {vs:List (κ × Value)} (r:KV kvs vs) (k:κ):RelO (valV kvs k) (valueAt vs k):=by
 unfold KV at r
 induction r with
 | nil=>exact True.intro
 | @cons p q ps qs h t ih =>
  obtain ⟨h1,h2⟩:=h
  by_cases e:p.1=k
  ·have e':q.1=k:=h1.symm.trans e
   have b:valueAt (q::qs) k=some q.2:=by simp [valueAt,List.find?_cons,e']
   rw [valV_pos e,b];exact h2
  ·have e':¬ q.1=k:=fun z=>e (h1.trans z)
   have b:valueAt (q::qs) k=valueAt qs k:=by simp [valueAt,List.find?_cons,e']
   rw [valV_neg e,b];exact ih
theorem KV.any {kvs:List (κ × V)} {vs:List (κ × Value)} (r:KV kvs vs) (k:κ):(kvs.any fun kv=>decide (kv.1=k))=vs.any fun kv=>decide (kv.1=k):=by
 unfold KV at r
 induction r with
 | nil=>rfl
 | cons h t ih=>rw [List.any_cons,List.any_cons,ih,h.1]
theorem KV.repl {kvs:List (κ × V)} {vs:List (κ × Value)} (r:KV kvs vs) (k:κ) {y:V} {u:Value} (ry:RelV y u) :
  KV (kvs.map fun kv=>if kv.1=k then (kv.1,y) else kv) (vs.map fun kv=>if kv.1=k then (kv.1,u) else kv):=by
 unfold KV at r ⊢
 induction r with
 | nil=>exact .nil
 | @cons p q ps qs h t ih =>
  rw [List.map_cons,List.map_cons]
  refine .cons ?_ ih
  obtain ⟨h1,h2⟩:=h
  by_cases e:p.1=k
  ·rw [if_pos e,if_pos (h1.symm.trans e)];exact ⟨h1,ry⟩
  ·rw [if_neg e,if_neg (fun z=>e (h1.trans z))];exact ⟨h1,h2⟩
theorem KV.put {kvs:List (κ × V)} {vs:List (κ × Value)} (r:KV kvs vs) (k:κ) {y:V} {u:Value} (ry:RelV y u):KV (putK kvs k y) (stored vs k u):=by
 unfold putK stored
 rw [r.any k]
 by_cases e:(vs.any fun kv=>decide (kv.1=k))=true
 ·rw [if_pos e,if_pos e];exact r.repl k ry
 ·rw [if_neg e,if_neg e];exact Paired.snoc r ⟨rfl,ry⟩
theorem KV.length {kvs:List (κ × V)} {vs:List (κ × Value)} (r:KV kvs vs):kvs.length=vs.length:=Paired.length r
end
theorem kV_is {P:Program} {w:World} {k:Key} {u:Value} (r:RelV (kV k) u):(mixKind P w).is k u=true:=by
 cases k with
 | inl i=>obtain ⟨t,e⟩:=(show ∃ t,u=Value.int i t from r);subst e;exact mixKind_int P w i t
 | inr x=>obtain ⟨t,e⟩:=(show ∃ t,u=Value.str x t from r);subst e;exact mixKind_str P w x t
theorem items_are {P:Program} {w:World}:∀ {ks:List Key} {us:List Value},Vals (ks.map kV) us->ItemsAre (mixKind P w) ks us
 | [],_,r=>by rw [List.map_nil] at r;cases r;exact .nil
 | k::ks,_,r=>by
  rw [List.map_cons] at r
  cases r with
  | cons h t=>exact .cons (kV_is h) (items_are t)
noncomputable abbrev KT (H:Hp):List (List Key × V)->List (List Key × Addr × Value)->Prop:=Paired fun p q=>p.1=q.1/\H q.2.1=some (.tup (p.1.map kV))/\RelV p.2 q.2.2
theorem KT.val {H:Hp} {kvs:List (List Key × V)} {xs:List (List Key × Addr × Value)} (r:KT H kvs xs) (k:List Key):RelO (valV kvs k) ((atKey xs k).map (·.2)):=by
 induction r with
 | nil=>exact True.intro
 | @cons p q ps qs h t ih =>
  obtain ⟨h1,_,h2⟩:=h
  by_cases e:p.1=k
  ·have e':q.1=k:=h1.symm.trans e
   have b:atKey (q::qs) k=some q.2:=by simp [atKey,List.find?_cons,e']
   rw [valV_pos e,b];exact h2
  ·have e':¬ q.1=k:=fun z=>e (h1.trans z)
   have b:atKey (q::qs) k=atKey qs k:=by simp [atKey,List.find?_cons,e']
   rw [valV_neg e,b];exact ih
theorem KT.repl {H:Hp} {kvs:List (List Key × V)} {xs:List (List Key × Addr × Value)} (r:KT H kvs xs) (k:List Key) {y:V} {u:Value} (ry:RelV y u) :
  KT H (kvs.map fun kv=>if kv.1=k then (kv.1,y) else kv) (xs.map (putAt k u)):=by
 induction r with
 | nil=>exact .nil
 | @cons p q ps qs h t ih =>
  rw [List.map_cons,List.map_cons]
  refine .cons ?_ ih
  obtain ⟨h1,h2,h3⟩:=h
  unfold putAt
  by_cases e:p.1=k
  ·rw [if_pos e,if_pos (h1.symm.trans e)];exact ⟨h1,h2,ry⟩
  ·rw [if_neg e,if_neg (fun z=>e (h1.trans z))];exact ⟨h1,h2,h3⟩
theorem KT.put {H:Hp} {kvs:List (List Key × V)} {xs:List (List Key × Addr × Value)} (r:KT H kvs xs) (k:List Key) {b:Addr} {y:V} {u:Value} (hb:H b=some (.tup (k.map kV))) (ry:RelV y u) :
  KT H (putK kvs k y) (storedH xs k b u):=by
 have e:(kvs.any fun kv=>decide (kv.1=k))=(atKey xs k).isSome:=by
  rw [valV_any,(r.val k).isSome_eq,Option.isSome_map]
 unfold putK storedH
 rw [e]
 by_cases q:(atKey xs k).isSome=true
 ·rw [if_pos q,if_pos q];exact r.repl k ry
 ·rw [if_neg q,if_neg q];exact Paired.snoc r ⟨rfl,hb,ry⟩
theorem KT.keeps {H H':Hp} {kvs:List (List Key × V)} {xs:List (List Key × Addr × Value)} (r:KT H kvs xs) (ht:∀ b ys,H b=some (.tup ys)->H' b=some (.tup ys)):KT H' kvs xs :=
 Paired.mapP r fun _ _ z=>⟨z.1,ht _ _ z.2.1,z.2.2⟩
section
variable {P:Program} {w:World} {H:Hp} {h:Heap} {a:Addr}
theorem rd_of {u:HO} (ok:HOk P w H h) (e:Rd H a u):ObjOk P w H h a u:=e.ok ok
theorem dk_rd {kvs:List (Key × V)} (ok:HOk P w H h) (e:Rd H a (.dK kvs)):kvs.length<=sizeLine/\(a == sysModules)=false/\∃ vs,KV kvs vs/\h.DictOf (mixKind P w) a vs :=
 show ObjOk P w H h a (.dK kvs) from rd_of ok e
theorem dk_of {kvs:List (Key × V)} (ok:HOk P w H h) (e:H a=some (.dK kvs)):kvs.length<=sizeLine/\(a == sysModules)=false/\∃ vs,KV kvs vs/\h.DictOf (mixKind P w) a vs:=dk_rd ok (.inl e)
theorem key_of {ks:List Key} (ok:HOk P w H h) (e:H a=some (.tup (ks.map kV))):(tupleKind (mixKind P w)).is h ks a:=by
 obtain ⟨_,its,r,o,h1,h2,n,h3⟩:=(show ObjOk P w H h a (.tup (ks.map kV)) from ok a _ e)
 exact ⟨o,its.toArray,n,h1,h2,h3,by simpa using items_are r⟩
theorem dt_rd {kvs:List (List Key × V)} (ok:HOk P w H h) (e:Rd H a (.dT kvs)):kvs.length<=sizeLine/\(a == sysModules)=false /\
  ∃ xs,KT H kvs xs/\h.DictOfH (tupleKind (mixKind P w)) a xs:=by
 obtain ⟨z,y,xs,r,o,es,ep,h1,h2,h3,h4,h5⟩:=(show ObjOk P w H h a (.dT kvs) from rd_of ok e)
 refine ⟨z,y,xs,r,o,es,ep,h1,h2,h3,h4,fun x hx=>?_,h5⟩
 have all:∀ {l:List (List Key × V)} {m:List (List Key × Addr × Value)},KT H l m->∀ x∈m,(tupleKind (mixKind P w)).is h x.1 x.2.1:=by
  intro l m q
  induction q with
  | nil=>intro x hx;exact nomatch hx
  | @cons p q ps qs hq t ih =>
   intro x hx
   rcases List.mem_cons.mp hx with e | hx
   ·subst e
    exact key_of ok (by rw [<- hq.1];exact hq.2.1)
   ·exact ih x hx
 exact all r x hx
theorem dt_of {kvs:List (List Key × V)} (ok:HOk P w H h) (e:H a=some (.dT kvs)):kvs.length<=sizeLine/\(a == sysModules)=false /\
  ∃ xs,KT H kvs xs/\h.DictOfH (tupleKind (mixKind P w)) a xs:=dt_rd ok (.inl e)
end
noncomputable def DGet (H:Hp) (a:Addr) (y:V) (r:Option V):Prop :=
 (∃ kvs k,Rd H a (.dK kvs)/\y=kV k/\r=valV kvs k)∨∃ kvs k b,Rd H a (.dT kvs)/\y=.ref b/\H b=some (.tup (k.map kV))/\r=valV kvs k
noncomputable def DPut (H:Hp) (a:Addr) (y v:V) (H':Hp):Prop :=
 (∃ kvs k,H a=some (.dK kvs)/\y=kV k/\kvs.length<sizeLine/\H'=upd H a (.dK (putK kvs k v))) ∨
 ∃ kvs k b,H a=some (.dT kvs)/\y=.ref b/\H b=some (.tup (k.map kV))/\kvs.length<sizeLine/\H'=upd H a (.dT (putK kvs k v))
theorem DGet.k {H:Hp} {a:Addr} {kvs:List (Key × V)} {k:Key} (e:H a=some (.dK kvs)):DGet H a (kV k) (valV kvs k):=.inl ⟨kvs,k,.inl e,rfl,rfl⟩
theorem DGet.t {H:Hp} {a b:Addr} {kvs:List (List Key × V)} {k:List Key} (e:H a=some (.dT kvs)) (eb:H b=some (.tup (k.map kV))):DGet H a (.ref b) (valV kvs k):=.inr ⟨kvs,k,b,.inl e,rfl,eb,rfl⟩
theorem DPut.k {H:Hp} {a:Addr} {kvs:List (Key × V)} {k:Key} {v:V} (e:H a=some (.dK kvs)) (hl:kvs.length<sizeLine):DPut H a (kV k) v (upd H a (.dK (putK kvs k v))):=.inl ⟨kvs,k,e,rfl,hl,rfl⟩
theorem DPut.t {H:Hp} {a b:Addr} {kvs:List (List Key × V)} {k:List Key} {v:V} (e:H a=some (.dT kvs)) (eb:H b=some (.tup (k.map kV))) (hl:kvs.length<sizeLine) :
  DPut H a (.ref b) v (upd H a (.dT (putK kvs k v))):=.inr ⟨kvs,k,b,e,rfl,eb,hl,rfl⟩
section
variable {X:Cx} {pins:List (Addr × Obj)} {σ:St} {H:Hp} {s:Shared} {a:Addr} {y v:V} {u r:Value} {o:Option V} {A:Around} {E:Value->Shared->Prop}
theorem Inv.big (I:Inv X pins σ H s):sysModules<s.heap.objs.size:=by
 have h:mainGlobals<s.heap.objs.size:=(I.mod.glob.keeps I.bk).lt
 exact Nat.lt_trans (by decide) h
theorem d_getItem {Q:Value->Shared->Prop} (hu:A.units+1<cLine) (I:Inv X pins σ H s) (g:DGet H a y (some v)) (ry:RelV y u) (h:∀ w' s',Inv X pins σ H s'->RelV v w'->Q w' s') :
  wpAny (model X.prog X.w) A (getItem (.ref a) u) Q E s:=by
 rcases g with ⟨kvs,k,e,ey,l⟩ | ⟨kvs,k,b,e,ey,eb,l⟩
 ·subst ey
  obtain ⟨z,hd,vs,rel,dd⟩:=dk_rd I.hok e
  obtain ⟨w',hw,rw'⟩:=RelO.some_of (v:=v) (o:=valueAt vs k) (by rw [l];exact rel.val k)
  exact wpAny_getItem_of (kV_is ry) dd.mapOf hw (h w' _ (I.tok _) rw')
 ·subst ey
  cases (show u=Value.ref b from ry)
  obtain ⟨z,hd,xs,rel,dd⟩:=dt_rd I.hok e
  obtain ⟨w',hw,rw'⟩:=RelO.some_of (v:=v) (o:=(atKey xs k).map (·.2)) (by rw [l];exact rel.val k)
  obtain ⟨p,hp,hp2⟩:=Option.map_eq_some_iff.mp hw
  refine wpAny_getItem_heap (tupleKind_room_in1 hu) (key_of I.hok eb) dd hp ?_
  rw [hp2]
  exact h w' _ (I.tok _) rw'
theorem d_write {h':Heap} {t':Nat} {ob:HO} (I:Inv X pins σ H s) (mu:Mut (H a)) (hs:Heap.SameBut a s.heap h') (he:∃ q,h'.get? a=some q) (new:ObjOk X.prog X.w (upd H a ob) h' a ob) :
  Inv X pins σ (upd H a ob) { s with heap:=h',toks:=t' } :=
 I.write (x:=a) (e:=a) mu (.inl rfl) (fun b q hb z=>(hs.2 b hb).trans z) he new
theorem dk_new {P:Program} {w:World} {H':Hp} {h':Heap} {kvs:List (Key × V)} {vs:List (Key × Value)} (z:kvs.length<=sizeLine) (hd:(a == sysModules)=false) (rel:KV kvs vs) (dd:h'.DictOf (mixKind P w) a vs) :
  ObjOk P w H' h' a (.dK kvs):=⟨z,hd,vs,rel,dd⟩
theorem d_setItem {H':Hp} {Q:Unit->Shared->Prop} (hu:A.units+1<cLine) (I:Inv X pins σ H s) (g:DPut H a y v H') (ry:RelV y u) (rv:RelV v r) (h:∀ s',Inv X pins σ H' s'->Q () s') :
  wpAny (model X.prog X.w) A (setItem (.ref a) u r) Q E s:=by
 rcases g with ⟨kvs,k,e,ey,l,eH⟩ | ⟨kvs,k,b,e,ey,eb,l,eH⟩
 ·subst ey eH
  obtain ⟨z,hd,vs,rel,dd⟩:=dk_of I.hok e
  have hz:vs.length<=sizeLine:=by rw [<- rel.length];exact z
  have hl:(putK kvs k v).length<=sizeLine:=by have:=length_putK kvs k v;omega
  refine wpAny_setItem_pairs (hsz:=hz) (kV_is ry) dd fun h' dd' hs=>h _ ?_
  have he:∃ q,h'.get? a=some q:=by obtain ⟨q,_,_,hq,_⟩:=dd';exact ⟨q,hq⟩
  exact d_write I (by rw [e];exact True.intro) hs he (dk_new hl hd (rel.put k rv) dd')
 ·subst ey eH
  cases (show u=Value.ref b from ry)
  obtain ⟨z,hd,xs,rel,dd⟩:=dt_of I.hok e
  have hz:xs.length<=sizeLine:=by rw [<- Paired.length rel];exact z
  have hl:(putK kvs k v).length<=sizeLine:=by have:=length_putK kvs k v;omega
  refine wpAny_setItem_heap (hsz:=hz) (tupleKind_room_in1 hu) (key_of I.hok eb) dd fun h' dd' hs=>h _ ?_
  obtain ⟨q,es,ep,hq,h2,h3,h4,_,h5⟩:=dd'
  refine d_write I (by rw [e];exact True.intro) hs ⟨q,hq⟩ ⟨hl,hd,_,(rel.put k eb rv).keeps fun c ys ec=>?_,q,es,ep,hq,h2,h3,h4,h5⟩
  rw [upd_ne (ne_of ec e (fun z=>nomatch z))]
  exact ec
end
section
variable {X:Cx} {pins:List (Addr × Obj)} {σ:St} {H:Hp} {s:Shared} {a:Addr} {kvs:List (Key × V)} {k:Key} {u:Value} {A:Around} {E:Value->Shared->Prop}
end
noncomputable def NoSl (i:Expr):Prop:=∀ ov iv,subscripted i false ov iv=operate [ov,iv] (getItem ov iv)
theorem subD_of {prog:Program} {w:World} {A:Around} {E:Value->Shared->Prop} {s:Shared} {env:Env} {value slice:Expr} {pos:Pos} {T id:String} {Q:Value->Shared->Prop}
  (hl:typeLookup (.type T) "__getitem__"=pure (some (.builtin id))) (hs:NoSl slice)
  (h:wpAny (model prog w) A (eval value env) (fun o s₁=>wpAny (model prog w) A (eval slice env) (fun i s₂=>s₂.TypeIs o T/\wpAny (model prog w) A (getItem o i) Q E s₂) E s₁) E s) :
  wpAny (model prog w) A (eval (.Subscript value slice pos) env) Q E s:=by
 refine Subscript_ (wpAny_mono h (fun o s₁ h₁=>wpAny_mono h₁ (fun i s₂ h₂=>?_) fun _ _ x=>x) fun _ _ x=>x)
 obtain ⟨hT,h₂⟩:=h₂
 unfold subscriptTail
 refine wpAny_bind ?_
 rw [getitemInPython_of_ne hT.not_modules]
 refine wpAny_bind (wpAny_specialOf hT hl ?_)
 have fin:wpAny (model prog w) A (subscripted slice false o i) (fun r s₃=>wpAny (model prog w) A (letTemporaryGo value o r >>= fun _=>pure r) Q E s₃) E s₂:=by
  rw [hs o i]
  exact wpAny_operating (wpAny_mono h₂ (fun r s₃ h₃=>wpAny_bind (wpAny_letTemporaryGo (wpAny_pure h₃))) fun _ _ x=>x)
 first
  | exact wpAny_pure (wpAny_bind fin)
  | exact wpAny_bind (wpAny_pure (wpAny_bind fin))
  | exact wpAny_bind fin
theorem dict_typeIs {X:Cx} {pins:List (Addr × Obj)} {σ:St} {H:Hp} {s:Shared} {a:Addr} {y:V} {o:Option V} (I:Inv X pins σ H s) (g:DGet H a y o):s.TypeIs (.ref a) "dict":=by
 rcases g with ⟨kvs,k,e,_,_⟩ | ⟨kvs,k,b,e,_,_,_⟩
 ·obtain ⟨_,_,vs,_,dd⟩:=dk_rd I.hok e
  exact dd.typeIs
 ·obtain ⟨_,_,xs,_,dd⟩:=dt_rd I.hok e
  exact dd.typeIs
noncomputable def tDGet (td ty:TE):TE:=fun σ H Q=>td σ H fun x H1=>ty σ H1 fun y H2=>∃ a v,x=.ref a/\DGet H2 a y (some v)/\Q v H2
noncomputable def sDPut (td ty tv:TE):TS:=fun D σ H=>tv σ H fun v H1=>td σ H1 fun x H2=>ty σ H2 fun y H3=>∃ a H4,x=.ref a/\DPut H3 a y v H4/\D.nx σ H4
section
variable {X:Cx} {o i e value:Expr} {pos pos' tpos:Pos} {td ty tv:TE}
theorem pe_dget (hu:X.A.units+1<cLine) (ho:PE X o td) (hi:PE X i ty) (hs:NoSl i):PE X (.Subscript o i pos) (tDGet td ty):=by
 intro pins s σ H Q I h
 refine subD_of PySem.F.slot_dict_getitem.lookup hs (thn (ho pins s σ H _ I h) fun u s1 ⟨x,H1,I1,rx,q1⟩=>thn (hi pins s1 σ H1 _ I1 q1) fun iv s2 hsl54=>?_)
 obtain ⟨y,H2,I2,ry,a,v,ex,g,q2⟩:=hsl54
 subst ex
 obtain rfl:u=Value.ref a:=rx
 exact ⟨dict_typeIs I2 g,d_getItem hu I2 g ry fun w' s3 I3 rw'=>⟨v,H2,I3,rw',q2⟩⟩
theorem ps_dput (hu:X.A.units+1<cLine) (ho:PE X o td) (hi:PE X i ty) (hv:PE X value tv) (hs:swapsWith value (some (.Subscript o i pos')) pos.line X.env=pure false) :
  PS X (.Assign [.Subscript o i pos'] value pos) (sDPut td ty tv):=by
 intro pins s σ H D I h
 refine wpAny_Assign_Subscript (thn (hv pins s σ H _ I h) fun r s1 ⟨v,H1,I1,rv,q1⟩=>thn (ho pins s1 σ H1 _ I1 q1) fun u s2 ⟨x,H2,I2,rx,q2⟩=>thn (hi pins s2 σ H2 _ I2 q2) fun iv s3 hsl55=>?_) hs
 obtain ⟨y,H3,I3,ry,a,H4,ex,g,q3⟩:=hsl55
 subst ex
 obtain rfl:u=Value.ref a:=rx
 exact d_setItem hu I3 g ry rv fun s4 I4=>⟨σ,H4,I4,q3⟩
end
theorem dk_empty {P:Program} {w:World} {H:Hp} (h:Heap) (hb:sysModules<h.objs.size):ObjOk P w H (h.push { cls:=.type "dict",data:=.dict #[] }) h.objs.size (.dK []) :=
 ⟨Nat.zero_le _,beq_eq_false_iff_ne.mpr (Ne.symm (Nat.ne_of_lt hb)),[],.nil,Heap.DictOf.new h⟩
theorem dt_empty {P:Program} {w:World} {H:Hp} (h:Heap) (hb:sysModules<h.objs.size):ObjOk P w H (h.push { cls:=.type "dict",data:=.dict #[] }) h.objs.size (.dT []) :=
 ⟨Nat.zero_le _,beq_eq_false_iff_ne.mpr (Ne.symm (Nat.ne_of_lt hb)),[],.nil,_,#[],0,Heap.get?_push_size _ rfl,⟨rfl,rfl,rfl⟩,rfl,rfl,List.nodup_nil⟩
noncomputable def tDNewK:TE:=fun _ H Q=>∀ p,H p=none->Q (.ref p) (upd H p (.dK []))
noncomputable def tDNewT:TE:=fun _ H Q=>∀ p,H p=none->Q (.ref p) (upd H p (.dT []))
section
variable {X:Cx} {pos:Pos}
theorem pe_dnewK:PE X (.Dict [] [] pos) tDNewK:=fun pins s σ H Q I h =>
 wpAny_Dict_empty ⟨.ref s.heap.objs.size,_,I.laid (a:=s.heap.objs.size) (o:=.dK []) (t':=s.toks) (fun _ _ q=>Heap.get?_push_of_some _ q) (Nat.le_refl _) (dk_empty s.heap I.big),rfl,h _ (I.hok.fresh (Nat.le_refl _))⟩
theorem pe_dnewT:PE X (.Dict [] [] pos) tDNewT:=fun pins s σ H Q I h =>
 wpAny_Dict_empty ⟨.ref s.heap.objs.size,_,I.laid (a:=s.heap.objs.size) (o:=.dT []) (t':=s.toks) (fun _ _ q=>Heap.get?_push_of_some _ q) (Nat.le_refl _) (dt_empty s.heap I.big),rfl,h _ (I.hok.fresh (Nat.le_refl _))⟩
end
structure M2 (X:Cx) (o:Expr) (m:Str) (apos:Pos) (e f:Expr) (cpos:Pos):Prop where
 base:attributeBase o m X.env (eval o X.env)=eval o X.env
 few:((backTo cpos (starEach [e,f] X.env)).all (fun x=>!x.1)&&(backToKw cpos (keywordEach [] X.env)).all (fun x=>x.1.isSome)
  && decide (([e,f]:List Expr).length+([]:List Keyword).length+(if ([]:List Keyword).isEmpty then 0 else 1)<30))=true
 line:(apos.endLine == cpos.line)=true
 trees:backTo cpos (starEach [e,f] X.env)=[(false,eval e X.env),(false,eval f X.env)]
noncomputable def IsD (H:Hp) (a:Addr):Prop:=(∃ kvs,Rd H a (.dK kvs))∨∃ kvs,Rd H a (.dT kvs)
theorem isD_at {X:Cx} {pins:List (Addr × Obj)} {σ:St} {H:Hp} {s:Shared} {a:Addr} (I:Inv X pins σ H s) (d:IsD H a) :
  s.TypeIs (.ref a) "dict"/\(∀ b,Value.ref a=.ref b->∃ ob,s.heap.get? b=some ob/\ob.dict=none)/\(a == sysModules)=false:=by
 rcases d with ⟨kvs,e⟩ | ⟨kvs,e⟩
 ·obtain ⟨_,hd,vs,_,dd⟩:=dk_rd I.hok e
  refine ⟨dd.typeIs,fun b q=>?_,hd⟩
  cases q
  obtain ⟨ob,_,_,h1,h2,_⟩:=dd
  exact ⟨ob,h1,h2.2.1⟩
 ·obtain ⟨_,hd,xs,_,dd⟩:=dt_rd I.hok e
  refine ⟨dd.typeIs,fun b q=>?_,hd⟩
  cases q
  obtain ⟨ob,_,_,h1,h2,_⟩:=dd
  exact ⟨ob,h1,h2.2.1⟩
section
variable {X:Cx} {pins:List (Addr × Obj)} {σ:St} {H:Hp} {s:Shared} {a:Addr} {y d:V} {u r:Value} {o:Option V} {A:Around} {E:Value->Shared->Prop}
theorem d_get2 {Q:Value->Shared->Prop} (hu:A.units+1<cLine) (I:Inv X pins σ H s) (g:DGet H a y o) (ry:RelV y u) (rd:RelV d r) (h:∀ w' s',Inv X pins σ H s'->RelV (o.getD d) w'->Q w' s') :
  wpAny (model X.prog X.w) A (call (.builtin "dict.get") [.ref a,u,r]) Q E s:=by
 rcases g with ⟨kvs,k,e,ey,l⟩ | ⟨kvs,k,b,e,ey,eb,l⟩
 ·subst ey
  obtain ⟨z,hd,vs,rel,dd⟩:=dk_rd I.hok e
  refine call_meetsIn PySem.F.slot_dict_get dd.typeIs PySem.F.entry_dict_get (PySem.F.args_dict_get_3 _ _ _) (meets_dict_get_default (mixKind X.prog X.w) a (kV_is ry) hd r) ⟨_,dd.mapOf,h _ _ (I.tok _) ?_⟩
  rw [l]
  exact (rel.val k).getD rd
 ·subst ey
  cases (show u=Value.ref b from ry)
  obtain ⟨z,hd,xs,rel,dd⟩:=dt_rd I.hok e
  refine call_meetsIn PySem.F.slot_dict_get dd.typeIs PySem.F.entry_dict_get (PySem.F.args_dict_get_3 _ _ _) (meetsH_dict_get_default (tupleKind (mixKind X.prog X.w)) a b hd r) ⟨tupleKind_room_in1 hu,k,xs,key_of I.hok eb,dd,h _ _ (I.tok _) ?_⟩
  rw [l]
  exact (rel.val k).getD rd
end
noncomputable def tDGet2 (td ty tx:TE):TE:=fun σ H Q=>td σ H fun x H1=>∃ a,x=.ref a/\IsD H1 a/\ty σ H1 fun y H2=>tx σ H2 fun z H3=>∃ o,DGet H3 a y o/\Q (o.getD z) H3
section
variable {X:Cx} {o e f:Expr} {apos cpos:Pos} {td ty tx:TE}
theorem pe_dget2 (hu:X.A.units+1<cLine) (ho:PE X o td) (he:PE X e ty) (hf:PE X f tx) (m:M2 X o "get" apos e f cpos):PE X (.Call (.Attribute o "get" apos) [e,f] [] cpos) (tDGet2 td ty tx):=by
 intro pins s σ H Q I h
 refine wpAny_Call_method m.base m.few m.line PySem.F.plainAttrs_dict PySem.F.slot_dict_get PySem.F.type_dict_get (thn (ho pins s σ H _ I h) fun u s1 hsl56=>?_)
 obtain ⟨x,H1,I1,rx,a,ex,d,q1⟩:=hsl56
 subst ex
 obtain rfl:u=Value.ref a:=rx
 obtain ⟨t1,t2,_⟩:=isD_at I1 d
 refine ⟨t1,t2,?_⟩
 rw [m.trees]
 refine Calls.callWith_builtin rfl (Calls.evalArgs_plain (Calls.spliced_cons (thn (he pins s1 σ H1 _ I1 q1) fun iv s2 ⟨y,H2,I2,ry,q2⟩ =>
  Calls.spliced_cons (thn (hf pins s2 σ H2 _ I2 q2) fun fv s3 ⟨z,H3,I3,rz,ov,g,q3⟩=>Calls.spliced_nil ?_))))
 exact d_get2 hu I3 g ry rz fun w' s4 I4 rw'=>⟨_,H3,I4,rw',q3⟩
end
section
variable {X:Cx} {pins:List (Addr × Obj)} {σ:St} {H:Hp} {s:Shared} {a:Addr} {kvs:List (Key × V)} {A:Around} {E:Value->Shared->Prop}
end
section
variable {X:Cx} {pins:List (Addr × Obj)} {σ:St} {H:Hp} {s:Shared} {a:Addr} {y:V} {u:Value} {A:Around} {E:Value->Shared->Prop}
end
end L2
namespace L2
open PySem PySem.Spec PyProof.Rows
section
variable {X:Cx}
end
section
variable {κ:Type} [DecidableEq κ]
end
end L2
namespace Mm
open PySem
end Mm
namespace Mm
open PySem L2
theorem ix_tupK {X:Cx} {K:PySem.W.Frag} (h:X.K=K):IxR X (rIxT K):=by subst h;exact ix_tup
theorem bt_tuple:bootBuiltins "tuple"=some (.type "tuple"):=by decide +kernel
theorem comp_tup {js:List Nat} {tt:TT} {te:TE} {K:PySem.W.Frag} {a:Addr} {xs:List V} {σ:St} {H:Hp} {Q:VK} (Pv:Nat->List V->Hp->Prop) (h0:Pv 0 [] H) (hl:∀ i ys H,i<=xs.length->Pv i ys H->SqT K H a xs)
  (hs:∀ i x ys H,xs[i]?=some x->Pv i ys H->tt (some x::pick js σ) H fun b H2=>if b=true then te (some x::pick js σ) H2 fun y H3=>ys.length<sizeLine/\Pv (i+1) (ys++[y]) H3 else Pv (i+1) ys H2)
  (hd:∀ ys H,Pv xs.length ys H->∀ p,H p=none->Q (.ref p) (upd H p (.lst ys))) :
  tCompB (Itt K a) js tt te σ H Q:=by
 refine ⟨fun i m ys H=>m=xs.length-i/\i<=xs.length/\Pv i ys H,⟨xs.length,by simp,Nat.zero_le _,h0⟩,?_⟩
 rintro i m ys H ⟨rfl,hi,p⟩
 have q:=hl i ys H hi p
 by_cases hlt:i<xs.length
 ·refine .inr ⟨⟨xs,xs[i],q,by simp [hlt]⟩,Pv (i+1),fun ys' H' p'=>⟨xs.length-(i+1),by omega,rfl,hlt,p'⟩,fun x H' y=>?_⟩
  obtain ⟨e,y⟩:=y
  subst e
  exact hs i x ys _ (y xs q) p
 ·have e:i=xs.length:=by omega
  subst e
  exact .inl ⟨⟨xs,q,Nat.le_refl _⟩,hd ys H p⟩
theorem call_list_ofK {X:Cx} {K:PySem.W.Frag} (hK:X.K=K):CallR X (.type "list") (fun xs H Q=>∃ p ys,xs=[.ref p]/\(SqL K H p ys∨SqT K H p ys)/\∀ l,H l=none->Q (.ref l) (upd H l (.lst ys))):=by subst hK;exact call_list_of
theorem seq_c {v:V} {i:Nat} {b:TS} {D:Ends} {σ:St} {H:Hp} (h:b D (σ.set i (some v)) H):tSeq (tAsg (tC v) (gName i)) b D σ H:=h
theorem cut_if {c:TT} {t u b:TS} {D:Ends} {σ:St} {H:Hp} (P:St->Hp->Prop) (h1:∀ R:St->Hp->Prop,(∀ σ' H',P σ' H'->R σ' H')->tIfS c t u { D with nx:=R } σ H) (h2:∀ σ' H',P σ' H'->b D σ' H'):tSeq (tIfS c t u) b D σ H:=h1 (b D) h2
theorem cut_for {wi:TI} {g:TG} {tb b:TS} {D:Ends} {σ:St} {H:Hp} (P:St->Hp->Prop) (h1:∀ R:St->Hp->Prop,(∀ σ' H',P σ' H'->R σ' H')->tFor wi g tb { D with nx:=R } σ H) (h2:∀ σ' H',P σ' H'->b D σ' H'):tSeq (tFor wi g tb) b D σ H:=h1 (b D) h2
end Mm
namespace L2
open PySem PySem.Spec PyProof.Rows
section
variable {X:Cx}
end
end L2
namespace L2
open PySem PySem.Spec PyProof.Rows
noncomputable def Ite (K:PySem.W.Frag) (a:Addr):It:=⟨fun i H=>∃ xs x,SqL K H a xs/\xs[i]?=some x,fun i H x H'=>∃ (t:Addr) (y:V),(∀ xs,SqL K H a xs->xs[i]?=some y)/\H t=none/\x=.ref t/\H'=upd H t (.tup [.int ((i:Nat):Int),y]),fun i H=>∃ xs,SqL K H a xs/\xs.length<=i⟩
theorem turn_enum {P:Program} {w:World} {K:PySem.W.Frag} {elts:List Expr} {k:Nat} {tpos:Pos} (a e it:Addr) (hei:e≠it) :
  Turn P w K (.Tuple elts k tpos) (Ite K a) [e,it] e (fun i h=>(∃ old,IsEnum h e it i old)/\h.IsListIter it a i) where
 mem:=by simp
 obj:=fun i h st b hb=>by
  rcases (show b=e∨b=it by simpa using hb) with z | z
  ·subst z
   obtain ⟨⟨old,he⟩,_⟩:=st
   exact ⟨_,he,fun v z=>by cases z⟩
  ·subst z
   obtain ⟨_,o,e,c,d⟩:=st
   exact ⟨o,e,fun v z=>by rw [d] at z;cases z⟩
 keep:=fun i h h' st kk=>⟨by obtain ⟨old,he⟩:=st.1;exact ⟨old,kk e (by simp) _ he⟩,st.2.at fun o q=>kk it (by simp) o q⟩
 item:=by
  intro X hP hw hK hc i pins s σ H E I hf st hg
  subst hP hw hK
  obtain ⟨xs,x,hq,hx⟩:=hg
  obtain ⟨its,rv,p,hz⟩:=I.list hq
  obtain ⟨u,hu,ru⟩:=rv.get hx
  obtain ⟨⟨old,he⟩,hit⟩:=st
  obtain ⟨e0,e1,e2,e3,e4,e5⟩:=hf e (by simp)
  obtain ⟨f0,f1,f2,f3,f4,f5⟩:=hf it (by simp)
  refine wpAny_pyNext_enum_item he hit p.isList (x:=u) (by simpa using hu) hei fun h1 ho hit1 ht hsz kk=>?_
  refine ⟨_,rfl,?_⟩
  have hel:e<s.heap.objs.size:=Heap.lt_size he
  have hil:it<s.heap.objs.size:=by obtain ⟨_,q,_⟩:=hit;exact Heap.lt_size q
  refine wpAny_letOwnedTupleGo_enum (s:={ s with heap:=h1,toks:=s.toks+1 }) ho fun h2 he2 hs2=>?_
  have hs2:Heap.SameBut e h1 h2:=hs2
  have kk2:∀ b o,b≠e->b≠it->s.heap.get? b=some o->h2.get? b=some o:=fun b o q1 q2 q=>(hs2.2 b q1).trans (kk b o q1 q2 q)
  have ht2:h2.get? s.heap.objs.size=some { cls:=.type "tuple",data:=.seq #[.int i s.toks,u] }:=(hs2.2 _ (Nat.ne_of_gt hel)).trans ht
  have hT:H s.heap.objs.size=none:=I.fresh
  have I2:Inv X pins σ (upd H s.heap.objs.size (.tup [.int ((i:Nat):Int),x])) { s with heap:=h2,toks:=s.toks+1 }:=by
   refine I.call' (ch:=[e,it]) rfl ⟨fun b o q hn hb hx=>?_,fun b o q hn hb hx=>?_,fun b o q hn hx=>?_,fun b o q hx=>?_,fun b ys q=>?_,fun b o v q=>?_,fun b ps q=>?_⟩ (fun b v q=>?_) I.bare fun b hb=>?_
   ·exact kk2 b o (fun z=>hx (by simp [z])) (fun z=>hx (by simp [z])) q
   ·exact ⟨o.slots,kk2 b o (fun z=>hx (by simp [z])) (fun z=>hx (by simp [z])) q⟩
   ·rw [upd_ne (Nat.ne_of_lt (Heap.lt_size q))];exact hn
   ·exact ⟨o,kk2 b o (fun z=>hx (by simp [z])) (fun z=>hx (by simp [z])) q⟩
   ·rw [upd_ne (ne_of_none q hT)];exact q
   ·rw [upd_ne (ne_of_none q hT)];exact q
   ·exact ⟨#[],by rw [upd_ne (ne_of_none q hT)];simpa using q⟩
   ·by_cases hb:b=s.heap.objs.size
    ·subst hb
     rw [upd_same] at q
     cases q
     exact ⟨(by show 2<=sizeLine;decide),[.int i s.toks,u],.cons ⟨_,rfl⟩ (.cons ru .nil),_,ht2,rfl,_,rfl⟩
    ·rw [upd_ne hb] at q
     have hne:b≠e:=fun z=>by rw [z,e0] at q;cases q
     have hni:b≠it:=fun z=>by rw [z,f0] at q;cases q
     refine (I.hok b v q).stay (fun c o hcb z=>kk2 c o (fun y=>?_) (fun y=>?_) z) (fun c z=>by rw [upd_ne (ne_of_none z hT)];exact z) fun c ys z=>by rw [upd_ne (ne_of_none z hT)];exact z
     ·rcases hcb with r | r
      ·exact hne (r ▸ y)
      ·rw [y,e0] at r;cases r
     ·rcases hcb with r | r
      ·exact hni (r ▸ y)
      ·rw [y,f0] at r;cases r
   ·rcases (show b=e∨b=it by simpa using hb) with z | z
    ·subst z;exact ⟨e3,e1,e4,e5⟩
    ·subst z;exact ⟨f3,f1,f4,f5⟩
  refine ⟨.ref s.heap.objs.size,_,I2,rfl,⟨_,x,fun ys hy=>by rw [I.list_inj hy hq];exact hx,hT,rfl,rfl⟩,⟨⟨u,by simpa using he2⟩,hit1.at fun o q=>(hs2.2 it hei.symm).trans q⟩,fun b hb=>?_⟩
  rcases (show b=e∨b=it by simpa using hb) with z | z
  ·subst z;rw [upd_ne (Nat.ne_of_lt hel)];exact e0
  ·subst z;rw [upd_ne (Nat.ne_of_lt hil)];exact f0
 done:=by
  intro X hP hw hK hc i pins s σ H E I hf st hg
  subst hP hw hK
  obtain ⟨xs,hq,hx⟩:=hg
  obtain ⟨its,rv,p,hz⟩:=I.list hq
  obtain ⟨f0,f1,f2,f3,f4,f5⟩:=hf it (by simp)
  obtain ⟨⟨old,he⟩,hit⟩:=st
  have hl:=rv.length
  exact wpAny_pyNext_enum_end (I.ok.hd hc) he hit p.isList (by simp;omega) fun h' eb=>⟨rfl,I.turned (t':=s.toks) (fun b o hb q=>eb b o hb q) f0 f1 f3 f4 f5⟩
 self:=fun _ _ _ _ _ st h=>by obtain ⟨⟨old,he⟩,_⟩:=st;exact wpAny_pyIter_enum he h
section
variable {X:Cx}
noncomputable def iEnum (K:PySem.W.Frag) (ta:TA):TI:=fun σ H R=>ta σ H fun vs H1=>∃ a xs,vs=[.ref a]/\SqL K H1 a xs/\R (Ite K a) H1
theorem pi_enum {a:Expr} {ta:TA} {p pos tpos:Pos} {elts:List Expr} {k:Nat} (hg:Gl X "enumerate") (hm:X.mg "enumerate"=none) (ha:PA X [a] ta) (hs:starEach [a] X.env=[(false,eval a X.env)]:=by rfl) :
  PI X (.Tuple elts k tpos) (.Call (.Name "enumerate" p) [a] [] pos) (iEnum X.K ta):=by
 intro pins s σ H R I h
 refine Call_ (ld_blt I hg hm boot_enumerate (PyProof.Rows.callWith_type1 (thn (ha pos pins s σ H _ I h) fun us s1 hsl57=>?_) hs rfl))
 obtain ⟨vs,H1,I1,r1,q1⟩:=hsl57
 obtain ⟨l,xs,e,hq,q⟩:=q1
 subst e
 obtain ⟨u,rfl,ru⟩:=vals1 r1
 cases ru
 obtain ⟨its,rv,pp,hz⟩:=I1.list hq
 refine call_enumerate_list pp.isList fun h' he hit hsz kk=>?_
 refine wpAny_pyIter_enum (s:={ s1 with heap:=h' }) he ?_
 refine ⟨s1.heap.objs.size+1,[s1.heap.objs.size+1,s1.heap.objs.size],_,_,H1,rfl,I1.kept (t':=s1.toks) kk,turn_enum l _ _ (Nat.succ_ne_self _),⟨⟨_,he⟩,hit⟩,fun b hb=>?_,q⟩
 rcases (show b=s1.heap.objs.size+1∨b=s1.heap.objs.size by simpa using hb) with z | z
 ·subst z;exact I1.fpOk (Nat.le_succ _) (I1.hok.fresh (Nat.le_succ _))
 ·subst z;exact I1.fpOk (Nat.le_refl _) (I1.hok.fresh (Nat.le_refl _))
end
theorem pg_tupK {X:Cx} {K:PySem.W.Frag} {es:List Expr} {k:Nat} {pos:Pos} {t:TGs} {n:Nat} (hK:X.K=K) (hc:X.calm=true) (h:PGs X es t)
  (hn:(assignEach es X.env).length=n:=by rfl) (hst:(assignEach es X.env).findIdx? (·.1)=none:=by rfl):PG X (.Tuple es k pos) (gTup K n t):=by
 subst hK
 exact pg_tup hc h hn hst
section
variable {k:Nat} {js:List Nat} {g:TG} {tt:TT} {te:TE}
theorem comp2_list {K:PySem.W.Frag} {a:Addr} {xs:List V} {σ:St} {H:Hp} {Q:VK} (Pv:Nat->List V->Hp->Prop) (h0:Pv 0 [] H) (hl:∀ i ys H,i<=xs.length->Pv i ys H->SqL K H a xs)
  (hs:∀ i x ys H,xs[i]?=some x->Pv i ys H->tStep2 k js g tt te σ ys (Pv (i+1)) x H)
  (hd:∀ ys H,Pv xs.length ys H->∀ p,H p=none->Q (.ref p) (upd H p (.lst ys))):tCompB2 (Itl K a) k js g tt te σ H Q:=by
 refine ⟨fun i m ys H=>m=xs.length-i/\i<=xs.length/\Pv i ys H,⟨xs.length,by simp,Nat.zero_le _,h0⟩,?_⟩
 rintro i m ys H ⟨rfl,hi,p⟩
 have q:=hl i ys H hi p
 by_cases hlt:i<xs.length
 ·refine .inr ⟨⟨xs,xs[i],q,by simp [hlt]⟩,Pv (i+1),fun ys' H' p'=>⟨xs.length-(i+1),by omega,rfl,hlt,p'⟩,fun x H' y=>?_⟩
  obtain ⟨e,y⟩:=y
  subst e
  exact hs i x ys _ (y xs q) p
 ·have e:i=xs.length:=by omega
  subst e
  exact .inl ⟨⟨xs,q,Nat.le_refl _⟩,hd ys H p⟩
end
end L2
namespace L2
open PySem PySem.Spec PyProof.Rows
theorem for_enum {K:PySem.W.Frag} {a:Addr} {xs:List V} {g:TG} {tb:TS} {D:Ends} {σ:St} {H:Hp} (Pv:Nat->St->Hp->Prop) (h0:Pv 0 σ H) (hl:∀ i σ H,i<=xs.length->Pv i σ H->SqL K H a xs)
  (hs:∀ i x σ H t,xs[i]?=some x->Pv i σ H->H t=none->g (.ref t) σ (upd H t (.tup [.int ((i:Nat):Int),x])) fun σ2 H2=>tb { D with nx:=Pv (i+1),ct:=Pv (i+1),bk:=D.nx } σ2 H2) (hd:∀ σ H,Pv xs.length σ H->D.nx σ H) :
  ∃ W:Nat->Nat->St->Hp->Prop,(∃ m,W 0 m σ H)/\∀ i m σ H,W i m σ H ->
   ((Ite K a).stop i H/\D.nx σ H)∨((Ite K a).go i H/\∃ N:St->Hp->Prop,(∀ σ' H',N σ' H'->∃ m',m'<m/\W (i+1) m' σ' H')/\∀ x H',(Ite K a).yld i H x H'->g x σ H' fun σ2 H2=>tb { D with nx:=N,ct:=N,bk:=D.nx } σ2 H2):=by
 refine ⟨fun i m σ H=>m=xs.length-i/\i<=xs.length/\Pv i σ H,⟨xs.length,by simp,Nat.zero_le _,h0⟩,?_⟩
 rintro i m σ H ⟨rfl,hi,p⟩
 have q:=hl i σ H hi p
 by_cases hlt:i<xs.length
 ·refine .inr ⟨⟨xs,xs[i],q,by simp [hlt]⟩,Pv (i+1),fun σ' H' p'=>⟨xs.length-(i+1),by omega,rfl,hlt,p'⟩,fun x H' y=>?_⟩
  obtain ⟨t,y,hy,hn,rfl,rfl⟩:=y
  exact hs i y σ _ t (hy xs q) p hn
 ·have e:i=xs.length:=by omega
  subst e
  exact .inl ⟨⟨xs,q,Nat.le_refl _⟩,hd σ H p⟩
end L2
namespace L2
open PySem PySem.Spec PyProof.Rows
section
variable {prog:Program} {w:World} {A:Around} {E:Value->Shared->Prop} {s:Shared}
theorem drawT {c t:Addr} {i:Nat} {zs:Array Value} {x:Value} {Q:Value->Shared->Prop} (g:s.heap.IsTupleIter c t i) (gt:s.heap.IsTuple t zs) (gx:zs[i]?=some x)
  (k:∀ hp,hp.IsTupleIter c t (i+1)->Heap.SameBut c s.heap hp->Q x { s with heap:=hp }):wpAny (model prog w) A (Builtin.SmallTypes.nextOf (.ref c)) Q E s:=by
 have ty:=g.typeIs
 obtain ⟨o,h1,h2,h3⟩:=id g
 obtain ⟨q,hq,_,m,hm⟩:=gt
 unfold Builtin.SmallTypes.nextOf
 refine wpAny_bind (wpAny_callSpecial?_slot (name:=Str.ofString "__next__") ty F.slot_tuple_iterator_next (wpAny_call_entry F.slot_tuple_iterator_next ty F.entry_tuple_iterator_next ?_ (F.args_tuple_iterator_next_1 _)))
 change wpAny _ _ (field (.ref c) 0 >>= _) _ _ _
 refine wpAny_bind (wpAny_field h1 h3 (x:=.ref t) rfl ?_)
 change wpAny _ _ (if (Value.ref t == Value.none)=true then _ else _) _ _ _
 rw [if_neg (by exact Bool.false_ne_true)]
 change wpAny _ _ (field (.ref c) 1 >>= _) _ _ _
 refine wpAny_bind (wpAny_field h1 h3 (x:=.int i 0) rfl ?_)
 change wpAny _ _ (seqItems? (.ref t) >>= _) _ _ _
 refine wpAny_bind (wpAny_seqItems hq hm ?_)
 simp only [Int.toNat_natCast,gx]
 have z:=fun hp a b=>wpAny_pure (M:=model prog w) (A:=A) (E:=E) (k hp a b)
 refine wpAny_bind (wpAny_setField h1 h3 (by simp) (wpAny_pure ⟨x,rfl,z _ ⟨_,Heap.get?_update_self _ h1 (Obj.isFreed_of_fields (Obj.data_mapFields h3 _)),(Obj.cls_mapFields ..).trans h2,?_⟩ (Heap.SameBut.update ..)⟩))
 rw [Obj.data_mapFields h3];simp [rawInt]
theorem drawT_end {c t:Addr} {i:Nat} {zs:Array Value} {Q:Value->Shared->Prop} (hh:A.handled=none) (g:s.heap.IsTupleIter c t i) (gt:s.heap.IsTuple t zs) (gx:zs[i]?=none)
  (k:∀ hp e,Heap.ExtBut c s.heap hp->(∃ o,hp.get? e=some o/\o.cls=.type "StopIteration")->E (.ref e) { s with heap:=hp }):wpAny (model prog w) A (Builtin.SmallTypes.nextOf (.ref c)) Q E s:=by
 have ty:=g.typeIs
 obtain ⟨o,h1,h2,h3⟩:=id g
 obtain ⟨q,hq,_,m,hm⟩:=gt
 unfold Builtin.SmallTypes.nextOf
 refine wpAny_bind (wpAny_callSpecial?_slot (name:=Str.ofString "__next__") ty F.slot_tuple_iterator_next (wpAny_call_entry F.slot_tuple_iterator_next ty F.entry_tuple_iterator_next ?_ (F.args_tuple_iterator_next_1 _)))
 change wpAny _ _ (field (.ref c) 0 >>= _) _ _ _
 refine wpAny_bind (wpAny_field h1 h3 (x:=.ref t) rfl ?_)
 change wpAny _ _ (if (Value.ref t == Value.none)=true then _ else _) _ _ _
 rw [if_neg (by exact Bool.false_ne_true)]
 change wpAny _ _ (field (.ref c) 1 >>= _) _ _ _
 refine wpAny_bind (wpAny_field h1 h3 (x:=.int i 0) rfl ?_)
 change wpAny _ _ (seqItems? (.ref t) >>= _) _ _ _
 refine wpAny_bind (wpAny_seqItems hq hm ?_)
 simp only [Int.toNat_natCast,gx]
 refine wpAny_bind (wpAny_rule (wpAny_bind (wpAny_setField h1 h3 (by simp) ?_)))
 change wpAny _ _ (newExc (.type "StopIteration") [] >>= _) _ _ _
 refine wpAny_bind ?_
 simp only [newTuple,newExc]
 refine wpAny_bind (wpAny_newObj_type ?_ (by size_fits))
 refine wpAny_bind (m:=firstArgMember _ _) (wpAny_of_eq (a:=Value.none) rfl ?_)
 refine wpAny_newObj_type ?_ (by size_fits)
 simp only [raiseNew]
 refine wpAny_bind (wpAny_handled ?_)
 first | rw [hh] | rw [show A.in1.handled=none from hh]
 exact wpAny_bind (wpAny_pure (wpAny_throw (k _ _ (((Heap.SameBut.update ..).extBut.push _).push _) ⟨_,Heap.get?_push_size _ rfl,rfl⟩)))
structure ZT (h:Heap) (z TI TO c d a b:Addr) (k:Nat) (f:Value):Prop where
 zip:IsZip h z TI TO f
 its:IsPair h TI (.ref c) (.ref d)
 own:∃ p q,IsPair h TO p q
 fst:h.IsTupleIter c a k
 snd:h.IsTupleIter d b k
theorem ZT.zip_item {z TI TO c d a b:Addr} {k:Nat} {xs ys:Array Value} {x y:Value} {Q:Value->Shared->Prop} (D:ZipApart z TI TO c d a b) (Z:ZT s.heap z TI TO c d a b k .none)
  (ha:s.heap.IsTuple a xs) (hb:s.heap.IsTuple b ys) (hx:xs[k]?=some x) (hy:ys[k]?=some y)
  (kq:∀ hp,ZT hp z TI TO c d a b (k+1) (rawInt s.heap.objs.size)->IsPair hp s.heap.objs.size x y->(∀ e o,e≠z->e≠TO->e≠c->e≠d->s.heap.get? e=some o->hp.get? e=some o)->Q (.ref s.heap.objs.size) { s with heap:=hp }) :
  wpAny (model prog w) A (Builtin.«zip.__next__» ⟨[.ref z],[]⟩) (fun fin s'=>∃ v,fin=.done (.ret v)/\Q v s') E s:=by
 obtain ⟨Zz,Zi,⟨p,q,Zo⟩,Z1,Z2⟩:=Z
 change wpAny _ _ (field (.ref z) 2 >>= _) _ _ _
 refine wpAny_bind (wpAny_field Zz rfl (x:=.bool false) rfl ?_)
 change wpAny _ _ (field (.ref z) 3 >>= _) _ _ _
 refine wpAny_bind (wpAny_field Zz rfl (x:=.ref TI) rfl (wpAny_bind (wpAny_seqItems Zi rfl ?_)))
 change wpAny _ _ (Builtin.SmallTypes.ownedTupleIsFree (.ref z) >>= _) _ _ _
 refine wpAny_bind ?_
 unfold Builtin.SmallTypes.ownedTupleIsFree
 refine wpAny_bind (wpAny_field Zz rfl (x:=.none) rfl (wpAny_pure ?_))
 simp only [if_true]
 refine wpAny_bind (wpAny_rule (wpAny_bind (wpAny_field Zz rfl (x:=.ref TO) rfl ?_)))
 refine wpAny_bind (wpAny_setField_rec Zz (by simp) fun g1 Zz1 e1=>?_)
 have Zz1:IsZip g1 z TI TO .ellipsis:=Zz1
 refine wpAny_bind ?_
 simp only [List.zipIdx_cons,List.zipIdx_nil,List.forIn_cons,List.forIn_nil]
 refine wpAny_bind (wpAny_bind (wpAny_onRaise ?_))
 change wpAny _ _ (Builtin.SmallTypes.nextOf (.ref c) >>= _) _ _ _
 refine wpAny_bind (drawT (Z1.extBut e1.extBut D.i1z) (ha.extBut e1.extBut D.l1z) hx fun g2 Y1 e2=>wpAny_pure ?_)
 have O2:IsPair g2 TO p q:=e2.extBut _ _ D.TOi1 (e1.extBut _ _ D.TOz Zo)
 refine wpAny_bind (wpAny_seqItems O2 rfl (wpAny_bind (wpAny_updateSeq_pair O2 fun g3 O3 e3=>?_)))
 have O3:IsPair g3 TO x q:=O3
 refine wpAny_bind (wpAny_letGo (wpAny_pure (wpAny_bind (wpAny_bind (wpAny_onRaise ?_)))))
 change wpAny _ _ (Builtin.SmallTypes.nextOf (.ref d) >>= _) _ _ _
 refine wpAny_bind (drawT (((Z2.extBut e1.extBut D.i2z).extBut e2.extBut D.i12.symm).extBut e3.extBut D.TOi2.symm) (((hb.extBut e1.extBut D.l2z).extBut e2.extBut D.l2i1).extBut e3.extBut D.l2TO) hy fun g4 Y2 e4=>wpAny_pure ?_)
 have O4:IsPair g4 TO x q:=e4.extBut _ _ D.TOi2 O3
 refine wpAny_bind (wpAny_seqItems O4 rfl (wpAny_bind (wpAny_updateSeq_pair O4 fun g5 O5 e5=>?_)))
 have O5:IsPair g5 TO x y:=O5
 refine wpAny_bind (wpAny_letGo (wpAny_pure (wpAny_pure (wpAny_bind (wpAny_seqItems O5 rfl (wpAny_bind (wpAny_newTuple ?_)))))))
 have sz:g5.objs.size=s.heap.objs.size:=by rw [e5.1,e4.1,e3.1,e2.1,e1.1]
 have Zz5:IsZip g5 z TI TO .ellipsis:=e5.extBut _ _ D.TOz.symm (e4.extBut _ _ D.i2z.symm (e3.extBut _ _ D.TOz.symm (e2.extBut _ _ D.i1z.symm Zz1)))
 have up5:∀ e o,e≠z->e≠TO->e≠c->e≠d->s.heap.get? e=some o->g5.get? e=some o:=fun e o n1 n2 n3 n4 r=>e5.extBut _ _ n2 (e4.extBut _ _ n4 (e3.extBut _ _ n2 (e2.extBut _ _ n3 (e1.extBut _ _ n1 r))))
 have Y15:g5.IsTupleIter c a (k+1):=((Y1.extBut e3.extBut D.TOi1.symm).extBut e4.extBut D.i12).extBut e5.extBut D.TOi1.symm
 have Y25:g5.IsTupleIter d b (k+1):=Y2.extBut e5.extBut D.TOi2.symm
 have zl:z<g5.objs.size:=Heap.lt_size Zz5
 change wpAny _ _ (Builtin.SmallTypes.ownedTupleHandOut (.ref z) (.ref g5.objs.size) >>= _) _ _ _
 refine wpAny_bind ?_
 unfold Builtin.SmallTypes.ownedTupleHandOut
 have Zz6:IsZip (g5.push { cls:=.type "tuple",data:=.seq #[x,y] }) z TI TO .ellipsis:=Heap.get?_push_of_some _ Zz5
 refine wpAny_bind (wpAny_setField_rec Zz6 (by simp) fun g7 Zz7 e7=>?_)
 have Zz7:IsZip g7 z TI TO (rawInt g5.objs.size):=Zz7
 refine wpAny_setField_rec Zz7 (by simp) fun g8 Zz8 e8=>?_
 have Zz8:IsZip g8 z TI TO (rawInt g5.objs.size):=Zz8
 have up:∀ e o,e≠z->g5.get? e=some o->g8.get? e=some o:=fun e o n r=>e8.extBut _ _ n (e7.extBut _ _ n (Heap.get?_push_of_some _ r))
 have T8:IsPair g8 g5.objs.size x y:=e8.extBut _ _ (Nat.ne_of_gt zl) (e7.extBut _ _ (Nat.ne_of_gt zl) (Heap.get?_push_size _ rfl))
 rw [sz] at Zz8 T8
 refine wpAny_pure ⟨_,rfl,?_⟩
 change Q (.ref g5.objs.size) _
 rw [sz]
 exact kq g8 ⟨Zz8,up _ _ D.TIz (up5 _ _ D.TIz D.TITO D.TIi1 D.TIi2 Zi),⟨_,_,up _ _ D.TOz O5⟩,Y15.at fun o r=>up _ o D.i1z r,Y25.at fun o r=>up _ o D.i2z r⟩ T8 fun e o n1 n2 n3 n4 r=>up e o n1 (up5 e o n1 n2 n3 n4 r)
theorem ZT.zip_end {z TI TO c d a b:Addr} {k:Nat} {xs ys:Array Value} {Q:Fin->Shared->Prop} (hh:A.handled=none) (D:ZipApart z TI TO c d a b) (Z:ZT s.heap z TI TO c d a b k .none)
  (ha:s.heap.IsTuple a xs) (hb:s.heap.IsTuple b ys) (hend:xs[k]?=none∨ys[k]?=none)
  (kq:∀ hp e,(∀ e o,e≠z->e≠TO->e≠c->e≠d->s.heap.get? e=some o->hp.get? e=some o)->(∃ o,hp.get? e=some o/\o.cls=.type "StopIteration")->E (.ref e) { s with heap:=hp }) :
  wpAny (model prog w) A (Builtin.«zip.__next__» ⟨[.ref z],[]⟩) Q E s:=by
 obtain ⟨Zz,Zi,⟨p,q,Zo⟩,Z1,Z2⟩:=Z
 change wpAny _ _ (field (.ref z) 2 >>= _) _ _ _
 refine wpAny_bind (wpAny_field Zz rfl (x:=.bool false) rfl ?_)
 change wpAny _ _ (field (.ref z) 3 >>= _) _ _ _
 refine wpAny_bind (wpAny_field Zz rfl (x:=.ref TI) rfl (wpAny_bind (wpAny_seqItems Zi rfl ?_)))
 change wpAny _ _ (Builtin.SmallTypes.ownedTupleIsFree (.ref z) >>= _) _ _ _
 refine wpAny_bind ?_
 unfold Builtin.SmallTypes.ownedTupleIsFree
 refine wpAny_bind (wpAny_field Zz rfl (x:=.none) rfl (wpAny_pure ?_))
 simp only [if_true]
 refine wpAny_bind (wpAny_rule (wpAny_bind (wpAny_field Zz rfl (x:=.ref TO) rfl ?_)))
 refine wpAny_bind (wpAny_setField_rec Zz (by simp) fun g1 Zz1 e1=>?_)
 have Zz1:IsZip g1 z TI TO .ellipsis:=Zz1
 refine wpAny_bind ?_
 simp only [List.zipIdx_cons,List.zipIdx_nil,List.forIn_cons,List.forIn_nil]
 refine wpAny_bind (wpAny_bind (wpAny_onRaise ?_))
 change wpAny _ _ (Builtin.SmallTypes.nextOf (.ref c) >>= _) _ _ _
 have off:∀ {hp:Heap} {e:Addr},IsZip hp z TI TO .ellipsis->(∃ o,hp.get? e=some o/\o.cls=.type "StopIteration")->e≠z:=fun i ⟨o,h1,h2⟩ y=>by
  subst y
  rw [i] at h1;cases h1;simp at h2
 cases hx:xs[k]? with
 | none =>
  refine wpAny_bind (drawT_end hh (Z1.extBut e1.extBut D.i1z) (ha.extBut e1.extBut D.l1z) hx fun g2 e e2 he=>?_)
  have Zz2:IsZip g2 z TI TO .ellipsis:=e2 _ _ D.i1z.symm Zz1
  have n:=off Zz2 he
  obtain ⟨oe,he1,he2⟩:=he
  exact wpAny_setField_rec Zz2 (by simp) fun g3 _ e3=>kq g3 e (fun u o n1 _ n3 _ r=>e3.extBut _ _ n1 (e2 _ _ n3 (e1.extBut _ _ n1 r))) ⟨oe,e3.extBut _ _ n he1,he2⟩
 | some x =>
  have hy:ys[k]?=none:=hend.resolve_left (by rw [hx];simp)
  refine wpAny_bind (drawT (Z1.extBut e1.extBut D.i1z) (ha.extBut e1.extBut D.l1z) hx fun g2 Y1 e2=>wpAny_pure ?_)
  have O2:IsPair g2 TO p q:=e2.extBut _ _ D.TOi1 (e1.extBut _ _ D.TOz Zo)
  refine wpAny_bind (wpAny_seqItems O2 rfl (wpAny_bind (wpAny_updateSeq_pair O2 fun g3 O3 e3=>?_)))
  refine wpAny_bind (wpAny_letGo (wpAny_pure (wpAny_bind (wpAny_bind (wpAny_onRaise ?_)))))
  change wpAny _ _ (Builtin.SmallTypes.nextOf (.ref d) >>= _) _ _ _
  refine wpAny_bind (drawT_end hh (((Z2.extBut e1.extBut D.i2z).extBut e2.extBut D.i12.symm).extBut e3.extBut D.TOi2.symm) (((hb.extBut e1.extBut D.l2z).extBut e2.extBut D.l2i1).extBut e3.extBut D.l2TO) hy fun g4 e e4 he=>?_)
  have Zz4:IsZip g4 z TI TO .ellipsis:=e4 _ _ D.i2z.symm (e3.extBut _ _ D.TOz.symm (e2.extBut _ _ D.i1z.symm Zz1))
  have n:=off Zz4 he
  obtain ⟨oe,he1,he2⟩:=he
  exact wpAny_setField_rec Zz4 (by simp) fun g5 _ e5=>kq g5 e (fun u o n1 n2 n3 n4 r=>e5.extBut _ _ n1 (e4 _ _ n4 (e3.extBut _ _ n2 (e2.extBut _ _ n3 (e1.extBut _ _ n1 r))))) ⟨oe,e5.extBut _ _ n he1,he2⟩
theorem ZT.next {z TI TO c d a b:Addr} {k:Nat} {xs ys:Array Value} {x y:Value} {Q:Option Value->Shared->Prop} (D:ZipApart z TI TO c d a b) (Z:ZT s.heap z TI TO c d a b k .none)
  (ha:s.heap.IsTuple a xs) (hb:s.heap.IsTuple b ys) (hx:xs[k]?=some x) (hy:ys[k]?=some y)
  (kq:∀ hp,ZT hp z TI TO c d a b (k+1) (rawInt s.heap.objs.size)->IsPair hp s.heap.objs.size x y->(∀ e o,e≠z->e≠TO->e≠c->e≠d->s.heap.get? e=some o->hp.get? e=some o)->Q (some (.ref s.heap.objs.size)) { s with heap:=hp }) :
  wpAny (model prog w) A (pyNext (.ref z)) Q E s:=by
 have ty:s.TypeIs (.ref z) "zip":=⟨_,Z.zip,rfl⟩
 unfold pyNext
 refine wpAny_bind (wpAny_attempt (wpAny_callSpecial?_slot (name:=Str.ofString "__next__") ty F.slot_zip_next (wpAny_call_entry F.slot_zip_next ty F.entry_zip_next ?_ (F.args_zip_next_1 _))))
 exact Z.zip_item D ha hb hx hy fun hp p1 p2 p3=>wpAny_pure (kq hp p1 p2 p3)
theorem ZT.ends {z TI TO c d a b:Addr} {k:Nat} {xs ys:Array Value} {Q:Option Value->Shared->Prop} (hh:A.handled=none) (D:ZipApart z TI TO c d a b) (Z:ZT s.heap z TI TO c d a b k .none)
  (ha:s.heap.IsTuple a xs) (hb:s.heap.IsTuple b ys) (hend:xs[k]?=none∨ys[k]?=none)
  (kq:∀ hp,(∀ e o,e≠z->e≠TO->e≠c->e≠d->s.heap.get? e=some o->hp.get? e=some o)->Q none { s with heap:=hp }):wpAny (model prog w) A (pyNext (.ref z)) Q E s:=by
 have ty:s.TypeIs (.ref z) "zip":=⟨_,Z.zip,rfl⟩
 unfold pyNext
 refine wpAny_bind (wpAny_attempt (wpAny_callSpecial?_slot (name:=Str.ofString "__next__") ty F.slot_zip_next (wpAny_call_entry F.slot_zip_next ty F.entry_zip_next (Z.zip_end hh D ha hb hend fun hp e up ⟨o,h1,h2⟩=>?_) (F.args_zip_next_1 _))))
 exact wpAny_bind (wpAny_isInstance (T:="StopIteration") (b:=true) ⟨o,h1,h2⟩ isSubtype_stop (wpAny_pure (kq _ up)))
end
noncomputable def Itz (K:PySem.W.Frag) (a b:Addr):It:=⟨fun i H=>∃ xs ys x y,SqT K H a xs/\SqT K H b ys/\xs[i]?=some x/\ys[i]?=some y,fun i H v H'=>∃ (t:Addr) (x y:V),(∀ xs,SqT K H a xs->xs[i]?=some x)/\(∀ ys,SqT K H b ys->ys[i]?=some y)/\H t=none/\v=.ref t/\H'=upd H t (.tup [x,y]),fun i H=>∃ xs ys,SqT K H a xs/\SqT K H b ys/\(xs.length<=i∨ys.length<=i)⟩
theorem turn_zip {P:Program} {w:World} {K:PySem.W.Frag} {elts:List Expr} {n:Nat} {tpos:Pos} {z TI TO c d a b:Addr} (D:ZipApart z TI TO c d a b) :
  Turn P w K (.Tuple elts n tpos) (Itz K a b) [z,TI,TO,c,d] z (fun i h=>ZT h z TI TO c d a b i .none) where
 mem:=by simp
 obj:=fun i h st e he=>by
  obtain ⟨Zz,Zi,⟨p,q,Zo⟩,⟨o1,p1,p2,p3⟩,⟨o2,q1,q2,q3⟩⟩:=st
  simp only [List.mem_cons,List.mem_nil_iff,or_false] at he
  rcases he with rfl | rfl | rfl | rfl | rfl
  ·exact ⟨_,Zz,fun v y=>by cases y⟩
  ·exact ⟨_,Zi,fun v y=>by cases y⟩
  ·exact ⟨_,Zo,fun v y=>by cases y⟩
  ·exact ⟨_,p1,fun v y=>by rw [p3] at y;cases y⟩
  ·exact ⟨_,q1,fun v y=>by rw [q3] at y;cases y⟩
 keep:=fun i h h' st kk=>by
  obtain ⟨Zz,Zi,⟨p,q,Zo⟩,Z1,Z2⟩:=st
  exact ⟨kk z (by simp) _ Zz,kk TI (by simp) _ Zi,⟨p,q,kk TO (by simp) _ Zo⟩,Z1.at fun o r=>kk c (by simp) o r,Z2.at fun o r=>kk d (by simp) o r⟩
 item:=by
  intro X hP hw hK hc i pins s σ H E I hf st hg
  subst hP hw hK
  obtain ⟨xs,ys,x,y,hqx,hqy,hx,hy⟩:=hg
  obtain ⟨its,rv,pa,hz⟩:=I.tuple hqx
  obtain ⟨jts,rw',pb,hz'⟩:=I.tuple hqy
  obtain ⟨u,hu,ru⟩:=rv.get hx
  obtain ⟨v,hv,rv'⟩:=rw'.get hy
  refine st.next D (show s.heap.IsTuple a its.toArray from pa) (show s.heap.IsTuple b jts.toArray from pb) (x:=u) (y:=v) (by simpa using hu) (by simpa using hv) fun h1 Z1 ht kk=>?_
  refine ⟨_,rfl,?_⟩
  have lt:∀ e∈[z,TI,TO,c,d],e<s.heap.objs.size:=fun e he=>by
   obtain ⟨Zz,Zi,⟨p,q,Zo⟩,⟨o1,p1,_⟩,⟨o2,q1,_⟩⟩:=st
   simp only [List.mem_cons,List.mem_nil_iff,or_false] at he
   rcases he with rfl | rfl | rfl | rfl | rfl
   ·exact Heap.lt_size Zz
   ·exact Heap.lt_size Zi
   ·exact Heap.lt_size Zo
   ·exact Heap.lt_size p1
   ·exact Heap.lt_size q1
  refine wpAny_letOwnedTupleGo_zip (s:={ s with heap:=h1 }) Z1.zip fun h2 Zz2 hs2=>?_
  have hs2:Heap.SameBut z h1 h2:=hs2
  have kk2:∀ e o,e∉[z,TI,TO,c,d]->s.heap.get? e=some o->h2.get? e=some o:=fun e o n r=>by
   simp only [List.mem_cons,List.mem_nil_iff,or_false,not_or] at n
   exact (hs2.2 e n.1).trans (kk e o n.1 n.2.2.1 n.2.2.2.1 n.2.2.2.2 r)
  have hzl:=lt z (by simp)
  have ht2:h2.get? s.heap.objs.size=some { cls:=.type "tuple",data:=.seq #[u,v] }:=(hs2.2 _ (Nat.ne_of_gt hzl)).trans ht
  have hT:H s.heap.objs.size=none:=I.fresh
  have I2:Inv X pins σ (upd H s.heap.objs.size (.tup [x,y])) { s with heap:=h2 }:=by
   refine I.call' (ch:=[z,TI,TO,c,d]) rfl ⟨fun b o q hn hb hx=>kk2 b o hx q,fun b o q hn hb hx=>⟨o.slots,kk2 b o hx q⟩,fun b o q hn hx=>?_,fun b o q hx=>⟨o,kk2 b o hx q⟩,fun b ys q=>?_,fun b o v q=>?_,fun b ps q=>?_⟩ (fun b v q=>?_) I.bare fun b hb=>?_
   ·rw [upd_ne (Nat.ne_of_lt (Heap.lt_size q))];exact hn
   ·rw [upd_ne (ne_of_none q hT)];exact q
   ·rw [upd_ne (ne_of_none q hT)];exact q
   ·exact ⟨#[],by rw [upd_ne (ne_of_none q hT)];simpa using q⟩
   ·by_cases hb:b=s.heap.objs.size
    ·subst hb
     rw [upd_same] at q
     cases q
     exact ⟨(by show 2<=sizeLine;decide),[u,_],.cons ru (.cons rv' .nil),_,ht2,rfl,_,rfl⟩
    ·rw [upd_ne hb] at q
     refine (I.hok b v q).stay (fun e o hcb r=>kk2 e o (fun he=>?_) r) (fun e r=>by rw [upd_ne (ne_of_none r hT)];exact r) fun e ys r=>by rw [upd_ne (ne_of_none r hT)];exact r
     have e0:=(hf e he).1
     rcases hcb with r | r
     ·subst r;rw [e0] at q;cases q
     ·rw [e0] at r;cases r
   ·obtain ⟨f0,f1,f2,f3,f4,f5⟩:=hf b hb
    exact ⟨f3,f1,f4,f5⟩
  refine ⟨.ref s.heap.objs.size,_,I2,rfl,⟨_,x,y,fun zs hq=>by rw [I.tuple_inj hq hqx];exact hx,fun zs hq=>by rw [I.tuple_inj hq hqy];exact hy,hT,rfl,rfl⟩,?_,fun e he=>?_⟩
  ·obtain ⟨_,Zi,⟨p,q,Zo⟩,Y1,Y2⟩:=Z1
   exact ⟨Zz2,hs2.extBut _ _ D.TIz Zi,⟨p,q,hs2.extBut _ _ D.TOz Zo⟩,Y1.extBut hs2.extBut D.i1z,Y2.extBut hs2.extBut D.i2z⟩
  ·rw [upd_ne (Nat.ne_of_lt (lt e he))];exact (hf e he).1
 done:=by
  intro X hP hw hK hc i pins s σ H E I hf st hg
  subst hP hw hK
  obtain ⟨xs,ys,hqx,hqy,hx⟩:=hg
  obtain ⟨its,rv,pa,hz⟩:=I.tuple hqx
  obtain ⟨jts,rw',pb,hz'⟩:=I.tuple hqy
  have l1:=rv.length
  have l2:=rw'.length
  refine st.ends (I.ok.hd hc) D (show s.heap.IsTuple a its.toArray from pa) (show s.heap.IsTuple b jts.toArray from pb) ?_ fun h' up=>⟨rfl,?_⟩
  ·rcases hx with hx | hx
   ·left;simp;omega
   ·right;simp;omega
  ·have kk2:∀ e o,e∉[z,TI,TO,c,d]->s.heap.get? e=some o->h'.get? e=some o:=fun e o n r=>by
    simp only [List.mem_cons,List.mem_nil_iff,or_false,not_or] at n
    exact up e o n.1 n.2.2.1 n.2.2.2.1 n.2.2.2.2 r
   refine I.call' (s':={ s with heap:=h' }) (ch:=[z,TI,TO,c,d]) rfl ⟨fun b o q hn hb hx=>kk2 b o hx q,fun b o q hn hb hx=>⟨o.slots,kk2 b o hx q⟩,fun b o q hn hx=>hn,fun b o q hx=>⟨o,kk2 b o hx q⟩,fun b ys q=>q,fun b o v q=>q,fun b ps q=>⟨#[],by simpa using q⟩⟩ (fun b v q=>?_) I.bare fun b hb=>?_
   ·refine (I.hok b v q).stay (fun e o hcb r=>kk2 e o (fun he=>?_) r) (fun e r=>r) fun e ys r=>r
    have e0:=(hf e he).1
    rcases hcb with r | r
    ·subst r;rw [e0] at q;cases q
    ·rw [e0] at r;cases r
   ·obtain ⟨f0,f1,f2,f3,f4,f5⟩:=hf b hb
    exact ⟨f3,f1,f4,f5⟩
 self:=fun _ _ _ _ _ st h=>wpAny_pyIter_zip st.zip h
section
variable {prog:Program} {w:World} {A:Around} {E:Value->Shared->Prop} {s:Shared}
noncomputable abbrev tItr (t:Addr):Obj:={ cls:=.type "tuple_iterator",data:=.fields #[.ref t,.int 0 0] }
noncomputable abbrev pairO (x y:Value):Obj:={ cls:=.type "tuple",data:=.seq #[x,y] }
noncomputable abbrev zq1 (h:Heap) (a:Addr):Heap:=h.push (tItr a)
noncomputable abbrev zq2 (h:Heap) (a b:Addr):Heap:=(zq1 h a).push (tItr b)
noncomputable abbrev zq3 (h:Heap) (a b:Addr):Heap:=(zq2 h a b).push (pairO (.ref h.objs.size) (.ref (zq1 h a).objs.size))
noncomputable abbrev zq4 (h:Heap) (a b:Addr):Heap:=(zq3 h a b).push (pairO .none .none)
noncomputable abbrev zq5 (h:Heap) (a b:Addr):Heap:=(zq4 h a b).push { cls:=.type "zip",data:=.fields #[.none,.bool false,.bool false,.ref (zq2 h a b).objs.size,.ref (zq3 h a b).objs.size] }
theorem zip_newT (a b:Addr) (xs ys:Array Value) :
  Meets (Builtin.«zip.__new__» ⟨[.type "zip",.ref a,.ref b],[]⟩) (fun _ R s=>s.heap.IsTuple a xs/\s.heap.IsTuple b ys/\R (.ok (.ret (.ref (zq4 s.heap a b).objs.size))) { s with heap:=zq5 s.heap a b }) :=
 .of_wp fun prog w A R s h=>by
  obtain ⟨hp,g,d,tk,os⟩:=s
  obtain ⟨ha,hb,h⟩:=h
  have hsub:=sub_zip
  have t1:Heap.IsTuple (Shared.heap ⟨hp,g,d,tk,os⟩) a xs:=ha
  have t2:Heap.IsTuple (Shared.heap ⟨hp.push { cls:=.type "tuple_iterator",data:=.fields #[.ref a,.int 0 0] },g,d,tk,os⟩) b ys:=Heap.IsTuple.push hb _
  wp_walk using wpAny_pyIter_tuple t1,wpAny_pyIter_tuple t2
  exact ⟨_,rfl,h⟩
theorem call_zipT {a b:Addr} {xs ys:Array Value} {Q:Value->Shared->Prop} (ha:s.heap.IsTuple a xs) (hb:s.heap.IsTuple b ys)
  (k:∀ hp,ZT hp (s.heap.objs.size+4) (s.heap.objs.size+2) (s.heap.objs.size+3) s.heap.objs.size (s.heap.objs.size+1) a b 0 .none->(∀ e o,s.heap.get? e=some o->hp.get? e=some o)->Q (.ref (s.heap.objs.size+4)) { s with heap:=hp }) :
  wpAny (model prog w) A (call (.type "zip") [.ref a,.ref b]) Q E s:=by
 refine callType_new F.called_zip (by decide) (F.typeCall_zip_2 _ _) (F.newCall_zip_2 _ _) (fun obj=>F.args_object_init_3 obj _ _) F.entry_zip_new (zip_newT a b xs ys) ⟨ha,hb,?_⟩
 have up:∀ {h:Heap} {e:Addr} {o o':Obj},h.get? e=some o->(h.push o').get? e=some o:=fun r=>Heap.get?_push_of_some _ r
 have y1:(zq1 s.heap a).objs.size=s.heap.objs.size+1:=Heap.size_push ..
 have y2:(zq2 s.heap a b).objs.size=s.heap.objs.size+2:=by rw [Heap.size_push,y1]
 have y3:(zq3 s.heap a b).objs.size=s.heap.objs.size+3:=by rw [Heap.size_push,y2]
 have y4:(zq4 s.heap a b).objs.size=s.heap.objs.size+4:=by rw [Heap.size_push,y3]
 have g0:(zq5 s.heap a b).get? s.heap.objs.size=some (tItr a):=up (up (up (up (Heap.get?_push_size _ rfl))))
 have g1:(zq5 s.heap a b).get? (zq1 s.heap a).objs.size=some (tItr b):=up (up (up (Heap.get?_push_size _ rfl)))
 have g2:(zq5 s.heap a b).get? (zq2 s.heap a b).objs.size=some (pairO (.ref s.heap.objs.size) (.ref (zq1 s.heap a).objs.size)):=up (up (Heap.get?_push_size _ rfl))
 have g3:(zq5 s.heap a b).get? (zq3 s.heap a b).objs.size=some (pairO .none .none):=up (Heap.get?_push_size _ rfl)
 have g4:(zq5 s.heap a b).get? (zq4 s.heap a b).objs.size=some { cls:=.type "zip",data:=.fields #[.none,.bool false,.bool false,.ref (zq2 s.heap a b).objs.size,.ref (zq3 s.heap a b).objs.size] }:=Heap.get?_push_size _ rfl
 rw [y1,y2] at g2
 rw [y1] at g1
 rw [y3] at g3
 rw [y2,y3,y4] at g4
 show _/\_
 rw [y4]
 exact ⟨⟨_,g4,rfl⟩,k _ ⟨g4,g2,⟨_,_,g3⟩,⟨_,g0,rfl,rfl⟩,⟨_,g1,rfl,rfl⟩⟩ fun e o r=>up (up (up (up (up r))))⟩
end
section
variable {X:Cx}
noncomputable def iZip (K:PySem.W.Frag) (ta:TA):TI:=fun σ H R=>ta σ H fun vs H1=>∃ a b xs ys,vs=[.ref a,.ref b]/\SqT K H1 a xs/\SqT K H1 b ys/\R (Itz K a b) H1
theorem pi_zip {e f:Expr} {ta:TA} {p pos tpos:Pos} {elts:List Expr} {n:Nat} (hg:Gl X "zip") (hm:X.mg "zip"=none) (ha:PA X [e,f] ta) (hs:starEach [e,f] X.env=(false,eval e X.env)::starEach [f] X.env:=by rfl)
  (hp:(backTo pos (starEach [f] X.env)).any (·.1)=false:=by rfl):PI X (.Tuple elts n tpos) (.Call (.Name "zip" p) [e,f] [] pos) (iZip X.K ta):=by
 intro pins s σ H R I h
 refine Call_ (ld_blt I hg hm boot_zip (PyProof.Rows.callWith_type1 (thn (ha pos pins s σ H _ I h) fun us s1 hsl58=>?_) hs hp))
 obtain ⟨vs,H1,I1,r1,q1⟩:=hsl58
 obtain ⟨a,b,xs,ys,rfl,hqa,hqb,q⟩:=q1
 cases r1 with
 | cons ra r2 =>
 cases r2 with
 | cons rb r3 =>
 cases r3
 cases ra
 cases rb
 obtain ⟨its,rv,pa,hz⟩:=I1.tuple hqa
 obtain ⟨jts,rw',pb,hz'⟩:=I1.tuple hqb
 have pa':s1.heap.IsTuple a its.toArray:=pa
 have pb':s1.heap.IsTuple b jts.toArray:=pb
 have al:a<s1.heap.objs.size:=by obtain ⟨_,r,_⟩:=pa';exact Heap.lt_size r
 have bl:b<s1.heap.objs.size:=by obtain ⟨_,r,_⟩:=pb';exact Heap.lt_size r
 refine call_zipT pa' pb' fun hp Z kk=>?_
 refine wpAny_pyIter_zip (s:={ s1 with heap:=hp }) Z.zip ?_
 refine ⟨_,[s1.heap.objs.size+4,s1.heap.objs.size+2,s1.heap.objs.size+3,s1.heap.objs.size,s1.heap.objs.size+1],_,_,H1,rfl,I1.kept (t':=s1.toks) kk,turn_zip (zipApart_new al bl),Z,fun e he=>?_,q⟩
 have hge:s1.heap.objs.size<=e:=by
  simp only [List.mem_cons,List.mem_nil_iff,or_false] at he
  rcases he with rfl | rfl | rfl | rfl | rfl<;>(show (_:Nat)<=_;omega)
 exact I1.fpOk hge (I1.hok.fresh hge)
end
theorem for_zip {K:PySem.W.Frag} {a b:Addr} {xs ys:List V} {g:TG} {tb:TS} {D:Ends} {σ:St} {H:Hp} (Pv:Nat->St->Hp->Prop) (h0:Pv 0 σ H) (hl:∀ i σ H,Pv i σ H->SqT K H a xs/\SqT K H b ys)
  (hs:∀ i x y σ H t,xs[i]?=some x->ys[i]?=some y->Pv i σ H->H t=none->g (.ref t) σ (upd H t (.tup [x,y])) fun σ2 H2=>tb { D with nx:=Pv (i+1),ct:=Pv (i+1),bk:=D.nx } σ2 H2) (hd:∀ σ H,Pv (min xs.length ys.length) σ H->D.nx σ H) :
  ∃ W:Nat->Nat->St->Hp->Prop,(∃ m,W 0 m σ H)/\∀ i m σ H,W i m σ H ->
   ((Itz K a b).stop i H/\D.nx σ H)∨((Itz K a b).go i H/\∃ N:St->Hp->Prop,(∀ σ' H',N σ' H'->∃ m',m'<m/\W (i+1) m' σ' H')/\∀ x H',(Itz K a b).yld i H x H'->g x σ H' fun σ2 H2=>tb { D with nx:=N,ct:=N,bk:=D.nx } σ2 H2):=by
 refine ⟨fun i m σ H=>m=min xs.length ys.length-i/\i<=min xs.length ys.length/\Pv i σ H,⟨min xs.length ys.length,by simp,Nat.zero_le _,h0⟩,?_⟩
 rintro i m σ H ⟨rfl,hi,p⟩
 obtain ⟨q1,q2⟩:=hl i σ H p
 by_cases hlt:i<min xs.length ys.length
 ·have hx:i<xs.length:=by omega
  have hy:i<ys.length:=by omega
  refine .inr ⟨⟨xs,ys,xs[i],ys[i],q1,q2,by simp [hx],by simp [hy]⟩,Pv (i+1),fun σ' H' p'=>⟨min xs.length ys.length-(i+1),by omega,rfl,hlt,p'⟩,fun v H' w=>?_⟩
  obtain ⟨t,x,y,h1,h2,hn,rfl,rfl⟩:=w
  exact hs i x y σ _ t (h1 xs q1) (h2 ys q2) p hn
 ·have e:i=min xs.length ys.length:=by omega
  subst e
  exact .inl ⟨⟨xs,ys,q1,q2,by omega⟩,hd σ H p⟩
end L2
namespace L2
open PySem PySem.Spec PyProof.Rows
theorem lk_list_keys:typeLookup (.type "list") "keys"=pure none:=by rw [typeLookup_type,builtinLookup_eq_fast];kernel_rfl
theorem lk_list_ga0:typeLookup (.type "list") "__getattr__"=pure none:=by rw [typeLookup_type,builtinLookup_eq_fast];kernel_rfl
section
variable {prog:Program} {w:World} {A:Around} {E:Value->Shared->Prop} {h:Heap} {g:Array GenState} {d:Drawn} {t:Nat} {os:OsState} {a:Addr} {its:Array Value} {nn:Nat} {sl:Array (Option Value)}
noncomputable abbrev lObj (its:Array Value) (nn:Nat) (sl:Array (Option Value)):Obj:={ cls:=.type "list",dict:=none,data:=.seq its nn,slots:=sl }
theorem keys_entry {tk:Tok} {Q:Fin->Shared->Prop} (hx:h.get? a=some (lObj its nn sl)) (hh:A.handled=none)
  (hq:∀ hp tk e,Heap.NewAttrErr h hp e (.ref a) "keys"->E (.ref e) ⟨hp,g,d,tk,os⟩):wpAny (model prog w) A (Builtin.«object.__getattribute__» ⟨[.ref a,.str "keys" tk],[]⟩) Q E ⟨h,g,d,t,os⟩:=by
 have hT:(⟨h,g,d,t,os⟩:Shared).TypeIs (.ref a) "list":=⟨_,hx,rfl⟩
 have f4:=lk_list_keys
 repeat (any_goals (first | assumption | wp_step))
 exact wpAny_raiseAttrError hh hq (attrMsg_fits (by decide +kernel) (by decide +kernel))
theorem keys_call {tk:Tok} {R:Result->Shared->Prop} (hx:h.get? a=some (lObj its nn sl)) (hh:A.handled=none) (hq:∀ hp tk e,Heap.NewAttrErr h hp e (.ref a) "keys"->R (.error (.ref e)) ⟨hp,g,d,tk,os⟩) :
  codeAny (model prog w) A (.call (.builtin "list.__getattribute__") ⟨[.ref a,.str "keys" tk],[]⟩) R ⟨h,g,d,t,os⟩:=by
 refine codeAny_call_builtin F.slot_list_getattribute.plain F.entry_list_ga (F.slot_list_getattribute.check _ _ _ _ _ _ _ _ (show (⟨h,g,d,t,os⟩:Shared).TypeIs (.ref a) "list" from ⟨_,hx,rfl⟩) (F.args_list_getattribute_2 _ _) (keys_entry hx (by simpa using hh) hq))
theorem keys_by {tk:Tok} {Q:Value->Shared->Prop} (hx:h.get? a=some (lObj its nn sl)) (hh:A.handled=none) (hq:∀ hp tk e,Heap.NewAttrErr h hp e (.ref a) "keys"->E (.ref e) ⟨hp,g,d,tk,os⟩) :
  wpAny (model prog w) A (getAttrBy (.ref a) (.str "keys" tk) false) Q E ⟨h,g,d,t,os⟩:=by
 have hT:(⟨h,g,d,t,os⟩:Shared).TypeIs (.ref a) "list":=⟨_,hx,rfl⟩
 have f1:=sub_AttributeError
 have f2:=F.slot_list_getattribute.lookup
 have f3:=F.slot_list_getattribute.bind (.ref a)
 have f5:=lk_list_ga0
 unfold getAttrBy
 repeat (any_goals (first | assumption | wp_step))
 refine keys_call hx hh fun hp tk' e hn=>?_
 obtain ⟨t',u',he⟩:=hn.there
 show wpAny _ _ (getattributeRaised _ _ _ _ _ _ _) _ _ _
 unfold getattributeRaised
 repeat (any_goals (first | assumption | wp_step))
 exact hq _ _ _ hn
theorem keys_none {Q:Option Value->Shared->Prop} (hx:h.get? a=some (lObj its nn sl)) (hh:A.handled=none) (hq:∀ hp tk e,Heap.NewAttrErr h hp e (.ref a) "keys"->Q none ⟨hp,g,d,tk,os⟩) :
  wpAny (model prog w) A (getAttr? (.ref a) "keys") Q E ⟨h,g,d,t,os⟩:=by
 unfold getAttr? getAttrBy?
 refine wpAny_bind (wpAny_mkText (wpAny_bind (wpAny_attempt (keys_by hx hh fun hp tk' e hn=>?_))))
 obtain ⟨t',u',he⟩:=hn.there
 have f1:=sub_AttributeError
 repeat (any_goals (first | assumption | wp_step))
 exact hq _ _ _ hn
end
theorem entry_dul:entryFor table "dict.update.loop"=some Builtin.«dict.update.loop»:=entryFor_of_tree (by kernel_rfl)
theorem plain_dul:plainId "dict.update.loop"=true:=by decide +kernel
noncomputable def fillV (ps:List (Key × Value)):List (Key × Value):=ps.foldl (fun q p=>stored q p.1 p.2) []
theorem fillV_snoc (ps:List (Key × Value)) (p:Key × Value):fillV (ps++[p])=stored (fillV ps) p.1 p.2:=by
 unfold fillV;rw [List.foldl_append];rfl
section
variable {prog:Program} {w:World} {A:Around} {E:Value->Shared->Prop} {s:Shared} {R:Result->Shared->Prop} {I:Addr} {fp wr:List Addr} {G:Array GenState->Array GenState->Prop} {n:Nat} {P:Nat->Value->Prop} {St:Nat->Shared->Prop}
theorem dict_loopT (W:WalksS prog w A.in1 I fp wr G n P St) (S:Addr) (hSf:S∉fp) (ps:List (Key × Value)) (hn:ps.length=n) (tp:Nat->Addr) (kyv:Nat->Value) (hky:∀ i p,ps[i]?=some p->(mixKind prog w).is p.1 (kyv i)=true)
  (hval:∀ i v,P i v->v=.ref (tp i)) (hw:∀ i,tp i∉wr/\tp i≠S) (hsz:∀ i,(fillV (ps.take i)).length<=sizeLine) :
  ∀ (k i:Nat) (j:Tok) (s:Shared),n-i=k->i<=n->St i s->s.heap.DictOf (mixKind prog w) S (fillV (ps.take i))->(∀ i p,ps[i]?=some p->s.heap.IsTuple (tp i) #[kyv i,p.2]) ->
   (∀ s',Moved (S::wr) G s s'->s'.heap.DictOf (mixKind prog w) S (fillV ps)->R (.ok (.ret .none)) s') ->
   codeAny (model prog w) A (.builtin "dict.update.loop" ⟨[.ref S,.ref I,.int i j,.none],[]⟩) R s:=by
 have hSw:S∉wr:=fun h=>hSf (W.sub _ h)
 have hsub:∀ b∈wr,b∈S::wr:=fun b hb=>List.mem_cons_of_mem _ hb
 have dk:∀ {s s':Shared} {q},Moved wr G s s'->s.heap.DictOf (mixKind prog w) S q->s'.heap.DictOf (mixKind prog w) S q:=fun hm hD=>by
  obtain ⟨o,es,ep,ho,rest⟩:=hD
  exact ⟨o,es,ep,hm.heap S _ hSw ho,rest⟩
 intro k
 induction k with
 | zero =>
  intro i j s hk hi hst hS hT hR
  have hin:i=n:=by omega
  subst hin
  refine codeAny_builtin entry_dul ?_
  rw [Around.under_plainId plain_dul _]
  show wpAny _ A.in1 (pyNext (.ref I) >>= _) _ _ s
  refine wpAny_bind (W.done s _ _ hst fun s' hm=>?_)
  show wpAny _ _ (Builtin.Dict.addKeywords S [] >>= _) _ _ _
  refine wpAny_bind (wpAny_pure (wpAny_pure (hR s' (hm.mono hsub) ?_)))
  rw [List.take_of_length_le (by omega)] at hS
  exact dk hm hS
 | succ k ih =>
  intro i j s hk hi hst hS hT hR
  have hlt:i<n:=by omega
  have hip:i<ps.length:=by omega
  refine codeAny_builtin entry_dul ?_
  rw [Around.under_plainId plain_dul _]
  show wpAny _ A.in1 (pyNext (.ref I) >>= _) _ _ s
  refine wpAny_bind (W.item i s _ _ hlt hst fun v s' hP hst' hm=>?_)
  obtain rfl:=hval i v hP
  have hT1:∀ i p,ps[i]?=some p->s'.heap.IsTuple (tp i) #[kyv i,p.2]:=fun i p h=>(hT i p h).at fun o r=>hm.heap _ o (hw i).1 r
  have hti:=hT1 i ps[i] (List.getElem?_eq_getElem hip)
  have hky:=hky i ps[i] (List.getElem?_eq_getElem hip)
  refine wpAny_bind (wpAny_holding (wpAny_bind (wpAny_tryCatch ?_)))
  unfold Builtin.Dict.pairItems
  refine wpAny_bind (wpAny_typeOf hti.typeIs ?_)
  obtain ⟨ot,h1,h2,nt,h3⟩:=id hti
  rw [if_pos (by decide)]
  refine wpAny_bind (wpAny_seqItems h1 h3 (wpAny_pure ?_))
  show wpAny _ _ (holding [kyv i,ps[i].2] (dictSet S (kyv i) ps[i].2)) _ _ _
  refine wpAny_holding (wpAny_dictSet_pairs (hsz:=hsz i) hky (dk hm hS) fun h' dd hs=>?_)
  rw [<- fillV_snoc,<- List.take_succ_eq_append_getElem hip] at dd
  refine wpAny_pure ⟨plainId_quiet plain_dul _,ih (i+1) _ _ (by omega) hlt (W.frame _ s' _ _ hst' (Nat.le_succ _) fun b hb o e=>?_) dd (fun i p h=>(hT1 i p h).at fun o r=>?_) fun s2 hm2 hS3=>?_⟩
  ·rw [hs.2 b (fun h:b=S=>hSf (by rw [<- h];exact hb))];exact e
  ·exact (hs.2 _ (hw i).2).trans r
  ·refine hR s2 (Moved.trans W.gtrans ((hm.mono hsub).then_heap (Nat.le_succ _) fun b o hb e=>?_) hm2) hS3
   rw [hs.2 b (fun h:b=S=>hb (by rw [h];exact List.mem_cons_self))];exact e
end
section
variable {prog:Program} {w:World} {A:Around} {E:Value->Shared->Prop} {s:Shared}
noncomputable abbrev dObj:Obj:={ cls:=.type "dict",data:=.dict #[] }
theorem dict_listT {l:Addr} {items:Array Value} {nn:Nat} {sl:Array (Option Value)} {Q:Value->Shared->Prop} (hl:s.heap.get? l=some (lObj items nn sl)) (hh:A.handled=none) (ps:List (Key × Value)) (tp:Nat->Addr) (kyv:Nat->Value)
  (hlen:ps.length=items.size) (hky:∀ i p,ps[i]?=some p->(mixKind prog w).is p.1 (kyv i)=true) (hit:∀ (i:Nat) (v:Value),items[i]?=some v->v=.ref (tp i)) (htp:∀ i,tp i<s.heap.objs.size) (hsz:∀ i,(fillV (ps.take i)).length<=sizeLine)
  (hT:∀ i p,ps[i]?=some p->s.heap.IsTuple (tp i) #[kyv i,p.2])
  (k:∀ (hp:Heap) (tk:Nat),hp.DictOf (mixKind prog w) s.heap.objs.size (fillV ps)->(∀ b o,s.heap.get? b=some o->hp.get? b=some o)->Q (.ref s.heap.objs.size) { s with heap:=hp,toks:=tk }) :
  wpAny (model prog w) A (call (.type "dict") [.ref l]) Q E s:=by
 refine callType_codes (Q₁:=fun obj s₁=>obj=.ref s.heap.objs.size/\s₁={ s with heap:=s.heap.push dObj }) F.kt_called_dict (F.kt_typeCall_dict_1 _) F.entry_dict_init (kt_code_dict_new _ ⟨rfl,rfl⟩) ?_
 rintro obj s₁ ⟨rfl,rfl⟩
 have hnew:(s.heap.push dObj).DictOf (mixKind prog w) s.heap.objs.size []:=Heap.DictOf.new s.heap
 have hl1:(s.heap.push dObj).get? l=some (lObj items nn sl):=Heap.get?_push_of_some _ hl
 have hll:l<s.heap.objs.size:=Heap.lt_size hl
 refine ⟨hnew.typeIs,F.args_dict_init_2 _ _,?_⟩
 unfold Builtin.«dict.__init__»
 refine wpAny_bind ?_
 unfold Builtin.Dict.selfAndRest
 refine wpAny_bind (wpAny_notOrdered_dict hnew.typeIs (wpAny_pure ?_))
 change wpAny _ _ (Builtin.Dict.updateFrom "dict.__init__" s.heap.objs.size (.ref l) [] .none) _ _ _
 unfold Builtin.Dict.updateFrom
 have ty:Shared.TypeIs { s with heap:=s.heap.push dObj } (.ref l) "list":=⟨_,hl1,rfl⟩
 refine wpAny_bind (wpAny_typeOf ty ?_)
 rw [if_pos (by decide)]
 refine wpAny_bind (keys_none hl1 (by simpa using hh) fun hp tk e hn=>?_)
 have kp:∀ b o,s.heap.get? b=some o->hp.get? b=some o:=fun b o r=>hn.keeps b o (Heap.get?_push_of_some _ r)
 have hD:hp.DictOf (mixKind prog w) s.heap.objs.size []:=by
  obtain ⟨o,es,ep,ho,rest⟩:=hnew
  exact ⟨o,es,ep,hn.keeps _ _ ho,rest⟩
 have hSl:s.heap.objs.size<hp.objs.size:=by
  obtain ⟨o,es,ep,ho,rest⟩:=hD
  exact Heap.lt_size ho
 rw [if_pos (by rfl)]
 refine wpAny_bind (wpAny_rule ?_)
 have hlp:hp.IsList l items:=⟨_,kp _ _ hl,rfl,nn,rfl⟩
 refine wpAny_bind (wpAny_pyIter_list (s:=⟨hp,s.gens,s.drawn,tk,s.os⟩) hlp ?_)
 refine wpAny_pure ⟨plainId_quiet plain_dul _,?_⟩
 have hneI:l≠hp.objs.size:=Nat.ne_of_lt (Nat.lt_trans hll hSl)
 have hSf:s.heap.objs.size∉[hp.objs.size,l]:=by
  simp only [List.mem_cons,List.mem_singleton,List.not_mem_nil,or_false,not_or]
  exact ⟨Nat.ne_of_lt hSl,Nat.ne_of_gt hll⟩
 have W:=(Walks.list (prog:=prog) (w:=w) (A:=A.in1.in1) (by simp [hh]) hp.objs.size l hneI items).toS
 refine dict_loopT W s.heap.objs.size hSf ps hlen tp kyv hky hit (fun i=>?_) hsz (items.size-0) 0 0 _ (by omega) (Nat.zero_le _) ⟨⟨_,Heap.get?_push_size _ rfl,rfl,rfl⟩,hlp.push _⟩ ?_ (fun i p h=>((hT i p h).at fun o r=>kp _ o r).push _) fun s' hm hS'=>?_
 ·refine ⟨?_,Nat.ne_of_lt (htp i)⟩
  simp only [List.mem_cons,List.mem_singleton,List.not_mem_nil,or_false]
  exact Nat.ne_of_lt (Nat.lt_trans (htp i) hSl)
 ·obtain ⟨o,es,ep,ho,rest⟩:=hD
  exact ⟨o,es,ep,Heap.get?_push_of_some _ ho,rest⟩
 ·obtain ⟨h',g',d',tk',os'⟩:=s'
  have eg:g'=s.gens:=hm.gens
  have ed:d'=s.drawn:=hm.drawn
  have eo:os'=s.os:=hm.os
  subst eg;subst ed;subst eo
  refine ⟨rfl,k h' tk' hS' fun b o r=>?_⟩
  have hb:b<s.heap.objs.size:=Heap.lt_size r
  refine hm.heap b o ?_ (Heap.get?_push_of_some _ (kp b o r))
  simp only [List.mem_cons,List.mem_singleton,List.not_mem_nil,or_false,not_or]
  exact ⟨Nat.ne_of_lt hb,Nat.ne_of_lt (Nat.lt_trans hb hSl)⟩
end
end L2
namespace L2
open PySem PySem.Spec PyProof.Rows
theorem bt_dict:bootBuiltins "dict"=some (.type "dict"):=by decide +kernel
noncomputable def fillK (ps:List (Key × V)):List (Key × V):=ps.foldl (fun q p=>putK q p.1 p.2) []
theorem fillK_len (ps:List (Key × V)):(fillK ps).length<=ps.length:=by
 have go:∀ (ps:List (Key × V)) (q:List (Key × V)),(ps.foldl (fun q p=>putK q p.1 p.2) q).length<=q.length+ps.length:=fun ps=>by
  induction ps with
  | nil=>intro q;simp
  | cons p ps ih=>intro q;have h1:=ih (putK q p.1 p.2);have h2:=length_putK q p.1 p.2;simp only [List.foldl_cons,List.length_cons];omega
 simpa [fillK] using go ps []
theorem fill_rel:∀ {ps:List (Key × V)} {qs:List (Key × Value)},ps.length=qs.length->(∀ (i:Nat) (p:Key × V) (q:Key × Value),ps[i]?=some p->qs[i]?=some q->p.1=q.1/\RelV p.2 q.2)->KV (fillK ps) (fillV qs):=by
 have go:∀ (ps:List (Key × V)) (qs:List (Key × Value)) (a:List (Key × V)) (b:List (Key × Value)),KV a b->ps.length=qs.length->(∀ (i:Nat) (p:Key × V) (q:Key × Value),ps[i]?=some p->qs[i]?=some q->p.1=q.1/\RelV p.2 q.2) ->
   KV (ps.foldl (fun q p=>putK q p.1 p.2) a) (qs.foldl (fun q p=>stored q p.1 p.2) b):=fun ps=>by
  induction ps with
  | nil=>intro qs a b h hl _;cases qs with | nil=>exact h | cons _ _=>simp at hl
  | cons p ps ih =>
   intro qs a b h hl hr
   cases qs with
   | nil=>simp at hl
   | cons q qs =>
    obtain ⟨e,r⟩:=hr 0 p q rfl rfl
    simp only [List.foldl_cons]
    refine ih qs _ _ ?_ (by simpa using hl) fun i p' q' h1 h2=>hr (i+1) p' q' (by simpa using h1) (by simpa using h2)
    rw [e];exact h.put q.1 r
 intro ps qs hl hr
 exact go ps qs [] [] .nil hl hr
section
variable {X:Cx}
theorem call_dictL (hc:X.calm=true):CallR X (.type "dict") (fun xs H Q=>∃ (l:Addr) (ts:List Addr) (ps:List (Key × V)),xs=[V.ref l]/\H l=some (.lst (ts.map V.ref))/\ts.length=ps.length/\ps.length<=1000 /\
  (∀ (i:Nat) (t:Addr) (p:Key × V),ts[i]?=some t->ps[i]?=some p->H t=some (.tup [kV p.1,p.2]))/\∀ q,H q=none->Q (.ref q) (upd H q (.dK (fillK ps)))):=by
 intro pins s σ H xs us Q I r h
 obtain ⟨l,ts,ps,rfl,hl,htl,hpl,hat,kq⟩:=h
 obtain ⟨u,rfl,ru⟩:=vals1 r
 cases (show u=Value.ref l from ru)
 obtain ⟨its,rv,⟨o,n,ho,hcl,hd,hda⟩,hz⟩:=I.list (SqL.of hl)
 obtain ⟨ocls,odict,odata,oslots⟩:=o
 simp only at hcl hd hda
 subst hcl;subst hd;subst hda
 have hil:its.length=ts.length:=by rw [<- rv.length,List.length_map]
 obtain ⟨tp,htpe⟩:∃ tp:Nat->Addr,∀ i,tp i=ts.getD i l:=⟨_,fun _=>rfl⟩
 have pr:∀ i:Nat,∃ q:Value × Value,i<ps.length->its[i]?=some (.ref (tp i))/\IsTup s.heap (tp i) #[q.1,q.2]/\∀ p,ps[i]?=some p->RelV (kV p.1) q.1/\RelV p.2 q.2:=fun i=>by
  by_cases hi:i<ps.length
  ·have hti:i<ts.length:=by omega
   have h1:ts[i]?=some ts[i]:=List.getElem?_eq_getElem hti
   have h2:ps[i]?=some ps[i]:=List.getElem?_eq_getElem hi
   have et:tp i=ts[i]:=by rw [htpe,List.getD_eq_getElem?_getD,h1];rfl
   obtain ⟨v,hv,rvv⟩:=rv.get (i:=i) (x:=.ref ts[i]) (by rw [List.getElem?_map,h1];rfl)
   cases (show v=Value.ref ts[i] from rvv)
   obtain ⟨jts,rj,pj,_⟩:=I.tuple (SqT.of (hat i _ _ h1 h2))
   cases rj with
   | cons ra r2 =>
   cases r2 with
   | cons rb r3 =>
   cases r3
   refine ⟨(_,_),fun _=>⟨by rw [et];exact hv,by rw [et];exact pj,fun p hp=>?_⟩⟩
   rw [h2] at hp;cases hp;exact ⟨ra,rb⟩
  ·exact ⟨(.none,.none),fun h=>absurd h hi⟩
 obtain ⟨qv,spec⟩:=Classical.axiomOfChoice pr
 obtain ⟨qs,hqs⟩:∃ qs:List (Key × Value),qs=(List.range ps.length).map fun i=>((ps.getD i (.inl 0,.non)).1,(qv i).2):=⟨_,rfl⟩
 have qsl:qs.length=ps.length:=by rw [hqs];simp
 have qsg:∀ (i:Nat) (q:Key × Value),qs[i]?=some q->i<ps.length/\∃ p,ps[i]?=some p/\q=(p.1,(qv i).2):=fun i q h=>by
  have hi:i<ps.length:=by have:=(List.getElem?_eq_some_iff.mp h).1;omega
  refine ⟨hi,ps[i],List.getElem?_eq_getElem hi,?_⟩
  rw [hqs,List.getElem?_map,List.getElem?_range hi] at h
  have h:=Option.some.inj h
  rw [<- h]
  show ((ps.getD i (.inl 0,.non)).1,(qv i).2)=_
  rw [List.getD_eq_getElem?_getD,List.getElem?_eq_getElem hi];rfl
 have rel:KV (fillK ps) (fillV qs):=fill_rel qsl.symm fun i p q h1 h2=>by
  obtain ⟨hi,p',hp',rfl⟩:=qsg i q h2
  rw [h1] at hp';cases hp'
  exact ⟨rfl,((spec i hi).2.2 p h1).2⟩
 have relT:∀ i,KV (fillK (ps.take i)) (fillV (qs.take i)):=fun i=>fill_rel (by simp [qsl]) fun j p q h1 h2=>by
  rw [List.getElem?_take] at h1 h2
  split at h1
  ·rename_i hj
   rw [if_pos hj] at h2
   obtain ⟨hi,p',hp',rfl⟩:=qsg j q h2
   rw [h1] at hp';cases hp'
   exact ⟨rfl,((spec j hi).2.2 p h1).2⟩
  ·cases h1
 have sz1000:∀ (m:Nat),m<=1000->m<=sizeLine:=fun m hm=>Nat.le_of_lt (small1000 hm)
 refine dict_listT ho (I.ok.hd hc) qs tp (fun i=>(qv i).1) (by rw [qsl];simp;omega) (fun i q h=>?_) (fun i v h=>?_) (fun i=>?_) (fun i=>?_) (fun i q h=>?_) fun hp tk hD kk=>?_
 ·obtain ⟨hi,p,hp,rfl⟩:=qsg i q h
  exact kV_is ((spec i hi).2.2 p hp).1
 ·have hi:i<ps.length:=by
   have:=(Array.getElem?_eq_some_iff.mp h).1
   simp at this;omega
  have:=(spec i hi).1
  have h:its[i]?=some v:=by simpa using h
  rw [this] at h;exact (Option.some.inj h).symm
 ·by_cases hi:i<ps.length
  ·obtain ⟨_,⟨o,r,_⟩,_⟩:=spec i hi
   exact Heap.lt_size r
  ·have:tp i=l:=by
    rw [htpe,List.getD_eq_getElem?_getD,List.getElem?_eq_none (by omega)];rfl
   rw [this];exact Heap.lt_size ho
 ·rw [<- (relT i).length]
  have:=fillK_len (ps.take i)
  rw [List.length_take] at this
  exact sz1000 _ (by omega)
 ·obtain ⟨hi,p,hp,rfl⟩:=qsg i q h
  exact (spec i hi).2.1
 ·have hf:=fillK_len ps
  refine ⟨.ref s.heap.objs.size,_,I.laid (a:=s.heap.objs.size) (o:=.dK (fillK ps)) (t':=tk) kk (Nat.le_refl _) (dk_new (sz1000 _ (by omega)) (beq_eq_false_iff_ne.mpr (Ne.symm (Nat.ne_of_lt I.big))) rel hD),rfl,kq _ I.fresh⟩
end
end L2
namespace L2
open PySem PySem.Spec PyProof.Rows
structure KDictT (P:Program) (w:World) (K:PySem.W.Frag) (a:Addr) (kvs:List (Str × Str)):Prop where
 ns:(a == sysModules)=false
 ob:∃ (o:Obj) (vs:List (Key × Value)),K.lookup a=some o/\o.cls=.type "dict"/\o.dict=none/\(∀ h:Heap,h.get? a=some o->h.DictOf (mixKind P w) a vs) /\
  ∀ k:Str,(∀ i,kvs.lookup k=some i->∃ t,valueAt vs (Sum.inr k:Key)=some (.str i t))/\(kvs.lookup k=none->valueAt vs (Sum.inr k:Key)=none)
noncomputable abbrev KE4T:=Str × Tok × Str × Tok
noncomputable def kEntT (w:World) (e:KE4T):DictEntry:=⟨hashStr w e.1,.str e.1 e.2.1,.str e.2.2.1 e.2.2.2⟩
noncomputable def kPrT (e:KE4T):Key × Value:=(Sum.inr e.1,.str e.2.2.1 e.2.2.2)
theorem kPairsT {P:Program} {w:World}:∀ es:List KE4T,Pairs (mixKind P w) (es.map (kEntT w)) (es.map kPrT)
 | []=>.nil
 | e::r=>.cons (mixKind_str P w e.1 e.2.1) rfl (kPairsT r)
theorem kValT (k:Str):∀ es:List KE4T,(∀ i,(es.map fun e=>(e.1,e.2.2.1)).lookup k=some i->∃ t,valueAt (es.map kPrT) (Sum.inr k:Key)=some (.str i t))/\((es.map fun e=>(e.1,e.2.2.1)).lookup k=none->valueAt (es.map kPrT) (Sum.inr k:Key)=none)
 | []=>⟨fun i h=>by simp at h,fun _=>rfl⟩
 | e::r=>by
  obtain ⟨h1,h2⟩:=kValT k r
  simp only [List.map_cons,List.lookup_cons]
  by_cases hk:k=e.1
  ·subst hk
   simp only [beq_self_eq_true]
   refine ⟨fun i h=>?_,fun h=>nomatch h⟩
   cases h
   exact ⟨e.2.2.2,by simp [valueAt,kPrT]⟩
  ·have hb:(k == e.1)=false:=beq_eq_false_iff_ne.mpr hk
   have hn:¬ ((kPrT e).1=(Sum.inr k:Key)):=fun z=>hk (by
    have z':(Sum.inr e.1:Key)=Sum.inr k:=z
    injection z' with z'
    exact z'.symm)
   have ev:valueAt (kPrT e::r.map kPrT) (Sum.inr k:Key)=valueAt (r.map kPrT) (Sum.inr k:Key):=by
    unfold valueAt
    rw [List.find?_cons_of_neg (by simpa using hn)]
   rw [hb,ev]
   exact ⟨h1,h2⟩
theorem kdictT_mk {P:Program} {w:World} {K:PySem.W.Frag} {a:Addr} {ep:Nat} {es:List KE4T} (hs:(a == sysModules)=false)
  (hl:K.lookup a=some ⟨.type "dict",none,.dict (es.map (kEntT w)).toArray ep,#[]⟩) (nd:(es.map (·.1)).Nodup):KDictT P w K a (es.map fun e=>(e.1,e.2.2.1)):=by
 refine ⟨hs,_,es.map kPrT,hl,rfl,rfl,fun h e=>⟨_,_,_,e,⟨rfl,rfl,rfl⟩,rfl,?_,kPairsT es,?_⟩,fun k=>kValT k es⟩
 ·intro x hx
  have hx':x∈es.map (kEntT w):=by simpa using hx
  obtain ⟨y,_,rfl⟩:=List.mem_map.mp hx'
  exact ⟨Sum.inr y.1,mixKind_str P w y.1 y.2.1,rfl⟩
 ·have e1:(es.map kPrT).map (·.1)=(es.map (·.1)).map (Sum.inr:Str->Key):=by rw [List.map_map,List.map_map];rfl
  rw [e1]
  refine List.Pairwise.map _ (fun x y hxy hz=>hxy ?_) nd
  injection hz
section
variable {X:Cx} {a:Addr} {kvs:List (Str × Str)} {x:Str} {p pos apos cpos:Pos} {e f:Expr} {ty tx:TE}
theorem KDictT.here {pins:List (Addr × Obj)} {σ:St} {H:Hp} {s:Shared} (D:KDictT X.prog X.w X.K a kvs) (I:Inv X pins σ H s) :
  ∃ vs:List (Key × Value),s.heap.DictOf (mixKind X.prog X.w) a vs/\(∀ b,Value.ref a=.ref b->∃ ob,s.heap.get? b=some ob/\ob.dict=none) /\
   ∀ k:Str,(∀ i,kvs.lookup k=some i->∃ t,valueAt vs (Sum.inr k:Key)=some (.str i t))/\(kvs.lookup k=none->valueAt vs (Sum.inr k:Key)=none):=by
 obtain ⟨o,vs,hk,hc,hd,hh,hv⟩:=D.ob
 have e:=I.kIn a o hk
 exact ⟨vs,hh _ e,fun b q=>by cases q;exact ⟨o,e,hd⟩,hv⟩
noncomputable def tKIxT (kvs:List (Str × Str)) (ty:TE):TE:=fun σ H Q=>ty σ H fun y H1=>∃ (k:Str) (i:Str),y=.str k/\kvs.lookup k=some i/\Q (.str i) H1
theorem pe_kixT (D:KDictT X.prog X.w X.K a kvs) (hg:Gl X x) (hm:X.mg x=some (.ref a)) (he:PE X e ty) (hs:PlainIx e) (hd:(x == ("__debug__":Str))=false:=by decide):PE X (.Subscript (.Name x p) e pos) (tKIxT kvs ty):=by
 intro pins s σ H Q I h
 refine Subscript_ (ld_glob I hg hm ?_ hd)
 refine thn (he pins s σ H _ I h) fun iv s1 hsl59=>?_
 obtain ⟨y,H1,I1,ry,k,i,ey,hk,q⟩:=hsl59
 subst ey
 obtain ⟨t,rfl⟩:=ry
 obtain ⟨vs,dd,_,hv⟩:=D.here I1
 obtain ⟨t',e⟩:=(hv k).1 i hk
 exact tail_any dd.typeIs PySem.F.slot_dict_getitem.lookup (wpAny_getItem_of (k:=(Sum.inr k:Key)) (mixKind_str _ _ k t) dd.mapOf e ⟨.str i,H1,I1.tok _,⟨t',rfl⟩,q⟩) (hs _ _)
end
end L2
namespace L2
open PySem PySem.Spec PyProof.Rows
mutual
inductive Rdv (K:PySem.W.Frag) (H:Hp):V->PyData->Prop
 | non:Rdv K H .non .none
 | bl (b:Bool):Rdv K H (.bl b) (.bool b)
 | int (i:Int):Rdv K H (.int i) (.int i)
 | str (x:Str):Rdv K H (.str x) (.str x)
 | lst {a:Addr} {xs:List V} {ds:List PyData}:SqL K H a xs->RdvA K H xs ds->Rdv K H (.ref a) (.list ds)
 | tup {a:Addr} {xs:List V} {ds:List PyData}:SqT K H a xs->RdvA K H xs ds->Rdv K H (.ref a) (.tuple ds)
inductive RdvA (K:PySem.W.Frag) (H:Hp):List V->List PyData->Prop
 | nil:RdvA K H [] []
 | cons {x:V} {d:PyData} {xs:List V} {ds:List PyData}:Rdv K H x d->RdvA K H xs ds->RdvA K H (x::xs) (d::ds)
end
section
variable {X:Cx} {pins:List (Addr × Obj)} {σ:St} {H:Hp} {s:Shared}
mutual
theorem Rdv.reads (I:Inv X pins σ H s):∀ {x:V} {d:PyData} {u:Value},Rdv X.K H x d->RelV x u->∃ as,Reads s.heap u d as
 | _,_,_,.non,r=>by cases r;exact ⟨_,.none⟩
 | _,_,_,.bl b,r=>by cases r;exact ⟨_,.bool b⟩
 | _,_,_,.int i,r=>by obtain ⟨t,rfl⟩:=r;exact ⟨_,.int i t⟩
 | _,_,_,.str x,r=>by obtain ⟨t,rfl⟩:=r;exact ⟨_,.str x t⟩
 | _,_,_,.lst hq ha,r=>by
  cases r
  obtain ⟨its,rv,p,_⟩:=I.list hq
  obtain ⟨as,ra⟩:=RdvA.reads I ha rv
  obtain ⟨o,ho,hc,n,hd⟩:=p.isList
  exact ⟨_,.list ho hc hd (by simpa using ra)⟩
 | _,_,_,.tup hq ha,r=>by
  cases r
  obtain ⟨its,rv,p,_⟩:=I.tuple hq
  obtain ⟨as,ra⟩:=RdvA.reads I ha rv
  obtain ⟨o,ho,hc,n,hd⟩:=p
  exact ⟨_,.tuple ho hc hd (by simpa using ra)⟩
theorem RdvA.reads (I:Inv X pins σ H s):∀ {xs:List V} {ds:List PyData} {us:List Value},RdvA X.K H xs ds->Vals xs us->∃ as,ReadsAll s.heap us ds as
 | _,_,_,.nil,r=>by cases r;exact ⟨_,.nil⟩
 | _,_,_,.cons h t,r=>by
  cases r with
  | cons r1 r2 =>
   obtain ⟨as,ra⟩:=Rdv.reads I h r1
   obtain ⟨bs,rb⟩:=RdvA.reads I t r2
   exact ⟨_,.cons ra rb⟩
end
end
section
variable {X:Cx}
theorem op_eqD {K:PySem.W.Frag} (hK:X.K=K) (hu:X.A.units+64<cLine):OpR X (compareOp .Eq) (fun x y H Q=>∃ d e,Rdv K H x d/\Rdv K H y e/\SeqAt.shaped d=true/\SeqAt.shaped e=true/\Q (.bl (PyData.eqv d e)) H):=by
 intro pins s σ H x y v u Q I rx ry h
 subst hK
 obtain ⟨d,e,h1,h2,s1,s2,q⟩:=h
 obtain ⟨as,ra⟩:=h1.reads I rx
 obtain ⟨bs,rb⟩:=h2.reads I ry
 exact eq_dataH ra rb s1 s2 hu ⟨.bl _,H,I,rfl,q⟩
theorem op_neD {K:PySem.W.Frag} (hK:X.K=K) (hu:X.A.units+64<cLine):OpR X (compareOp .NotEq) (fun x y H Q=>∃ d e,Rdv K H x d/\Rdv K H y e/\SeqAt.shaped d=true/\SeqAt.shaped e=true/\Q (.bl (!PyData.eqv d e)) H):=by
 intro pins s σ H x y v u Q I rx ry h
 subst hK
 obtain ⟨d,e,h1,h2,s1,s2,q⟩:=h
 obtain ⟨as,ra⟩:=h1.reads I rx
 obtain ⟨bs,rb⟩:=h2.reads I ry
 exact ne_dataH ra rb s1 s2 hu ⟨.bl _,H,I,rfl,q⟩
end
section
variable {X:Cx}
end
noncomputable def Shd (n:Nat) (d:PyData):Prop:=d.canLay0=true/\d.depth<=n
theorem Shd.int (i:Int):Shd 0 (.int i):=⟨rfl,Nat.le_refl _⟩
theorem Shd.str {z:Str} (h:∀ c∈z.cps.toList,c<128):Shd 0 (.str z):=⟨by
 show PyData.strOk z=true
 unfold PyData.strOk
 rw [Array.all_eq_true]
 intro i hi
 have:=h z.cps[i] (by simp)
 simp only [decide_eq_true_eq]
 omega,Nat.le_refl _⟩
theorem shd_all {n:Nat}:∀ {ds:List PyData},(∀ d∈ds,Shd n d)->PyData.canLayAll0 ds=true/\PyData.depthAll ds<=n
 | [],_=>⟨rfl,Nat.zero_le _⟩
 | d::r,h=>by
  obtain ⟨a,b⟩:=h d List.mem_cons_self
  obtain ⟨c,e⟩:=shd_all (ds:=r) fun x hx=>h x (List.mem_cons_of_mem _ hx)
  exact ⟨by simp only [PyData.canLayAll0];rw [a,c];rfl,by simp only [PyData.depthAll];omega⟩
theorem Shd.list {n:Nat} {ds:List PyData} (h:∀ d∈ds,Shd n d):Shd (n+1) (.list ds):=⟨by simp only [PyData.canLay0];exact (shd_all h).1,by simp only [PyData.depth];have:=(shd_all h).2;omega⟩
theorem Shd.tuple {n:Nat} {ds:List PyData} (h:∀ d∈ds,Shd n d):Shd (n+1) (.tuple ds):=⟨by simp only [PyData.canLay0];exact (shd_all h).1,by simp only [PyData.depth];have:=(shd_all h).2;omega⟩
theorem Shd.up {n m:Nat} {d:PyData} (h:Shd n d) (hm:n<=m):Shd m d:=⟨h.1,Nat.le_trans h.2 hm⟩
theorem Shd.ok {n:Nat} {d:PyData} (h:Shd n d) (hn:n<=64):SeqAt.shaped d=true:=by
 show (d.canLay0&&decide (d.depth<=64))=true
 rw [h.1,decide_eq_true (Nat.le_trans h.2 hn)];rfl
theorem Shd.refl {n:Nat} {d:PyData} (h:Shd n d):PyData.eqv d d=true:=SeqAt.eqv_refl d h.1
end L2
namespace L2
open PySem PySem.Spec PyProof.Rows
theorem args_lsort_key (a v:Value):argsOk "list.sort" ⟨[a],[(Str.ofString "key",v)]⟩:=by unfold argsOk;kernel_rfl
theorem args_sorted_key (a v:Value):argsOk "sorted" ⟨[a],[(Str.ofString "key",v)]⟩:=by unfold argsOk;kernel_rfl
theorem lsort_key (a f:Addr):Builtin.«list.sort» ⟨[.ref a],[(Str.ofString "key",.ref f)]⟩=(do
  let items <- Builtin.List.listItems (.ref a)
  Builtin.List.listUpdate (.ref a) fun _=>#[]
  let before <- seqEpoch a
  let held <- newTuple items.toList
  let keyStore <- newList []
  holding [held,keyStore] do
   rule "list.sort.key"
   for x in items do
    match <- (call (.ref f) [x]).attempt with
    | .ok k=>Builtin.List.listUpdate keyStore (·.push k)
    | .error e =>
     rule "list.sort.key-raised"
     let made <- Builtin.List.listItems keyStore
     Builtin.List.listUpdate keyStore fun _=>#[]
     letGo made.toList.reverse [e]
     Builtin.List.listUpdate (.ref a) fun _=>items;throw e
   let keys <- Builtin.List.listItems keyStore
   let kind <- if items.size<2 then pure general' else keyKind' keys
   let ((),s) <- (if items.size<2 then pure () else sortRuns').run (SortSt.mk' kind (keys.zip items) #[] 7 none)
   let sorted:=(arrOf s).map (·.2)
   Builtin.List.listUpdate keyStore fun _=>#[]
   letGo ((arrOf s).map (·.1)).toList (failedOf s).toList
   let touched:=(<- seqEpoch a) != before
   Builtin.List.listUpdate (.ref a) fun _=>sorted
   if let some e:=failedOf s then rule "list.sort.comparison-raised";throw e
   if touched then rule "list.sort.modified";raiseError "ValueError" "list modified during sort"
   ret .none):=by
 first | rfl | (fail "not by rfl")
theorem Inv.adopt {X:Cx} {pins:List (Addr × Obj)} {σ:St} {H:Hp} {s:Shared} {a:Addr} {o:HO} (I:Inv X pins σ H s) (f:FpOk X pins H a) (new:ObjOk X.prog X.w (upd H a o) s.heap a o):Inv X pins σ (upd H a o) s:=by
 obtain ⟨f0,f1,f2,f3,f4,f5⟩:=f
 have ne:∀ b u,H b=some u->b≠a:=fun b u e=>ne_of_none e f0
 have hok:HOk X.prog X.w (upd H a o) s.heap:=fun b u e=>by
  by_cases hb:b=a
  ·subst hb;rw [upd_same] at e;cases e;exact new
  ·rw [upd_ne hb] at e
   exact (I.hok b u e).stay (fun c v _ q=>q) (fun c q=>by rw [upd_ne (ne c _ q)];exact q) fun c xs q=>by rw [upd_ne (ne c _ q)];exact q
 have nc:∀ {b:Addr},b∉[a]->b≠a:=fun h z=>h (by simp [z])
 exact I.step (g':=s.gens) (d':=s.drawn) (t':=s.toks) (h':=s.heap) (ch:=[a]) (fun b hb=>by
   have e:b=a:=by simpa using hb
   subst e
   exact ⟨f3,f1,f4,f5⟩)
  (fun b o _ _ _ e _=>e) (fun b o _ _ _ e _=>⟨o.slots,e⟩) (fun b o hc e n=>by rw [upd_ne (nc hc)];exact n) (fun b o _ e=>⟨o,e⟩)
  (fun b xs e=>by rw [upd_ne (ne b _ e)];exact e) (fun b o u e=>by rw [upd_ne (ne b _ e)];exact e) (fun b ps e=>⟨#[],by rw [upd_ne (ne b _ e),e];simp⟩) (fun m hm=>hm) hok I.bare
section
variable {X:Cx} {k:Nat} {f:Addr} {fd:FuncData} {ps:List Str} {sp:Sp} {dvs:List V} {ds:List Value} {pins:List (Addr × Obj)} {σ:St} {H:Hp} {s:Shared} {xs:List V} {ks:List Int}
end
end L2
namespace L2
open PySem PySem.Spec PyProof.Rows
section
variable {prog:Program} {w:World} {K:Type} [DecidableEq K] {knd:HeapKind prog w K} {A:Around} {E:Value->Shared->Prop} {s:Shared} {d:Addr} {xs:List (K × Addr × Value)}
end
section
variable {X:Cx}
end
end L2
namespace L2
open PySem PySem.Spec PyProof.Rows PySem.W
noncomputable def runT {α:Type} (lt:Nat->Nat->Bool):KasT α->α
 | .ret a=>a
 | .ask i j k=>runT lt (k (lt i j))
noncomputable def Asks {α:Type} (n:Nat) (P:α->Prop):KasT α->Prop
 | .ret a=>P a
 | .ask i j k=>i<n/\j<n/\∀ b,Asks n P (k b)
theorem Asks.bind {α β:Type} {n:Nat} {P:β->Prop} {f:α->KasT β}:∀ {t:KasT α},Asks n (fun a=>Asks n P (f a)) t->Asks n P (t.bind f)
 | .ret a,h=>h
 | .ask i j k,h=>⟨h.1,h.2.1,fun b=>Asks.bind (h.2.2 b)⟩
theorem Asks.mono {α:Type} {n:Nat} {P Q:α->Prop} (hq:∀ a,P a->Q a):∀ {t:KasT α},Asks n P t->Asks n Q t
 | .ret a,h=>hq a h
 | .ask i j k,h=>⟨h.1,h.2.1,fun b=>Asks.mono hq (h.2.2 b)⟩
theorem asks_run {α:Type} {n:Nat} {P:α->Prop} (lt:Nat->Nat->Bool):∀ (t:KasT α),Asks n P t->P (runT lt t)
 | .ret a,h=>h
 | .ask i j k,h=>asks_run lt (k (lt i j)) (h.2.2 (lt i j))
theorem kasWp_of {α:Type} {cmp:Nat->Nat->(Bool->Shared->Prop)->Shared->Prop} {lt:Nat->Nat->Bool} {n:Nat} {P:α->Prop} {s:Shared} {G:α->Shared->Prop} (hc:∀ i j,i<n->j<n->∀ C:Bool->Shared->Prop,C (lt i j) s->cmp i j C s) :
  ∀ {t:KasT α},Asks n P t->G (runT lt t) s->KasT.kasWp cmp t G s
 | .ret a,_,g=>g
 | .ask i j k,h,g=>hc i j h.1 h.2.1 _ (kasWp_of hc (h.2.2 (lt i j)) g)
noncomputable def Ent (n:Nat) (p:Array Nat):Prop:=∀ x∈p.toList,x<n
theorem Ent.at {n:Nat} {p:Array Nat} (h0:0<n) (h:Ent n p) (k:Nat):p.getD k 0<n:=by
 rw [Array.getD_eq_getD_getElem?]
 cases e:p[k]? with
 | none=>exact h0
 | some x =>
  refine h x ?_
  rw [<- Array.getElem?_toList] at e
  exact List.mem_of_getElem? e
theorem Ent.swap {n:Nat} {p:Array Nat} (h:Ent n p) (i j:Nat):Ent n (p.swapIfInBounds i j):=by
 intro x hx
 refine h x ?_
 unfold Array.swapIfInBounds at hx
 split at hx
 ·split at hx
  ·rename_i h1 h2
   exact ((Array.perm_iff_toList_perm.mp (Array.swap_perm h1 h2)).mem_iff).mp hx
  ·exact hx
 ·exact hx
theorem Ent.swaps {n:Nat} (f g:Nat->Nat):∀ (l:List Nat) {p:Array Nat},Ent n p->Ent n (l.foldl (fun a k=>a.swapIfInBounds (f k) (g k)) p)
 | [],_,h=>h
 | k::l,_,h=>Ent.swaps f g l (h.swap _ _)
theorem Ent.rev {n:Nat} {p:Array Nat} (h:Ent n p) (i j:Nat):Ent n (kas_rev p i j):=by
 unfold kas_rev mirror
 exact Ent.swaps (fun k=>i+k) (fun k=>j-1-k) _ h
theorem Ent.bubble {n:Nat} {p:Array Nat} (h:Ent n p) (i d:Nat):Ent n (bubble p i d):=by
 unfold PyProof.Rows.bubble
 exact Ent.swaps (fun k=>i-k) (fun k=>i-k-1) _ h
theorem asks_asc {n:Nat} (h0:0<n) {p:Array Nat} (h:Ent n p):∀ k i,Asks n (fun _=>True) (kas_asc p k i)
 | 0,i=>by unfold kas_asc;trivial
 | k+1,i=>by
  unfold kas_asc
  refine ⟨h.at h0 _,h.at h0 _,fun b=>?_⟩
  dsimp only
  split
  ·trivial
  ·exact asks_asc h0 h k (i+1)
theorem asks_desc {n:Nat} (h0:0<n):∀ k {p:Array Nat},Ent n p->∀ i m,Asks n (fun r:Array Nat × Nat × Nat=>Ent n r.1) (kas_desc k p i m)
 | 0,p,h,i,m=>by unfold kas_desc;exact h
 | k+1,p,h,i,m=>by
  unfold kas_desc
  refine ⟨h.at h0 _,h.at h0 _,fun b=>?_⟩
  dsimp only
  split
  ·split
   ·exact asks_desc h0 k (h.rev _ _) _ _
   ·exact asks_desc h0 k h _ _
  ·refine ⟨h.at h0 _,h.at h0 _,fun b=>?_⟩
   dsimp only
   split
   ·exact h
   ·exact asks_desc h0 k h _ _
theorem asks_place {n:Nat} (h0:0<n) {p:Array Nat} (h:Ent n p) (k:Nat):∀ f l r,Asks n (fun _=>True) (kas_place p k f l r)
 | 0,l,r=>by unfold kas_place;trivial
 | f+1,l,r=>by
  unfold kas_place
  split
  ·trivial
  ·refine ⟨h.at h0 _,h.at h0 _,fun b=>?_⟩
   dsimp only
   split
   ·exact asks_place h0 h k f _ _
   ·exact asks_place h0 h k f _ _
theorem asks_bin {n:Nat} (h0:0<n):∀ k {p:Array Nat},Ent n p->∀ i,Asks n (Ent n) (kas_bin k p i)
 | 0,p,h,i=>by unfold kas_bin;exact h
 | k+1,p,h,i=>by
  unfold kas_bin
  exact Asks.bind ((asks_place h0 h i i 0 i).mono fun l _=>asks_bin h0 k (h.bubble _ _) (i+1))
theorem asks_tail {n:Nat} (h0:0<n) {p:Array Nat} (h:Ent n p) (i j:Nat):Asks n (fun r:Nat × Array Nat=>Ent n r.2) (kas_tail3 i j p):=by
 unfold kas_tail3
 exact Asks.bind ((asks_asc h0 (h.rev _ _) _ _).mono fun m _=>h.rev _ _)
theorem asks_descP {n:Nat} (h0:0<n) {p:Array Nat} (h:Ent n p) (i j:Nat):Asks n (fun r:Nat × Array Nat=>Ent n r.2) (kas_descPart i j p):=by
 unfold kas_descPart
 refine Asks.bind ((asks_desc h0 _ h _ _).mono fun r hr=>?_)
 try dsimp only
 split
 ·exact asks_tail h0 (hr.rev _ _) _ _
 ·exact asks_tail h0 hr _ _
theorem asks_count {n:Nat} (h0:0<n) {p:Array Nat} (h:Ent n p) (j:Nat):Asks n (fun r:Nat × Array Nat=>Ent n r.2) (kas_count j p):=by
 unfold kas_count
 refine Asks.bind ((asks_asc h0 h _ _).mono fun i _=>?_)
 try dsimp only
 split
 ·exact h
 ·split
  ·refine ⟨h.at h0 _,h.at h0 _,fun b=>?_⟩
   dsimp only
   split
   ·exact h
   ·exact asks_descP h0 (h.rev _ _) _ _
  ·exact asks_descP h0 h _ _
theorem asks_sort {n:Nat} (h0:0<n):Asks n (Ent n) (kas_sort n):=by
 have h:Ent n (List.range n).toArray:=fun x hx=>by simpa using hx
 unfold kas_sort
 refine Asks.bind ((asks_count h0 h n).mono fun r hr=>?_)
 try dsimp only
 split
 ·exact asks_bin h0 _ hr _
 ·exact hr
end L2
namespace L2
open PySem PySem.Spec PyProof.Rows PySem.W
noncomputable def isI:Key->Bool
 | .inl _=>true
 | .inr _=>false
noncomputable def ltK:Key->Key->Bool
 | .inl i,.inl j=>decide (i<j)
 | .inr a,.inr c=>decide (a.cps.toList<c.cps.toList)
 | _,_=>false
noncomputable def ltT:List Key->List Key->Bool
 | a::r,b::q=>if a=b then ltT r q else ltK a b
 | _,_=>false
theorem oneLt_ok {prog:Program} {w:World} {A:Around} {E:Value->Shared->Prop} {fl:Bool} {Q:Bool->Shared->Prop} {s:Shared} {a b:Key} {u v:Value} (ra:RelV (kV a) u) (rb:RelV (kV b) v) (h:isI a=isI b) (q:Q (ltK a b) s):wpAny (model prog w) A (oneLt' fl u v) Q E s:=by
 cases a with
 | inl i =>
  cases b with
  | inr y=>cases h
  | inl j =>
   obtain ⟨t,rfl⟩:=(show ∃ t,u=Value.int i t from ra)
   obtain ⟨t',rfl⟩:=(show ∃ t,v=Value.int j t from rb)
   cases fl with
   | true=>exact kat_lt_int q
   | false=>exact kat_one _ _ (lt_int q)
 | inr x =>
  cases b with
  | inl j=>cases h
  | inr y =>
   obtain ⟨t,rfl⟩:=(show ∃ t,u=Value.str x t from ra)
   obtain ⟨t',rfl⟩:=(show ∃ t,v=Value.str y t from rb)
   cases fl with
   | true=>exact kas_lt_str q
   | false=>exact kat_one _ _ (lt_str q)
theorem katLex_ok {prog:Program} {w:World} {A:Around} {fl:Bool} {Q:Bool->Shared->Prop} {s:Shared}:∀ {a b:List Key} {us vs:List Value} (i:Nat),Vals (a.map kV) us->Vals (b.map kV) vs->a.map isI=b.map isI->Q (ltT a b) s->KatLex prog w A fl false Q (us.zip vs) i s
 | [],[],us,vs,i,ra,rb,h,q=>by cases ra;cases rb;unfold KatLex;exact q
 | [],_::_,us,vs,i,ra,rb,h,q=>by cases h
 | _::_,[],us,vs,i,ra,rb,h,q=>by cases h
 | a::r,b::t,us,vs,i,ra,rb,h,q=>by
  cases ra with
  | @cons _ u _ us ra1 ra2 =>
   cases rb with
   | @cons _ v _ vs rb1 rb2 =>
    simp only [List.map_cons,List.cons.injEq] at h
    show KatLex prog w A fl false Q ((u,v)::us.zip vs) i s
    unfold KatLex
    refine (mixKind prog w).eqBool (kV_is ra1) (kV_is rb1) ?_
    unfold ltT at q
    by_cases e:a=b
    ·rw [if_pos e] at q
     rw [if_pos (decide_eq_true e)]
     exact katLex_ok (i+1) ra2 rb2 h.2 q
    ·rw [if_neg e] at q
     rw [if_neg (by rw [decide_eq_false e];exact Bool.false_ne_true)]
     exact oneLt_ok ra1 rb1 h.1 q
noncomputable def ordN (ds:List (List Key)) (i j:Nat):Bool:=ltT (ds.getD i []) (ds.getD j [])
noncomputable def pickN (n:Nat) (lt:Nat->Nat->Bool):Array Nat:=runT lt (kas_sort n)
theorem pickN_ent {n:Nat} (lt:Nat->Nat->Bool) (h0:0<n):Ent n (pickN n lt):=asks_run (P:=Ent n) _ _ (asks_sort h0)
theorem sort_any {prog:Program} {w:World} {A:Around} {E:Value->Shared->Prop} {κ:SortKind} {ks vs:List Value} {lt:Nat->Nat->Bool} {s:Shared} (hl:ks.length=vs.length) (h2:2<=vs.length) (h:vs.length<64)
  (hc:∀ i j,i<vs.length->j<vs.length->∀ C:Bool->Shared->Prop,C (lt i j) s->kas_ask prog w A κ ks i j C s) :
  wpAny (model prog w) A ((sortRuns').run (SortSt.mk' κ (ks.toArray.zip vs.toArray) #[] 7 none)) (fun r s'=>s'=s/\failedOf r.2=none/\(arrOf r.2).size=vs.length/\arrOf r.2=Array.map (kas_item (ks.toArray.zip vs.toArray)) (pickN vs.length lt)) E s:=by
 unfold pickN
 exact kat_run (Q:=fun st' s'=>s'=s/\failedOf st'=none/\(arrOf st').size=vs.length/\arrOf st'=Array.map (kas_item (ks.toArray.zip vs.toArray)) (runT lt (kas_sort vs.length))) (G:=fun p s'=>p=runT lt (kas_sort vs.length)/\s'=s) hl h2 h (fun p st' s' hp ha hf hG=>⟨hG.2,hf,by rw [ha,Array.size_map];exact hp,by rw [ha,hG.1]⟩)
  (kasWp_of (n:=vs.length) (lt:=lt) hc (asks_sort (by omega)) ⟨rfl,rfl⟩)
noncomputable def srtI (ds:List (List Key)):List Nat:=if ds.length<2 then List.range ds.length else (pickN ds.length (ordN ds)).toList
noncomputable def srt (ds:List (List Key)) (xs:List V):List V:=(srtI ds).map fun i=>xs.getD i .non
noncomputable def TupsAt (H:Hp) (xs:List V) (ds:List (List Key)):Prop:=xs.length=ds.length/\∀ (i:Nat) (x:V) (d:List Key),xs[i]?=some x->ds[i]?=some d->∃ t,x=.ref t/\H t=some (.tup (d.map kV))
theorem tups_heap {X:Cx} {pins:List (Addr × Obj)} {σ:St} {H:Hp} {s:Shared} (I:Inv X pins σ H s) {t:Addr} {d:List Key} (h:H t=some (.tup (d.map kV))):∃ (o:Obj) (vs:List Value) (n:Nat),s.heap.get? t=some o/\o.cls=.type "tuple"/\o.data=.seq vs.toArray n/\Vals (d.map kV) vs:=by
 obtain ⟨_,its,rv,o,ho,hc,n,hd⟩:=I.hok t _ h
 exact ⟨o,its,n,ho,hc,hd,rv⟩
theorem katTups_of {X:Cx} {pins:List (Addr × Obj)} {σ:St} {H:Hp} {s:Shared} (I:Inv X pins σ H s):∀ {xs:List V} {ds:List (List Key)} {its:List Value},Vals xs its->TupsAt H xs ds->(∀ d∈ds,d≠[])->∃ fs:List Value,KatTups s.heap its fs/\fs.length=ds.length/\∀ (i:Nat) (f:Value) (d:List Key),fs[i]?=some f->ds[i]?=some d->∃ k r,d=k::r/\RelV (kV k) f
 | [],[],_,rv,h,_=>by cases rv;exact ⟨[],KatTups.nil,rfl,fun i f d h=>by simp at h⟩
 | [],_::_,_,_,h,_=>by simp [TupsAt] at h
 | _::_,[],_,_,h,_=>by simp [TupsAt] at h
 | x::xs,d::ds,_,rv,h,hn=>by
  cases rv with
  | @cons _ u _ us r1 r2 =>
   obtain ⟨t,rfl,ht⟩:=h.2 0 x d rfl rfl
   cases (show u=Value.ref t from r1)
   obtain ⟨o,vs,n,ho,hc,hd,rd⟩:=tups_heap I ht
   obtain ⟨fs,k1,k2,k3⟩:=katTups_of I r2 (ds:=ds) ⟨by simpa using h.1,fun i y e a b=>h.2 (i+1) y e a b⟩ fun e he=>hn e (List.mem_cons_of_mem _ he)
   cases d with
   | nil=>exact absurd rfl (hn [] (by simp))
   | cons k r =>
    cases rd with
    | @cons _ f _ gs q1 q2 =>
     refine ⟨f::fs,KatTups.cons ho hc hd (by simp) k1,by simp [k2],fun i g e a b=>?_⟩
     cases i with
     | zero =>
      have e1:f=g:=by simpa using a
      have e2:k::r=e:=by simpa using b
      subst e1 e2
      exact ⟨k,r,rfl,q1⟩
     | succ i=>exact k3 i g e a b
theorem vals_getD:∀ {xs:List V} {vs:List Value},Vals xs vs->∀ i,i<xs.length->RelV (xs.getD i .non) (vs.getD i Value.none)
 | _,_,.nil,i,h=>by simp at h
 | _,_,.cons r1 r2,0,_=>r1
 | _,_,.cons r1 r2,i+1,h=>vals_getD r2 i (by simpa using h)
theorem vals_pick {xs:List V} {vs:List Value} (r:Vals xs vs):∀ p:List Nat,(∀ i∈p,i<xs.length)->Vals (p.map fun i=>xs.getD i .non) (p.map fun i=>vs.getD i Value.none)
 | [],_=>.nil
 | i::p,h=>.cons (vals_getD r i (h i (by simp))) (vals_pick r p fun j hj=>h j (List.mem_cons_of_mem _ hj))
theorem range_pick {α:Type} (d:α):∀ xs:List α,(List.range xs.length).map (fun i=>xs.getD i d)=xs:=by
 intro xs
 refine List.ext_getElem (by simp) fun i h1 h2=>?_
 simp [List.getElem?_eq_getElem h2]
section
variable {X:Cx} {pins:List (Addr × Obj)} {σ:St} {H:Hp} {s:Shared} {xs:List V} {ds:List (List Key)} {sh:List Bool}
theorem lsortT {A:Around} {E:Value->Shared->Prop} {a:Addr} {its:List Value} {n:Nat} {P:Fin->Shared->Prop}
  (I:Inv X pins σ H s) (fa:FpOk X pins H a) (ho:s.heap.get? a=some (seqObj "list" its.toArray n)) (rv:Vals xs its) (hz:xs.length<=sizeLine) (h64:xs.length<64) (ht:TupsAt H xs ds) (hsh:∀ d∈ds,d.map isI=sh) (hne:sh≠[])
  (fin:∀ (s':Shared) (out:Array Value) (n':Nat),Inv X pins σ H s'->s'.heap.get? a=some (seqObj "list" out n')->out.size<=sizeLine->Vals (srt ds xs) out.toList->P (.done (.ret .none)) s') :
  wpAny (model X.prog X.w) A (Builtin.«list.sort» ⟨[.ref a],[]⟩) P E s:=by
 have hil:its.length=xs.length:=rv.length.symm
 rw [<- hil] at hz
 obtain ⟨f0,f1,f2,f3,f4,f5⟩:=id fa
 rw [list_sort_plain]
 refine wpAny_bind (listItems_at ho rfl ?_)
 refine wpAny_bind (listUpdate_at ho rfl ?_ (by rw [List.size_toArray];exact hz) (by show (#[]:Array Value).size<=_;simp))
 obtain ⟨e1,ho1⟩:∃ e1,(s.heap.update a (Obj.mapSeq fun _=>#[])).get? a=some (seqObj "list" #[] e1):=⟨_,get?_update_seq ho (fun _=>#[])⟩
 have I1:Inv X pins σ H { s with heap:=s.heap.update a (Obj.mapSeq fun _=>#[]) }:=I.turned (t':=s.toks) (fun b o hb e=>by rw [Heap.get?_update_ne _ _ _ _ hb];exact e) f0 f1 f3 f4 f5
 generalize s.heap.update a (Obj.mapSeq fun _=>#[])=h1 at ho1 I1
 refine wpAny_bind (seqEpoch_at (s:={ s with heap:=h1 }) ho1 rfl ?_)
 refine wpAny_bind (wpAny_newTuple (s:={ s with heap:=h1 }) ?_ (by simpa using hz))
 have ho2:=Heap.get?_push_of_some (seqObj "tuple" its.toArray.toList.toArray 0) ho1
 have I2:Inv X pins σ H { s with heap:=h1.push (seqObj "tuple" its.toArray.toList.toArray 0) }:=I1.kept (t':=s.toks) fun b o e=>Heap.get?_push_of_some _ e
 change wpAny _ _ _ _ _ { s with heap:=h1.push (seqObj "tuple" its.toArray.toList.toArray 0) }
 generalize h1.push (seqObj "tuple" its.toArray.toList.toArray 0)=h2 at ho2 I2
 refine wpAny_bind (wpAny_newList (s:={ s with heap:=h2 }) ?_ (by simp))
 have ho3:=Heap.get?_push_of_some (seqObj "list" #[] 0) ho2
 have I3:Inv X pins σ H { s with heap:=h2.push (seqObj "list" #[] 0) }:=I2.kept (t':=s.toks) fun b o e=>Heap.get?_push_of_some _ e
 change wpAny _ _ _ _ _ { s with heap:=h2.push (seqObj "list" #[] 0) }
 generalize h2.push (seqObj "list" #[] 0)=h3 at ho3 I3
 dsimp only
 refine wpAny_holding ?_
 have ho3:({ s with heap:=h3 }:Shared).heap.get? a=some (seqObj "list" #[] e1):=ho3
 generalize { s with heap:=h3 }=s3 at I3 ho3 ⊢
 have last:∀ st':SortSt,failedOf st'=none->((arrOf st').map (·.2)).size<=sizeLine->Vals (srt ds xs) ((arrOf st').map (·.2)).toList->wpAny (model X.prog X.w) A (do
   let __do_lift <- seqEpoch a
   Builtin.List.listUpdate (Value.ref a) fun x=>Array.map (fun x=>x.snd) (arrOf st')
   match failedOf st' with
    | some e=>do
     rule "list.sort.comparison-raised"
     throw e
     if (__do_lift != e1)=true then do
         rule "list.sort.modified"
         raiseErrorWords "ValueError" "list modified during sort"
         ret Value.none
      else ret Value.none
    | x =>
     if (__do_lift != e1)=true then do
      rule "list.sort.modified"
      raiseErrorWords "ValueError" "list modified during sort"
      ret Value.none
     else ret Value.none) P E s3:=by
  intro st' hf hsz hv
  refine wpAny_bind (seqEpoch_at ho3 rfl ?_)
  refine wpAny_bind (listUpdate_at ho3 rfl ?_ (by simp) (Nat.le_succ_of_le hsz))
  rw [hf]
  simp only [bne_self_eq_false,Bool.false_eq_true,if_false]
  exact wpAny_pure (fin _ _ _ (I3.turned (t':=s3.toks) (fun b o hb e=>by rw [Heap.get?_update_ne _ _ _ _ hb];exact e) f0 f1 f3 f4 f5) (get?_update_seq ho3 (fun _=>(arrOf st').map (·.2))) hsz hv)
 have hdl:ds.length=its.length:=by rw [hil];exact ht.1.symm
 by_cases h2:its.toArray.size<2
 ·rw [if_pos h2]
  refine wpAny_bind (wpAny_pure ?_)
  rw [if_pos h2,StateT.run_pure]
  refine wpAny_bind (wpAny_pure ?_)
  have e:((arrOf (SortSt.mk' general' (its.toArray.zip its.toArray) #[] 7 none)).map (·.2))=its.toArray:=by
   show (its.toArray.zip its.toArray).map (·.2)=its.toArray
   rw [<- Array.toList_inj]
   simp [List.map_snd_zip]
  refine last _ rfl (by rw [e,List.size_toArray];exact hz) ?_
  rw [e]
  rw [List.size_toArray] at h2
  unfold srt srtI
  rw [if_pos (by rw [hdl];exact h2),hdl,hil,range_pick]
  exact rv
 ·rw [if_neg h2]
  rw [List.size_toArray] at h2
  have hnn:∀ d∈ds,d≠[]:=fun d hd z=>hne (by rw [<- hsh d hd,z];rfl)
  obtain ⟨fs,kt,kl,kf⟩:=katTups_of I3 rv ht hnn
  have hds:2<=its.length:=by omega
  obtain ⟨b0,sh',rfl⟩:∃ b r,sh=b::r:=by
   cases sh with
   | nil=>exact absurd rfl hne
   | cons b r=>exact ⟨b,r,rfl⟩
  refine wpAny_bind (kat_kind (T:=if b0=true then Value.type "int" else Value.type "str") kt (by rw [kl,hdl];omega) (fun v hv=>?_) (by cases b0<;>rfl) ?_)
  ·obtain ⟨i,hi⟩:=List.mem_iff_getElem?.mp hv
   have hil2:=(List.getElem?_eq_some_iff.mp hi).1
   have hid:i<ds.length:=by rw [<- kl];exact hil2
   obtain ⟨k,r,ed,rk⟩:=kf i v ds[i] hi (List.getElem?_eq_getElem hid)
   have hs:=hsh ds[i] (List.getElem_mem hid)
   rw [ed,List.map_cons] at hs
   have hb:isI k=b0:=(List.cons.inj hs).1
   cases k with
   | inl m =>
    obtain ⟨t,rfl⟩:=(show ∃ t,v=Value.int m t from rk)
    rw [<- hb]
    exact fun A Q E s _ q=>wpAny_pure q
   | inr z =>
    obtain ⟨t,rfl⟩:=(show ∃ t,v=Value.str z t from rk)
    rw [<- hb]
    exact fun A Q E s _ q=>wpAny_pure q
  rw [if_neg (by rw [List.size_toArray];exact h2)]
  refine wpAny_bind (wpAny_mono (sort_any (vs:=its) (ks:=its) (lt:=ordN ds) rfl hds (by rw [hil];exact h64) fun i j hi hj C hC=>?_) ?_ fun _ _ e=>e)
  ·have one:∀ i,i<its.length->∃ (t:Addr) (o:Obj) (vs:List Value) (m:Nat),its.getD i Value.none=.ref t/\s3.heap.get? t=some o/\o.data=.seq vs.toArray m/\Vals ((ds.getD i []).map kV) vs/\(ds.getD i []).map isI=b0::sh':=fun i hi=>by
    have hix:i<xs.length:=by rw [<- hil];exact hi
    have hid:i<ds.length:=by rw [hdl];exact hi
    obtain ⟨t,ex,hH⟩:=ht.2 i xs[i] ds[i] (List.getElem?_eq_getElem hix) (List.getElem?_eq_getElem hid)
    obtain ⟨o,vs,m,ho,hc,hd,rd⟩:=tups_heap I3 hH
    have rg:=vals_getD rv i hix
    have e1:xs.getD i .non=.ref t:=by rw [List.getD_eq_getElem?_getD,List.getElem?_eq_getElem hix,ex];rfl
    have e2:ds.getD i []=ds[i]:=by rw [List.getD_eq_getElem?_getD,List.getElem?_eq_getElem hid];rfl
    rw [e1] at rg
    exact ⟨t,o,vs,m,rg,ho,hd,by rw [e2];exact rd,by rw [e2];exact hsh _ (List.getElem_mem hid)⟩
   obtain ⟨t1,o1,v1,m1,a1,a2,a3,a4,a5⟩:=one i hi
   obtain ⟨t2,o2,v2,m2,c1,c2,c3,c4,c5⟩:=one j hj
   show wpAny (model X.prog X.w) A (keyLt' _ (its.getD i Value.none) (its.getD j Value.none)) C _ s3
   rw [a1,c1]
   have hl:v1.length=v2.length:=by
    have q1:=a4.length
    have q2:=c4.length
    have q3:=congrArg List.length (a5.trans c5.symm)
    simp only [List.length_map] at q1 q2 q3
    omega
   refine kat_lt a2 a3 c2 c3 ?_
   rw [decide_eq_false (by simp [hl])]
   exact katLex_ok 0 a4 c4 (a5.trans c5.symm) hC
  rintro ⟨⟨⟩,st'⟩ s2 ⟨rfl,hf,hsz,ha⟩
  have hp:Ent its.length (pickN its.length (ordN ds)):=pickN_ent _ (by omega)
  have em:((arrOf st').map (·.2)).toList=(pickN its.length (ordN ds)).toList.map fun i=>its.getD i Value.none:=by
   rw [ha,Array.toList_map,Array.toList_map,List.map_map]
   refine List.map_congr_left fun i _=>?_
   show (kas_item (its.toArray.zip its.toArray) i).2=_
   rw [kat_item rfl]
  refine last st' hf ?_ ?_
  ·rw [Array.size_map,hsz];exact hz
  ·rw [em]
   unfold srt srtI
   rw [if_neg (by rw [hdl];exact h2),hdl]
   exact vals_pick rv _ fun i hi=>by rw [<- hil];exact hp i hi
theorem call_sortedT {K:PySem.W.Frag} (hK:X.K=K):CallR X (.builtin "sorted") (fun as H Q=>∃ (l:Addr) (xs:List V) (ds:List (List Key)) (sh:List Bool),as=[.ref l]/\SqL K H l xs/\xs.length<64/\TupsAt H xs ds/\(∀ d∈ds,d.map isI=sh)/\sh≠[] /\
  ∀ p,H p=none->Q (.ref p) (upd H p (.lst (srt ds xs)))):=by
 subst hK
 intro pins s σ H as us Q I r h
 obtain ⟨l,xs,ds,sh,rfl,hq,h64,ht,hsh,hne,q⟩:=h
 obtain ⟨u,rfl,ru⟩:=vals1 r
 cases (show u=Value.ref l from ru)
 obtain ⟨its,rv,pl,hz⟩:=I.list hq
 have hil:its.length=xs.length:=rv.length.symm
 refine Calls.call_function_entry kind_sorted plain_sorted entry_sorted (args_sorted1 _) ?_
 unfold Builtin.«sorted»
 refine wpAny_bind (m:=checkCount "sorted" 1 1 _) (wpAny_pure ?_)
 refine wpAny_bind (collect_list pl.isList ?_ (by rw [hil];exact hz))
 have I1:Inv X pins σ H { s with heap:=(s.heap.push (seqObj "list" #[] 0)).update s.heap.objs.size (Obj.mapSeq (·++its.toArray)) }:=I.kept (t':=s.toks) fun b o e=>by
  rw [Heap.get?_update_ne _ _ _ _ (Nat.ne_of_lt (Heap.lt_size e))]
  exact Heap.get?_push_of_some _ e
 generalize (s.heap.push (seqObj "list" #[] 0)).update s.heap.objs.size (Obj.mapSeq (·++its.toArray))=h1 at I1
 refine wpAny_bind (wpAny_newList (s:={ s with heap:=h1 }) ?_ (by rw [hil];exact hz))
 have hoL:(h1.push (seqObj "list" its.toArray 0)).get? h1.objs.size=some (seqObj "list" its.toArray 0):=Heap.get?_push_size _ rfl
 have I2:Inv X pins σ H { s with heap:=h1.push (seqObj "list" its.toArray 0) }:=I1.kept (t':=s.toks) fun b o e=>Heap.get?_push_of_some _ e
 have fL:FpOk X pins H h1.objs.size:=I1.fpOk (Nat.le_refl _) (I1.hok.fresh (Nat.le_refl _))
 change wpAny _ _ _ _ _ { s with heap:=h1.push (seqObj "list" its.toArray 0) }
 dsimp only
 generalize h1.push (seqObj "list" its.toArray 0)=h2 at hoL I2
 generalize h1.objs.size=L at hoL fL
 refine wpAny_bind (wpAny_holding (wpAny_call_entry (s:={ s with heap:=h2 }) slot_list_sort ⟨_,hoL,rfl⟩ entry_list_sort (lsortT I2 fL hoL rv hz h64 ht hsh hne fun s' out n' I' hoa hos vy=>⟨_,rfl,?_⟩) (args_list_sort _)))
 refine wpAny_pure ⟨_,rfl,.ref L,upd H L (.lst (srt ds xs)),I'.adopt fL ?_,rfl,q L fL.1⟩
 have hyl:(srt ds xs).length<=sizeLine:=by rw [vy.length,Array.length_toList];exact hos
 exact ⟨hyl,out.toList,n',vy,by simpa using hoa⟩
end
end L2
namespace L2
open PySem PySem.Spec PyProof.Rows PySem.W
section
variable {X:Cx} {k:Nat} {f:Addr} {fd:FuncData} {ps:List Str} {sp:Sp} {dvs:List V} {ds:List Value} {pins:List (Addr × Obj)} {σ:St} {H:Hp} {s:Shared} {xs:List V} {ds':List (List Key)} {sh:List Bool}
theorem lsort_treeT {A:Around} {E:Value->Shared->Prop} {a:Addr} {its:List Value} {n:Nat} {P:Fin->Shared->Prop} (F:FnOk X.prog X.w X.K X.mg X.base CX0 k f fd ps sp) (hr:Room k A)
  (hA:∀ s H,Env0 X.prog X.w X.K X.mg X.base X.A X.stack s H->Env0 X.prog X.w X.K X.mg X.base A X.stack s H) (hb:Binds X.K fd ps ds) (hd:Vals dvs ds)
  (I:Inv X pins σ H s) (fa:FpOk X pins H a) (ho:s.heap.get? a=some (seqObj "list" its.toArray n)) (rv:Vals xs its) (h64:xs.length<64) (hl:ds'.length=xs.length) (hsh:∀ d∈ds',d.map isI=sh) (hne:sh≠[])
  (hk:∀ (i:Nat) (x:V) (d:List Key) (H':Hp),Same H H'->xs[i]?=some x->ds'[i]?=some d->∀ Q':VK,(∀ t H2,Same H' H2->H2 t=some (.tup (d.map kV))->Q' (.ref t) H2)->sp ([x]++dvs) H' Q' E0)
  (fin:∀ (s':Shared) (H':Hp) (out:Array Value) (n':Nat),Same H H'->H' a=none->Inv X pins σ H' s'->s'.heap.get? a=some (seqObj "list" out n')->out.size<=sizeLine->Vals (srt ds' xs) out.toList->P (.done (.ret .none)) s') :
  wpAny (model X.prog X.w) A (Builtin.«list.sort» ⟨[.ref a],[(Str.ofString "key",.ref f)]⟩) P E s:=by
 have hil:its.length=xs.length:=rv.length.symm
 have hz:its.length<=sizeLine:=by rw [sizeLine_eq];omega
 obtain ⟨f0,f1,f2,f3,f4,f5⟩:=id fa
 rw [lsort_key]
 refine wpAny_bind (listItems_at ho rfl ?_)
 refine wpAny_bind (listUpdate_at ho rfl ?_ (by rw [List.size_toArray];exact hz) (by show (#[]:Array Value).size<=_;simp))
 obtain ⟨e1,ho1⟩:∃ e1,(s.heap.update a (Obj.mapSeq fun _=>#[])).get? a=some (seqObj "list" #[] e1):=⟨_,get?_update_seq ho (fun _=>#[])⟩
 have I1:Inv X pins σ H { s with heap:=s.heap.update a (Obj.mapSeq fun _=>#[]) }:=I.turned (t':=s.toks) (fun b o hb e=>by rw [Heap.get?_update_ne _ _ _ _ hb];exact e) f0 f1 f3 f4 f5
 generalize s.heap.update a (Obj.mapSeq fun _=>#[])=h1 at ho1 I1
 refine wpAny_bind (seqEpoch_at (s:={ s with heap:=h1 }) ho1 rfl ?_)
 refine wpAny_bind (wpAny_newTuple (s:={ s with heap:=h1 }) ?_ (by simpa using hz))
 have ho2:=Heap.get?_push_of_some (seqObj "tuple" its.toArray.toList.toArray 0) ho1
 have I2:Inv X pins σ H { s with heap:=h1.push (seqObj "tuple" its.toArray.toList.toArray 0) }:=I1.kept (t':=s.toks) fun b o e=>Heap.get?_push_of_some _ e
 change wpAny _ _ _ _ _ { s with heap:=h1.push (seqObj "tuple" its.toArray.toList.toArray 0) }
 generalize h1.push (seqObj "tuple" its.toArray.toList.toArray 0)=h2 at ho2 I2
 refine wpAny_bind (wpAny_newList (s:={ s with heap:=h2 }) ?_ (by simp))
 have ho3:=Heap.get?_push_of_some (seqObj "list" #[] 0) ho2
 have hK3:(h2.push (seqObj "list" #[] 0)).get? h2.objs.size=some (seqObj "list" #[] 0):=Heap.get?_push_size _ rfl
 have fK:FpOk X pins H h2.objs.size:=I2.fpOk (Nat.le_refl _) (I2.hok.fresh (Nat.le_refl _))
 have naK:a≠h2.objs.size:=Nat.ne_of_lt (Heap.lt_size ho2)
 have I3:Inv X pins σ H { s with heap:=h2.push (seqObj "list" #[] 0) }:=I2.kept (t':=s.toks) fun b o e=>Heap.get?_push_of_some _ e
 change wpAny _ _ _ _ _ { s with heap:=h2.push (seqObj "list" #[] 0) }
 generalize h2.push (seqObj "list" #[] 0)=h3 at ho3 hK3 I3
 dsimp only
 generalize h2.objs.size=K at hK3 fK naK
 obtain ⟨g0,g1,g2,g3,g4,g5⟩:=id fK
 refine wpAny_holding ?_
 refine wpAny_bind (wpAny_rule ?_)
 refine wpAny_bind ?_
 rw [<- Array.forIn_toList]
 refine wpAny_forIn_list _ (fun rest _ s'=>∃ (i:Nat) (kv:List Value) (kx:List V) (n':Nat) (H':Hp),rest=its.drop i/\Same H H'/\H' a=none/\H' K=none/\Inv X pins σ H' s'/\s'.heap.get? a=some (seqObj "list" #[] e1)/\s'.heap.get? K=some (seqObj "list" kv.toArray n')/\Vals kx kv/\TupsAt H' kx (ds'.take i)/\i<=its.length) _ ?_ ?_ _ _
  ⟨0,[],[],0,H,by simp,Same.refl _,f0,g0,I3,ho3,hK3,.nil,⟨by simp,fun i x d h=>by simp at h⟩,Nat.zero_le _⟩
 ·rintro x rest b s' ⟨i,kv,kx,n',H1,er,sm,na1,nK1,I',hoa,hoK,rk,tk,hi⟩
  have hlt:i<its.length:=by
   have:=congrArg List.length er
   simp at this
   omega
  have e2:its[i]?=some x/\its.drop (i+1)=rest:=by
   rw [List.drop_eq_getElem_cons hlt] at er
   obtain ⟨z1,z2⟩:=List.cons.inj er
   exact ⟨by rw [List.getElem?_eq_getElem hlt,z1],z2.symm⟩
  have hix:i<xs.length:=by omega
  have hik:i<ds'.length:=by omega
  obtain ⟨u,eu,ru⟩:=rv.get (List.getElem?_eq_getElem hix)
  rw [e2.1] at eu
  cases eu
  have r1:Vals ([xs[i]]++dvs) ([x]++ds):=Vals.append (.cons ru .nil) hd
  have hsp:=hk i xs[i] ds'[i] H1 sm (List.getElem?_eq_getElem hix) (List.getElem?_eq_getElem hik) (fun v H2=>∃ t,v=.ref t/\Same H1 H2/\H2 t=some (.tup (ds'[i].map kV))) fun t H2 a b=>⟨t,rfl,a,b⟩
  have hlen:([x]++ds).length=ps.length:=by rw [<- r1.length];exact F.len _ _ _ _ hsp
  have ho2':∀ b∈[a,K],∃ o,s'.heap.get? b=some o/\∀ v,o.data≠.cell v:=by
   intro b hb
   rcases List.mem_cons.mp hb with z | z
   ·subst z;exact ⟨_,hoa,fun v z=>nomatch z⟩
   ·have z:b=K:=by simpa using z
    subst z;exact ⟨_,hoK,fun v z=>nomatch z⟩
  have hf2:∀ b∈[a,K],FpOk X pins H1 b:=by
   intro b hb
   rcases List.mem_cons.mp hb with z | z
   ·subst z;exact ⟨na1,fa.2⟩
   ·have z:b=K:=by simpa using z
    subst z;exact ⟨nK1,fK.2⟩
  have Ip:=I'.pinned hf2 ho2'
  refine wpAny_bind (wpAny_attempt ?_)
  refine wpAny_call (codeAny_mono (F.run A X.stack s' H1 ⟨[x],[]⟩ ([x]++ds) ([xs[i]]++dvs) _ E0 hr (hA _ _ I'.env0) (hb s' [x] I'.kIn hlen) r1 hsp) fun r s2 hq=>?_)
  cases r with
  | error e=>exact False.elim hq
  | ok fl =>
   cases fl with
   | next=>exact False.elim hq
   | brk=>exact False.elim hq
   | cont=>exact False.elim hq
   | ret u =>
    obtain ⟨v,H2,os,bare,un,hok,rr,t,ev,sm2,ht2⟩:=(show CE X.stack X.prog X.w H1 s' _ u s2 from hq)
    subst ev
    cases (show u=Value.ref t from rr)
    have I2':=Ip.call' os un hok bare (fun b z=>absurd z (by simp))
    have pa:=I2'.pin (a,_) (List.mem_append_right _ (List.mem_append_right _ (mem_pinsAt (by simp) hoa)))
    have pK:=I2'.pin (K,_) (List.mem_append_right _ (List.mem_append_right _ (mem_pinsAt (by simp) hoK)))
    have hoa2:=pa.1
    have hoK2:=pK.1
    have I3':=I2'.unpinned
    have hxl:kx.length=i:=by
     have:=tk.1
     rw [List.length_take] at this
     omega
    have hkl:kv.length<=64:=by
     have:=rk.length
     omega
    dsimp only
    refine wpAny_bind (listUpdate_at hoK2 rfl ?_ (by rw [List.size_toArray,sizeLine_eq];omega) (by rw [Array.size_push,List.size_toArray,sizeLine_eq];omega))
    obtain ⟨n2,hn2⟩:∃ n2,(s2.heap.update K (Obj.mapSeq (·.push (Value.ref t)))).get? K=some (seqObj "list" (kv++[Value.ref t]).toArray n2):=⟨_,(get?_update_seq hoK2 (·.push (Value.ref t))).trans (by rw [List.push_toArray])⟩
    refine wpAny_pure ⟨i+1,kv++[Value.ref t],kx++[.ref t],n2,H2,e2.2.symm,sm.trans sm2,pa.2.1,pK.2.1,I3'.turned (t':=s2.toks) (fun b o hb e=>by rw [Heap.get?_update_ne _ _ _ _ hb];exact e) pK.2.1 g1 g3 g4 g5,?_,hn2,rk.append (.cons (show RelV (.ref t) (Value.ref t) from rfl) .nil),?_,hlt⟩
    ·show (s2.heap.update K _).get? a=_
     rw [Heap.get?_update_ne _ _ _ _ naK];exact hoa2
    ·rw [List.take_succ_eq_append_getElem hik]
     refine ⟨by simp only [List.length_append,List.length_take,List.length_cons,List.length_nil];omega,fun j y d hy hd'=>?_⟩
     by_cases hj:j<i
     ·rw [List.getElem?_append_left (by omega)] at hy
      rw [List.getElem?_append_left (by rw [List.length_take];omega)] at hd'
      obtain ⟨t',a1,a2⟩:=tk.2 j y d hy hd'
      exact ⟨t',a1,sm2 _ _ a2⟩
     ·rw [List.getElem?_append_right (by omega)] at hy
      rw [List.getElem?_append_right (by rw [List.length_take];omega)] at hd'
      have hj2:=(List.getElem?_eq_some_iff.mp hy).1
      have hji:j-kx.length=0:=by simp at hj2;omega
      rw [hji] at hy
      rw [show j-(List.take i ds').length=0 by rw [List.length_take];omega] at hd'
      have y1:V.ref t=y:=by simpa using hy
      have d1:ds'[i]=d:=by simpa using hd'
      exact ⟨t,y1.symm,by rw [<- d1];exact ht2⟩
 ·rintro b s' ⟨i,kv,kx,n',H1,er,sm,na1,nK1,I',hoa,hoK,rk,tk,hi⟩
  have hi':i=its.length:=by
   have:=congrArg List.length er
   simp at this
   omega
  have tk':TupsAt H1 kx ds':=by
   rw [hi',List.take_of_length_le (by omega)] at tk
   exact tk
  have hkl:kv.length=its.length:=by rw [<- rk.length,tk'.1];omega
  clear tk er hi hi'
  have hdl:ds'.length=its.length:=by omega
  refine wpAny_bind (listItems_at hoK rfl ?_)
  have last:∀ st':SortSt,failedOf st'=none->((arrOf st').map (·.2)).size=its.length->Vals (srt ds' xs) ((arrOf st').map (·.2)).toList->wpAny (model X.prog X.w) A (do
    Builtin.List.listUpdate (.ref K) fun _=>#[]
    letGo ((arrOf st').map (·.1)).toList (failedOf st').toList
    let touched:=(<- seqEpoch a) != e1
    Builtin.List.listUpdate (.ref a) fun _=>(arrOf st').map (·.2)
    if let some e:=failedOf st' then rule "list.sort.comparison-raised";throw e
    if touched then rule "list.sort.modified";raiseError "ValueError" "list modified during sort"
    ret .none) P E s':=by
   intro st' hf hsz vy
   refine wpAny_bind (listUpdate_at hoK rfl ?_ (by rw [List.size_toArray];omega) (by show (#[]:Array Value).size<=_;simp))
   refine wpAny_bind (wpAny_letGo ?_)
   have hoa2:(s'.heap.update K (Obj.mapSeq fun _=>#[])).get? a=some (seqObj "list" #[] e1):=by rw [Heap.get?_update_ne _ _ _ _ naK];exact hoa
   have I2:Inv X pins σ H1 { s' with heap:=s'.heap.update K (Obj.mapSeq fun _=>#[]) }:=I'.turned (t':=s'.toks) (fun b o hb e=>by rw [Heap.get?_update_ne _ _ _ _ hb];exact e) nK1 g1 g3 g4 g5
   refine wpAny_bind (seqEpoch_at (s:={ s' with heap:=s'.heap.update K (Obj.mapSeq fun _=>#[]) }) hoa2 rfl ?_)
   refine wpAny_bind (listUpdate_at (s:={ s' with heap:=s'.heap.update K (Obj.mapSeq fun _=>#[]) }) hoa2 rfl ?_ (by simp) (by rw [hsz];omega))
   rw [hf]
   simp only [bne_self_eq_false,Bool.false_eq_true,if_false]
   exact wpAny_pure (fin _ H1 _ _ sm na1 (I2.turned (t':=s'.toks) (fun b o hb e=>by rw [Heap.get?_update_ne _ _ _ _ hb];exact e) na1 f1 f3 f4 f5) (get?_update_seq hoa2 (fun _=>(arrOf st').map (·.2))) (by show ((arrOf st').map (·.2)).size<=_;rw [hsz];exact hz) vy)
  by_cases h2:its.toArray.size<2
  ·rw [if_pos h2,if_pos h2]
   refine wpAny_bind (wpAny_pure ?_)
   rw [StateT.run_pure]
   refine wpAny_bind (wpAny_pure ?_)
   have e:((arrOf (SortSt.mk' general' (kv.toArray.zip its.toArray) #[] 7 none)).map (·.2))=its.toArray:=by
    show (kv.toArray.zip its.toArray).map (·.2)=its.toArray
    rw [<- Array.toList_inj]
    simp [List.map_snd_zip,hkl]
   refine last _ rfl (by rw [e,List.size_toArray]) ?_
   rw [e]
   rw [List.size_toArray] at h2
   unfold srt srtI
   rw [if_pos (by rw [hdl];exact h2),hdl,hil,range_pick]
   exact rv
  ·rw [if_neg h2,if_neg h2]
   rw [List.size_toArray] at h2
   have hnn:∀ d∈ds',d≠[]:=fun d hd z=>hne (by rw [<- hsh d hd,z];rfl)
   obtain ⟨fs,kt,kl,kf⟩:=katTups_of I' rk tk' hnn
   have hds:2<=its.length:=by omega
   obtain ⟨b0,sh',rfl⟩:∃ b r,sh=b::r:=by
    cases sh with
    | nil=>exact absurd rfl hne
    | cons b r=>exact ⟨b,r,rfl⟩
   refine wpAny_bind (kat_kind (T:=if b0=true then Value.type "int" else Value.type "str") kt (by rw [kl,hdl];omega) (fun v hv=>?_) (by cases b0<;>rfl) ?_)
   ·obtain ⟨i,hi⟩:=List.mem_iff_getElem?.mp hv
    have hil2:=(List.getElem?_eq_some_iff.mp hi).1
    have hid:i<ds'.length:=by rw [<- kl];exact hil2
    obtain ⟨k,r,ed,rk⟩:=kf i v ds'[i] hi (List.getElem?_eq_getElem hid)
    have hs:=hsh ds'[i] (List.getElem_mem hid)
    rw [ed,List.map_cons] at hs
    have hb:isI k=b0:=(List.cons.inj hs).1
    cases k with
    | inl m =>
     obtain ⟨t,rfl⟩:=(show ∃ t,v=Value.int m t from rk)
     rw [<- hb]
     exact fun A Q E s _ q=>wpAny_pure q
    | inr z =>
     obtain ⟨t,rfl⟩:=(show ∃ t,v=Value.str z t from rk)
     rw [<- hb]
     exact fun A Q E s _ q=>wpAny_pure q
   refine wpAny_bind (wpAny_mono (sort_any (vs:=its) (ks:=kv) (lt:=ordN ds') hkl hds (by omega) fun i j hi hj C hC=>?_) ?_ fun _ _ e=>e)
   ·have one:∀ i,i<its.length->∃ (t:Addr) (o:Obj) (vs:List Value) (m:Nat),kv.getD i Value.none=.ref t/\s'.heap.get? t=some o/\o.data=.seq vs.toArray m/\Vals ((ds'.getD i []).map kV) vs/\(ds'.getD i []).map isI=b0::sh':=fun i hi=>by
     have hix:i<kx.length:=by rw [tk'.1,hdl];exact hi
     have hid:i<ds'.length:=by rw [hdl];exact hi
     obtain ⟨t,ex,hH⟩:=tk'.2 i kx[i] ds'[i] (List.getElem?_eq_getElem hix) (List.getElem?_eq_getElem hid)
     obtain ⟨o,vs,m,ho,hc,hd,rd⟩:=tups_heap I' hH
     have rg:=vals_getD rk i hix
     have e1:kx.getD i .non=.ref t:=by rw [List.getD_eq_getElem?_getD,List.getElem?_eq_getElem hix,ex];rfl
     have e2:ds'.getD i []=ds'[i]:=by rw [List.getD_eq_getElem?_getD,List.getElem?_eq_getElem hid];rfl
     rw [e1] at rg
     exact ⟨t,o,vs,m,rg,ho,hd,by rw [e2];exact rd,by rw [e2];exact hsh _ (List.getElem_mem hid)⟩
    obtain ⟨t1,o1,v1,m1,a1,a2,a3,a4,a5⟩:=one i hi
    obtain ⟨t2,o2,v2,m2,c1,c2,c3,c4,c5⟩:=one j hj
    show wpAny (model X.prog X.w) A (keyLt' _ (kv.getD i Value.none) (kv.getD j Value.none)) C _ s'
    rw [a1,c1]
    have hl:v1.length=v2.length:=by
     have q1:=a4.length
     have q2:=c4.length
     have q3:=congrArg List.length (a5.trans c5.symm)
     simp only [List.length_map] at q1 q2 q3
     omega
    refine kat_lt a2 a3 c2 c3 ?_
    rw [decide_eq_false (by simp [hl])]
    exact katLex_ok 0 a4 c4 (a5.trans c5.symm) hC
   rintro ⟨⟨⟩,st'⟩ s2 ⟨rfl,hf,hsz,ha⟩
   have hp:Ent its.length (pickN its.length (ordN ds')):=pickN_ent _ (by omega)
   have em:((arrOf st').map (·.2)).toList=(pickN its.length (ordN ds')).toList.map fun i=>its.getD i Value.none:=by
    rw [ha,Array.toList_map,Array.toList_map,List.map_map]
    refine List.map_congr_left fun i _=>?_
    show (kas_item (kv.toArray.zip its.toArray) i).2=_
    rw [kat_item hkl]
   refine last st' hf (by rw [Array.size_map,hsz]) ?_
   rw [em]
   unfold srt srtI
   rw [if_neg (by rw [hdl];exact h2),hdl]
   exact vals_pick rv _ fun i hi=>by rw [<- hil];exact hp i hi
theorem call_sortedKT {Q:VK} {l:Addr} (F:FnOk X.prog X.w X.K X.mg X.base CX0 k f fd ps sp) (hr:Room (k+2) X.A) (hb:Binds X.K fd ps ds) (hd:Vals dvs ds)
  (I:Inv X pins σ H s) (hq:SqL X.K H l xs) (h64:xs.length<64) (hl:ds'.length=xs.length) (hsh:∀ d∈ds',d.map isI=sh) (hne:sh≠[])
  (hk:∀ (i:Nat) (x:V) (d:List Key) (H':Hp),Same H H'->xs[i]?=some x->ds'[i]?=some d->∀ Q':VK,(∀ t H2,Same H' H2->H2 t=some (.tup (d.map kV))->Q' (.ref t) H2)->sp ([x]++dvs) H' Q' E0)
  (q:∀ p H',Same H H'->H' p=none->Q (.ref p) (upd H' p (.lst (srt ds' xs)))) :
  wpAny (model X.prog X.w) X.A (call (.builtin "sorted") [.ref l] [(Str.ofString "key",.ref f)]) (EP X pins σ Q) X.xe s:=by
 obtain ⟨its,rv,pl,hz⟩:=I.list hq
 have hil:its.length=xs.length:=rv.length.symm
 refine call_function_entry_kw kind_sorted plain_sorted entry_sorted (args_sorted_key _ _) ?_
 unfold Builtin.«sorted»
 refine wpAny_bind (m:=checkCount "sorted" 1 1 _) (wpAny_pure ?_)
 refine wpAny_bind (collect_list pl.isList ?_ (by rw [hil];exact hz))
 have I1:Inv X pins σ H { s with heap:=(s.heap.push (seqObj "list" #[] 0)).update s.heap.objs.size (Obj.mapSeq (·++its.toArray)) }:=I.kept (t':=s.toks) fun b o e=>by
  rw [Heap.get?_update_ne _ _ _ _ (Nat.ne_of_lt (Heap.lt_size e))]
  exact Heap.get?_push_of_some _ e
 generalize (s.heap.push (seqObj "list" #[] 0)).update s.heap.objs.size (Obj.mapSeq (·++its.toArray))=h1 at I1
 refine wpAny_bind (wpAny_newList (s:={ s with heap:=h1 }) ?_ (by rw [hil];exact hz))
 have hoL:(h1.push (seqObj "list" its.toArray 0)).get? h1.objs.size=some (seqObj "list" its.toArray 0):=Heap.get?_push_size _ rfl
 have I2:Inv X pins σ H { s with heap:=h1.push (seqObj "list" its.toArray 0) }:=I1.kept (t':=s.toks) fun b o e=>Heap.get?_push_of_some _ e
 have fL:FpOk X pins H h1.objs.size:=I1.fpOk (Nat.le_refl _) (I1.hok.fresh (Nat.le_refl _))
 change wpAny _ _ _ _ _ { s with heap:=h1.push (seqObj "list" its.toArray 0) }
 dsimp only
 generalize h1.push (seqObj "list" its.toArray 0)=h2 at hoL I2
 generalize h1.objs.size=L at hoL fL
 have hr2:Room k X.A.in1.in1:=(Room.in1 (k:=k+1) hr).in1
 refine wpAny_bind (wpAny_holding (wpAny_call_entry_kw (s:={ s with heap:=h2 }) slot_list_sort ⟨_,hoL,rfl⟩ entry_list_sort (lsort_treeT F hr2 (fun _ _ e=>e.in1.in1) hb hd I2 fL hoL rv h64 hl hsh hne hk fun s' H' out n' sm nL I' hoa hos vy=>⟨_,rfl,?_⟩) (args_lsort_key _ _)))
 refine wpAny_pure ⟨_,rfl,.ref L,upd H' L (.lst (srt ds' xs)),I'.adopt ⟨nL,fL.2⟩ ?_,rfl,q L H' sm nL⟩
 have hyl:(srt ds' xs).length<=sizeLine:=by rw [vy.length,Array.length_toList];exact hos
 exact ⟨hyl,out.toList,n',vy,by simpa using hoa⟩
end
noncomputable def tSortKT (sp:Sp) (dvs:List V) (K:PySem.W.Frag) (t:TE):TE:=fun σ H Q=>t σ H fun x H1=>∃ (l:Addr) (xs:List V) (ds':List (List Key)) (sh:List Bool),x=.ref l/\SqL K H1 l xs/\xs.length<64/\ds'.length=xs.length/\(∀ d∈ds',d.map isI=sh)/\sh≠[] /\
 (∀ (i:Nat) (x:V) (d:List Key) (H':Hp),Same H1 H'->xs[i]?=some x->ds'[i]?=some d->∀ Q':VK,(∀ t H2,Same H' H2->H2 t=some (.tup (d.map kV))->Q' (.ref t) H2)->sp ([x]++dvs) H' Q' E0)/\∀ p H',Same H1 H'->H' p=none->Q (.ref p) (upd H' p (.lst (srt ds' xs)))
theorem pe_sortKT {X:Cx} {k:Nat} {f:Addr} {fd:FuncData} {ps:List Str} {sp:Sp} {dvs:List V} {ds:List Value} {K:PySem.W.Frag} {e:Expr} {t:TE} {y:Str} {p p2 p3 pos:Pos} (hK:X.K=K) (F:FnOk X.prog X.w X.K X.mg X.base CX0 k f fd ps sp) (hr:Room (k+2) X.A) (hb:Binds X.K fd ps ds) (hd:Vals dvs ds)
  (hg:Gl X "sorted") (hm:X.mg "sorted"=none) (hgf:Gl X y) (hmf:X.mg y=some (.ref f)) (he:PE X e t) (hy:(y == ("__debug__":Str))=false:=by decide)
  (hs:starEach [e] X.env=(false,eval e X.env)::starEach [] X.env:=by rfl) :
  PE X (.Call (.Name "sorted" p) [e] [⟨some "key",.Name y p2,p3⟩] pos) (tSortKT sp dvs K t):=by
 intro pins s σ H Q I h
 subst hK
 refine wpAny_Call_Name_kw (ld_blt I hg hm (show bootBuiltins "sorted"=some (.builtin "sorted") from by decide +kernel) ?_)
 refine callWith_kw ?_ (by rw [hs];rfl) (by rw [hs];rfl)
 rw [hs]
 show wpAny _ _ (spliced ((false,eval e X.env)::backTo pos (starEach [] X.env))) _ _ s
 refine Calls.spliced_cons (thn (he pins s σ H _ I h) fun u s1 ⟨x,H1,I1,r1,q1⟩=>Calls.spliced_nil ?_)
 obtain ⟨l,xs,ds',sh,e1,hq,h64,hl,hsh,hne,hk,q⟩:=q1
 subst e1
 cases (show u=Value.ref l from r1)
 refine thn ((pk_cons (te:=fun _ H Q=>Q (.ref f) H) (fun pins s σ H Q I h=>ld_glob I hgf hmf ⟨.ref f,H,I,rfl,h⟩ hy) pk_nil) pos pins s1 σ H1 (fun zs H2=>zs=[.ref f]/\H2=H1) I1 ⟨rfl,rfl⟩) fun ws s2 hsl60=>?_
 obtain ⟨zs,H2,I2,rz,ez,eH⟩:=hsl60
 subst ez eH
 obtain ⟨u,rfl,ru⟩:=vals1 rz
 cases (show u=Value.ref f from ru)
 exact call_sortedKT F hr hb hd I2 hq h64 hl hsh hne hk q
end L2
namespace Mm
end Mm
namespace Mm
open PySem L2 PyProof.Rows
end Mm
namespace L2
open PySem PySem.Spec PyProof.Rows
noncomputable def chAt (z:Str) (i:Nat):V:=.str ⟨#[z.cps.toList.getD i 0]⟩
theorem turn_str {P:Program} {w:World} {K:PySem.W.Frag} {tg:Expr} (it:Addr) (z:Str) (t:Tok) :
  Turn P w K tg (ItN z.length (chAt z)) [it] it (fun i h=>i<=z.length/\h.IsStrIter it "str_ascii_iterator" z t i) where
 mem:=by simp
 obj:=fun i h st b hb=>by
  have e:b=it:=by simpa using hb
  subst e
  obtain ⟨_,o,e,c,d⟩:=st
  exact ⟨o,e,fun v z=>by rw [d] at z;cases z⟩
 keep:=fun i h h' st k=>⟨st.1,by obtain ⟨o,e,r⟩:=st.2;exact ⟨o,k it (by simp) o e,r⟩⟩
 item:=by
  intro X hP hw hK hc i pins s σ H E I hf st hg
  subst hP hw hK
  have hg:i<z.length:=hg
  obtain ⟨f0,f1,f2,f3,f4,f5⟩:=hf it (by simp)
  have hl:z.cps.toList.length=z.length:=by simp [Str.length]
  have hcc:z.cps[i]?=some (z.cps.toList.getD i 0):=by
   rw [List.getD_eq_getElem?_getD,List.getElem?_eq_getElem (by omega),<- Array.getElem?_toList,List.getElem?_eq_getElem (by omega)];rfl
  refine wpAny_pyNext_ascii_item st.2 hcc fun h' st' sb=>?_
  have I1:Inv X pins σ H { s with heap:=h',toks:=s.toks+1 }:=I.turned (fun b o hb e=>(sb.2 b hb).trans e) f0 f1 f3 f4 f5
  obtain ⟨o,e,c,d⟩:=id st'
  exact ⟨_,rfl,go_of (s:={ s with heap:=h',toks:=s.toks+1 }) e c d (by decide) ⟨chAt z i,H,I1,⟨s.toks,rfl⟩,⟨rfl,rfl⟩,⟨hg,st'⟩,fun b hb=>(hf b hb).1⟩⟩
 done:=by
  intro X hP hw hK hc i pins s σ H E I hf st hg
  subst hP hw hK
  have hg:z.length<=i:=hg
  obtain ⟨f0,f1,f2,f3,f4,f5⟩:=hf it (by simp)
  exact wpAny_pyNext_ascii_end (I.ok.hd hc) st.2 (Array.getElem?_eq_none (by show z.length<=i;exact hg)) fun h' eb=>⟨rfl,I.turned (t':=s.toks) (fun b o hb e=>eb b o hb e) f0 f1 f3 f4 f5⟩
 self:=fun _ _ _ _ _ st h=>wpAny_pyIter_striter_ascii st.2 h
section
variable {X:Cx} {tg:Expr}
noncomputable def iStr (te:TE):TI:=fun σ H R=>te σ H fun x H1=>∃ z:Str,x=.str z/\z.cps.all (·<128)=true/\R (ItN z.length (chAt z)) H1
theorem pi_str {e:Expr} {te:TE} (he:PE X e te):PI X tg e (iStr te):=by
 intro pins s σ H R I h
 refine thn (he pins s σ H _ I h) fun v s1 hsl61=>?_
 obtain ⟨x,H1,I1,r1,q1⟩:=hsl61
 obtain ⟨z,e,ha,q⟩:=q1
 subst e
 obtain ⟨t,rfl⟩:=r1
 refine wpAny_pyIter_ascii ha ?_
 refine ⟨s1.heap.objs.size,[s1.heap.objs.size],_,_,H1,rfl,I1.kept (t':=s1.toks) fun b o e=>Heap.get?_push_of_some _ e,turn_str _ z t,⟨Nat.zero_le _,_,Heap.get?_push_size _ rfl,rfl,rfl⟩,fun b hb=>?_,q⟩
 have e:b=s1.heap.objs.size:=by simpa using hb
 subst e
 exact I1.fpOk (Nat.le_refl _) (I1.hok.fresh (Nat.le_refl _))
end
end L2
namespace L2
open PySem PySem.Spec PyProof.Rows
section
variable {X:Cx}
theorem op_in_seqK {K:PySem.W.Frag} (hK:X.K=K):OpR X (compareOp .In) (rIn K false):=by subst hK;exact op_in_seq
theorem op_notIn_seqK {K:PySem.W.Frag} (hK:X.K=K):OpR X (compareOp .NotIn) (rIn K true):=by subst hK;exact op_notIn_seq
end
section
variable {js:List Nat} {tt:TT} {te:TE}
theorem comp_N {n:Nat} {y:Nat->V} {σ:St} {H:Hp} {Q:VK} (Pv:Nat->List V->Hp->Prop) (h0:Pv 0 [] H)
  (hs:∀ i ys H,i<n->Pv i ys H->tt (some (y i)::pick js σ) H fun b H2=>if b=true then te (some (y i)::pick js σ) H2 fun z H3=>ys.length<sizeLine/\Pv (i+1) (ys++[z]) H3 else Pv (i+1) ys H2)
  (hd:∀ ys H,Pv n ys H->∀ p,H p=none->Q (.ref p) (upd H p (.lst ys))):tCompB (ItN n y) js tt te σ H Q:=by
 refine ⟨fun i m ys H=>i+m=n/\Pv i ys H,⟨n,by simp,h0⟩,?_⟩
 rintro i m ys H1 ⟨e,q⟩
 rcases Nat.lt_or_ge i n with hlt | hge
 ·refine .inr ⟨hlt,fun ys' H'=>Pv (i+1) ys' H',fun ys' H' q'=>⟨m-1,by omega,by omega,q'⟩,?_⟩
  rintro x H' ⟨rfl,rfl⟩
  exact hs i ys _ hlt q
 ·have:i=n:=by omega
  subst this
  exact .inl ⟨hge,hd ys H1 q⟩
end
end L2
namespace Mm
open PySem L2 PyProof.Rows
noncomputable def ops7:List Str:=["+","-","*","less","same","and","or"]
inductive Ex where
 | num (n:Int)
 | truth (z:Str)
 | name (z:Str)
 | not (e:Ex)
 | op (w:Str) (a b:Ex)
 | of (n:Str) (e:Ex)
 | many (w n:Str) (es:List Ex)
mutual
inductive ExAt (H:Hp):V->Ex->Prop where
 | num {t:Addr} {n:Int}:H t=some (.tup [.str "num",.int n])->ExAt H (.ref t) (.num n)
 | truth {t:Addr} {z:Str}:H t=some (.tup [.str "truth",.str z])->ExAt H (.ref t) (.truth z)
 | name {t:Addr} {z:Str}:H t=some (.tup [.str "name",.str z])->ExAt H (.ref t) (.name z)
 | not {t:Addr} {v:V} {e:Ex}:H t=some (.tup [.str "not",v])->ExAt H v e->ExAt H (.ref t) (.not e)
 | op {t:Addr} {z:Str} {v u:V} {a b:Ex}:H t=some (.tup [.str z,v,u])->ExAt H v a->ExAt H u b->ExAt H (.ref t) (.op z a b)
 | of {t:Addr} {n:Str} {v:V} {e:Ex}:H t=some (.tup [.str "of",.str n,v])->ExAt H v e->ExAt H (.ref t) (.of n e)
 | many {t l:Addr} {z n:Str} {vs:List V} {es:List Ex}:H t=some (.tup [.str z,.str n,.ref l])->H l=some (.tup vs)->ExsAt H vs es->ExAt H (.ref t) (.many z n es)
inductive ExsAt (H:Hp):List V->List Ex->Prop where
 | nil:ExsAt H [] []
 | cons {v:V} {vs:List V} {e:Ex} {es:List Ex}:ExAt H v e->ExsAt H vs es->ExsAt H (v::vs) (e::es)
end
noncomputable def TupS (H H':Hp):Prop:=∀ b xs,H b=some (.tup xs)->H' b=some (.tup xs)
mutual
theorem ExAt.kept {H H':Hp} (s:TupS H H'):∀ {v:V} {e:Ex},ExAt H v e->ExAt H' v e
 | _,_,.num h=>.num (s _ _ h)
 | _,_,.truth h=>.truth (s _ _ h)
 | _,_,.name h=>.name (s _ _ h)
 | _,_,.not h a=>.not (s _ _ h) (a.kept s)
 | _,_,.op h a b=>.op (s _ _ h) (a.kept s) (b.kept s)
 | _,_,.of h a=>.of (s _ _ h) (a.kept s)
 | _,_,.many h l a=>.many (s _ _ h) (s _ _ l) (a.kept s)
theorem ExsAt.kept {H H':Hp} (s:TupS H H'):∀ {vs:List V} {es:List Ex},ExsAt H vs es->ExsAt H' vs es
 | _,_,.nil=>.nil
 | _,_,.cons a b=>.cons (a.kept s) (b.kept s)
end
theorem _root_.L2.Same.tups {H H':Hp} (s:Same H H'):TupS H H':=fun _ _ h=>s _ _ h
end Mm
namespace L2
open PySem PySem.Spec PyProof.Rows PySem.W
theorem op_catTK {X:Cx} {K:PySem.W.Frag} (hK:X.K=K):OpR X (binaryOp .Add) (rCatT K):=by subst hK;exact op_catT
theorem bt_sorted:bootBuiltins "sorted"=some (.builtin "sorted"):=by decide +kernel
theorem sz_swaps (f g:Nat->Nat):∀ (l:List Nat) (p:Array Nat),(l.foldl (fun a k=>a.swapIfInBounds (f k) (g k)) p).size=p.size
 | [],_=>rfl
 | k::l,p=>by
  show (l.foldl _ (p.swapIfInBounds (f k) (g k))).size=_
  rw [sz_swaps f g l]
  simp
noncomputable def EntS (m n:Nat) (p:Array Nat):Prop:=Ent n p/\p.size=m
theorem EntS.at {m n:Nat} {p:Array Nat} (h0:0<n) (h:EntS m n p) (k:Nat):p.getD k 0<n:=h.1.at h0 k
theorem EntS.rev {m n:Nat} {p:Array Nat} (h:EntS m n p) (i j:Nat):EntS m n (kas_rev p i j):=⟨h.1.rev i j,(kas_rev_size i j).trans h.2⟩
theorem EntS.bubble {m n:Nat} {p:Array Nat} (h:EntS m n p) (i d:Nat):EntS m n (bubble p i d):=⟨h.1.bubble i d,by
 have:(PyProof.Rows.bubble p i d).size=p.size:=by unfold PyProof.Rows.bubble;exact sz_swaps (fun k=>i-k) (fun k=>i-k-1) _ _
 exact this.trans h.2⟩
theorem askz_asc {zz n:Nat} (h0:0<n) {p:Array Nat} (h:EntS zz n p):∀ k i,Asks n (fun _=>True) (kas_asc p k i)
 | 0,i=>by unfold kas_asc;trivial
 | k+1,i=>by
  unfold kas_asc
  refine ⟨h.at h0 _,h.at h0 _,fun b=>?_⟩
  dsimp only
  split
  ·trivial
  ·exact askz_asc h0 h k (i+1)
theorem askz_desc {zz n:Nat} (h0:0<n):∀ k {p:Array Nat},EntS zz n p->∀ i m,Asks n (fun r:Array Nat × Nat × Nat=>EntS zz n r.1) (kas_desc k p i m)
 | 0,p,h,i,m=>by unfold kas_desc;exact h
 | k+1,p,h,i,m=>by
  unfold kas_desc
  refine ⟨h.at h0 _,h.at h0 _,fun b=>?_⟩
  dsimp only
  split
  ·split
   ·exact askz_desc h0 k (h.rev _ _) _ _
   ·exact askz_desc h0 k h _ _
  ·refine ⟨h.at h0 _,h.at h0 _,fun b=>?_⟩
   dsimp only
   split
   ·exact h
   ·exact askz_desc h0 k h _ _
theorem askz_place {zz n:Nat} (h0:0<n) {p:Array Nat} (h:EntS zz n p) (k:Nat):∀ f l r,Asks n (fun _=>True) (kas_place p k f l r)
 | 0,l,r=>by unfold kas_place;trivial
 | f+1,l,r=>by
  unfold kas_place
  split
  ·trivial
  ·refine ⟨h.at h0 _,h.at h0 _,fun b=>?_⟩
   dsimp only
   split
   ·exact askz_place h0 h k f _ _
   ·exact askz_place h0 h k f _ _
theorem askz_bin {zz n:Nat} (h0:0<n):∀ k {p:Array Nat},EntS zz n p->∀ i,Asks n (EntS zz n) (kas_bin k p i)
 | 0,p,h,i=>by unfold kas_bin;exact h
 | k+1,p,h,i=>by
  unfold kas_bin
  exact Asks.bind ((askz_place h0 h i i 0 i).mono fun l _=>askz_bin h0 k (h.bubble _ _) (i+1))
theorem askz_tail {zz n:Nat} (h0:0<n) {p:Array Nat} (h:EntS zz n p) (i j:Nat):Asks n (fun r:Nat × Array Nat=>EntS zz n r.2) (kas_tail3 i j p):=by
 unfold kas_tail3
 exact Asks.bind ((askz_asc h0 (h.rev _ _) _ _).mono fun m _=>h.rev _ _)
theorem askz_descP {zz n:Nat} (h0:0<n) {p:Array Nat} (h:EntS zz n p) (i j:Nat):Asks n (fun r:Nat × Array Nat=>EntS zz n r.2) (kas_descPart i j p):=by
 unfold kas_descPart
 refine Asks.bind ((askz_desc h0 _ h _ _).mono fun r hr=>?_)
 try dsimp only
 split
 ·exact askz_tail h0 (hr.rev _ _) _ _
 ·exact askz_tail h0 hr _ _
theorem askz_count {zz n:Nat} (h0:0<n) {p:Array Nat} (h:EntS zz n p) (j:Nat):Asks n (fun r:Nat × Array Nat=>EntS zz n r.2) (kas_count j p):=by
 unfold kas_count
 refine Asks.bind ((askz_asc h0 h _ _).mono fun i _=>?_)
 try dsimp only
 split
 ·exact h
 ·split
  ·refine ⟨h.at h0 _,h.at h0 _,fun b=>?_⟩
   dsimp only
   split
   ·exact h
   ·exact askz_descP h0 (h.rev _ _) _ _
  ·exact askz_descP h0 h _ _
theorem askz_sort {n:Nat} (h0:0<n):Asks n (EntS n n) (kas_sort n):=by
 have h:EntS n n (List.range n).toArray:=⟨fun x hx=>by simpa using hx,by simp⟩
 unfold kas_sort
 refine Asks.bind ((askz_count h0 h n).mono fun r hr=>?_)
 try dsimp only
 split
 ·exact askz_bin h0 _ hr _
 ·exact hr
theorem srtI_len (ds:List (List Key)):(srtI ds).length=ds.length:=by
 unfold srtI
 split
 ·simp
 ·rw [Array.length_toList]
  unfold pickN
  exact (asks_run (P:=EntS ds.length ds.length) (ordN ds) _ (askz_sort (by omega))).2
theorem runT_bind {α β:Type} (lt:Nat->Nat->Bool) (f:α->KasT β):∀ t:KasT α,runT lt (t.bind f)=runT lt (f (runT lt t))
 | .ret a=>rfl
 | .ask i j k=>runT_bind lt f (k (lt i j))
theorem range_at {n i:Nat} (h:i<n):(List.toArray (List.range n)).getD i 0=i:=by simp [Array.getD,h]
theorem runT_asc {lt:Nat->Nat->Bool} {n:Nat} (h:∀ i,i+1<n->lt (i+1) i=false):∀ f i,1<=i->i+f=n->runT lt (kas_asc (List.toArray (List.range n)) f i)=n
 | 0,i,h1,h2=>by unfold kas_asc;exact h2
 | f+1,i,h1,h2=>by
  unfold kas_asc
  have e:lt ((List.toArray (List.range n)).getD i 0) ((List.toArray (List.range n)).getD (i-1) 0)=false:=by
   rw [range_at (by omega),range_at (by omega)]
   have:=h (i-1) (by omega)
   rw [Nat.sub_add_cancel h1] at this
   exact this
  show runT lt (if lt _ _=true then _ else _)=n
  rw [e,if_neg (by decide)]
  exact runT_asc h f (i+1) (by omega) (by omega)
theorem runT_sorted {lt:Nat->Nat->Bool} {n:Nat} (hn:1<=n) (h:∀ i,i+1<n->lt (i+1) i=false):runT lt (kas_sort n)=List.toArray (List.range n):=by
 unfold kas_sort kas_count
 rw [runT_bind,runT_bind,runT_asc h (n-1) 1 (Nat.le_refl _) (by omega)]
 simp only [beq_self_eq_true,if_true,runT,Nat.lt_irrefl,if_false]
theorem srt_asc {ds:List (List Key)} {xs:List V} (h64:ds.length<64) (hl:ds.length=xs.length) (h:∀ i,i+1<ds.length->ltT (ds.getD (i+1) []) (ds.getD i [])=false):srt ds xs=xs:=by
 unfold srt srtI
 split
 ·rw [hl,range_pick]
 ·unfold pickN
  rw [runT_sorted (by omega) (lt:=ordN ds) h]
  show (List.range ds.length).map _=_
  rw [hl,range_pick]
end L2
namespace Mm
open PySem L2 PyProof.Rows
inductive Tr where
 | set (r:Nat) (n:Str) (e:Ex)
 | tell (r:Nat) (e:Ex)
 | iff (r:Nat) (e:Ex) (b o:List Tr)
 | whl (r:Nat) (e:Ex) (b:List Tr)
 | give (r:Nat) (e:Ex)
 | df (r:Nat) (n k:Str) (ps:List (Str × Str)) (b:List Tr)
 | kd (r:Nat) (n:Str) (ps:List (Str × Str))
noncomputable def Tr.row:Tr->Nat
 | .set r _ _=>r
 | .tell r _=>r
 | .iff r _ _ _=>r
 | .whl r _ _=>r
 | .give r _=>r
 | .df r _ _ _ _=>r
 | .kd r _ _=>r
mutual
noncomputable def Tr.deep:Tr->Nat
 | .set _ _ _=>0
 | .tell _ _=>0
 | .iff _ _ b o=>max (deeps b) (deeps o)
 | .whl _ _ b=>deeps b
 | .give _ _=>0
 | .df _ _ _ _ b=>deeps b
 | .kd _ _ _=>0
noncomputable def deeps:List Tr->Nat
 | []=>0
 | t::ts=>max (t.deep+1) (deeps ts)
end
inductive Part where
 | s (z:Str)
 | i (n:Nat)
 | e (x:Ex)
 | b (ts:List Tr)
 | p (ps:List (Str × Str))
noncomputable def Tr.parts:Tr->List Part
 | .set r n e=>[.s "set",.i r,.s n,.e e]
 | .tell r e=>[.s "tell",.i r,.e e]
 | .iff r e b o=>[.s "if",.i r,.e e,.b b,.b o]
 | .whl r e b=>[.s "while",.i r,.e e,.b b]
 | .give r e=>[.s "give",.i r,.e e]
 | .df r n k ps b=>[.s "def",.i r,.s n,.s k,.p ps,.b b]
 | .kd r n ps=>[.s "kind",.i r,.s n,.p ps]
theorem Tr.parts_len (t:Tr):t.parts.length<=6:=by cases t<;>simp [Tr.parts]
noncomputable def PrsAt (H:Hp) (v:V) (ps:List (Str × Str)):Prop:=∃ (t:Addr) (us:List Addr),v=.ref t/\H t=some (.tup (us.map V.ref))/\us.length=ps.length/\∀ (i:Nat) (u:Addr) (q:Str × Str),us[i]?=some u->ps[i]?=some q->H u=some (.tup [.str q.1,.str q.2])
mutual
inductive SAt (H:Hp) (sh:Bool):V->Tr->Prop where
 | mk {t:Addr} {vs:List V} {x:Tr}:H t=some (.tup vs)->PsAt H sh vs x.parts->SAt H sh (.ref t) x
inductive PsAt (H:Hp) (sh:Bool):List V->List Part->Prop where
 | nil:PsAt H sh [] []
 | cons {v:V} {vs:List V} {p:Part} {ps:List Part}:PAt H sh v p->PsAt H sh vs ps->PsAt H sh (v::vs) (p::ps)
inductive PAt (H:Hp) (sh:Bool):V->Part->Prop where
 | s (z:Str):PAt H sh (.str z) (.s z)
 | i (n:Nat):PAt H sh (.int (n:Int)) (.i n)
 | e {v:V} {x:Ex}:ExAt H v x->PAt H sh v (.e x)
 | b {l:Addr} {xs:List V} {ts:List Tr}:H l=some (.lst xs)->LAt H sh xs ts->PAt H sh (.ref l) (.b ts)
 | p {v:V} {ps:List (Str × Str)}:PrsAt H v ps->PAt H sh v (.p ps)
inductive LAt (H:Hp) (sh:Bool):List V->List Tr->Prop where
 | nil:LAt H sh [] []
 | cons {v:V} {vs:List V} {t:Tr} {ts:List Tr}:OAt H sh v t->LAt H sh vs ts->LAt H sh (v::vs) (t::ts)
inductive OAt (H:Hp) (sh:Bool):V->Tr->Prop where
 | plain {v:V} {t:Tr}:sh=false->SAt H sh v t->OAt H sh v t
 | shared {p:Addr} {v:V} {t:Tr}:sh=true->H p=some (.tup [.int 1,v])->SAt H sh v t->OAt H sh (.ref p) t
end
structure LsS (H H':Hp):Prop where
 t:∀ b xs,H b=some (.tup xs)->H' b=some (.tup xs)
 l:∀ b xs,H b=some (.lst xs)->H' b=some (.lst xs)
 z:∀ b o x,H b=some (.frz o x)->H' b=some (.frz o x)
theorem LsS.refl (H:Hp):LsS H H:=⟨fun _ _ h=>h,fun _ _ h=>h,fun _ _ _ h=>h⟩
theorem LsS.trans {H H1 H2:Hp} (a:LsS H H1) (b:LsS H1 H2):LsS H H2:=⟨fun _ _ h=>b.1 _ _ (a.1 _ _ h),fun _ _ h=>b.2 _ _ (a.2 _ _ h),fun _ _ _ h=>b.z _ _ _ (a.z _ _ _ h)⟩
theorem LsS.seq {K:PySem.W.Frag} {H H':Hp} (s:LsS H H') {a:Addr} {xs:List V} (h:SqL K H a xs):SqL K H' a xs:=by
 rcases h with (h | ⟨o,h⟩) | h
 ·exact .inl (.inl (s.2 _ _ h))
 ·exact .inl (.inr ⟨o,s.z _ _ _ h⟩)
 ·exact .inr h
theorem _root_.L2.Same.ls {H H':Hp} (s:Same H H'):LsS H H':=⟨fun _ _ h=>s _ _ h,fun _ _ h=>s _ _ h,fun _ _ _ h=>s _ _ h⟩
theorem PrsAt.kept {H H':Hp} {v:V} {ps:List (Str × Str)} (h:PrsAt H v ps) (s:LsS H H'):PrsAt H' v ps:=by obtain ⟨t,us,a,b,c,d⟩:=h;exact ⟨t,us,a,s.1 _ _ b,c,fun i u q x y=>s.1 _ _ (d i u q x y)⟩
mutual
theorem SAt.kept {H H':Hp} {sh:Bool} (s:LsS H H'):∀ {v:V} {t:Tr},SAt H sh v t->SAt H' sh v t
 | _,_,.mk h a=>.mk (s.1 _ _ h) (a.kept s)
theorem PsAt.kept {H H':Hp} {sh:Bool} (s:LsS H H'):∀ {vs:List V} {ps:List Part},PsAt H sh vs ps->PsAt H' sh vs ps
 | _,_,.nil=>.nil
 | _,_,.cons a b=>.cons (a.kept s) (b.kept s)
theorem PAt.kept {H H':Hp} {sh:Bool} (s:LsS H H'):∀ {v:V} {p:Part},PAt H sh v p->PAt H' sh v p
 | _,_,.s z=>.s z
 | _,_,.i n=>.i n
 | _,_,.e a=>.e (a.kept s.1)
 | _,_,.b l a=>.b (s.2 _ _ l) (a.kept s)
 | _,_,.p a=>.p (a.kept s)
theorem LAt.kept {H H':Hp} {sh:Bool} (s:LsS H H'):∀ {vs:List V} {ts:List Tr},LAt H sh vs ts->LAt H' sh vs ts
 | _,_,.nil=>.nil
 | _,_,.cons a b=>.cons (a.kept s) (b.kept s)
theorem OAt.kept {H H':Hp} {sh:Bool} (s:LsS H H'):∀ {v:V} {t:Tr},OAt H sh v t->OAt H' sh v t
 | _,_,.plain e a=>.plain e (a.kept s)
 | _,_,.shared e h a=>.shared e (s.1 _ _ h) (a.kept s)
end
theorem PsAt.length {H:Hp} {sh:Bool}:∀ {vs:List V} {ps:List Part},PsAt H sh vs ps->vs.length=ps.length
 | _,_,.nil=>rfl
 | _,_,.cons _ b=>by simp [b.length]
theorem PsAt.get {H:Hp} {sh:Bool}:∀ {vs:List V} {ps:List Part},PsAt H sh vs ps->∀ {i:Nat} {v:V},vs[i]?=some v->∃ p,ps[i]?=some p/\PAt H sh v p
 | _,_,.nil,i,v,h=>by simp at h
 | _,_,.cons a b,0,v,h=>by
  cases (show some _=some v from h)
  exact ⟨_,rfl,a⟩
 | _,_,.cons a b,i+1,v,h=>b.get h
theorem PsAt.snoc {H:Hp} {sh:Bool}:∀ {vs:List V} {ps:List Part} {v:V} {p:Part},PsAt H sh vs ps->PAt H sh v p->PsAt H sh (vs++[v]) (ps++[p])
 | _,_,_,_,.nil,h=>.cons h .nil
 | _,_,_,_,.cons a b,h=>.cons a (b.snoc h)
theorem PAt.other {H:Hp} {sh sh':Bool} {v:V} {p:Part} (h:PAt H sh v p) (n:∀ ts,p≠.b ts):PAt H sh' v p:=by
 cases h with
 | s z=>exact .s z
 | i m=>exact .i m
 | e a=>exact .e a
 | b _ _=>exact absurd rfl (n _)
 | p a=>exact .p a
theorem ExAt.tup {H:Hp} {v:V} {e:Ex} (h:ExAt H v e):∃ t xs,v=.ref t/\H t=some (.tup xs):=by
 cases h with
 | num h=>exact ⟨_,_,rfl,h⟩
 | truth h=>exact ⟨_,_,rfl,h⟩
 | name h=>exact ⟨_,_,rfl,h⟩
 | not h _=>exact ⟨_,_,rfl,h⟩
 | op h _ _=>exact ⟨_,_,rfl,h⟩
 | of h _=>exact ⟨_,_,rfl,h⟩
 | many h _ _=>exact ⟨_,_,rfl,h⟩
theorem kit_il (K:PySem.W.Frag):PySem.W.kitOne K (.type "int") (.type "list")=some false:=by rfl
theorem kit_sl (K:PySem.W.Frag):PySem.W.kitOne K (.type "str") (.type "list")=some false:=by rfl
theorem kit_tl (K:PySem.W.Frag):PySem.W.kitOne K (.type "tuple") (.type "list")=some false:=by rfl
theorem PAt.isL {K:PySem.W.Frag} {H:Hp} {sh:Bool} {v:V} {p:Part} (h:PAt H sh v p):(∃ ts l xs,p=.b ts/\v=.ref l/\H l=some (.lst xs)/\LAt H sh xs ts/\TyOf K H v (.type "list")/\PySem.W.kitOne K (.type "list") (.type "list")=some true) ∨
  (∀ ts,p≠.b ts)/\∃ t,TyOf K H v t/\PySem.W.kitOne K t (.type "list")=some false:=by
 cases h with
 | s z=>exact .inr ⟨fun _ h=>(nomatch h),_,.str z,kit_sl K⟩
 | i n=>exact .inr ⟨fun _ h=>(nomatch h),_,.int _,kit_il K⟩
 | e a =>
  obtain ⟨t,xs,rfl,ht⟩:=ExAt.tup a
  exact .inr ⟨fun _ h=>(nomatch h),_,.tup ht,kit_tl K⟩
 | b h a=>exact .inl ⟨_,_,_,rfl,rfl,h,a,.lst h,by rfl⟩
 | p a =>
  obtain ⟨t,us,rfl,ht,_⟩:=a
  exact .inr ⟨fun _ h=>(nomatch h),_,.tup ht,kit_tl K⟩
theorem LAt.length {H:Hp} {sh:Bool}:∀ {vs:List V} {ts:List Tr},LAt H sh vs ts->vs.length=ts.length
 | _,_,.nil=>rfl
 | _,_,.cons _ b=>by simp [b.length]
theorem LAt.get {H:Hp} {sh:Bool}:∀ {vs:List V} {ts:List Tr},LAt H sh vs ts->∀ {i:Nat} {v:V},vs[i]?=some v->∃ t,ts[i]?=some t/\OAt H sh v t
 | _,_,.nil,i,v,h=>by simp at h
 | _,_,.cons a b,0,v,h=>by
  cases (show some _=some v from h)
  exact ⟨_,rfl,a⟩
 | _,_,.cons a b,i+1,v,h=>b.get h
theorem LAt.snoc {H:Hp} {sh:Bool}:∀ {vs:List V} {ts:List Tr} {v:V} {t:Tr},LAt H sh vs ts->OAt H sh v t->LAt H sh (vs++[v]) (ts++[t])
 | _,_,_,_,.nil,h=>.cons h .nil
 | _,_,_,_,.cons a b,h=>.cons a (b.snoc h)
mutual
noncomputable def Tr.cnt:Tr->Nat
 | .set _ _ _=>1
 | .tell _ _=>1
 | .iff _ _ b o=>1+(cnts b+cnts o)
 | .whl _ _ b=>1+cnts b
 | .give _ _=>1
 | .df _ _ _ _ b=>1+cnts b
 | .kd _ _ _=>1
noncomputable def cnts:List Tr->Nat
 | []=>0
 | t::ts=>t.cnt+cnts ts
end
mutual
noncomputable def Ex.deep:Ex->Nat
 | .num _=>0
 | .truth _=>0
 | .name _=>0
 | .not e=>e.deep+1
 | .op _ a b=>max a.deep b.deep+1
 | .of _ e=>e.deep+1
 | .many _ _ es=>deepL es+1
noncomputable def deepL:List Ex->Nat
 | []=>0
 | e::es=>max e.deep (deepL es)
end
mutual
noncomputable def Ex.good:Ex->Prop
 | .num _=>True
 | .truth _=>True
 | .name _=>True
 | .not e=>e.good
 | .op w a b=>w∈ops7/\a.good/\b.good
 | .of _ e=>e.good
 | .many w _ es=>(w="do"∨w="new")/\es.length<=20/\goodL es
noncomputable def goodL:List Ex->Prop
 | []=>True
 | e::es=>e.good/\goodL es
end
theorem deepL_mem:∀ {es:List Ex} {e:Ex},e∈es->e.deep<=deepL es
 | x::es,e,h=>by
  rcases List.mem_cons.mp h with z | z
  ·subst z;simp [deepL];omega
  ·have:=deepL_mem z;simp [deepL];omega
noncomputable def Ex.fit (e:Ex):Prop:=e.good/\e.deep<8
mutual
noncomputable def Tr.asc:Tr->Prop
 | .set _ _ e=>e.fit
 | .tell _ e=>e.fit
 | .iff _ e b o=>e.fit/\(b.length<=20/\ascs b)/\o.length<=20/\ascs o
 | .whl _ e b=>e.fit/\b.length<=20/\ascs b
 | .give _ e=>e.fit
 | .df _ _ _ ps b=>ps.length<=20/\b.length<=20/\ascs b
 | .kd _ _ ps=>ps.length<=20
noncomputable def ascs:List Tr->Prop
 | []=>True
 | t::ts=>t.asc/\(∀ u∈ts,t.row<u.row)/\ascs ts
end
theorem ExsAt.get {H:Hp}:∀ {vs:List V} {es:List Ex},ExsAt H vs es->∀ {i:Nat} {v:V},vs[i]?=some v->∃ e,es[i]?=some e/\ExAt H v e
 | _,_,.nil,i,v,h=>by simp at h
 | _,_,.cons a b,0,v,h=>by
  cases (show some _=some v from h)
  exact ⟨_,rfl,a⟩
 | _,_,.cons a b,i+1,v,h=>ExsAt.get b h
theorem ExsAt.len {H:Hp}:∀ {vs:List V} {es:List Ex},ExsAt H vs es->vs.length=es.length
 | _,_,.nil=>rfl
 | _,_,.cons a b=>by simp [ExsAt.len b]
theorem deep_part {t:Tr} {ts:List Tr} (h:Part.b ts∈t.parts):deeps ts<=t.deep:=by
 cases t with
 | set r n e=>simp [Tr.parts] at h
 | tell r e=>simp [Tr.parts] at h
 | iff r e b o =>
  simp [Tr.parts] at h
  rcases h with h | h<;>subst h<;>simp [Tr.deep]<;>omega
 | whl r e b=>simp [Tr.parts] at h;subst h;simp [Tr.deep]
 | give r e=>simp [Tr.parts] at h
 | df r n k ps b=>simp [Tr.parts] at h;subst h;simp [Tr.deep]
 | kd r n ps=>simp [Tr.parts] at h
theorem asc_part {t:Tr} {ts:List Tr} (a:t.asc) (h:Part.b ts∈t.parts):ts.length<=20/\ascs ts:=by
 cases t with
 | set r n e=>simp [Tr.parts] at h
 | tell r e=>simp [Tr.parts] at h
 | iff r e b o =>
  simp [Tr.parts] at h
  rcases h with h | h<;>subst h
  ·exact a.2.1
  ·exact a.2.2
 | whl r e b=>simp [Tr.parts] at h;subst h;exact a.2
 | give r e=>simp [Tr.parts] at h
 | df r n k ps b=>simp [Tr.parts] at h;subst h;exact a.2
 | kd r n ps=>simp [Tr.parts] at h
theorem deeps_mem:∀ {ts:List Tr} {t:Tr},t∈ts->t.deep+1<=deeps ts
 | u::ts,t,h=>by
  rcases List.mem_cons.mp h with z | z
  ·subst z;simp [deeps];omega
  ·have:=deeps_mem z;simp [deeps];omega
theorem ascs_mem:∀ {ts:List Tr} {t:Tr},ascs ts->t∈ts->t.asc
 | u::ts,t,a,h=>by
  rcases List.mem_cons.mp h with z | z
  ·subst z;exact a.1
  ·exact ascs_mem a.2.2 z
end Mm
namespace L2
open PySem PySem.Spec PyProof.Rows
section
variable {prog:Program} {w:World} {A:Around} {E:Value->Shared->Prop} {s:Shared} {it d:Addr} {i ep:Nat} {es:Array DictEntry} {od:Obj}
theorem dkey_next {Q:Option Value->Shared->Prop} (hit:s.heap.IsKeyIter it d i es.size ep) (hod:s.heap.get? d=some od) (hdd:od.data=.dict es ep) (hlt:i<es.size)
  (hQ:∀ h',h'.IsKeyIter it d (i+1) es.size ep->Heap.SameBut it s.heap h'->Q (some es[i].key) { s with heap:=h' }):wpAny (model prog w) A (pyNext (.ref it)) Q E s:=by
 have hT:=hit.typeIs
 obtain ⟨o,ho,hc,hd⟩:=hit
 unfold pyNext
 refine wpAny_bind (wpAny_attempt (wpAny_callSpecial?_slot (name:=Str.ofString "__next__") hT F.slot_dict_keyiterator_next (wpAny_call_entry F.slot_dict_keyiterator_next hT F.entry_dict_keyiterator_next ?_ (F.args_dict_keyiterator_next_1 _))))
 refine wpAny_bind (wpAny_pure (wpAny_bind (wpAny_bind ?_)))
 first | refine wpAny_bind (wpAny_typeNameOfWhole_keyiter hT (wpAny_pure (wpAny_bind (wpAny_fieldsOf ho hd ?_)))) | refine wpAny_bind (wpAny_typeNameOf_keyiter hT (wpAny_pure (wpAny_bind (wpAny_fieldsOf ho hd ?_))))
 simp only [show Builtin.Dict_items.ownsTuple "dict_keyiterator"=false by decide,Bool.false_eq_true,if_false]
 show wpAny _ _ (if (Value.ref d == Value.none)=true then _ else _) _ _ _
 rw [if_neg (show ¬ (Value.ref d == Value.none)=true from fun z=>by cases z)]
 refine wpAny_bind (wpAny_pure (wpAny_bind (wpAny_dictEntries hod hdd ?_)))
 rw [if_neg (by simp)]
 refine wpAny_bind (wpAny_pure (wpAny_bind (wpAny_dictEpoch hod hdd ?_)))
 rw [if_neg (by simp)]
 refine wpAny_pure ?_
 simp only [show ¬ ((i:Int)<0) by omega,if_false,Int.toNat_natCast,Array.getElem?_eq_getElem hlt]
 refine wpAny_bind ?_
 first | refine wpAny_bind (wpAny_typeNameOfWhole_keyiter hT (wpAny_pure (wpAny_bind (wpAny_isOneOf_keyiter hT ?_)))) | refine wpAny_bind (wpAny_typeNameOf_keyiter hT (wpAny_pure (wpAny_bind (wpAny_isOneOf_keyiter hT ?_))))
 show wpAny _ _ (setField (.ref it) 1 (rawInt ((i:Int)+1)) >>= _) _ _ _
 refine wpAny_bind (wpAny_setField ho hd (by simp) (wpAny_bind (wpAny_holding ?_)))
 have hi2:(s.heap.update it (Obj.mapFields (·.setIfInBounds 1 (rawInt ((i:Int)+1))))).IsKeyIter it d (i+1) es.size ep:=by
  refine ⟨_,Heap.get?_update_self _ ho (Obj.isFreed_of_fields (Obj.data_mapFields hd _)),(Obj.cls_mapFields ..).trans hc,?_⟩
  rw [Obj.data_mapFields hd]
  simp [rawInt]
 refine wpAny_bind (wpAny_isOneOf_keyiter (s:={ s with heap:=s.heap.update it (Obj.mapFields (·.setIfInBounds 1 (rawInt ((i:Int)+1)))) }) hi2.typeIs ?_)
 show wpAny _ _ (pure es[i].key) _ _ _
 exact wpAny_pure (wpAny_pure ⟨_,rfl,wpAny_pure (hQ _ hi2 (Heap.SameBut.update ..))⟩)
theorem dkey_end {Q:Option Value->Shared->Prop} (hh:A.handled=none) (hit:s.heap.IsKeyIter it d i es.size ep) (hod:s.heap.get? d=some od) (hdd:od.data=.dict es ep) (hge:es.size<=i)
  (hQ:∀ h',Heap.ExtBut it s.heap h'->Q none { s with heap:=h' }):wpAny (model prog w) A (pyNext (.ref it)) Q E s:=by
 have hT:=hit.typeIs
 obtain ⟨o,ho,hc,hd⟩:=hit
 unfold pyNext
 refine wpAny_bind (wpAny_attempt (wpAny_callSpecial?_slot (name:=Str.ofString "__next__") hT F.slot_dict_keyiterator_next (wpAny_call_entry F.slot_dict_keyiterator_next hT F.entry_dict_keyiterator_next ?_ (F.args_dict_keyiterator_next_1 _))))
 refine wpAny_bind (wpAny_pure (wpAny_bind (wpAny_bind ?_)))
 first | refine wpAny_bind (wpAny_typeNameOfWhole_keyiter hT (wpAny_pure (wpAny_bind (wpAny_fieldsOf ho hd ?_)))) | refine wpAny_bind (wpAny_typeNameOf_keyiter hT (wpAny_pure (wpAny_bind (wpAny_fieldsOf ho hd ?_))))
 simp only [show Builtin.Dict_items.ownsTuple "dict_keyiterator"=false by decide,Bool.false_eq_true,if_false]
 show wpAny _ _ (if (Value.ref d == Value.none)=true then _ else _) _ _ _
 rw [if_neg (show ¬ (Value.ref d == Value.none)=true from fun z=>by cases z)]
 refine wpAny_bind (wpAny_pure (wpAny_bind (wpAny_dictEntries hod hdd ?_)))
 rw [if_neg (by simp)]
 refine wpAny_bind (wpAny_pure (wpAny_bind (wpAny_dictEpoch hod hdd ?_)))
 rw [if_neg (by simp)]
 refine wpAny_pure ?_
 simp only [show ¬ ((i:Int)<0) by omega,if_false,Int.toNat_natCast,Array.getElem?_eq_none hge]
 refine wpAny_bind ?_
 first | refine wpAny_bind (wpAny_typeNameOfWhole_keyiter hT (wpAny_pure ?_)) | refine wpAny_bind (wpAny_typeNameOf_keyiter hT (wpAny_pure ?_))
 show wpAny _ _ (setField (.ref it) 0 .none >>= _) _ _ _
 refine wpAny_bind (wpAny_setField ho hd (by simp) ?_)
 show wpAny _ _ (newExc (.type "StopIteration") [] >>= _) _ _ _
 refine wpAny_bind ?_
 simp only [newExc,newTuple]
 refine wpAny_bind (wpAny_newObj_type (wpAny_bind (m:=firstArgMember _ _) (wpAny_of_eq (a:=Value.none) (by first | rfl | (simp only [firstArgMember];rfl)) (wpAny_newObj_type ?_ (by size_fits)))) (by size_fits))
 simp only [raiseNew]
 refine wpAny_bind (wpAny_handled ?_)
 rw [show A.in1.handled=none from hh]
 refine (wpAny_bind (wpAny_pure (wpAny_throw ?_)))
 refine (wpAny_bind (wpAny_isInstance (T:="StopIteration") (b:=true) ⟨_,Heap.get?_push_size _ rfl,rfl⟩ isSubtype_stop (wpAny_pure (hQ _ ?_))))
 exact ((Heap.SameBut.update ..).extBut.push _).push _
theorem dkey_iter {Q:Value->Shared->Prop} (hT:s.TypeIs (.ref d) "dict") (hd:(d == sysModules)=false) (hod:s.heap.get? d=some od) (hdd:od.data=.dict es ep)
  (hQ:Q (.ref s.heap.objs.size) { s with heap:=s.heap.push { cls:=.type "dict_keyiterator",data:=.fields #[.ref d,.int 0 0,.int es.size 0,.int ep 0] } }):wpAny (model prog w) A (pyIter (.ref d)) Q E s:=by
 refine wpAny_pyIter_slot hT F.slot_dict_iter (wpAny_call_entry F.slot_dict_iter hT F.entry_dict_iter ?_ (F.args_dict_iter_1 _))
 unfold Builtin.«dict.__iter__» Builtin.Dict.dictSlotNone
 refine wpAny_bind (wpAny_bind (wpAny_notOrdered_dict hT ?_))
 show wpAny _ _ (pure (Value.ref d)) _ _ _
 refine wpAny_pure ?_
 show wpAny _ _ (Builtin.Dict.showsAll d >>= _) _ _ _
 unfold Builtin.Dict.showsAll
 rw [if_neg (show ¬ (d == sysModules)=true by rw [hd];decide)]
 refine wpAny_bind (wpAny_pure (wpAny_bind (wpAny_dictEntries hod hdd (wpAny_bind (wpAny_dictEpoch hod hdd ?_)))))
 refine wpAny_bind (wpAny_newObj_type (wpAny_pure ⟨_,rfl,"dict_keyiterator",_,⟨_,Heap.get?_push_size _ rfl,rfl⟩,F.slot_dict_keyiterator_next.lookup,?_⟩))
 simpa [rawInt] using hQ
end
theorem dt_frz {P:Program} {w:World} {H:Hp} {h:Heap} {d:Addr} {od:Obj} {kvs:List (List Key × V)} {es:Array DictEntry} {ep:Nat} (ok:HOk P w H h) (e:H d=some (.frz od (.dT kvs))) (hdd:od.data=.dict es ep) :
  h.get? d=some od/\es.size=kvs.length/\∀ (i:Nat) (hi:i<es.size) kv,kvs[i]?=some kv->∃ b,es[i].key=.ref b/\H b=some (.tup (kv.1.map kV)):=by
 obtain ⟨hod,_,_,xs,r,o,es',ep',h1,_,h3,h4,_⟩:=(show ObjOk P w H h d (.frz od (.dT kvs)) from ok d _ e)
 rw [hod] at h1
 cases h1
 rw [hdd] at h3
 cases h3
 have hl:es.size=xs.length:=by rw [<- Array.length_toList,h4,List.length_map]
 refine ⟨hod,by rw [hl];exact (Paired.length r).symm,fun i hi kv hk=>?_⟩
 have hix:i<xs.length:=by omega
 have ek:es[i]=entryOfKey (tupleKind (mixKind P w)) xs[i]:=by
  have:=congrArg (fun l=>l[i]?) h4
  simp only [List.getElem?_map,List.getElem?_eq_getElem hix] at this
  rw [Array.getElem?_toList,Array.getElem?_eq_getElem hi] at this
  exact Option.some.inj this
 have pr:∀ {l:List (List Key × V)} {m:List (List Key × Addr × Value)},Paired (fun (p:List Key × V) (q:List Key × Addr × Value)=>p.1=q.1/\H q.2.1=some (.tup (p.1.map kV))/\RelV p.2 q.2.2) l m->∀ (i:Nat) p q,l[i]?=some p->m[i]?=some q->H q.2.1=some (.tup (p.1.map kV)):=by
  intro l m pq
  induction pq with
  | nil=>intro i p q h;simp at h
  | cons hq _ ih =>
   intro i p q h1 h2
   cases i with
   | zero =>
    simp only [List.getElem?_cons_zero,Option.some.injEq] at h1 h2
    subst h1 h2
    exact hq.2.1
   | succ j =>
    simp only [List.getElem?_cons_succ] at h1 h2
    exact ih j p q h1 h2
 exact ⟨xs[i].2.1,by rw [ek];rfl,pr r i kv xs[i] hk (List.getElem?_eq_getElem hix)⟩
section
variable {X:Cx} {tg:Expr}
theorem Inv.freeze {pins:List (Addr × Obj)} {σ:St} {H:Hp} {s:Shared} {d:Addr} {kvs:List (List Key × V)} {od:Obj} (I:Inv X pins σ H s) (e:H d=some (.dT kvs)) (ho:s.heap.get? d=some od):Inv X pins σ (upd H d (.frz od (.dT kvs))) s:=by
 have h0:∀ {t:Nat},Inv X pins σ (upd H d (.frz od (.dT kvs))) { s with heap:=s.heap,toks:=t }:=by
  intro t
  refine I.write (x:=d) (e:=d) (by rw [e];trivial) (.inl rfl) (fun b q hb z=>z) ⟨_,ho⟩ ⟨ho,?_⟩
  have q:=I.hok d _ e
  exact q.stay (fun _ _ _ z=>z) (fun c z=>by rw [upd_ne (fun y=>by rw [y,e] at z;cases z)];exact z) fun c xs z=>by rw [upd_ne (fun y=>by rw [y,e] at z;cases z)];exact z
 exact h0 (t:=s.toks)
end
end L2
namespace L2
open PySem PySem.Spec PyProof.Rows PySem.W
theorem kdl_raw {prog:Program} {w:World} {d:Addr} {od:Obj} {es:Array DictEntry} {ep:Nat} (hc:od.cls=.type "dict") (hdd:od.data=.dict es ep) (hs:(d == sysModules)=false) :
  KdlSrc prog w "dict" d d es.size (fun i v=>∃ h:i<es.size,v=es[i].key) (fun h=>h.get? d=some od) where
 type:=fun s h=>⟨od,h,hc⟩
 there:=fun h e=>⟨Heap.lt_size e,Heap.lt_size e⟩
 keep:=fun h h' e k=>k d (.inl rfl) _ e
 notList:=by decide
 notTuple:=by decide
 hint:=fun A E s Q h q=>kdl_hint_dict ⟨od,h,hc⟩ q
 iter:=fun A s hh h=>by
  refine ⟨_,fun i h'=>h'.IsKeyIter s.heap.objs.size d i es.size ep/\h'.get? d=some od,fun E Q q=>dkey_iter ⟨od,h,hc⟩ hs h hdd q,?_,?_⟩
  ·have hne:d≠s.heap.objs.size:=Nat.ne_of_lt (Heap.lt_size h)
   refine ⟨fun b hb=>List.mem_cons.mpr (.inl (by simpa using hb)),fun i h1 h2 st k=>⟨st.1.at fun o e=>k _ (by simp) o e,k d (by simp) _ st.2⟩,?_,?_,?_⟩
   ·intro i s1 Q E hi st q
    refine dkey_next st.1 st.2 hdd hi fun h' st' sb=>?_
    exact q _ h' s1.toks ⟨hi,rfl⟩ ⟨st',(sb.2 d hne).trans st.2⟩ fun b o hb e=>(sb.2 b (by simpa using hb)).trans e
   ·intro s1 Q E st q
    refine dkey_end hh st.1 st.2 hdd (Nat.le_refl _) fun h' eb=>?_
    exact q h' s1.toks fun b o hb e=>eb b o (by simpa using hb) e
   ·intro i s1 Q E st q
    exact wpAny_pyIter_keyiter st.1 q
  ·exact ⟨⟨_,Heap.get?_push_size _ rfl,rfl,rfl⟩,Heap.get?_push_of_some _ h⟩
section
variable {X:Cx}
theorem call_sortedD (hc:X.calm=true):CallR X (.builtin "sorted") (fun as H Q=>∃ (d:Addr) (kvs:List (List Key × V)) (sh:List Bool),as=[.ref d]/\H d=some (.dT kvs)/\kvs.length<64/\(∀ kv∈kvs,kv.1.map isI=sh)/\sh≠[] /\
  ∀ p xs,H p=none->TupsAt H xs (kvs.map (·.1))->Q (.ref p) (upd H p (.lst (srt (kvs.map (·.1)) xs)))):=by
 intro pins s σ H as us Q I r h
 obtain ⟨d,kvs,sh,rfl,hd,h64,hsh,hne,q⟩:=h
 obtain ⟨u,rfl,ru⟩:=vals1 r
 cases (show u=Value.ref d from ru)
 obtain ⟨z,hs,ys,rel,dd⟩:=dt_of I.hok hd
 have hT:=dd.typeIs
 obtain ⟨od,es,ep,ho,hcl,hdat,_⟩:=dd
 have hcl:od.cls=.type "dict":=by
  obtain ⟨o,e,c⟩:=hT
  rw [ho] at e
  cases e
  exact c
 have If:=I.freeze hd ho
 obtain ⟨_,hsz,hat⟩:=dt_frz If.hok upd_same hdat
 refine Calls.call_function_entry kind_sorted plain_sorted entry_sorted (args_sorted1 _) ?_
 unfold Builtin.«sorted»
 refine wpAny_bind (m:=checkCount "sorted" 1 1 _) (wpAny_pure ?_)
 refine wpAny_bind (kdu_collect (kdl_raw hcl hdat hs) (I.ok.hd hc) ho (by rw [hsz,sizeLine_eq];omega) fun h1 tk acc hk hacc=>?_)
 obtain ⟨hal,hav⟩:=hacc
 have I1:Inv X pins σ H { s with heap:=h1,toks:=tk }:=I.kept (t':=tk) hk
 have each:∀ (i:Nat) (v:Value),acc.toList[i]?=some v->∃ b kv,v=.ref b/\kvs[i]?=some kv/\H b=some (.tup (kv.1.map kV)):=fun i v hv=>by
  rw [Array.getElem?_toList] at hv
  obtain ⟨hi,rfl⟩:=hav i v hv
  have hik:i<kvs.length:=by rw [<- hsz];exact hi
  obtain ⟨b,e1,e2⟩:=hat i hi kvs[i] (List.getElem?_eq_getElem hik)
  have hbd:b≠d:=fun z=>by rw [z,upd_same] at e2;cases e2
  rw [upd_ne hbd] at e2
  exact ⟨b,kvs[i],e1,List.getElem?_eq_getElem hik,e2⟩
 obtain ⟨xs,rv,hxt⟩:∃ xs:List V,Vals xs acc.toList/\∀ (i:Nat) (x:V),xs[i]?=some x->∃ b kv,x=.ref b/\kvs[i]?=some kv/\H b=some (.tup (kv.1.map kV)):=by
  have go:∀ (vs:List Value) (f:Nat->Option (List Key × V)),(∀ (i:Nat) (v:Value),vs[i]?=some v->∃ b kv,v=.ref b/\f i=some kv/\H b=some (.tup (kv.1.map kV)))->∃ xs:List V,Vals xs vs/\∀ (i:Nat) (x:V),xs[i]?=some x->∃ b kv,x=.ref b/\f i=some kv/\H b=some (.tup (kv.1.map kV)):=by
   intro vs
   induction vs with
   | nil=>intro f _;exact ⟨[],.nil,fun i x h=>by simp at h⟩
   | cons v vs ih =>
    intro f h
    obtain ⟨b,kv,rfl,e2,e3⟩:=h 0 v rfl
    obtain ⟨xs,r1,r2⟩:=ih (fun i=>f (i+1)) fun i v hv=>h (i+1) v hv
    refine ⟨.ref b::xs,.cons rfl r1,fun i x hx=>?_⟩
    cases i with
    | zero =>
     have:V.ref b=x:=by simpa using hx
     subst this
     exact ⟨b,kv,rfl,e2,e3⟩
    | succ i=>exact r2 i x hx
  exact go acc.toList (fun i=>kvs[i]?) each
 have hxl:xs.length=kvs.length:=by rw [rv.length,Array.length_toList,hal,hsz]
 have ht:TupsAt H xs (kvs.map (·.1)):=⟨by rw [hxl,List.length_map],fun i x k hx hk=>by
  obtain ⟨b,kv,e1,e2,e3⟩:=hxt i x hx
  rw [List.getElem?_map,e2] at hk
  have:kv.1=k:=by simpa using hk
  exact ⟨b,e1,by rw [<- this];exact e3⟩⟩
 have hsh2:∀ k∈kvs.map (·.1),k.map isI=sh:=fun k hk=>by
  obtain ⟨kv,h1,rfl⟩:=List.mem_map.mp hk
  exact hsh kv h1
 have h64x:xs.length<64:=by rw [hxl];exact h64
 generalize acc.toList=its at rv
 have hil:its.length=xs.length:=rv.length.symm
 have hz:its.length<=sizeLine:=by rw [sizeLine_eq];omega
 refine wpAny_bind (wpAny_newList (s:={ s with heap:=h1,toks:=tk }) ?_ hz)
 have hoL:(h1.push (seqObj "list" its.toArray 0)).get? h1.objs.size=some (seqObj "list" its.toArray 0):=Heap.get?_push_size _ rfl
 have I2:Inv X pins σ H { s with heap:=h1.push (seqObj "list" its.toArray 0),toks:=tk }:=I1.kept (t':=tk) fun b o e=>Heap.get?_push_of_some _ e
 have fL:FpOk X pins H h1.objs.size:=I1.fpOk (Nat.le_refl _) (I1.hok.fresh (Nat.le_refl _))
 change wpAny _ _ _ _ _ { s with heap:=h1.push (seqObj "list" its.toArray 0),toks:=tk }
 dsimp only
 generalize h1.push (seqObj "list" its.toArray 0)=h2 at hoL I2
 generalize h1.objs.size=L at hoL fL
 refine wpAny_bind (wpAny_holding (wpAny_call_entry (s:={ s with heap:=h2,toks:=tk }) slot_list_sort ⟨_,hoL,rfl⟩ entry_list_sort (lsortT I2 fL hoL rv (by rw [<- hil];exact hz) h64x ht hsh2 hne fun s' out n' I' hoa hos vy=>⟨_,rfl,?_⟩) (args_list_sort _)))
 refine wpAny_pure ⟨_,rfl,.ref L,upd H L (.lst (srt (kvs.map (·.1)) xs)),I'.adopt fL ?_,rfl,q L xs fL.1 ht⟩
 have hyl:(srt (kvs.map (·.1)) xs).length<=sizeLine:=by rw [vy.length,Array.length_toList];exact hos
 exact ⟨hyl,out.toList,n',vy,by simpa using hoa⟩
end
end L2
namespace L2
open PySem PySem.Spec PyProof.Rows
theorem call_isinstK {X:Cx} {K:PySem.W.Frag} {n:String} (hK:X.K=K):CallR X (.builtin "isinstance") (fun xs H Q=>∃ x t b,xs=[x,.ty n]/\TyOf K H x t/\PySem.W.kitOne K t (.type n)=some b/\Q (.bl b) H):=by subst hK;exact call_isinst
end L2
namespace L2
theorem len1 {α:Type}:∀ {us:List α},us.length=1->∃ a,us=[a]
 | [a],_=>⟨a,rfl⟩
theorem lenS {α:Type} {n:Nat}:∀ {us:List α},us.length=n+1->∃ a r,us=a::r/\r.length=n
 | a::r,h=>⟨a,r,rfl,Nat.succ.inj h⟩
theorem len2 {α:Type} {us:List α} (h:us.length=2):∃ a b,us=[a,b]:=by
 obtain ⟨a,r,rfl,k⟩:=lenS h
 obtain ⟨b,rfl⟩:=len1 k
 exact ⟨a,b,rfl⟩
theorem len3 {α:Type} {us:List α} (h:us.length=3):∃ a b c,us=[a,b,c]:=by
 obtain ⟨a,r,rfl,k⟩:=lenS h
 obtain ⟨b,c,rfl⟩:=len2 k
 exact ⟨a,b,c,rfl⟩
theorem len4 {α:Type} {us:List α} (h:us.length=4):∃ a b c d,us=[a,b,c,d]:=by
 obtain ⟨a,r,rfl,k⟩:=lenS h
 obtain ⟨b,c,d,rfl⟩:=len3 k
 exact ⟨a,b,c,d,rfl⟩
theorem len5 {α:Type} {us:List α} (h:us.length=5):∃ a b c d e,us=[a,b,c,d,e]:=by
 obtain ⟨a,r,rfl,k⟩:=lenS h
 obtain ⟨b,c,d,e,rfl⟩:=len4 k
 exact ⟨a,b,c,d,e,rfl⟩
end L2
namespace Mm
theorem len6 {α:Type} {us:List α} (h:us.length=6):∃ a b c d e f,us=[a,b,c,d,e,f]:=by
 match us,h with
 | [a,b,c,d,e,f],_=>exact ⟨a,b,c,d,e,f,rfl⟩
end Mm
namespace L2
open PySem PySem.Spec PyProof.Rows
section
variable {M:Model} {A:Around} {E:Value->Shared->Prop} {s:Shared}
end
end L2
namespace L2
open PySem PySem.Spec PyProof.Rows
section
variable {prog:Program} {w:World} {A:Around} {E:Value->Shared->Prop} {s:Shared} {K:PySem.W.Frag} {x C:Addr} {name:Str} {v:Value}
end
section
variable {prog:Program} {w:World} {A:Around} {E:Value->Shared->Prop} {h:Heap} {g:Array GenState} {d:Drawn} {t:Nat} {os:OsState}
variable {nm q:Str} {C N:Addr} {bs bm bmB:List Value} {hdct:Bool} {sn:List Str} {sub:List Value} {ab:Bool} {col:Option Bool} {dd:Option Addr} {k0 k1 k2 k3 k5:Option Value} {B newId initId:String}
end
section
variable {M:Model} {A:Around} {E:Value->Shared->Prop} {env:Env}
variable {nm q:Str} {C N:Addr} {bs bm:List Value} {hdct:Bool} {sn:List Str} {sub:List Value} {ab:Bool} {col:Option Bool} {dd:Option Addr} {k0 k1 k2 k3 k5:Option Value} {newId:String}
end
end L2
namespace L2
open PySem PySem.Spec PyProof.Rows
section
variable {prog:Program} {w:World} {A:Around} {E:Value->Shared->Prop} {s:Shared} {env:Env}
variable {nm q:Str} {C N:Addr} {bs bm bmB:List Value} {hdct:Bool} {sn:List Str} {sub:List Value} {ab:Bool} {col:Option Bool} {dd:Option Addr} {k0 k1 k2 k3 k5:Option Value} {B newId initId:String}
end
section
variable {X:Cx} {pins:List (Addr × Obj)} {σ:St} {H H':Hp} {s s':Shared} {B h'':Heap}
end
section
variable {P:Program} {w:World} {K:PySem.W.Frag} {mg:Str->Option Value} {base:Heap} {N:List Str} {qual:Str} {scope:Scope} {f:Addr} {cd:Value} {A:Around} {outer:List Env} {s₀:Shared} {H₀:Hp} {E:XK}
end
section
variable {X:Cx} {pins:List (Addr × Obj)} {σ:St} {H:Hp} {s:Shared} {a C t dx:Addr} {fs:List (Str × V)} {f:Str} {A:Around} {E:Value->Shared->Prop}
end
section
variable {X:Cx} {o e value:Expr} {f:Str} {pos pos' tpos:Pos} {ta tv:TE}
end
section
variable {X:Cx}
end
end L2
namespace L2
open PySem PySem.Spec PyProof.Rows
section
variable {P:Program} {w:World} {K:PySem.W.Frag} {mg:Str->Option Value} {base:Heap} {N:List Str} {qual:Str} {scope:Scope} {f:Addr} {cd:Value} {A:Around} {outer:List Env} {s₀:Shared} {H₀:Hp} {E:XK}
end
section
variable {X:Cx}
end
end L2
namespace L2
open PySem PySem.Spec PyProof.Rows
section
variable {P:Program} {w:World} {K:PySem.W.Frag} {mg:Str->Option Value} {base:Heap}
end
section
variable {X:Cx}
end
section
variable {X:Cx}
end
end L2
namespace L2
open PySem PySem.Spec PyProof.Rows
noncomputable def msk (H:Hp) (M:List Addr):Hp:=fun b=>if b∈M then none else H b
theorem msk_no {H:Hp} {M:List Addr} {b:Addr} (h:b∉M):msk H M b=H b:=if_neg h
theorem msk_some {H:Hp} {M:List Addr} {b:Addr} {o:HO} (h:msk H M b=some o):b∉M/\H b=some o:=by
 unfold msk at h
 split at h
 ·cases h
 ·exact ⟨by assumption,h⟩
theorem msk_le {H H':Hp} {M M':List Addr} (h1:∀ b∈M',b∈M∨H b=none) (h2:∀ b o,b∉M->H b=some o->H' b=some o):Same (msk H M) (msk H' M'):=by
 intro b o h
 obtain ⟨hb,ho⟩:=msk_some h
 rw [msk_no fun z=>?_]
 ·exact h2 _ _ hb ho
 ·rcases h1 b z with q | q
  ·exact hb q
  ·rw [q] at ho;cases ho
theorem msk_in (H:Hp) (M:List Addr):Same (msk H M) H:=fun b o h=>(msk_some h).2
end L2
namespace K43
open PySem L2 Mm
noncomputable def top (i:Nat):Stmt:=PySem.Challenge.pw_manymakes_k43_calls_and_gives.main.body.getD i (.Pass ⟨0,0,0,0⟩)
noncomputable abbrev st_ZQ:Stmt:=top 1
noncomputable abbrev st_ZK:Stmt:=top 2
noncomputable abbrev st_ZN:Stmt:=top 3
noncomputable abbrev st_Zt:Stmt:=top 4
noncomputable abbrev st_ZO:Stmt:=top 5
noncomputable abbrev st_Zu:Stmt:=top 6
noncomputable abbrev st_Zw:Stmt:=top 8
noncomputable abbrev st_Zj:Stmt:=top 9
noncomputable abbrev st_Zk:Stmt:=top 10
noncomputable abbrev st_Zx:Stmt:=top 11
noncomputable abbrev st_Zh:Stmt:=top 12
noncomputable abbrev st_Zy:Stmt:=top 13
noncomputable abbrev st_Zv:Stmt:=top 16
noncomputable abbrev st_ZE:Stmt:=top 17
noncomputable abbrev st_ZL:Stmt:=top 18
noncomputable abbrev st_ZF:Stmt:=top 19
noncomputable abbrev st_ZR:Stmt:=top 24
noncomputable abbrev st_ZA:Stmt:=top 25
noncomputable abbrev st_ZP:Stmt:=top 26
noncomputable abbrev st_Zn:Stmt:=top 27
noncomputable abbrev st_Zr:Stmt:=top 28
noncomputable abbrev st_Zs:Stmt:=top 30
noncomputable abbrev st_ZB:Stmt:=top 31
noncomputable abbrev st_ZC:Stmt:=top 32
noncomputable abbrev st_ZG:Stmt:=top 33
noncomputable abbrev st_ZH:Stmt:=top 34
noncomputable abbrev st_ZD:Stmt:=top 35
noncomputable abbrev st_ZI:Stmt:=top 36
noncomputable abbrev st_ZM:Stmt:=top 37
noncomputable abbrev st_ZJ:Stmt:=top 38
noncomputable abbrev st_Zp:Stmt:=top 39
noncomputable abbrev st_Zl:Stmt:=inClass (top 23) 0
noncomputable abbrev st_Zm:Stmt:=inClass (top 23) 1
noncomputable abbrev st_Zb:Stmt:=inClass (top 23) 2
noncomputable abbrev st_Zd:Stmt:=inClass (top 23) 3
noncomputable abbrev st_Ze:Stmt:=inClass (top 23) 4
noncomputable abbrev st_Zf:Stmt:=inClass (top 23) 5
noncomputable abbrev st_Zq:Stmt:=inClass (top 23) 6
noncomputable abbrev st_Zg:Stmt:=inClass (top 23) 7
noncomputable abbrev st_Zc:Stmt:=inClass (top 23) 8
noncomputable abbrev st_Za:Stmt:=inClass (top 23) 9
noncomputable abbrev st_law:Stmt:=top 40
structure Adr where
 ZQ:Addr
 ZK:Addr
 ZN:Addr
 Zt:Addr
 ZO:Addr
 Zu:Addr
 Zw:Addr
 Zj:Addr
 Zk:Addr
 Zx:Addr
 Zh:Addr
 Zy:Addr
 Zv:Addr
 ZE:Addr
 ZL:Addr
 ZF:Addr
 ZR:Addr
 ZA:Addr
 ZP:Addr
 Zn:Addr
 Zr:Addr
 Zs:Addr
 ZB:Addr
 ZC:Addr
 ZG:Addr
 ZH:Addr
 ZD:Addr
 ZI:Addr
 ZM:Addr
 ZJ:Addr
 Zp:Addr
 Zl:Addr
 Zm:Addr
 Zb:Addr
 Zd:Addr
 Ze:Addr
 Zf:Addr
 Zq:Addr
 Zg:Addr
 Zc:Addr
 Za:Addr
 c_KindLook:Addr
 d_MAKES:Addr
 d_ASKS:Addr
 q_PLAIN_KINDS:Addr
structure Fds where
 ZQ:FuncData
 ZK:FuncData
 ZN:FuncData
 Zt:FuncData
 ZO:FuncData
 Zu:FuncData
 Zw:FuncData
 Zj:FuncData
 Zk:FuncData
 Zx:FuncData
 Zh:FuncData
 Zy:FuncData
 Zv:FuncData
 ZE:FuncData
 ZL:FuncData
 ZF:FuncData
 ZR:FuncData
 ZA:FuncData
 ZP:FuncData
 Zn:FuncData
 Zr:FuncData
 Zs:FuncData
 ZB:FuncData
 ZC:FuncData
 ZG:FuncData
 ZH:FuncData
 ZD:FuncData
 ZI:FuncData
 ZM:FuncData
 ZJ:FuncData
 Zp:FuncData
 Zl:FuncData
 Zm:FuncData
 Zb:FuncData
 Zd:FuncData
 Ze:FuncData
 Zf:FuncData
 Zq:FuncData
 Zg:FuncData
 Zc:FuncData
 Za:FuncData
structure All (P:Program) (w:World) (K:PySem.W.Frag) (mg:Str->Option Value) (A:Adr) (D:Fds):Prop where
 m_ZQ:mg "least"=some (.ref A.ZQ)
 k_ZQ:PySem.W.keepIn K (.ref A.ZQ)=true
 F_ZQ:Fun K "least" "least" st_ZQ A.ZQ D.ZQ
 b_ZQ:Binds K D.ZQ ["mask"] []
 m_ZK:mg "without"=some (.ref A.ZK)
 k_ZK:PySem.W.keepIn K (.ref A.ZK)=true
 F_ZK:Fun K "without" "without" st_ZK A.ZK D.ZK
 b_ZK:Binds K D.ZK ["mask","other"] []
 m_ZN:mg "all_of"=some (.ref A.ZN)
 k_ZN:PySem.W.keepIn K (.ref A.ZN)=true
 F_ZN:Fun K "all_of" "all_of" st_ZN A.ZN D.ZN
 b_ZN:Binds K D.ZN ["pairs"] []
 m_Zt:mg "kept_pairs"=some (.ref A.Zt)
 k_Zt:PySem.W.keepIn K (.ref A.Zt)=true
 F_Zt:Fun K "kept_pairs" "kept_pairs" st_Zt A.Zt D.Zt
 b_Zt:Binds K D.Zt ["pairs","mask"] []
 m_ZO:mg "add_to"=some (.ref A.ZO)
 k_ZO:PySem.W.keepIn K (.ref A.ZO)=true
 F_ZO:Fun K "add_to" "add_to" st_ZO A.ZO D.ZO
 b_ZO:Binds K D.ZO ["found","key","mask"] []
 m_Zu:mg "with_masks"=some (.ref A.Zu)
 k_Zu:PySem.W.keepIn K (.ref A.Zu)=true
 F_Zu:Fun K "with_masks" "with_masks" st_Zu A.Zu D.Zu
 b_Zu:Binds K D.Zu ["found"] []
 m_Zw:mg "kept_tree"=some (.ref A.Zw)
 k_Zw:PySem.W.keepIn K (.ref A.Zw)=true
 F_Zw:Fun K "kept_tree" "kept_tree" st_Zw A.Zw D.Zw
 b_Zw:Binds K D.Zw ["tree","mask"] []
 m_Zj:mg "kept_statement"=some (.ref A.Zj)
 k_Zj:PySem.W.keepIn K (.ref A.Zj)=true
 F_Zj:Fun K "kept_statement" "kept_statement" st_Zj A.Zj D.Zj
 b_Zj:Binds K D.Zj ["one","mask"] []
 m_Zk:mg "row_and_least"=some (.ref A.Zk)
 k_Zk:PySem.W.keepIn K (.ref A.Zk)=true
 F_Zk:Fun K "row_and_least" "row_and_least" st_Zk A.Zk D.Zk
 b_Zk:Binds K D.Zk ["pair"] []
 m_Zx:mg "shared_of"=some (.ref A.Zx)
 k_Zx:PySem.W.keepIn K (.ref A.Zx)=true
 F_Zx:Fun K "shared_of" "shared_of" st_Zx A.Zx D.Zx
 b_Zx:Binds K D.Zx ["tree"] []
 m_Zh:mg "shared_statement"=some (.ref A.Zh)
 k_Zh:PySem.W.keepIn K (.ref A.Zh)=true
 F_Zh:Fun K "shared_statement" "shared_statement" st_Zh A.Zh D.Zh
 b_Zh:Binds K D.Zh ["one"] []
 m_Zy:mg "blocks_of"=some (.ref A.Zy)
 k_Zy:PySem.W.keepIn K (.ref A.Zy)=true
 F_Zy:Fun K "blocks_of" "blocks_of" st_Zy A.Zy D.Zy
 b_Zy:Binds K D.Zy ["one"] []
 m_Zv:mg "first_rows"=some (.ref A.Zv)
 k_Zv:PySem.W.keepIn K (.ref A.Zv)=true
 F_Zv:Fun K "first_rows" "first_rows" st_Zv A.Zv D.Zv
 b_Zv:Binds K D.Zv ["tree"] []
 m_ZE:mg "pairs_of"=some (.ref A.ZE)
 k_ZE:PySem.W.keepIn K (.ref A.ZE)=true
 F_ZE:Fun K "pairs_of" "pairs_of" st_ZE A.ZE D.ZE
 b_ZE:Binds K D.ZE ["one"] []
 m_ZL:mg "expr_of"=some (.ref A.ZL)
 k_ZL:PySem.W.keepIn K (.ref A.ZL)=true
 F_ZL:Fun K "expr_of" "expr_of" st_ZL A.ZL D.ZL
 b_ZL:Binds K D.ZL ["one"] []
 m_ZF:mg "exprs_in"=some (.ref A.ZF)
 k_ZF:PySem.W.keepIn K (.ref A.ZF)=true
 F_ZF:Fun K "exprs_in" "exprs_in" st_ZF A.ZF D.ZF
 b_ZF:Binds K D.ZF ["e"] []
 m_ZR:mg "unfit"=some (.ref A.ZR)
 k_ZR:PySem.W.keepIn K (.ref A.ZR)=true
 F_ZR:Fun K "unfit" "unfit" st_ZR A.ZR D.ZR
 b_ZR:Binds K D.ZR ["kinds","due"] []
 m_ZA:mg "is_record"=some (.ref A.ZA)
 k_ZA:PySem.W.keepIn K (.ref A.ZA)=true
 F_ZA:Fun K "is_record" "is_record" st_ZA A.ZA D.ZA
 b_ZA:Binds K D.ZA ["kind"] []
 m_ZP:mg "giving"=some (.ref A.ZP)
 k_ZP:PySem.W.keepIn K (.ref A.ZP)=true
 F_ZP:Fun K "giving" "giving" st_ZP A.ZP D.ZP
 b_ZP:Binds K D.ZP ["body"] []
 m_Zn:mg "shared_kinds"=some (.ref A.Zn)
 k_Zn:PySem.W.keepIn K (.ref A.Zn)=true
 F_Zn:Fun K "shared_kinds" "shared_kinds" st_Zn A.Zn D.Zn
 b_Zn:Binds K D.Zn ["tree","mask"] []
 m_Zr:mg "plain_kinds"=some (.ref A.Zr)
 k_Zr:PySem.W.keepIn K (.ref A.Zr)=true
 F_Zr:Fun K "plain_kinds" "plain_kinds" st_Zr A.Zr D.Zr
 b_Zr:Binds K D.Zr ["tree"] []
 m_Zs:mg "_law_cell_at"=some (.ref A.Zs)
 k_Zs:PySem.W.keepIn K (.ref A.Zs)=true
 F_Zs:Fun K "_law_cell_at" "_law_cell_at" st_Zs A.Zs D.Zs
 b_Zs:Binds K D.Zs ["_law_script","_law_k"] []
 m_ZB:mg "_law_mixed"=some (.ref A.ZB)
 k_ZB:PySem.W.keepIn K (.ref A.ZB)=true
 F_ZB:Fun K "_law_mixed" "_law_mixed" st_ZB A.ZB D.ZB
 b_ZB:Binds K D.ZB ["_law_cell","_law_k"] []
 m_ZC:mg "_law_names"=some (.ref A.ZC)
 k_ZC:PySem.W.keepIn K (.ref A.ZC)=true
 F_ZC:Fun K "_law_names" "_law_names" st_ZC A.ZC D.ZC
 b_ZC:Binds K D.ZC ["_law_number"] []
 m_ZG:mg "_law_expr"=some (.ref A.ZG)
 k_ZG:PySem.W.keepIn K (.ref A.ZG)=true
 F_ZG:Fun K "_law_expr" "_law_expr" st_ZG A.ZG D.ZG
 b_ZG:Binds K D.ZG ["_law_number","_law_params","_law_heads","_law_deep"] []
 m_ZH:mg "_law_kind"=some (.ref A.ZH)
 k_ZH:PySem.W.keepIn K (.ref A.ZH)=true
 F_ZH:Fun K "_law_kind" "_law_kind" st_ZH A.ZH D.ZH
 b_ZH:Binds K D.ZH ["_law_e","_law_params","_law_heads"] []
 m_ZD:mg "_law_wrong"=some (.ref A.ZD)
 k_ZD:PySem.W.keepIn K (.ref A.ZD)=true
 F_ZD:Fun K "_law_wrong" "_law_wrong" st_ZD A.ZD D.ZD
 b_ZD:Binds K D.ZD ["_law_e","_law_params","_law_heads"] []
 m_ZI:mg "_law_head"=some (.ref A.ZI)
 k_ZI:PySem.W.keepIn K (.ref A.ZI)=true
 F_ZI:Fun K "_law_head" "_law_head" st_ZI A.ZI D.ZI
 b_ZI:Binds K D.ZI ["_law_number","_law_k","_law_names_here"] []
 m_ZM:mg "_law_row"=some (.ref A.ZM)
 k_ZM:PySem.W.keepIn K (.ref A.ZM)=true
 F_ZM:Fun K "_law_row" "_law_row" st_ZM A.ZM D.ZM
 b_ZM:Binds K D.ZM ["_law_number","_law_at","_law_params","_law_heads"] []
 m_ZJ:mg "_law_tree"=some (.ref A.ZJ)
 k_ZJ:PySem.W.keepIn K (.ref A.ZJ)=true
 F_ZJ:Fun K "_law_tree" "_law_tree" st_ZJ A.ZJ D.ZJ
 b_ZJ:Binds K D.ZJ ["_law_script"] []
 m_Zp:mg "_law_body_due"=some (.ref A.Zp)
 k_Zp:PySem.W.keepIn K (.ref A.Zp)=true
 F_Zp:Fun K "_law_body_due" "_law_body_due" st_Zp A.Zp D.Zp
 b_Zp:Binds K D.Zp ["_law_head_here","_law_heads","_law_body"] []
 M_KindLook:Mk K A.c_KindLook A.Zl
 k_Zl:PySem.W.keepIn K (.ref A.Zl)=true
 F_Zl:Fun K "__init__" "KindLook.__init__" st_Zl A.Zl D.Zl
 b_Zl:Binds K D.Zl ["self","tree"] []
 M_Zm:Meth K A.c_KindLook "note" A.Zm
 k_Zm:PySem.W.keepIn K (.ref A.Zm)=true
 F_Zm:Fun K "note" "KindLook.note" st_Zm A.Zm D.Zm
 b_Zm:Binds K D.Zm ["self","mask","at","what"] []
 M_Zb:Meth K A.c_KindLook "look_body" A.Zb
 k_Zb:PySem.W.keepIn K (.ref A.Zb)=true
 F_Zb:Fun K "look_body" "KindLook.look_body" st_Zb A.Zb D.Zb
 b_Zb:Binds K D.Zb ["self","statements","names","due"] []
 M_Zd:Meth K A.c_KindLook "look_def" A.Zd
 k_Zd:PySem.W.keepIn K (.ref A.Zd)=true
 F_Zd:Fun K "look_def" "KindLook.look_def" st_Zd A.Zd D.Zd
 b_Zd:Binds K D.Zd ["self","mask","one"] []
 M_Ze:Meth K A.c_KindLook "look_row" A.Ze
 k_Ze:PySem.W.keepIn K (.ref A.Ze)=true
 F_Ze:Fun K "look_row" "KindLook.look_row" st_Ze A.Ze D.Ze
 b_Ze:Binds K D.Ze ["self","one","kinds","names","due"] []
 M_Zf:Meth K A.c_KindLook "look_set" A.Zf
 k_Zf:PySem.W.keepIn K (.ref A.Zf)=true
 F_Zf:Fun K "look_set" "KindLook.look_set" st_Zf A.Zf D.Zf
 b_Zf:Binds K D.Zf ["self","one","kinds","names"] []
 M_Zq:Meth K A.c_KindLook "ask" A.Zq
 k_Zq:PySem.W.keepIn K (.ref A.Zq)=true
 F_Zq:Fun K "ask" "KindLook.ask" st_Zq A.Zq D.Zq
 b_Zq:Binds K D.Zq ["self","mask","e","due","at","names"] []
 M_Zg:Meth K A.c_KindLook "kinds_of" A.Zg
 k_Zg:PySem.W.keepIn K (.ref A.Zg)=true
 F_Zg:Fun K "kinds_of" "KindLook.kinds_of" st_Zg A.Zg D.Zg
 b_Zg:Binds K D.Zg ["self","mask","e","at","names"] []
 M_Zc:Meth K A.c_KindLook "used_rows" A.Zc
 k_Zc:PySem.W.keepIn K (.ref A.Zc)=true
 F_Zc:Fun K "used_rows" "KindLook.used_rows" st_Zc A.Zc D.Zc
 b_Zc:Binds K D.Zc ["self","mask","e","word","at","names"] []
 M_Za:Meth K A.c_KindLook "field_kinds" A.Za
 k_Za:PySem.W.keepIn K (.ref A.Za)=true
 F_Za:Fun K "field_kinds" "KindLook.field_kinds" st_Za A.Za D.Za
 b_Za:Binds K D.Za ["self","mask","kind","field","at"] []
 m_KindLook:mg "KindLook"=some (.ref A.c_KindLook)
 cl_KindLook:Cls K A.c_KindLook
 na_KindLook_faults:NoAttr K A.c_KindLook "faults"
 na_KindLook_firsts:NoAttr K A.c_KindLook "firsts"
 ty_KindLook:∀ (H:Hp) (a dx:Addr) (fs:List (Str × V)),H a=some (.ins A.c_KindLook dx fs)->TyOf K H (.ref a) (.ref A.c_KindLook)
 is_KindLook:PySem.W.kitOne K (.ref A.c_KindLook) (.ref A.c_KindLook)=some true
 m_MAKES:mg "MAKES"=some (.ref A.d_MAKES)
 D_MAKES:KDictT P w K A.d_MAKES [("num","num"),("truth","truth"),("+","num"),("-","num"),("*","num"),("less","truth"),("same","truth"),("and","truth"),("or","truth"),("not","truth")]
 m_ASKS:mg "ASKS"=some (.ref A.d_ASKS)
 D_ASKS:KDictT P w K A.d_ASKS [("+","num"),("-","num"),("*","num"),("less","num"),("same","num"),("and","truth"),("or","truth"),("not","truth")]
 m_PLAIN_KINDS:mg "PLAIN_KINDS"=some (.ref A.q_PLAIN_KINDS)
 Q_PLAIN_KINDS:∀ H,SqT K H A.q_PLAIN_KINDS [.str "num",.str "truth"]
 n_len:mg "len"=none
 n_range:mg "range"=none
 n_list:mg "list"=none
 n_dict:mg "dict"=none
 n_tuple:mg "tuple"=none
 n_sorted:mg "sorted"=none
 n_enumerate:mg "enumerate"=none
 n_isinstance:mg "isinstance"=none
 n_zip:mg "zip"=none
theorem same_upd {H:Hp} {p:Addr} {o:HO} (h:H p=none):Same H (upd H p o):=fun b u e=>by rw [upd_ne (ne_of_none e h)];exact e
section
variable {P:Program} {w:World} {K:PySem.W.Frag} {mg:Str->Option Value} {base:Heap} {AA:Adr} {DD:Fds}
theorem ps_cons {H:Hp} {sh:Bool} {vs:List V} {p:Part} {ps:List Part} (h:PsAt H sh vs (p::ps)):∃ v r,vs=v::r/\PAt H sh v p/\PsAt H sh r ps:=by
 cases h with | cons a b=>exact ⟨_,_,rfl,a,b⟩
theorem ps_nil {H:Hp} {sh:Bool} {vs:List V} (h:PsAt H sh vs []):vs=[]:=by cases h;rfl
theorem pa_s {H:Hp} {sh:Bool} {v:V} {z:Str} (h:PAt H sh v (.s z)):v=.str z:=by cases h;rfl
theorem pa_i {H:Hp} {sh:Bool} {v:V} {n:Nat} (h:PAt H sh v (.i n)):v=.int ((n:Nat):Int):=by cases h;rfl
theorem pa_e {H:Hp} {sh:Bool} {v:V} {x:Ex} (h:PAt H sh v (.e x)):ExAt H v x:=by cases h with | e a=>exact a
theorem pa_b {H:Hp} {sh:Bool} {v:V} {ts:List Tr} (h:PAt H sh v (.b ts)):∃ l xs,v=.ref l/\H l=some (.lst xs)/\LAt H sh xs ts:=by cases h with | b l a=>exact ⟨_,_,rfl,l,a⟩
theorem pa_p {H:Hp} {sh:Bool} {v:V} {ps:List (Str × Str)} (h:PAt H sh v (.p ps)):PrsAt H v ps:=by cases h with | p a=>exact a
theorem s_inv {H:Hp} {sh:Bool} {v:V} {t:Tr} (h:SAt H sh v t):∃ a vs,v=.ref a/\H a=some (.tup vs)/\PsAt H sh vs t.parts:=by cases h with | mk a b=>exact ⟨_,_,rfl,a,b⟩
theorem ps_two {H:Hp} {sh:Bool} {vs:List V} {z:Str} {n:Nat} {ps:List Part} (h:PsAt H sh vs (.s z::.i n::ps)):∃ r,vs=.str z::.int ((n:Nat):Int)::r/\PsAt H sh r ps:=by
 obtain ⟨a,r,e,h1,h⟩:=ps_cons h
 obtain ⟨b,r',e',h2,h⟩:=ps_cons h
 exact ⟨r',by rw [e,e',pa_s h1,pa_i h2],h⟩
theorem ps_ex {H:Hp} {sh:Bool} {vs:List V} {x:Ex} (h:PsAt H sh vs [.e x]):∃ v,vs=[v]/\ExAt H v x:=by
 obtain ⟨a,r,e,h1,h⟩:=ps_cons h
 exact ⟨a,by rw [e,ps_nil h],pa_e h1⟩
theorem s_set {H:Hp} {sh:Bool} {v:V} {r:Nat} {z:Str} {e:Ex} (h:SAt H sh v (.set r z e)):∃ t ve,v=.ref t/\H t=some (.tup [.str "set",.int ((r:Nat):Int),.str z,ve])/\ExAt H ve e:=by
 obtain ⟨t,vs,e1,ht,h⟩:=s_inv h
 obtain ⟨q,e2,h⟩:=ps_two h
 obtain ⟨a,q',e3,h1,h⟩:=ps_cons h
 obtain ⟨ve,e4,hx⟩:=ps_ex h
 exact ⟨t,ve,e1,by rw [ht,e2,e3,pa_s h1,e4],hx⟩
theorem s_tell {H:Hp} {sh:Bool} {v:V} {r:Nat} {e:Ex} (h:SAt H sh v (.tell r e)):∃ t ve,v=.ref t/\H t=some (.tup [.str "tell",.int ((r:Nat):Int),ve])/\ExAt H ve e:=by
 obtain ⟨t,vs,e1,ht,h⟩:=s_inv h
 obtain ⟨q,e2,h⟩:=ps_two h
 obtain ⟨ve,e4,hx⟩:=ps_ex h
 exact ⟨t,ve,e1,by rw [ht,e2,e4],hx⟩
theorem s_give {H:Hp} {sh:Bool} {v:V} {r:Nat} {e:Ex} (h:SAt H sh v (.give r e)):∃ t ve,v=.ref t/\H t=some (.tup [.str "give",.int ((r:Nat):Int),ve])/\ExAt H ve e:=by
 obtain ⟨t,vs,e1,ht,h⟩:=s_inv h
 obtain ⟨q,e2,h⟩:=ps_two h
 obtain ⟨ve,e4,hx⟩:=ps_ex h
 exact ⟨t,ve,e1,by rw [ht,e2,e4],hx⟩
theorem s_iff {H:Hp} {sh:Bool} {v:V} {r:Nat} {e:Ex} {b o:List Tr} (h:SAt H sh v (.iff r e b o)):∃ t ve lb xb lo xo,v=.ref t/\H t=some (.tup [.str "if",.int ((r:Nat):Int),ve,.ref lb,.ref lo])/\ExAt H ve e/\H lb=some (.lst xb)/\LAt H sh xb b/\H lo=some (.lst xo)/\LAt H sh xo o:=by
 obtain ⟨t,vs,e1,ht,h⟩:=s_inv h
 obtain ⟨q,e2,h⟩:=ps_two h
 obtain ⟨ve,q',e3,h1,h⟩:=ps_cons h
 obtain ⟨vb,q2,e4,h2,h⟩:=ps_cons h
 obtain ⟨vo,q3,e5,h3,h⟩:=ps_cons h
 obtain ⟨lb,xb,f1,f2,f3⟩:=pa_b h2
 obtain ⟨lo,xo,g1,g2,g3⟩:=pa_b h3
 exact ⟨t,ve,lb,xb,lo,xo,e1,by rw [ht,e2,e3,e4,e5,ps_nil h,f1,g1],pa_e h1,f2,f3,g2,g3⟩
theorem s_whl {H:Hp} {sh:Bool} {v:V} {r:Nat} {e:Ex} {b:List Tr} (h:SAt H sh v (.whl r e b)):∃ t ve lb xb,v=.ref t/\H t=some (.tup [.str "while",.int ((r:Nat):Int),ve,.ref lb])/\ExAt H ve e/\H lb=some (.lst xb)/\LAt H sh xb b:=by
 obtain ⟨t,vs,e1,ht,h⟩:=s_inv h
 obtain ⟨q,e2,h⟩:=ps_two h
 obtain ⟨ve,q',e3,h1,h⟩:=ps_cons h
 obtain ⟨vb,q2,e4,h2,h⟩:=ps_cons h
 obtain ⟨lb,xb,f1,f2,f3⟩:=pa_b h2
 exact ⟨t,ve,lb,xb,e1,by rw [ht,e2,e3,e4,ps_nil h,f1],pa_e h1,f2,f3⟩
theorem s_df {H:Hp} {sh:Bool} {v:V} {r:Nat} {n k:Str} {ps:List (Str × Str)} {b:List Tr} (h:SAt H sh v (.df r n k ps b)):∃ t vp lb xb,v=.ref t/\H t=some (.tup [.str "def",.int ((r:Nat):Int),.str n,.str k,vp,.ref lb])/\PrsAt H vp ps/\H lb=some (.lst xb)/\LAt H sh xb b:=by
 obtain ⟨t,vs,e1,ht,h⟩:=s_inv h
 obtain ⟨q,e2,h⟩:=ps_two h
 obtain ⟨a,q1,e3,h1,h⟩:=ps_cons h
 obtain ⟨c,q2,e4,h2,h⟩:=ps_cons h
 obtain ⟨vp,q3,e5,h3,h⟩:=ps_cons h
 obtain ⟨vb,q4,e6,h4,h⟩:=ps_cons h
 obtain ⟨lb,xb,f1,f2,f3⟩:=pa_b h4
 exact ⟨t,vp,lb,xb,e1,by rw [ht,e2,e3,e4,e5,e6,ps_nil h,f1,pa_s h1,pa_s h2],pa_p h3,f2,f3⟩
theorem s_kd {H:Hp} {sh:Bool} {v:V} {r:Nat} {n:Str} {ps:List (Str × Str)} (h:SAt H sh v (.kd r n ps)):∃ t vp,v=.ref t/\H t=some (.tup [.str "kind",.int ((r:Nat):Int),.str n,vp])/\PrsAt H vp ps:=by
 obtain ⟨t,vs,e1,ht,h⟩:=s_inv h
 obtain ⟨q,e2,h⟩:=ps_two h
 obtain ⟨a,q1,e3,h1,h⟩:=ps_cons h
 obtain ⟨vp,q3,e5,h3,h⟩:=ps_cons h
 exact ⟨t,vp,e1,by rw [ht,e2,e3,e5,ps_nil h,pa_s h1],pa_p h3⟩
theorem small1000' {n:Nat} (h:n<1000):n<sizeLine:=by rw [sizeLine_eq];omega
noncomputable def spShOf (k:Nat):Sp:=fun vs H Q _=>∃ (l:Addr) (xs:List V) (ts:List Tr),vs=[.ref l]/\H l=some (.lst xs)/\LAt H false xs ts/\deeps ts<k/\ts.length<=20/\ascs ts/\∀ p ys H',Same H H'->H' p=some (.lst ys)->LAt H' true ys ts->Q (.ref p) H'
noncomputable def spShSt (k:Nat):Sp:=fun vs H Q _=>∃ (v:V) (t:Tr),vs=[v]/\SAt H false v t/\t.deep<k/\t.asc/\∀ v' H',Same H H'->SAt H' true v' t->Q v' H'
noncomputable abbrev N_Zh:List Str:=["one"]
theorem sc_Zh:FnScope N_Zh ["one"] (defScope st_Zh):=⟨rfl,rfl,rfl,by decide +kernel,rfl,by decide +kernel,by decide +kernel⟩
theorem ok_shst (T:All P w K mg AA DD) (k:Nat) (GF:FnOk P w K mg base CX0 (2*k+1) AA.Zx DD.Zx ["tree"] (spShOf k)):FnOk P w K mg base CX0 (2*k+2) AA.Zh DD.Zh ["one"] (spShSt k):=by
 refine T.F_Zh.ok sc_Zh (fun vs H Q E h=>?_) (fun cdv A outer s H vs Q E hr h=>?_)
 ·obtain ⟨v,t,rfl,_⟩:=h
  rfl
 ·obtain ⟨v,t,rfl,hS,hd,ha,kq⟩:=h
  have nd:=sc_Zh.nd
  have hrF:Room (2*k+1) _:=hr
  refine ⟨_,(@pss_one _ _ _ (@ps_ret _ _ _ _ (pe_callTy call_tuple_of rfl T.n_tuple bt_tuple (@pa_cons _ _ _ _ _ (pe_comp (defScope st_Zh) N_Zh [] [] rfl (by exact ⟨rfl,rfl,by decide +kernel,rfl,by decide +kernel,by decide +kernel,by decide +kernel,rfl,by decide +kernel⟩) rfl rfl (pi_tup (pv 0)) (fun _ _ _ _=>pif_nil) (fun _ _ _ _=>(pe_ifExp (pt_val (pe_callB (call_isinstK (K:=K) (n:="list") rfl) rfl T.n_isinstance bt_isi (@pa_cons _ _ _ _ _ (pv 0) (@pa_cons _ _ _ _ _ (pe_bltn (v:=.ty "list") rfl T.n_list bt_list rfl) pa_nil (by rfl)) (by rfl)))) (pe_call GF hrF rfl T.m_Zx T.k_Zx T.b_Zx .nil pass0 (@pa_cons _ _ _ _ _ (pv 0) pa_nil (by rfl))) (pv 0)))) pa_nil (by rfl))))),?_⟩
  cases hS with
  | @mk t0 xs _ ht hps =>
  refine ⟨_,rfl,t0,rfl,⟨_,SqT.of ht⟩,?_⟩
  have hpl:=t.parts_len
  have hxl:=hps.length
  refine comp_tup (K:=K) (a:=t0) (xs:=xs) (fun i ys H'=>Same H H'/\i<=xs.length/\PsAt H' true ys (t.parts.take i)) ⟨Same.refl _,Nat.zero_le _,by simpa using PsAt.nil⟩ (fun i ys H' _ h=>SqT.of (h.1 _ _ ht)) ?_ ?_
  ·rintro i x ys H1 hx ⟨sm,hi,hys⟩
   obtain ⟨p,hp,hP⟩:=hps.get hx
   have hP1:=hP.kept sm.ls
   have hilt:=(List.getElem?_eq_some_iff.mp hx).1
   have hyl:=hys.length
   rw [List.length_take] at hyl
   have hil:i<t.parts.length:=by omega
   have htk:t.parts.take (i+1)=t.parts.take i++[p]:=by
    rw [List.take_succ_eq_append_getElem hil]
    rw [List.getElem?_eq_getElem hil] at hp
    rw [Option.some.inj hp]
   refine tYes_ok ?_
   rw [if_pos rfl]
   rcases hP1.isL (K:=K) with ⟨bs,l,zs,e1,e2,hl,hL,ty,kb⟩ | ⟨nb,ty0,ty,kb⟩
   ·subst e1 e2
    have hm:Part.b bs∈t.parts:=List.mem_of_getElem? hp
    refine ⟨_,rfl,_,_,true,rfl,ty,kb,_,rfl,iteT ?_⟩
    refine ⟨_,rfl,l,zs,bs,rfl,hl,hL,Nat.lt_of_le_of_lt (deep_part hm) hd,(asc_part ha hm).1,(asc_part ha hm).2,fun q us H2 s2 hq hL2=>?_⟩
    refine ⟨small1000' (by omega),sm.trans s2,by omega,?_⟩
    rw [htk]
    exact (hys.kept s2.ls).snoc (.b hq hL2)
   ·refine ⟨_,rfl,_,_,false,rfl,ty,kb,_,rfl,iteF ?_⟩
    refine ⟨_,rfl,small1000' (by omega),sm,by omega,?_⟩
    rw [htk]
    exact hys.snoc (hP1.other nb)
  ·rintro ys H1 ⟨sm,hi,hys⟩ p hp
   have s1:=same_upd (o:=.lst ys) hp
   refine ⟨p,ys,rfl,.inl ⟨SqL.of upd_same,fun l hl=>?_⟩⟩
   have s2:=same_upd (o:=.tup ys) hl
   refine kq _ _ ((sm.trans s1).trans s2) (.mk upd_same ?_)
   rw [List.take_of_length_le (by omega)] at hys
   exact hys.kept (s1.trans s2).ls
noncomputable abbrev N_Zx:List Str:=["tree"]
theorem sc_Zx:FnScope N_Zx ["tree"] (defScope st_Zx):=⟨rfl,rfl,rfl,by decide +kernel,rfl,by decide +kernel,by decide +kernel⟩
theorem ok_shofS (T:All P w K mg AA DD) (k:Nat) (GS:FnOk P w K mg base CX0 (2*k+2) AA.Zh DD.Zh ["one"] (spShSt k)):FnOk P w K mg base CX0 (2*(k+1)+1) AA.Zx DD.Zx ["tree"] (spShOf (k+1)):=by
 refine T.F_Zx.ok sc_Zx (fun vs H Q E h=>?_) (fun cdv A outer s H vs Q E hr h=>?_)
 ·obtain ⟨l,xs,ts,rfl,_⟩:=h
  rfl
 ·obtain ⟨l,xs,ts,rfl,hl,hL,hd,h20,ha,kq⟩:=h
  have nd:=sc_Zx.nd
  have hrS:Room (2*k+2) _:=hr
  refine ⟨_,(@pss_one _ _ _ (@ps_ret _ _ _ _ (pe_comp (defScope st_Zx) N_Zx [] [] rfl (by exact ⟨rfl,rfl,by decide +kernel,rfl,by decide +kernel,by decide +kernel,by decide +kernel,rfl,by decide +kernel⟩) rfl rfl (pi_list (pv 0)) (fun _ _ _ _=>pif_nil) (fun _ _ _ _=>(@pe_tup _ _ _ _ _ (@pa_cons _ _ _ _ _ pe_int (@pa_cons _ _ _ _ _ (pe_call GS hrS rfl T.m_Zh T.k_Zh T.b_Zh .nil pass0 (@pa_cons _ _ _ _ _ (pv 0) pa_nil (by rfl))) pa_nil (by rfl)) (by rfl))))))),?_⟩
  refine ⟨_,rfl,l,rfl,⟨_,SqL.of hl⟩,?_⟩
  have hxl:=hL.length
  refine comp_list (K:=K) (a:=l) (xs:=xs) (fun i ys H'=>Same H H'/\i<=xs.length/\LAt H' true ys (ts.take i)) ⟨Same.refl _,Nat.zero_le _,by simpa using LAt.nil⟩ (fun i ys H' _ h=>SqL.of (h.1 _ _ hl)) ?_ ?_
  ·rintro i x ys H1 hx ⟨sm,hi,hys⟩
   obtain ⟨t,ht,hO⟩:=hL.get hx
   have hilt:=(List.getElem?_eq_some_iff.mp hx).1
   have hyl:=hys.length
   rw [List.length_take] at hyl
   have hil:i<ts.length:=by omega
   have htk:ts.take (i+1)=ts.take i++[t]:=by
    rw [List.take_succ_eq_append_getElem hil]
    rw [List.getElem?_eq_getElem hil] at ht
    rw [Option.some.inj ht]
   have hm:t∈ts:=List.mem_of_getElem? ht
   have hS:SAt H1 false x t:=by
    cases hO with
    | plain _ a=>exact a.kept sm.ls
    | shared e _ _=>cases e
   refine tYes_ok ?_
   rw [if_pos rfl]
   refine ⟨_,rfl,x,t,rfl,hS,by have:=deeps_mem hm;omega,ascs_mem ha hm,fun v' H2 s2 hS2=>?_⟩
   refine ⟨(by show 2<=sizeLine;decide),fun q hq=>?_⟩
   have s3:=same_upd (o:=.tup [.int 1,v']) hq
   refine ⟨small1000' (by omega),(sm.trans s2).trans s3,by omega,?_⟩
   rw [htk]
   exact (hys.kept (s2.trans s3).ls).snoc (.shared rfl upd_same (hS2.kept s3.ls))
  ·rintro ys H1 ⟨sm,hi,hys⟩ p hp
   have s1:=same_upd (o:=.lst ys) hp
   rw [List.take_of_length_le (by omega)] at hys
   exact kq p ys _ (sm.trans s1) upd_same (hys.kept s1.ls)
theorem ok_shof0 (T:All P w K mg AA DD):FnOk P w K mg base CX0 1 AA.Zx DD.Zx ["tree"] (spShOf 0):=by
 have no:∀ vs H Q E,¬ spShOf 0 vs H Q E:=fun vs H Q E h=>by
  obtain ⟨l,xs,ts,_,_,_,z,_⟩:=h
  omega
 exact T.F_Zx.ok sc_Zx (fun vs H Q E h=>(no _ _ _ _ h).elim) (fun cdv A outer s H vs Q E hr h=>(no _ _ _ _ h).elim)
theorem ok_shof (T:All P w K mg AA DD):∀ k:Nat,FnOk P w K mg base CX0 (2*k+1) AA.Zx DD.Zx ["tree"] (spShOf k)
 | 0=>ok_shof0 T
 | k+1=>ok_shofS T k (ok_shst T k (ok_shof T k))
end
section
variable {P:Program} {w:World} {K:PySem.W.Frag} {mg:Str->Option Value} {base:Heap} {AA:Adr} {DD:Fds}
theorem iteFb {c:Bool} {a b:Prop} (h:c=false) (k:b):if c=true then a else b:=by rw [h];exact k
theorem iteTb {c:Bool} {a b:Prop} (h:c=true) (k:a):if c=true then a else b:=by rw [h];exact k
noncomputable def spLeast1:Sp:=fun vs H Q _=>vs=[.int 1]/\Q (.int 0) H
theorem xor10:Builtin.bitXor (1:Int) (1-1)=1:=by decide +kernel
noncomputable abbrev N_ZQ:List Str:=["mask"]
theorem sc_ZQ:FnScope N_ZQ ["mask"] (defScope st_ZQ):=⟨rfl,rfl,rfl,by decide +kernel,rfl,by decide +kernel,by decide +kernel⟩
theorem ok_least1 (T:All P w K mg AA DD):FnOk P w K mg base CX0 1 AA.ZQ DD.ZQ ["mask"] spLeast1:=by
 refine T.F_ZQ.ok sc_ZQ (fun vs H Q E h=>?_) (fun cdv A outer s H vs Q E hr h=>?_)
 ·obtain ⟨rfl,_⟩:=h
  rfl
 ·obtain ⟨rfl,k⟩:=h
  have nd:=sc_ZQ.nd
  refine ⟨_,(@pss_cons _ _ _ _ _ (@ps_if _ _ _ _ _ _ _ _ (@pt_cmpR _ _ _ _ _ _ _ _ op_eq (pv 0) pe_int (nomark _)) (@pss_one _ _ _ (@ps_ret _ _ _ _ pe_non)) pss_nil) (@pss_one _ _ _ (@ps_ret _ _ _ _ (@pe_op _ _ _ _ _ _ _ _ op_sub (pe_bm0 PySem.F.plainAttrs_int PySem.F.slot_int_bit_length PySem.F.type_int_bit_length mt_bitlen (@pe_op _ _ _ _ _ _ _ _ op_xor (pv 0) (@pe_op _ _ _ _ _ _ _ _ op_sub (pv 0) pe_int))) pe_int)))),?_⟩
  refine ⟨_,rfl,rfl,_,rfl,iteF ?_⟩
  refine ⟨_,rfl,_,rfl,_,_,rfl,rfl,_,_,rfl,rfl,rfl,_,rfl,rfl,_,_,rfl,rfl,?_⟩
  rw [xor10]
  exact k
noncomputable def rowK (t:Tr):List Key:=[.inl ((t.row:Nat):Int),.inl 0]
noncomputable def spRL:Sp:=fun vs H Q _=>∃ (v:V) (t:Tr),vs=[v]/\OAt H true v t/\∀ q H',Same H H'->H' q=some (.tup ((rowK t).map kV))->Q (.ref q) H'
theorem part1 {H:Hp} {vs:List V} {t:Tr} (h:PsAt H true vs t.parts):∃ (a:V) (r:List V),vs=a::.int ((t.row:Nat):Int)::r:=by
 cases t<;>(cases h with | cons a b=>cases b with | cons c d=>cases c;exact ⟨_,_,rfl⟩)
noncomputable abbrev N_Zk:List Str:=["pair"]
theorem sc_Zk:FnScope N_Zk ["pair"] (defScope st_Zk):=⟨rfl,rfl,rfl,by decide +kernel,rfl,by decide +kernel,by decide +kernel⟩
theorem ok_rl (T:All P w K mg AA DD):FnOk P w K mg base CX0 2 AA.Zk DD.Zk ["pair"] spRL:=by
 have GL:=ok_least1 (base:=base) T
 refine T.F_Zk.ok sc_Zk (fun vs H Q E h=>?_) (fun cdv A outer s H vs Q E hr h=>?_)
 ·obtain ⟨v,t,rfl,_⟩:=h
  rfl
 ·obtain ⟨v,t,rfl,hO,k⟩:=h
  have nd:=sc_Zk.nd
  have hr1:Room 1 _:=hr
  refine ⟨_,(@pss_one _ _ _ (@ps_ret _ _ _ _ (@pe_tup _ _ _ _ _ (@pa_cons _ _ _ _ _ (@pe_ix _ _ _ _ _ _ _ (ix_tupK (K:=K) rfl) (@pe_ix _ _ _ _ _ _ _ (ix_tupK (K:=K) rfl) (pv 0) pe_int (fun _ _=>rfl)) pe_int (fun _ _=>rfl)) (@pa_cons _ _ _ _ _ (pe_call GL hr1 rfl T.m_ZQ T.k_ZQ T.b_ZQ .nil pass0 (@pa_cons _ _ _ _ _ (@pe_ix _ _ _ _ _ _ _ (ix_tupK (K:=K) rfl) (pv 0) pe_int (fun _ _=>rfl)) pa_nil (by rfl))) pa_nil (by rfl)) (by rfl))))),?_⟩
  cases hO with
  | plain e _=>cases e
  | @shared p x _ _ hp hS =>
  cases hS with
  | @mk t0 vs _ ht hps =>
  obtain ⟨a,r,rfl⟩:=part1 hps
  refine ⟨_,rfl,p,_,_,_,rfl,rfl,SqT.of hp,rfl,?_⟩
  refine ⟨t0,_,_,_,rfl,rfl,SqT.of ht,atI_nat (j:=1) rfl,?_⟩
  refine ⟨_,rfl,p,_,_,_,rfl,rfl,SqT.of hp,rfl,?_⟩
  refine ⟨rfl,(by show 2<=sizeLine;decide),fun q hq=>?_⟩
  exact k q _ (same_upd hq) upd_same
noncomputable def spKT (k:Nat):Sp:=fun vs H Q _=>∃ (l:Addr) (xs:List V) (ts:List Tr),vs=[.ref l,.int 1]/\H l=some (.lst xs)/\LAt H true xs ts/\deeps ts<k/\ts.length<=20/\ascs ts/\∀ p ys H',Same H H'->H' p=some (.lst ys)->LAt H' true ys ts->Q (.ref p) H'
noncomputable def spKS (k:Nat):Sp:=fun vs H Q _=>∃ (v:V) (t:Tr),vs=[v,.int 1]/\SAt H true v t/\t.deep<k/\t.asc/\∀ v' H',Same H H'->SAt H' true v' t->Q v' H'
noncomputable abbrev N_Zj:List Str:=["one","mask"]
theorem sc_Zj:FnScope N_Zj ["one","mask"] (defScope st_Zj):=⟨rfl,rfl,rfl,by decide +kernel,rfl,by decide +kernel,by decide +kernel⟩
theorem ok_kstS (T:All P w K mg AA DD) (k:Nat) (GF:FnOk P w K mg base CX0 (2*k+5) AA.Zw DD.Zw ["tree","mask"] (spKT k)):FnOk P w K mg base CX0 (2*k+6) AA.Zj DD.Zj ["one","mask"] (spKS k):=by
 refine T.F_Zj.ok sc_Zj (fun vs H Q E h=>?_) (fun cdv A outer s H vs Q E hr h=>?_)
 ·obtain ⟨v,t,rfl,_⟩:=h
  rfl
 ·obtain ⟨v,t,rfl,hS,hd,ha,kq⟩:=h
  have nd:=sc_Zj.nd
  have hrF:Room (2*k+5) _:=hr
  refine ⟨_,(@pss_one _ _ _ (@ps_ret _ _ _ _ (pe_callTy call_tuple_of rfl T.n_tuple bt_tuple (@pa_cons _ _ _ _ _ (pe_comp (defScope st_Zj) N_Zj ["mask"] [1] rfl (by exact ⟨rfl,rfl,by decide +kernel,rfl,by decide +kernel,by decide +kernel,by decide +kernel,rfl,by decide +kernel⟩) rfl rfl (pi_tup (pv 0)) (fun _ _ _ _=>pif_nil) (fun _ _ _ _=>(pe_ifExp (pt_val (pe_callB (call_isinstK (K:=K) (n:="list") rfl) rfl T.n_isinstance bt_isi (@pa_cons _ _ _ _ _ (pv 0) (@pa_cons _ _ _ _ _ (pe_bltn (v:=.ty "list") rfl T.n_list bt_list rfl) pa_nil (by rfl)) (by rfl)))) (pe_call GF hrF rfl T.m_Zw T.k_Zw T.b_Zw .nil pass0 (@pa_cons _ _ _ _ _ (pv 0) (@pa_cons _ _ _ _ _ (pv 1) pa_nil (by rfl)) (by rfl))) (pv 0)))) pa_nil (by rfl))))),?_⟩
  cases hS with
  | @mk t0 xs _ ht hps =>
  refine ⟨_,rfl,t0,rfl,⟨_,SqT.of ht⟩,?_⟩
  have hpl:=t.parts_len
  have hxl:=hps.length
  refine comp_tup (K:=K) (a:=t0) (xs:=xs) (fun i ys H'=>Same H H'/\i<=xs.length/\PsAt H' true ys (t.parts.take i)) ⟨Same.refl _,Nat.zero_le _,by simpa using PsAt.nil⟩ (fun i ys H' _ h=>SqT.of (h.1 _ _ ht)) ?_ ?_
  ·rintro i x ys H1 hx ⟨sm,hi,hys⟩
   obtain ⟨p,hp,hP⟩:=hps.get hx
   have hP1:=hP.kept sm.ls
   have hilt:=(List.getElem?_eq_some_iff.mp hx).1
   have hyl:=hys.length
   rw [List.length_take] at hyl
   have hil:i<t.parts.length:=by omega
   have htk:t.parts.take (i+1)=t.parts.take i++[p]:=by
    rw [List.take_succ_eq_append_getElem hil]
    rw [List.getElem?_eq_getElem hil] at hp
    rw [Option.some.inj hp]
   refine tYes_ok ?_
   rw [if_pos rfl]
   rcases hP1.isL (K:=K) with ⟨bs,l,zs,e1,e2,hl,hL,ty,kb⟩ | ⟨nb,ty0,ty,kb⟩
   ·subst e1 e2
    have hm:Part.b bs∈t.parts:=List.mem_of_getElem? hp
    refine ⟨_,rfl,_,_,true,rfl,ty,kb,_,rfl,iteT ?_⟩
    refine ⟨_,rfl,_,rfl,l,zs,bs,rfl,hl,hL,Nat.lt_of_le_of_lt (deep_part hm) hd,(asc_part ha hm).1,(asc_part ha hm).2,fun q us H2 s2 hq hL2=>?_⟩
    refine ⟨small1000' (by omega),sm.trans s2,by omega,?_⟩
    rw [htk]
    exact (hys.kept s2.ls).snoc (.b hq hL2)
   ·refine ⟨_,rfl,_,_,false,rfl,ty,kb,_,rfl,iteF ?_⟩
    refine ⟨_,rfl,small1000' (by omega),sm,by omega,?_⟩
    rw [htk]
    exact hys.snoc hP1
  ·rintro ys H1 ⟨sm,hi,hys⟩ p hp
   have s1:=same_upd (o:=.lst ys) hp
   refine ⟨p,ys,rfl,.inl ⟨SqL.of upd_same,fun l hl=>?_⟩⟩
   have s2:=same_upd (o:=.tup ys) hl
   refine kq _ _ ((sm.trans s1).trans s2) (.mk upd_same ?_)
   rw [List.take_of_length_le (by omega)] at hys
   exact hys.kept (s1.trans s2).ls
theorem and11:Builtin.bitAnd (1:Int) 1=1:=by decide +kernel
theorem ascs_rows:∀ {ts:List Tr},ascs ts->∀ {i:Nat} {a b:Tr},ts[i]?=some a->ts[i+1]?=some b->a.row<b.row
 | t::ts,h,0,a,b,h1,h2=>by
  cases (show some t=some a from h1)
  exact h.2.1 b (List.mem_of_getElem? (show ts[0]?=some b from h2))
 | t::ts,h,i+1,a,b,h1,h2=>ascs_rows h.2.2 (show ts[i]?=some a from h1) (show ts[i+1]?=some b from h2)
theorem rows_srt {ts:List Tr} {ys:List V} (h64:ts.length<=20) (h:ascs ts) (hl:ys.length=ts.length):srt (ts.map rowK) ys=ys:=by
 refine srt_asc (by rw [List.length_map];omega) (by simp [hl]) fun i hi=>?_
 rw [List.length_map] at hi
 have hi':i<ts.length:=by omega
 have e1:(ts.map rowK).getD (i+1) []=rowK ts[i+1]:=by simp [List.getD_eq_getElem?_getD,hi]
 have e2:(ts.map rowK).getD i []=rowK ts[i]:=by simp [List.getD_eq_getElem?_getD,hi']
 have hr:=ascs_rows h (List.getElem?_eq_getElem hi') (List.getElem?_eq_getElem hi)
 rw [e1,e2]
 show (if (Sum.inl ((ts[i+1].row:Nat):Int):Key)=Sum.inl ((ts[i].row:Nat):Int) then _ else ltK (Sum.inl ((ts[i+1].row:Nat):Int)) (Sum.inl ((ts[i].row:Nat):Int)))=false
 rw [if_neg (fun z=>by injection z with z;omega)]
 show decide (((ts[i+1].row:Nat):Int)<((ts[i].row:Nat):Int))=false
 exact decide_eq_false (by omega)
noncomputable abbrev N_Zw:List Str:=["tree","mask","kept"]
theorem sc_Zw:FnScope N_Zw ["tree","mask"] (defScope st_Zw):=⟨rfl,rfl,rfl,by decide +kernel,rfl,by decide +kernel,by decide +kernel⟩
theorem ok_ktS (T:All P w K mg AA DD) (k:Nat) (GS:FnOk P w K mg base CX0 (2*k+6) AA.Zj DD.Zj ["one","mask"] (spKS k)):FnOk P w K mg base CX0 (2*(k+1)+5) AA.Zw DD.Zw ["tree","mask"] (spKT (k+1)):=by
 have GR:=ok_rl (base:=base) T
 refine T.F_Zw.ok sc_Zw (fun vs H Q E h=>?_) (fun cdv A outer s H vs Q E hr h=>?_)
 ·obtain ⟨l,xs,ts,rfl,_⟩:=h
  rfl
 ·obtain ⟨l,xs,ts,rfl,hl,hL,hd,h20,ha,kq⟩:=h
  have nd:=sc_Zw.nd
  have hrS:Room (2*k+6) _:=hr
  have hr4:Room 4 _:=hrS.mono (by omega)
  refine ⟨_,(@pss_cons _ _ _ _ _ (ps_setcomp2 (i:=2) (xs:=["there","one"]) (defScope st_Zw) N_Zw ["mask"] [1] rfl (by exact ⟨rfl,rfl,by decide +kernel,by decide +kernel,by decide +kernel,by decide +kernel,by decide +kernel,rfl,by decide +kernel⟩) rfl rfl (pi_list (pv 0)) (fun _ _ _ _=>(pg_tupK (K:=K) (n:=2) rfl rfl (pgs_cons (pg_name (i:=0) (show (["there","one","mask"]:List Str).Nodup by decide +kernel) rfl (Or.inl rfl)) (pgs_cons (pg_name (i:=1) (show (["there","one","mask"]:List Str).Nodup by decide +kernel) rfl (Or.inl rfl)) pgs_nil)))) (fun _ _ _ _=>pif_one (pt_cmpR op_ne (pe_op op_and (pv 0) (pv 2)) pe_int (nomark _))) (fun _ _ _ _=>(@pe_tup _ _ _ _ _ (@pa_cons _ _ _ _ _ (@pe_op _ _ _ _ _ _ _ _ op_and (pv 0) (pv 2)) (@pa_cons _ _ _ _ _ (pe_call GS hrS rfl T.m_Zj T.k_Zj T.b_Zj .nil pass0 (@pa_cons _ _ _ _ _ (pv 1) (@pa_cons _ _ _ _ _ (pv 2) pa_nil (by rfl)) (by rfl))) pa_nil (by rfl)) (by rfl)))) nd rfl rfl rfl) (@pss_one _ _ _ (@ps_ret _ _ _ _ (pe_sortKT (K:=K) rfl GR hr4 T.b_Zk .nil rfl T.n_sorted rfl T.m_Zk (pv 2))))),?_⟩
  refine ⟨_,rfl,l,rfl,⟨_,SqL.of hl⟩,?_⟩
  have hxl:=hL.length
  refine comp2_list (K:=K) (a:=l) (xs:=xs) (fun i ys H'=>Same H H'/\i<=xs.length/\LAt H' true ys (ts.take i)) ⟨Same.refl _,Nat.zero_le _,by simpa using LAt.nil⟩ (fun i ys H' _ h=>SqL.of (h.1 _ _ hl)) ?_ ?_
  ·rintro i x ys H1 hx ⟨sm,hi,hys⟩
   obtain ⟨t,ht,hO⟩:=hL.get hx
   have hO:=hO.kept sm.ls
   have hilt:=(List.getElem?_eq_some_iff.mp hx).1
   have hyl:=hys.length
   rw [List.length_take] at hyl
   have hil:i<ts.length:=by omega
   have htk:ts.take (i+1)=ts.take i++[t]:=by
    rw [List.take_succ_eq_append_getElem hil]
    rw [List.getElem?_eq_getElem hil] at ht
    rw [Option.some.inj ht]
   have hm:t∈ts:=List.mem_of_getElem? ht
   cases hO with
   | plain e _=>cases e
   | @shared q y _ _ hq hS =>
   intro os hos
   obtain ⟨a,b,rfl⟩:∃ a b,os=[a,b]:=by
    match os,hos with
    | [a,b],_=>exact ⟨a,b,rfl⟩
   refine ⟨q,_,rfl,SqT.of hq,rfl,_,_,rfl,_,_,rfl,rfl,⟨[_,_],rfl,rfl⟩,?_⟩
   refine ⟨_,rfl,_,rfl,_,_,rfl,rfl,rfl,_,rfl,?_⟩
   refine iteTb (by
     show (!decide (V.int (Builtin.bitAnd 1 1)=V.int 0))=true
     rw [and11];rfl) ?_
   refine ⟨_,rfl,_,rfl,_,_,rfl,rfl,_,rfl,_,rfl,y,t,rfl,hS,by have:=deeps_mem hm;omega,ascs_mem ha hm,fun v' H2 s2 hS2=>?_⟩
   refine ⟨(by show 2<=sizeLine;decide),fun q2 hq2=>?_⟩
   dsimp only
   rw [and11]
   have s3:=same_upd (o:=.tup [.int 1,v']) hq2
   refine ⟨small1000' (by omega),(sm.trans s2).trans s3,by omega,?_⟩
   rw [htk]
   exact (hys.kept (s2.trans s3).ls).snoc (.shared rfl upd_same (hS2.kept s3.ls))
  ·rintro ys H1 ⟨sm,hi,hys⟩ p hp
   have s1:=same_upd (o:=.lst ys) hp
   rw [List.take_of_length_le (by omega)] at hys
   have hyl:=hys.length
   have hys1:=hys.kept s1.ls
   refine ⟨_,rfl,p,ys,ts.map rowK,[true,true],rfl,SqL.of upd_same,by omega,by simp [hyl],fun d hd=>?_,by simp,fun i x d H' s2 hx hd Q' kQ=>?_,fun q H' s2 hq=>?_⟩
   ·obtain ⟨t,_,rfl⟩:=List.mem_map.mp hd
    rfl
   ·obtain ⟨t,ht,hO⟩:=hys1.get hx
    rw [List.getElem?_map,ht] at hd
    cases (show some (rowK t)=some d from hd)
    exact ⟨x,t,rfl,hO.kept s2.ls,fun q H2 s3 hq=>kQ q H2 s3 hq⟩
   ·rw [rows_srt (by omega) ha hyl]
    have s3:=same_upd (o:=.lst ys) hq
    exact kq q ys _ (((sm.trans s1).trans s2).trans s3) upd_same (hys1.kept (s2.trans s3).ls)
theorem ok_kt0 (T:All P w K mg AA DD):FnOk P w K mg base CX0 5 AA.Zw DD.Zw ["tree","mask"] (spKT 0):=by
 have no:∀ vs H Q E,¬ spKT 0 vs H Q E:=fun vs H Q E h=>by
  obtain ⟨l,xs,ts,_,_,_,z,_⟩:=h
  omega
 exact T.F_Zw.ok sc_Zw (fun vs H Q E h=>(no _ _ _ _ h).elim) (fun cdv A outer s H vs Q E hr h=>(no _ _ _ _ h).elim)
theorem ok_kt (T:All P w K mg AA DD):∀ k:Nat,FnOk P w K mg base CX0 (2*k+5) AA.Zw DD.Zw ["tree","mask"] (spKT k)
 | 0=>ok_kt0 T
 | k+1=>ok_ktS T k (ok_kstS T k (ok_kt T k))
end
section
variable {P:Program} {w:World} {K:PySem.W.Frag} {mg:Str->Option Value} {base:Heap} {AA:Adr} {DD:Fds}
theorem ls_upd {H:Hp} {d:Addr} {ob ob':HO} (h:H d=some ob) (n1:∀ xs,ob≠.tup xs) (n2:∀ xs,ob≠.lst xs) (n3:∀ o x,ob≠.frz o x):LsS H (upd H d ob') :=
 ⟨fun b xs e=>(by rw [upd_ne (fun z=>by rw [z,h] at e;exact n1 _ (Option.some.inj e))];exact e),fun b xs e=>(by rw [upd_ne (fun z=>by rw [z,h] at e;exact n2 _ (Option.some.inj e))];exact e),fun b o xs e=>by rw [upd_ne (fun z=>by rw [z,h] at e;exact n3 _ _ (Option.some.inj e))];exact e⟩
noncomputable def ones (fs:List (List Key)):List (List Key × V):=fs.map fun k=>(k,.int 1)
noncomputable def addF (fs:List (List Key)) (k:List Key):List (List Key):=if (fs.any fun d=>decide (d=k))=true then fs else fs++[k]
theorem ones_any (fs:List (List Key)) (k:List Key):((ones fs).any fun kv=>decide (kv.1=k))=fs.any fun d=>decide (d=k):=by
 unfold ones
 rw [List.any_map]
 rfl
theorem ones_put (fs:List (List Key)) (k:List Key):putK (ones fs) k (.int 1)=ones (addF fs k):=by
 unfold putK addF
 rw [ones_any]
 split
 ·unfold ones
  rw [List.map_map]
  refine List.map_congr_left fun d _=>?_
  show (if d=k then (d,V.int 1) else (d,V.int 1))=_
  split<;>rfl
 ·unfold ones
  rw [List.map_append]
  rfl
theorem ones_val (fs:List (List Key)) (k:List Key):valV (ones fs) k=if (fs.any fun d=>decide (d=k))=true then some (.int 1) else none:=by
 have h:=valV_any k (ones fs)
 rw [ones_any] at h
 cases e:valV (ones fs) k with
 | none=>rw [e] at h;rw [h];rfl
 | some v =>
  rw [e] at h
  rw [h]
  have hm:∃ d,(d,v)∈ones fs:=by
   unfold valV at e
   obtain ⟨q,hq,rfl⟩:=Option.map_eq_some_iff.mp e
   exact ⟨q.1,List.mem_of_find?_eq_some hq⟩
  obtain ⟨d,hd⟩:=hm
  obtain ⟨y,_,hy⟩:=List.mem_map.mp hd
  have:v=.int 1:=(Prod.mk.inj hy).2.symm
  rw [this]
  rfl
noncomputable def spWithout:Sp:=fun vs H Q _=>∃ m o:Nat,vs=[.int m,.int o]/\Q (.int ((m ^^^ (m &&& o):Nat):Int)) H
noncomputable abbrev N_ZK:List Str:=["mask","other"]
theorem sc_ZK:FnScope N_ZK ["mask","other"] (defScope st_ZK):=⟨rfl,rfl,rfl,by decide +kernel,rfl,by decide +kernel,by decide +kernel⟩
theorem ok_ZK (T:All P w K mg AA DD):FnOk P w K mg base CX0 1 AA.ZK DD.ZK ["mask","other"] spWithout:=by
 refine T.F_ZK.ok sc_ZK (fun vs H Q E h=>?_) (fun cdv A outer s H vs Q E hr h=>?_)
 ·obtain ⟨m,o,rfl,_⟩:=h
  rfl
 ·obtain ⟨m,o,rfl,k⟩:=h
  have nd:=sc_ZK.nd
  refine ⟨_,(@pss_one _ _ _ (@ps_ret _ _ _ _ (@pe_op _ _ _ _ _ _ _ _ op_xor (pv 0) (@pe_op _ _ _ _ _ _ _ _ op_and (pv 0) (pv 1))))),?_⟩
  refine ⟨_,rfl,_,rfl,_,rfl,_,_,rfl,rfl,_,_,rfl,rfl,?_⟩
  dsimp only
  rw [bitAnd_nat,bitXor_nat]
  exact k
noncomputable def spAdd:Sp:=fun vs H Q _=>∃ (d:Addr) (y:V) (m:Nat),vs=[.ref d,y,.int ((m:Nat):Int)]/\IsD H d/\((m=0/\Q .non H)∨(m=1/\∃ o H',DGet H d y o/\(o=none∨o=some (.int 1))/\DPut H d y (.int 1) H'/\Q .non H'))
theorem or01:Builtin.bitOr (0:Int) 1=1:=by decide +kernel
noncomputable abbrev N_ZO:List Str:=["found","key","mask"]
theorem sc_ZO:FnScope N_ZO ["found","key","mask"] (defScope st_ZO):=⟨rfl,rfl,rfl,by decide +kernel,rfl,by decide +kernel,by decide +kernel⟩
theorem ok_add (T:All P w K mg AA DD):FnOk P w K mg base CX0 1 AA.ZO DD.ZO ["found","key","mask"] spAdd:=by
 refine T.F_ZO.ok sc_ZO (fun vs H Q E h=>?_) (fun cdv A outer s H vs Q E hr h=>?_)
 ·obtain ⟨d,y,m,rfl,_⟩:=h
  rfl
 ·obtain ⟨d,y,m,rfl,hI,h⟩:=h
  have nd:=sc_ZO.nd
  have hu:_+1<cLine:=Nat.lt_of_le_of_lt (Nat.add_le_add_left (show 1<=16*0+200 by decide) _) (by have:=hr.un;omega)
  refine ⟨_,(@pss_one _ _ _ (@ps_if _ _ _ _ _ _ _ _ (@pt_cmpR _ _ _ _ _ _ _ _ op_ne (pv 2) pe_int (nomark _)) (@pss_one _ _ _ (ps_dput hu (pv 0) (pv 1) (@pe_op _ _ _ _ _ _ _ _ op_or (pe_dget2 hu (pv 0) (pv 1) pe_int ⟨by rfl,by rfl,by rfl,by rfl⟩) (pv 2)) rfl)) pss_nil)),?_⟩
  refine ⟨_,rfl,rfl,_,rfl,?_⟩
  rcases h with ⟨rfl,k⟩ | ⟨rfl,o,H',g,ho,hp,k⟩
  ·exact iteF k
  ·refine iteT ?_
   refine ⟨_,rfl,d,rfl,hI,_,rfl,o,g,?_⟩
   have e:o.getD (V.int 0)=.int 0∨o.getD (V.int 0)=.int 1:=by
    rcases ho with z | z<;>rw [z]
    ·exact .inl rfl
    ·exact .inr rfl
   rcases e with e | e<;>rw [e]
   ·refine ⟨_,rfl,_,_,rfl,rfl,?_⟩
    show ∃ _,_
    refine ⟨_,rfl,_,rfl,d,H',rfl,?_,k⟩
    have:=or01
    exact hp
   ·refine ⟨_,rfl,_,_,rfl,rfl,?_⟩
    refine ⟨_,rfl,_,rfl,d,H',rfl,?_,k⟩
    exact hp
end
section
variable {P:Program} {w:World} {K:PySem.W.Frag} {mg:Str->Option Value} {base:Heap} {AA:Adr} {DD:Fds}
noncomputable def _root_.Mm.Ex.bas:Ex->Prop
 | .op w _ _=>w∈ops7/\True
 | .of _ _=>False
 | .many _ _ _=>False
 | _=>True
noncomputable def _root_.Mm.Ex.kids:Ex->List Ex
 | .not e=>[e]
 | .op _ a b=>[a,b]
 | _=>[]
noncomputable def spEI:Sp:=fun vs H Q _=>∃ (v:V) (e:Ex),vs=[v]/\ExAt H v e/\e.bas/\∀ t ys H',Same H H'->H' t=some (.tup ys)->ExsAt H' ys e.kids->Q (.ref t) H'
noncomputable def leafs:List Str:=["num","truth","name"]
noncomputable def uses:List Str:=["do","new"]
theorem ops_not:∀ z∈ops7,z∉leafs/\z∉uses/\z≠"of"/\z≠"name"/\z≠"do"/\z≠"new":=by decide +kernel
theorem not_not:("not":Str)∉leafs/\("not":Str)∉uses/\("not":Str)≠"of"/\("not":Str)≠"name"/\("not":Str)≠"do"/\("not":Str)≠"new":=by decide +kernel
theorem ex_head {H:Hp} {v:V} {e:Ex} (h:ExAt H v e) (hp:e.bas):∃ (t:Addr) (z:Str) (ys:List V),v=.ref t/\H t=some (.tup (.str z::ys))/\((z∈leafs/\e.kids=[]) ∨
  (z∉leafs/\z∉uses/\z≠"of"/\z≠"name"/\z≠"do"/\z≠"new")/\ExsAt H ys e.kids/\ys.length<=2/\ys≠[]):=by
 cases h with
 | num h=>exact ⟨_,_,_,rfl,h,.inl ⟨by decide,rfl⟩⟩
 | truth h=>exact ⟨_,_,_,rfl,h,.inl ⟨by decide,rfl⟩⟩
 | name h=>exact ⟨_,_,_,rfl,h,.inl ⟨by decide,rfl⟩⟩
 | not h a=>exact ⟨_,_,_,rfl,h,.inr ⟨not_not,.cons a .nil,by simp,by simp⟩⟩
 | op h a b=>exact ⟨_,_,_,rfl,h,.inr ⟨ops_not _ hp.1,.cons a (.cons b .nil),by simp,by simp⟩⟩
 | of h a=>exact hp.elim
 | many h l a=>exact hp.elim
theorem cut_tail (a:V) (ys:List V):cutV (a::ys) (some 1) none=ys:=by
 unfold cutV
 have h1:HT.sIx (a::ys).length 0 (some 1)=1:=by simp [HT.sIx]
 have h2:HT.sIx (a::ys).length (a::ys).length none=ys.length+1:=by simp [HT.sIx]
 rw [h1,h2]
 simp
theorem inV_strs (z:Str) (l:List Str):inV (.str z) (l.map V.str)=decide (z∈l):=by
 induction l with
 | nil=>rfl
 | cons a r ih =>
  show ((a == z)||inV (.str z) (r.map V.str))=_
  rw [ih]
  by_cases h:a=z
  ·subst h;simp
  ·have:¬ z=a:=fun e=>h e.symm
   simp [h,this]
theorem in_strs {z:Str} {zs:List Str} {b:Bool} (h:decide (z∈zs)=b):(if false=true then !inV (V.str z) (zs.map V.str) else inV (V.str z) (zs.map V.str))=b:=by
 rw [<- h]
 exact inV_strs _ _
noncomputable abbrev N_ZF:List Str:=["e"]
theorem sc_ZF:FnScope N_ZF ["e"] (defScope st_ZF):=⟨rfl,rfl,rfl,by decide +kernel,rfl,by decide +kernel,by decide +kernel⟩
theorem ok_ei (T:All P w K mg AA DD):FnOk P w K mg base CX0 1 AA.ZF DD.ZF ["e"] spEI:=by
 refine T.F_ZF.ok sc_ZF (fun vs H Q E h=>?_) (fun cdv A outer s H vs Q E hr h=>?_)
 ·obtain ⟨v,e,rfl,_⟩:=h
  rfl
 ·obtain ⟨v,e,rfl,hE,hpl,k⟩:=h
  have nd:=sc_ZF.nd
  refine ⟨_,(@pss_cons _ _ _ _ _ (@ps_if _ _ _ _ _ _ _ _ (@pt_cmpR _ _ _ _ _ _ _ _ (op_in_seqK (K:=K) rfl) (@pe_ix _ _ _ _ _ _ _ (ix_tupK (K:=K) rfl) (pv 0) pe_int (fun _ _=>rfl)) (@pe_tup _ _ _ _ _ (@pa_cons _ _ _ _ _ pe_str (@pa_cons _ _ _ _ _ pe_str (@pa_cons _ _ _ _ _ pe_str pa_nil (by rfl)) (by rfl)) (by rfl))) rfl) (@pss_one _ _ _ (@ps_ret _ _ _ _ (@pe_tup _ _ _ _ _ pa_nil))) pss_nil) (@pss_cons _ _ _ _ _ (@ps_if _ _ _ _ _ _ _ _ (@pt_cmpR _ _ _ _ _ _ _ _ (op_in_seqK (K:=K) rfl) (@pe_ix _ _ _ _ _ _ _ (ix_tupK (K:=K) rfl) (pv 0) pe_int (fun _ _=>rfl)) (@pe_tup _ _ _ _ _ (@pa_cons _ _ _ _ _ pe_str (@pa_cons _ _ _ _ _ pe_str pa_nil (by rfl)) (by rfl))) rfl) (@pss_one _ _ _ (@ps_ret _ _ _ _ (@pe_ix _ _ _ _ _ _ _ (ix_tupK (K:=K) rfl) (pv 0) pe_int (fun _ _=>rfl)))) pss_nil) (@pss_cons _ _ _ _ _ (@ps_if _ _ _ _ _ _ _ _ (@pt_cmpR _ _ _ _ _ _ _ _ op_eq (@pe_ix _ _ _ _ _ _ _ (ix_tupK (K:=K) rfl) (pv 0) pe_int (fun _ _=>rfl)) pe_str (nomark _)) (@pss_one _ _ _ (@ps_ret _ _ _ _ (@pe_tup _ _ _ _ _ (@pa_cons _ _ _ _ _ (@pe_ix _ _ _ _ _ _ _ (ix_tupK (K:=K) rfl) (pv 0) pe_int (fun _ _=>rfl)) pa_nil (by rfl))))) pss_nil) (@pss_one _ _ _ (@ps_ret _ _ _ _ (pe_slice sl_tup (pv 0) (po_some pe_int) po_none)))))),?_⟩
  obtain ⟨t,z,ys,rfl,ht,hc⟩:=ex_head hE hpl
  refine ⟨_,rfl,t,_,_,_,rfl,rfl,SqT.of ht,atI_nat (j:=0) rfl,(by show 3<=sizeLine;decide),fun pt hpt=>⟨pt,leafs.map V.str,rfl,.inr (SqT.of upd_same),rfl,rfl,_,rfl,?_⟩⟩
  have s1:=same_upd (o:=.tup (leafs.map V.str)) hpt
  have ht1:=s1 _ _ ht
  change if _=true then _ else _
  generalize hH1:upd H pt _=H1
  have s1:Same H H1:=by rw [<- hH1];exact same_upd hpt
  have ht1:=s1 _ _ ht
  rcases hc with ⟨hz,hk⟩ | ⟨⟨n1,n2,n3,_⟩,hk,hl,hn⟩
  ·rw [in_strs (decide_eq_true hz)]
   refine iteT ?_
   refine ⟨(by show 0<=sizeLine;decide),fun p hp=>?_⟩
   exact k p _ _ (s1.trans (same_upd hp)) upd_same (by rw [hk];exact .nil)
  ·rw [in_strs (decide_eq_false n1)]
   refine iteF ?_
   refine ⟨_,rfl,t,_,_,_,rfl,rfl,SqT.of ht1,atI_nat (j:=0) rfl,(by show 2<=sizeLine;decide),fun pu hpu=>⟨pu,uses.map V.str,rfl,.inr (SqT.of upd_same),rfl,rfl,_,rfl,?_⟩⟩
   change if _=true then _ else _
   generalize hH2:upd H1 pu _=H2
   have s2:Same H1 H2:=by rw [<- hH2];exact same_upd hpu
   have ht2:=s2 _ _ ht1
   rw [in_strs (decide_eq_false n2)]
   refine iteF ?_
   refine ⟨_,rfl,t,_,_,_,rfl,rfl,SqT.of ht2,atI_nat (j:=0) rfl,rfl,_,rfl,?_⟩
   refine iteFb (decide_eq_false fun q=>n3 (by injection q)) ?_
   refine ⟨_,rfl,_,rfl,t,_,rfl,SqT.of ht2,?_,fun p hp=>?_⟩
   ·rintro ⟨q,_⟩
    simp [HT.sIx] at q
   rw [cut_tail]
   exact k p _ _ ((s1.trans s2).trans (same_upd hp)) upd_same ((hk.kept ((s1.trans s2).trans (same_upd hp)).tups))
end
section
variable {P:Program} {w:World} {K:PySem.W.Frag} {mg:Str->Option Value} {base:Heap} {AA:Adr} {DD:Fds}
noncomputable def _root_.Mm.Tr.kw:Tr->Str
 | .set _ _ _=>"set"
 | .tell _ _=>"tell"
 | .iff _ _ _ _=>"if"
 | .whl _ _ _=>"while"
 | .give _ _=>"give"
 | .df _ _ _ _ _=>"def"
 | .kd _ _ _=>"kind"
noncomputable def _root_.Mm.Tr.ex:Tr->Option Ex
 | .set _ _ e=>some e
 | .tell _ e=>some e
 | .iff _ e _ _=>some e
 | .whl _ e _=>some e
 | .give _ e=>some e
 | .df _ _ _ _ _=>none
 | .kd _ _ _=>none
noncomputable def _root_.Mm.Tr.blocks:Tr->List (List Tr)
 | .iff _ _ b o=>[b,o]
 | .whl _ _ b=>[b]
 | .df _ _ _ _ b=>[b]
 | _=>[]
noncomputable def isB:Part->Bool
 | .b _=>true
 | _=>false
theorem parts_b (t:Tr):t.parts.filter isB=t.blocks.map Part.b:=by cases t<;>rfl
theorem cnt_b (t:Tr):t.cnt=1+(t.blocks.map cnts).sum:=by
 cases t<;>simp [Tr.cnt,Tr.blocks]
theorem kw_not {t:Tr} {e:Ex} (h:t.ex=some e):t.kw≠"def"/\t.kw≠"kind":=by cases t<;>first | (simp only [Tr.kw];decide +kernel) | cases h
theorem st_head {H:Hp} {sh:Bool} {vs:List V} {t:Tr} (h:PsAt H sh vs t.parts):∃ (r:List V),vs=.str t.kw::.int ((t.row:Nat):Int)::r:=by
 have g:∃ ps,t.parts=.s t.kw::.i t.row::ps:=by cases t<;>exact ⟨_,rfl⟩
 obtain ⟨ps,e⟩:=g
 rw [e] at h
 obtain ⟨r,e2,_⟩:=ps_two h
 exact ⟨r,e2⟩
noncomputable def spEO:Sp:=fun vs H Q _=>∃ (v:V) (t:Tr) (e:Ex),vs=[v]/\SAt H true v t/\t.ex=some e/\∀ x,ExAt H x e->Q x H
noncomputable abbrev N_ZL:List Str:=["one"]
theorem sc_ZL:FnScope N_ZL ["one"] (defScope st_ZL):=⟨rfl,rfl,rfl,by decide +kernel,rfl,by decide +kernel,by decide +kernel⟩
theorem ok_eo (T:All P w K mg AA DD):FnOk P w K mg base CX0 1 AA.ZL DD.ZL ["one"] spEO:=by
 refine T.F_ZL.ok sc_ZL (fun vs H Q E h=>?_) (fun cdv A outer s H vs Q E hr h=>?_)
 ·obtain ⟨v,t,e0,rfl,_⟩:=h
  rfl
 ·obtain ⟨v,t,e0,rfl,hS,hx0,k⟩:=h
  have nd:=sc_ZL.nd
  obtain ⟨t0,vs,j,x,ev,ht,h0,hj,hx,hb⟩:∃ t0 vs j x,v=.ref t0/\H t0=some (.tup vs)/\vs[0]?=some (.str t.kw)/\vs[j]?=some x/\ExAt H x e0/\((t.kw="set"/\j=3)∨(t.kw≠"set"/\j=2)):=by
   cases t with
   | set r n e=>cases hx0;obtain ⟨t0,ve,e1,ht,hx⟩:=s_set hS;exact ⟨t0,_,3,ve,e1,ht,rfl,rfl,hx,.inl ⟨rfl,rfl⟩⟩
   | tell r e=>cases hx0;obtain ⟨t0,ve,e1,ht,hx⟩:=s_tell hS;exact ⟨t0,_,2,ve,e1,ht,rfl,rfl,hx,.inr ⟨by show ("tell":Str)≠"set";decide,rfl⟩⟩
   | iff r e b o=>cases hx0;obtain ⟨t0,ve,_,_,_,_,e1,ht,hx,_⟩:=s_iff hS;exact ⟨t0,_,2,ve,e1,ht,rfl,rfl,hx,.inr ⟨by show ("if":Str)≠"set";decide,rfl⟩⟩
   | whl r e b=>cases hx0;obtain ⟨t0,ve,_,_,e1,ht,hx,_⟩:=s_whl hS;exact ⟨t0,_,2,ve,e1,ht,rfl,rfl,hx,.inr ⟨by show ("while":Str)≠"set";decide,rfl⟩⟩
   | give r e=>cases hx0;obtain ⟨t0,ve,e1,ht,hx⟩:=s_give hS;exact ⟨t0,_,2,ve,e1,ht,rfl,rfl,hx,.inr ⟨by show ("give":Str)≠"set";decide,rfl⟩⟩
   | df r n k ps b=>cases hx0
   | kd r n ps=>cases hx0
  subst ev
  refine ⟨_,(@pss_one _ _ _ (@ps_ret _ _ _ _ (pe_ifExp (@pt_cmpR _ _ _ _ _ _ _ _ op_eq (@pe_ix _ _ _ _ _ _ _ (ix_tupK (K:=K) rfl) (pv 0) pe_int (fun _ _=>rfl)) pe_str (nomark _)) (@pe_ix _ _ _ _ _ _ _ (ix_tupK (K:=K) rfl) (pv 0) pe_int (fun _ _=>rfl)) (@pe_ix _ _ _ _ _ _ _ (ix_tupK (K:=K) rfl) (pv 0) pe_int (fun _ _=>rfl))))),?_⟩
  refine ⟨_,rfl,t0,_,_,_,rfl,rfl,SqT.of ht,atI_nat (j:=0) h0,rfl,_,rfl,?_⟩
  rcases hb with ⟨hw,e⟩ | ⟨hw,e⟩<;>subst e
  ·exact iteTb (decide_eq_true (by rw [hw])) ⟨_,rfl,t0,_,_,_,rfl,rfl,SqT.of ht,atI_nat (j:=3) hj,k _ hx⟩
  ·exact iteFb (decide_eq_false fun z=>hw (by injection z)) ⟨_,rfl,t0,_,_,_,rfl,rfl,SqT.of ht,atI_nat (j:=2) hj,k _ hx⟩
noncomputable def spBO:Sp:=fun vs H Q _=>∃ (v:V) (t:Tr),vs=[v]/\SAt H true v t/\∀ p ys H',Same H H'->H' p=some (.lst ys)->PsAt H' true ys (t.blocks.map Part.b)->Q (.ref p) H'
noncomputable abbrev N_Zy:List Str:=["one"]
theorem sc_Zy:FnScope N_Zy ["one"] (defScope st_Zy):=⟨rfl,rfl,rfl,by decide +kernel,rfl,by decide +kernel,by decide +kernel⟩
theorem ok_bo (T:All P w K mg AA DD):FnOk P w K mg base CX0 1 AA.Zy DD.Zy ["one"] spBO:=by
 refine T.F_Zy.ok sc_Zy (fun vs H Q E h=>?_) (fun cdv A outer s H vs Q E hr h=>?_)
 ·obtain ⟨v,t,rfl,_⟩:=h
  rfl
 ·obtain ⟨v,t,rfl,hS,k⟩:=h
  have nd:=sc_Zy.nd
  refine ⟨_,(@pss_one _ _ _ (@ps_ret _ _ _ _ (pe_comp (defScope st_Zy) N_Zy [] [] rfl (by exact ⟨rfl,rfl,by decide +kernel,rfl,by decide +kernel,by decide +kernel,by decide +kernel,rfl,by decide +kernel⟩) rfl rfl (pi_tup (pv 0)) (fun _ _ _ _=>pif_one (pt_val (pe_callB (call_isinstK (K:=K) (n:="list") rfl) rfl T.n_isinstance bt_isi (pa_cons (pv 0) (pa_cons (pe_bltn (v:=.ty "list") rfl T.n_list bt_list rfl) pa_nil))))) (fun _ _ _ _=>(pv 0))))),?_⟩
  cases hS with
  | @mk t0 xs _ ht hps =>
  refine ⟨_,rfl,t0,rfl,⟨_,SqT.of ht⟩,?_⟩
  have hpl:=t.parts_len
  have hxl:=hps.length
  refine comp_tup (K:=K) (a:=t0) (xs:=xs) (fun i ys H'=>H'=H/\i<=xs.length/\ys.length<=i/\PsAt H true ys ((t.parts.take i).filter isB)) ⟨rfl,Nat.zero_le _,Nat.zero_le _,by simpa using PsAt.nil⟩ (fun i ys H' _ h=>by rw [h.1];exact SqT.of ht) ?_ ?_
  ·rintro i x ys H1 hx ⟨rfl,hi,hy,hys⟩
   obtain ⟨p,hp,hP⟩:=hps.get hx
   have hilt:=(List.getElem?_eq_some_iff.mp hx).1
   have hil:i<t.parts.length:=by omega
   have htk:(t.parts.take (i+1)).filter isB=(t.parts.take i).filter isB++[p].filter isB:=by
    rw [List.take_succ_eq_append_getElem hil,List.filter_append]
    rw [List.getElem?_eq_getElem hil] at hp
    rw [Option.some.inj hp]
   rcases hP.isL (K:=K) with ⟨bs,l,zs,e1,e2,hl,hL,ty,kb⟩ | ⟨nb,ty0,ty,kb⟩
   ·subst e1 e2
    refine ⟨_,rfl,_,_,true,rfl,ty,kb,_,rfl,iteT ?_⟩
    refine ⟨_,rfl,small1000' (by omega),rfl,by omega,by simp;omega,?_⟩
    rw [htk]
    exact hys.snoc hP
   ·refine ⟨_,rfl,_,_,false,rfl,ty,kb,_,rfl,iteF ?_⟩
    refine ⟨rfl,by omega,by omega,?_⟩
    rw [htk]
    have:[p].filter isB=[]:=by
     cases p with
     | b ts=>exact absurd rfl (nb ts)
     | s z=>rfl
     | i n=>rfl
     | e x=>rfl
     | p x=>rfl
    rw [this,List.append_nil]
    exact hys
  ·rintro ys H1 ⟨rfl,hi,hy,hys⟩ p hp
   rw [List.take_of_length_le (by omega),parts_b] at hys
   have s1:=same_upd (o:=.lst ys) hp
   exact k p ys _ s1 upd_same (hys.kept s1.ls)
end
section
variable {P:Program} {w:World} {K:PySem.W.Frag} {mg:Str->Option Value} {base:Heap} {AA:Adr} {DD:Fds}
noncomputable def srtK (fs:List (List Key)):List (List Key):=(srtI fs).map fun i=>fs.getD i []
theorem srtI_lt {fs:List (List Key)}:∀ i∈srtI fs,i<fs.length:=by
 unfold srtI
 split
 ·intro i hi
  simpa using hi
 ·intro i hi
  exact pickN_ent (ordN fs) (by omega) i hi
theorem srt_tups {H:Hp} {xs:List V} {fs:List (List Key)} (h:TupsAt H xs fs):TupsAt H (srt fs xs) (srtK fs):=by
 refine ⟨by simp [srt,srtK],fun j x d hx hd=>?_⟩
 unfold srt at hx
 unfold srtK at hd
 rw [List.getElem?_map] at hx hd
 obtain ⟨i,hi,rfl⟩:=Option.map_eq_some_iff.mp hx
 rw [hi] at hd
 have hd:fs.getD i []=d:=by simpa using hd
 have hlt:=srtI_lt i (List.mem_of_getElem? hi)
 have hlx:i<xs.length:=by rw [h.1];exact hlt
 refine h.2 i _ d ?_ ?_
 ·rw [List.getElem?_eq_getElem hlx,List.getD_eq_getElem?_getD,List.getElem?_eq_getElem hlx];rfl
 ·rw [<- hd,List.getElem?_eq_getElem hlt,List.getD_eq_getElem?_getD,List.getElem?_eq_getElem hlt];rfl
noncomputable def spWM:Sp:=fun vs H Q _=>∃ (d:Addr) (fs:List (List Key)) (sh:List Bool),vs=[.ref d]/\H d=some (.dT (ones fs))/\fs.length<64/\(∀ k∈fs,k.map isI=sh)/\sh≠[]/\sh.length<100/\∀ p ys H',Same H H'->H' p=some (.lst ys)->TupsAt H' ys ((srtK fs).map fun k=>.inl 1::k)->Q (.ref p) H'
noncomputable abbrev N_Zu:List Str:=["found"]
theorem sc_Zu:FnScope N_Zu ["found"] (defScope st_Zu):=⟨rfl,rfl,rfl,by decide +kernel,rfl,by decide +kernel,by decide +kernel⟩
theorem ok_wm (T:All P w K mg AA DD):FnOk P w K mg base CX0 1 AA.Zu DD.Zu ["found"] spWM:=by
 refine T.F_Zu.ok sc_Zu (fun vs H Q E h=>?_) (fun cdv A outer s H vs Q E hr h=>?_)
 ·obtain ⟨d,fs,sh,rfl,_⟩:=h
  rfl
 ·obtain ⟨d,fs,sh,rfl,hd,h64,hsh,hne,hshl,kq⟩:=h
  have nd:=sc_Zu.nd
  have hu:=Nat.lt_of_le_of_lt (Nat.add_le_add_left (show 1<=64 by decide) _) hr.units
  refine ⟨_,(@pss_one _ _ _ (@ps_ret _ _ _ _ (pe_comp (defScope st_Zu) N_Zu ["found"] [0] rfl (by exact ⟨rfl,rfl,by decide +kernel,rfl,by decide +kernel,by decide +kernel,by decide +kernel,rfl,by decide +kernel⟩) rfl rfl (pi_list (pe_callB (call_sortedD rfl) rfl T.n_sorted bt_sorted (@pa_cons _ _ _ _ _ (pv 0) pa_nil (by rfl)))) (fun _ _ _ _=>pif_nil) (fun _ _ _ _=>(@pe_op _ _ _ _ _ _ _ _ (op_catTK (K:=K) rfl) (@pe_tup _ _ _ _ _ (@pa_cons _ _ _ _ _ (pe_dget hu (pv 1) (pv 0) (fun _ _=>rfl)) pa_nil (by rfl))) (pv 0)))))),?_⟩
  have hmp:(ones fs).map (·.1)=fs:=by
   unfold ones
   rw [List.map_map]
   show fs.map id=fs
   rw [List.map_id]
  refine ⟨_,rfl,d,ones fs,sh,rfl,hd,(by unfold ones;rw [List.length_map];omega),fun kv hkv=>?_,hne,fun p xs hp hT=>?_⟩
  ·unfold ones at hkv
   obtain ⟨k,hk,rfl⟩:=List.mem_map.mp hkv
   exact hsh k hk
  rw [hmp] at hT ⊢
  have s1:=same_upd (o:=.lst (srt fs xs)) hp
  have hS:=srt_tups hT
  refine ⟨p,rfl,⟨_,SqL.of upd_same⟩,?_⟩
  refine comp_list (K:=K) (a:=p) (xs:=srt fs xs) (fun i ys H'=>Same (upd H p (.lst (srt fs xs))) H'/\i<=(srt fs xs).length/\TupsAt H' ys (((srtK fs).take i).map fun k=>.inl 1::k)) ⟨Same.refl _,Nat.zero_le _,by simp,fun j x d h=>by simp at h⟩ (fun i ys H' _ h=>SqL.of (h.1 _ _ upd_same)) ?_ ?_
  ·rintro i x ys H1 hx ⟨sm,hi,hys⟩
   have hilt:=(List.getElem?_eq_some_iff.mp hx).1
   have hik:i<(srtK fs).length:=by rw [<- hS.1];exact hilt
   obtain ⟨t,rfl,ht⟩:=hS.2 i x (srtK fs)[i] hx (List.getElem?_eq_getElem hik)
   have hyl:=hys.1
   rw [List.length_map,List.length_take] at hyl
   have hmem:(srtK fs)[i]∈fs:=by
    obtain ⟨j,hj,e⟩:=List.mem_map.mp (List.getElem_mem hik)
    rw [<- e,List.getD_eq_getElem?_getD,List.getElem?_eq_getElem (srtI_lt j hj)]
    exact List.getElem_mem _
   have hnn:(srtK fs)[i]≠[]:=fun z=>hne (by rw [<- hsh _ hmem,z];rfl)
   have hkl:(srtK fs)[i].length<100:=by
    have:=congrArg List.length (hsh _ hmem)
    rw [List.length_map] at this
    omega
   have h64s:(srtK fs).length<=200:=by
    unfold srtK
    rw [List.length_map,srtI_len]
    omega
   have ht1:=sm _ _ (s1 _ _ ht)
   have hd1:=sm _ _ (s1 _ _ hd)
   generalize hk:(srtK fs)[i]=k at *
   have hval:valV (ones fs) k=some (.int 1):=by
    rw [ones_val,if_pos (by rw [List.any_eq_true];exact ⟨k,hmem,decide_eq_true rfl⟩)]
   refine tYes_ok ?_
   rw [if_pos rfl]
   refine ⟨_,rfl,_,rfl,d,.int 1,rfl,by rw [<- hval];exact DGet.t hd1 ht1,(by show 1<=sizeLine;decide),fun q hq=>?_⟩
   have s2:=same_upd (o:=.tup [.int 1]) hq
   refine ⟨_,rfl,q,t,[.int 1],k.map kV,rfl,rfl,SqT.of upd_same,SqT.of (s2 _ _ ht1),by simp,?_,fun z=>absurd (by simpa using z) hnn,fun _ q2 hq2=>?_⟩
   ·rw [List.length_map]
    exact Nat.le_of_lt (small1000' (by simp only [List.length_cons,List.length_nil];omega))
   have s3:=same_upd (o:=.tup ([.int 1]++k.map kV)) hq2
   refine ⟨small1000' (by omega),(sm.trans s2).trans s3,by omega,?_⟩
   rw [List.take_succ_eq_append_getElem hik,List.map_append,hk]
   refine ⟨by simp [hys.1],fun j y e hy he=>?_⟩
   by_cases hj:j<ys.length
   ·rw [List.getElem?_append_left hj] at hy
    rw [List.getElem?_append_left (by rw [List.length_map,List.length_take];omega)] at he
    obtain ⟨t',a1,a2⟩:=hys.2 j y e hy he
    exact ⟨t',a1,s3 _ _ (s2 _ _ a2)⟩
   ·rw [List.getElem?_append_right (by omega)] at hy
    rw [List.getElem?_append_right (by rw [List.length_map,List.length_take];omega),List.length_map,List.length_take,<- hyl] at he
    have hj2:=(List.getElem?_eq_some_iff.mp hy).1
    have hj0:j-ys.length=0:=by simpa using hj2
    rw [hj0] at hy he
    have y1:V.ref q2=y:=by simpa using hy
    have e1:(.inl 1::k:List Key)=e:=by simpa using he
    exact ⟨q2,y1.symm,by rw [<- e1];exact upd_same⟩
  ·rintro ys H1 ⟨sm,hi,hys⟩ q hq
   have s2:=same_upd (o:=.lst ys) hq
   rw [List.take_of_length_le (by rw [hS.1];exact Nat.le_refl _)] at hys
   exact kq q ys _ ((s1.trans sm).trans s2) upd_same ⟨hys.1,fun j x k a b=>by obtain ⟨t,e,h⟩:=hys.2 j x k a b;exact ⟨t,e,s2 _ _ h⟩⟩
end
section
variable {P:Program} {w:World} {K:PySem.W.Frag} {mg:Str->Option Value} {base:Heap} {AA:Adr} {DD:Fds}
noncomputable def P1s (H:Hp) (xs:List V):Prop:=∀ x∈xs,∃ (t:Addr) (y:V),x=.ref t/\H t=some (.tup [.int 1,y])
noncomputable def spAll1:Sp:=fun vs H Q _=>∃ (l:Addr) (xs:List V),vs=[.ref l]/\H l=some (.lst xs)/\P1s H xs/\Q (.int (if xs=[] then 0 else 1)) H
noncomputable abbrev N_ZN:List Str:=["pairs","found","mask","value"]
theorem sc_ZN:FnScope N_ZN ["pairs"] (defScope st_ZN):=⟨rfl,rfl,rfl,by decide +kernel,rfl,by decide +kernel,by decide +kernel⟩
theorem ok_all1 (T:All P w K mg AA DD):FnOk P w K mg base CX0 1 AA.ZN DD.ZN ["pairs"] spAll1:=by
 refine T.F_ZN.ok sc_ZN (fun vs H Q E h=>?_) (fun cdv A outer s H vs Q E hr h=>?_)
 ·obtain ⟨l,xs,rfl,_⟩:=h
  rfl
 ·obtain ⟨l,xs,rfl,hl,hP,k⟩:=h
  have nd:=sc_ZN.nd
  refine ⟨_,(@pss_cons _ _ _ _ _ (@ps_set _ _ 1 _ _ _ _ nd rfl (Or.inl rfl) pe_int (by rfl) (by first | exact .inl rfl | exact .inr rfl | assumption)) (@pss_cons _ _ _ _ _ (@ps_for _ _ _ _ _ _ _ _ PassesOwn.never rfl (pi_list (pv 0)) (pg_tup rfl (pgs_cons (pg_name (i:=2) nd rfl (Or.inl rfl)) (pgs_cons (pg_name (i:=3) nd rfl (Or.inl rfl)) pgs_nil))) (@pss_one _ _ _ (@ps_set _ _ 1 _ _ _ _ nd rfl (Or.inl rfl) (@pe_op _ _ _ _ _ _ _ _ op_or (pv 1) (pv 2)) (by rfl) (by first | exact .inl rfl | exact .inr rfl | assumption))) (by intro _;rfl)) (@pss_one _ _ _ (@ps_ret _ _ _ _ (pv 1))))),?_⟩
  refine seq_c ?_
  dsimp only [gName]
  refine cut_for (fun σ' H'=>H'=H/\∃ s2 s3:Option V,σ'=[some (.ref l),some (.int (if xs=[] then 0 else 1)),s2,s3]) (fun R hRR=>?_) ?_
  ·refine ⟨_,rfl,l,rfl,⟨_,SqL.of hl⟩,?_⟩
   refine for_list (K:=K) (a:=l) (xs:=xs) (fun i σ' H'=>H'=H/\∃ s2 s3:Option V,σ'=[some (.ref l),some (.int (if i=0 then 0 else 1)),s2,s3]) ⟨rfl,none,none,rfl⟩ (fun i σ' H' _ hsl62=>by obtain ⟨e,_⟩:=hsl62;rw [e];exact SqL.of hl) ?_ ?_
   ·rintro i x σ' H1 hx ⟨rfl,s2,s3,rfl⟩
    obtain ⟨t,y,rfl,ht⟩:=hP x (List.mem_of_getElem? hx)
    refine ⟨t,_,rfl,SqT.of ht,rfl,_,_,rfl,_,_,rfl,rfl,?_⟩
    refine ⟨_,rfl,_,rfl,_,_,rfl,rfl,rfl,some (.int 1),some y,?_⟩
    by_cases h0:i=0
    ·subst h0;rfl
    ·rw [if_neg h0,if_neg (by omega)];rfl
   ·rintro σ' H1 ⟨rfl,s2,s3,rfl⟩
    refine hRR _ _ ⟨rfl,s2,s3,?_⟩
    cases xs<;>rfl
  ·rintro σ' H1 ⟨rfl,s2,s3,rfl⟩
   exact ⟨_,rfl,k⟩
noncomputable def KV1 (H:Hp) (p:Addr) (ks:List V):Prop:=∃ ts:List Addr,H p=some (.lst (ts.map V.ref))/\ts.length=ks.length/\∀ (i:Nat) (t:Addr) (k:V),ts[i]?=some t->ks[i]?=some k->H t=some (.tup [.int 1,k])
theorem KV1.kept {H H':Hp} {p:Addr} {ks:List V} (h:KV1 H p ks) (s:LsS H H'):KV1 H' p ks:=by obtain ⟨ts,a,b,c⟩:=h;exact ⟨ts,s.2 _ _ a,b,fun i t k x y=>s.1 _ _ (c i t k x y)⟩
theorem KV1.p1 {H:Hp} {p:Addr} {ks:List V} (h:KV1 H p ks):∃ xs,H p=some (.lst xs)/\P1s H xs/\(xs=[]↔ks=[]):=by
 obtain ⟨ts,a,b,c⟩:=h
 refine ⟨_,a,fun x hx=>?_,?_⟩
 ·obtain ⟨t,ht,rfl⟩:=List.mem_map.mp hx
  obtain ⟨i,hi,e⟩:=List.mem_iff_getElem.mp ht
  exact ⟨t,(ks[i]'(by omega)),rfl,c i t _ (by rw [<- e];exact List.getElem?_eq_getElem hi) (List.getElem?_eq_getElem (by omega))⟩
 ·rw [List.map_eq_nil_iff,<- List.length_eq_zero_iff,b,List.length_eq_zero_iff]
theorem KV1.cat {H:Hp} {p q:Addr} {a b:List V} (ha:KV1 H p a) (hb:KV1 H q b):∃ xs ys,H p=some (.lst xs)/\H q=some (.lst ys)/\xs.length=a.length/\ys.length=b.length/\∀ l,H l=none->KV1 (upd H l (.lst (xs++ys))) l (a++b):=by
 obtain ⟨ts,a1,a2,a3⟩:=ha
 obtain ⟨us,b1,b2,b3⟩:=hb
 refine ⟨_,_,a1,b1,by simpa using a2,by simpa using b2,fun l hl=>⟨ts++us,by rw [upd_same,List.map_append],by simp [a2,b2],fun i t k x y=>?_⟩⟩
 have s:=same_upd (o:=.lst (ts.map V.ref++us.map V.ref)) hl
 by_cases hi:i<ts.length
 ·rw [List.getElem?_append_left hi] at x
  rw [List.getElem?_append_left (by omega)] at y
  exact s _ _ (a3 i t k x y)
 ·rw [List.getElem?_append_right (by omega)] at x
  rw [List.getElem?_append_right (by omega),<- a2] at y
  exact s _ _ (b3 _ t k x y)
noncomputable def spKV:Sp:=fun vs H Q _=>∃ (p:Addr) (ks:List V) (m:Nat),vs=[.ref p,.int ((m:Nat):Int)]/\m<=1/\KV1 H p ks/\ks.length<=50/\∀ q H',Same H H'->KV1 H' q (if m=0 then [] else ks)->Q (.ref q) H'
noncomputable abbrev N_Zt:List Str:=["pairs","mask"]
theorem sc_Zt:FnScope N_Zt ["pairs","mask"] (defScope st_Zt):=⟨rfl,rfl,rfl,by decide +kernel,rfl,by decide +kernel,by decide +kernel⟩
theorem ok_kv (T:All P w K mg AA DD):FnOk P w K mg base CX0 1 AA.Zt DD.Zt ["pairs","mask"] spKV:=by
 refine T.F_Zt.ok sc_Zt (fun vs H Q E h=>?_) (fun cdv A outer s H vs Q E hr h=>?_)
 ·obtain ⟨p,ks,m,rfl,_⟩:=h
  rfl
 ·obtain ⟨p,ks,m,rfl,hm,⟨ts,hp,htl,hat⟩,hkl,k⟩:=h
  have nd:=sc_Zt.nd
  refine ⟨_,(@pss_one _ _ _ (@ps_ret _ _ _ _ (pe_comp2 (xs:=["there","value"]) (defScope st_Zt) N_Zt ["mask"] [1] rfl (by exact ⟨rfl,rfl,by decide +kernel,by decide +kernel,by decide +kernel,by decide +kernel,by decide +kernel,rfl,by decide +kernel⟩) rfl rfl (pi_list (pv 0)) (fun _ _ _ _=>(pg_tupK (K:=K) (n:=2) rfl rfl (pgs_cons (pg_name (i:=0) (show (["there","value","mask"]:List Str).Nodup by decide +kernel) rfl (Or.inl rfl)) (pgs_cons (pg_name (i:=1) (show (["there","value","mask"]:List Str).Nodup by decide +kernel) rfl (Or.inl rfl)) pgs_nil)))) (fun _ _ _ _=>pif_one (pt_cmpR op_ne (pe_op op_and (pv 0) (pv 2)) pe_int (nomark _))) (fun _ _ _ _=>(@pe_tup _ _ _ _ _ (@pa_cons _ _ _ _ _ (@pe_op _ _ _ _ _ _ _ _ op_and (pv 0) (pv 2)) (@pa_cons _ _ _ _ _ (pv 1) pa_nil (by rfl)) (by rfl))))))),?_⟩
  refine ⟨_,rfl,p,rfl,⟨_,SqL.of hp⟩,?_⟩
  refine comp2_list (K:=K) (a:=p) (xs:=ts.map V.ref) (fun i ys H'=>Same H H'/\i<=50/\∃ us:List Addr,ys=us.map V.ref/\us.length=(if m=0 then [] else ks.take i).length/\∀ (j:Nat) (t:Addr) (q:V),us[j]?=some t->(if m=0 then [] else ks.take i)[j]?=some q->H' t=some (.tup [.int 1,q]))
   ⟨Same.refl _,Nat.zero_le _,[],rfl,(by split<;>simp),fun j t q h=>by simp at h⟩ (fun i ys H' _ hsl63=>by obtain ⟨e,_⟩:=hsl63;exact SqL.of (e _ _ hp)) ?_ ?_
  ·rintro i x ys H1 hx ⟨sm,_,us,rfl,hul,hus⟩
   have hi:i<ts.length:=by
    have:=(List.getElem?_eq_some_iff.mp hx).1
    rw [List.length_map] at this;exact this
   have hik:i<ks.length:=by omega
   have ex:x=V.ref ts[i]:=by rw [List.getElem?_map,List.getElem?_eq_getElem hi] at hx;exact (Option.some.inj hx).symm
   subst ex
   have hT1:=sm _ _ (hat i ts[i] ks[i] (List.getElem?_eq_getElem hi) (List.getElem?_eq_getElem hik))
   intro os hos
   obtain ⟨a,b,rfl⟩:∃ a b,os=[a,b]:=by
    match os,hos with
    | [a,b],_=>exact ⟨a,b,rfl⟩
   refine ⟨ts[i],_,rfl,SqT.of hT1,rfl,_,_,rfl,_,_,rfl,rfl,⟨[_,_],rfl,rfl⟩,?_⟩
   refine ⟨_,rfl,_,rfl,_,_,rfl,rfl,rfl,_,rfl,?_⟩
   have hb:Builtin.bitAnd (1:Int) ((m:Nat):Int)=((1 &&& m:Nat):Int):=bitAnd_nat 1 m
   by_cases h0:m=0
   ·subst h0
    refine iteFb (by
     show (!decide (V.int (Builtin.bitAnd (1:Int) ((0:Nat):Int))=V.int 0))=false
     rw [hb];rfl) ?_
    exact ⟨sm,by omega,us,rfl,hul,hus⟩
   ·have h1:m=1:=by omega
    subst h1
    refine iteTb (by
     show (!decide (V.int (Builtin.bitAnd (1:Int) ((1:Nat):Int))=V.int 0))=true
     rw [hb];rfl) ?_
    rw [if_neg h0] at hul hus
    refine ⟨_,rfl,_,rfl,_,_,rfl,rfl,_,rfl,(by show 2<=sizeLine;decide),fun t2 ht2=>?_⟩
    dsimp only
    rw [hb]
    have s5:=same_upd (o:=.tup [V.int ((1 &&& 1:Nat):Int),ks[i]]) ht2
    rw [List.length_take] at hul
    refine ⟨by rw [List.length_map];exact small1000' (by omega),sm.trans s5,by omega,us++[t2],by simp,by simp;omega,fun j t' q e1 e2=>?_⟩
    rw [if_neg h0,List.take_succ_eq_append_getElem hik] at e2
    by_cases hj:j<us.length
    ·rw [List.getElem?_append_left hj] at e1
     rw [List.getElem?_append_left (by rw [List.length_take];omega)] at e2
     exact s5 _ _ (hus j t' q e1 e2)
    ·have hjl:=(List.getElem?_eq_some_iff.mp e1).1
     rw [List.length_append,List.length_singleton] at hjl
     have ej:j=us.length:=by omega
     subst ej
     rw [List.getElem?_append_right (Nat.le_refl _),Nat.sub_self] at e1
     rw [List.getElem?_append_right (by rw [List.length_take];omega),List.length_take] at e2
     have e0:us.length-min i ks.length=0:=by omega
     rw [e0] at e2
     have q1:t2=t':=by simpa using e1
     have q2:ks[i]=q:=by simpa using e2
     subst q1 q2
     exact upd_same
  ·rintro ys H1 ⟨sm,_,us,rfl,hul,hus⟩ q hq
   have sq:=same_upd (o:=.lst (us.map V.ref)) hq
   rw [List.length_map,htl,List.take_length] at hul hus
   exact k q _ (sm.trans sq) ⟨us,upd_same,hul,fun i t k' x y=>sq _ _ (hus i t k' x y)⟩
noncomputable abbrev Kd:=Option Str
noncomputable def kdV:Kd->V
 | some k=>.str k
 | none=>.non
noncomputable def KL (H:Hp) (p:Addr) (ks:List Kd):Prop:=KV1 H p (ks.map kdV)
theorem KL.kept {H H':Hp} {p:Addr} {ks:List Kd} (h:KL H p ks) (s:LsS H H'):KL H' p ks:=KV1.kept h s
theorem KL.same {H H':Hp} {p:Addr} {ks:List Kd} (h:KL H p ks) (s:Same H H'):KL H' p ks:=h.kept s.ls
theorem KL.p1 {H:Hp} {p:Addr} {ks:List Kd} (h:KL H p ks):∃ xs,H p=some (.lst xs)/\P1s H xs/\(xs=[]↔ks=[]):=by
 obtain ⟨xs,a,b,c⟩:=KV1.p1 h
 exact ⟨xs,a,b,by rw [c,List.map_eq_nil_iff]⟩
theorem KL.at {H:Hp} {p:Addr} {ks:List Kd} (h:KL H p ks):∃ ts:List Addr,H p=some (.lst (ts.map V.ref))/\ts.length=ks.length/\∀ (i:Nat) (t:Addr) (k:Kd),ts[i]?=some t->ks[i]?=some k->H t=some (.tup [.int 1,kdV k]):=by
 obtain ⟨ts,a,b,c⟩:=h
 exact ⟨ts,a,by simpa using b,fun i t k x y=>c i t _ x (by rw [List.getElem?_map,y];rfl)⟩
theorem KL.cat {H:Hp} {p q:Addr} {a b:List Kd} (ha:KL H p a) (hb:KL H q b):∃ xs ys,H p=some (.lst xs)/\H q=some (.lst ys)/\xs.length=a.length/\ys.length=b.length/\∀ l,H l=none->KL (upd H l (.lst (xs++ys))) l (a++b):=by
 obtain ⟨xs,ys,h1,h2,h3,h4,h5⟩:=KV1.cat ha hb
 refine ⟨xs,ys,h1,h2,by simpa using h3,by simpa using h4,fun l hl=>?_⟩
 have:=h5 l hl
 rw [<- List.map_append] at this
 exact this
theorem spKV_of {p:Addr} {ks:List Kd} {m:Nat} {H:Hp} {Q:VK} {E:XK} (hm:m<=1) (hk:KL H p ks) (hl:ks.length<=50) (k:∀ q H',Same H H'->KL H' q (if m=0 then [] else ks)->Q (.ref q) H'):spKV [.ref p,.int ((m:Nat):Int)] H Q E:=by
 refine ⟨p,ks.map kdV,m,rfl,hm,hk,by simpa using hl,fun q H' s h=>k q H' s ?_⟩
 have e:(if m=0 then [] else ks.map kdV)=(if m=0 then [] else ks).map kdV:=by split<;>rfl
 rw [e] at h
 exact h
noncomputable def fits (due:Str) (k:Kd):Bool:=decide (k=none)||decide (k=some due)
noncomputable def unfN (ks:List Kd) (due:Str):Nat:=if ks.all (fits due) then 0 else 1
noncomputable def spUnfit:Sp:=fun vs H Q _=>∃ (p:Addr) (ks:List Kd) (due:Str),vs=[.ref p,.str due]/\KL H p ks/\ks.length<=50/\∀ H',Same H H'->Q (.int ((unfN ks due:Nat):Int)) H'
noncomputable abbrev N_ZR:List Str:=["kinds","due"]
theorem sc_ZR:FnScope N_ZR ["kinds","due"] (defScope st_ZR):=⟨rfl,rfl,rfl,by decide +kernel,rfl,by decide +kernel,by decide +kernel⟩
theorem ok_ZR (T:All P w K mg AA DD):FnOk P w K mg base CX0 2 AA.ZR DD.ZR ["kinds","due"] spUnfit:=by
 have GA:=ok_all1 (base:=base) T
 refine T.F_ZR.ok sc_ZR (fun vs H Q E h=>?_) (fun cdv A outer s H vs Q E hr h=>?_)
 ·obtain ⟨p,ks,due,rfl,_⟩:=h
  rfl
 ·obtain ⟨p,ks,due,rfl,hK,hkl,k⟩:=h
  obtain ⟨ts,hp,htl,hat⟩:=hK.at
  have nd:=sc_ZR.nd
  have hr1:Room 1 _:=hr
  refine ⟨_,(@pss_one _ _ _ (@ps_ret _ _ _ _ (pe_call GA hr1 rfl T.m_ZN T.k_ZN T.b_ZN .nil pass0 (@pa_cons _ _ _ _ _ (pe_comp2 (xs:=["mask","kind"]) (defScope st_ZR) N_ZR ["due"] [1] rfl (by exact ⟨rfl,rfl,by decide +kernel,by decide +kernel,by decide +kernel,by decide +kernel,by decide +kernel,rfl,by decide +kernel⟩) rfl rfl (pi_list (pv 0)) (fun _ _ _ _=>(pg_tupK (K:=K) (n:=2) rfl rfl (pgs_cons (pg_name (i:=0) (show (["mask","kind","due"]:List Str).Nodup by decide +kernel) rfl (Or.inl rfl)) (pgs_cons (pg_name (i:=1) (show (["mask","kind","due"]:List Str).Nodup by decide +kernel) rfl (Or.inl rfl)) pgs_nil)))) (fun _ _ _ _=>pif_one (PW.pt (pw_and (pt_cmp (pc_notN (pv 1))) (pw_and1 (pt_cmpR op_ne (pv 1) (pv 2) (nomark _)))))) (fun _ _ _ _=>(@pe_tup _ _ _ _ _ (@pa_cons _ _ _ _ _ (pv 0) (@pa_cons _ _ _ _ _ (pv 1) pa_nil (by rfl)) (by rfl))))) pa_nil (by rfl))))),?_⟩
  refine ⟨_,rfl,p,rfl,⟨_,SqL.of hp⟩,?_⟩
  refine comp2_list (K:=K) (a:=p) (xs:=ts.map V.ref) (fun i ys H'=>Same H H'/\P1s H' ys/\(ys=[]↔(ks.take i).all (fits due)=true)/\ys.length<=i/\i<=50)
   ⟨Same.refl _,(by intro x hx;cases hx),(by simp),Nat.le_refl _,(by decide)⟩ (fun i ys H' _ hsl64=>by obtain ⟨e,_⟩:=hsl64;exact SqL.of (e _ _ hp)) ?_ ?_
  ·rintro i x ys H1 hx ⟨sm,hP,hy,hyl,_⟩
   have hi:i<ts.length:=by
    have:=(List.getElem?_eq_some_iff.mp hx).1
    rw [List.length_map] at this;exact this
   have hik:i<ks.length:=by omega
   have ex:x=V.ref ts[i]:=by rw [List.getElem?_map,List.getElem?_eq_getElem hi] at hx;exact (Option.some.inj hx).symm
   subst ex
   have hT1:=sm _ _ (hat i ts[i] ks[i] (List.getElem?_eq_getElem hi) (List.getElem?_eq_getElem hik))
   have hall:(ks.take (i+1)).all (fits due)=((ks.take i).all (fits due)&&fits due ks[i]):=by
    rw [List.take_succ_eq_append_getElem hik,List.all_append];simp
   intro os hos
   obtain ⟨a,b,rfl⟩:∃ a b,os=[a,b]:=by
    match os,hos with
    | [a,b],_=>exact ⟨a,b,rfl⟩
   refine ⟨ts[i],_,rfl,SqT.of hT1,rfl,_,_,rfl,_,_,rfl,rfl,⟨[_,_],rfl,rfl⟩,?_⟩
   have no:fits due ks[i]=true->∀ {R:Prop},(Same H H1/\P1s H1 ys/\(ys=[]↔(ks.take (i+1)).all (fits due)=true)/\ys.length<=i+1/\i+1<=50->R)->R:=fun hf R k=>k ⟨sm,hP,by rw [hall,hf,Bool.and_true];exact hy,by omega,by omega⟩
   cases hki:ks[i] with
   | none =>
    refine ⟨_,rfl,_,rfl,iteFb (by rw [decide_eq_true (show kdV none=V.non from rfl)];rfl) ?_⟩
    exact no (by rw [hki];rfl) id
   | some kd =>
   rw [hki] at hT1
   refine ⟨_,rfl,_,rfl,iteTb (by rw [decide_eq_false (fun z=>by cases z)];rfl) ?_⟩
   refine ⟨_,rfl,_,rfl,rfl,_,rfl,?_⟩
   by_cases hkd:kd=due
   ·refine iteFb (by
     show (!decide (V.str kd=V.str due))=false
     rw [decide_eq_true (by rw [hkd])];rfl) ?_
    exact no (by rw [hki,hkd];simp [fits]) id
   ·refine iteTb (by
     show (!decide (V.str kd=V.str due))=true
     rw [decide_eq_false (fun z=>hkd (by injection z))];rfl) ?_
    refine ⟨_,rfl,_,rfl,(by show 2<=sizeLine;decide),fun t2 ht2=>?_⟩
    have s5:=same_upd (o:=.tup [.int 1,.str kd]) ht2
    refine ⟨small1000' (by omega),sm.trans s5,?_,?_,by simp;omega,by omega⟩
    ·intro x hx
     rcases List.mem_append.mp hx with hx | hx
     ·obtain ⟨t',y,e1,e2⟩:=hP x hx
      exact ⟨t',y,e1,s5 _ _ e2⟩
     ·have ex:x=V.ref t2:=by simpa using hx
      exact ⟨t2,.str kd,ex,upd_same⟩
    ·rw [hall,hki];simp [fits,hkd]
  ·rintro ys H1 ⟨sm,hP,hy,_,_⟩ q hq
   have sq:=same_upd (o:=.lst ys) hq
   refine ⟨q,ys,rfl,upd_same,fun x hx=>by obtain ⟨t',y,e1,e2⟩:=hP x hx;exact ⟨t',y,e1,sq _ _ e2⟩,?_⟩
   rw [List.length_map,htl,List.take_length] at hy
   have kk:=k _ (sm.trans sq)
   unfold unfN at kk
   by_cases hkd:ks.all (fits due)=true
   ·rw [if_pos (hy.mpr hkd)]
    rw [if_pos hkd] at kk;exact kk
   ·rw [if_neg (fun z=>hkd (hy.mp z))]
    rw [if_neg hkd] at kk;exact kk
noncomputable def plainL:List Str:=["num","truth"]
noncomputable def isRec (k:Kd):Bool:=match k with
 | none=>false
 | some z=>!decide (z∈plainL)
noncomputable def spIsRec:Sp:=fun vs H Q _=>∃ k:Kd,vs=[kdV k]/\Q (.bl (isRec k)) H
noncomputable abbrev N_ZA:List Str:=["kind"]
theorem sc_ZA:FnScope N_ZA ["kind"] (defScope st_ZA):=⟨rfl,rfl,rfl,by decide +kernel,rfl,by decide +kernel,by decide +kernel⟩
theorem ok_isrec (T:All P w K mg AA DD):FnOk P w K mg base CX0 1 AA.ZA DD.ZA ["kind"] spIsRec:=by
 refine T.F_ZA.ok sc_ZA (fun vs H Q E h=>?_) (fun cdv A outer s H vs Q E hr h=>?_)
 ·obtain ⟨kd,rfl,_⟩:=h
  rfl
 ·obtain ⟨kd,rfl,k⟩:=h
  have nd:=sc_ZA.nd
  refine ⟨_,(@pss_one _ _ _ (@ps_ret _ _ _ _ (pe_and (pe_cmp (pc_notN (pv 0))) (pe_one (@pe_cmpR _ _ _ _ _ _ _ _ (op_notIn_seqK (K:=K) rfl) (pv 0) (pe_glob (v:=.ref AA.q_PLAIN_KINDS) rfl T.m_PLAIN_KINDS rfl) rfl))))),?_⟩
  cases kd with
  | none =>
   refine ⟨_,rfl,_,rfl,iteFb (by rw [decide_eq_true (show kdV none=V.non from rfl)];rfl) ?_⟩
   exact k
  | some z =>
  refine ⟨_,rfl,_,rfl,iteTb (by rw [decide_eq_false (fun z=>by cases z)];rfl) ?_⟩
  refine ⟨_,rfl,AA.q_PLAIN_KINDS,[.str "num",.str "truth"],rfl,.inr (T.Q_PLAIN_KINDS H),rfl,rfl,?_⟩
  show Q (V.bl (!inV (V.str z) (plainL.map V.str))) H
  rw [inV_strs];exact k
structure LsK (H H':Hp):Prop where
 ls:LsS H H'
 dk:∀ a kv,H a=some (.dK kv)->H' a=some (.dK kv)
theorem LsK.refl (H:Hp):LsK H H:=⟨LsS.refl _,fun _ _ h=>h⟩
theorem LsK.trans {H H1 H2:Hp} (a:LsK H H1) (b:LsK H1 H2):LsK H H2:=⟨a.ls.trans b.ls,fun _ _ h=>b.dk _ _ (a.dk _ _ h)⟩
theorem lkS {H H':Hp} (s:Same H H'):LsK H H':=⟨s.ls,fun _ _ h=>s _ _ h⟩
structure KkAt (H:Hp) (C o dx d2:Addr) (F:List (List Key × V)) (fs:List (List Key)):Prop where
 ins:∃ d1,H o=some (.ins C dx [("firsts",.ref d1),("faults",.ref d2)])/\H d1=some (.dT F)/\d1≠d2
 flt:H d2=some (.dT (ones fs))
theorem KkAt.same {H H':Hp} {C o dx d2:Addr} {F:List (List Key × V)} {fs:List (List Key)} (h:KkAt H C o dx d2 F fs) (s:Same H H'):KkAt H' C o dx d2 F fs:=by
 obtain ⟨⟨d1,h1,h3,h4⟩,h2⟩:=h
 exact ⟨⟨d1,s _ _ h1,s _ _ h3,h4⟩,s _ _ h2⟩
theorem KkAt.fault {H:Hp} {C o dx d2:Addr} {F:List (List Key × V)} {fs fs':List (List Key)} (h:KkAt H C o dx d2 F fs):KkAt (upd H d2 (.dT (ones fs'))) C o dx d2 F fs'/\LsK H (upd H d2 (.dT (ones fs'))):=by
 obtain ⟨⟨d1,h1,h3,h4⟩,h2⟩:=h
 refine ⟨⟨⟨d1,?_,?_,h4⟩,upd_same⟩,⟨ls_upd h2 (fun _ z=>nomatch z) (fun _ z=>nomatch z) (fun _ _ z=>nomatch z),fun a kv e=>by rw [upd_ne (fun z=>by rw [z,h2] at e;cases e)];exact e⟩⟩
 ·rw [upd_ne (fun z=>by rw [z,h2] at h1;cases h1)];exact h1
 ·rw [upd_ne h4];exact h3
noncomputable def kk (r:Nat) (what:Str):List Key:=[.inl ((r:Nat):Int),.inr what]
noncomputable def spKNote (C:Addr):Sp:=fun vs H Q _=>∃ (o dx d2:Addr) (F:List (List Key × V)) (fs:List (List Key)) (m r:Nat) (z:Str),vs=[.ref o,.int ((m:Nat):Int),.int ((r:Nat):Int),.str z]/\KkAt H C o dx d2 F fs/\fs.length<1000 /\
 ((m=0/\∀ H',LsK H H'->KkAt H' C o dx d2 F fs->Q .non H')∨(m=1/\∀ H',LsK H H'->KkAt H' C o dx d2 F (addF fs (kk r z))->Q .non H'))
noncomputable abbrev N_Zm:List Str:=["self","mask","at","what"]
theorem sc_Zm:FnScope N_Zm ["self","mask","at","what"] (defScope st_Zm):=⟨rfl,rfl,rfl,by decide +kernel,rfl,by decide +kernel,by decide +kernel⟩
theorem ok_knote (T:All P w K mg AA DD):FnOk P w K mg base CX0 2 AA.Zm DD.Zm ["self","mask","at","what"] (spKNote AA.c_KindLook):=by
 have GD:=ok_add (base:=base) T
 refine T.F_Zm.ok sc_Zm (fun vs H Q E h=>?_) (fun cdv A outer s H vs Q E hr h=>?_)
 ·obtain ⟨o,dx,d2,F,fs,m,r,z,rfl,_⟩:=h
  rfl
 ·obtain ⟨o,dx,d2,F,fs,m,r,z,rfl,hk,hf,h⟩:=h
  have nd:=sc_Zm.nd
  have hr1:Room 1 _:=hr
  refine ⟨_,(@pss_one _ _ _ (@ps_expr _ _ _ _ (pe_call GD hr1 rfl T.m_ZO T.k_ZO T.b_ZO .nil pass0 (@pa_cons _ _ _ _ _ (pe_fld (pv 0) rfl) (@pa_cons _ _ _ _ _ (@pe_tup _ _ _ _ _ (@pa_cons _ _ _ _ _ (pv 2) (@pa_cons _ _ _ _ _ (pv 3) pa_nil (by rfl)) (by rfl))) (@pa_cons _ _ _ _ _ (pv 1) pa_nil (by rfl)) (by rfl)) (by rfl))) (by rfl))),?_⟩
  obtain ⟨d1,hi,_⟩:=hk.ins
  refine ⟨_,rfl,o,AA.c_KindLook,dx,_,_,rfl,hi,T.cl_KindLook,T.na_KindLook_faults,rfl,?_⟩
  refine ⟨_,rfl,_,rfl,(by show 2<=sizeLine;decide),fun t ht=>?_⟩
  have s1:=same_upd (o:=.tup [.int ((r:Nat):Int),.str z]) ht
  have hk1:=hk.same s1
  have e1:upd H t (.tup [.int ((r:Nat):Int),.str z]) t=some (.tup ((kk r z).map kV)):=upd_same
  generalize upd H t (.tup [.int ((r:Nat):Int),.str z])=H1 at s1 hk1 e1 ⊢
  refine ⟨_,rfl,d2,.ref t,m,rfl,.inr ⟨_,.inl hk1.flt⟩,?_⟩
  rcases h with ⟨e,k⟩ | ⟨e,k⟩
  ·exact .inl ⟨e,k _ (lkS s1) hk1⟩
  ·obtain ⟨a,b⟩:=hk1.fault (fs':=addF fs (kk r z))
   refine .inr ⟨e,_,_,DGet.t hk1.flt e1,?_,DPut.t hk1.flt e1 ?_,?_⟩
   ·rw [ones_val]
    split
    ·exact .inr rfl
    ·exact .inl rfl
   ·unfold ones
    rw [List.length_map]
    exact small1000' hf
   ·rw [ones_put]
    exact k _ ((lkS s1).trans b) a
end
section
variable {P:Program} {w:World} {K:PySem.W.Frag} {mg:Str->Option Value} {base:Heap} {AA:Adr} {DD:Fds}
noncomputable def _root_.Mm.Tr.hd:Tr->Option (Str × Str)
 | .df _ n _ _ _=>some ("def",n)
 | .kd _ n _=>some ("kind",n)
 | _=>none
noncomputable def fstT (k:Str × Str) (ts:List Tr):Option Tr:=ts.find? fun t=>decide (t.hd=some k)
noncomputable def kKey (k:Str × Str):List Key:=[.inr k.1,.inr k.2]
theorem kKey_inj {a b:Str × Str} (h:kKey a=kKey b):a=b:=by
 simp [kKey] at h
 exact Prod.ext h.1 h.2
noncomputable def FsAt (H:Hp) (F:List (List Key × V)) (ts:List Tr):Prop:=∀ k:Str × Str,(valV F (kKey k)=none/\fstT k ts=none)∨∃ p v t,valV F (kKey k)=some (.ref p)/\KV1 H p [v]/\SAt H true v t/\fstT k ts=some t
theorem FsAt.kept {H H':Hp} {F:List (List Key × V)} {ts:List Tr} (h:FsAt H F ts) (s:LsS H H'):FsAt H' F ts:=fun k=>by
 rcases h k with h | ⟨p,v,t,a,b,c,d⟩
 ·exact .inl h
 ·exact .inr ⟨p,v,t,a,b.kept s,c.kept s,d⟩
theorem fstT_snoc (k:Str × Str) (ts:List Tr) (t:Tr):fstT k (ts++[t])=(fstT k ts).or (if t.hd=some k then some t else none):=by
 unfold fstT
 rw [List.find?_append]
 by_cases h:t.hd=some k<;>simp [h]
noncomputable def heads:List Str:=["def","kind"]
theorem hd_at {H:Hp} {vs:List V} {t:Tr} (h:PsAt H true vs t.parts):(t.kw∉heads/\t.hd=none)∨(t.kw∈heads/\∃ z r,t.hd=some (t.kw,z)/\vs=.str t.kw::.int ((t.row:Nat):Int)::.str z::r):=by
 have g:(t.kw∉heads/\t.hd=none)∨(t.kw∈heads/\∃ z ps,t.hd=some (t.kw,z)/\t.parts=.s t.kw::.i t.row::.s z::ps):=by
  cases t with
  | df r n k ps b=>exact .inr ⟨by simp only [Tr.kw];decide +kernel,n,_,rfl,rfl⟩
  | kd r n ps=>exact .inr ⟨by simp only [Tr.kw];decide +kernel,n,_,rfl,rfl⟩
  | _=>exact .inl ⟨by simp only [Tr.kw];decide +kernel,rfl⟩
 rcases g with g | ⟨g1,z,ps,g2,g3⟩
 ·exact .inl g
 ·rw [g3] at h
  obtain ⟨r,e,h⟩:=ps_two h
  obtain ⟨a,r',e',h1,h⟩:=ps_cons h
  exact .inr ⟨g1,z,r',g2,by rw [e,e',pa_s h1]⟩
noncomputable def spFR:Sp:=fun vs H Q _=>∃ (l:Addr) (xs:List V) (ts:List Tr),vs=[.ref l]/\H l=some (.lst xs)/\LAt H true xs ts/\ts.length<=50/\∀ d F H',Same H H'->H' d=some (.dT F)->FsAt H' F ts->Q (.ref d) H'
noncomputable abbrev N_Zv:List Str:=["tree","found","mask","one","key","rows"]
theorem sc_Zv:FnScope N_Zv ["tree"] (defScope st_Zv):=⟨rfl,rfl,rfl,by decide +kernel,rfl,by decide +kernel,by decide +kernel⟩
theorem ok_fr (T:All P w K mg AA DD):FnOk P w K mg base CX0 2 AA.Zv DD.Zv ["tree"] spFR:=by
 have GA:=ok_all1 (base:=base) T
 have GN:=ok_ZK (base:=base) T
 have GB:=ok_kv (base:=base) T
 refine T.F_Zv.ok sc_Zv (fun vs H Q E h=>?_) (fun cdv A outer s H vs Q E hr h=>?_)
 ·obtain ⟨l,xs,ts,rfl,_⟩:=h
  rfl
 ·obtain ⟨l,xs,ts,rfl,hl,hL,h50,kq⟩:=h
  have nd:=sc_Zv.nd
  have hr1:Room 1 _:=hr
  have hu:=Nat.lt_of_le_of_lt (Nat.add_le_add_left (show 1<=64 by decide) _) hr.units
  refine ⟨_,(@pss_cons _ _ _ _ _ (@ps_set _ _ 1 _ _ _ _ nd rfl (Or.inl rfl) (pe_dnewT) (by rfl) (by first | exact .inl rfl | exact .inr rfl | assumption)) (@pss_cons _ _ _ _ _ (@ps_for _ _ _ _ _ _ _ _ PassesOwn.never rfl (pi_list (pv 0)) (pg_tup rfl (pgs_cons (pg_name (i:=2) nd rfl (Or.inl rfl)) (pgs_cons (pg_name (i:=3) nd rfl (Or.inl rfl)) pgs_nil))) (@pss_one _ _ _ (@ps_if _ _ _ _ _ _ _ _ (@pt_cmpR _ _ _ _ _ _ _ _ (op_in_seqK (K:=K) rfl) (@pe_ix _ _ _ _ _ _ _ (ix_tupK (K:=K) rfl) (pv 3) pe_int (fun _ _=>rfl)) (@pe_tup _ _ _ _ _ (@pa_cons _ _ _ _ _ pe_str (@pa_cons _ _ _ _ _ pe_str pa_nil (by rfl)) (by rfl))) rfl) (@pss_cons _ _ _ _ _ (@ps_set _ _ 4 _ _ _ _ nd rfl (Or.inl rfl) (@pe_tup _ _ _ _ _ (@pa_cons _ _ _ _ _ (@pe_ix _ _ _ _ _ _ _ (ix_tupK (K:=K) rfl) (pv 3) pe_int (fun _ _=>rfl)) (@pa_cons _ _ _ _ _ (@pe_ix _ _ _ _ _ _ _ (ix_tupK (K:=K) rfl) (pv 3) pe_int (fun _ _=>rfl)) pa_nil (by rfl)) (by rfl))) (by rfl) (by first | exact .inl rfl | exact .inr rfl | assumption)) (@pss_cons _ _ _ _ _ (@ps_set _ _ 5 _ _ _ _ nd rfl (Or.inl rfl) (pe_dget2 hu (pv 1) (pv 4) (@pe_lst _ _ _ _ pa_nil) ⟨by rfl,by rfl,by rfl,by rfl⟩) (by rfl) (by first | exact .inl rfl | exact .inr rfl | assumption)) (@pss_one _ _ _ (ps_dput hu (pv 1) (pv 4) (@pe_op _ _ _ _ _ _ _ _ op_cat (pv 5) (pe_call GB hr1 rfl T.m_Zt T.k_Zt T.b_Zt .nil pass0 (@pa_cons _ _ _ _ _ (@pe_lst _ _ _ _ (@pa_cons _ _ _ _ _ (@pe_tup _ _ _ _ _ (@pa_cons _ _ _ _ _ (pv 2) (@pa_cons _ _ _ _ _ (pv 3) pa_nil (by rfl)) (by rfl))) pa_nil (by rfl))) (@pa_cons _ _ _ _ _ (pe_call GN hr1 rfl T.m_ZK T.k_ZK T.b_ZK .nil pass0 (@pa_cons _ _ _ _ _ (pv 2) (@pa_cons _ _ _ _ _ (pe_call GA hr1 rfl T.m_ZN T.k_ZN T.b_ZN .nil pass0 (@pa_cons _ _ _ _ _ (pv 5) pa_nil (by rfl))) pa_nil (by rfl)) (by rfl))) pa_nil (by rfl)) (by rfl)))) rfl)))) pss_nil)) (by intro _;rfl)) (@pss_one _ _ _ (@ps_ret _ _ _ _ (pv 1))))),?_⟩
  refine fun d hd=>?_
  have s1:=same_upd (o:=.dT []) hd
  dsimp only [gName]
  have hxl:=hL.length
  have hdl:∀ {H':Hp} {F},H' d=some (.dT F)->∀ F',LsS H' (upd H' d (.dT F')):=fun h F'=>ls_upd h (fun _ z=>nomatch z) (fun _ z=>nomatch z) fun _ _ z=>nomatch z
  refine cut_for (fun σ' H'=>(∃ F,H' d=some (.dT F)/\FsAt H' F ts)/\(∀ a,a≠d->∀ o,H a=some o->H' a=some o)/\∃ x2 x3 x4 x5,σ'=[some (.ref l),some (.ref d),x2,x3,x4,x5]) (fun R hR=>?_) ?_
  ·refine ⟨_,rfl,l,rfl,⟨_,SqL.of (s1 _ _ hl)⟩,?_⟩
   refine for_list (K:=K) (a:=l) (xs:=xs) (fun i σ' H'=>(∃ F,H' d=some (.dT F)/\FsAt H' F (ts.take i)/\F.length<=i)/\(∀ a,a≠d->∀ o,H a=some o->H' a=some o)/\∃ x2 x3 x4 x5,σ'=[some (.ref l),some (.ref d),x2,x3,x4,x5]) ⟨⟨[],upd_same,fun k=>.inl ⟨rfl,rfl⟩,Nat.le_refl _⟩,fun a ha o h=>by rw [upd_ne ha];exact h,_,_,_,_,rfl⟩ (fun i σ' H' _ h=>SqL.of (h.2.1 _ (fun z=>by rw [z] at hl;rw [hl] at hd;cases hd) _ hl)) ?_ ?_
   ·rintro i x σ' H1 hx ⟨⟨F,hF,hFs,hFl⟩,sm,x2,x3,x4,x5,rfl⟩
    obtain ⟨t,ht,hO⟩:=hL.get hx
    have ls1:LsS H H1:=⟨fun b xs h=>sm b (fun z=>by rw [z,hd] at h;cases h) _ h,fun b xs h=>sm b (fun z=>by rw [z,hd] at h;cases h) _ h,fun b o x h=>sm b (fun z=>by rw [z,hd] at h;cases h) _ h⟩
    have hO1:=hO.kept ls1
    obtain ⟨hit,et⟩:=List.getElem?_eq_some_iff.mp ht
    rw [List.take_succ_eq_append_getElem hit,et]
    cases hO1 with
    | plain e _=>cases e
    | @shared p y _ _ hp hS =>
    have hS0:=hS
    cases hS with
    | @mk t0 vs _ ht0 hps =>
    have hda:=hd_at hps
    obtain ⟨vr,rfl⟩:=st_head hps
    refine ⟨p,_,rfl,SqT.of hp,rfl,_,_,rfl,_,_,rfl,rfl,?_⟩
    refine ⟨_,rfl,t0,_,_,_,rfl,rfl,SqT.of ht0,atI_nat (j:=0) rfl,(by show 2<=sizeLine;decide),fun pt hpt=>⟨pt,heads.map V.str,rfl,.inr (SqT.of upd_same),rfl,rfl,_,rfl,?_⟩⟩
    have s2:=same_upd (o:=.tup [V.str "def",V.str "kind"]) hpt
    have ne:∀ {a},H1 a=none->a≠d:=fun h z=>by rw [z,hF] at h;cases h
    rcases hda with ⟨hh,hn⟩ | ⟨hh,z,r,hz,ev⟩
    ·refine iteFb (in_strs (decide_eq_false hh)) ?_
     refine ⟨⟨F,s2 _ _ hF,fun k=>?_,by omega⟩,fun a ha o h=>s2 _ _ (sm a ha o h),_,_,_,_,rfl⟩
     rw [fstT_snoc,hn,if_neg (by simp),Option.or_none]
     exact hFs.kept s2.ls k
    ·refine iteTb (in_strs (decide_eq_true hh)) ?_
     have ev2:vr=.str z::r:=by injection ev with _ q;injection q
     subst ev2
     have ht2:=s2 _ _ ht0
     have hF2:=s2 _ _ hF
     have hFs2:=hFs.kept s2.ls
     have sm2:∀ a,a≠d->∀ o,H a=some o->upd H1 pt (.tup [V.str "def",V.str "kind"]) a=some o:=fun a ha o h=>s2 _ _ (sm a ha o h)
     have hS2:=hS0.kept s2.ls
     generalize upd H1 pt (.tup [V.str "def",V.str "kind"])=H2 at ht2 hF2 hFs2 sm2 hS2 ⊢
     refine ⟨_,rfl,t0,_,_,_,rfl,rfl,SqT.of ht2,atI_nat (j:=0) rfl,_,rfl,t0,_,_,_,rfl,rfl,SqT.of ht2,atI_nat (j:=2) rfl,(by show 2<=sizeLine;decide),fun q hq=>?_⟩
     have s3:=same_upd (o:=.tup [.str t.kw,.str z]) hq
     dsimp only [gName]
     refine ⟨_,rfl,d,rfl,.inr ⟨F,.inl (s3 _ _ hF2)⟩,_,rfl,(by show 0<=sizeLine;decide),fun q2 hq2=>?_⟩
     have s4:=same_upd (o:=.lst []) hq2
     have s34:=s3.trans s4
     have hkk:upd (upd H2 q (.tup [.str t.kw,.str z])) q2 (.lst []) q=some (.tup ((kKey (t.kw,z)).map kV)):=s4 _ _ upd_same
     refine ⟨_,DGet.t (k:=kKey (t.kw,z)) (s34 _ _ hF2) hkk,?_⟩
     obtain ⟨l3,ks,el3,hl3,hks⟩:∃ l3 ks,(valV F (kKey (t.kw,z))).getD (V.ref q2)=.ref l3/\KV1 (upd (upd H2 q (.tup [.str t.kw,.str z])) q2 (.lst [])) l3 ks/\((ks=[]/\fstT (t.kw,z) (ts.take i)=none)∨∃ v t',ks=[v]/\SAt H2 true v t'/\fstT (t.kw,z) (ts.take i)=some t'):=by
      rcases hFs2 (t.kw,z) with ⟨a,b⟩ | ⟨p',v',t',a,b,c,e⟩
      ·exact ⟨q2,[],by rw [a];rfl,⟨[],upd_same,rfl,fun i t k x=>by simp at x⟩,.inl ⟨rfl,b⟩⟩
      ·exact ⟨p',[v'],by rw [a];rfl,b.kept s34.ls,.inr ⟨v',t',rfl,c,e⟩⟩
     rw [el3]
     have hF4:=s34 _ _ hF2
     have ht4:=s34 _ _ ht2
     have hS4:=hS2.kept s34.ls
     have hFs4:=hFs2.kept s34.ls
     have sm4:∀ a,a≠d->∀ o,H a=some o->upd (upd H2 q (.tup [.str t.kw,.str z])) q2 (.lst []) a=some o:=fun a ha o h=>s34 _ _ (sm2 a ha o h)
     have hks4:((ks=[]/\fstT (t.kw,z) (ts.take i)=none)∨∃ v t',ks=[v]/\SAt (upd (upd H2 q (.tup [.str t.kw,.str z])) q2 (.lst [])) true v t'/\fstT (t.kw,z) (ts.take i)=some t'):=hks.imp_right fun hsl65=>by obtain ⟨v,t',a,b,c⟩:=hsl65;exact ⟨v,t',a,b.kept s34.ls,c⟩
     generalize upd (upd H2 q (.tup [.str t.kw,.str z])) q2 (.lst [])=H4 at hkk hl3 hF4 ht4 hS4 hFs4 sm4 hks4 ⊢
     dsimp only [gName]
     refine ⟨_,rfl,_,rfl,_,rfl,(by show 2<=sizeLine;decide),fun tp htp=>⟨(by show 1<=sizeLine;decide),fun lp hlp=>?_⟩⟩
     have s5:=same_upd (o:=.tup [.int 1,.ref t0]) htp
     have s6:=same_upd (o:=.lst [.ref tp]) hlp
     have s56:=s5.trans s6
     have hlp6:KV1 (upd (upd H4 tp (.tup [.int 1,.ref t0])) lp (.lst [.ref tp])) lp [.ref t0]:=⟨[tp],upd_same,rfl,fun i t k x y=>by
      match i with
      | 0=>cases (show some tp=some t from x);cases (show some (V.ref t0)=some k from y);exact s6 _ _ upd_same
      | i+1=>simp at x⟩
     have hl6:=hl3.kept s56.ls
     have hF6:=s56 _ _ hF4
     have ht6:=s56 _ _ ht4
     have hS6:=hS4.kept s56.ls
     have hFs6:=hFs4.kept s56.ls
     have hkk6:=s56 _ _ hkk
     have sm6:∀ a,a≠d->∀ o,H a=some o->upd (upd H4 tp (.tup [.int 1,.ref t0])) lp (.lst [.ref tp]) a=some o:=fun a ha o h=>s56 _ _ (sm4 a ha o h)
     have hks6:((ks=[]/\fstT (t.kw,z) (ts.take i)=none)∨∃ v t',ks=[v]/\SAt (upd (upd H4 tp (.tup [.int 1,.ref t0])) lp (.lst [.ref tp])) true v t'/\fstT (t.kw,z) (ts.take i)=some t'):=hks4.imp_right fun hsl66=>by obtain ⟨v,t',a,b,c⟩:=hsl66;exact ⟨v,t',a,b.kept s56.ls,c⟩
     generalize upd (upd H4 tp (.tup [.int 1,.ref t0])) lp (.lst [.ref tp])=H6 at hlp6 hl6 hF6 ht6 hS6 hFs6 hkk6 sm6 hks6 ⊢
     obtain ⟨ys,hy,hP2,hye⟩:=hl6.p1
     refine ⟨_,rfl,_,rfl,l3,ys,rfl,hy,hP2,?_⟩
     refine ⟨1,(if ys=[] then 0 else 1),?_,?_⟩
     ·split<;>rfl
     generalize hm:(1 ^^^ (1 &&& (if ys=[] then 0 else 1)):Nat)=m
     have hm1:m<=1/\∃ v t',ks++(if m=0 then [] else [V.ref t0])=[v]/\SAt H6 true v t'/\fstT (t.kw,z) (ts.take i++[t])=some t':=by
      rw [fstT_snoc,if_pos hz]
      rcases hks6 with ⟨e1,e2⟩ | ⟨v,t',e1,e2,e3⟩
      ·rw [if_pos (hye.mpr e1)] at hm
       subst hm e1
       exact ⟨by decide,_,t,rfl,hS6,by rw [e2];rfl⟩
      ·rw [if_neg (fun q=>by have:=hye.mp q;rw [e1] at this;cases this)] at hm
       subst hm e1
       exact ⟨by decide,v,t',rfl,e2,by rw [e3];rfl⟩
     obtain ⟨hmle,v,t',ekv,hSv,hfst⟩:=hm1
     refine ⟨lp,[.ref t0],m,rfl,hmle,hlp6,by simp,fun p3 H7 s7 hK7=>?_⟩
     obtain ⟨xs1,ys1,h1,h2,h3,h4,h5⟩:=(hl6.kept s7.ls).cat hK7
     refine ⟨l3,p3,xs1,ys1,rfl,rfl,h1,h2,?_,fun l8 hl8=>?_⟩
     ·have e3:=congrArg List.length ekv
      rw [List.length_append,<- h3,<- h4] at e3
      rw [e3];show 1<=sizeLine;decide
     have hK8:=h5 l8 hl8
     rw [ekv] at hK8
     have s8:=same_upd (o:=.lst (xs1++ys1)) hl8
     have s78:=s7.trans s8
     have hF8:=s78 _ _ hF6
     have hFs8:=hFs6.kept s78.ls
     have lsd:=hdl hF8 (putK F (kKey (t.kw,z)) (.ref l8))
     refine ⟨_,rfl,_,rfl,d,_,rfl,DPut.t hF8 (s78 _ _ hkk6) (small1000' (by omega)),⟨_,upd_same,fun k=>?_,?_⟩,fun a ha o h=>by rw [upd_ne ha];exact s78 _ _ (sm6 a ha o h),_,_,_,_,rfl⟩
     ·rw [valV_put]
      by_cases hk:k=(t.kw,z)
      ·subst hk
       rw [if_pos rfl]
       exact .inr ⟨l8,v,t',rfl,hK8.kept lsd,(hSv.kept s78.ls).kept lsd,hfst⟩
      ·rw [if_neg (fun q=>hk (kKey_inj q)),fstT_snoc,if_neg (fun q=>hk (by rw [hz] at q;exact (Option.some.inj q).symm)),Option.or_none]
       exact hFs8.kept lsd k
     ·have:=length_putK F (kKey (t.kw,z)) (V.ref l8);omega
   ·rintro σ' H1 ⟨⟨F,a,b,_⟩,sm,x2,x3,x4,x5,rfl⟩
    rw [List.take_of_length_le (by omega)] at b
    exact hR _ _ ⟨⟨F,a,b⟩,sm,_,_,_,_,rfl⟩
  ·rintro σ' H1 ⟨⟨F,a,b⟩,sm,x2,x3,x4,x5,rfl⟩
   refine ⟨_,rfl,kq d F _ (fun b o h=>sm b (fun z=>by rw [z,hd] at h;cases h) o h) a b⟩
end
section
variable {P:Program} {w:World} {K:PySem.W.Frag} {mg:Str->Option Value} {base:Heap} {AA:Adr} {DD:Fds}
noncomputable def _root_.Mm.Tr.prs:Tr->List (Str × Str)
 | .df _ _ _ ps _=>ps
 | .kd _ _ ps=>ps
 | _=>[]
noncomputable def spPO:Sp:=fun vs H Q _=>∃ (v:V) (t:Tr),vs=[v]/\SAt H true v t/\t.hd≠none/\∀ x,PrsAt H x t.prs->Q x H
noncomputable abbrev N_ZE:List Str:=["one"]
theorem sc_ZE:FnScope N_ZE ["one"] (defScope st_ZE):=⟨rfl,rfl,rfl,by decide +kernel,rfl,by decide +kernel,by decide +kernel⟩
theorem ok_po (T:All P w K mg AA DD):FnOk P w K mg base CX0 1 AA.ZE DD.ZE ["one"] spPO:=by
 refine T.F_ZE.ok sc_ZE (fun vs H Q E h=>?_) (fun cdv A outer s H vs Q E hr h=>?_)
 ·obtain ⟨v,t,rfl,_⟩:=h
  rfl
 ·obtain ⟨v,t,rfl,hS,hn,k⟩:=h
  have nd:=sc_ZE.nd
  obtain ⟨t0,vs,j,x,ev,ht,h0,hj,hp,hb⟩:∃ t0 vs j x,v=.ref t0/\H t0=some (.tup vs)/\vs[0]?=some (.str t.kw)/\vs[j]?=some x/\PrsAt H x t.prs/\((t.kw="def"/\j=4)∨(t.kw≠"def"/\j=3)):=by
   cases t with
   | df r n kd ps b=>obtain ⟨t0,vp,_,_,e1,ht,hp,_⟩:=s_df hS;exact ⟨t0,_,4,vp,e1,ht,rfl,rfl,hp,.inl ⟨rfl,rfl⟩⟩
   | kd r n ps=>obtain ⟨t0,vp,e1,ht,hp⟩:=s_kd hS;exact ⟨t0,_,3,vp,e1,ht,rfl,rfl,hp,.inr ⟨by show ("kind":Str)≠"def";decide,rfl⟩⟩
   | _=>exact absurd rfl hn
  subst ev
  refine ⟨_,(@pss_one _ _ _ (@ps_ret _ _ _ _ (pe_ifExp (@pt_cmpR _ _ _ _ _ _ _ _ op_eq (@pe_ix _ _ _ _ _ _ _ (ix_tupK (K:=K) rfl) (pv 0) pe_int (fun _ _=>rfl)) pe_str (nomark _)) (@pe_ix _ _ _ _ _ _ _ (ix_tupK (K:=K) rfl) (pv 0) pe_int (fun _ _=>rfl)) (@pe_ix _ _ _ _ _ _ _ (ix_tupK (K:=K) rfl) (pv 0) pe_int (fun _ _=>rfl))))),?_⟩
  refine ⟨_,rfl,t0,_,_,_,rfl,rfl,SqT.of ht,atI_nat (j:=0) h0,rfl,_,rfl,?_⟩
  rcases hb with ⟨hw,e⟩ | ⟨hw,e⟩<;>subst e
  ·exact iteTb (decide_eq_true (by rw [hw])) ⟨_,rfl,t0,_,_,_,rfl,rfl,SqT.of ht,atI_nat (j:=4) hj,k _ hp⟩
  ·exact iteFb (decide_eq_false fun z=>hw (by injection z)) ⟨_,rfl,t0,_,_,_,rfl,rfl,SqT.of ht,atI_nat (j:=3) hj,k _ hp⟩
noncomputable def givN (ts:List Tr):Nat:=match ts.getLast? with
 | some (.give _ _)=>1
 | _=>0
theorem givN_snoc (ts:List Tr) (t:Tr):givN (ts++[t])=if t.kw="give" then 1 else 0:=by
 unfold givN
 rw [List.getLast?_concat]
 cases t with
 | give r e=>rfl
 | _=>rw [if_neg (by simp only [Tr.kw];decide +kernel)]
theorem givN_01 (ts:List Tr):givN ts=0∨givN ts=1:=by
 unfold givN
 split
 ·exact .inr rfl
 ·exact .inl rfl
noncomputable def spGiv:Sp:=fun vs H Q _=>∃ (l:Addr) (xs:List V) (ts:List Tr),vs=[.ref l]/\H l=some (.lst xs)/\LAt H true xs ts/\Q (.int ((givN ts:Nat):Int)) H
noncomputable abbrev N_ZP:List Str:=["body","found","mask","one"]
theorem sc_ZP:FnScope N_ZP ["body"] (defScope st_ZP):=⟨rfl,rfl,rfl,by decide +kernel,rfl,by decide +kernel,by decide +kernel⟩
theorem ok_giv (T:All P w K mg AA DD):FnOk P w K mg base CX0 2 AA.ZP DD.ZP ["body"] spGiv:=by
 have GN:=ok_ZK (base:=base) T
 refine T.F_ZP.ok sc_ZP (fun vs H Q E h=>?_) (fun cdv A outer s H vs Q E hr h=>?_)
 ·obtain ⟨l,xs,ts,rfl,_⟩:=h
  rfl
 ·obtain ⟨l,xs,ts,rfl,hl,hL,k⟩:=h
  have nd:=sc_ZP.nd
  have hr1:Room 1 _:=hr
  refine ⟨_,(@pss_cons _ _ _ _ _ (@ps_set _ _ 1 _ _ _ _ nd rfl (Or.inl rfl) pe_int (by rfl) (by first | exact .inl rfl | exact .inr rfl | assumption)) (@pss_cons _ _ _ _ _ (@ps_for _ _ _ _ _ _ _ _ PassesOwn.never rfl (pi_list (pv 0)) (pg_tup rfl (pgs_cons (pg_name (i:=2) nd rfl (Or.inl rfl)) (pgs_cons (pg_name (i:=3) nd rfl (Or.inl rfl)) pgs_nil))) (@pss_one _ _ _ (@ps_if _ _ _ _ _ _ _ _ (@pt_cmpR _ _ _ _ _ _ _ _ op_eq (@pe_ix _ _ _ _ _ _ _ (ix_tupK (K:=K) rfl) (pv 3) pe_int (fun _ _=>rfl)) pe_str (nomark _)) (@pss_one _ _ _ (@ps_set _ _ 1 _ _ _ _ nd rfl (Or.inl rfl) (@pe_op _ _ _ _ _ _ _ _ op_or (pv 1) (pv 2)) (by rfl) (by first | exact .inl rfl | exact .inr rfl | assumption))) (@pss_one _ _ _ (@ps_set _ _ 1 _ _ _ _ nd rfl (Or.inl rfl) (pe_call GN hr1 rfl T.m_ZK T.k_ZK T.b_ZK .nil pass0 (@pa_cons _ _ _ _ _ (pv 1) (@pa_cons _ _ _ _ _ (pv 2) pa_nil (by rfl)) (by rfl))) (by rfl) (by first | exact .inl rfl | exact .inr rfl | assumption))))) (by intro _;rfl)) (@pss_one _ _ _ (@ps_ret _ _ _ _ (pv 1))))),?_⟩
  refine seq_c ?_
  dsimp only [gName]
  have hxl:=hL.length
  refine cut_for (fun σ' H'=>H'=H/\∃ x2 x3,σ'=[some (.ref l),some (.int ((givN ts:Nat):Int)),x2,x3]) (fun R hR=>?_) ?_
  ·refine ⟨_,rfl,l,rfl,⟨_,SqL.of hl⟩,?_⟩
   refine for_list (K:=K) (a:=l) (xs:=xs) (fun i σ' H'=>H'=H/\∃ x2 x3,σ'=[some (.ref l),some (.int ((givN (ts.take i):Nat):Int)),x2,x3]) ⟨rfl,_,_,rfl⟩ (fun i σ' H' _ h=>by rw [h.1];exact SqL.of hl) ?_ ?_
   ·rintro i x σ' H1 hx ⟨rfl,x2,x3,rfl⟩
    obtain ⟨t,ht,hO⟩:=hL.get hx
    obtain ⟨hit,et⟩:=List.getElem?_eq_some_iff.mp ht
    rw [List.take_succ_eq_append_getElem hit,et,givN_snoc]
    have h01:=givN_01 (ts.take i)
    generalize givN (ts.take i)=m at h01
    cases hO with
    | plain e _=>cases e
    | @shared p y _ _ hp hS =>
    cases hS with
    | @mk t0 vs _ ht0 hps =>
    obtain ⟨vr,rfl⟩:=st_head hps
    refine ⟨p,_,rfl,SqT.of hp,rfl,_,_,rfl,_,_,rfl,rfl,?_⟩
    refine ⟨_,rfl,t0,_,_,_,rfl,rfl,SqT.of ht0,atI_nat (j:=0) rfl,rfl,_,rfl,?_⟩
    by_cases hw:t.kw="give"
    ·refine iteTb (decide_eq_true (by rw [hw])) ?_
     refine ⟨_,rfl,_,rfl,_,_,rfl,rfl,rfl,some (.int 1),some (.ref t0),?_⟩
     rw [if_pos hw]
     rcases h01 with rfl | rfl<;>rfl
    ·refine iteFb (decide_eq_false fun z=>hw (by injection z)) ?_
     refine ⟨_,rfl,_,rfl,m,1,rfl,rfl,some (.int 1),some (.ref t0),?_⟩
     rw [if_neg hw]
     rcases h01 with rfl | rfl<;>rfl
   ·rintro σ' H1 ⟨rfl,x2,x3,rfl⟩
    rw [List.take_of_length_le (by omega)]
    exact hR _ _ ⟨rfl,_,_,rfl⟩
  ·rintro σ' H1 ⟨rfl,x2,x3,rfl⟩
   exact ⟨_,rfl,k⟩
end
section
variable {P:Program} {w:World} {K:PySem.W.Frag} {mg:Str->Option Value} {base:Heap} {AA:Adr} {DD:Fds}
noncomputable def mk10:List (Str × Str):=[("num","num"),("truth","truth"),("+","num"),("-","num"),("*","num"),("less","truth"),("same","truth"),("and","truth"),("or","truth"),("not","truth")]
noncomputable def ak8:List (Str × Str):=[("+","num"),("-","num"),("*","num"),("less","num"),("same","num"),("and","truth"),("or","truth"),("not","truth")]
noncomputable def hdE:Ex->Str
 | .num _=>"num"
 | .truth _=>"truth"
 | .not _=>"not"
 | .op w _ _=>w
 | _=>"num"
noncomputable def kdE (e:Ex):Str:=(mk10.lookup (hdE e)).getD "num"
noncomputable def askE (e:Ex):Str:=(ak8.lookup (hdE e)).getD "truth"
theorem ops_mk:∀ z∈ops7,(mk10.lookup z).isSome=true/\(ak8.lookup z).isSome=true/\z≠"name"/\z≠"do"/\z≠"new"/\z≠"of":=by decide +kernel
theorem hd_mk:∀ z∈(["num","truth","not"]:List Str),(mk10.lookup z).isSome=true/\z≠"name"/\z≠"do"/\z≠"new"/\z≠"of":=by decide +kernel
theorem ak_not:ak8.lookup ("not":Str)=some "truth":=by decide +kernel
theorem kd_head {H:Hp} {v:V} {e:Ex} (h:ExAt H v e) (hp:e.bas) (hn:∀ z,e≠.name z):∃ (t:Addr) (ys:List V),v=.ref t/\H t=some (.tup (.str (hdE e)::ys))/\hdE e≠"name"/\hdE e≠"do"/\hdE e≠"new"/\hdE e≠"of"/\mk10.lookup (hdE e)=some (kdE e)/\(e.kids≠[]->ak8.lookup (hdE e)=some (askE e)):=by
 have g:∀ {l:List (Str × Str)} {z d:Str},(l.lookup z).isSome=true->l.lookup z=some ((l.lookup z).getD d):=fun {l z d} hs=>by
  cases h:l.lookup z with
  | none=>rw [h] at hs;cases hs
  | some x=>rfl
 cases h with
 | num h =>
  obtain ⟨m1,n1,n2,n3,n4⟩:=hd_mk "num" (by simp)
  exact ⟨_,_,rfl,h,n1,n2,n3,n4,g m1,fun z=>absurd rfl z⟩
 | truth h =>
  obtain ⟨m1,n1,n2,n3,n4⟩:=hd_mk "truth" (by simp)
  exact ⟨_,_,rfl,h,n1,n2,n3,n4,g m1,fun z=>absurd rfl z⟩
 | name h=>exact (hn _ rfl).elim
 | not h a =>
  obtain ⟨m1,n1,n2,n3,n4⟩:=hd_mk "not" (by simp)
  exact ⟨_,_,rfl,h,n1,n2,n3,n4,g m1,fun _=>g (by show (ak8.lookup ("not":Str)).isSome=true;rw [ak_not];rfl)⟩
 | op h a b =>
  obtain ⟨m1,m2,n1,n2,n3,n4⟩:=ops_mk _ hp.1
  exact ⟨_,_,rfl,h,n1,n2,n3,n4,g m1,fun _=>g m2⟩
 | of h a=>exact hp.elim
 | many h l a=>exact hp.elim
mutual
noncomputable def _root_.Mm.Ex.dos:Ex->Prop
 | .num _=>True
 | .truth _=>True
 | .name _=>True
 | .not e=>e.dos
 | .op w a b=>w∈ops7/\a.dos/\b.dos
 | .of _ _=>False
 | .many w _ es=>w="do"/\dosL es
noncomputable def dosL:List Ex->Prop
 | []=>True
 | e::es=>e.dos/\dosL es
end
theorem dosL_mem:∀ {es:List Ex} {e:Ex},dosL es->e∈es->e.dos
 | x::es,e,g,h=>by
  rcases List.mem_cons.mp h with z | z
  ·subst z;exact g.1
  ·exact dosL_mem g.2 z
theorem dos_bas {e:Ex} (h:e.dos) (hm:∀ w z es,e≠.many w z es):e.bas:=by
 cases e with
 | op w a b=>exact ⟨h.1,trivial⟩
 | of n e=>exact h.elim
 | many w z es=>exact (hm _ _ _ rfl).elim
 | _=>trivial
theorem kids_dos {e:Ex} (hg:e.dos):∀ x∈e.kids,x.dos/\x.deep+1<=e.deep:=by
 cases e with
 | not e=>intro x h;simp [Ex.kids] at h;subst h;exact ⟨hg,by simp [Ex.deep]⟩
 | op w a b =>
  intro x h
  simp [Ex.kids] at h
  rcases h with rfl | rfl
  ·exact ⟨hg.2.1,by simp [Ex.deep];omega⟩
  ·exact ⟨hg.2.2,by simp [Ex.deep];omega⟩
 | _=>intro x h;simp [Ex.kids] at h
noncomputable abbrev Env:=Str->Option Kd
structure NmAt (H:Hp) (d:Addr) (ρ:Env) (n:Nat):Prop where
 ex:∃ kvs:List (Key × V),H d=some (.dK kvs)/\kvs.length<=n/\∀ z:Str,(valV kvs (.inr z)=none/\ρ z=none)∨∃ p,valV kvs (.inr z)=some (.ref p)/\KL H p (ρ z).toList
theorem NmAt.kept {H H':Hp} {d:Addr} {ρ:Env} {n:Nat} (h:NmAt H d ρ n) (s:LsK H H'):NmAt H' d ρ n:=by
 obtain ⟨⟨kvs,a,b,c⟩⟩:=h
 refine ⟨⟨kvs,s.dk _ _ a,b,fun z=>?_⟩⟩
 rcases c z with h | ⟨p,h1,h2⟩
 ·exact .inl h
 ·exact .inr ⟨p,h1,h2.kept s.ls⟩
theorem opt50 (o:Option Kd):o.toList.length<=50:=by cases o<;>simp
noncomputable def _root_.Mm.Tr.knd:Tr->Str
 | .df _ _ k _ _=>k
 | _=>""
noncomputable def kdX (ts:List Tr) (ρ:Env):Ex->Option Kd
 | .name z=>ρ z
 | .many _ z _=>(fstT ("def",z) ts).map fun t=>some t.knd
 | e=>some (some (kdE e))
noncomputable def askF (r:Nat) (k:Option Kd) (due:Str) (fs:List (List Key)):List (List Key):=if unfN k.toList due=0 then fs else addF fs (kk r "kind")
mutual
noncomputable def kfX (ts:List Tr) (ρ:Env) (r:Nat):Ex->List (List Key)->List (List Key)
 | .not e,fs=>askF r (kdX ts ρ e) "truth" (kfX ts ρ r e fs)
 | .op w a b,fs=>askF r (kdX ts ρ b) (askE (.op w a b)) (kfX ts ρ r b (askF r (kdX ts ρ a) (askE (.op w a b)) (kfX ts ρ r a fs)))
 | .many _ z es,fs=>match fstT ("def",z) ts with
  | none=>fs
  | some t=>kfZ ts ρ r es t.prs fs
 | .num _,fs=>fs
 | .truth _,fs=>fs
 | .name _,fs=>fs
 | .of _ _,fs=>fs
noncomputable def kfZ (ts:List Tr) (ρ:Env) (r:Nat):List Ex->List (Str × Str)->List (List Key)->List (List Key)
 | [],_,fs=>fs
 | e::es,qs,fs=>match qs with
  | []=>fs
  | q::qs=>kfZ ts ρ r es qs (askF r (kdX ts ρ e) q.2 (kfX ts ρ r e fs))
end
noncomputable def kfK (ts:List Tr) (ρ:Env) (r:Nat) (due:Str) (fs:List (List Key)) (c:Ex):List (List Key):=askF r (kdX ts ρ c) due (kfX ts ρ r c fs)
theorem kfX_kids (ts:List Tr) (ρ:Env) (r:Nat) (e:Ex) (h:e.bas) (fs:List (List Key)):kfX ts ρ r e fs=e.kids.foldl (kfK ts ρ r (askE e)) fs:=by
 cases e with
 | of n e=>exact h.elim
 | many w n es=>exact h.elim
 | _=>simp [kfX,Ex.kids,kfK]<;>rfl
theorem kfZ_fold (ts:List Tr) (ρ:Env) (r:Nat):∀ (es:List Ex) (qs:List (Str × Str)) (fs:List (List Key)),kfZ ts ρ r es qs fs=(es.zip qs).foldl (fun fs x=>kfK ts ρ r x.2.2 fs x.1) fs
 | [],qs,fs=>by simp [kfZ]
 | e::es,[],fs=>by simp [kfZ]
 | e::es,q::qs,fs=>by
  rw [kfZ,kfZ_fold ts ρ r es qs]
  rfl
theorem addF_len (fs:List (List Key)) (k:List Key):(addF fs k).length<=fs.length+1:=by
 unfold addF
 split
 ·omega
 ·simp
theorem addF_le (fs:List (List Key)) (k:List Key):fs.length<=(addF fs k).length:=by
 unfold addF
 split
 ·omega
 ·simp
theorem addF_has (fs:List (List Key)) (k:List Key):k∈addF fs k:=by
 unfold addF
 split
 ·rename_i h
  obtain ⟨x,hx,e⟩:=List.any_eq_true.mp h
  have e:x=k:=of_decide_eq_true e
  exact e ▸ hx
 ·simp
theorem addF_in {fs:List (List Key)} {k:List Key} (h:k∈fs):addF fs k=fs:=by
 unfold addF
 rw [if_pos (List.any_eq_true.mpr ⟨k,h,decide_eq_true rfl⟩)]
noncomputable def One (r:Nat) (fs gs:List (List Key)):Prop:=gs=fs∨gs=addF fs (kk r "kind")
theorem One.ask {r:Nat} (kd:Option Kd) (due:Str) {fs gs:List (List Key)} (h:One r fs gs):One r fs (askF r kd due gs):=by
 unfold askF
 split
 ·exact h
 ·rcases h with rfl | rfl
  ·exact .inr rfl
  ·exact .inr (addF_in (addF_has _ _))
theorem One.tr {r:Nat} {fs gs hs:List (List Key)} (h1:One r fs gs) (h2:One r gs hs):One r fs hs:=by
 rcases h2 with rfl | rfl
 ·exact h1
 ·rcases h1 with rfl | rfl
  ·exact .inr rfl
  ·exact .inr (addF_in (addF_has _ _))
mutual
theorem kfX_one (ts:List Tr) (ρ:Env) (r:Nat):∀ (e:Ex) (fs:List (List Key)),One r fs (kfX ts ρ r e fs)
 | .not e,fs=>by rw [kfX];exact (kfX_one ts ρ r e fs).ask _ _
 | .op w a b,fs=>by rw [kfX];exact (((kfX_one ts ρ r a fs).ask _ _).tr (kfX_one ts ρ r b _)).ask _ _
 | .many w z es,fs=>by
  rw [kfX]
  split
  ·exact .inl rfl
  ·exact kfZ_one ts ρ r es _ fs
 | .num _,fs=>.inl (by rw [kfX])
 | .truth _,fs=>.inl (by rw [kfX])
 | .name _,fs=>.inl (by rw [kfX])
 | .of _ _,fs=>.inl (by rw [kfX])
theorem kfZ_one (ts:List Tr) (ρ:Env) (r:Nat):∀ (es:List Ex) (qs:List (Str × Str)) (fs:List (List Key)),One r fs (kfZ ts ρ r es qs fs)
 | [],qs,fs=>.inl (by rw [kfZ])
 | e::es,[],fs=>.inl (by rw [kfZ])
 | e::es,q::qs,fs=>by
  rw [kfZ]
  exact ((kfX_one ts ρ r e fs).ask _ _).tr (kfZ_one ts ρ r es qs _)
end
theorem One.len {r:Nat} {fs gs:List (List Key)} (h:One r fs gs) {n:Nat} (hf:(addF fs (kk r "kind")).length<n):gs.length<n/\(addF gs (kk r "kind")).length<n:=by
 rcases h with rfl | rfl
 ·exact ⟨Nat.lt_of_le_of_lt (addF_le _ _) hf,hf⟩
 ·exact ⟨hf,by rw [addF_in (addF_has _ _)];exact hf⟩
theorem One.fold {r:Nat} (ts:List Tr) (ρ:Env) {fs:List (List Key)}:∀ (xs:List (Ex × (Str × Str))) (gs:List (List Key)),One r fs gs->One r fs (xs.foldl (fun fs x=>kfK ts ρ r x.2.2 fs x.1) gs)
 | [],gs,h=>h
 | x::xs,gs,h=>One.fold ts ρ xs _ ((h.tr (kfX_one ts ρ r x.1 gs)).ask _ _)
noncomputable def spKO (C:Addr) (k:Nat):Sp:=fun vs H Q _=>∃ (o dx d2:Addr) (F:List (List Key × V)) (ts:List Tr) (fs:List (List Key)) (v:V) (d3:Addr) (ρ:Env) (n:Nat) (e:Ex) (r:Nat),vs=[.ref o,.int 1,v,.int ((r:Nat):Int),.ref d3]/\ExAt H v e/\e.dos/\NmAt H d3 ρ n/\FsAt H F ts/\e.deep<k/\KkAt H C o dx d2 F fs/\(addF fs (kk r "kind")).length<900 /\
 ∀ p H',LsK H H'->KkAt H' C o dx d2 F (kfX ts ρ r e fs)->KL H' p (kdX ts ρ e).toList->Q (.ref p) H'
noncomputable def spAk (C:Addr) (k:Nat):Sp:=fun vs H Q _=>∃ (o dx d2:Addr) (F:List (List Key × V)) (ts:List Tr) (fs:List (List Key)) (v:V) (d3:Addr) (ρ:Env) (n:Nat) (e:Ex) (r:Nat) (due:Str),vs=[.ref o,.int 1,v,.str due,.int ((r:Nat):Int),.ref d3]/\ExAt H v e/\e.dos/\NmAt H d3 ρ n/\FsAt H F ts/\e.deep<k/\KkAt H C o dx d2 F fs/\(addF fs (kk r "kind")).length<900 /\
 ∀ H',LsK H H'->KkAt H' C o dx d2 F (kfK ts ρ r due fs e)->Q .non H'
noncomputable abbrev N_Zq:List Str:=["self","mask","e","due","at","names"]
theorem sc_Zq:FnScope N_Zq ["self","mask","e","due","at","names"] (defScope st_Zq):=⟨rfl,rfl,rfl,by decide +kernel,rfl,by decide +kernel,by decide +kernel⟩
theorem ok_akS (T:All P w K mg AA DD) (k:Nat) (GKO:FnOk P w K mg base CX0 (3*k+3) AA.Zg DD.Zg ["self","mask","e","at","names"] (spKO AA.c_KindLook k)) :
  FnOk P w K mg base CX0 (3*k+4) AA.Zq DD.Zq ["self","mask","e","due","at","names"] (spAk AA.c_KindLook k):=by
 have GU:=ok_ZR (base:=base) T
 have GO:=ok_knote (base:=base) T
 refine T.F_Zq.ok sc_Zq (fun vs H Q E h=>?_) (fun cdv A outer s H vs Q E hr h=>?_)
 ·obtain ⟨o,dx,d2,F,ts,fs,v,d3,ρ,n,e,r,due,rfl,_⟩:=h
  rfl
 ·obtain ⟨o,dx,d2,F,ts,fs,v,d3,ρ,n,e,r,due,rfl,hE,hp,hn,hF,hd,hk,hf,k'⟩:=h
  have nd:=sc_Zq.nd
  have hrK:Room (3*k+3) _:=hr
  have hr2:Room 2 _:=hrK.mono (by omega)
  refine ⟨_,(@pss_one _ _ _ (@ps_expr _ _ _ _ (pe_meth (pv 0) T.cl_KindLook T.M_Zm GO hr2 T.b_Zm .nil pass0 (@pa_cons _ _ _ _ _ (pe_call GU hr2 rfl T.m_ZR T.k_ZR T.b_ZR .nil pass0 (@pa_cons _ _ _ _ _ (pe_meth (pv 0) T.cl_KindLook T.M_Zg GKO hrK T.b_Zg .nil pass0 (@pa_cons _ _ _ _ _ (pv 1) (@pa_cons _ _ _ _ _ (pv 2) (@pa_cons _ _ _ _ _ (pv 4) (@pa_cons _ _ _ _ _ (pv 5) pa_nil (by rfl)) (by rfl)) (by rfl)) (by rfl))) (@pa_cons _ _ _ _ _ (pv 3) pa_nil (by rfl)) (by rfl))) (@pa_cons _ _ _ _ _ (pv 4) (@pa_cons _ _ _ _ _ pe_str pa_nil (by rfl)) (by rfl)) (by rfl))) (by rfl))),?_⟩
  obtain ⟨d1,hi,_⟩:=hk.ins
  refine ⟨_,rfl,o,dx,_,rfl,hi,rfl,_,rfl,o,dx,_,rfl,hi,rfl,?_⟩
  refine ⟨_,rfl,_,rfl,_,rfl,_,rfl,o,dx,d2,F,ts,fs,v,d3,ρ,n,e,r,rfl,hE,hp,hn,hF,hd,hk,hf,fun p H1 ls1 hk1 hK1=>?_⟩
  refine ⟨_,rfl,p,_,due,rfl,hK1,opt50 _,fun H2 s2=>⟨_,rfl,?_⟩⟩
  have hl:=((kfX_one ts ρ r e fs).len hf).1
  have h01:unfN (kdX ts ρ e).toList due=0∨unfN (kdX ts ρ e).toList due=1:=by
   unfold unfN
   split
   ·exact .inl rfl
   ·exact .inr rfl
  refine ⟨o,dx,d2,F,kfX ts ρ r e fs,unfN (kdX ts ρ e).toList due,r,"kind",rfl,hk1.same s2,by omega,?_⟩
  rcases h01 with hq | hq
  ·refine .inl ⟨hq,fun H3 ls3 hk3=>k' _ ((ls1.trans (lkS s2)).trans ls3) ?_⟩
   unfold kfK askF
   rw [if_pos hq];exact hk3
  ·refine .inr ⟨hq,fun H3 ls3 hk3=>k' _ ((ls1.trans (lkS s2)).trans ls3) ?_⟩
   unfold kfK askF
   rw [if_neg (by omega)];exact hk3
end
section
variable {P:Program} {w:World} {K:PySem.W.Frag} {mg:Str->Option Value} {base:Heap} {AA:Adr} {DD:Fds}
noncomputable def UseAt (H:Hp) (p:Addr) (o:Option Tr):Prop:=match o with
 | none=>KV1 H p []
 | some t=>∃ y,KV1 H p [y]/\SAt H true y t
noncomputable def spUR (C:Addr) (k:Nat):Sp:=fun vs H Q _=>∃ (o dx d2:Addr) (F:List (List Key × V)) (ts:List Tr) (fs:List (List Key)) (v:V) (d3:Addr) (ρ:Env) (n:Nat) (w z:Str) (es:List Ex) (r:Nat),vs=[.ref o,.int 1,v,.str "def",.int ((r:Nat):Int),.ref d3]/\ExAt H v (.many w z es)/\dosL es/\NmAt H d3 ρ n/\FsAt H F ts/\deepL es<k/\KkAt H C o dx d2 F fs/\(addF fs (kk r "kind")).length<900 /\
 ∀ p H',LsK H H'->KkAt H' C o dx d2 F (kfX ts ρ r (.many w z es) fs)->UseAt H' p (fstT ("def",z) ts)->Q (.ref p) H'
noncomputable abbrev N_Zc:List Str:=["self","mask","e","word","at","names","rows","here","one","inner","pair"]
theorem sc_Zc:FnScope N_Zc ["self","mask","e","word","at","names"] (defScope st_Zc):=⟨rfl,rfl,rfl,by decide +kernel,rfl,by decide +kernel,by decide +kernel⟩
theorem ok_urS (T:All P w K mg AA DD) (k:Nat) (GAK:FnOk P w K mg base CX0 (3*k+4) AA.Zq DD.Zq ["self","mask","e","due","at","names"] (spAk AA.c_KindLook k)) :
  FnOk P w K mg base CX0 (3*k+5) AA.Zc DD.Zc ["self","mask","e","word","at","names"] (spUR AA.c_KindLook k):=by
 have GB:=ok_kv (base:=base) T
 have GPO:=ok_po (base:=base) T
 refine T.F_Zc.ok sc_Zc (fun vs H Q E h=>?_) (fun cdv A outer s H vs Q E hr h=>?_)
 ·obtain ⟨o,dx,d2,F,ts,fs,v,d3,ρ,n,w,z,es,r,rfl,_⟩:=h
  rfl
 ·obtain ⟨o,dx,d2,F,ts,fs,v,d3,ρ,n,w,z,es,r,rfl,hE,hg,hn,hF,hd,hk,hf,kq⟩:=h
  have nd:=sc_Zc.nd
  have hrA:Room (3*k+4) _:=hr
  have hr1:Room 1 _:=hrA.mono (by omega)
  have hu:=Nat.lt_of_le_of_lt (Nat.add_le_add_left (show 1<=64 by decide) _) hr.units
  refine ⟨_,(@pss_cons _ _ _ _ _ (@ps_set _ _ 6 _ _ _ _ nd rfl (Or.inl rfl) (pe_call GB hr1 rfl T.m_Zt T.k_Zt T.b_Zt .nil pass0 (@pa_cons _ _ _ _ _ (pe_dget2 hu (pe_fld (pv 0) rfl) (@pe_tup _ _ _ _ _ (@pa_cons _ _ _ _ _ (pv 3) (@pa_cons _ _ _ _ _ (@pe_ix _ _ _ _ _ _ _ (ix_tupK (K:=K) rfl) (pv 2) pe_int (fun _ _=>rfl)) pa_nil (by rfl)) (by rfl))) (@pe_lst _ _ _ _ pa_nil) ⟨by rfl,by rfl,by rfl,by rfl⟩) (@pa_cons _ _ _ _ _ (pv 1) pa_nil (by rfl)) (by rfl))) (by rfl) (by first | exact .inl rfl | exact .inr rfl | assumption)) (@pss_cons _ _ _ _ _ (@ps_for _ _ _ _ _ _ _ _ PassesOwn.never rfl (pi_list (pv 6)) (pg_tup rfl (pgs_cons (pg_name (i:=7) nd rfl (Or.inl rfl)) (pgs_cons (pg_name (i:=8) nd rfl (Or.inl rfl)) pgs_nil))) (@pss_one _ _ _ (@ps_for _ _ _ _ _ _ _ _ PassesOwn.never rfl (pi_zip rfl T.n_zip (@pa_cons _ _ _ _ _ (@pe_ix _ _ _ _ _ _ _ (ix_tupK (K:=K) rfl) (pv 2) pe_int (fun _ _=>rfl)) (@pa_cons _ _ _ _ _ (pe_call GPO hr1 rfl T.m_ZE T.k_ZE T.b_ZE .nil pass0 (@pa_cons _ _ _ _ _ (pv 8) pa_nil (by rfl))) pa_nil (by rfl)) (by rfl))) (pg_tup rfl (pgs_cons (pg_name (i:=9) nd rfl (Or.inl rfl)) (pgs_cons (pg_name (i:=10) nd rfl (Or.inl rfl)) pgs_nil))) (@pss_one _ _ _ (@ps_expr _ _ _ _ (pe_meth (pv 0) T.cl_KindLook T.M_Zq GAK hrA T.b_Zq .nil pass0 (@pa_cons _ _ _ _ _ (pv 7) (@pa_cons _ _ _ _ _ (pv 9) (@pa_cons _ _ _ _ _ (@pe_ix _ _ _ _ _ _ _ (ix_tupK (K:=K) rfl) (pv 10) pe_int (fun _ _=>rfl)) (@pa_cons _ _ _ _ _ (pv 4) (@pa_cons _ _ _ _ _ (pv 5) pa_nil (by rfl)) (by rfl)) (by rfl)) (by rfl)) (by rfl))) (by rfl))) (by intro _;rfl))) (by intro _;rfl)) (@pss_one _ _ _ (@ps_ret _ _ _ _ (pv 6))))),?_⟩
  cases hE with
  | @many t l _ _ vs _ ht hl hvs =>
  obtain ⟨d1,hi,hd1,hne⟩:=hk.ins
  refine ⟨_,rfl,o,AA.c_KindLook,dx,_,_,rfl,hi,T.cl_KindLook,T.na_KindLook_firsts,rfl,d1,rfl,.inr ⟨F,.inl hd1⟩,?_⟩
  refine ⟨_,rfl,_,rfl,t,_,_,_,rfl,rfl,SqT.of ht,atI_nat (j:=1) rfl,(by show 2<=sizeLine;decide),fun q hq=>⟨(by show 0<=sizeLine;decide),fun q2 hq2=>?_⟩⟩
  have s1:=same_upd (o:=.tup [.str "def",.str z]) hq
  have s2:=same_upd (o:=.lst []) hq2
  have s12:=s1.trans s2
  have hkk:upd (upd H q (.tup [.str "def",.str z])) q2 (.lst []) q=some (.tup ((kKey ("def",z)).map kV)):=s2 _ _ upd_same
  refine ⟨_,DGet.t (k:=kKey ("def",z)) (s12 _ _ hd1) hkk,_,rfl,?_⟩
  obtain ⟨l3,ks,el3,hl3,hks⟩:∃ l3 ks,(valV F (kKey ("def",z))).getD (V.ref q2)=.ref l3/\KV1 (upd (upd H q (.tup [.str "def",.str z])) q2 (.lst [])) l3 ks/\((ks=[]/\fstT ("def",z) ts=none)∨∃ y t',ks=[y]/\SAt H true y t'/\fstT ("def",z) ts=some t'):=by
   rcases hF ("def",z) with ⟨a,b⟩ | ⟨p',v',t',a,b,c,e⟩
   ·exact ⟨q2,[],by rw [a];rfl,⟨[],upd_same,rfl,fun i t k x=>by simp at x⟩,.inl ⟨rfl,b⟩⟩
   ·exact ⟨p',[v'],by rw [a];rfl,b.kept s12.ls,.inr ⟨v',t',rfl,c,e⟩⟩
  rw [el3]
  refine ⟨l3,ks,1,rfl,Nat.le_refl _,hl3,?_,fun p H3 s3 hp3=>?_⟩
  ·rcases hks with ⟨e,_⟩ | ⟨y,t',e,_⟩<;>rw [e]<;>simp
  rw [if_neg (by decide)] at hp3
  have s13:=s12.trans s3
  have hk3:=hk.same s13
  have ht3:=s13 _ _ ht
  have hl3':=s13 _ _ hl
  have hvs3:=hvs.kept s13.ls.1
  have hn3:=hn.kept (lkS s13)
  have hF3:=hF.kept s13.ls
  have hks3:((ks=[]/\fstT ("def",z) ts=none)∨∃ y t',ks=[y]/\SAt H3 true y t'/\fstT ("def",z) ts=some t'):=hks.imp_right fun hsl67=>by obtain ⟨y,t',a,b,c⟩:=hsl67;exact ⟨y,t',a,b.kept s13.ls,c⟩
  have lk3:=lkS s13
  dsimp only [gName]
  refine cut_for (fun σ' H'=>LsK H3 H'/\KkAt H' AA.c_KindLook o dx d2 F (kfX ts ρ r (.many w z es) fs)/\∃ x7 x8 x9 x10,σ'=[some (.ref o),some (.int 1),some (.ref t),some (.str "def"),some (.int ((r:Nat):Int)),some (.ref d3),some (.ref p),x7,x8,x9,x10]) (fun R hR=>?_) ?_
  ·obtain ⟨us,hp,hul,hat⟩:=id hp3
   refine ⟨_,rfl,p,rfl,⟨_,SqL.of hp⟩,?_⟩
   refine for_list (K:=K) (a:=p) (xs:=us.map V.ref) (fun i σ' H'=>LsK H3 H'/\KkAt H' AA.c_KindLook o dx d2 F (if i=0 then fs else kfX ts ρ r (.many w z es) fs)/\∃ x7 x8 x9 x10,σ'=[some (.ref o),some (.int 1),some (.ref t),some (.str "def"),some (.int ((r:Nat):Int)),some (.ref d3),some (.ref p),x7,x8,x9,x10]) ⟨LsK.refl _,hk3,_,_,_,_,rfl⟩ (fun i σ' H' _ hsl68=>by obtain ⟨e,_⟩:=hsl68;exact SqL.of (e.ls.2 _ _ hp)) ?_ ?_
   ·rintro i x σ' H4 hx ⟨l4,hk4,x7,x8,x9,x10,rfl⟩
    have hi':i<us.length:=by
     have:=(List.getElem?_eq_some_iff.mp hx).1
     rw [List.length_map] at this;exact this
    rcases hks3 with ⟨e,_⟩ | ⟨y,t',e,hSy,hfst⟩
    ·rw [e] at hul;simp at hul;subst hul;simp at hi'
    rw [e] at hul hat
    have hi0:i=0:=by simp at hul;omega
    subst hi0
    rw [if_pos rfl] at hk4
    have ex:x=V.ref us[0]:=by rw [List.getElem?_map,List.getElem?_eq_getElem hi'] at hx;exact (Option.some.inj hx).symm
    subst ex
    have hu0:=l4.ls.1 _ _ (hat 0 us[0] y (List.getElem?_eq_getElem hi') rfl)
    refine ⟨us[0],_,rfl,SqT.of hu0,rfl,_,_,rfl,_,_,rfl,rfl,?_⟩
    refine ⟨_,rfl,t,_,_,_,rfl,rfl,SqT.of (l4.ls.1 _ _ ht3),atI_nat (j:=2) rfl,_,rfl,?_⟩
    have hhd:t'.hd≠none:=fun q=>by
     have:=List.find?_some hfst
     rw [of_decide_eq_true this] at q;cases q
    refine ⟨y,t',rfl,hSy.kept l4.ls,hhd,fun xp hxp=>?_⟩
    obtain ⟨tpp,uu,rfl,htpp,huul,huat⟩:=hxp
    refine ⟨l,tpp,vs,uu.map V.ref,rfl,SqT.of (l4.ls.1 _ _ hl3'),SqT.of htpp,?_⟩
    have ekf:kfX ts ρ r (.many w z es) fs=(es.zip t'.prs).foldl (fun fs x=>kfK ts ρ r x.2.2 fs x.1) fs:=by
     rw [kfX,hfst];exact kfZ_fold ts ρ r es t'.prs fs
    have hvl:=hvs3.len
    refine for_zip (K:=K) (a:=l) (b:=tpp) (xs:=vs) (ys:=uu.map V.ref) (fun j σ' H'=>LsK H4 H'/\j<=min vs.length uu.length/\KkAt H' AA.c_KindLook o dx d2 F (((es.zip t'.prs).take j).foldl (fun fs x=>kfK ts ρ r x.2.2 fs x.1) fs)/\∃ x9 x10,σ'=[some (.ref o),some (.int 1),some (.ref t),some (.str "def"),some (.int ((r:Nat):Int)),some (.ref d3),some (.ref p),some (.int 1),some y,x9,x10]) ⟨LsK.refl _,Nat.zero_le _,hk4,_,_,rfl⟩ (fun j σ' H' h=>⟨SqT.of (h.1.ls.1 _ _ (l4.ls.1 _ _ hl3')),SqT.of (h.1.ls.1 _ _ htpp)⟩) ?_ ?_
    ·rintro j x y2 σ' H5 tt hx5 hy5 ⟨l5,hj,hk5,x9,x10,rfl⟩ htt
     obtain ⟨c,hc,hcx⟩:=hvs3.get hx5
     rw [List.getElem?_map] at hy5
     obtain ⟨u5,hu5,rfl⟩:=Option.map_eq_some_iff.mp hy5
     have hju:=(List.getElem?_eq_some_iff.mp hu5).1
     have hjp:j<t'.prs.length:=by omega
     have hq5:t'.prs[j]?=some t'.prs[j]:=List.getElem?_eq_getElem hjp
     have htu:=huat j u5 t'.prs[j] hu5 hq5
     have hje:=(List.getElem?_eq_some_iff.mp hc).1
     have hjz:j<(es.zip t'.prs).length:=by rw [List.length_zip];omega
     have s6:=same_upd (o:=.tup [x,.ref u5]) htt
     have l6:=l5.trans (lkS s6)
     have hk6:=hk5.same s6
     obtain ⟨d1',hi6,_⟩:=hk6.ins
     have hone:=One.fold (r:=r) ts ρ ((es.zip t'.prs).take j) fs (.inl rfl)
     refine ⟨tt,_,rfl,SqT.of upd_same,rfl,_,_,rfl,_,_,rfl,rfl,?_⟩
     have hcm:c∈es:=List.mem_of_getElem? hc
     refine ⟨_,rfl,o,dx,_,rfl,hi6,rfl,_,rfl,_,rfl,_,rfl,u5,_,_,_,rfl,rfl,SqT.of (l6.ls.1 _ _ htu),atI_nat (j:=1) rfl,_,rfl,_,rfl,?_⟩
     refine ⟨o,dx,d2,F,ts,_,x,d3,ρ,n,c,r,t'.prs[j].2,rfl,(hcx.kept l4.ls.1).kept l6.ls.1,dosL_mem hg hcm,(hn3.kept l4).kept l6,(hF3.kept l4.ls).kept l6.ls,by have:=deepL_mem hcm;omega,hk6,(hone.len hf).2,fun H7 l7 hk7=>?_⟩
     refine ⟨l6.trans l7,by omega,?_,_,_,rfl⟩
     have ez:(es.zip t'.prs)[j]=(c,t'.prs[j]):=by
      rw [List.getElem_zip]
      obtain ⟨_,ec⟩:=List.getElem?_eq_some_iff.mp hc
      rw [ec]
     rw [List.take_succ_eq_append_getElem hjz,List.foldl_append,ez]
     exact hk7
    ·rintro σ' H5 ⟨l5,hj,hk5,x9,x10,rfl⟩
     refine ⟨l4.trans l5,?_,_,_,_,_,rfl⟩
     rw [if_neg (by omega),ekf]
     rw [List.length_map,List.take_of_length_le (by rw [List.length_zip];omega)] at hk5
     exact hk5
   ·rintro σ' H4 ⟨l4,hk4,x7,x8,x9,x10,rfl⟩
    refine hR _ _ ⟨l4,?_,_,_,_,_,rfl⟩
    rw [List.length_map,hul] at hk4
    rcases hks3 with ⟨e,h⟩ | ⟨y,t',e,hSy,h⟩
    ·rw [e,if_pos (by rfl)] at hk4
     rw [kfX,h];exact hk4
    ·rw [e,if_neg (by simp)] at hk4
     exact hk4
  ·rintro σ' H4 ⟨l4,hk4,x7,x8,x9,x10,rfl⟩
   refine ⟨_,rfl,kq p H4 (lk3.trans l4) hk4 ?_⟩
   have hp4:=hp3.kept l4.ls
   rcases hks3 with ⟨e,h⟩ | ⟨y,t',e,hSy,h⟩
   ·rw [h];rw [e] at hp4;exact hp4
   ·rw [h];rw [e] at hp4;exact ⟨y,hp4,hSy.kept l4.ls⟩
noncomputable abbrev N_Zg:List Str:=["self","mask","e","at","names","rows","found","here","kind","inner"]
theorem sc_Zg:FnScope N_Zg ["self","mask","e","at","names"] (defScope st_Zg):=⟨rfl,rfl,rfl,by decide +kernel,rfl,by decide +kernel,by decide +kernel⟩
theorem ok_koS (T:All P w K mg AA DD) (k:Nat) (GAK:FnOk P w K mg base CX0 (3*k+4) AA.Zq DD.Zq ["self","mask","e","due","at","names"] (spAk AA.c_KindLook k)) (GUR:FnOk P w K mg base CX0 (3*k+5) AA.Zc DD.Zc ["self","mask","e","word","at","names"] (spUR AA.c_KindLook k)) :
  FnOk P w K mg base CX0 (3*(k+1)+3) AA.Zg DD.Zg ["self","mask","e","at","names"] (spKO AA.c_KindLook (k+1)):=by
 have GI:=ok_ei (base:=base) T
 have GB:=ok_kv (base:=base) T
 refine T.F_Zg.ok sc_Zg (fun vs H Q E h=>?_) (fun cdv A outer s H vs Q E hr h=>?_)
 ·obtain ⟨o,dx,d2,F,ts,fs,v,d3,ρ,n,e,r,rfl,_⟩:=h
  rfl
 ·obtain ⟨o,dx,d2,F,ts,fs,v,d3,ρ,n,e,r,rfl,hE,hp,hn,hF,hd,hk,hf,k'⟩:=h
  have nd:=sc_Zg.nd
  have hrU:Room (3*k+5) _:=hr
  have hrA:Room (3*k+4) _:=hrU.mono (by omega)
  have hr1:Room 1 _:=hrA.mono (by omega)
  have hu:=Nat.lt_of_le_of_lt (Nat.add_le_add_left (show 1<=64 by decide) _) hr.units
  refine ⟨_,(@pss_cons _ _ _ _ _ (@ps_if _ _ _ _ _ _ _ _ (@pt_cmpR _ _ _ _ _ _ _ _ op_eq (@pe_ix _ _ _ _ _ _ _ (ix_tupK (K:=K) rfl) (pv 2) pe_int (fun _ _=>rfl)) pe_str (nomark _)) (@pss_one _ _ _ (@ps_ret _ _ _ _ (pe_call GB hr1 rfl T.m_Zt T.k_Zt T.b_Zt .nil pass0 (@pa_cons _ _ _ _ _ (pe_dget2 hu (pv 4) (@pe_ix _ _ _ _ _ _ _ (ix_tupK (K:=K) rfl) (pv 2) pe_int (fun _ _=>rfl)) (@pe_lst _ _ _ _ pa_nil) ⟨by rfl,by rfl,by rfl,by rfl⟩) (@pa_cons _ _ _ _ _ (pv 1) pa_nil (by rfl)) (by rfl))))) pss_nil) (@pss_cons _ _ _ _ _ (@ps_if _ _ _ _ _ _ _ _ (@pt_cmpR _ _ _ _ _ _ _ _ op_eq (@pe_ix _ _ _ _ _ _ _ (ix_tupK (K:=K) rfl) (pv 2) pe_int (fun _ _=>rfl)) pe_str (nomark _)) (@pss_cons _ _ _ _ _ (@ps_set _ _ 5 _ _ _ _ nd rfl (Or.inl rfl) (pe_meth (pv 0) T.cl_KindLook T.M_Zc GUR hrU T.b_Zc .nil pass0 (@pa_cons _ _ _ _ _ (pv 1) (@pa_cons _ _ _ _ _ (pv 2) (@pa_cons _ _ _ _ _ pe_str (@pa_cons _ _ _ _ _ (pv 3) (@pa_cons _ _ _ _ _ (pv 4) pa_nil (by rfl)) (by rfl)) (by rfl)) (by rfl)) (by rfl))) (by rfl) (by first | exact .inl rfl | exact .inr rfl | assumption)) (@pss_one _ _ _ (@ps_ret _ _ _ _ (pe_comp2 (xs:=["here","one"]) (defScope st_Zg) N_Zg [] [] rfl (by exact ⟨rfl,rfl,by decide +kernel,by decide +kernel,by decide +kernel,by decide +kernel,by decide +kernel,rfl,by decide +kernel⟩) rfl rfl (pi_list (pv 5)) (fun _ _ _ _=>(pg_tupK (K:=K) (n:=2) rfl rfl (pgs_cons (pg_name (i:=0) (show (["here","one"]:List Str).Nodup by decide +kernel) rfl (Or.inl rfl)) (pgs_cons (pg_name (i:=1) (show (["here","one"]:List Str).Nodup by decide +kernel) rfl (Or.inl rfl)) pgs_nil)))) (fun _ _ _ _=>pif_nil) (fun _ _ _ _=>(@pe_tup _ _ _ _ _ (@pa_cons _ _ _ _ _ (pv 0) (@pa_cons _ _ _ _ _ (@pe_ix _ _ _ _ _ _ _ (ix_tupK (K:=K) rfl) (pv 1) pe_int (fun _ _=>rfl)) pa_nil (by rfl)) (by rfl)))))))) pss_nil) (@pss_cons _ _ _ _ _ (@ps_if _ _ _ _ _ _ _ _ (@pt_cmpR _ _ _ _ _ _ _ _ op_eq (@pe_ix _ _ _ _ _ _ _ (ix_tupK (K:=K) rfl) (pv 2) pe_int (fun _ _=>rfl)) pe_str (nomark _)) pss_never pss_nil) (@pss_cons _ _ _ _ _ (@ps_if _ _ _ _ _ _ _ _ (@pt_cmpR _ _ _ _ _ _ _ _ op_eq (@pe_ix _ _ _ _ _ _ _ (ix_tupK (K:=K) rfl) (pv 2) pe_int (fun _ _=>rfl)) pe_str (nomark _)) pss_never pss_nil) (@pss_cons _ _ _ _ _ (@ps_for _ _ _ _ _ _ _ _ PassesOwn.never rfl (pi_tup (pe_call GI hr1 rfl T.m_ZF T.k_ZF T.b_ZF .nil pass0 (@pa_cons _ _ _ _ _ (pv 2) pa_nil (by rfl)))) (pg_name (i:=9) nd rfl (Or.inl rfl)) (@pss_one _ _ _ (@ps_expr _ _ _ _ (pe_meth (pv 0) T.cl_KindLook T.M_Zq GAK hrA T.b_Zq .nil pass0 (@pa_cons _ _ _ _ _ (pv 1) (@pa_cons _ _ _ _ _ (pv 9) (@pa_cons _ _ _ _ _ (pe_kixT T.D_ASKS rfl T.m_ASKS (@pe_ix _ _ _ _ _ _ _ (ix_tupK (K:=K) rfl) (pv 2) pe_int (fun _ _=>rfl)) (fun _ _=>rfl)) (@pa_cons _ _ _ _ _ (pv 3) (@pa_cons _ _ _ _ _ (pv 4) pa_nil (by rfl)) (by rfl)) (by rfl)) (by rfl)) (by rfl))) (by rfl))) (by intro _;rfl)) (@pss_one _ _ _ (@ps_ret _ _ _ _ (@pe_lst _ _ _ _ (@pa_cons _ _ _ _ _ (@pe_tup _ _ _ _ _ (@pa_cons _ _ _ _ _ (pv 1) (@pa_cons _ _ _ _ _ (pe_kixT T.D_MAKES rfl T.m_MAKES (@pe_ix _ _ _ _ _ _ _ (ix_tupK (K:=K) rfl) (pv 2) pe_int (fun _ _=>rfl)) (fun _ _=>rfl)) pa_nil (by rfl)) (by rfl))) pa_nil (by rfl)))))))))),?_⟩
  obtain ⟨d1,hi,_⟩:=hk.ins
  by_cases hnm:∃ z,e=.name z
  ·obtain ⟨z,rfl⟩:=hnm
   cases hE with
   | @name t _ ht =>
   refine ⟨_,rfl,t,_,_,_,rfl,rfl,SqT.of ht,atI_nat (j:=0) rfl,rfl,_,rfl,?_⟩
   refine iteTb (decide_eq_true rfl) ?_
   obtain ⟨kvs,hd3,hkn,hz⟩:=hn.ex
   refine ⟨_,rfl,d3,rfl,.inl ⟨kvs,.inl hd3⟩,_,rfl,t,_,_,_,rfl,rfl,SqT.of ht,atI_nat (j:=1) rfl,?_⟩
   refine ⟨(by show 0<=sizeLine;decide),fun q hq=>?_⟩
   have s1:=same_upd (o:=.lst []) hq
   refine ⟨_,DGet.k (k:=.inr z) (s1 _ _ hd3),_,rfl,?_⟩
   have fin:∀ q' H',Same (upd H q (.lst [])) H'->KL H' q' (if (1:Nat)=0 then [] else (ρ z).toList)->Q (.ref q') H':=fun q' H' s' hK=>by
    refine k' q' H' (lkS (s1.trans s')) ?_ hK
    have:=hk.same (s1.trans s')
    rw [kfX];exact this
   rcases hz z with ⟨h1,h2⟩ | ⟨p,h1,h2⟩
   ·rw [h1]
    refine spKV_of (E:=E0) (m:=1) (ks:=(ρ z).toList) (Nat.le_refl _) ?_ (opt50 _) fin
    rw [h2]
    exact ⟨[],upd_same,rfl,fun i t k x=>by simp at x⟩
   ·rw [h1]
    exact spKV_of (E:=E0) (m:=1) (ks:=(ρ z).toList) (Nat.le_refl _) (h2.same s1) (opt50 _) fin
  have hnm:∀ z,e≠.name z:=fun z q=>hnm ⟨z,q⟩
  by_cases hmn:∃ w z es,e=.many w z es
  ·obtain ⟨w,z,es,rfl⟩:=hmn
   obtain ⟨hw,hes⟩:=(show w="do"/\dosL es from hp)
   subst hw
   have hE0:=hE
   cases hE with
   | @many t l _ _ vs _ ht hl hvs =>
   refine ⟨_,rfl,t,_,_,_,rfl,rfl,SqT.of ht,atI_nat (j:=0) rfl,rfl,_,rfl,?_⟩
   refine iteFb (decide_eq_false (by intro q;injection q with q;exact absurd q (by decide))) ?_
   refine ⟨_,rfl,t,_,_,_,rfl,rfl,SqT.of ht,atI_nat (j:=0) rfl,rfl,_,rfl,?_⟩
   refine iteTb (decide_eq_true rfl) ?_
   refine ⟨_,rfl,o,dx,_,rfl,hi,rfl,_,rfl,_,rfl,_,rfl,_,rfl,?_⟩
   refine ⟨o,dx,d2,F,ts,fs,.ref t,d3,ρ,n,"do",z,es,r,rfl,hE0,hes,hn,hF,(by simp [Ex.deep] at hd;omega),hk,hf,fun p H1 l1 hk1 hu1=>?_⟩
   dsimp only [gName]
   have fin:∀ q' H',LsK H1 H'->KkAt H' AA.c_KindLook o dx d2 F (kfX ts ρ r (.many "do" z es) fs)->KL H' q' ((fstT ("def",z) ts).map fun t=>(some t.knd:Kd)).toList->Q (.ref q') H':=fun q' H' lk hk' hK=>k' q' H' (l1.trans lk) hk' hK
   cases hfs:fstT ("def",z) ts with
   | none =>
    rw [hfs] at hu1 fin
    obtain ⟨us,hp1,hul,_⟩:=(show KV1 H1 p [] from hu1)
    have eu:us=[]:=List.length_eq_zero_iff.mp hul
    subst eu
    refine ⟨_,rfl,p,rfl,⟨_,SqL.of hp1⟩,?_⟩
    refine comp2_list (K:=K) (a:=p) (xs:=[]) (fun i ys H'=>H'=H1/\ys=[]) ⟨rfl,rfl⟩ (fun i ys H' _ h=>by rw [h.1];exact SqL.of hp1) (fun i x ys H' hx=>by simp at hx) ?_
    rintro ys H' ⟨rfl,rfl⟩ q hq
    have sq:=same_upd (o:=.lst []) hq
    exact fin q _ (lkS sq) (hk1.same sq) ⟨[],upd_same,rfl,fun i t k x=>by simp at x⟩
   | some t' =>
    rw [hfs] at hu1 fin
    obtain ⟨y,⟨us,hp1,hul,hat⟩,hSy⟩:=(show ∃ y,KV1 H1 p [y]/\SAt H1 true y t' from hu1)
    obtain ⟨u0,rfl⟩:∃ u0,us=[u0]:=List.length_eq_one_iff.mp hul
    have hu0:=hat 0 u0 y rfl rfl
    have hhd:t'.hd=some (("def":Str),z):=by
     have q:=List.find?_some hfs
     exact of_decide_eq_true q
    obtain ⟨t1,x0,x1,x2,r1,rfl,ht1⟩:∃ t1 x0 x1 x2 r1,y=.ref t1/\H1 t1=some (.tup (x0::x1::x2::.str t'.knd::r1)):=by
     cases hSy with
     | @mk t1 vs _ ht1 hps =>
     cases t' with
     | df r n k ps b=>cases hps with | cons a b=>cases b with | cons c d=>cases d with | cons e f=>cases f with | cons g h=>cases g;exact ⟨t1,_,_,_,_,rfl,ht1⟩
     | kd r n ps=>exact absurd (congrArg Prod.fst (Option.some.inj hhd)) (show ¬ ("kind":Str)="def" by decide)
     | _=>cases hhd
    refine ⟨_,rfl,p,rfl,⟨_,SqL.of hp1⟩,?_⟩
    refine comp2_list (K:=K) (a:=p) (xs:=[.ref u0]) (fun i ys H'=>Same H1 H'/\i<=1/\((i=0/\ys=[])∨(i=1/\∃ u,ys=[.ref u]/\H' u=some (.tup [.int 1,.str t'.knd])))) ⟨Same.refl _,Nat.zero_le _,.inl ⟨rfl,rfl⟩⟩ (fun i ys H' _ h=>SqL.of (h.1 _ _ hp1)) ?_ ?_
    ·rintro i x ys H2 hx ⟨sm,_,h01⟩
     have hi0:i=0:=by have:=(List.getElem?_eq_some_iff.mp hx).1;simpa using this
     subst hi0
     have ex:x=V.ref u0:=by simpa using hx.symm
     subst ex
     have ys0:ys=[]:=by
      rcases h01 with ⟨_,e⟩ | ⟨e,_⟩
      ·exact e
      ·cases e
     subst ys0
     intro os hos
     obtain ⟨a,b,rfl⟩:∃ a b,os=[a,b]:=by
      match os,hos with
      | [a,b],_=>exact ⟨a,b,rfl⟩
     refine ⟨u0,_,rfl,SqT.of (sm _ _ hu0),rfl,_,_,rfl,_,_,rfl,rfl,⟨[_,_],rfl,rfl⟩,?_⟩
     refine tYes_ok ?_
     rw [if_pos rfl]
     refine ⟨_,rfl,_,rfl,t1,_,_,_,rfl,rfl,SqT.of (sm _ _ ht1),atI_nat (j:=3) rfl,(by show 2<=sizeLine;decide),fun q2 hq2=>?_⟩
     have s3:=same_upd (o:=.tup [.int 1,.str t'.knd]) hq2
     exact ⟨(by show 0<sizeLine;decide),sm.trans s3,Nat.le_refl _,.inr ⟨rfl,q2,rfl,upd_same⟩⟩
    ·rintro ys H2 ⟨sm,_,h01⟩ q hq
     rcases h01 with ⟨e,_⟩ | ⟨_,u,rfl,hu2⟩
     ·simp at e
     have sq:=same_upd (o:=.lst [.ref u]) hq
     refine fin q _ (lkS (sm.trans sq)) (hk1.same (sm.trans sq)) ⟨[u],upd_same,rfl,fun i t k x y=>?_⟩
     match i with
     | 0=>cases (show some u=some t from x);cases (show some (V.str t'.knd)=some k from y);exact sq _ _ hu2
     | i+1=>simp at x
  have hbas:e.bas:=dos_bas hp fun w z es q=>hmn ⟨w,z,es,q⟩
  obtain ⟨t,ys,rfl,ht,n1,n2,n3,n4,lm,la⟩:=kd_head hE hbas hnm
  have ekd:kdX ts ρ e=some (some (kdE e)):=by
   cases e with
   | name z=>exact (hnm _ rfl).elim
   | many w z es=>exact hbas.elim
   | _=>rfl
  rw [ekd] at k'
  refine ⟨_,rfl,t,_,_,_,rfl,rfl,SqT.of ht,atI_nat (j:=0) rfl,rfl,_,rfl,?_⟩
  refine iteFb (decide_eq_false fun q=>n1 (by injection q)) ?_
  refine ⟨_,rfl,t,_,_,_,rfl,rfl,SqT.of ht,atI_nat (j:=0) rfl,rfl,_,rfl,?_⟩
  refine iteFb (decide_eq_false fun q=>n2 (by injection q)) ?_
  refine ⟨_,rfl,t,_,_,_,rfl,rfl,SqT.of ht,atI_nat (j:=0) rfl,rfl,_,rfl,?_⟩
  refine iteFb (decide_eq_false fun q=>n3 (by injection q)) ?_
  refine ⟨_,rfl,t,_,_,_,rfl,rfl,SqT.of ht,atI_nat (j:=0) rfl,rfl,_,rfl,?_⟩
  refine iteFb (decide_eq_false fun q=>n4 (by injection q)) ?_
  refine ⟨_,rfl,_,e,rfl,hE,hbas,fun tk zs H2 s2 htk hys=>⟨tk,rfl,⟨_,SqT.of htk⟩,?_⟩⟩
  have hkl:=hys.len
  have hk2:=hk.same s2
  have ht2:=s2 _ _ ht
  have kfl:∀ i,One r fs ((e.kids.take i).foldl (kfK ts ρ r (askE e)) fs):=by
   intro i
   generalize e.kids.take i=cs
   have go:∀ (cs:List Ex) (gs:List (List Key)),One r fs gs->One r fs (cs.foldl (kfK ts ρ r (askE e)) gs):=by
    intro cs
    induction cs with
    | nil=>exact fun gs h=>h
    | cons c cs ih=>exact fun gs h=>ih _ ((h.tr (kfX_one ts ρ r c gs)).ask _ _)
   exact go cs fs (.inl rfl)
  refine for_tup (K:=K) (a:=tk) (xs:=zs) (fun i σ' H'=>LsK H H'/\LsK H2 H'/\(∃ x5 x6 x7 x8 x9,σ'=[some (.ref o),some (.int 1),some (.ref t),some (.int ((r:Nat):Int)),some (.ref d3),x5,x6,x7,x8,x9])/\KkAt H' AA.c_KindLook o dx d2 F ((e.kids.take i).foldl (kfK ts ρ r (askE e)) fs)) ⟨lkS s2,LsK.refl _,⟨_,_,_,_,_,rfl⟩,by simpa using hk2⟩ (fun i σ' H' _ h=>SqT.of (h.2.1.ls.1 _ _ htk)) ?_ ?_
  ·rintro i x σ' H3 hx ⟨l3,l23,⟨x5,x6,x7,x8,x9,rfl⟩,hk3⟩
   obtain ⟨c,hc,hcx⟩:=hys.get hx
   have hcm:=kids_dos hp c (List.mem_of_getElem? hc)
   obtain ⟨d1,hi3,_⟩:=hk3.ins
   have la':=la (fun z=>by rw [z] at hc;simp at hc)
   have hll:=((kfl i).len hf).2
   refine ⟨_,rfl,o,dx,_,rfl,hi3,rfl,_,rfl,_,rfl,_,rfl,t,_,_,_,rfl,rfl,SqT.of (l23.ls.1 _ _ ht2),atI_nat (j:=0) rfl,hdE e,askE e,rfl,la',_,rfl,_,rfl,o,dx,d2,F,ts,_,x,d3,ρ,n,c,r,askE e,rfl,hcx.kept l23.ls.1,hcm.1,hn.kept l3,hF.kept l3.ls,by omega,hk3,hll,fun H' ls hk'=>?_⟩
   refine ⟨l3.trans ls,l23.trans ls,⟨_,_,_,_,_,rfl⟩,?_⟩
   obtain ⟨hi,ec⟩:=List.getElem?_eq_some_iff.mp hc
   rw [List.take_succ_eq_append_getElem hi,ec,List.foldl_append]
   exact hk'
  ·rintro σ' H3 ⟨l3,l23,⟨x5,x6,x7,x8,x9,rfl⟩,hk3⟩
   rw [List.take_of_length_le (by omega),<- kfX_kids ts ρ r e hbas] at hk3
   dsimp only
   refine ⟨_,rfl,_,rfl,t,_,_,_,rfl,rfl,SqT.of (l23.ls.1 _ _ ht2),atI_nat (j:=0) rfl,hdE e,kdE e,rfl,lm,(by show 2<=sizeLine;decide),fun t3 ht3=>⟨(by show 1<=sizeLine;decide),fun p hp3=>?_⟩⟩
   have s3:=same_upd (o:=.tup [.int 1,.str (kdE e)]) ht3
   have s4:=same_upd (o:=.lst [.ref t3]) hp3
   refine k' p _ (l3.trans (lkS (s3.trans s4))) (hk3.same (s3.trans s4)) ⟨[t3],upd_same,rfl,fun i t k x y=>?_⟩
   match i with
   | 0=>cases (show some t3=some t from x);cases (show some (V.str (kdE e))=some k from y);exact s4 _ _ upd_same
   | i+1=>simp at x
theorem ok_ko0 (T:All P w K mg AA DD):FnOk P w K mg base CX0 3 AA.Zg DD.Zg ["self","mask","e","at","names"] (spKO AA.c_KindLook 0):=by
 have no:∀ vs H Q E,¬ spKO AA.c_KindLook 0 vs H Q E:=fun vs H Q E h=>by
  obtain ⟨o,dx,d2,F,ts,fs,v,d3,ρ,n,e,r,_,_,_,_,_,z,_⟩:=h
  omega
 exact T.F_Zg.ok sc_Zg (fun vs H Q E h=>(no _ _ _ _ h).elim) (fun cdv A outer s H vs Q E hr h=>(no _ _ _ _ h).elim)
theorem ok_ko (T:All P w K mg AA DD):∀ k:Nat,FnOk P w K mg base CX0 (3*k+3) AA.Zg DD.Zg ["self","mask","e","at","names"] (spKO AA.c_KindLook k)
 | 0=>ok_ko0 T
 | k+1=>ok_koS T k (ok_akS T k (ok_ko T k)) (ok_urS T k (ok_akS T k (ok_ko T k)))
end
section
variable {P:Program} {w:World} {K:PySem.W.Frag} {mg:Str->Option Value} {base:Heap} {AA:Adr} {DD:Fds}
structure LsD (d:Addr) (H H':Hp):Prop where
 ls:LsS H H'
 dk:∀ a kv,a≠d->H a=some (.dK kv)->H' a=some (.dK kv)
theorem LsD.refl (d:Addr) (H:Hp):LsD d H H:=⟨LsS.refl _,fun _ _ _ h=>h⟩
theorem LsD.trans {d:Addr} {H H1 H2:Hp} (a:LsD d H H1) (b:LsD d H1 H2):LsD d H H2:=⟨a.ls.trans b.ls,fun _ _ n h=>b.dk _ _ n (a.dk _ _ n h)⟩
theorem LsK.d {H H':Hp} (s:LsK H H') {d:Addr}:LsD d H H':=⟨s.ls,fun _ _ _ h=>s.dk _ _ h⟩
noncomputable def setE (ρ:Env) (z:Str) (k:Option Kd):Env:=fun x=>if x=z then (match ρ z with | some k0=>some k0 | none=>k) else ρ x
noncomputable def setF (r:Nat) (ρ:Env) (z:Str) (k:Option Kd) (fs:List (List Key)):List (List Key):=match k with
 | some (some kd)=>askF r (ρ z) kd fs
 | _=>fs
theorem unfN_01 (ks:List Kd) (due:Str):unfN ks due=0∨unfN ks due=1:=by
 unfold unfN
 split
 ·exact .inl rfl
 ·exact .inr rfl
theorem setO_at {H:Hp} {v:V} {r:Nat} {z:Str} {e:Ex} (h:SAt H true v (.set r z e)):∃ t0 x,v=.ref t0/\H t0=some (.tup [.str "set",.int ((r:Nat):Int),.str z,x]):=by
 obtain ⟨t0,x,e1,ht,_⟩:=s_set h
 exact ⟨t0,x,e1,ht⟩
theorem NmAt.put {H:Hp} {d:Addr} {ρ:Env} {n:Nat} (h:NmAt H d ρ n) {z:Str} {k:Option Kd} {l:Addr} {ks:List Kd} (hl:KL H l ks) (e:ks=(setE ρ z k z).toList) (hn:n<900) :
  ∃ H',DPut H d (.str z) (.ref l) H'/\LsS H H'/\NmAt H' d (setE ρ z k) (n+1)/\(∀ a,a≠d->H' a=H a)/\∃ kv,H d=some (.dK kv):=by
 obtain ⟨⟨kvs,a,b,c⟩⟩:=h
 have lsd:∀ ob',LsS H (upd H d ob'):=fun ob'=>ls_upd a (fun _ z=>nomatch z) (fun _ z=>nomatch z) fun _ _ z=>nomatch z
 refine ⟨_,DPut.k (k:=.inr z) a (small1000' (by omega)),lsd _,⟨⟨_,upd_same,?_,fun x=>?_⟩⟩,fun a ha=>upd_ne ha,kvs,a⟩
 ·exact Nat.le_trans (length_putK _ _ _) (by omega)
 ·rw [valV_put]
  by_cases hx:x=z
  ·subst hx
   rw [if_pos rfl]
   exact .inr ⟨l,rfl,by rw [<- e];exact hl.kept (lsd _)⟩
  ·rw [if_neg (fun q=>hx (by injection q))]
   have ex:setE ρ z k x=ρ x:=by unfold setE;rw [if_neg hx]
   rw [ex]
   rcases c x with q | ⟨p,q1,q2⟩
   ·exact .inl q
   ·exact .inr ⟨p,q1,q2.kept (lsd _)⟩
noncomputable def spLSet (C:Addr):Sp:=fun vs H Q _=>∃ (o dx d2 d3 p:Addr) (F:List (List Key × V)) (fs:List (List Key)) (ρ:Env) (n r:Nat) (v:V) (z:Str) (e:Ex) (k:Option Kd),vs=[.ref o,v,.ref p,.ref d3]/\SAt H true v (.set r z e)/\KL H p k.toList/\KkAt H C o dx d2 F fs/\NmAt H d3 ρ n/\fs.length<900/\n<900 /\
 ∀ H',LsD d3 H H'->KkAt H' C o dx d2 F (setF r ρ z k fs)->NmAt H' d3 (setE ρ z k) (n+1)->Q .non H'
noncomputable abbrev N_Zf:List Str:=["self","one","kinds","names","known","mask","kind"]
theorem sc_Zf:FnScope N_Zf ["self","one","kinds","names"] (defScope st_Zf):=⟨rfl,rfl,rfl,by decide +kernel,rfl,by decide +kernel,by decide +kernel⟩
theorem ok_lset (T:All P w K mg AA DD):FnOk P w K mg base CX0 3 AA.Zf DD.Zf ["self","one","kinds","names"] (spLSet AA.c_KindLook):=by
 have GU:=ok_ZR (base:=base) T
 have GO:=ok_knote (base:=base) T
 have GA:=ok_all1 (base:=base) T
 have GB:=ok_kv (base:=base) T
 have GN:=ok_ZK (base:=base) T
 refine T.F_Zf.ok sc_Zf (fun vs H Q E h=>?_) (fun cdv A outer s H vs Q E hr h=>?_)
 ·obtain ⟨o,dx,d2,d3,p,F,fs,ρ,n,r,v,z,e,k,rfl,_⟩:=h
  rfl
 ·obtain ⟨o,dx,d2,d3,p,F,fs,ρ,n,r,v,z,e,k,rfl,hS,hK,hk,hn,hf,hn9,kq⟩:=h
  have nd:=sc_Zf.nd
  have hr2:Room 2 _:=hr
  have hr1:Room 1 _:=hr2.mono (by decide)
  have hu:=Nat.lt_of_le_of_lt (Nat.add_le_add_left (show 1<=64 by decide) _) hr.units
  refine ⟨_,(@pss_cons _ _ _ _ _ (@ps_set _ _ 4 _ _ _ _ nd rfl (Or.inl rfl) (pe_dget2 hu (pv 3) (@pe_ix _ _ _ _ _ _ _ (ix_tupK (K:=K) rfl) (pv 1) pe_int (fun _ _=>rfl)) (@pe_lst _ _ _ _ pa_nil) ⟨by rfl,by rfl,by rfl,by rfl⟩) (by rfl) (by first | exact .inl rfl | exact .inr rfl | assumption)) (@pss_cons _ _ _ _ _ (@ps_for _ _ _ _ _ _ _ _ PassesOwn.never rfl (pi_list (pv 2)) (pg_tup rfl (pgs_cons (pg_name (i:=5) nd rfl (Or.inl rfl)) (pgs_cons (pg_name (i:=6) nd rfl (Or.inl rfl)) pgs_nil))) (@pss_one _ _ _ (@ps_if _ _ _ _ _ _ _ _ (pt_cmp (pc_notN (pv 6))) (@pss_one _ _ _ (@ps_expr _ _ _ _ (pe_meth (pv 0) T.cl_KindLook T.M_Zm GO hr2 T.b_Zm .nil pass0 (@pa_cons _ _ _ _ _ (pe_call GU hr2 rfl T.m_ZR T.k_ZR T.b_ZR .nil pass0 (@pa_cons _ _ _ _ _ (pe_call GB hr1 rfl T.m_Zt T.k_Zt T.b_Zt .nil pass0 (@pa_cons _ _ _ _ _ (pv 4) (@pa_cons _ _ _ _ _ (pv 5) pa_nil (by rfl)) (by rfl))) (@pa_cons _ _ _ _ _ (pv 6) pa_nil (by rfl)) (by rfl))) (@pa_cons _ _ _ _ _ (@pe_ix _ _ _ _ _ _ _ (ix_tupK (K:=K) rfl) (pv 1) pe_int (fun _ _=>rfl)) (@pa_cons _ _ _ _ _ pe_str pa_nil (by rfl)) (by rfl)) (by rfl))) (by rfl))) pss_nil)) (by intro _;rfl)) (@pss_one _ _ _ (ps_dput hu (pv 3) (@pe_ix _ _ _ _ _ _ _ (ix_tupK (K:=K) rfl) (pv 1) pe_int (fun _ _=>rfl)) (@pe_op _ _ _ _ _ _ _ _ op_cat (pv 4) (pe_call GB hr1 rfl T.m_Zt T.k_Zt T.b_Zt .nil pass0 (@pa_cons _ _ _ _ _ (pv 2) (@pa_cons _ _ _ _ _ (pe_call GN hr1 rfl T.m_ZK T.k_ZK T.b_ZK .nil pass0 (@pa_cons _ _ _ _ _ (pe_call GA hr1 rfl T.m_ZN T.k_ZN T.b_ZN .nil pass0 (@pa_cons _ _ _ _ _ (pv 2) pa_nil (by rfl))) (@pa_cons _ _ _ _ _ (pe_call GA hr1 rfl T.m_ZN T.k_ZN T.b_ZN .nil pass0 (@pa_cons _ _ _ _ _ (pv 4) pa_nil (by rfl))) pa_nil (by rfl)) (by rfl))) pa_nil (by rfl)) (by rfl)))) rfl)))),?_⟩
  obtain ⟨t0,x0,rfl,ht0⟩:=setO_at hS
  obtain ⟨kvs,hd3,hkn,hz⟩:=hn.ex
  refine ⟨_,rfl,d3,rfl,.inl ⟨kvs,.inl hd3⟩,_,rfl,t0,_,_,_,rfl,rfl,SqT.of ht0,atI_nat (j:=2) rfl,?_⟩
  refine ⟨(by show 0<=sizeLine;decide),fun q hq=>?_⟩
  have s1:=same_upd (o:=.lst []) hq
  refine ⟨_,DGet.k (k:=.inr z) (s1 _ _ hd3),?_⟩
  have hkn1:∃ l,(valV kvs (Sum.inr z)).getD (V.ref q)=.ref l/\KL (upd H q (.lst [])) l (ρ z).toList:=by
   rcases hz z with ⟨h1,h2⟩ | ⟨l,h1,h2⟩
   ·refine ⟨q,by rw [h1];rfl,?_⟩
    rw [h2]
    exact ⟨[],upd_same,rfl,fun i t k x=>by simp at x⟩
   ·exact ⟨l,by rw [h1];rfl,h2.same s1⟩
  obtain ⟨l,el,hKl⟩:=hkn1
  rw [el]
  have hk1:=hk.same s1
  have hn1:=hn.kept (lkS s1)
  have hK1:=hK.same s1
  have ht1:=s1 _ _ ht0
  have ls1:=lkS s1
  generalize upd H q (.lst [])=H1 at hKl hk1 hn1 hK1 ht1 ls1 ⊢
  dsimp only [gName]
  refine cut_for (fun σ' H'=>LsK H1 H'/\KkAt H' AA.c_KindLook o dx d2 F (setF r ρ z k fs)/\∃ s5 s6:Option V,σ'=[some (.ref o),some (.ref t0),some (.ref p),some (.ref d3),some (.ref l),s5,s6]) (fun R hRR=>?_) ?_
  ·obtain ⟨ts,hp,htl,hat⟩:=hK1.at
   refine ⟨_,rfl,p,rfl,⟨_,SqL.of hp⟩,?_⟩
   have hle:ts.length<=1:=by rw [htl];cases k<;>simp
   refine for_list (K:=K) (a:=p) (xs:=ts.map V.ref) (fun i σ' H'=>LsK H1 H'/\KkAt H' AA.c_KindLook o dx d2 F (if i=0 then fs else setF r ρ z k fs)/\∃ s5 s6:Option V,σ'=[some (.ref o),some (.ref t0),some (.ref p),some (.ref d3),some (.ref l),s5,s6]) ⟨LsK.refl _,hk1,none,none,rfl⟩ (fun i σ' H' _ hsl69=>by obtain ⟨e,_⟩:=hsl69;exact SqL.of (e.ls.2 _ _ hp)) ?_ ?_
   ·rintro i x σ' H2 hx ⟨l2,hk2,s5,s6,rfl⟩
    have hi:i<ts.length:=by
     have:=(List.getElem?_eq_some_iff.mp hx).1
     rw [List.length_map] at this;exact this
    have hi0:i=0:=by omega
    subst hi0
    rw [if_pos rfl] at hk2
    have ex:x=V.ref ts[0]:=by rw [List.getElem?_map,List.getElem?_eq_getElem hi] at hx;exact (Option.some.inj hx).symm
    subst ex
    cases k with
    | none=>have e0:ts.length=0:=htl
            omega
    | some ko =>
    have hT:=l2.ls.1 _ _ (hat 0 ts[0] ko (List.getElem?_eq_getElem hi) rfl)
    refine ⟨ts[0],_,rfl,SqT.of hT,rfl,_,_,rfl,_,_,rfl,rfl,?_⟩
    cases ko with
    | none =>
     refine ⟨_,rfl,_,rfl,iteFb (by rw [decide_eq_true (show kdV none=V.non from rfl)];rfl) ?_⟩
     refine ⟨l2,?_,_,_,rfl⟩
     rw [if_neg (by omega)];exact hk2
    | some kd =>
    refine ⟨_,rfl,_,rfl,iteTb (by rw [decide_eq_false (fun z=>by cases z)];rfl) ?_⟩
    obtain ⟨d1,hi2,_⟩:=hk2.ins
    refine ⟨_,rfl,o,dx,_,rfl,hi2,rfl,_,rfl,_,rfl,l,(ρ z).toList.map kdV,1,rfl,Nat.le_refl _,hKl.kept l2.ls,(by have:=opt50 (ρ z);simpa using this),fun l3 H3 s3 hK3=>?_⟩
    rw [if_neg (by decide)] at hK3
    have hK3:KL H3 l3 (ρ z).toList:=hK3
    refine ⟨_,rfl,l3,(ρ z).toList,kd,rfl,hK3,opt50 _,fun H4 s4=>?_⟩
    have s34:=s3.trans s4
    refine ⟨_,rfl,t0,_,_,_,rfl,rfl,SqT.of (s34 _ _ (l2.ls.1 _ _ ht1)),atI_nat (j:=1) rfl,?_⟩
    refine ⟨o,dx,d2,F,fs,unfN (ρ z).toList kd,r,"kind",rfl,hk2.same s34,by omega,?_⟩
    rcases unfN_01 (ρ z).toList kd with hq | hq
    ·refine .inl ⟨hq,fun H5 l5 hk5=>⟨l2.trans ((lkS s34).trans l5),?_,_,_,rfl⟩⟩
     rw [if_neg (by omega)]
     show KkAt H5 AA.c_KindLook o dx d2 F (askF r (ρ z) kd fs)
     unfold askF
     rw [if_pos hq];exact hk5
    ·refine .inr ⟨hq,fun H5 l5 hk5=>⟨l2.trans ((lkS s34).trans l5),?_,_,_,rfl⟩⟩
     rw [if_neg (by omega)]
     show KkAt H5 AA.c_KindLook o dx d2 F (askF r (ρ z) kd fs)
     unfold askF
     rw [if_neg (by omega)];exact hk5
   ·rintro σ' H2 ⟨l2,hk2,s5,s6,rfl⟩
    refine hRR _ _ ⟨l2,?_,s5,s6,rfl⟩
    cases k with
    | none =>
     have e0:ts.length=0:=by simpa using htl
     rw [List.length_map,if_pos e0] at hk2
     exact hk2
    | some kd =>
     have e0:ts.length=1:=by simpa using htl
     rw [List.length_map,if_neg (by omega)] at hk2
     exact hk2
  ·rintro σ' H2 ⟨l2,hk2,s5,s6,rfl⟩
   have hK2:=hK1.kept l2.ls
   have hKl2:=hKl.kept l2.ls
   obtain ⟨xs,hx,hP,hxe⟩:=hK2.p1
   obtain ⟨ys,hy,hP2,hye⟩:=hKl2.p1
   refine ⟨_,rfl,_,rfl,_,rfl,p,xs,rfl,hx,hP,_,rfl,l,ys,rfl,hy,hP2,?_⟩
   refine ⟨(if xs=[] then 0 else 1),(if ys=[] then 0 else 1),?_,?_⟩
   ·split<;>split<;>rfl
   generalize hm:((if xs=[] then 0 else 1) ^^^ ((if xs=[] then 0 else 1) &&& (if ys=[] then 0 else 1)):Nat)=m
   have hm1:m<=1/\((ρ z).toList++(if m=0 then [] else k.toList))=(setE ρ z k z).toList:=by
    unfold setE
    rw [if_pos rfl]
    cases k with
    | none =>
     rw [if_pos (hxe.mpr rfl)] at hm
     subst hm
     cases ρ z<;>simp
    | some kd =>
     rw [if_neg (fun q=>by have:=hxe.mp q;simp at this)] at hm
     cases hρ:ρ z with
     | none =>
      rw [hρ] at hye
      rw [if_pos (hye.mpr rfl)] at hm
      subst hm
      exact ⟨by decide,by simp⟩
     | some k0 =>
      rw [hρ] at hye
      rw [if_neg (fun q=>by have:=hye.mp q;simp at this)] at hm
      subst hm
      exact ⟨by decide,by simp⟩
   refine ⟨p,k.toList.map kdV,m,rfl,hm1.1,hK2,(by have:=opt50 k;simpa using this),fun p3 H3 s3 hK3=>?_⟩
   have hK3:KL H3 p3 (if m=0 then [] else k.toList):=by
    by_cases h0:m=0
    ·rw [if_pos h0] at hK3 ⊢;exact hK3
    ·rw [if_neg h0] at hK3 ⊢;exact hK3
   obtain ⟨xs1,ys1,h1,h2,h3,h4,h5⟩:=(hKl2.same s3).cat hK3
   refine ⟨l,p3,xs1,ys1,rfl,rfl,h1,h2,?_,fun l4 hl4=>?_⟩
   ·have e1:=opt50 (ρ z)
    have e2:(if m=0 then [] else k.toList).length<=50:=by
     split
     ·simp
     ·exact opt50 k
    have:=small1000' (n:=xs1.length+ys1.length) (by omega)
    omega
   have hK4:=h5 l4 hl4
   have s4:=same_upd (o:=.lst (xs1++ys1)) hl4
   have lk4:LsK H1 (upd H3 l4 (.lst (xs1++ys1))):=l2.trans (lkS (s3.trans s4))
   obtain ⟨H5,hput,ls5,hn5,hoth,kv,hkv⟩:=(hn1.kept lk4).put hK4 hm1.2 hn9
   refine ⟨_,rfl,_,rfl,t0,_,_,_,rfl,rfl,SqT.of (lk4.ls.1 _ _ ht1),atI_nat (j:=2) rfl,d3,H5,rfl,hput,?_⟩
   refine kq H5 ((ls1.trans lk4).d.trans ⟨ls5,fun a kv n h=>by rw [hoth _ n];exact h⟩) ?_ hn5
   have hk4:=hk2.same (s3.trans s4)
   obtain ⟨⟨d1,i1,i3,i4⟩,i2⟩:=hk4
   refine ⟨⟨d1,?_,?_,i4⟩,?_⟩
   ·rw [hoth _ (fun q=>by rw [q,hkv] at i1;cases i1)];exact i1
   ·rw [hoth _ (fun q=>by rw [q,hkv] at i3;cases i3)];exact i3
   ·rw [hoth _ (fun q=>by rw [q,hkv] at i2;cases i2)];exact i2
end
section
variable {P:Program} {w:World} {K:PySem.W.Frag} {mg:Str->Option Value} {base:Heap} {AA:Adr} {DD:Fds}
theorem NmAt.mono {H:Hp} {d:Addr} {ρ:Env} {n m:Nat} (h:NmAt H d ρ n) (q:n<=m):NmAt H d ρ m:=by obtain ⟨⟨kvs,a,b,c⟩⟩:=h;exact ⟨⟨kvs,a,Nat.le_trans b q,c⟩⟩
noncomputable def truF (r:Nat) (k:Option Kd) (what due:Str) (fs:List (List Key)):List (List Key):=if unfN k.toList due=0 then fs else addF fs (kk r what)
noncomputable def telF (r:Nat) (k:Option Kd) (fs:List (List Key)):List (List Key):=if k.toList.any isRec then addF fs (kk r "tell") else fs
noncomputable def lrF (t:Tr) (k:Option Kd) (ρ:Env) (du:Kd) (fs:List (List Key)):List (List Key):=match t with
 | .set r z _=>setF r ρ z k fs
 | .tell r _=>telF r k fs
 | .give r _=>truF r k "kind" (du.getD "") fs
 | t=>truF t.row k "truth" "truth" fs
noncomputable def lrE (t:Tr) (k:Option Kd) (ρ:Env):Env:=match t with
 | .set _ z _=>setE ρ z k
 | _=>ρ
noncomputable def isGive:Tr->Bool
 | .give _ _=>true
 | _=>false
noncomputable def spLR (C:Addr):Sp:=fun vs H Q _=>∃ (o dx d2 d3 p:Addr) (F:List (List Key × V)) (fs:List (List Key)) (ρ:Env) (n:Nat) (v:V) (t:Tr) (k:Option Kd) (du:Kd) (e:Ex),vs=[.ref o,v,.ref p,.ref d3,kdV du]/\SAt H true v t/\t.ex=some e/\(isGive t=true->du≠none)/\KL H p k.toList/\KkAt H C o dx d2 F fs/\NmAt H d3 ρ n/\fs.length<900/\n<900 /\
 ∀ H',LsD d3 H H'->KkAt H' C o dx d2 F (lrF t k ρ du fs)->NmAt H' d3 (lrE t k ρ) (n+1)->Q .non H'
theorem kw_cases {t:Tr} {e:Ex} (he:t.ex=some e):(∃ r z e,t=.set r z e)∨(t.kw≠"set"/\(∀ k ρ,lrE t k ρ=ρ)/\((t.kw="give"/\isGive t=true/\∀ k ρ du fs,lrF t k ρ du fs=truF t.row k "kind" (du.getD "") fs)∨(t.kw≠"give"/\((t.kw="tell"/\∀ k ρ du fs,lrF t k ρ du fs=telF t.row k fs)∨(t.kw≠"tell"/\∀ k ρ du fs,lrF t k ρ du fs=truF t.row k "truth" "truth" fs))))):=by
 cases t with
 | set r n e=>exact .inl ⟨r,n,e,rfl⟩
 | tell r e=>exact .inr ⟨by show ("tell":Str)≠"set";decide,fun _ _=>rfl,.inr ⟨by show ("tell":Str)≠"give";decide,.inl ⟨rfl,fun _ _ _ _=>rfl⟩⟩⟩
 | give r e=>exact .inr ⟨by show ("give":Str)≠"set";decide,fun _ _=>rfl,.inl ⟨rfl,rfl,fun _ _ _ _=>rfl⟩⟩
 | iff r e b o=>exact .inr ⟨by show ("if":Str)≠"set";decide,fun _ _=>rfl,.inr ⟨by show ("if":Str)≠"give";decide,.inr ⟨by show ("if":Str)≠"tell";decide,fun _ _ _ _=>rfl⟩⟩⟩
 | whl r e b=>exact .inr ⟨by show ("while":Str)≠"set";decide,fun _ _=>rfl,.inr ⟨by show ("while":Str)≠"give";decide,.inr ⟨by show ("while":Str)≠"tell";decide,fun _ _ _ _=>rfl⟩⟩⟩
 | df r n k ps b=>cases he
 | kd r n ps=>cases he
noncomputable abbrev N_Ze:List Str:=["self","one","kinds","names","due","at"]
theorem sc_Ze:FnScope N_Ze ["self","one","kinds","names","due"] (defScope st_Ze):=⟨rfl,rfl,rfl,by decide +kernel,rfl,by decide +kernel,by decide +kernel⟩
theorem ok_lr (T:All P w K mg AA DD):FnOk P w K mg base CX0 4 AA.Ze DD.Ze ["self","one","kinds","names","due"] (spLR AA.c_KindLook):=by
 have GU:=ok_ZR (base:=base) T
 have GO:=ok_knote (base:=base) T
 have GA:=ok_all1 (base:=base) T
 have GIR:=ok_isrec (base:=base) T
 have GLS:=ok_lset (base:=base) T
 refine T.F_Ze.ok sc_Ze (fun vs H Q E h=>?_) (fun cdv A outer s H vs Q E hr h=>?_)
 ·obtain ⟨o,dx,d2,d3,p,F,fs,ρ,n,v,t,k,du,e0,rfl,_⟩:=h
  rfl
 ·obtain ⟨o,dx,d2,d3,p,F,fs,ρ,n,v,t,k,du,e0,rfl,hS,hex,hgv,hK,hk,hn,hf,hn9,kq⟩:=h
  have nd:=sc_Ze.nd
  have hr3:Room 3 _:=hr
  have hr2:Room 2 _:=hr3.mono (by decide)
  have hr1:Room 1 _:=hr3.mono (by decide)
  refine ⟨_,(@pss_cons _ _ _ _ _ (@ps_set _ _ 5 _ _ _ _ nd rfl (Or.inl rfl) (@pe_ix _ _ _ _ _ _ _ (ix_tupK (K:=K) rfl) (pv 1) pe_int (fun _ _=>rfl)) (by rfl) (by first | exact .inl rfl | exact .inr rfl | assumption)) (@pss_one _ _ _ (@ps_if _ _ _ _ _ _ _ _ (@pt_cmpR _ _ _ _ _ _ _ _ op_eq (@pe_ix _ _ _ _ _ _ _ (ix_tupK (K:=K) rfl) (pv 1) pe_int (fun _ _=>rfl)) pe_str (nomark _)) (@pss_one _ _ _ (@ps_expr _ _ _ _ (pe_meth (pv 0) T.cl_KindLook T.M_Zf GLS hr3 T.b_Zf .nil pass0 (@pa_cons _ _ _ _ _ (pv 1) (@pa_cons _ _ _ _ _ (pv 2) (@pa_cons _ _ _ _ _ (pv 3) pa_nil (by rfl)) (by rfl)) (by rfl))) (by rfl))) (@pss_one _ _ _ (@ps_if _ _ _ _ _ _ _ _ (@pt_cmpR _ _ _ _ _ _ _ _ op_eq (@pe_ix _ _ _ _ _ _ _ (ix_tupK (K:=K) rfl) (pv 1) pe_int (fun _ _=>rfl)) pe_str (nomark _)) (@pss_one _ _ _ (@ps_expr _ _ _ _ (pe_meth (pv 0) T.cl_KindLook T.M_Zm GO hr2 T.b_Zm .nil pass0 (@pa_cons _ _ _ _ _ (pe_call GU hr2 rfl T.m_ZR T.k_ZR T.b_ZR .nil pass0 (@pa_cons _ _ _ _ _ (pv 2) (@pa_cons _ _ _ _ _ (pv 4) pa_nil (by rfl)) (by rfl))) (@pa_cons _ _ _ _ _ (pv 5) (@pa_cons _ _ _ _ _ pe_str pa_nil (by rfl)) (by rfl)) (by rfl))) (by rfl))) (@pss_one _ _ _ (@ps_if _ _ _ _ _ _ _ _ (@pt_cmpR _ _ _ _ _ _ _ _ op_eq (@pe_ix _ _ _ _ _ _ _ (ix_tupK (K:=K) rfl) (pv 1) pe_int (fun _ _=>rfl)) pe_str (nomark _)) (@pss_one _ _ _ (@ps_expr _ _ _ _ (pe_meth (pv 0) T.cl_KindLook T.M_Zm GO hr2 T.b_Zm .nil pass0 (@pa_cons _ _ _ _ _ (pe_call GA hr1 rfl T.m_ZN T.k_ZN T.b_ZN .nil pass0 (@pa_cons _ _ _ _ _ (pe_comp (defScope st_Ze) N_Ze [] [] rfl (by exact ⟨rfl,rfl,by decide +kernel,rfl,by decide +kernel,by decide +kernel,by decide +kernel,rfl,by decide +kernel⟩) rfl rfl (pi_list (pv 2)) (fun _ _ _ _=>pif_one (pt_val (pe_call GIR hr1 rfl T.m_ZA T.k_ZA T.b_ZA .nil pass0 (pa_cons (pe_ix (ix_tupK (K:=K) rfl) (pv 0) pe_int (fun _ _=>rfl)) pa_nil)))) (fun _ _ _ _=>(pv 0))) pa_nil (by rfl))) (@pa_cons _ _ _ _ _ (pv 5) (@pa_cons _ _ _ _ _ pe_str pa_nil (by rfl)) (by rfl)) (by rfl))) (by rfl))) (@pss_one _ _ _ (@ps_expr _ _ _ _ (pe_meth (pv 0) T.cl_KindLook T.M_Zm GO hr2 T.b_Zm .nil pass0 (@pa_cons _ _ _ _ _ (pe_call GU hr2 rfl T.m_ZR T.k_ZR T.b_ZR .nil pass0 (@pa_cons _ _ _ _ _ (pv 2) (@pa_cons _ _ _ _ _ pe_str pa_nil (by rfl)) (by rfl))) (@pa_cons _ _ _ _ _ (pv 5) (@pa_cons _ _ _ _ _ pe_str pa_nil (by rfl)) (by rfl)) (by rfl))) (by rfl)))))))))),?_⟩
  have hS0:=hS
  cases hS with
  | @mk t0 vs _ ht0 hps =>
  obtain ⟨vr,rfl⟩:=st_head hps
  obtain ⟨d1,hi,_⟩:=hk.ins
  refine ⟨_,rfl,t0,_,_,_,rfl,rfl,SqT.of ht0,atI_nat (j:=1) rfl,?_⟩
  dsimp only [gName]
  refine ⟨_,rfl,t0,_,_,_,rfl,rfl,SqT.of ht0,atI_nat (j:=0) rfl,rfl,_,rfl,?_⟩
  rcases kw_cases hex with ⟨r,z,e,rfl⟩ | ⟨n1,hE,hc⟩
  ·refine iteTb (decide_eq_true rfl) ?_
   refine ⟨_,rfl,o,dx,_,rfl,hi,rfl,_,rfl,_,rfl,_,rfl,?_⟩
   exact ⟨o,dx,d2,d3,p,F,fs,ρ,n,r,.ref t0,z,e,k,rfl,hS0,hK,hk,hn,hf,hn9,kq⟩
  refine iteFb (decide_eq_false fun z=>n1 (by injection z)) ?_
  have kq':∀ H',LsK H H'->KkAt H' AA.c_KindLook o dx d2 F (lrF t k ρ du fs)->Q .non H':=fun H' lk h=>kq H' lk.d h (by rw [hE];exact (hn.kept lk).mono (by omega))
  refine ⟨_,rfl,t0,_,_,_,rfl,rfl,SqT.of ht0,atI_nat (j:=0) rfl,rfl,_,rfl,?_⟩
  rcases hc with ⟨hw,hgi,ht⟩ | ⟨n2,hc⟩
  ·refine iteTb (decide_eq_true (by rw [hw])) ?_
   obtain ⟨dk,rfl⟩:∃ dk,du=some dk:=Option.ne_none_iff_exists'.mp (hgv hgi)
   refine ⟨_,rfl,o,dx,_,rfl,hi,rfl,_,rfl,_,rfl,p,_,dk,rfl,hK,opt50 _,fun H2 s2=>⟨_,rfl,?_⟩⟩
   refine ⟨o,dx,d2,F,fs,unfN k.toList dk,t.row,"kind",rfl,hk.same s2,by omega,?_⟩
   rcases unfN_01 k.toList dk with hq | hq
   ·refine .inl ⟨hq,fun H3 ls3 hk3=>kq' _ ((lkS s2).trans ls3) ?_⟩
    rw [ht];unfold truF;rw [if_pos (by exact hq)];exact hk3
   ·refine .inr ⟨hq,fun H3 ls3 hk3=>kq' _ ((lkS s2).trans ls3) ?_⟩
    rw [ht];unfold truF;rw [if_neg (by show ¬ unfN k.toList dk=0;omega)];exact hk3
  refine iteFb (decide_eq_false fun z=>n2 (by injection z)) ?_
  refine ⟨_,rfl,t0,_,_,_,rfl,rfl,SqT.of ht0,atI_nat (j:=0) rfl,rfl,_,rfl,?_⟩
  rcases hc with ⟨hw,ht⟩ | ⟨hw,ht⟩
  ·refine iteTb (decide_eq_true (by rw [hw])) ?_
   refine ⟨_,rfl,o,dx,_,rfl,hi,rfl,?_⟩
   obtain ⟨ts,hp,htl,hat⟩:=hK.at
   refine ⟨_,rfl,p,rfl,⟨_,SqL.of hp⟩,?_⟩
   refine comp_list (K:=K) (a:=p) (xs:=ts.map V.ref) (fun i ys H'=>H'=H/\i<=ts.length/\P1s H ys/\ys.length<=i/\(ys=[]↔(k.toList.take i).any isRec=false)) ⟨rfl,Nat.zero_le _,(by intro x hx;cases hx),Nat.le_refl _,by simp⟩ (fun i ys H' _ h=>by rw [h.1];exact SqL.of hp) ?_ ?_
   ·rintro i x ys H1 hx ⟨rfl,_,hP,hyl,hy⟩
    have hi':i<ts.length:=by
     have:=(List.getElem?_eq_some_iff.mp hx).1
     rw [List.length_map] at this;exact this
    have ex:x=V.ref ts[i]:=by rw [List.getElem?_map,List.getElem?_eq_getElem hi'] at hx;exact (Option.some.inj hx).symm
    subst ex
    have hik:i<k.toList.length:=by omega
    have h50:=opt50 k
    have htk:=hat i ts[i] k.toList[i] (List.getElem?_eq_getElem hi') (List.getElem?_eq_getElem hik)
    have hany:(k.toList.take (i+1)).any isRec=((k.toList.take i).any isRec||isRec k.toList[i]):=by
     rw [List.take_succ_eq_append_getElem hik,List.any_append];simp
    refine ⟨_,rfl,ts[i],_,_,_,rfl,rfl,SqT.of htk,atI_nat (j:=1) rfl,k.toList[i],rfl,?_⟩
    cases hb:isRec k.toList[i] with
    | false =>
     refine ⟨_,rfl,iteFb rfl ⟨rfl,by omega,hP,by omega,?_⟩⟩
     rw [hany,hb,Bool.or_false];exact hy
    | true =>
     refine ⟨_,rfl,iteTb rfl ⟨_,rfl,small1000' (by omega),rfl,by omega,fun x hx=>?_,by simp;omega,?_⟩⟩
     ·rcases List.mem_append.mp hx with hx | hx
      ·exact hP x hx
      ·exact ⟨ts[i],_,by simpa using hx,htk⟩
     ·rw [hany,hb];simp
   ·rintro ys H1 ⟨rfl,_,hP,_,hy⟩ q hq
    have sq:=same_upd (o:=.lst ys) hq
    rw [List.length_map,htl,List.take_length] at hy
    refine ⟨q,ys,rfl,upd_same,fun x hx=>by obtain ⟨t',y,e1,e2⟩:=hP x hx;exact ⟨t',y,e1,sq _ _ e2⟩,_,rfl,o,dx,d2,F,fs,(if ys=[] then 0 else 1),t.row,"tell",(by split<;>rfl),hk.same sq,by omega,?_⟩
    by_cases hy0:ys=[]
    ·refine .inl ⟨if_pos hy0,fun H3 ls3 hk3=>kq' _ ((lkS sq).trans ls3) ?_⟩
     rw [ht];unfold telF;rw [hy.mp hy0];exact hk3
    ·refine .inr ⟨if_neg hy0,fun H3 ls3 hk3=>kq' _ ((lkS sq).trans ls3) ?_⟩
     rw [ht];unfold telF
     rw [if_pos (by cases hq':k.toList.any isRec with | true=>rfl | false=>exact absurd (hy.mpr hq') hy0)];exact hk3
  ·refine iteFb (decide_eq_false fun z=>hw (by injection z)) ?_
   refine ⟨_,rfl,o,dx,_,rfl,hi,rfl,_,rfl,p,_,"truth",rfl,hK,opt50 _,fun H2 s2=>⟨_,rfl,?_⟩⟩
   refine ⟨o,dx,d2,F,fs,unfN k.toList "truth",t.row,"truth",rfl,hk.same s2,by omega,?_⟩
   rcases unfN_01 k.toList "truth" with hq | hq
   ·refine .inl ⟨hq,fun H3 ls3 hk3=>kq' _ ((lkS s2).trans ls3) ?_⟩
    rw [ht];unfold truF;rw [if_pos hq];exact hk3
   ·refine .inr ⟨hq,fun H3 ls3 hk3=>kq' _ ((lkS s2).trans ls3) ?_⟩
    rw [ht];unfold truF;rw [if_neg (by omega)];exact hk3
end
section
variable {P:Program} {w:World} {K:PySem.W.Frag} {mg:Str->Option Value} {base:Heap} {AA:Adr} {DD:Fds}
theorem comp2_tup {k:Nat} {js:List Nat} {g:TG} {tt:TT} {te:TE} {K:PySem.W.Frag} {a:Addr} {xs:List V} {σ:St} {H:Hp} {Q:VK} (Pv:Nat->List V->Hp->Prop) (h0:Pv 0 [] H) (hl:∀ i ys H,i<=xs.length->Pv i ys H->SqT K H a xs)
  (hs:∀ i x ys H,xs[i]?=some x->Pv i ys H->tStep2 k js g tt te σ ys (Pv (i+1)) x H)
  (hd:∀ ys H,Pv xs.length ys H->∀ p,H p=none->Q (.ref p) (upd H p (.lst ys))):tCompB2 (Itt K a) k js g tt te σ H Q:=by
 refine ⟨fun i m ys H=>m=xs.length-i/\i<=xs.length/\Pv i ys H,⟨xs.length,by simp,Nat.zero_le _,h0⟩,?_⟩
 rintro i m ys H ⟨rfl,hi,p⟩
 have q:=hl i ys H hi p
 by_cases hlt:i<xs.length
 ·refine .inr ⟨⟨xs,xs[i],q,by simp [hlt]⟩,Pv (i+1),fun ys' H' p'=>⟨xs.length-(i+1),by omega,rfl,hlt,p'⟩,fun x H' y=>?_⟩
  obtain ⟨e,y⟩:=y
  subst e
  exact hs i x ys _ (y xs q) p
 ·have e:i=xs.length:=by omega
  subst e
  exact .inl ⟨⟨xs,q,Nat.le_refl _⟩,hd ys H p⟩
noncomputable def env0:Env:=fun _=>none
noncomputable def parE (ps:List (Str × Str)):Env:=ps.foldl (fun ρ q=>fun z=>if z=q.1 then some (some q.2) else ρ z) env0
theorem nm_fill {H:Hp}:∀ (pv:List (Key × V)) (ps:List (Str × Str)),pv.length=ps.length->(∀ (i:Nat) (p:Key × V) (q:Str × Str),pv[i]?=some p->ps[i]?=some q->∃ l,p=(.inr q.1,.ref l)/\KL H l [some q.2]) ->
  ∀ z:Str,(valV (fillK pv) (.inr z)=none/\parE ps z=none)∨∃ p,valV (fillK pv) (.inr z)=some (.ref p)/\KL H p (parE ps z).toList:=by
 have go:∀ (pv:List (Key × V)) (ps:List (Str × Str)) (a:List (Key × V)) (ρ:Env),pv.length=ps.length->(∀ (i:Nat) (p:Key × V) (q:Str × Str),pv[i]?=some p->ps[i]?=some q->∃ l,p=(.inr q.1,.ref l)/\KL H l [some q.2]) ->
   (∀ z:Str,(valV a (.inr z)=none/\ρ z=none)∨∃ p,valV a (.inr z)=some (.ref p)/\KL H p (ρ z).toList) ->
   ∀ z:Str,(valV (pv.foldl (fun q p=>putK q p.1 p.2) a) (.inr z)=none/\ps.foldl (fun ρ q=>fun z=>if z=q.1 then some (some q.2) else ρ z) ρ z=none)∨∃ p,valV (pv.foldl (fun q p=>putK q p.1 p.2) a) (.inr z)=some (.ref p)/\KL H p (ps.foldl (fun ρ q=>fun z=>if z=q.1 then some (some q.2) else ρ z) ρ z).toList:=fun pv=>by
  induction pv with
  | nil=>intro ps a ρ hl _ h;cases ps with | nil=>exact h | cons _ _=>simp at hl
  | cons p pv ih =>
   intro ps a ρ hl hr h
   cases ps with
   | nil=>simp at hl
   | cons q ps =>
    obtain ⟨l,rfl,hK⟩:=hr 0 p q rfl rfl
    simp only [List.foldl_cons]
    refine ih ps _ _ (by simpa using hl) (fun i p' q' h1 h2=>hr (i+1) p' q' (by simpa using h1) (by simpa using h2)) fun z=>?_
    rw [valV_put]
    by_cases hz:z=q.1
    ·rw [if_pos (by rw [hz]),if_pos hz]
     exact .inr ⟨l,rfl,hK⟩
    ·rw [if_neg (fun e=>hz (by injection e)),if_neg hz]
     exact h z
 intro pv ps hl hr
 exact go pv ps [] env0 hl hr fun z=>.inl ⟨rfl,rfl⟩
noncomputable abbrev KSt:=Env × List (List Key)
noncomputable def rowF (tt:List Tr) (du:Kd) (t:Tr) (e:Ex) (s:KSt):KSt:=(lrE t (kdX tt s.1 e) s.1,lrF t (kdX tt s.1 e) s.1 du (kfX tt s.1 t.row e s.2))
noncomputable def givF (r:Nat) (b:List Tr) (fs:List (List Key)):List (List Key):=if givN b=0 then addF fs (kk r "give") else fs
mutual
noncomputable def kfT (tt:List Tr) (du:Kd):Tr->KSt->KSt
 | .set r n e,fs=>rowF tt du (.set r n e) e fs
 | .tell r e,fs=>rowF tt du (.tell r e) e fs
 | .give r e,fs=>rowF tt du (.give r e) e fs
 | .iff r e b o,fs=>kfTs tt du o (kfTs tt du b (rowF tt du (.iff r e b o) e fs))
 | .whl r e b,fs=>kfTs tt du b (rowF tt du (.whl r e b) e fs)
 | .df r n k ps b,fs=>(fs.1,(kfTs tt (some k) b (parE ps,givF r b fs.2)).2)
 | .kd r n ps,fs=>fs
noncomputable def kfTs (tt:List Tr) (du:Kd):List Tr->KSt->KSt
 | [],fs=>fs
 | t::ts,fs=>kfTs tt du ts (kfT tt du t fs)
end
theorem kfT_b (tt:List Tr) (du:Kd) (t:Tr) {e:Ex} (h:t.ex=some e) (fs:KSt):kfT tt du t fs=t.blocks.foldl (fun gs b=>kfTs tt du b gs) (rowF tt du t e fs):=by
 cases t<;>first | (cases h;simp [kfT,Tr.blocks];done) | cases h
theorem kfTs_app (tt:List Tr) (du:Kd):∀ (a b:List Tr) (fs:KSt),kfTs tt du (a++b) fs=kfTs tt du b (kfTs tt du a fs)
 | [],_,_=>by simp [kfTs]
 | t::a,b,fs=>by
  show kfTs tt du (a++b) (kfT tt du t fs)=kfTs tt du b (kfTs tt du a (kfT tt du t fs))
  exact kfTs_app tt du a b _
theorem lrF_len (t:Tr) (k:Option Kd) (ρ:Env) (du:Kd) (fs:List (List Key)):(lrF t k ρ du fs).length<=fs.length+1:=by
 have h1:=fun r z=>addF_len fs (kk r z)
 have h3:∀ r w d,(truF r k w d fs).length<=fs.length+1:=fun r w d=>by
  unfold truF
  split
  ·omega
  ·exact h1 _ _
 unfold lrF
 split
 ·unfold setF
  split
  ·unfold askF
   split
   ·omega
   ·exact h1 _ _
  ·omega
 ·unfold telF
  split
  ·exact h1 _ _
  ·omega
 ·exact h3 _ _ _
 ·exact h3 _ _ _
theorem kfX_len (tt:List Tr) (ρ:Env) (r:Nat) (e:Ex) (fs:List (List Key)):(kfX tt ρ r e fs).length<=fs.length+1:=by
 rcases kfX_one tt ρ r e fs with h | h<;>rw [h]
 ·omega
 ·exact addF_len _ _
theorem rowF_len (tt:List Tr) (du:Kd) (t:Tr) (e:Ex) (s:KSt):(rowF tt du t e s).2.length<=s.2.length+2:=by
 have h1:=kfX_len tt s.1 t.row e s.2
 have h2:=lrF_len t (kdX tt s.1 e) s.1 du (kfX tt s.1 t.row e s.2)
 unfold rowF
 show (lrF t (kdX tt s.1 e) s.1 du (kfX tt s.1 t.row e s.2)).length<=_
 omega
theorem givF_len (r:Nat) (b:List Tr) (fs:List (List Key)):(givF r b fs).length<=fs.length+1:=by
 unfold givF
 split
 ·exact addF_len _ _
 ·omega
mutual
theorem kfT_len (tt:List Tr):∀ (du:Kd) (t:Tr) (fs:KSt),(kfT tt du t fs).2.length<=fs.2.length+2*t.cnt
 | du,.set r n e,fs=>by
  have:=rowF_len tt du (.set r n e) e fs
  simp [kfT,Tr.cnt];omega
 | du,.tell r e,fs=>by
  have:=rowF_len tt du (.tell r e) e fs
  simp [kfT,Tr.cnt];omega
 | du,.give r e,fs=>by
  have:=rowF_len tt du (.give r e) e fs
  simp [kfT,Tr.cnt];omega
 | du,.iff r e b o,fs=>by
  have h:=rowF_len tt du (.iff r e b o) e fs
  have h1:=kfTs_len tt du b (rowF tt du (.iff r e b o) e fs)
  have h2:=kfTs_len tt du o (kfTs tt du b (rowF tt du (.iff r e b o) e fs))
  simp [kfT,Tr.cnt];omega
 | du,.whl r e b,fs=>by
  have h:=rowF_len tt du (.whl r e b) e fs
  have h1:=kfTs_len tt du b (rowF tt du (.whl r e b) e fs)
  simp [kfT,Tr.cnt];omega
 | du,.df r n k ps b,fs=>by
  have h:=givF_len r b fs.2
  have h1:=kfTs_len tt (some k) b (parE ps,givF r b fs.2)
  simp [kfT,Tr.cnt] at h1 ⊢;omega
 | du,.kd r n ps,fs=>by simp [kfT]
theorem kfTs_len (tt:List Tr):∀ (du:Kd) (ts:List Tr) (fs:KSt),(kfTs tt du ts fs).2.length<=fs.2.length+2*cnts ts
 | du,[],fs=>by simp [kfTs,cnts]
 | du,t::ts,fs=>by
  have h1:=kfT_len tt du t fs
  have h2:=kfTs_len tt du ts (kfT tt du t fs)
  simp [kfTs,cnts];omega
end
theorem foldb_len (tt:List Tr) (du:Kd):∀ (bs:List (List Tr)) (fs:KSt),(bs.foldl (fun gs b=>kfTs tt du b gs) fs).2.length<=fs.2.length+2*(bs.map cnts).sum
 | [],fs=>by simp
 | b::bs,fs=>by
  have h1:=kfTs_len tt du b fs
  have h2:=foldb_len tt du bs (kfTs tt du b fs)
  simp only [List.foldl_cons,List.map_cons,List.sum_cons]
  omega
theorem asc_ex {t:Tr} (h:t.asc) {e:Ex} (q:t.ex=some e):e.fit:=by
 cases t with
 | set r n e=>cases q;exact h
 | tell r e=>cases q;exact h
 | iff r e b o=>cases q;exact h.1
 | whl r e b=>cases q;exact h.1
 | give r e=>cases q;exact h
 | _=>cases q
theorem cnts_take:∀ {ts:List Tr} {i:Nat} {t:Tr},ts[i]?=some t->cnts (ts.take (i+1))=cnts (ts.take i)+t.cnt/\cnts (ts.take i)+t.cnt<=cnts ts
 | x::ts,0,t,h=>by
  cases (show some x=some t from h)
  simp [cnts]
 | x::ts,i+1,t,h=>by
  obtain ⟨a,b⟩:=cnts_take (ts:=ts) (i:=i) h
  simp [cnts,a];omega
theorem blocks_mem {t:Tr} {bs:List Tr} (h:bs∈t.blocks):Part.b bs∈t.parts:=by
 have:Part.b bs∈t.parts.filter isB:=by rw [parts_b];exact List.mem_map.mpr ⟨bs,h,rfl⟩
 exact (List.mem_filter.mp this).1
theorem sum_take:∀ {bs:List (List Tr)} {i:Nat} {b:List Tr},bs[i]?=some b->((bs.take (i+1)).map cnts).sum=((bs.take i).map cnts).sum+cnts b/\((bs.take i).map cnts).sum+cnts b<=(bs.map cnts).sum
 | x::bs,0,b,h=>by
  cases (show some x=some b from h)
  simp
 | x::bs,i+1,b,h=>by
  obtain ⟨a,c⟩:=sum_take (bs:=bs) (i:=i) h
  simp only [List.take_succ_cons,List.map_cons,List.sum_cons,a]
  omega
mutual
noncomputable def okT:Bool->Tr->Prop
 | _,.set _ _ e=>e.dos
 | _,.tell _ e=>e.dos
 | du,.give _ e=>du=true/\e.dos
 | du,.iff _ e b o=>e.dos/\okTs du b/\okTs du o
 | du,.whl _ e b=>e.dos/\okTs du b
 | _,.df _ _ _ _ b=>okTs true b
 | _,.kd _ _ _=>True
noncomputable def okTs:Bool->List Tr->Prop
 | _,[]=>True
 | du,t::ts=>okT du t/\okTs du ts
end
theorem okTs_mem {du:Bool}:∀ {ts:List Tr} {t:Tr},okTs du ts->t∈ts->okT du t
 | u::ts,t,a,h=>by
  rcases List.mem_cons.mp h with z | z
  ·subst z;exact a.1
  ·exact okTs_mem a.2 z
theorem okT_ex {du:Bool} {t:Tr} {e:Ex} (h:okT du t) (q:t.ex=some e):e.dos/\(isGive t=true->du=true)/\∀ b∈t.blocks,okTs du b:=by
 cases t with
 | set r n e=>cases q;exact ⟨h,fun z=>(by cases z),fun b z=>by simp [Tr.blocks] at z⟩
 | tell r e=>cases q;exact ⟨h,fun z=>(by cases z),fun b z=>by simp [Tr.blocks] at z⟩
 | give r e=>cases q;exact ⟨h.2,fun _=>h.1,fun b z=>by simp [Tr.blocks] at z⟩
 | iff r e b o =>
  cases q
  refine ⟨h.1,fun z=>(by cases z),fun x z=>?_⟩
  simp [Tr.blocks] at z
  rcases z with rfl | rfl
  ·exact h.2.1
  ·exact h.2.2
 | whl r e b =>
  cases q
  refine ⟨h.1,fun z=>(by cases z),fun x z=>?_⟩
  simp [Tr.blocks] at z
  subst z
  exact h.2
 | _=>cases q
noncomputable def spKB (C:Addr) (k:Nat):Sp:=fun vs H Q _=>∃ (o dx d2 d3 l:Addr) (F:List (List Key × V)) (tt:List Tr) (n:Nat) (xs:List V) (ts:List Tr) (du:Kd) (fs:KSt),vs=[.ref o,.ref l,.ref d3,kdV du]/\H l=some (.lst xs)/\LAt H true xs ts/\deeps ts<k/\ascs ts/\okTs du.isSome ts /\
 KkAt H C o dx d2 F fs.2/\FsAt H F tt/\NmAt H d3 fs.1 n/\fs.2.length+2*cnts ts<800/\n+cnts ts+20<800/\∀ H',LsD d3 H H'->KkAt H' C o dx d2 F (kfTs tt du ts fs).2->NmAt H' d3 (kfTs tt du ts fs).1 (n+cnts ts)->Q .non H'
noncomputable def spLD (C:Addr) (k:Nat):Sp:=fun vs H Q _=>∃ (o dx d2:Addr) (F:List (List Key × V)) (tt:List Tr) (v:V) (r:Nat) (z kd:Str) (ps:List (Str × Str)) (b:List Tr) (fs:List (List Key)),vs=[.ref o,.int 1,v]/\SAt H true v (.df r z kd ps b)/\ps.length<=20/\deeps b<k/\ascs b/\okTs true b /\
 KkAt H C o dx d2 F fs/\FsAt H F tt/\fs.length+2+2*cnts b<800/\cnts b+40<800/\∀ H',LsK H H'->KkAt H' C o dx d2 F (kfTs tt (some kd) b (parE ps,givF r b fs)).2->Q .non H'
theorem or_give {H:Hp} {C o dx d2:Addr} {F:List (List Key × V)} {fs:List (List Key)} {b:List Tr} {m r:Nat} {Z:Hp->Prop} (hm:m=1 ^^^ (1 &&& givN b)) (k:∀ H',LsK H H'->KkAt H' C o dx d2 F (givF r b fs)->Z H') :
  (m=0/\∀ H',LsK H H'->KkAt H' C o dx d2 F fs->Z H')∨(m=1/\∀ H',LsK H H'->KkAt H' C o dx d2 F (addF fs (kk r "give"))->Z H'):=by
 rcases givN_01 b with hg | hg
 ·refine .inr ⟨by rw [hm,hg];rfl,fun H1 l1 hk1=>k H1 l1 ?_⟩
  unfold givF;rw [if_pos hg];exact hk1
 ·refine .inl ⟨by rw [hm,hg];rfl,fun H1 l1 hk1=>k H1 l1 ?_⟩
  unfold givF;rw [if_neg (by omega)];exact hk1
noncomputable abbrev N_Zd:List Str:=["self","mask","one"]
theorem sc_Zd:FnScope N_Zd ["self","mask","one"] (defScope st_Zd):=⟨rfl,rfl,rfl,by decide +kernel,rfl,by decide +kernel,by decide +kernel⟩
theorem ok_ld (T:All P w K mg AA DD) (k:Nat) (GY:FnOk P w K mg base CX0 (2*k+28) AA.Zb DD.Zb ["self","statements","names","due"] (spKB AA.c_KindLook k)) :
  FnOk P w K mg base CX0 (2*k+29) AA.Zd DD.Zd ["self","mask","one"] (spLD AA.c_KindLook k):=by
 have GO:=ok_knote (base:=base) T
 have GN:=ok_ZK (base:=base) T
 have GGV:=ok_giv (base:=base) T
 refine T.F_Zd.ok sc_Zd (fun vs H Q E h=>?_) (fun cdv A outer s H vs Q E hr h=>?_)
 ·obtain ⟨o,dx,d2,F,tt,v,r,z,kd,ps,b,fs,rfl,_⟩:=h
  rfl
 ·obtain ⟨o,dx,d2,F,tt,v,r,z,kd,ps,b,fs,rfl,hS,hps,hd,ha,hok,hk,hF,hf,hc,kq⟩:=h
  have nd:=sc_Zd.nd
  have hrB:Room (2*k+28) _:=hr
  have hr2:Room 2 _:=hrB.mono (by omega)
  have hr1:Room 1 _:=hrB.mono (by omega)
  obtain ⟨t0,vp,lb,zs,ev,ht0,hp,hlb,hLb⟩:=s_df hS
  subst ev
  refine ⟨_,(@pss_cons _ _ _ _ _ (@ps_expr _ _ _ _ (pe_meth (pv 0) T.cl_KindLook T.M_Zm GO hr2 T.b_Zm .nil pass0 (@pa_cons _ _ _ _ _ (pe_call GN hr1 rfl T.m_ZK T.k_ZK T.b_ZK .nil pass0 (@pa_cons _ _ _ _ _ (pv 1) (@pa_cons _ _ _ _ _ (pe_call GGV hr2 rfl T.m_ZP T.k_ZP T.b_ZP .nil pass0 (@pa_cons _ _ _ _ _ (@pe_ix _ _ _ _ _ _ _ (ix_tupK (K:=K) rfl) (pv 2) pe_int (fun _ _=>rfl)) pa_nil (by rfl))) pa_nil (by rfl)) (by rfl))) (@pa_cons _ _ _ _ _ (@pe_ix _ _ _ _ _ _ _ (ix_tupK (K:=K) rfl) (pv 2) pe_int (fun _ _=>rfl)) (@pa_cons _ _ _ _ _ pe_str pa_nil (by rfl)) (by rfl)) (by rfl))) (by rfl)) (@pss_one _ _ _ (@ps_expr _ _ _ _ (pe_meth (pv 0) T.cl_KindLook T.M_Zb GY hrB T.b_Zb .nil pass0 (@pa_cons _ _ _ _ _ (@pe_ix _ _ _ _ _ _ _ (ix_tupK (K:=K) rfl) (pv 2) pe_int (fun _ _=>rfl)) (@pa_cons _ _ _ _ _ (pe_callTy (call_dictL rfl) rfl T.n_dict bt_dict (@pa_cons _ _ _ _ _ (pe_comp2 (xs:=["name","kind"]) (defScope st_Zd) N_Zd ["mask"] [1] rfl (by exact ⟨rfl,rfl,by decide +kernel,by decide +kernel,by decide +kernel,by decide +kernel,by decide +kernel,rfl,by decide +kernel⟩) rfl rfl (pi_tup (@pe_ix _ _ _ _ _ _ _ (ix_tupK (K:=K) rfl) (pv 2) pe_int (fun _ _=>rfl))) (fun _ _ _ _=>(pg_tupK (K:=K) (n:=2) rfl rfl (pgs_cons (pg_name (i:=0) (show (["name","kind","mask"]:List Str).Nodup by decide +kernel) rfl (Or.inl rfl)) (pgs_cons (pg_name (i:=1) (show (["name","kind","mask"]:List Str).Nodup by decide +kernel) rfl (Or.inl rfl)) pgs_nil)))) (fun _ _ _ _=>pif_nil) (fun _ _ _ _=>(@pe_tup _ _ _ _ _ (@pa_cons _ _ _ _ _ (pv 0) (@pa_cons _ _ _ _ _ (@pe_lst _ _ _ _ (@pa_cons _ _ _ _ _ (@pe_tup _ _ _ _ _ (@pa_cons _ _ _ _ _ (pv 2) (@pa_cons _ _ _ _ _ (pv 1) pa_nil (by rfl)) (by rfl))) pa_nil (by rfl))) pa_nil (by rfl)) (by rfl))))) pa_nil (by rfl))) (@pa_cons _ _ _ _ _ (@pe_ix _ _ _ _ _ _ _ (ix_tupK (K:=K) rfl) (pv 2) pe_int (fun _ _=>rfl)) pa_nil (by rfl)) (by rfl)) (by rfl))) (by rfl)))),?_⟩
  obtain ⟨d1,hi,_⟩:=hk.ins
  refine ⟨_,rfl,o,dx,_,rfl,hi,rfl,_,rfl,_,rfl,t0,_,_,_,rfl,rfl,SqT.of ht0,atI_nat (j:=5) rfl,?_⟩
  refine ⟨lb,zs,b,rfl,hlb,hLb,1,givN b,rfl,?_⟩
  refine ⟨_,rfl,t0,_,_,_,rfl,rfl,SqT.of ht0,atI_nat (j:=1) rfl,?_⟩
  have hgl:=givF_len r b fs
  refine ⟨o,dx,d2,F,fs,1 ^^^ (1 &&& givN b),r,"give",rfl,hk,by omega,or_give rfl fun H1 l1 hk1=>?_⟩
  dsimp only [gName]
  obtain ⟨tp,us,rfl,htp,hul,huat⟩:=hp.kept l1.ls
  obtain ⟨d1',hi1,_⟩:=hk1.ins
  have ht1:=l1.ls.1 _ _ ht0
  have hlb1:=l1.ls.2 _ _ hlb
  have hLb1:=hLb.kept l1.ls
  refine ⟨_,rfl,o,dx,_,rfl,hi1,rfl,_,rfl,t0,_,_,_,rfl,rfl,SqT.of ht1,atI_nat (j:=5) rfl,?_⟩
  refine ⟨_,rfl,t0,_,_,_,rfl,rfl,SqT.of ht1,atI_nat (j:=4) rfl,tp,rfl,⟨_,SqT.of htp⟩,?_⟩
  refine comp2_tup (K:=K) (a:=tp) (xs:=us.map V.ref) (fun i ys H'=>Same H1 H'/\i<=us.length/\∃ (ts:List Addr) (pv:List (Key × V)),ys=ts.map V.ref/\ts.length=i/\pv.length=i/\(∀ (j:Nat) (t:Addr) (p:Key × V),ts[j]?=some t->pv[j]?=some p->H' t=some (.tup [kV p.1,p.2]))/\∀ (j:Nat) (p:Key × V) (q:Str × Str),pv[j]?=some p->ps[j]?=some q->∃ l,p=(.inr q.1,.ref l)/\KL H' l [some q.2])
   ⟨Same.refl _,Nat.zero_le _,[],[],rfl,rfl,rfl,fun j t p h=>by simp at h,fun j p q h=>by simp at h⟩ (fun i ys H' _ h=>SqT.of (h.1 _ _ htp)) ?_ ?_
  ·rintro i x ys H2 hx ⟨s2,hi2,ts,pv,rfl,htl,hpl,hat,hpat⟩
   have hix:i<us.length:=by
    have:=(List.getElem?_eq_some_iff.mp hx).1
    rw [List.length_map] at this;exact this
   have ex:x=V.ref us[i]:=by rw [List.getElem?_map,List.getElem?_eq_getElem hix] at hx;exact (Option.some.inj hx).symm
   subst ex
   have hip:i<ps.length:=by omega
   have hu2:=s2 _ _ (huat i us[i] ps[i] (List.getElem?_eq_getElem hix) (List.getElem?_eq_getElem hip))
   intro os hos
   obtain ⟨o1,o2,rfl⟩:∃ a b,os=[a,b]:=by
    match os,hos with
    | [a,b],_=>exact ⟨a,b,rfl⟩
   refine ⟨us[i],_,rfl,SqT.of hu2,rfl,_,_,rfl,_,_,rfl,rfl,⟨[_,_],rfl,rfl⟩,?_⟩
   refine tYes_ok ?_
   rw [if_pos rfl]
   refine ⟨_,rfl,_,rfl,_,rfl,(by show 2<=sizeLine;decide),fun q1 hq1=>⟨(by show 1<=sizeLine;decide),fun q2 hq2=>⟨(by show 2<=sizeLine;decide),fun q3 hq3=>?_⟩⟩⟩
   have s3:=same_upd (o:=.tup [.int 1,.str ps[i].2]) hq1
   have s4:=same_upd (o:=.lst [.ref q1]) hq2
   have s5:=same_upd (o:=.tup [.str ps[i].1,.ref q2]) hq3
   have s345:=(s3.trans s4).trans s5
   refine ⟨by rw [List.length_map];exact small1000' (by omega),s2.trans s345,by omega,ts++[q3],pv++[(.inr ps[i].1,.ref q2)],by simp,by simp [htl],by simp [hpl],fun j t p h1 h2=>?_,fun j p q h1 h2=>?_⟩
   ·by_cases hj:j<i
    ·rw [List.getElem?_append_left (by omega)] at h1 h2
     exact s345 _ _ (hat j t p h1 h2)
    ·have hj0:j=i:=by have:=(List.getElem?_eq_some_iff.mp h1).1;simp at this;omega
     subst hj0
     rw [List.getElem?_append_right (by omega)] at h1 h2
     have e1:t=q3:=by simpa [htl] using h1.symm
     have e2:p=(.inr ps[j].1,.ref q2):=by simpa [hpl] using h2.symm
     subst e1 e2
     exact upd_same
   ·by_cases hj:j<i
    ·rw [List.getElem?_append_left (by omega)] at h1
     obtain ⟨l,e,hK⟩:=hpat j p q h1 h2
     exact ⟨l,e,hK.same s345⟩
    ·have hj0:j=i:=by have:=(List.getElem?_eq_some_iff.mp h1).1;simp at this;omega
     subst hj0
     rw [List.getElem?_append_right (by omega)] at h1
     have e2:p=(.inr ps[j].1,.ref q2):=by simpa [hpl] using h1.symm
     rw [List.getElem?_eq_getElem hip] at h2
     have e3:=Option.some.inj h2
     subst e2 e3
     refine ⟨q2,rfl,[q1],s5 _ _ upd_same,rfl,fun i t k x y=>?_⟩
     match i with
     | 0=>cases (show some q1=some t from x);cases (show some (V.str ps[j].2)=some k from y);exact s5 _ _ (s4 _ _ upd_same)
     | i+1=>simp at x
  ·rintro ys H2 ⟨s2,_,ts,pv,rfl,htl,hpl,hat,hpat⟩ q hq
   rw [List.length_map] at htl hpl
   have sq:=same_upd (o:=.lst (ts.map V.ref)) hq
   refine ⟨q,ts,pv,rfl,upd_same,by omega,by omega,fun j t p h1 h2=>sq _ _ (hat j t p h1 h2),fun d3 hd3=>?_⟩
   have s3:=(s2.trans sq).trans (same_upd (o:=.dK (fillK pv)) hd3)
   have lk3:=lkS s3
   have hd1:H1 d3=none:=Same.free (s2.trans sq) hd3
   have s4:=sq.trans (same_upd (o:=.dK (fillK pv)) hd3)
   refine ⟨_,rfl,t0,_,_,_,rfl,rfl,SqT.of (s3 _ _ ht1),atI_nat (j:=3) rfl,?_⟩
   refine ⟨o,dx,d2,d3,lb,F,tt,ps.length,zs,b,some kd,(parE ps,givF r b fs),rfl,s3 _ _ hlb1,hLb1.kept s3.ls,hd,ha,hok,hk1.same s3,(hF.kept l1.ls).kept s3.ls,⟨⟨fillK pv,upd_same,?_,?_⟩⟩,by show (givF r b fs).length+2*cnts b<800;omega,by omega,fun H4 l4 hk4 _=>?_⟩
   ·have:=fillK_len pv;omega
   ·exact nm_fill pv ps (by omega) fun i p q h1 h2=>by obtain ⟨l,e,hK⟩:=hpat i p q h1 h2;exact ⟨l,e,hK.same s4⟩
   ·exact kq H4 (l1.trans ⟨lk3.ls.trans l4.ls,fun a kv h=>l4.dk _ _ (fun z=>by rw [z,hd1] at h;cases h) (lk3.dk _ _ h)⟩) hk4
noncomputable abbrev N_Zb:List Str:=["self","statements","names","due","mask","one","block"]
theorem sc_Zb:FnScope N_Zb ["self","statements","names","due"] (defScope st_Zb):=⟨rfl,rfl,rfl,by decide +kernel,rfl,by decide +kernel,by decide +kernel⟩
theorem ok_kbS (T:All P w K mg AA DD) (k:Nat) (GY:FnOk P w K mg base CX0 (2*k+28) AA.Zb DD.Zb ["self","statements","names","due"] (spKB AA.c_KindLook k)) :
  FnOk P w K mg base CX0 (2*(k+1)+28) AA.Zb DD.Zb ["self","statements","names","due"] (spKB AA.c_KindLook (k+1)):=by
 have GKO:=ok_ko (base:=base) T 8
 have GLR:=ok_lr (base:=base) T
 have GX:=ok_eo (base:=base) T
 have GK:=ok_bo (base:=base) T
 have GLD:=ok_ld (base:=base) T k GY
 refine T.F_Zb.ok sc_Zb (fun vs H Q E h=>?_) (fun cdv A outer s H vs Q E hr h=>?_)
 ·obtain ⟨o,dx,d2,d3,l,F,tt,n,xs,ts,du,fs,rfl,_⟩:=h
  rfl
 ·obtain ⟨o,dx,d2,d3,l,F,tt,n,xs,ts,du,fs,rfl,hl,hL,hd,ha,hg,hk,hF,hnm,hf,hn8,kq⟩:=h
  have nd:=sc_Zb.nd
  have hrL:Room (2*k+29) _:=hr
  have hrB:Room (2*k+28) _:=hrL.mono (by omega)
  have hrK:Room (3*8+3) _:=hrB.mono (by omega)
  have hr4:Room 4 _:=hrB.mono (by omega)
  have hr1:Room 1 _:=hrB.mono (by omega)
  refine ⟨_,(@pss_one _ _ _ (@ps_for _ _ _ _ _ _ _ _ PassesOwn.never rfl (pi_list (pv 1)) (pg_tup rfl (pgs_cons (pg_name (i:=4) nd rfl (Or.inl rfl)) (pgs_cons (pg_name (i:=5) nd rfl (Or.inl rfl)) pgs_nil))) (@pss_one _ _ _ (@ps_if _ _ _ _ _ _ _ _ (@pt_cmpR _ _ _ _ _ _ _ _ op_eq (@pe_ix _ _ _ _ _ _ _ (ix_tupK (K:=K) rfl) (pv 5) pe_int (fun _ _=>rfl)) pe_str (nomark _)) (@pss_one _ _ _ (@ps_expr _ _ _ _ (pe_meth (pv 0) T.cl_KindLook T.M_Zd GLD hrL T.b_Zd .nil pass0 (@pa_cons _ _ _ _ _ (pv 4) (@pa_cons _ _ _ _ _ (pv 5) pa_nil (by rfl)) (by rfl))) (by rfl))) (@pss_one _ _ _ (@ps_if _ _ _ _ _ _ _ _ (@pt_cmpR _ _ _ _ _ _ _ _ op_ne (@pe_ix _ _ _ _ _ _ _ (ix_tupK (K:=K) rfl) (pv 5) pe_int (fun _ _=>rfl)) pe_str (nomark _)) (@pss_cons _ _ _ _ _ (@ps_expr _ _ _ _ (pe_meth (pv 0) T.cl_KindLook T.M_Ze GLR hr4 T.b_Ze .nil pass0 (@pa_cons _ _ _ _ _ (pv 5) (@pa_cons _ _ _ _ _ (pe_meth (pv 0) T.cl_KindLook T.M_Zg GKO hrK T.b_Zg .nil pass0 (@pa_cons _ _ _ _ _ (pv 4) (@pa_cons _ _ _ _ _ (pe_call GX hr1 rfl T.m_ZL T.k_ZL T.b_ZL .nil pass0 (@pa_cons _ _ _ _ _ (pv 5) pa_nil (by rfl))) (@pa_cons _ _ _ _ _ (@pe_ix _ _ _ _ _ _ _ (ix_tupK (K:=K) rfl) (pv 5) pe_int (fun _ _=>rfl)) (@pa_cons _ _ _ _ _ (pv 2) pa_nil (by rfl)) (by rfl)) (by rfl)) (by rfl))) (@pa_cons _ _ _ _ _ (pv 2) (@pa_cons _ _ _ _ _ (pv 3) pa_nil (by rfl)) (by rfl)) (by rfl)) (by rfl))) (by rfl)) (@pss_one _ _ _ (@ps_for _ _ _ _ _ _ _ _ PassesOwn.never rfl (pi_list (pe_call GK hr1 rfl T.m_Zy T.k_Zy T.b_Zy .nil pass0 (@pa_cons _ _ _ _ _ (pv 5) pa_nil (by rfl)))) (pg_name (i:=6) nd rfl (Or.inl rfl)) (@pss_one _ _ _ (@ps_expr _ _ _ _ (pe_meth (pv 0) T.cl_KindLook T.M_Zb GY hrB T.b_Zb .nil pass0 (@pa_cons _ _ _ _ _ (pv 6) (@pa_cons _ _ _ _ _ (pv 2) (@pa_cons _ _ _ _ _ (pv 3) pa_nil (by rfl)) (by rfl)) (by rfl))) (by rfl))) (by intro _;rfl)))) pss_nil)))) (by intro _;rfl))),?_⟩
  refine ⟨_,rfl,l,rfl,⟨_,SqL.of hl⟩,?_⟩
  have hxl:=hL.length
  refine for_list (K:=K) (a:=l) (xs:=xs) (fun i σ' H'=>LsD d3 H H'/\(∃ x4 x5 x6,σ'=[some (.ref o),some (.ref l),some (.ref d3),some (kdV du),x4,x5,x6])/\KkAt H' AA.c_KindLook o dx d2 F (kfTs tt du (ts.take i) fs).2/\NmAt H' d3 (kfTs tt du (ts.take i) fs).1 (n+cnts (ts.take i))) ⟨LsD.refl _ _,⟨_,_,_,rfl⟩,by simpa [kfTs] using hk,by simpa [kfTs,cnts] using hnm⟩ (fun i σ' H' _ h=>SqL.of (h.1.ls.2 _ _ hl)) ?_ ?_
  ·rintro i x σ' H1 hx ⟨l1,⟨x4,x5,x6,rfl⟩,hk1,hn1⟩
   obtain ⟨t,ht,hO⟩:=hL.get hx
   have hO1:=hO.kept l1.ls
   have hF1:=hF.kept l1.ls
   have hm:t∈ts:=List.mem_of_getElem? ht
   have hta:=ascs_mem ha hm
   have htg:=okTs_mem hg hm
   have hdm:=deeps_mem hm
   obtain ⟨ft,hnf⟩:=cnts_take ht
   have hq:=kfTs_len tt du (ts.take i) fs
   obtain ⟨hi',et⟩:=List.getElem?_eq_some_iff.mp ht
   have etk:kfTs tt du (ts.take (i+1)) fs=kfT tt du t (kfTs tt du (ts.take i) fs):=by
    rw [List.take_succ_eq_append_getElem hi',et,kfTs_app];rfl
   rw [etk,ft]
   generalize kfTs tt du (ts.take i) fs=gs at hk1 hq hn1
   generalize hnn:n+cnts (ts.take i)=m at hn1
   rw [show n+(cnts (ts.take i)+t.cnt)=m+t.cnt by omega]
   cases hO1 with
   | plain e _=>cases e
   | @shared p y _ _ hp hS =>
   have hS0:=hS
   cases hS with
   | @mk t0 vs _ ht0 hps =>
   obtain ⟨vr,rfl⟩:=st_head hps
   obtain ⟨d1,hi,_⟩:=hk1.ins
   refine ⟨p,_,rfl,SqT.of hp,rfl,_,_,rfl,_,_,rfl,rfl,?_⟩
   refine ⟨_,rfl,t0,_,_,_,rfl,rfl,SqT.of ht0,atI_nat (j:=0) rfl,rfl,_,rfl,?_⟩
   cases hex:t.ex with
   | none =>
    cases t with
    | df r z kd ps b =>
     refine iteTb (decide_eq_true rfl) ?_
     have hb:deeps b<=(Tr.df r z kd ps b).deep:=deep_part (by simp [Tr.parts])
     have hcn:(Tr.df r z kd ps b).cnt=1+cnts b:=by simp [Tr.cnt]
     refine ⟨_,rfl,o,dx,_,rfl,hi,rfl,_,rfl,_,rfl,o,dx,d2,F,tt,.ref t0,r,z,kd,ps,b,gs.2,rfl,hS0,hta.1,by omega,hta.2.2,htg,hk1,hF1,by omega,by omega,fun H2 l2 hk2=>?_⟩
     refine ⟨l1.trans l2.d,⟨_,_,_,rfl⟩,?_,?_⟩
     ·rw [kfT];exact hk2
     ·rw [kfT];exact (hn1.kept l2).mono (by omega)
    | kd r z ps =>
     refine iteFb (decide_eq_false (by intro q;injection q with q;exact absurd q (by simp only [Tr.kw];decide +kernel))) ?_
     refine ⟨_,rfl,t0,_,_,_,rfl,rfl,SqT.of ht0,atI_nat (j:=0) rfl,rfl,_,rfl,?_⟩
     refine iteFb (by
      show (!decide (V.str "kind"=V.str "kind"))=false
      rw [decide_eq_true rfl];rfl) ?_
     refine ⟨l1,⟨_,_,_,rfl⟩,?_,?_⟩
     ·rw [kfT];exact hk1
     ·rw [kfT];exact hn1.mono (by omega)
    | _=>cases hex
   | some ee =>
   refine iteFb (decide_eq_false fun z=>(kw_not hex).1 (by injection z)) ?_
   refine ⟨_,rfl,t0,_,_,_,rfl,rfl,SqT.of ht0,atI_nat (j:=0) rfl,rfl,_,rfl,?_⟩
   refine iteTb (by
    show (!decide (V.str t.kw=V.str "kind"))=true
    rw [decide_eq_false fun z=>(kw_not hex).2 (by injection z)];rfl) ?_
   obtain ⟨hdos,hgiv,hblk⟩:=okT_ex htg hex
   have hfit:=asc_ex hta hex
   have hcb:=cnt_b t
   refine ⟨_,rfl,o,dx,_,rfl,hi,rfl,_,rfl,_,rfl,o,dx,_,rfl,hi,rfl,_,rfl,?_⟩
   refine ⟨_,rfl,.ref t0,t,ee,rfl,hS0,hex,fun x hx=>?_⟩
   have hb1:=addF_len gs.2 (kk t.row "kind")
   have hb2:=kfX_len tt gs.1 t.row ee gs.2
   refine ⟨_,rfl,t0,_,_,_,rfl,rfl,SqT.of ht0,atI_nat (j:=1) rfl,_,rfl,o,dx,d2,F,tt,gs.2,x,d3,gs.1,_,ee,t.row,rfl,hx,hdos,hn1,hF1,hfit.2,hk1,by omega,fun p2 H2 l2 hk2 hK2=>?_⟩
   refine ⟨_,rfl,_,rfl,o,dx,d2,d3,p2,F,kfX tt gs.1 t.row ee gs.2,gs.1,_,.ref t0,t,kdX tt gs.1 ee,du,ee,rfl,hS0.kept l2.ls,hex,fun z=>?_,hK2,hk2,hn1.kept l2,by omega,by omega,fun H3 l3 hk3 hn3=>?_⟩
   ·have:=hgiv z
    cases du with
    | none=>cases this
    | some x=>exact fun z=>by cases z
   dsimp only
   refine ⟨_,rfl,.ref t0,t,rfl,(hS0.kept l2.ls).kept l3.ls,fun pb ys H4 s4 hpb hys=>⟨pb,rfl,⟨_,SqL.of hpb⟩,?_⟩⟩
   have hk4:KkAt H4 AA.c_KindLook o dx d2 F (rowF tt du t ee gs).2:=hk3.same s4
   have hn4:NmAt H4 d3 (rowF tt du t ee gs).1 (m+1):=hn3.kept (lkS s4)
   have l4:=(l1.trans l2.d).trans (l3.trans (lkS s4).d)
   have hF4:=hF.kept l4.ls
   have hyl:=hys.length
   rw [List.length_map] at hyl
   have hrl:=rowF_len tt du t ee gs
   refine for_list (K:=K) (a:=pb) (xs:=ys) (fun j σ' H'=>LsD d3 H4 H'/\(∃ x6,σ'=[some (.ref o),some (.ref l),some (.ref d3),some (kdV du),some (.int 1),some (.ref t0),x6])/\KkAt H' AA.c_KindLook o dx d2 F ((t.blocks.take j).foldl (fun gs b=>kfTs tt du b gs) (rowF tt du t ee gs)).2/\NmAt H' d3 ((t.blocks.take j).foldl (fun gs b=>kfTs tt du b gs) (rowF tt du t ee gs)).1 (m+1+((t.blocks.take j).map cnts).sum)) ⟨LsD.refl _ _,⟨_,rfl⟩,by simpa using hk4,by simpa using hn4⟩ (fun j σ' H' _ h=>SqL.of (h.1.ls.2 _ _ hpb)) ?_ ?_
   ·rintro j v σ' H5 hv ⟨l5,⟨x6',rfl⟩,hk5,hn5'⟩
    obtain ⟨pp,hpp,hPP⟩:=hys.get hv
    rw [List.getElem?_map] at hpp
    obtain ⟨bs,hbs,rfl⟩:=Option.map_eq_some_iff.mp hpp
    have hbm:=List.mem_of_getElem? hbs
    obtain ⟨fb,hn5⟩:=sum_take hbs
    have hPP:=hPP.kept l5.ls
    cases hPP with
    | @b lb zs _ hlb hLb =>
    obtain ⟨d1,hi5,_⟩:=hk5.ins
    have hq5:=foldb_len tt du (t.blocks.take j) (rowF tt du t ee gs)
    obtain ⟨hj',ej⟩:=List.getElem?_eq_some_iff.mp hbs
    rw [show (t.blocks.take (j+1)).foldl (fun gs b=>kfTs tt du b gs) (rowF tt du t ee gs)=kfTs tt du bs ((t.blocks.take j).foldl (fun gs b=>kfTs tt du b gs) (rowF tt du t ee gs)) from (by rw [List.take_succ_eq_append_getElem hj',ej,List.foldl_append];rfl),fb]
    generalize (t.blocks.take j).foldl (fun gs b=>kfTs tt du b gs) (rowF tt du t ee gs)=q5 at hk5 hq5 hn5'
    have hpt:=blocks_mem hbm
    have hdb:=deep_part hpt
    refine ⟨_,rfl,o,dx,_,rfl,hi5,rfl,_,rfl,_,rfl,_,rfl,o,dx,d2,d3,lb,F,tt,_,zs,bs,du,q5,rfl,hlb,hLb,by omega,(asc_part hta hpt).2,hblk _ hbm,hk5,hF4.kept l5.ls,hn5',by omega,by omega,fun H' ls hk' hn'=>⟨l5.trans ls,⟨_,rfl⟩,hk',hn'.mono (by omega)⟩⟩
   ·rintro σ' H5 ⟨l5,⟨x6',rfl⟩,hk5,hn5'⟩
    rw [List.take_of_length_le (by omega),<- kfT_b tt du t hex] at hk5 hn5'
    exact ⟨l4.trans l5,⟨_,_,_,rfl⟩,hk5,hn5'.mono (by omega)⟩
  ·rintro σ' H1 ⟨l1,⟨x4,x5,x6,rfl⟩,hk1,hn1⟩
   rw [List.take_of_length_le (by omega)] at hk1 hn1
   exact kq _ l1 hk1 hn1
theorem ok_kb0 (T:All P w K mg AA DD):FnOk P w K mg base CX0 (2*0+28) AA.Zb DD.Zb ["self","statements","names","due"] (spKB AA.c_KindLook 0):=by
 have no:∀ vs H Q E,¬ spKB AA.c_KindLook 0 vs H Q E:=fun vs H Q E h=>by
  obtain ⟨o,dx,d2,d3,l,F,tt,n,xs,ts,du,fs,_,_,_,z,_⟩:=h
  omega
 exact T.F_Zb.ok sc_Zb (fun vs H Q E h=>(no _ _ _ _ h).elim) (fun cdv A outer s H vs Q E hr h=>(no _ _ _ _ h).elim)
theorem ok_kb (T:All P w K mg AA DD):∀ k:Nat,FnOk P w K mg base CX0 (2*k+28) AA.Zb DD.Zb ["self","statements","names","due"] (spKB AA.c_KindLook k)
 | 0=>ok_kb0 T
 | k+1=>ok_kbS T k (ok_kb T k)
end
section
variable {P:Program} {w:World} {K:PySem.W.Frag} {mg:Str->Option Value} {base:Heap} {AA:Adr} {DD:Fds}
noncomputable def spNLi (C:Addr):Sp:=fun vs H Q _=>∃ (o dx l:Addr) (xs:List V) (ts:List Tr),vs=[.ref o,.ref l]/\H o=some (.ins C dx [])/\H l=some (.lst xs)/\LAt H true xs ts/\ts.length<=50/\∀ d2 F H',LsS H H'->KkAt H' C o dx d2 F []->FsAt H' F ts->Q .non H'
noncomputable abbrev N_Zl:List Str:=["self","tree"]
theorem sc_Zl:FnScope N_Zl ["self","tree"] (defScope st_Zl):=⟨rfl,rfl,rfl,by decide +kernel,rfl,by decide +kernel,by decide +kernel⟩
theorem ok_kli (T:All P w K mg AA DD):FnOk P w K mg base CX0 3 AA.Zl DD.Zl ["self","tree"] (spNLi AA.c_KindLook):=by
 have GA:=ok_fr (base:=base) T
 refine T.F_Zl.ok sc_Zl (fun vs H Q E h=>?_) (fun cdv A outer s H vs Q E hr h=>?_)
 ·obtain ⟨o,dx,l,xs,ts,rfl,_⟩:=h
  rfl
 ·obtain ⟨o,dx,l,xs,ts,rfl,ho,hl,hL,h50,kq⟩:=h
  have nd:=sc_Zl.nd
  have hr2:Room 2 _:=hr
  refine ⟨_,(@pss_cons _ _ _ _ _ (ps_fld (pv 0) (pe_call GA hr2 rfl T.m_Zv T.k_Zv T.b_Zv .nil pass0 (@pa_cons _ _ _ _ _ (pv 1) pa_nil (by rfl))) rfl) (@pss_one _ _ _ (ps_fld (pv 0) (pe_dnewT) rfl))),?_⟩
  refine ⟨_,rfl,l,xs,ts,rfl,hl,hL,h50,fun d1 F H1 s1 hd1 hF=>?_⟩
  have ho1:=s1 _ _ ho
  refine ⟨_,rfl,o,AA.c_KindLook,dx,_,rfl,ho1,T.cl_KindLook,T.na_KindLook_firsts,(by show 0<1000;decide),?_⟩
  refine fun d2 hd2=>?_
  have s3:=same_upd (o:=.dT []) hd2
  refine ⟨_,rfl,o,AA.c_KindLook,dx,_,rfl,s3 _ _ upd_same,T.cl_KindLook,T.na_KindLook_faults,(by show 1<1000;decide),?_⟩
  have b1:=ls_upd (ob':=.ins AA.c_KindLook dx [("firsts",.ref d1)]) ho1 (fun _ z=>nomatch z) (fun _ z=>nomatch z) fun _ _ z=>nomatch z
  have h3:=s3 _ _ (upd_same (H:=H1) (a:=o) (o:=.ins AA.c_KindLook dx [("firsts",.ref d1)]))
  have b2:=ls_upd (ob':=.ins AA.c_KindLook dx [("firsts",.ref d1),("faults",.ref d2)]) h3 (fun _ z=>nomatch z) (fun _ z=>nomatch z) fun _ _ z=>nomatch z
  have hne:d2≠o:=fun z=>by rw [z,upd_same] at hd2;cases hd2
  have hne1:d1≠o:=fun z=>by rw [z,ho1] at hd1;cases hd1
  have hd12:upd H1 o (.ins AA.c_KindLook dx [("firsts",.ref d1)]) d1=some (.dT F):=by rw [upd_ne hne1];exact hd1
  have hne2:d1≠d2:=fun z=>by rw [<- z] at hd2;exact absurd (hd12.symm.trans hd2) (fun z=>by cases z)
  refine kq d2 F _ (((s1.ls.trans b1).trans s3.ls).trans b2) ⟨⟨d1,upd_same,?_,hne2⟩,?_⟩ (((hF.kept b1).kept s3.ls).kept b2)
  ·rw [upd_ne hne1];exact s3 _ _ hd12
  ·rw [upd_ne hne,upd_same];rfl
theorem addF_keys {fs:List (List Key)} {c k:List Key} (h:k∈addF fs c):k∈fs∨k=c:=by
 unfold addF at h
 split at h
 ·exact .inl h
 ·rcases List.mem_append.mp h with h | h
  ·exact .inl h
  ·exact .inr (by simpa using h)
theorem kfX_keys {tt:List Tr} {ρ:Env} {r:Nat} {e:Ex} {fs:List (List Key)} {k:List Key} (h:k∈kfX tt ρ r e fs):k∈fs∨∃ r z,k=kk r z:=by
 rcases kfX_one tt ρ r e fs with q | q<;>rw [q] at h
 ·exact .inl h
 ·rcases addF_keys h with h | h
  ·exact .inl h
  ·exact .inr ⟨_,_,h⟩
theorem lrF_keys {t:Tr} {o:Option Kd} {ρ:Env} {du:Kd} {fs:List (List Key)} {k:List Key} (h:k∈lrF t o ρ du fs):k∈fs∨∃ r z,k=kk r z:=by
 have ad:∀ r z,k∈addF fs (kk r z)->k∈fs∨∃ r z,k=kk r z:=fun r z h=>(addF_keys h).imp_right fun q=>⟨_,_,q⟩
 have tr:∀ r w d,k∈truF r o w d fs->k∈fs∨∃ r z,k=kk r z:=fun r w d h=>by
  unfold truF at h
  split at h
  ·exact .inl h
  ·exact ad _ _ h
 unfold lrF at h
 split at h
 ·unfold setF at h
  split at h
  ·unfold askF at h
   split at h
   ·exact .inl h
   ·exact ad _ _ h
  ·exact .inl h
 ·unfold telF at h
  split at h
  ·exact ad _ _ h
  ·exact .inl h
 ·exact tr _ _ _ h
 ·exact tr _ _ _ h
theorem rowF_keys {tt:List Tr} {du:Kd} {t:Tr} {e:Ex} {s:KSt} {k:List Key} (h:k∈(rowF tt du t e s).2):k∈s.2∨∃ r z,k=kk r z:=by
 rcases lrF_keys (show k∈lrF t (kdX tt s.1 e) s.1 du (kfX tt s.1 t.row e s.2) from h) with h | h
 ·exact kfX_keys h
 ·exact .inr h
mutual
theorem kfT_keys (tt:List Tr):∀ (du:Kd) (t:Tr) (fs:KSt) (k:List Key),k∈(kfT tt du t fs).2->k∈fs.2∨∃ r z,k=kk r z
 | du,.set r n e,fs,k,h=>rowF_keys (t:=.set r n e) (by simpa [kfT] using h)
 | du,.tell r e,fs,k,h=>rowF_keys (t:=.tell r e) (by simpa [kfT] using h)
 | du,.give r e,fs,k,h=>rowF_keys (t:=.give r e) (by simpa [kfT] using h)
 | du,.iff r e b o,fs,k,h=>by
  rw [kfT] at h
  rcases kfTs_keys tt du o _ k h with h | h
  ·rcases kfTs_keys tt du b _ k h with h | h
   ·exact rowF_keys h
   ·exact .inr h
  ·exact .inr h
 | du,.whl r e b,fs,k,h=>by
  rw [kfT] at h
  rcases kfTs_keys tt du b _ k h with h | h
  ·exact rowF_keys h
  ·exact .inr h
 | du,.df r n kd ps b,fs,k,h=>by
  rw [kfT] at h
  rcases kfTs_keys tt (some kd) b _ k h with h | h
  ·have h:k∈givF r b fs.2:=h
   unfold givF at h
   split at h
   ·exact (addF_keys h).imp_right fun q=>⟨_,_,q⟩
   ·exact .inl h
  ·exact .inr h
 | du,.kd r n ps,fs,k,h=>.inl (by simpa [kfT] using h)
theorem kfTs_keys (tt:List Tr):∀ (du:Kd) (ts:List Tr) (fs:KSt) (k:List Key),k∈(kfTs tt du ts fs).2->k∈fs.2∨∃ r z,k=kk r z
 | du,[],fs,k,h=>.inl (by simpa [kfTs] using h)
 | du,t::ts,fs,k,h=>by
  rw [kfTs] at h
  rcases kfTs_keys tt du ts _ k h with h | h
  ·exact kfT_keys tt du t fs k h
  ·exact .inr h
end
noncomputable def fK (ts:List Tr):List (List Key):=(kfTs ts none ts (env0,[])).2
theorem fK_kk {ts:List Tr} {k:List Key} (h:k∈fK ts):∃ r z,k=kk r z:=by
 rcases kfTs_keys ts none ts (env0,[]) k h with z | q
 ·simp at z
 ·exact q
theorem fK_sh (ts:List Tr):∀ k∈fK ts,k.map isI=[true,false]:=fun k hk=>by
 obtain ⟨r,z,rfl⟩:=fK_kk hk
 rfl
noncomputable def KOk (ts:List Tr):Prop:=deeps ts<4/\ts.length<=20/\ascs ts/\okTs false ts/\cnts ts<300
noncomputable def spSK:Sp:=fun vs H Q _=>∃ (l:Addr) (xs:List V) (ts:List Tr),vs=[.ref l,.int 1]/\H l=some (.lst xs)/\LAt H true xs ts/\KOk ts/\(fK ts).length<64 /\
 ∀ p ys H',LsS H H'->H' p=some (.lst ys)->TupsAt H' ys ((srtK (fK ts)).map fun k=>.inl 1::k)->Q (.ref p) H'
noncomputable abbrev N_Zn:List Str:=["tree","mask","kept","look"]
theorem sc_Zn:FnScope N_Zn ["tree","mask"] (defScope st_Zn):=⟨rfl,rfl,rfl,by decide +kernel,rfl,by decide +kernel,by decide +kernel⟩
theorem ok_sk (T:All P w K mg AA DD):FnOk P w K mg base CX0 38 AA.Zn DD.Zn ["tree","mask"] spSK:=by
 have GF:=ok_kt (base:=base) T 6
 have GC:=ok_kli (base:=base) T
 have GY:=ok_kb (base:=base) T 4
 have GW:=ok_wm (base:=base) T
 refine T.F_Zn.ok sc_Zn (fun vs H Q E h=>?_) (fun cdv A outer s H vs Q E hr h=>?_)
 ·obtain ⟨l,xs,ts,rfl,_⟩:=h
  rfl
 ·obtain ⟨l,xs,ts,rfl,hl,hL,⟨hd,h20,ha,hg,hn⟩,h64,kq⟩:=h
  have nd:=sc_Zn.nd
  have hrB:Room (2*4+28) _:=hr.mono (by omega)
  have hrF:Room 17 _:=hr.mono (by omega)
  have hr4:Room 4 _:=hr.mono (by omega)
  have hr3:Room 3 _:=hr.mono (by omega)
  have hr1:Room 1 _:=hr.mono (by omega)
  refine ⟨_,(@pss_cons _ _ _ _ _ (@ps_set _ _ 2 _ _ _ _ nd rfl (Or.inl rfl) (pe_call GF hrF rfl T.m_Zw T.k_Zw T.b_Zw .nil pass0 (@pa_cons _ _ _ _ _ (pv 0) (@pa_cons _ _ _ _ _ (pv 1) pa_nil (by rfl)) (by rfl))) (by rfl) (by first | exact .inl rfl | exact .inr rfl | assumption)) (@pss_cons _ _ _ _ _ (@ps_set _ _ 3 _ _ _ _ nd rfl (Or.inl rfl) (pe_make T.M_KindLook GC hr4 rfl T.m_KindLook T.b_Zl .nil pass0 (@pa_cons _ _ _ _ _ (pv 2) pa_nil (by rfl))) (by rfl) (by first | exact .inl rfl | exact .inr rfl | assumption)) (@pss_cons _ _ _ _ _ (@ps_expr _ _ _ _ (pe_meth (pv 3) T.cl_KindLook T.M_Zb GY hrB T.b_Zb .nil pass0 (@pa_cons _ _ _ _ _ (pv 2) (@pa_cons _ _ _ _ _ pe_dnewK (@pa_cons _ _ _ _ _ pe_non pa_nil (by rfl)) (by rfl)) (by rfl))) (by rfl)) (@pss_one _ _ _ (@ps_ret _ _ _ _ (pe_call GW hr1 rfl T.m_Zu T.k_Zu T.b_Zu .nil pass0 (@pa_cons _ _ _ _ _ (pe_fld (pv 3) rfl) pa_nil (by rfl)))))))),?_⟩
  refine ⟨_,rfl,_,rfl,l,xs,ts,rfl,hl,hL,(by omega),h20,ha,fun p ys H1 s1 hp hys=>?_⟩
  dsimp only [gName]
  refine ⟨_,rfl,fun o dx ho hdx ne=>?_⟩
  have s2:Same H1 (upd (upd H1 dx (.own o)) o (.ins AA.c_KindLook dx [])):=(same_upd (o:=.own o) hdx).trans (same_upd (by rw [upd_ne (Ne.symm ne)];exact ho))
  refine ⟨o,dx,p,ys,ts,rfl,upd_same,s2 _ _ hp,hys.kept s2.ls,by omega,fun d2 F H3 l3 hk3 hF3=>⟨rfl,?_⟩⟩
  have hp3:=l3.2 _ _ (s2 _ _ hp)
  have hL3:=(hys.kept s2.ls).kept l3
  obtain ⟨d1,hi3,_⟩:=hk3.ins
  dsimp only [gName]
  refine ⟨_,rfl,o,dx,_,rfl,hi3,rfl,_,rfl,fun g hg'=>?_⟩
  have s5:=same_upd (o:=.dK []) hg'
  refine ⟨o,dx,d2,g,p,F,ts,0,ys,ts,none,(env0,[]),rfl,s5 _ _ hp3,hL3.kept s5.ls,hd,ha,hg,hk3.same s5,hF3.kept s5.ls,⟨⟨[],upd_same,Nat.le_refl _,fun z=>.inl ⟨rfl,rfl⟩⟩⟩,(by show 0+2*cnts ts<800;omega),by omega,fun H6 l6 hk6 _=>?_⟩
  obtain ⟨d1',hi6,_⟩:=hk6.ins
  refine ⟨_,rfl,o,AA.c_KindLook,dx,_,_,rfl,hi6,T.cl_KindLook,T.na_KindLook_faults,rfl,d2,fK ts,[true,false],rfl,hk6.flt,h64,fK_sh ts,by simp,by simp,fun q zs H7 s7 hq hT=>kq q zs H7 ?_ hq hT⟩
  exact ((((s1.trans s2).ls.trans l3).trans s5.ls).trans l6.ls).trans s7.ls
noncomputable def noLs (H:Hp) (p:Addr):Prop:=(∀ xs,H p≠some (.lst xs))/\(∀ xs,H p≠some (.tup xs))/\∀ o x,H p≠some (.frz o x)
theorem noLs_of {H H':Hp} (l:LsS H H') {p:Addr} (h:H' p=none):noLs H p:=⟨fun xs z=>(by rw [l.2 _ _ z] at h;cases h),fun xs z=>(by rw [l.1 _ _ z] at h;cases h),fun o x z=>(by rw [l.z _ _ _ z] at h;cases h)⟩
noncomputable def spPK:Sp:=fun vs H Q _=>∃ (l:Addr) (xs:List V) (ts:List Tr),vs=[.ref l]/\H l=some (.lst xs)/\LAt H false xs ts/\KOk ts/\(fK ts).length<64 /\
 ∀ p ys H',LsS H H'->H' p=some (.lst ys)->TupsAt H' ys (srtK (fK ts))->noLs H p->Q (.ref p) H'
theorem srtK_mem {fs:List (List Key)} {k:List Key} (h:k∈srtK fs):k∈fs:=by
 obtain ⟨j,hj,e⟩:=List.mem_map.mp h
 rw [<- e,List.getD_eq_getElem?_getD,List.getElem?_eq_getElem (srtI_lt j hj)]
 exact List.getElem_mem _
noncomputable abbrev N_Zr:List Str:=["tree"]
theorem sc_Zr:FnScope N_Zr ["tree"] (defScope st_Zr):=⟨rfl,rfl,rfl,by decide +kernel,rfl,by decide +kernel,by decide +kernel⟩
theorem ok_pk (T:All P w K mg AA DD):FnOk P w K mg base CX0 39 AA.Zr DD.Zr ["tree"] spPK:=by
 have GF:=ok_shof (base:=base) T 6
 have GS:=ok_sk (base:=base) T
 refine T.F_Zr.ok sc_Zr (fun vs H Q E h=>?_) (fun cdv A outer s H vs Q E hr h=>?_)
 ·obtain ⟨l,xs,ts,rfl,_⟩:=h
  rfl
 ·obtain ⟨l,xs,ts,rfl,hl,hL,hok,h64,kq⟩:=h
  have nd:=sc_Zr.nd
  have hrS:Room 38 _:=hr
  have hrF:Room 13 _:=hrS.mono (by omega)
  refine ⟨_,(@pss_one _ _ _ (@ps_ret _ _ _ _ (pe_comp2 (xs:=["mask","at","what"]) (defScope st_Zr) N_Zr [] [] rfl (by exact ⟨rfl,rfl,by decide +kernel,by decide +kernel,by decide +kernel,by decide +kernel,by decide +kernel,rfl,by decide +kernel⟩) rfl rfl (pi_list (pe_call GS hrS rfl T.m_Zn T.k_Zn T.b_Zn .nil pass0 (@pa_cons _ _ _ _ _ (pe_call GF hrF rfl T.m_Zx T.k_Zx T.b_Zx .nil pass0 (@pa_cons _ _ _ _ _ (pv 0) pa_nil (by rfl))) (@pa_cons _ _ _ _ _ pe_int pa_nil (by rfl)) (by rfl)))) (fun _ _ _ _=>(pg_tupK (K:=K) (n:=3) rfl rfl (pgs_cons (pg_name (i:=0) (show (["mask","at","what"]:List Str).Nodup by decide +kernel) rfl (Or.inl rfl)) (pgs_cons (pg_name (i:=1) (show (["mask","at","what"]:List Str).Nodup by decide +kernel) rfl (Or.inl rfl)) (pgs_cons (pg_name (i:=2) (show (["mask","at","what"]:List Str).Nodup by decide +kernel) rfl (Or.inl rfl)) pgs_nil))))) (fun _ _ _ _=>pif_nil) (fun _ _ _ _=>(@pe_tup _ _ _ _ _ (@pa_cons _ _ _ _ _ (pv 1) (@pa_cons _ _ _ _ _ (pv 2) pa_nil (by rfl)) (by rfl))))))),?_⟩
  refine ⟨_,rfl,l,xs,ts,rfl,hl,hL,(by have:=hok.1;omega),hok.2.1,hok.2.2.1,fun p ys H1 s1 hp hys=>?_⟩
  refine ⟨p,ys,ts,rfl,hp,hys,hok,h64,fun q zs H2 l2 hq hT=>?_⟩
  refine ⟨q,rfl,⟨_,SqL.of hq⟩,?_⟩
  have hzl:=hT.1
  rw [List.length_map] at hzl
  have hsl:(srtK (fK ts)).length<64:=by
   unfold srtK
   rw [List.length_map,srtI_len]
   exact h64
  refine comp2_list (K:=K) (a:=q) (xs:=zs) (fun i ys H'=>Same H2 H'/\i<=zs.length/\TupsAt H' ys ((srtK (fK ts)).take i)) ⟨Same.refl _,Nat.zero_le _,by simp,fun j x d h=>by simp at h⟩ (fun i ys H' _ h=>SqL.of (h.1 _ _ hq)) ?_ ?_
  ·rintro i x us H3 hx ⟨sm,hi,hus⟩
   have hilt:=(List.getElem?_eq_some_iff.mp hx).1
   have hik:i<(srtK (fK ts)).length:=by omega
   obtain ⟨t,rfl,ht⟩:=hT.2 i x (.inl 1::(srtK (fK ts))[i]) hx (by rw [List.getElem?_map,List.getElem?_eq_getElem hik];rfl)
   obtain ⟨r,z,ek⟩:=fK_kk (srtK_mem (List.getElem_mem hik))
   rw [ek] at ht
   have ht3:H3 t=some (.tup [.int 1,.int ((r:Nat):Int),.str z]):=sm _ _ ht
   have hul:=hus.1
   rw [List.length_take] at hul
   intro os hos
   obtain ⟨a,b,c,rfl⟩:∃ a b c,os=[a,b,c]:=by
    match os,hos with
    | [a,b,c],_=>exact ⟨a,b,c,rfl⟩
   refine ⟨t,_,rfl,SqT.of ht3,rfl,_,_,rfl,_,_,rfl,_,_,rfl,rfl,⟨[_,_,_],rfl,rfl⟩,?_⟩
   refine tYes_ok ?_
   rw [if_pos rfl]
   refine ⟨_,rfl,_,rfl,(by show 2<=sizeLine;decide),fun q2 hq2=>?_⟩
   have s3:=same_upd (o:=.tup [.int ((r:Nat):Int),.str z]) hq2
   refine ⟨small1000' (by omega),sm.trans s3,by omega,?_⟩
   rw [List.take_succ_eq_append_getElem hik,ek]
   refine ⟨by simp [hus.1],fun j y e hy he=>?_⟩
   by_cases hj:j<us.length
   ·rw [List.getElem?_append_left hj] at hy
    rw [List.getElem?_append_left (by rw [List.length_take];omega)] at he
    obtain ⟨t',a1,a2⟩:=hus.2 j y e hy he
    exact ⟨t',a1,s3 _ _ a2⟩
   ·rw [List.getElem?_append_right (by omega)] at hy
    rw [List.getElem?_append_right (by rw [List.length_take];omega),List.length_take,<- hul] at he
    have hj2:=(List.getElem?_eq_some_iff.mp hy).1
    have hj0:j-us.length=0:=by simpa using hj2
    rw [hj0] at hy he
    have y1:V.ref q2=y:=by simpa using hy
    have e1:kk r z=e:=by simpa using he
    exact ⟨q2,y1.symm,by rw [<- e1];exact upd_same⟩
  ·rintro us H3 ⟨sm,hi,hus⟩ q3 hq3
   have s3:=same_upd (o:=.lst us) hq3
   rw [List.take_of_length_le (by omega)] at hus
   exact kq q3 us _ (((s1.ls.trans l2).trans sm.ls).trans s3.ls) upd_same ⟨hus.1,fun j x k a b=>by obtain ⟨t,e,h⟩:=hus.2 j x k a b;exact ⟨t,e,s3 _ _ h⟩⟩ (noLs_of ((s1.ls.trans l2).trans sm.ls) hq3)
end
theorem app_list (a b:Str):(a++b).cps.toList=a.cps.toList++b.cps.toList:=Array.toList_append ..
theorem app_len (a b:Str):(a++b).length=a.length+b.length:=Array.size_append ..
theorem one_len (c:Nat):(⟨#[c]⟩:Str).length=1:=rfl
theorem list_len (z:Str):z.cps.toList.length=z.length:=by simp [Str.length]
theorem modN {a:Int} {n:Nat} (h:0<n):∃ j:Nat,a % (n:Int)=(j:Int)/\j<n:=⟨(a % (n:Int)).toNat,by
 have:=Int.emod_nonneg a (show (n:Int)≠0 by omega)
 omega,by
 have:=Int.emod_nonneg a (show (n:Int)≠0 by omega)
 have:=Int.emod_lt_of_pos a (show (0:Int)<(n:Int) by omega)
 omega⟩
section
variable {P:Program} {w:World} {K:PySem.W.Frag} {mg:Str->Option Value} {base:Heap} {AA:Adr} {DD:Fds}
noncomputable def cellI (ns:List Int) (j:Nat):Int:=ns.getD j 0
noncomputable def spCellAt (K:PySem.W.Frag):Sp:=fun vs H Q _=>∃ (a:Addr) (ns:List Int) (j:Nat),vs=[.ref a,.int ((j:Nat):Int)]/\SqL K H a (ns.map V.int)/\Q (.int (cellI ns j)) H
noncomputable abbrev N_Zs:List Str:=["_law_script","_law_k"]
theorem sc_Zs:FnScope N_Zs ["_law_script","_law_k"] (defScope st_Zs):=⟨rfl,rfl,rfl,by decide +kernel,rfl,by decide +kernel,by decide +kernel⟩
theorem ok_cellat (T:All P w K mg AA DD):FnOk P w K mg base CX0 1 AA.Zs DD.Zs ["_law_script","_law_k"] (spCellAt K):=by
 refine T.F_Zs.ok sc_Zs (fun vs H Q E h=>?_) (fun cdv A outer s H vs Q E hr h=>?_)
 ·obtain ⟨a,ns,k,rfl,_⟩:=h
  rfl
 ·obtain ⟨a,ns,j,rfl,hS,k⟩:=h
  have nd:=sc_Zs.nd
  refine ⟨_,(@pss_cons _ _ _ _ _ (@ps_if _ _ _ _ _ _ _ _ (@pt_cmpR _ _ _ _ _ _ _ _ op_lt (pv 1) (pe_callB call_len_seq rfl T.n_len bt_len (@pa_cons _ _ _ _ _ (pv 0) pa_nil (by rfl))) (nomark _)) (@pss_one _ _ _ (@ps_ret _ _ _ _ (@pe_ix _ _ _ _ _ _ _ (ix_listK (K:=K) rfl) (pv 0) (pv 1) (fun _ _=>rfl)))) pss_nil) (@pss_one _ _ _ (@ps_ret _ _ _ _ pe_int))),?_⟩
  refine ⟨_,rfl,_,rfl,a,_,rfl,.inl hS,_,_,rfl,rfl,_,rfl,?_⟩
  rw [List.length_map]
  unfold cellI at k
  refine ite2 (fun h1=>?_) (fun h1=>?_)
  ·have h1:((j:Nat):Int)<(ns.length:Int):=of_decide_eq_true h1
   refine ⟨_,rfl,_,rfl,a,_,_,_,rfl,rfl,hS,atI_nat (j:=j) (by rw [List.getElem?_map,List.getElem?_eq_getElem (by omega)];rfl),?_⟩
   rw [List.getD_eq_getElem?_getD,List.getElem?_eq_getElem (by omega)] at k
   exact k
  ·have h1:¬((j:Nat):Int)<(ns.length:Int):=fun z=>h1 (decide_eq_true z)
   rw [List.getD_eq_getElem?_getD,List.getElem?_eq_none (by omega)] at k
   exact k
noncomputable def mixI (c k:Int):Int:=((c+7919*k+1)*48271 % 2147483647)*((c+7919*k+1)*48271 % 2147483647 / 1009+69621) % 2147483647
theorem mixI_nn (c k:Int):0<=mixI c k:=Int.emod_nonneg _ (by decide)
noncomputable def spMixed:Sp:=fun vs H Q _=>∃ c k:Int,vs=[.int c,.int k]/\Q (.int (mixI c k)) H
noncomputable abbrev N_ZB:List Str:=["_law_cell","_law_k","_law_number"]
theorem sc_ZB:FnScope N_ZB ["_law_cell","_law_k"] (defScope st_ZB):=⟨rfl,rfl,rfl,by decide +kernel,rfl,by decide +kernel,by decide +kernel⟩
theorem ok_mixed (T:All P w K mg AA DD):FnOk P w K mg base CX0 1 AA.ZB DD.ZB ["_law_cell","_law_k"] spMixed:=by
 refine T.F_ZB.ok sc_ZB (fun vs H Q E h=>?_) (fun cdv A outer s H vs Q E hr h=>?_)
 ·obtain ⟨c,k,rfl,_⟩:=h
  rfl
 ·obtain ⟨c,j,rfl,k⟩:=h
  have nd:=sc_ZB.nd
  unfold mixI at k
  refine ⟨_,(@pss_cons _ _ _ _ _ (@ps_set _ _ 2 _ _ _ _ nd rfl (Or.inl rfl) (@pe_op _ _ _ _ _ _ _ _ op_mod (@pe_op _ _ _ _ _ _ _ _ op_mul (@pe_op _ _ _ _ _ _ _ _ op_add (@pe_op _ _ _ _ _ _ _ _ op_add (pv 0) (@pe_op _ _ _ _ _ _ _ _ op_mul pe_int (pv 1))) pe_int) pe_int) pe_int) (by rfl) (by first | exact .inl rfl | exact .inr rfl | assumption)) (@pss_one _ _ _ (@ps_ret _ _ _ _ (@pe_op _ _ _ _ _ _ _ _ op_mod (@pe_op _ _ _ _ _ _ _ _ op_mul (pv 2) (@pe_op _ _ _ _ _ _ _ _ op_add (@pe_op _ _ _ _ _ _ _ _ op_fdiv (pv 2) pe_int) pe_int)) pe_int)))),?_⟩
  refine ⟨_,rfl,_,rfl,_,_,rfl,rfl,.inl ⟨by decide,by decide⟩,_,_,rfl,rfl,_,_,rfl,rfl,_,_,rfl,rfl,.inr ⟨by decide,by decide⟩,_,_,rfl,rfl,(by show (0:Int)<2147483647;decide),?_⟩
  try dsimp only [gName]
  have b0:=Int.emod_nonneg ((c+7919*j+1)*48271) (show (2147483647:Int)≠0 by decide)
  have b1:=Int.emod_lt_of_pos ((c+7919*j+1)*48271) (show (0:Int)<2147483647 by decide)
  generalize (c+7919*j+1)*48271 % 2147483647=y at b0 b1 k ⊢
  exact ⟨_,rfl,_,rfl,_,_,rfl,rfl,⟨by decide,by decide⟩,_,_,rfl,rfl,_,_,rfl,rfl,.inl ⟨by omega,by omega⟩,_,_,rfl,rfl,(by show (0:Int)<2147483647;decide),k⟩
theorem mixI_lt (c k:Int):mixI c k<2 ^ 64:=by
 have:=Int.emod_lt_of_pos ((((c+7919*k+1)*48271 % 2147483647)*((c+7919*k+1)*48271 % 2147483647 / 1009+69621))) (show (0:Int)<2147483647 by decide)
 unfold mixI
 omega
noncomputable abbrev wsg:Str:="xyzuvwpqabcdefghijklmnorst"
theorem wsg_len:wsg.length=26:=by decide +kernel
noncomputable def wQ (x:Int):Nat->Str
 | 0=>"q"
 | i+1=>wQ x i++⟨#[wsg.cps.toList.getD (x / (7+25*((i:Nat):Int)) % 26).toNat 0]⟩
theorem wQ_len (x:Int):∀ i,(wQ x i).length=i+1
 | 0=>by show ("q":Str).length=1;decide +kernel
 | i+1=>by
  show (wQ x i++_).length=i+1+1
  rw [app_len,one_len,wQ_len x i]
noncomputable def nmq (x:Int):Str:=wQ x (1+(x % 7).toNat)
theorem nmq_len (x:Int):2<=(nmq x).length/\(nmq x).length<=8:=by
 unfold nmq
 rw [wQ_len]
 have:=Int.emod_lt_of_pos x (show (0:Int)<7 by decide)
 have:=Int.emod_nonneg x (show (7:Int)≠0 by decide)
 omega
noncomputable def nmA (x:Int):Int:=1+x / 8 % (((nmq x).length:Nat)-1:Int)
noncomputable abbrev sg6:Str:="gkvzbm"
noncomputable def nmO (x:Int) (i:Nat):Str:=cutS (nmq x) none (some (nmA x))++(⟨#[sg6.cps.toList.getD i 0]⟩:Str)++cutS (nmq x) (some (nmA x+1)) none
noncomputable def namesF (x:Int):List Str:=(List.range 6).map (nmO x)
noncomputable def spNames:Sp:=fun vs H Q _=>∃ x:Int,vs=[.int x]/\0<=x/\∀ p H',Same H H'->H' p=some (.lst ((namesF x).map V.str))->Q (.ref p) H'
noncomputable abbrev N_ZC:List Str:=["_law_number","_law_some","_law_word","_law_k","_law_at"]
theorem sc_ZC:FnScope N_ZC ["_law_number"] (defScope st_ZC):=⟨rfl,rfl,rfl,by decide +kernel,rfl,by decide +kernel,by decide +kernel⟩
theorem ok_names (T:All P w K mg AA DD):FnOk P w K mg base CX0 1 AA.ZC DD.ZC ["_law_number"] spNames:=by
 refine T.F_ZC.ok sc_ZC (fun vs H Q E h=>?_) (fun cdv A outer s H vs Q E hr h=>?_)
 ·obtain ⟨x,rfl,_⟩:=h
  rfl
 ·obtain ⟨x,rfl,hx,k⟩:=h
  have nd:=sc_ZC.nd
  have hq:=nmq_len x
  refine ⟨_,(@pss_cons _ _ _ _ _ (@ps_set _ _ 1 _ _ _ _ nd rfl (Or.inl rfl) pe_str (by rfl) (by first | exact .inl rfl | exact .inr rfl | assumption)) (@pss_cons _ _ _ _ _ (@ps_set _ _ 2 _ _ _ _ nd rfl (Or.inr rfl) pe_str (by rfl) (by first | exact .inl rfl | exact .inr rfl | assumption)) (@pss_cons _ _ _ _ _ (@ps_for _ _ _ _ _ _ _ _ PassesOwn.never rfl (pi_range1 rfl T.n_range (@pa_cons _ _ _ _ _ (@pe_op _ _ _ _ _ _ _ _ op_add pe_int (@pe_op _ _ _ _ _ _ _ _ op_mod (pv 0) pe_int)) pa_nil (by rfl))) (pg_name (i:=3) nd rfl (Or.inl rfl)) (@pss_one _ _ _ (@ps_set _ _ 2 _ _ _ _ nd rfl (Or.inr rfl) (@pe_op _ _ _ _ _ _ _ _ op_add_str (pv 2) (@pe_ix _ _ _ _ _ _ _ ix_str (pv 1) (@pe_op _ _ _ _ _ _ _ _ op_mod (@pe_op _ _ _ _ _ _ _ _ op_fdiv (pv 0) (@pe_op _ _ _ _ _ _ _ _ op_add pe_int (@pe_op _ _ _ _ _ _ _ _ op_mul pe_int (pv 3)))) pe_int) (fun _ _=>rfl))) (by rfl) (by first | exact .inl rfl | exact .inr rfl | assumption))) (by intro _;rfl)) (@pss_cons _ _ _ _ _ (@ps_set _ _ 4 _ _ _ _ nd rfl (Or.inr rfl) (@pe_op _ _ _ _ _ _ _ _ op_add pe_int (@pe_op _ _ _ _ _ _ _ _ op_mod (@pe_op _ _ _ _ _ _ _ _ op_fdiv (pv 0) pe_int) (@pe_op _ _ _ _ _ _ _ _ op_sub (pe_callB call_len_str rfl T.n_len bt_len (@pa_cons _ _ _ _ _ (pv 2) pa_nil (by rfl))) pe_int))) (by rfl) (by first | exact .inl rfl | exact .inr rfl | assumption)) (@pss_one _ _ _ (@ps_ret _ _ _ _ (pe_comp (defScope st_ZC) N_ZC ["_law_word","_law_at"] [2,4] rfl (by exact ⟨rfl,rfl,by decide +kernel,rfl,by decide +kernel,by decide +kernel,by decide +kernel,rfl,by decide +kernel⟩) rfl rfl (pi_str pe_str) (fun _ _ _ _=>pif_nil) (fun _ _ _ _=>(@pe_op _ _ _ _ _ _ _ _ op_add_str (@pe_op _ _ _ _ _ _ _ _ op_add_str (pe_slice sl_str (pv 1) po_none (po_some (pv 2))) (pv 0)) (pe_slice sl_str (pv 1) (po_some (@pe_op _ _ _ _ _ _ _ _ op_add (pv 2) pe_int)) po_none)))))))))),?_⟩
  refine seq_c ?_
  try dsimp only [gName]
  refine seq_c ?_
  try dsimp only [gName]
  have hsz:wsg.length<=sizeLine:=by rw [wsg_len];decide
  have s9:∀ {n:Nat},n<=100->n<=sizeLine:=fun h=>Nat.le_of_lt (small1000 (by omega))
  obtain ⟨m,em,hm⟩:=modN (a:=x) (n:=7) (by decide)
  have em:x % 7=((m:Nat):Int):=em
  have ew:nmq x=wQ x (1+m):=by unfold nmq;rw [em,Int.toNat_natCast]
  refine cut_for (fun σ' H'=>H'=H/\∃ (x3:Option V),σ'=[some (.int x),some (.str wsg),some (.str (nmq x)),x3,none]) (fun R hR=>?_) ?_
  ·refine ⟨_,rfl,_,_,rfl,rfl,(by show (0:Int)<7;decide),_,_,rfl,rfl,_,rfl,?_,?_,?_⟩
   ·rw [em];omega
   ·rw [em];omega
   rw [em,show ((1:Int)+((m:Nat):Int)).toNat=1+m by omega]
   refine for_range (D:=⟨R,_,R,R⟩) (fun i σ' H'=>H'=H/\∃ (x3:Option V),σ'=[some (.int x),some (.str wsg),some (.str (wQ x i)),x3,none]) ⟨rfl,none,rfl⟩ ?_ ?_
   ·rintro i σ' H' hi ⟨rfl,x3,rfl⟩
    rw [Int.zero_add]
    obtain ⟨q,eq,hq⟩:=modN (a:=x / (7+25*((i:Nat):Int))) (n:=26) (by decide)
    have eq:x / (7+25*((i:Nat):Int)) % 26=((q:Nat):Int):=eq
    have hql:q<wsg.cps.toList.length:=by rw [list_len,wsg_len];exact hq
    refine ⟨_,rfl,_,rfl,_,rfl,_,rfl,_,_,rfl,rfl,.inl ⟨by decide,by decide⟩,_,_,rfl,rfl,_,_,rfl,rfl,⟨?_,?_⟩,_,_,rfl,rfl,(by show (0:Int)<26;decide),wsg,_,wsg.cps.toList[q],rfl,rfl,hsz,?_,_,_,rfl,rfl,?_,?_⟩
    ·show (0:Int)<7+25*((i:Nat):Int);omega
    ·show 7+25*((i:Nat):Int)<_;omega
    ·rw [eq];exact atI_nat (List.getElem?_eq_getElem hql)
    ·rw [one_len,wQ_len];exact Nat.le_of_lt (small1000 (by omega))
    ·refine ⟨rfl,some (.int ((i:Nat):Int)),?_⟩
     show _=[some (V.int x),some (V.str wsg),some (V.str (wQ x i++⟨#[wsg.cps.toList.getD (x / (7+25*((i:Nat):Int)) % 26).toNat 0]⟩)),_,_]
     rw [eq,Int.toNat_natCast,List.getD_eq_getElem?_getD,List.getElem?_eq_getElem hql]
     rfl
   ·rintro σ' H' ⟨rfl,x3,rfl⟩
    exact hR _ _ ⟨rfl,x3,by rw [ew]⟩
  rintro σ' H' ⟨rfl,x3,rfl⟩
  refine ⟨_,rfl,_,_,rfl,rfl,⟨by decide,by decide⟩,_,rfl,nmq x,rfl,s9 (by omega),_,_,rfl,rfl,_,_,rfl,rfl,(by show (0:Int)<((nmq x).length:Int)-1;omega),_,_,rfl,rfl,?_⟩
  dsimp only [gName]
  show tRet _ _ [some (.int x),some (.str wsg),some (.str (nmq x)),x3,some (.int (nmA x))] _
  refine ⟨sg6,rfl,by decide +kernel,?_⟩
  have hgl:sg6.length=6:=by decide +kernel
  rw [hgl]
  refine comp_N (fun i ys H1=>H1=H'/\i<=6/\ys=((List.range i).map (nmO x)).map V.str) ⟨rfl,by omega,rfl⟩ ?_ ?_
  ·rintro i ys H1 hi ⟨rfl,_,rfl⟩
   refine tYes_ok ?_
   rw [if_pos rfl]
   have l1:=cutS_len (nmq x) none (some (nmA x))
   have l2:=cutS_len (nmq x) (some (nmA x+1)) none
   refine ⟨_,rfl,_,rfl,nmA x,rfl,nmq x,rfl,s9 (by omega),_,rfl,_,_,rfl,rfl,s9 (by rw [one_len];omega),_,rfl,_,rfl,_,_,rfl,rfl,nmA x+1,rfl,nmq x,rfl,s9 (by omega),_,_,rfl,rfl,s9 (by rw [app_len,one_len];omega),?_⟩
   refine ⟨by rw [List.length_map,List.length_map,List.length_range];exact small1000 (by omega),rfl,by omega,?_⟩
   rw [List.range_succ,List.map_append,List.map_append]
   rfl
  ·rintro ys H1 ⟨rfl,_,rfl⟩ p hp
   exact k p _ (same_upd hp) upd_same
theorem names_len (x:Int):(namesF x).length=6:=by simp [namesF]
theorem sg_inj:∀ i<6,∀ j<6,sg6.cps.toList.getD i 0=sg6.cps.toList.getD j 0->i=j:=by decide +kernel
theorem nmO_inj {x:Int} {i j:Nat} (hi:i<6) (hj:j<6) (h:nmO x i=nmO x j):i=j:=by
 have h1:=congrArg (fun z:Str=>z.cps.toList) h
 simp only [nmO,app_list,List.append_assoc] at h1
 have h2:=List.append_cancel_left h1
 have h3:=List.append_cancel_right h2
 exact sg_inj i hi j hj (by simpa using h3)
theorem names_get {x:Int} {i:Nat} (h:i<6):(namesF x)[i]?=some (nmO x i):=by
 unfold namesF
 rw [List.getElem?_map,List.getElem?_range h];rfl
theorem names_getD {x:Int} {i:Nat} (h:i<6):(namesF x).getD i ""=nmO x i:=by
 rw [List.getD_eq_getElem?_getD,names_get h];rfl
noncomputable abbrev kin2:List Str:=["num","truth"]
structure HD where
 nm:Str
 kd:Str
 ps:List (Str × Str)
noncomputable def PrL (H:Hp) (p:Addr) (ps:List (Str × Str)):Prop:=∃ us:List Addr,H p=some (.lst (us.map V.ref))/\us.length=ps.length/\∀ (i:Nat) (u:Addr) (q:Str × Str),us[i]?=some u->ps[i]?=some q->H u=some (.tup [.str q.1,.str q.2])
theorem PrL.kept {H H':Hp} {p:Addr} {ps:List (Str × Str)} (h:PrL H p ps) (s:LsS H H'):PrL H' p ps:=by obtain ⟨us,b,c,d⟩:=h;exact ⟨us,s.2 _ _ b,c,fun i u q x y=>s.1 _ _ (d i u q x y)⟩
noncomputable def HdAt (H:Hp) (v:V) (h:HD):Prop:=∃ t p,v=.ref t/\H t=some (.tup [.str h.nm,.str h.kd,.ref p])/\PrL H p h.ps
theorem HdAt.kept {H H':Hp} {v:V} {h:HD} (a:HdAt H v h) (s:LsS H H'):HdAt H' v h:=by obtain ⟨t,p,e,b,c⟩:=a;exact ⟨t,p,e,s.1 _ _ b,c.kept s⟩
noncomputable def HdsAt (H:Hp) (l:Addr) (hs:List HD):Prop:=∃ us:List V,H l=some (.lst us)/\us.length=hs.length/\∀ (i:Nat) (u:V) (h:HD),us[i]?=some u->hs[i]?=some h->HdAt H u h
theorem HdsAt.kept {H H':Hp} {l:Addr} {hs:List HD} (a:HdsAt H l hs) (s:LsS H H'):HdsAt H' l hs:=by obtain ⟨us,b,c,d⟩:=a;exact ⟨us,s.2 _ _ b,c,fun i u h x y=>(d i u h x y).kept s⟩
noncomputable def nwL (H H':Hp):Hp:=fun a=>match H a with
 | some (.lst _)=>none
 | _=>H' a
theorem nw_tup {H H':Hp} (s:Same H H') {a:Addr} {xs:List V} (h:H' a=some (.tup xs)):nwL H H' a=some (.tup xs):=by
 unfold nwL
 split
 ·rename_i e
  rw [s _ _ e] at h;cases h
 ·exact h
theorem nw_new {H H':Hp} {a:Addr} (h:H a=none):nwL H H' a=H' a:=by
 unfold nwL
 rw [h]
theorem nw_in (H H':Hp):Same (nwL H H') H':=fun b o h=>by
 unfold nwL at h
 split at h
 ·cases h
 ·exact h
theorem nw_to {H H':Hp} {M:List Addr} (hM:∀ b∈M,∃ xs,H b=some (.lst xs)):Same (nwL H H') (msk H' M):=fun b o h=>by
 rw [msk_no fun z=>?_]
 ·exact nw_in H H' b o h
 ·obtain ⟨xs,e⟩:=hM b z
  unfold nwL at h
  rw [e] at h;cases h
theorem nw_tups {H H1 H':Hp} (a:Same H H') (b:Same H1 H'):TupS H1 (nwL H H'):=fun c xs h=>nw_tup a (b _ _ h)
noncomputable def prG (ns:List Str) (x:Int):List (Str × Str):=(List.range (x / 2 % 4).toNat).map fun j=>(ns.getD (3+j) "",kin2.getD (x / (8+5*((j:Nat):Int)) % 2).toNat "")
noncomputable def hdG (ns:List Str) (x:Int) (k:Nat):HD:=⟨ns.getD k "",kin2.getD (x % 2).toNat "",prG ns x⟩
theorem kin_get {j:Nat} (h:j<2):(kin2.map V.str)[j]?=some (.str (kin2.getD j "")):=by
 rcases (show j=0∨j=1 by omega) with rfl | rfl<;>rfl
theorem str_get {ns:List Str} {j:Nat} (h:j<ns.length):(ns.map V.str)[j]?=some (.str (ns.getD j "")):=by
 rw [List.getElem?_map,List.getD_eq_getElem?_getD,List.getElem?_eq_getElem h];rfl
noncomputable def spHead:Sp:=fun vs H Q _=>∃ (x:Int) (k:Nat) (l:Addr) (ns:List Str),vs=[.int x,.int ((k:Nat):Int),.ref l]/\0<=x/\k<3/\H l=some (.lst (ns.map V.str))/\ns.length=6/\∀ v H',Same H H'->HdAt (nwL H H') v (hdG ns x k)->Q v H'
noncomputable abbrev N_ZI:List Str:=["_law_number","_law_k","_law_names_here","_law_kinds","_law_params"]
theorem sc_ZI:FnScope N_ZI ["_law_number","_law_k","_law_names_here"] (defScope st_ZI):=⟨rfl,rfl,rfl,by decide +kernel,rfl,by decide +kernel,by decide +kernel⟩
theorem ok_head (T:All P w K mg AA DD):FnOk P w K mg base CX0 1 AA.ZI DD.ZI ["_law_number","_law_k","_law_names_here"] spHead:=by
 refine T.F_ZI.ok sc_ZI (fun vs H Q E h=>?_) (fun cdv A outer s H vs Q E hr h=>?_)
 ·obtain ⟨x,k,l,ns,rfl,_⟩:=h
  rfl
 ·obtain ⟨x,k,l,ns,rfl,hx,hk,hl,hn,kq⟩:=h
  have nd:=sc_ZI.nd
  refine ⟨_,(@pss_cons _ _ _ _ _ (@ps_set _ _ 3 _ _ _ _ nd rfl (Or.inr rfl) (@pe_lst _ _ _ _ (@pa_cons _ _ _ _ _ pe_str (@pa_cons _ _ _ _ _ pe_str pa_nil (by rfl)) (by rfl))) (by rfl) (by first | exact .inl rfl | exact .inr rfl | assumption)) (@pss_cons _ _ _ _ _ (ps_setcomp (i:=4) (defScope st_ZI) N_ZI ["_law_number","_law_names_here","_law_kinds"] [0,2,3] rfl (by exact ⟨rfl,rfl,by decide +kernel,rfl,by decide +kernel,by decide +kernel,by decide +kernel,rfl,by decide +kernel⟩) rfl rfl (pi_range1 rfl T.n_range (@pa_cons _ _ _ _ _ (@pe_op _ _ _ _ _ _ _ _ op_mod (@pe_op _ _ _ _ _ _ _ _ op_fdiv (pv 0) pe_int) pe_int) pa_nil (by rfl))) (fun _ _ _ _=>pif_nil) (fun _ _ _ _=>(@pe_tup _ _ _ _ _ (@pa_cons _ _ _ _ _ (@pe_ix _ _ _ _ _ _ _ (ix_listK (K:=K) rfl) (pv 2) (@pe_op _ _ _ _ _ _ _ _ op_add pe_int (pv 0)) (fun _ _=>rfl)) (@pa_cons _ _ _ _ _ (@pe_ix _ _ _ _ _ _ _ (ix_listK (K:=K) rfl) (pv 3) (@pe_op _ _ _ _ _ _ _ _ op_mod (@pe_op _ _ _ _ _ _ _ _ op_fdiv (pv 1) (@pe_op _ _ _ _ _ _ _ _ op_add pe_int (@pe_op _ _ _ _ _ _ _ _ op_mul pe_int (pv 0)))) pe_int) (fun _ _=>rfl)) pa_nil (by rfl)) (by rfl)))) nd rfl rfl rfl) (@pss_one _ _ _ (@ps_ret _ _ _ _ (@pe_tup _ _ _ _ _ (@pa_cons _ _ _ _ _ (@pe_ix _ _ _ _ _ _ _ (ix_listK (K:=K) rfl) (pv 2) (pv 1) (fun _ _=>rfl)) (@pa_cons _ _ _ _ _ (@pe_ix _ _ _ _ _ _ _ (ix_listK (K:=K) rfl) (pv 3) (@pe_op _ _ _ _ _ _ _ _ op_mod (pv 0) pe_int) (fun _ _=>rfl)) (@pa_cons _ _ _ _ _ (pv 4) pa_nil (by rfl)) (by rfl)) (by rfl))))))),?_⟩
  refine ⟨(by show 2<=sizeLine;decide),fun pk hpk=>?_⟩
  have s1:=same_upd (o:=.lst (kin2.map V.str)) hpk
  have h1:upd H pk (.lst (kin2.map V.str)) pk=some (.lst (kin2.map V.str)):=upd_same
  have hl1:=s1 _ _ hl
  show tSeq _ _ _ _ (upd H pk (.lst (kin2.map V.str)))
  generalize upd H pk (.lst (kin2.map V.str))=H1 at s1 h1 hl1 ⊢
  obtain ⟨m,em,hm⟩:=modN (a:=x / 2) (n:=4) (by decide)
  have em:x / 2 % 4=((m:Nat):Int):=em
  refine ⟨_,rfl,_,_,rfl,rfl,⟨by decide,by decide⟩,_,_,rfl,rfl,(by show (0:Int)<4;decide),_,rfl,?_,?_,?_⟩
  ·show _<=x / 2 % 4;omega
  ·show x / 2 % 4<_;omega
  show tCompB (Itr 0 (x / 2 % 4).toNat) _ _ _ _ _ _
  rw [em,Int.toNat_natCast]
  refine comp_range (fun i ys H'=>Same H1 H'/\i<=4/\∃ us:List Addr,ys=us.map V.ref/\us.length=i/\∀ (j:Nat) (u:Addr),us[j]?=some u->H' u=some (.tup [.str (ns.getD (3+j) ""),.str (kin2.getD (x / (8+5*((j:Nat):Int)) % 2).toNat "")])) ⟨Same.refl _,Nat.zero_le _,[],rfl,rfl,fun j u h=>by simp at h⟩ ?_ ?_
  ·rintro i ys H2 hi ⟨s2,_,us,rfl,hul,hus⟩
   rw [Int.zero_add]
   refine tYes_ok ?_
   rw [if_pos rfl]
   obtain ⟨j,ej,hj⟩:=modN (a:=x / (8+5*((i:Nat):Int))) (n:=2) (by decide)
   have ej:x / (8+5*((i:Nat):Int)) % 2=((j:Nat):Int):=ej
   refine ⟨_,rfl,_,rfl,_,_,rfl,rfl,l,_,_,.str (ns.getD (3+i) ""),rfl,rfl,SqL.of (s2 _ _ hl1),?_,?_⟩
   ·show atI _ ((3:Int)+((i:Nat):Int))=_
    rw [show (3:Int)+((i:Nat):Int)=((3+i:Nat):Int) by omega]
    exact atI_nat (str_get (by omega))
   refine ⟨_,rfl,_,rfl,_,rfl,_,_,rfl,rfl,.inl ⟨by decide,by decide⟩,_,_,rfl,rfl,_,_,rfl,rfl,⟨?_,?_⟩,_,_,rfl,rfl,(by show (0:Int)<2;decide),pk,_,_,.str (kin2.getD j ""),rfl,rfl,SqL.of (s2 _ _ h1),?_,(by show 2<=sizeLine;decide),fun q hq=>?_⟩
   ·show (0:Int)<8+5*((i:Nat):Int);omega
   ·show 8+5*((i:Nat):Int)<_;omega
   ·rw [ej];exact atI_nat (kin_get hj)
   have sq:=same_upd (o:=.tup [.str (ns.getD (3+i) ""),.str (kin2.getD j "")]) hq
   refine ⟨by rw [List.length_map];exact small1000' (by omega),s2.trans sq,by omega,us++[q],by simp,by simp [hul],fun j' u h=>?_⟩
   by_cases hj':j'<us.length
   ·rw [List.getElem?_append_left hj'] at h
    exact sq _ _ (hus j' u h)
   ·have hje:j'=i:=by have:=(List.getElem?_eq_some_iff.mp h).1;simp at this;omega
    subst hje
    rw [List.getElem?_append_right (by omega)] at h
    have e1:u=q:=by simpa [hul] using h.symm
    subst e1
    rw [ej,Int.toNat_natCast]
    exact upd_same
  ·rintro ys H2 ⟨s2,_,us,rfl,hul,hus⟩ p hp
   have sp:=same_upd (o:=.lst (us.map V.ref)) hp
   have hp3:upd H2 p (.lst (us.map V.ref)) p=some (.lst (us.map V.ref)):=upd_same
   have s3:=s2.trans sp
   generalize upd H2 p (.lst (us.map V.ref))=H3 at sp hp3 s3 ⊢
   dsimp only [gName]
   obtain ⟨j,ej,hj⟩:=modN (a:=x) (n:=2) (by decide)
   have ej:x % 2=((j:Nat):Int):=ej
   refine ⟨_,rfl,_,rfl,l,_,_,.str (ns.getD k ""),rfl,rfl,SqL.of (s3 _ _ hl1),atI_nat (str_get (by omega)),?_⟩
   refine ⟨_,rfl,_,rfl,_,_,rfl,rfl,(by show (0:Int)<2;decide),pk,_,_,.str (kin2.getD j ""),rfl,rfl,SqL.of (s3 _ _ h1),?_,_,rfl,(by show 3<=sizeLine;decide),fun q hq=>?_⟩
   ·rw [ej];exact atI_nat (kin_get hj)
   have sq:=same_upd (o:=.tup [.str (ns.getD k ""),.str (kin2.getD j ""),.ref p]) hq
   have sA:=(s1.trans s3).trans sq
   refine kq _ _ sA ⟨q,p,rfl,nw_tup sA ?_,us,(nw_new (Same.free (s1.trans s2) hp)).trans (sq _ _ hp3),?_,fun i u q' h1 h2=>nw_tup sA ?_⟩
   ·show upd _ _ _ _=some (.tup [.str (ns.getD k ""),.str (kin2.getD (x % 2).toNat ""),.ref p])
    rw [ej,Int.toNat_natCast];exact upd_same
   ·show us.length=(prG ns x).length
    unfold prG
    rw [em];simp [hul]
   ·have h2:(prG ns x)[i]?=some q':=h2
    unfold prG at h2
    rw [List.getElem?_map] at h2
    obtain ⟨j2,hj2,rfl⟩:=Option.map_eq_some_iff.mp h2
    have hi2:=(List.getElem?_eq_some_iff.mp hj2).1
    rw [List.getElem?_range (by simpa using hi2)] at hj2
    cases hj2
    exact sq _ _ (sp _ _ (hus i u h1))
end
section
variable {P:Program} {w:World} {K:PySem.W.Frag} {mg:Str->Option Value} {base:Heap} {AA:Adr} {DD:Fds}
noncomputable def Asc (z:Str):Prop:=∀ c∈z.cps.toList,c<128
theorem getD_asc {ns:List Str} (h:∀ z∈ns,Asc z) (j:Nat):Asc (ns.getD j ""):=by
 rw [List.getD_eq_getElem?_getD]
 cases e:ns[j]? with
 | none=>show Asc (Str.ofString "");unfold Asc;decide +kernel
 | some d=>exact h d (List.mem_of_getElem? e)
noncomputable def prD1 (q:Str × Str):PyData:=.tuple [.str q.1,.str q.2]
noncomputable def AscP (ps:List (Str × Str)):Prop:=∀ q∈ps,Asc q.1/\Asc q.2
theorem pr_rdv {K:PySem.W.Frag} {H:Hp}:∀ {us:List Addr} {ps:List (Str × Str)},us.length=ps.length->(∀ (i:Nat) (u:Addr) (q:Str × Str),us[i]?=some u->ps[i]?=some q->H u=some (.tup [.str q.1,.str q.2]))->RdvA K H (us.map V.ref) (ps.map prD1)
 | [],[],_,_=>.nil
 | [],_::_,h,_=>by simp at h
 | _::_,[],h,_=>by simp at h
 | u::us,q::ps,h,hat=>.cons (.tup (SqT.of (hat 0 u q rfl rfl)) (.cons (.str _) (.cons (.str _) .nil))) (pr_rdv (by simpa using h) fun i u' q' h1 h2=>hat (i+1) u' q' (by simpa using h1) (by simpa using h2))
theorem pr_shd {q:Str × Str} (h:Asc q.1/\Asc q.2):Shd 1 (prD1 q):=Shd.tuple (n:=0) fun d hd=>by
 simp only [List.mem_cons,List.not_mem_nil,or_false] at hd
 rcases hd with rfl | rfl
 ·exact .str h.1
 ·exact .str h.2
theorem prs_shd {ps:List (Str × Str)} (h:AscP ps):∀ d∈ps.map prD1,Shd 1 d:=fun d hd=>by
 obtain ⟨q,hq,rfl⟩:=List.mem_map.mp hd
 exact pr_shd (h q hq)
theorem prs_eqv (ps:List (Str × Str)):PyData.eqv (.list (ps.map prD1)) (.list [])=decide (ps=[]):=by
 cases ps with
 | nil=>simp [PyData.eqv];rfl
 | cons q ps=>simp [PyData.eqv];rfl
noncomputable abbrev yn2:List Str:=["yes","no"]
theorem yn_get {j:Nat} (h:j<2):(yn2.map V.str)[j]?=some (.str (yn2.getD j "")):=by
 rcases (show j=0∨j=1 by omega) with rfl | rfl<;>rfl
theorem op7_get {j:Nat} (h:j<7):(ops7.map V.str)[j]?=some (.str (ops7.getD j "")):=str_get h
noncomputable abbrev HDn:HD:=⟨"","",[]⟩
noncomputable def leafG (ps:List (Str × Str)) (x:Int):Ex:=if x % 14 % 3=0/\ps≠[] then .name (ps.getD (x / 14 % (ps.length:Int)).toNat ("","")).1 else if x % 14 % 3=1 then .truth (yn2.getD (x / 14 % 2).toNat "") else .num (x / 14 % 10 ^ Int.toNat 18)
noncomputable def hdX (hs:List HD) (x:Int):HD:=hs.getD (x / 14 % (hs.length:Int)).toNat HDn
noncomputable def exG (ps:List (Str × Str)) (hs:List HD):Nat->Int->Ex
 | 0,x=>leafG ps x
 | d+1,x=>if x % 14<6 then leafG ps x else if x % 14=6 then .not (exG ps hs d (mixI x 1)) else if x % 14<11 then .many "do" (hdX hs x).nm ((List.range (hdX hs x).ps.length).map fun k=>exG ps hs d (mixI x (2+((k:Nat):Int)))) else .op (ops7.getD (x / 14 % 7).toNat "") (exG ps hs d (mixI x 2)) (exG ps hs d (mixI x 3))
theorem or_leaf {c:Bool} {p q Z:Prop} (h:c=true∨(c=false/\(p->Z))) (hp:p):if c=true then (if true=true then p else q) else Z:=by
 rcases h with h | ⟨h,k⟩
 ·rw [h,if_pos rfl,if_pos rfl];exact hp
 ·rw [h,if_neg Bool.false_ne_true];exact k hp
theorem exs_snoc {H:Hp}:∀ {vs:List V} {es:List Ex} {v:V} {e:Ex},ExsAt H vs es->ExAt H v e->ExsAt H (vs++[v]) (es++[e])
 | _,_,_,_,.nil,h=>.cons h .nil
 | _,_,_,_,.cons a b,h=>.cons a (exs_snoc b h)
noncomputable def HsOk (hs:List HD):Prop:=hs≠[]/\hs.length<=3/\∀ h∈hs,h.ps.length<=3
noncomputable def spXG (k:Nat):Sp:=fun vs H Q _=>∃ (x:Int) (pp hh:Addr) (ps:List (Str × Str)) (hs:List HD) (d:Nat),vs=[.int x,.ref pp,.ref hh,.int ((d:Nat):Int)]/\0<=x/\x<2 ^ 64/\PrL H pp ps/\AscP ps/\ps.length<=3/\HdsAt H hh hs/\HsOk hs/\d<k/\∀ v H',Same H H'->ExAt H' v (exG ps hs d x)->Q v H'
noncomputable abbrev N_ZG:List Str:=["_law_number","_law_params","_law_heads","_law_deep","_law_form","_law_more","_law_head_here","_law_parts","_law_word","_law_left"]
theorem sc_ZG:FnScope N_ZG ["_law_number","_law_params","_law_heads","_law_deep"] (defScope st_ZG):=⟨rfl,rfl,rfl,by decide +kernel,rfl,by decide +kernel,by decide +kernel⟩
theorem ok_xgS (T:All P w K mg AA DD) (k:Nat) (GE:FnOk P w K mg base CX0 (k+1) AA.ZG DD.ZG ["_law_number","_law_params","_law_heads","_law_deep"] (spXG k)) :
  FnOk P w K mg base CX0 (k+1+1) AA.ZG DD.ZG ["_law_number","_law_params","_law_heads","_law_deep"] (spXG (k+1)):=by
 have GX:=ok_mixed (base:=base) T
 refine T.F_ZG.ok sc_ZG (fun vs H Q E h=>?_) (fun cdv A outer s H vs Q E hr h=>?_)
 ·obtain ⟨x,pp,hh,ps,hs,d,rfl,_⟩:=h
  rfl
 ·obtain ⟨x,pp,hh,ps,hs,d,rfl,hx0,hx1,hP,hPA,hP3,hH,⟨hs0,hs3,hsp⟩,hd,kq⟩:=h
  have nd:=sc_ZG.nd
  have hrE:Room (k+1) _:=hr
  have hr1:Room 1 _:=hrE.mono (by omega)
  have hu:=hr.units
  refine ⟨_,(@pss_cons _ _ _ _ _ (@ps_set _ _ 4 _ _ _ _ nd rfl (Or.inl rfl) (@pe_op _ _ _ _ _ _ _ _ op_mod (pv 0) pe_int) (by rfl) (by first | exact .inl rfl | exact .inr rfl | assumption)) (@pss_cons _ _ _ _ _ (@ps_set _ _ 5 _ _ _ _ nd rfl (Or.inl rfl) (@pe_op _ _ _ _ _ _ _ _ op_fdiv (pv 0) pe_int) (by rfl) (by first | exact .inl rfl | exact .inr rfl | assumption)) (@pss_cons _ _ _ _ _ (@ps_if _ _ _ _ _ _ _ _ (PW.pt (pw_or (@pt_cmpR _ _ _ _ _ _ _ _ op_eq (pv 3) pe_int (nomark _)) (pw_or1 (@pt_cmpR _ _ _ _ _ _ _ _ op_lt (pv 4) pe_int (nomark _))))) (@pss_cons _ _ _ _ _ (@ps_if _ _ _ _ _ _ _ _ (PW.pt (pw_and (@pt_cmpR _ _ _ _ _ _ _ _ op_eq (@pe_op _ _ _ _ _ _ _ _ op_mod (pv 4) pe_int) pe_int (nomark _)) (pw_and1 (@pt_cmpR _ _ _ _ _ _ _ _ (op_neD (K:=K) rfl hu) (pv 1) (@pe_lst _ _ _ _ pa_nil) (nomark _))))) (@pss_one _ _ _ (@ps_ret _ _ _ _ (@pe_tup _ _ _ _ _ (@pa_cons _ _ _ _ _ pe_str (@pa_cons _ _ _ _ _ (@pe_ix _ _ _ _ _ _ _ (ix_tupK (K:=K) rfl) (@pe_ix _ _ _ _ _ _ _ (ix_listK (K:=K) rfl) (pv 1) (@pe_op _ _ _ _ _ _ _ _ op_mod (pv 5) (pe_callB call_len_seq rfl T.n_len bt_len (@pa_cons _ _ _ _ _ (pv 1) pa_nil (by rfl)))) (fun _ _=>rfl)) pe_int (fun _ _=>rfl)) pa_nil (by rfl)) (by rfl))))) pss_nil) (@pss_cons _ _ _ _ _ (@ps_if _ _ _ _ _ _ _ _ (@pt_cmpR _ _ _ _ _ _ _ _ op_eq (@pe_op _ _ _ _ _ _ _ _ op_mod (pv 4) pe_int) pe_int (nomark _)) (@pss_one _ _ _ (@ps_ret _ _ _ _ (@pe_tup _ _ _ _ _ (@pa_cons _ _ _ _ _ pe_str (@pa_cons _ _ _ _ _ (@pe_ix _ _ _ _ _ _ _ (ix_listK (K:=K) rfl) (@pe_lst _ _ _ _ (@pa_cons _ _ _ _ _ pe_str (@pa_cons _ _ _ _ _ pe_str pa_nil (by rfl)) (by rfl))) (@pe_op _ _ _ _ _ _ _ _ op_mod (pv 5) pe_int) (fun _ _=>rfl)) pa_nil (by rfl)) (by rfl))))) pss_nil) (@pss_one _ _ _ (@ps_ret _ _ _ _ (@pe_tup _ _ _ _ _ (@pa_cons _ _ _ _ _ pe_str (@pa_cons _ _ _ _ _ (@pe_op _ _ _ _ _ _ _ _ op_mod (pv 5) (@pe_op _ _ _ _ _ _ _ _ op_pow pe_int pe_int)) pa_nil (by rfl)) (by rfl))))))) pss_nil) (@pss_cons _ _ _ _ _ (@ps_if _ _ _ _ _ _ _ _ (@pt_cmpR _ _ _ _ _ _ _ _ op_eq (pv 4) pe_int (nomark _)) (@pss_one _ _ _ (@ps_ret _ _ _ _ (@pe_tup _ _ _ _ _ (@pa_cons _ _ _ _ _ pe_str (@pa_cons _ _ _ _ _ (pe_call GE hrE rfl T.m_ZG T.k_ZG T.b_ZG .nil pass0 (@pa_cons _ _ _ _ _ (pe_call GX hr1 rfl T.m_ZB T.k_ZB T.b_ZB .nil pass0 (@pa_cons _ _ _ _ _ (pv 0) (@pa_cons _ _ _ _ _ pe_int pa_nil (by rfl)) (by rfl))) (@pa_cons _ _ _ _ _ (pv 1) (@pa_cons _ _ _ _ _ (pv 2) (@pa_cons _ _ _ _ _ (@pe_op _ _ _ _ _ _ _ _ op_sub (pv 3) pe_int) pa_nil (by rfl)) (by rfl)) (by rfl)) (by rfl))) pa_nil (by rfl)) (by rfl))))) pss_nil) (@pss_cons _ _ _ _ _ (@ps_if _ _ _ _ _ _ _ _ (@pt_cmpR _ _ _ _ _ _ _ _ op_lt (pv 4) pe_int (nomark _)) (@pss_cons _ _ _ _ _ (@ps_set _ _ 6 _ _ _ _ nd rfl (Or.inl rfl) (@pe_ix _ _ _ _ _ _ _ (ix_listK (K:=K) rfl) (pv 2) (@pe_op _ _ _ _ _ _ _ _ op_mod (pv 5) (pe_callB call_len_seq rfl T.n_len bt_len (@pa_cons _ _ _ _ _ (pv 2) pa_nil (by rfl)))) (fun _ _=>rfl)) (by rfl) (by first | exact .inl rfl | exact .inr rfl | assumption)) (@pss_cons _ _ _ _ _ (ps_setcomp (i:=7) (defScope st_ZG) N_ZG ["_law_number","_law_params","_law_heads","_law_deep"] [0,1,2,3] rfl (by exact ⟨rfl,rfl,by decide +kernel,rfl,by decide +kernel,by decide +kernel,by decide +kernel,rfl,by decide +kernel⟩) rfl rfl (pi_range1 rfl T.n_range (@pa_cons _ _ _ _ _ (pe_callB call_len_seq rfl T.n_len bt_len (@pa_cons _ _ _ _ _ (@pe_ix _ _ _ _ _ _ _ (ix_tupK (K:=K) rfl) (pv 6) pe_int (fun _ _=>rfl)) pa_nil (by rfl))) pa_nil (by rfl))) (fun _ _ _ _=>pif_nil) (fun _ _ _ _=>(pe_call GE hrE rfl T.m_ZG T.k_ZG T.b_ZG .nil pass0 (@pa_cons _ _ _ _ _ (pe_call GX hr1 rfl T.m_ZB T.k_ZB T.b_ZB .nil pass0 (@pa_cons _ _ _ _ _ (pv 1) (@pa_cons _ _ _ _ _ (@pe_op _ _ _ _ _ _ _ _ op_add pe_int (pv 0)) pa_nil (by rfl)) (by rfl))) (@pa_cons _ _ _ _ _ (pv 2) (@pa_cons _ _ _ _ _ (pv 3) (@pa_cons _ _ _ _ _ (@pe_op _ _ _ _ _ _ _ _ op_sub (pv 4) pe_int) pa_nil (by rfl)) (by rfl)) (by rfl)) (by rfl)))) nd rfl rfl rfl) (@pss_one _ _ _ (@ps_ret _ _ _ _ (@pe_tup _ _ _ _ _ (@pa_cons _ _ _ _ _ pe_str (@pa_cons _ _ _ _ _ (@pe_ix _ _ _ _ _ _ _ (ix_tupK (K:=K) rfl) (pv 6) pe_int (fun _ _=>rfl)) (@pa_cons _ _ _ _ _ (pe_callTy call_tuple_of rfl T.n_tuple bt_tuple (@pa_cons _ _ _ _ _ (pv 7) pa_nil (by rfl))) pa_nil (by rfl)) (by rfl)) (by rfl))))))) pss_nil) (@pss_cons _ _ _ _ _ (@ps_set _ _ 8 _ _ _ _ nd rfl (Or.inl rfl) (@pe_ix _ _ _ _ _ _ _ (ix_listK (K:=K) rfl) (@pe_lst _ _ _ _ (@pa_cons _ _ _ _ _ pe_str (@pa_cons _ _ _ _ _ pe_str (@pa_cons _ _ _ _ _ pe_str (@pa_cons _ _ _ _ _ pe_str (@pa_cons _ _ _ _ _ pe_str (@pa_cons _ _ _ _ _ pe_str (@pa_cons _ _ _ _ _ pe_str pa_nil (by rfl)) (by rfl)) (by rfl)) (by rfl)) (by rfl)) (by rfl)) (by rfl))) (@pe_op _ _ _ _ _ _ _ _ op_mod (pv 5) pe_int) (fun _ _=>rfl)) (by rfl) (by first | exact .inl rfl | exact .inr rfl | assumption)) (@pss_cons _ _ _ _ _ (@ps_set _ _ 9 _ _ _ _ nd rfl (Or.inl rfl) (pe_call GE hrE rfl T.m_ZG T.k_ZG T.b_ZG .nil pass0 (@pa_cons _ _ _ _ _ (pe_call GX hr1 rfl T.m_ZB T.k_ZB T.b_ZB .nil pass0 (@pa_cons _ _ _ _ _ (pv 0) (@pa_cons _ _ _ _ _ pe_int pa_nil (by rfl)) (by rfl))) (@pa_cons _ _ _ _ _ (pv 1) (@pa_cons _ _ _ _ _ (pv 2) (@pa_cons _ _ _ _ _ (@pe_op _ _ _ _ _ _ _ _ op_sub (pv 3) pe_int) pa_nil (by rfl)) (by rfl)) (by rfl)) (by rfl))) (by rfl) (by first | exact .inl rfl | exact .inr rfl | assumption)) (@pss_one _ _ _ (@ps_ret _ _ _ _ (@pe_tup _ _ _ _ _ (@pa_cons _ _ _ _ _ (pv 8) (@pa_cons _ _ _ _ _ (pv 9) (@pa_cons _ _ _ _ _ (pe_call GE hrE rfl T.m_ZG T.k_ZG T.b_ZG .nil pass0 (@pa_cons _ _ _ _ _ (pe_call GX hr1 rfl T.m_ZB T.k_ZB T.b_ZB .nil pass0 (@pa_cons _ _ _ _ _ (pv 0) (@pa_cons _ _ _ _ _ pe_int pa_nil (by rfl)) (by rfl))) (@pa_cons _ _ _ _ _ (pv 1) (@pa_cons _ _ _ _ _ (pv 2) (@pa_cons _ _ _ _ _ (@pe_op _ _ _ _ _ _ _ _ op_sub (pv 3) pe_int) pa_nil (by rfl)) (by rfl)) (by rfl)) (by rfl))) pa_nil (by rfl)) (by rfl)) (by rfl)))))))))))),?_⟩
  refine ⟨_,rfl,_,_,rfl,rfl,(by show (0:Int)<14;decide),?_⟩
  dsimp only [gName]
  refine ⟨_,rfl,_,_,rfl,rfl,⟨by decide,by decide⟩,?_⟩
  dsimp only [gName]
  by_cases hc:d=0∨x % 14<6
  ·have ek:exG ps hs d x=leafG ps x:=by
    cases d with
    | zero=>rfl
    | succ d =>
     have h2:x % 14<6:=by rcases hc with h | h;· omega
                          ·exact h
     rw [exG,if_pos h2]
   rw [ek] at kq
   unfold leafG at kq
   refine ⟨_,rfl,rfl,_,rfl,or_leaf ?_ ?_⟩
   ·by_cases h0:d=0
    ·subst h0;exact .inl (decide_eq_true rfl)
    ·refine .inr ⟨decide_eq_false fun z=>h0 (by injection z with z;omega),fun leaf=>⟨_,rfl,_,_,rfl,rfl,_,rfl,iteTb (decide_eq_true (hc.resolve_left h0)) leaf⟩⟩
   refine cut_if (fun σ' H'=>Same H H'/\¬ (x % 14 % 3=0/\ps≠[])/\σ'=[some (.int x),some (.ref pp),some (.ref hh),some (.int ((d:Nat):Int)),some (.int (x % 14)),some (.int (x / 14)),none,none,none,none]) (fun R hR=>?_) ?_
   ·refine ⟨_,rfl,_,_,rfl,rfl,(by show (0:Int)<3;decide),rfl,_,rfl,?_⟩
    by_cases h3:x % 14 % 3=0
    ·refine iteTb (decide_eq_true (by show V.int (x % 14 % 3)=V.int 0;rw [h3])) ?_
     obtain ⟨us,hpp,hul,huat⟩:=hP
     refine ⟨_,rfl,Nat.zero_le _,fun q hq=>?_⟩
     have sq:=same_upd (o:=.lst []) hq
     refine ⟨.list (ps.map prD1),.list [],.lst (SqL.of (sq _ _ hpp)) (pr_rdv hul fun i u q h1 h2=>sq _ _ (huat i u q h1 h2)),.lst (SqL.of upd_same) .nil,(Shd.list (prs_shd hPA)).ok (by decide),by rfl,_,rfl,?_⟩
     rw [prs_eqv]
     by_cases hp0:ps=[]
     ·rw [decide_eq_true hp0]
      exact iteF (hR _ _ ⟨sq,fun z=>z.2 hp0,rfl⟩)
     ·rw [decide_eq_false hp0]
      refine iteT ?_
      rw [if_pos ⟨h3,hp0⟩] at kq
      have hl0:0<ps.length:=List.length_pos_iff.mpr hp0
      obtain ⟨j,ej,hj⟩:=modN (a:=x / 14) (n:=ps.length) hl0
      have hju:j<us.length:=by omega
      rw [ej,Int.toNat_natCast,List.getD_eq_getElem?_getD,List.getElem?_eq_getElem hj] at kq
      have huj:=sq _ _ (huat j us[j] ps[j] (List.getElem?_eq_getElem hju) (List.getElem?_eq_getElem hj))
      refine ⟨_,rfl,_,rfl,_,rfl,pp,_,rfl,.inl (SqL.of (sq _ _ hpp)),_,_,rfl,rfl,?_,pp,us.map V.ref,_,.ref us[j],rfl,rfl,SqL.of (sq _ _ hpp),?_,us[j],_,_,_,rfl,rfl,SqT.of huj,atI_nat (j:=0) rfl,(by show 2<=sizeLine;decide),fun p hp=>?_⟩
      ·show (0:Int)<((us.map V.ref).length:Int)
       rw [List.length_map];omega
      ·show atI _ (x / 14 % ((us.map V.ref).length:Int))=_
       rw [List.length_map,hul,ej]
       exact atI_nat (by rw [List.getElem?_map,List.getElem?_eq_getElem hju];rfl)
      ·exact kq _ _ (sq.trans (same_upd hp)) (.name upd_same)
    ·refine iteFb (decide_eq_false fun z=>h3 (by injection z)) ?_
     exact iteF (hR _ _ ⟨Same.refl _,fun z=>h3 z.1,rfl⟩)
   rintro σ' H1 ⟨s1,hn3,rfl⟩
   rw [if_neg hn3] at kq
   refine ⟨_,rfl,_,_,rfl,rfl,(by show (0:Int)<3;decide),rfl,_,rfl,?_⟩
   by_cases h3:x % 14 % 3=1
   ·refine iteTb (decide_eq_true (by show V.int (x % 14 % 3)=V.int 1;rw [h3])) ?_
    rw [if_pos h3] at kq
    obtain ⟨j,ej,hj⟩:=modN (a:=x / 14) (n:=2) (by decide)
    have ej:x / 14 % 2=((j:Nat):Int):=ej
    rw [ej,Int.toNat_natCast] at kq
    refine ⟨(by show 2<=sizeLine;decide),fun q hq=>?_⟩
    refine ⟨_,rfl,_,_,rfl,rfl,(by show (0:Int)<2;decide),q,_,_,.str (yn2.getD j ""),rfl,rfl,SqL.of upd_same,?_,(by show 2<=sizeLine;decide),fun p hp=>?_⟩
    ·rw [ej];exact atI_nat (yn_get hj)
    ·exact kq _ _ ((s1.trans (same_upd hq)).trans (same_upd hp)) (.truth upd_same)
   ·refine iteFb (decide_eq_false fun z=>h3 (by injection z)) ?_
    rw [if_neg h3] at kq
    refine ⟨_,rfl,_,_,rfl,rfl,⟨by decide,by decide,by decide⟩,_,_,rfl,rfl,(by show (0:Int)<10 ^ (18:Int).toNat;decide),(by show 2<=sizeLine;decide),fun p hp=>?_⟩
    exact kq _ _ (s1.trans (same_upd hp)) (.num upd_same)
  ·obtain ⟨d,rfl⟩:∃ d',d=d'+1:=⟨d-1,by omega⟩
   have h2:¬ x % 14<6:=fun z=>hc (.inr z)
   rw [exG,if_neg h2] at kq
   have ed:(((d+1:Nat):Int)-1)=((d:Nat):Int):=by omega
   have eq4:∀ i:Int,[V.int (mixI x i),V.ref pp,V.ref hh,V.int (((d+1:Nat):Int)-1)]=[V.int (mixI x i),V.ref pp,V.ref hh,V.int ((d:Nat):Int)]:=fun i=>by rw [ed]
   refine ⟨_,rfl,rfl,_,rfl,?_⟩
   refine iteFb (decide_eq_false fun z=>by injection z with z;omega) ?_
   refine ⟨_,rfl,_,_,rfl,rfl,_,rfl,iteFb (decide_eq_false h2) ?_⟩
   dsimp only [tNext]
   refine ⟨_,rfl,rfl,_,rfl,?_⟩
   by_cases h6:x % 14=6
   ·refine iteTb (decide_eq_true (by rw [h6])) ?_
    rw [if_pos h6] at kq
    refine ⟨_,rfl,x,1,rfl,_,rfl,_,rfl,_,rfl,_,_,rfl,rfl,mixI x 1,pp,hh,ps,hs,d,eq4 1,mixI_nn _ _,mixI_lt _ _,hP,hPA,hP3,hH,⟨hs0,hs3,hsp⟩,by omega,fun v1 H1 s1 hE1=>⟨(by show 2<=sizeLine;decide),fun p hp=>?_⟩⟩
    exact kq _ _ (s1.trans (same_upd hp)) (.not upd_same (hE1.kept (same_upd hp).ls.1))
   refine iteFb (decide_eq_false fun z=>h6 (by injection z)) ?_
   rw [if_neg h6] at kq
   dsimp only [tNext]
   refine ⟨_,rfl,_,_,rfl,rfl,_,rfl,?_⟩
   by_cases h11:x % 14<11
   ·refine iteTb (decide_eq_true h11) ?_
    rw [if_pos h11] at kq
    obtain ⟨us,hhl,hul,huat⟩:=hH
    have hl0:0<hs.length:=List.length_pos_iff.mpr hs0
    obtain ⟨j,ej,hj⟩:=modN (a:=x / 14) (n:=hs.length) hl0
    have hju:j<us.length:=by omega
    have ehd:hdX hs x=hs[j]:=by
     unfold hdX
     rw [ej,Int.toNat_natCast,List.getD_eq_getElem?_getD,List.getElem?_eq_getElem hj];rfl
    have hp3:=hsp hs[j] (List.getElem_mem hj)
    rw [ehd] at kq
    obtain ⟨th,pl,euj,hth,vs,hpl,hvl,hvat⟩:=huat j us[j] hs[j] (List.getElem?_eq_getElem hju) (List.getElem?_eq_getElem hj)
    refine ⟨_,rfl,_,rfl,_,rfl,hh,_,rfl,.inl (SqL.of hhl),_,_,rfl,rfl,?_,hh,us,_,.ref th,rfl,rfl,SqL.of hhl,?_,?_⟩
    ·show (0:Int)<(us.length:Int);omega
    ·show atI _ (x / 14 % (us.length:Int))=_
     rw [hul,ej]
     exact atI_nat (by rw [List.getElem?_eq_getElem hju,euj])
    dsimp only [gName]
    refine ⟨_,rfl,th,_,_,_,rfl,rfl,SqT.of hth,atI_nat (j:=2) rfl,pl,_,rfl,.inl (SqL.of hpl),_,rfl,?_,?_,?_⟩
    ·show _<=((vs.map V.ref).length:Int);omega
    ·show ((vs.map V.ref).length:Int)<_;rw [List.length_map];omega
    show tCompB (Itr 0 (((vs.map V.ref).length:Int)).toNat) _ _ _ _ _ _
    rw [Int.toNat_natCast,List.length_map,hvl]
    refine comp_range (fun i ys H'=>Same H H'/\i<=3/\ys.length=i/\ExsAt H' ys ((List.range i).map fun k=>exG ps hs d (mixI x (2+((k:Nat):Int))))) ⟨Same.refl _,Nat.zero_le _,rfl,.nil⟩ ?_ ?_
    ·rintro i ys H1 hi ⟨s1,_,hyl,hys⟩
     rw [Int.zero_add]
     refine tYes_ok ?_
     rw [if_pos rfl]
     refine ⟨_,rfl,_,rfl,_,_,rfl,rfl,x,2+((i:Nat):Int),rfl,_,rfl,_,rfl,_,rfl,_,_,rfl,rfl,mixI x (2+((i:Nat):Int)),pp,hh,ps,hs,d,eq4 _,mixI_nn _ _,mixI_lt _ _,hP.kept s1.ls,hPA,hP3,HdsAt.kept ⟨us,hhl,hul,huat⟩ s1.ls,⟨hs0,hs3,hsp⟩,by omega,fun v1 H2 s2 hE1=>?_⟩
     refine ⟨small1000' (by omega),s1.trans s2,by omega,by simp [hyl],?_⟩
     rw [List.range_succ,List.map_append]
     exact exs_snoc (hys.kept s2.ls.1) hE1
    ·rintro ys H1 ⟨s1,_,hyl,hys⟩ p hp
     have sp:=same_upd (o:=.lst ys) hp
     refine ⟨_,rfl,th,_,_,_,rfl,rfl,SqT.of (sp _ _ (s1 _ _ hth)),atI_nat (j:=0) rfl,_,rfl,p,ys,rfl,.inl ⟨SqL.of upd_same,fun l hl=>⟨(by show 3<=sizeLine;decide),fun q hq=>?_⟩⟩⟩
     have sl:=same_upd (o:=.tup ys) hl
     have sq:=same_upd (o:=.tup [.str "do",.str hs[j].nm,.ref l]) hq
     exact kq _ _ (((s1.trans sp).trans sl).trans sq) (.many upd_same (sq _ _ upd_same) (((hys.kept sp.ls.1).kept sl.ls.1).kept sq.ls.1))
   ·refine iteFb (decide_eq_false h11) ?_
    rw [if_neg h11] at kq
    dsimp only [tNext]
    obtain ⟨j,ej,hj⟩:=modN (a:=x / 14) (n:=7) (by decide)
    have ej:x / 14 % 7=((j:Nat):Int):=ej
    rw [ej,Int.toNat_natCast] at kq
    refine ⟨(by show 7<=sizeLine;decide),fun q hq=>?_⟩
    have sq:=same_upd (o:=.lst (ops7.map V.str)) hq
    refine ⟨_,rfl,_,_,rfl,rfl,(by show (0:Int)<7;decide),q,_,_,.str (ops7.getD j ""),rfl,rfl,SqL.of upd_same,?_,?_⟩
    ·rw [ej];exact atI_nat (op7_get hj)
    dsimp only [gName]
    refine ⟨_,rfl,x,2,rfl,_,rfl,_,rfl,_,rfl,_,_,rfl,rfl,mixI x 2,pp,hh,ps,hs,d,eq4 2,mixI_nn _ _,mixI_lt _ _,hP.kept sq.ls,hPA,hP3,hH.kept sq.ls,⟨hs0,hs3,hsp⟩,by omega,fun v1 H1 s1 hE1=>?_⟩
    dsimp only [gName]
    have s01:=sq.trans s1
    refine ⟨_,rfl,_,rfl,_,rfl,x,3,rfl,_,rfl,_,rfl,_,rfl,_,_,rfl,rfl,mixI x 3,pp,hh,ps,hs,d,eq4 3,mixI_nn _ _,mixI_lt _ _,hP.kept s01.ls,hPA,hP3,hH.kept s01.ls,⟨hs0,hs3,hsp⟩,by omega,fun v2 H2 s2 hE2=>⟨(by show 3<=sizeLine;decide),fun p hp=>?_⟩⟩
    have sp:=same_upd (o:=.tup [.str (ops7.getD j ""),v1,v2]) hp
    exact kq _ _ ((s01.trans s2).trans sp) (.op upd_same ((hE1.kept s2.ls.1).kept sp.ls.1) (hE2.kept sp.ls.1))
theorem ok_xg0 (T:All P w K mg AA DD):FnOk P w K mg base CX0 1 AA.ZG DD.ZG ["_law_number","_law_params","_law_heads","_law_deep"] (spXG 0):=by
 have no:∀ vs H Q E,¬ spXG 0 vs H Q E:=fun vs H Q E h=>by
  obtain ⟨x,pp,hh,ps,hs,d,_,_,_,_,_,_,_,_,z,_⟩:=h
  omega
 exact T.F_ZG.ok sc_ZG (fun vs H Q E h=>(no _ _ _ _ h).elim) (fun cdv A outer s H vs Q E hr h=>(no _ _ _ _ h).elim)
theorem ok_xg (T:All P w K mg AA DD):∀ k:Nat,FnOk P w K mg base CX0 (k+1) AA.ZG DD.ZG ["_law_number","_law_params","_law_heads","_law_deep"] (spXG k)
 | 0=>ok_xg0 T
 | k+1=>ok_xgS T k (ok_xg T k)
end
section
variable {P:Program} {w:World} {K:PySem.W.Frag} {mg:Str->Option Value} {base:Heap} {AA:Adr} {DD:Fds}
noncomputable abbrev op3:List Str:=["+","-","*"]
noncomputable abbrev num5:List Str:=["+","-","*","less","same"]
noncomputable def partE (w:Str):Str:=if w∈num5 then "num" else "truth"
noncomputable def fstP (ps:List (Str × Str)) (z:Str):Option (Str × Str):=ps.find? fun q=>decide (q.1=z)
noncomputable def fstH (hs:List HD) (z:Str):Option HD:=hs.find? fun h=>decide (h.nm=z)
noncomputable def kdL (ps:List (Str × Str)) (hs:List HD):Ex->Str
 | .name z=>((fstP ps z).map (·.2)).getD ""
 | .many _ z _=>((fstH hs z).map (·.kd)).getD ""
 | e=>kdE e
mutual
noncomputable def WfE (ps:List (Str × Str)) (hs:List HD):Ex->Prop
 | .num _=>True
 | .truth _=>True
 | .name z=>∃ q,fstP ps z=some q
 | .not e=>WfE ps hs e
 | .op w a b=>w∈ops7/\WfE ps hs a/\WfE ps hs b
 | .of _ _=>False
 | .many w z es=>w="do"/\(∃ h,fstH hs z=some h/\es.length=h.ps.length)/\WfL ps hs es
noncomputable def WfL (ps:List (Str × Str)) (hs:List HD):List Ex->Prop
 | []=>True
 | e::es=>WfE ps hs e/\WfL ps hs es
end
theorem WfL_mem {ps:List (Str × Str)} {hs:List HD}:∀ {es:List Ex} {e:Ex},WfL ps hs es->e∈es->WfE ps hs e
 | x::es,e,g,h=>by
  rcases List.mem_cons.mp h with z | z
  ·subst z;exact g.1
  ·exact WfL_mem g.2 z
theorem mk_num:∀ p∈mk10,p.2=if p.1="num"∨p.1∈op3 then "num" else "truth":=by decide +kernel
theorem ak_num:∀ p∈ak8,p.2=partE p.1:=by decide +kernel
theorem ops_no:∀ z∈ops7,z≠"num"/\z≠"truth"/\z≠"name"/\z≠"do":=by decide +kernel
theorem wf_bas {ps:List (Str × Str)} {hs:List HD} {e:Ex} (h:WfE ps hs e) (hm:∀ w z es,e≠.many w z es):e.bas:=by
 cases e with
 | op w a b=>exact ⟨h.1,trivial⟩
 | of n e=>exact h.elim
 | many w z es=>exact (hm _ _ _ rfl).elim
 | _=>trivial
noncomputable def spKd:Sp:=fun vs H Q _=>∃ (v:V) (pp hh:Addr) (ps:List (Str × Str)) (hs:List HD) (e:Ex),vs=[v,.ref pp,.ref hh]/\ExAt H v e/\WfE ps hs e/\PrL H pp ps/\ps.length<=3/\HdsAt H hh hs/\hs.length<=3/\∀ H',Same H H'->Q (.str (kdL ps hs e)) H'
noncomputable abbrev N_ZH:List Str:=["_law_e","_law_params","_law_heads"]
theorem sc_ZH:FnScope N_ZH ["_law_e","_law_params","_law_heads"] (defScope st_ZH):=⟨rfl,rfl,rfl,by decide +kernel,rfl,by decide +kernel,by decide +kernel⟩
theorem ok_kd (T:All P w K mg AA DD):FnOk P w K mg base CX0 1 AA.ZH DD.ZH ["_law_e","_law_params","_law_heads"] spKd:=by
 refine T.F_ZH.ok sc_ZH (fun vs H Q E h=>?_) (fun cdv A outer s H vs Q E hr h=>?_)
 ·obtain ⟨v,pp,hh,ps,hs,e,rfl,_⟩:=h
  rfl
 ·obtain ⟨v,pp,hh,ps,hs,e,rfl,hE,hW,hP,hp3,hH,hh3,kq⟩:=h
  have nd:=sc_ZH.nd
  refine ⟨_,(@pss_cons _ _ _ _ _ (@ps_if _ _ _ _ _ _ _ _ (@pt_cmpR _ _ _ _ _ _ _ _ op_eq (@pe_ix _ _ _ _ _ _ _ (ix_tupK (K:=K) rfl) (pv 0) pe_int (fun _ _=>rfl)) pe_str (nomark _)) (@pss_one _ _ _ (@ps_ret _ _ _ _ (@pe_ix _ _ _ _ _ _ _ (ix_listK (K:=K) rfl) (pe_comp2 (xs:=["_law_name","_law_kind_here"]) (defScope st_ZH) N_ZH ["_law_e"] [0] rfl (by exact ⟨rfl,rfl,by decide +kernel,by decide +kernel,by decide +kernel,by decide +kernel,by decide +kernel,rfl,by decide +kernel⟩) rfl rfl (pi_list (pv 1)) (fun _ _ _ _=>(pg_tupK (K:=K) (n:=2) rfl rfl (pgs_cons (pg_name (i:=0) (show (["_law_name","_law_kind_here","_law_e"]:List Str).Nodup by decide +kernel) rfl (Or.inl rfl)) (pgs_cons (pg_name (i:=1) (show (["_law_name","_law_kind_here","_law_e"]:List Str).Nodup by decide +kernel) rfl (Or.inl rfl)) pgs_nil)))) (fun _ _ _ _=>pif_one (pt_cmpR op_eq (pv 0) (pe_ix (ix_tupK (K:=K) rfl) (pv 2) pe_int (fun _ _=>rfl)) (nomark _))) (fun _ _ _ _=>(pv 1))) pe_int (fun _ _=>rfl)))) pss_nil) (@pss_cons _ _ _ _ _ (@ps_if _ _ _ _ _ _ _ _ (@pt_cmpR _ _ _ _ _ _ _ _ op_eq (@pe_ix _ _ _ _ _ _ _ (ix_tupK (K:=K) rfl) (pv 0) pe_int (fun _ _=>rfl)) pe_str (nomark _)) (@pss_one _ _ _ (@ps_ret _ _ _ _ (@pe_ix _ _ _ _ _ _ _ (ix_listK (K:=K) rfl) (pe_comp (defScope st_ZH) N_ZH ["_law_e"] [0] rfl (by exact ⟨rfl,rfl,by decide +kernel,rfl,by decide +kernel,by decide +kernel,by decide +kernel,rfl,by decide +kernel⟩) rfl rfl (pi_list (pv 2)) (fun _ _ _ _=>pif_one (pt_cmpR op_eq (pe_ix (ix_tupK (K:=K) rfl) (pv 0) pe_int (fun _ _=>rfl)) (pe_ix (ix_tupK (K:=K) rfl) (pv 1) pe_int (fun _ _=>rfl)) (nomark _))) (fun _ _ _ _=>(@pe_ix _ _ _ _ _ _ _ (ix_tupK (K:=K) rfl) (pv 0) pe_int (fun _ _=>rfl)))) pe_int (fun _ _=>rfl)))) pss_nil) (@pss_cons _ _ _ _ _ (@ps_if _ _ _ _ _ _ _ _ (PW.pt (pw_or (@pt_cmpR _ _ _ _ _ _ _ _ op_eq (@pe_ix _ _ _ _ _ _ _ (ix_tupK (K:=K) rfl) (pv 0) pe_int (fun _ _=>rfl)) pe_str (nomark _)) (pw_or1 (@pt_cmpR _ _ _ _ _ _ _ _ (op_in_seqK (K:=K) rfl) (@pe_ix _ _ _ _ _ _ _ (ix_tupK (K:=K) rfl) (pv 0) pe_int (fun _ _=>rfl)) (@pe_tup _ _ _ _ _ (@pa_cons _ _ _ _ _ pe_str (@pa_cons _ _ _ _ _ pe_str (@pa_cons _ _ _ _ _ pe_str pa_nil (by rfl)) (by rfl)) (by rfl))) rfl)))) (@pss_one _ _ _ (@ps_ret _ _ _ _ pe_str)) pss_nil) (@pss_one _ _ _ (@ps_ret _ _ _ _ pe_str))))),?_⟩
  by_cases hnm:∃ z,e=.name z
  ·obtain ⟨z,rfl⟩:=hnm
   cases hE with
   | @name t _ ht =>
   obtain ⟨q0,hq0⟩:=(show ∃ q,fstP ps z=some q from hW)
   obtain ⟨us,hpp,hul,huat⟩:=hP
   refine ⟨_,rfl,t,_,_,_,rfl,rfl,SqT.of ht,atI_nat (j:=0) rfl,rfl,_,rfl,?_⟩
   refine iteTb (decide_eq_true rfl) ?_
   refine ⟨_,rfl,pp,rfl,⟨_,SqL.of hpp⟩,?_⟩
   refine comp2_list (K:=K) (a:=pp) (xs:=us.map V.ref) (fun i ys H'=>H'=H/\i<=3/\ys=((ps.take i).filter fun q=>decide (q.1=z)).map fun q=>V.str q.2) ⟨rfl,Nat.zero_le _,rfl⟩ (fun i ys H' _ h=>by rw [h.1];exact SqL.of hpp) ?_ ?_
   ·rintro i x ys H1 hx ⟨rfl,_,rfl⟩
    have hi:i<us.length:=by
     have:=(List.getElem?_eq_some_iff.mp hx).1
     rw [List.length_map] at this;exact this
    have hip:i<ps.length:=by omega
    have ex:x=V.ref us[i]:=by rw [List.getElem?_map,List.getElem?_eq_getElem hi] at hx;exact (Option.some.inj hx).symm
    subst ex
    have hu:=huat i us[i] ps[i] (List.getElem?_eq_getElem hi) (List.getElem?_eq_getElem hip)
    intro os hos
    obtain ⟨a,b,rfl⟩:∃ a b,os=[a,b]:=by
     match os,hos with
     | [a,b],_=>exact ⟨a,b,rfl⟩
    refine ⟨us[i],_,rfl,SqT.of hu,rfl,_,_,rfl,_,_,rfl,rfl,⟨[_,_],rfl,rfl⟩,?_⟩
    refine ⟨_,rfl,_,rfl,t,_,_,_,rfl,rfl,SqT.of ht,atI_nat (j:=1) rfl,rfl,_,rfl,?_⟩
    rw [List.take_succ_eq_append_getElem hip,List.filter_append,List.map_append]
    by_cases hz:ps[i].1=z
    ·refine iteTb (decide_eq_true (by rw [hz])) ?_
     refine ⟨_,rfl,?_,rfl,by omega,?_⟩
     ·have:=List.length_filter_le (fun q:Str × Str=>decide (q.1=z)) (ps.take i)
      rw [List.length_take] at this
      rw [List.length_map]
      exact small1000' (by omega)
     ·rw [List.filter_cons_of_pos (by simpa using hz)];rfl
    ·refine iteFb (decide_eq_false fun w=>hz (by injection w)) ?_
     refine ⟨rfl,by omega,?_⟩
     rw [List.filter_cons_of_neg (by simpa using hz)];simp
   ·rintro ys H1 ⟨rfl,_,rfl⟩ p hp
    rw [List.length_map,hul,List.take_length]
    have sp:=same_upd (o:=.lst ((ps.filter fun q=>decide (q.1=z)).map fun q=>V.str q.2)) hp
    refine ⟨p,_,_,.str q0.2,rfl,rfl,SqL.of upd_same,atI_nat (j:=0) ?_,?_⟩
    ·rw [List.getElem?_map,<- List.head?_eq_getElem?,List.head?_filter]
     show (fstP ps z).map _=_
     rw [hq0];rfl
    ·have:=kq _ sp
     rw [show kdL ps hs (.name z)=q0.2 from by simp [kdL,hq0]] at this
     exact this
  have hnm:∀ z,e≠.name z:=fun z q=>hnm ⟨z,q⟩
  by_cases hmn:∃ w z es,e=.many w z es
  ·obtain ⟨w,z,es,rfl⟩:=hmn
   obtain ⟨rfl,⟨h0,hh0,_⟩,_⟩:=(show w="do"/\(∃ h,fstH hs z=some h/\es.length=h.ps.length)/\WfL ps hs es from hW)
   cases hE with
   | @many t l _ _ vs _ ht hl hvs =>
   obtain ⟨us,hhl,hul,huat⟩:=hH
   refine ⟨_,rfl,t,_,_,_,rfl,rfl,SqT.of ht,atI_nat (j:=0) rfl,rfl,_,rfl,?_⟩
   refine iteFb (decide_eq_false (by intro q;injection q with q;exact absurd q (by decide))) ?_
   refine ⟨_,rfl,t,_,_,_,rfl,rfl,SqT.of ht,atI_nat (j:=0) rfl,rfl,_,rfl,?_⟩
   refine iteTb (decide_eq_true rfl) ?_
   refine ⟨_,rfl,hh,rfl,⟨_,SqL.of hhl⟩,?_⟩
   refine comp_list (K:=K) (a:=hh) (xs:=us) (fun i ys H'=>H'=H/\i<=3/\ys=((hs.take i).filter fun h=>decide (h.nm=z)).map fun h=>V.str h.kd) ⟨rfl,Nat.zero_le _,rfl⟩ (fun i ys H' _ h=>by rw [h.1];exact SqL.of hhl) ?_ ?_
   ·rintro i x ys H1 hx ⟨rfl,_,rfl⟩
    obtain ⟨hi,ex⟩:=List.getElem?_eq_some_iff.mp hx
    have hip:i<hs.length:=by omega
    obtain ⟨tt,pt,rfl,htt,_⟩:=huat i x hs[i] hx (List.getElem?_eq_getElem hip)
    refine ⟨_,rfl,tt,_,_,_,rfl,rfl,SqT.of htt,atI_nat (j:=0) rfl,_,rfl,t,_,_,_,rfl,rfl,SqT.of ht,atI_nat (j:=1) rfl,rfl,_,rfl,?_⟩
    rw [List.take_succ_eq_append_getElem hip,List.filter_append,List.map_append]
    by_cases hz:hs[i].nm=z
    ·refine iteTb (decide_eq_true (by rw [hz])) ?_
     refine ⟨_,rfl,tt,_,_,_,rfl,rfl,SqT.of htt,atI_nat (j:=1) rfl,?_,rfl,by omega,?_⟩
     ·have:=List.length_filter_le (fun h:HD=>decide (h.nm=z)) (hs.take i)
      rw [List.length_take] at this
      rw [List.length_map]
      exact small1000' (by omega)
     ·rw [List.filter_cons_of_pos (by simpa using hz)];rfl
    ·refine iteFb (decide_eq_false fun w=>hz (by injection w)) ?_
     refine ⟨rfl,by omega,?_⟩
     rw [List.filter_cons_of_neg (by simpa using hz)];simp
   ·rintro ys H1 ⟨rfl,_,rfl⟩ p hp
    rw [hul,List.take_length]
    have sp:=same_upd (o:=.lst ((hs.filter fun h=>decide (h.nm=z)).map fun h=>V.str h.kd)) hp
    refine ⟨p,_,_,.str h0.kd,rfl,rfl,SqL.of upd_same,atI_nat (j:=0) ?_,?_⟩
    ·rw [List.getElem?_map,<- List.head?_eq_getElem?,List.head?_filter]
     show (fstH hs z).map _=_
     rw [hh0];rfl
    ·have:=kq _ sp
     rw [show kdL ps hs (.many "do" z es)=h0.kd from by simp [kdL,hh0]] at this
     exact this
  have hbas:e.bas:=wf_bas hW fun w z es q=>hmn ⟨w,z,es,q⟩
  obtain ⟨t,ys,rfl,ht,n1,n2,n3,n4,lm,la⟩:=kd_head hE hbas hnm
  have ekd:kdL ps hs e=kdE e:=by
   cases e with
   | name z=>exact (hnm _ rfl).elim
   | many w z es=>exact hbas.elim
   | _=>rfl
  rw [ekd,show kdE e=if hdE e="num"∨hdE e∈op3 then "num" else "truth" from mk_num _ (PySem.mem_of_lookup lm)] at kq
  refine ⟨_,rfl,t,_,_,_,rfl,rfl,SqT.of ht,atI_nat (j:=0) rfl,rfl,_,rfl,?_⟩
  refine iteFb (decide_eq_false fun q=>n1 (by injection q)) ?_
  refine ⟨_,rfl,t,_,_,_,rfl,rfl,SqT.of ht,atI_nat (j:=0) rfl,rfl,_,rfl,?_⟩
  refine iteFb (decide_eq_false fun q=>n2 (by injection q)) ?_
  refine ⟨_,rfl,t,_,_,_,rfl,rfl,SqT.of ht,atI_nat (j:=0) rfl,rfl,_,rfl,?_⟩
  by_cases h1:hdE e="num"
  ·refine iteTb (decide_eq_true (by rw [h1])) ?_
   rw [if_pos (.inl h1)] at kq
   exact iteT (kq _ (Same.refl _))
  ·refine iteFb (decide_eq_false fun z=>h1 (by injection z)) ?_
   refine ⟨_,rfl,t,_,_,_,rfl,rfl,SqT.of ht,atI_nat (j:=0) rfl,(by show 3<=sizeLine;decide),fun pt hpt=>⟨pt,op3.map V.str,rfl,.inr (SqT.of upd_same),rfl,rfl,_,rfl,?_⟩⟩
   by_cases h2:hdE e∈op3
   ·refine iteTb (in_strs (decide_eq_true h2)) ?_
    rw [if_pos (.inr h2)] at kq
    exact kq _ (same_upd hpt)
   ·refine iteFb (in_strs (decide_eq_false h2)) ?_
    rw [if_neg (fun z=>z.elim h1 h2)] at kq
    exact kq _ (same_upd hpt)
noncomputable def prt:Ex->List Ex
 | .not e=>[e]
 | .op _ a b=>[a,b]
 | .many _ _ es=>es
 | _=>[]
noncomputable def dueH (hs:List HD) (z:Str):List Str:=((fstH hs z).map fun h=>h.ps.map (·.2)).getD []
noncomputable def dueE (hs:List HD):Ex->List Str
 | .many _ z _=>dueH hs z
 | .not e=>[askE (.not e),askE (.not e)]
 | .op w a b=>[askE (.op w a b),askE (.op w a b)]
 | _=>[]
mutual
noncomputable def wrL (ps:List (Str × Str)) (hs:List HD):Ex->Bool
 | .not e=>!decide (kdL ps hs e=askE (.not e))||wrL ps hs e
 | .op w a b=>(!decide (kdL ps hs a=askE (.op w a b))||wrL ps hs a)||(!decide (kdL ps hs b=askE (.op w a b))||wrL ps hs b)
 | .many _ z es=>wrD ps hs es (dueH hs z)
 | .num _=>false
 | .truth _=>false
 | .name _=>false
 | .of _ _=>false
noncomputable def wrD (ps:List (Str × Str)) (hs:List HD):List Ex->List Str->Bool
 | [],_=>false
 | e::es,ds=>(!decide (kdL ps hs e=ds.headD "")||wrL ps hs e)||wrD ps hs es ds.tail
end
theorem wrL_prt (ps:List (Str × Str)) (hs:List HD) (e:Ex):wrL ps hs e=wrD ps hs (prt e) (dueE hs e):=by
 cases e<;>simp [wrL,prt,wrD,dueE]
theorem wrD_app (ps:List (Str × Str)) (hs:List HD):∀ (a b:List Ex) (ds:List Str),wrD ps hs (a++b) ds=(wrD ps hs a ds||wrD ps hs b (ds.drop a.length))
 | [],b,ds=>by simp [wrD]
 | e::a,b,ds=>by
  show ((!decide (kdL ps hs e=ds.headD "")||wrL ps hs e)||wrD ps hs (a++b) ds.tail)=(((!decide (kdL ps hs e=ds.headD "")||wrL ps hs e)||wrD ps hs a ds.tail)||_)
  rw [wrD_app ps hs a b ds.tail,Bool.or_assoc,Bool.or_assoc,Bool.or_assoc,List.drop_tail]
  simp [Bool.or_assoc]
theorem wrD_take (ps:List (Str × Str)) (hs:List HD) {es:List Ex} {ds:List Str} {i:Nat} {c:Ex} (h:es[i]?=some c):wrD ps hs (es.take (i+1)) ds=(wrD ps hs (es.take i) ds||(!decide (kdL ps hs c=ds.getD i "")||wrL ps hs c)):=by
 obtain ⟨hi,e⟩:=List.getElem?_eq_some_iff.mp h
 rw [List.take_succ_eq_append_getElem hi,wrD_app,e,List.length_take,Nat.min_eq_left (Nat.le_of_lt hi)]
 simp [wrD,List.getD_eq_getElem?_getD]
theorem wrD_more (ps:List (Str × Str)) (hs:List HD) {es:List Ex} {ds:List Str} {i:Nat} (h:wrD ps hs (es.take i) ds=true):wrD ps hs es ds=true:=by
 have:=wrD_app ps hs (es.take i) (es.drop i) ds
 rw [List.take_append_drop,h] at this
 simpa using this
theorem wr_head {ps:List (Str × Str)} {hs:List HD} {H:Hp} {v:V} {e:Ex} (h:ExAt H v e) (hw:WfE ps hs e):∃ (t:Addr) (w:Str) (ys:List V),v=.ref t/\H t=some (.tup (.str w::ys)) /\
  (((w="num"∨w="truth"∨w="name")/\wrL ps hs e=false) ∨
   ((w≠"num"/\w≠"truth"/\w≠"name")/\((w≠"do"/\ExsAt H ys (prt e)/\dueE hs e=[partE w,partE w]/\(prt e).length<=2) ∨
     (w="do"/\∃ z l vs h,ys=[.str z,.ref l]/\H l=some (.tup vs)/\ExsAt H vs (prt e)/\fstH hs z=some h/\(prt e).length=h.ps.length/\dueE hs e=h.ps.map (·.2))))):=by
 have hx:=fun hb hn=>kd_head h hb hn
 cases h with
 | num h=>exact ⟨_,_,_,rfl,h,.inl ⟨.inl rfl,by simp [wrL]⟩⟩
 | truth h=>exact ⟨_,_,_,rfl,h,.inl ⟨.inr (.inl rfl),by simp [wrL]⟩⟩
 | name h=>exact ⟨_,_,_,rfl,h,.inl ⟨.inr (.inr rfl),by simp [wrL]⟩⟩
 | @not t v a ht ha =>
  obtain ⟨_,_,_,_,_,_,_,_,_,la⟩:=hx trivial (fun z q=>by cases q)
  have ea:=ak_num _ (PySem.mem_of_lookup (la (by simp [Ex.kids])))
  refine ⟨_,_,_,rfl,ht,.inr ⟨⟨by decide,by decide,by decide⟩,.inl ⟨by decide,.cons ha .nil,?_,by simp [prt]⟩⟩⟩
  show [askE (.not _),askE (.not _)]=_
  rw [show askE (.not a)=partE "not" from ea]
 | @op t w v1 v2 a b ht ha hb =>
  obtain ⟨_,_,_,_,_,_,_,_,_,la⟩:=hx ⟨hw.1,trivial⟩ (fun z q=>by cases q)
  obtain ⟨z1,z2,z3,z4⟩:=ops_no _ hw.1
  have ea:=ak_num _ (PySem.mem_of_lookup (la (by simp [Ex.kids])))
  refine ⟨_,_,_,rfl,ht,.inr ⟨⟨z1,z2,z3⟩,.inl ⟨z4,.cons ha (.cons hb .nil),?_,by simp [prt]⟩⟩⟩
  show [askE (.op w a b),askE (.op w a b)]=_
  rw [show askE (.op w a b)=partE w from ea]
 | of h a=>exact hw.elim
 | @many t l w z vs es ht hl hvs =>
  obtain ⟨rfl,⟨h0,hh0,hlen⟩,_⟩:=(show w="do"/\(∃ h,fstH hs z=some h/\es.length=h.ps.length)/\WfL ps hs es from hw)
  exact ⟨_,_,_,rfl,ht,.inr ⟨⟨by decide,by decide,by decide⟩,.inr ⟨rfl,z,l,vs,h0,rfl,hl,hvs,hh0,hlen,by simp [dueE,dueH,hh0]⟩⟩⟩
theorem prt_ok {ps:List (Str × Str)} {hs:List HD} {e:Ex} (hw:WfE ps hs e):∀ c∈prt e,WfE ps hs c/\c.deep+1<=e.deep:=by
 cases e with
 | not e=>intro x h;simp [prt] at h;subst h;exact ⟨hw,by simp [Ex.deep]⟩
 | op w a b =>
  intro x h
  simp [prt] at h
  rcases h with rfl | rfl
  ·exact ⟨hw.2.1,by simp [Ex.deep];omega⟩
  ·exact ⟨hw.2.2,by simp [Ex.deep];omega⟩
 | many w z es =>
  intro x h
  exact ⟨WfL_mem hw.2.2 h,by have:=deepL_mem (es:=es) h;simp [Ex.deep];omega⟩
 | _=>intro x h;simp [prt] at h
end
section
variable {P:Program} {w:World} {K:PySem.W.Frag} {mg:Str->Option Value} {base:Heap} {AA:Adr} {DD:Fds}
theorem ix_lt {X:Cx} {K:PySem.W.Frag} (h:X.K=K):IxR X (fun x y H Q=>rIxL K x y H Q∨rIxT K x y H Q):=(ix_listK h).or (ix_tupK h)
noncomputable def spWr (k:Nat):Sp:=fun vs H Q _=>∃ (v:V) (pp hh:Addr) (ps:List (Str × Str)) (hs:List HD) (e:Ex),vs=[v,.ref pp,.ref hh]/\ExAt H v e/\WfE ps hs e/\PrL H pp ps/\ps.length<=3/\HdsAt H hh hs/\hs.length<=3/\(∀ h∈hs,h.ps.length<=3)/\e.deep<k/\∀ H',Same H H'->Q (.bl (wrL ps hs e)) H'
noncomputable abbrev N_ZD:List Str:=["_law_e","_law_params","_law_heads","_law_parts","_law_due","_law_k"]
theorem sc_ZD:FnScope N_ZD ["_law_e","_law_params","_law_heads"] (defScope st_ZD):=⟨rfl,rfl,rfl,by decide +kernel,rfl,by decide +kernel,by decide +kernel⟩
theorem ok_wrS (T:All P w K mg AA DD) (k:Nat) (GWR:FnOk P w K mg base CX0 (k+1) AA.ZD DD.ZD ["_law_e","_law_params","_law_heads"] (spWr k)):FnOk P w K mg base CX0 (k+1+1) AA.ZD DD.ZD ["_law_e","_law_params","_law_heads"] (spWr (k+1)):=by
 have GKD:=ok_kd (base:=base) T
 refine T.F_ZD.ok sc_ZD (fun vs H Q E h=>?_) (fun cdv A outer s H vs Q E hr h=>?_)
 ·obtain ⟨v,pp,hh,ps,hs,e,rfl,_⟩:=h
  rfl
 ·obtain ⟨v,pp,hh,ps,hs,e,rfl,hE,hW,hP,hp3,hH,hh3,hhp,hd,kq⟩:=h
  have nd:=sc_ZD.nd
  have hrW:Room (k+1) _:=hr
  have hr1:Room 1 _:=hrW.mono (by omega)
  refine ⟨_,(@pss_cons _ _ _ _ _ (@ps_if _ _ _ _ _ _ _ _ (PW.pt (pw_or (@pt_cmpR _ _ _ _ _ _ _ _ op_eq (@pe_ix _ _ _ _ _ _ _ (ix_tupK (K:=K) rfl) (pv 0) pe_int (fun _ _=>rfl)) pe_str (nomark _)) (pw_or (@pt_cmpR _ _ _ _ _ _ _ _ op_eq (@pe_ix _ _ _ _ _ _ _ (ix_tupK (K:=K) rfl) (pv 0) pe_int (fun _ _=>rfl)) pe_str (nomark _)) (pw_or1 (@pt_cmpR _ _ _ _ _ _ _ _ op_eq (@pe_ix _ _ _ _ _ _ _ (ix_tupK (K:=K) rfl) (pv 0) pe_int (fun _ _=>rfl)) pe_str (nomark _)))))) (@pss_one _ _ _ (@ps_ret _ _ _ _ pe_bl)) pss_nil) (@pss_cons _ _ _ _ _ (@ps_set _ _ 3 _ _ _ _ nd rfl (Or.inl rfl) (pe_callTy (call_list_ofK (K:=K) rfl) rfl T.n_list bt_list (@pa_cons _ _ _ _ _ (pe_slice sl_tup (pv 0) (po_some pe_int) po_none) pa_nil (by rfl))) (by rfl) (by first | exact .inl rfl | exact .inr rfl | assumption)) (@pss_cons _ _ _ _ _ (@ps_set _ _ 4 _ _ _ _ nd rfl (Or.inl rfl) (@pe_lst _ _ _ _ (@pa_cons _ _ _ _ _ pe_str (@pa_cons _ _ _ _ _ pe_str pa_nil (by rfl)) (by rfl))) (by rfl) (by first | exact .inl rfl | exact .inr rfl | assumption)) (@pss_cons _ _ _ _ _ (@ps_if _ _ _ _ _ _ _ _ (@pt_cmpR _ _ _ _ _ _ _ _ (op_in_seqK (K:=K) rfl) (@pe_ix _ _ _ _ _ _ _ (ix_tupK (K:=K) rfl) (pv 0) pe_int (fun _ _=>rfl)) (@pe_tup _ _ _ _ _ (@pa_cons _ _ _ _ _ pe_str (@pa_cons _ _ _ _ _ pe_str (@pa_cons _ _ _ _ _ pe_str (@pa_cons _ _ _ _ _ pe_str (@pa_cons _ _ _ _ _ pe_str pa_nil (by rfl)) (by rfl)) (by rfl)) (by rfl)) (by rfl))) rfl) (@pss_one _ _ _ (@ps_set _ _ 4 _ _ _ _ nd rfl (Or.inl rfl) (@pe_lst _ _ _ _ (@pa_cons _ _ _ _ _ pe_str (@pa_cons _ _ _ _ _ pe_str pa_nil (by rfl)) (by rfl))) (by rfl) (by first | exact .inl rfl | exact .inr rfl | assumption))) pss_nil) (@pss_cons _ _ _ _ _ (@ps_if _ _ _ _ _ _ _ _ (@pt_cmpR _ _ _ _ _ _ _ _ op_eq (@pe_ix _ _ _ _ _ _ _ (ix_tupK (K:=K) rfl) (pv 0) pe_int (fun _ _=>rfl)) pe_str (nomark _)) (@pss_cons _ _ _ _ _ (@ps_set _ _ 3 _ _ _ _ nd rfl (Or.inl rfl) (@pe_ix _ _ _ _ _ _ _ (ix_tupK (K:=K) rfl) (pv 0) pe_int (fun _ _=>rfl)) (by rfl) (by first | exact .inl rfl | exact .inr rfl | assumption)) (@pss_one _ _ _ (ps_setcomp2 (i:=4) (xs:=["_law_name","_law_kind_here"]) (defScope st_ZD) N_ZD [] [] rfl (by exact ⟨rfl,rfl,by decide +kernel,by decide +kernel,by decide +kernel,by decide +kernel,by decide +kernel,rfl,by decide +kernel⟩) rfl rfl (pi_list (@pe_ix _ _ _ _ _ _ _ (ix_listK (K:=K) rfl) (pe_comp (defScope st_ZD) N_ZD ["_law_e"] [0] rfl (by exact ⟨rfl,rfl,by decide +kernel,rfl,by decide +kernel,by decide +kernel,by decide +kernel,rfl,by decide +kernel⟩) rfl rfl (pi_list (pv 2)) (fun _ _ _ _=>pif_one (pt_cmpR op_eq (pe_ix (ix_tupK (K:=K) rfl) (pv 0) pe_int (fun _ _=>rfl)) (pe_ix (ix_tupK (K:=K) rfl) (pv 1) pe_int (fun _ _=>rfl)) (nomark _))) (fun _ _ _ _=>(@pe_ix _ _ _ _ _ _ _ (ix_tupK (K:=K) rfl) (pv 0) pe_int (fun _ _=>rfl)))) pe_int (fun _ _=>rfl))) (fun _ _ _ _=>(pg_tupK (K:=K) (n:=2) rfl rfl (pgs_cons (pg_name (i:=0) (show (["_law_name","_law_kind_here"]:List Str).Nodup by decide +kernel) rfl (Or.inl rfl)) (pgs_cons (pg_name (i:=1) (show (["_law_name","_law_kind_here"]:List Str).Nodup by decide +kernel) rfl (Or.inl rfl)) pgs_nil)))) (fun _ _ _ _=>pif_nil) (fun _ _ _ _=>(pv 1)) nd rfl rfl rfl))) pss_nil) (@pss_cons _ _ _ _ _ (@ps_for _ _ _ _ _ _ _ _ PassesOwn.never rfl (pi_range1 rfl T.n_range (@pa_cons _ _ _ _ _ (pe_callB call_len_seq rfl T.n_len bt_len (@pa_cons _ _ _ _ _ (pv 3) pa_nil (by rfl))) pa_nil (by rfl))) (pg_name (i:=5) nd rfl (Or.inl rfl)) (@pss_one _ _ _ (@ps_if _ _ _ _ _ _ _ _ (PW.pt (pw_or (@pt_cmpR _ _ _ _ _ _ _ _ op_ne (pe_call GKD hr1 rfl T.m_ZH T.k_ZH T.b_ZH .nil pass0 (@pa_cons _ _ _ _ _ (@pe_ix _ _ _ _ _ _ _ (ix_lt (K:=K) rfl) (pv 3) (pv 5) (fun _ _=>rfl)) (@pa_cons _ _ _ _ _ (pv 1) (@pa_cons _ _ _ _ _ (pv 2) pa_nil (by rfl)) (by rfl)) (by rfl))) (@pe_ix _ _ _ _ _ _ _ (ix_listK (K:=K) rfl) (pv 4) (pv 5) (fun _ _=>rfl)) (nomark _)) (pw_or1 (pt_val (pe_call GWR hrW rfl T.m_ZD T.k_ZD T.b_ZD .nil pass0 (@pa_cons _ _ _ _ _ (@pe_ix _ _ _ _ _ _ _ (ix_lt (K:=K) rfl) (pv 3) (pv 5) (fun _ _=>rfl)) (@pa_cons _ _ _ _ _ (pv 1) (@pa_cons _ _ _ _ _ (pv 2) pa_nil (by rfl)) (by rfl)) (by rfl))))))) (@pss_one _ _ _ (@ps_ret _ _ _ _ pe_bl)) pss_nil)) (by intro _;rfl)) (@pss_one _ _ _ (@ps_ret _ _ _ _ pe_bl)))))))),?_⟩
  obtain ⟨t,wd,ys,rfl,ht,hc⟩:=wr_head hE hW
  refine ⟨_,rfl,t,_,_,_,rfl,rfl,SqT.of ht,atI_nat (j:=0) rfl,rfl,_,rfl,?_⟩
  rcases hc with ⟨hz,ew⟩ | ⟨⟨z1,z2,z3⟩,hc⟩
  ·rw [ew] at kq
   refine or_leaf ?_ (kq _ (Same.refl _))
   by_cases h1:wd="num"
   ·exact .inl (decide_eq_true (by rw [h1]))
   ·refine .inr ⟨decide_eq_false fun z=>h1 (by injection z),fun lf=>⟨_,rfl,t,_,_,_,rfl,rfl,SqT.of ht,atI_nat (j:=0) rfl,rfl,_,rfl,or_leaf ?_ lf⟩⟩
    by_cases h2:wd="truth"
    ·exact .inl (decide_eq_true (by rw [h2]))
    ·refine .inr ⟨decide_eq_false fun z=>h2 (by injection z),fun lf=>⟨_,rfl,t,_,_,_,rfl,rfl,SqT.of ht,atI_nat (j:=0) rfl,rfl,_,rfl,iteTb (decide_eq_true (by rw [(hz.resolve_left h1).resolve_left h2])) lf⟩⟩
  refine iteFb (decide_eq_false fun z=>z1 (by injection z)) ?_
  refine ⟨_,rfl,t,_,_,_,rfl,rfl,SqT.of ht,atI_nat (j:=0) rfl,rfl,_,rfl,?_⟩
  refine iteFb (decide_eq_false fun z=>z2 (by injection z)) ?_
  refine ⟨_,rfl,t,_,_,_,rfl,rfl,SqT.of ht,atI_nat (j:=0) rfl,rfl,_,rfl,?_⟩
  refine iteFb (decide_eq_false fun z=>z3 (by injection z)) ?_
  dsimp only [tNext]
  refine ⟨_,rfl,_,rfl,t,_,rfl,SqT.of ht,?_,fun q hq=>?_⟩
  ·rintro ⟨q,_⟩
   simp [HT.sIx] at q
  have s1:=same_upd (o:=.tup (cutV (.str wd::ys) (some 1) none)) hq
  rw [cut_tail] at s1 ⊢
  refine ⟨q,ys,rfl,.inr (SqT.of upd_same),fun q2 hq2=>?_⟩
  have s2:=s1.trans (same_upd (o:=.lst ys) hq2)
  have hq22:upd (upd H q (.tup ys)) q2 (.lst ys) q2=some (.lst ys):=upd_same
  generalize upd (upd H q (.tup ys)) q2 (.lst ys)=H2 at s2 hq22 ⊢
  dsimp only [gName]
  refine ⟨(by show 2<=sizeLine;decide),fun d1 hd1=>?_⟩
  have s3:=s2.trans (same_upd (o:=.lst [.str "truth",.str "truth"]) hd1)
  have hq23:=same_upd (o:=.lst [.str "truth",.str "truth"]) hd1 _ _ hq22
  have hd11:upd H2 d1 (.lst [.str "truth",.str "truth"]) d1=some (.lst [.str "truth",.str "truth"]):=upd_same
  generalize upd H2 d1 (.lst [.str "truth",.str "truth"])=H3 at s3 hq23 hd11 ⊢
  dsimp only [gName]
  refine cut_if (fun σ' H'=>Same H H'/\Same H3 H'/\∃ dd,H' dd=some (.lst [.str (partE wd),.str (partE wd)])/\σ'=[some (.ref t),some (.ref pp),some (.ref hh),some (.ref q2),some (.ref dd),none]) (fun R hR=>?_) ?_
  ·refine ⟨_,rfl,t,_,_,_,rfl,rfl,SqT.of (s3 _ _ ht),atI_nat (j:=0) rfl,(by show 5<=sizeLine;decide),fun pt hpt=>⟨pt,num5.map V.str,rfl,.inr (SqT.of upd_same),rfl,rfl,_,rfl,?_⟩⟩
   have sp:=same_upd (o:=.tup (num5.map V.str)) hpt
   by_cases hm:wd∈num5
   ·refine iteTb (in_strs (decide_eq_true hm)) ?_
    refine ⟨(by show 2<=sizeLine;decide),fun d2 hd2=>?_⟩
    have s4:=same_upd (o:=.lst [.str "num",.str "num"]) hd2
    refine hR _ _ ⟨(s3.trans sp).trans s4,sp.trans s4,d2,?_,rfl⟩
    rw [show partE wd="num" from if_pos hm]
    exact upd_same
   ·refine iteFb (in_strs (decide_eq_false hm)) ?_
    refine hR _ _ ⟨s3.trans sp,sp,d1,?_,rfl⟩
    rw [show partE wd="truth" from if_neg hm]
    exact sp _ _ hd11
  rintro σ' H4 ⟨s4,s34,dd,hdd,rfl⟩
  refine cut_if (fun σ' H'=>Same H H'/\∃ pr dd xs,(SqL K H' pr xs∨SqT K H' pr xs)/\(∀ H5,Same H' H5->SqL K H5 pr xs∨SqT K H5 pr xs)/\ExsAt H' xs (prt e)/\H' dd=some (.lst ((dueE hs e).map V.str))/\(prt e).length<=(dueE hs e).length/\(prt e).length<=10/\σ'=[some (.ref t),some (.ref pp),some (.ref hh),some (.ref pr),some (.ref dd),none]) (fun R hR=>?_) ?_
  ·refine ⟨_,rfl,t,_,_,_,rfl,rfl,SqT.of (s4 _ _ ht),atI_nat (j:=0) rfl,rfl,_,rfl,?_⟩
   rcases hc with ⟨z4,hys,hdue,hpl⟩ | ⟨rfl,z,l,vs,h0,rfl,hl,hvs,hf,hlen,hdue⟩
   ·refine iteFb (decide_eq_false fun z=>z4 (by injection z)) ?_
    refine hR _ _ ⟨s4,q2,dd,ys,.inl (SqL.of (s34 _ _ hq23)),fun H5 s5=>.inl (SqL.of (s5 _ _ (s34 _ _ hq23))),hys.kept s4.ls.1,?_,?_,by omega,rfl⟩
    ·rw [hdue];exact hdd
    ·rw [hdue];exact hpl
   ·refine iteTb (decide_eq_true rfl) ?_
    have ht4:=s4 _ _ ht
    refine ⟨_,rfl,t,_,_,_,rfl,rfl,SqT.of ht4,atI_nat (j:=2) rfl,?_⟩
    dsimp only [gName]
    obtain ⟨us,hhl,hul,huat⟩:=hH.kept s4.ls
    refine ⟨_,rfl,hh,rfl,⟨_,SqL.of hhl⟩,?_⟩
    refine comp_list (K:=K) (a:=hh) (xs:=us) (fun i ys H'=>H'=H4/\i<=3/\∃ qs:List Addr,ys=qs.map V.ref/\qs.length=((hs.take i).filter fun h=>decide (h.nm=z)).length/\∀ (j:Nat) (q:Addr) (h:HD),qs[j]?=some q->((hs.take i).filter fun h=>decide (h.nm=z))[j]?=some h->PrL H4 q h.ps) ⟨rfl,Nat.zero_le _,[],rfl,by simp,fun j q h x=>by simp at x⟩ (fun i ys H' _ h=>by rw [h.1];exact SqL.of hhl) ?_ ?_
    ·rintro i x ys H1 hx ⟨rfl,_,qs,rfl,hql,hqs⟩
     obtain ⟨hi,ex⟩:=List.getElem?_eq_some_iff.mp hx
     have hip:i<hs.length:=by omega
     obtain ⟨tt,pt,rfl,htt,hpt⟩:=huat i x hs[i] hx (List.getElem?_eq_getElem hip)
     have hfl:=List.length_filter_le (fun h:HD=>decide (h.nm=z)) (hs.take i)
     rw [List.length_take] at hfl
     refine ⟨_,rfl,tt,_,_,_,rfl,rfl,SqT.of htt,atI_nat (j:=0) rfl,_,rfl,t,_,_,_,rfl,rfl,SqT.of ht4,atI_nat (j:=1) rfl,rfl,_,rfl,?_⟩
     rw [List.take_succ_eq_append_getElem hip,List.filter_append]
     by_cases hz:hs[i].nm=z
     ·refine iteTb (decide_eq_true (by rw [hz])) ?_
      refine ⟨_,rfl,tt,_,_,_,rfl,rfl,SqT.of htt,atI_nat (j:=2) rfl,by rw [List.length_map];exact small1000' (by omega),rfl,by omega,qs++[pt],by simp,?_,fun j q h x y=>?_⟩
      ·rw [List.filter_cons_of_pos (by simpa using hz)];simp [hql]
      ·rw [List.filter_cons_of_pos (by simpa using hz)] at y
       by_cases hj:j<qs.length
       ·rw [List.getElem?_append_left hj] at x
        rw [List.getElem?_append_left (by omega)] at y
        exact hqs j q h x y
       ·rw [List.getElem?_append_right (by omega)] at x
        rw [List.getElem?_append_right (by omega),<- hql] at y
        have hj2:=(List.getElem?_eq_some_iff.mp x).1
        have hj0:j-qs.length=0:=by simpa using hj2
        rw [hj0] at x y
        cases (show some pt=some q from x)
        cases (show some hs[i]=some h from y)
        exact hpt
     ·refine iteFb (decide_eq_false fun w=>hz (by injection w)) ?_
      refine ⟨rfl,by omega,qs,rfl,?_,?_⟩
      ·rw [List.filter_cons_of_neg (by simpa using hz)];simpa using hql
      ·rw [List.filter_cons_of_neg (by simpa using hz)];simpa using hqs
    ·rintro zs H1 ⟨rfl,_,qs,rfl,hql,hqs⟩ p hp
     rw [hul,List.take_length] at hql hqs
     have hf0:(hs.filter fun h=>decide (h.nm=z))[0]?=some h0:=by
      rw [<- List.head?_eq_getElem?,List.head?_filter];exact hf
     have hf1:=(List.getElem?_eq_some_iff.mp hf0).1
     have hq0:0<qs.length:=by omega
     have hPq:=hqs 0 qs[0] h0 (List.getElem?_eq_getElem hq0) hf0
     have sp:=same_upd (o:=.lst (qs.map V.ref)) hp
     have hPq5:=hPq.kept sp.ls
     have h5:upd H1 p (.lst (qs.map V.ref)) p=some (.lst (qs.map V.ref)):=upd_same
     have s5:=s4.trans sp
     generalize upd H1 p (.lst (qs.map V.ref))=H5 at sp hPq5 h5 s5 ⊢
     obtain ⟨us',hpp',hul',huat'⟩:=hPq5
     refine ⟨p,_,_,.ref qs[0],rfl,rfl,SqL.of h5,atI_nat (j:=0) (by rw [List.getElem?_map,List.getElem?_eq_getElem hq0];rfl),qs[0],rfl,⟨_,SqL.of hpp'⟩,?_⟩
     have h03:h0.ps.length<=3:=hhp h0 (List.mem_of_find?_eq_some hf)
     refine comp2_list (K:=K) (a:=qs[0]) (xs:=us'.map V.ref) (fun i ys H'=>H'=H5/\i<=3/\ys=((h0.ps.take i).map (·.2)).map V.str) ⟨rfl,Nat.zero_le _,rfl⟩ (fun i ys H' _ h=>by rw [h.1];exact SqL.of hpp') ?_ ?_
     ·rintro i x ys H6 hx ⟨rfl,_,rfl⟩
      have hi:i<us'.length:=by
       have:=(List.getElem?_eq_some_iff.mp hx).1
       rw [List.length_map] at this;exact this
      have hip:i<h0.ps.length:=by omega
      have ex:x=V.ref us'[i]:=by rw [List.getElem?_map,List.getElem?_eq_getElem hi] at hx;exact (Option.some.inj hx).symm
      subst ex
      have hu:=huat' i us'[i] h0.ps[i] (List.getElem?_eq_getElem hi) (List.getElem?_eq_getElem hip)
      intro os hos
      obtain ⟨a,b,rfl⟩:∃ a b,os=[a,b]:=by
       match os,hos with
       | [a,b],_=>exact ⟨a,b,rfl⟩
      refine ⟨us'[i],_,rfl,SqT.of hu,rfl,_,_,rfl,_,_,rfl,rfl,⟨[_,_],rfl,rfl⟩,?_⟩
      refine tYes_ok ?_
      rw [if_pos rfl]
      refine ⟨_,rfl,?_,rfl,by omega,?_⟩
      ·rw [List.length_map,List.length_map,List.length_take];exact small1000' (by omega)
      ·rw [List.take_succ_eq_append_getElem hip,List.map_append,List.map_append];rfl
     ·rintro ys H6 ⟨rfl,_,rfl⟩ p6 hp6
      rw [List.length_map,hul',List.take_length]
      have s6:=same_upd (o:=.lst ((h0.ps.map (·.2)).map V.str)) hp6
      refine hR _ _ ⟨s5.trans s6,l,p6,vs,.inr (SqT.of (s6 _ _ (s5 _ _ hl))),fun H7 s7=>.inr (SqT.of (s7 _ _ (s6 _ _ (s5 _ _ hl)))),(hvs.kept s5.ls.1).kept s6.ls.1,?_,?_,by omega,rfl⟩
      ·rw [hdue];exact upd_same
      ·rw [hdue,List.length_map];omega
  rintro σ' H5 ⟨s5,pr,dd5,xs,hpr,hprs,hxs,hdd5,hlen,hl10,rfl⟩
  have hxl:=hxs.len
  refine cut_for (fun σ' H'=>Same H H'/\wrL ps hs e=false) (fun R hR=>?_) ?_
  ·refine ⟨_,rfl,pr,xs,rfl,hpr,_,rfl,?_,?_,?_⟩
   ·show _<=(xs.length:Int);omega
   ·show (xs.length:Int)<_;omega
   rw [Int.toNat_natCast]
   refine for_range (D:=⟨R,_,R,R⟩) (fun i σ' H'=>Same H5 H'/\wrD ps hs ((prt e).take i) (dueE hs e)=false/\∃ x5,σ'=[some (.ref t),some (.ref pp),some (.ref hh),some (.ref pr),some (.ref dd5),x5]) ⟨Same.refl _,by simp [wrD],_,rfl⟩ ?_ ?_
   ·rintro i σ' H6 hi ⟨s6,hno,x5,rfl⟩
    rw [Int.zero_add]
    have hip:i<(prt e).length:=by omega
    have hid:i<(dueE hs e).length:=by omega
    obtain ⟨c,hcc,hcx⟩:=hxs.get (List.getElem?_eq_getElem hi)
    have hcm:=prt_ok hW c (List.mem_of_getElem? hcc)
    have hcx6:=hcx.kept s6.ls.1
    have s56:=s5.trans s6
    have etake:=wrD_take ps hs (ds:=dueE hs e) hcc
    have eprt:=wrL_prt ps hs e
    have eitem:∀ (H7:Hp),Same H6 H7->∀ {Z:V->Hp->Prop},Z xs[i] H7->(rIxL K (.ref pr) (.int ((i:Nat):Int)) H7 Z∨rIxT K (.ref pr) (.int ((i:Nat):Int)) H7 Z):=fun H7 s7 Z hZ=>by
     rcases hprs H7 (s6.trans s7) with h | h
     ·exact .inl ⟨pr,xs,_,xs[i],rfl,rfl,h,atI_nat (List.getElem?_eq_getElem hi),hZ⟩
     ·exact .inr ⟨pr,xs,_,xs[i],rfl,rfl,h,atI_nat (List.getElem?_eq_getElem hi),hZ⟩
    have edue:(dueE hs e).getD i ""=(dueE hs e)[i]:=by rw [List.getD_eq_getElem?_getD,List.getElem?_eq_getElem hid];rfl
    rw [hno,Bool.false_or,edue] at etake
    refine ⟨_,rfl,_,rfl,eitem H6 (Same.refl _) ?_⟩
    refine ⟨_,rfl,_,rfl,xs[i],pp,hh,ps,hs,c,rfl,hcx6,hcm.1,hP.kept s56.ls,hp3,hH.kept s56.ls,hh3,fun H7 s7=>?_⟩
    refine ⟨_,rfl,_,rfl,dd5,_,_,.str (dueE hs e)[i],rfl,rfl,SqL.of (s7 _ _ (s6 _ _ hdd5)),atI_nat (by rw [List.getElem?_map,List.getElem?_eq_getElem hid];rfl),rfl,_,rfl,?_⟩
    by_cases hkd:kdL ps hs c=(dueE hs e)[i]
    ·refine iteFb (by
      show (!decide (V.str (kdL ps hs c)=V.str (dueE hs e)[i]))=false
      rw [decide_eq_true (by rw [hkd])];rfl) ?_
     refine ⟨_,rfl,_,rfl,eitem H7 s7 ?_⟩
     have s57:=s56.trans s7
     refine ⟨_,rfl,_,rfl,xs[i],pp,hh,ps,hs,c,rfl,hcx6.kept s7.ls.1,hcm.1,hP.kept s57.ls,hp3,hH.kept s57.ls,hh3,hhp,by omega,fun H8 s8=>⟨_,rfl,?_⟩⟩
     cases hw:wrL ps hs c with
     | true =>
      refine iteT ?_
      have ew:wrL ps hs e=true:=by
       rw [eprt]
       exact wrD_more ps hs (i:=i+1) (by rw [etake,hw];simp)
      rw [ew] at kq
      exact kq _ (s57.trans s8)
     | false =>
      refine iteF ?_
      refine ⟨(s6.trans s7).trans s8,?_,_,rfl⟩
      rw [etake,hw];simp [hkd]
    ·refine iteTb (by
      show (!decide (V.str (kdL ps hs c)=V.str (dueE hs e)[i]))=true
      rw [decide_eq_false (fun z=>hkd (by injection z))];rfl) ?_
     refine iteT ?_
     have ew:wrL ps hs e=true:=by
      rw [eprt]
      exact wrD_more ps hs (i:=i+1) (by rw [etake,decide_eq_false hkd];rfl)
     rw [ew] at kq
     exact kq _ (s56.trans s7)
   ·rintro σ' H6 ⟨s6,hno,x5,rfl⟩
    rw [List.take_of_length_le (by omega),<- wrL_prt] at hno
    exact hR _ _ ⟨s5.trans s6,hno⟩
  ·rintro σ' H6 ⟨s6,hno⟩
   rw [hno] at kq
   exact kq _ s6
theorem ok_wr0 (T:All P w K mg AA DD):FnOk P w K mg base CX0 1 AA.ZD DD.ZD ["_law_e","_law_params","_law_heads"] (spWr 0):=by
 have no:∀ vs H Q E,¬ spWr 0 vs H Q E:=fun vs H Q E h=>by
  obtain ⟨v,pp,hh,ps,hs,e,_,_,_,_,_,_,_,_,z,_⟩:=h
  omega
 exact T.F_ZD.ok sc_ZD (fun vs H Q E h=>(no _ _ _ _ h).elim) (fun cdv A outer s H vs Q E hr h=>(no _ _ _ _ h).elim)
theorem ok_wr (T:All P w K mg AA DD):∀ k:Nat,FnOk P w K mg base CX0 (k+1) AA.ZD DD.ZD ["_law_e","_law_params","_law_heads"] (spWr k)
 | 0=>ok_wr0 T
 | k+1=>ok_wrS T k (ok_wr T k)
end
section
variable {P:Program} {w:World} {K:PySem.W.Frag} {mg:Str->Option Value} {base:Heap} {AA:Adr} {DD:Fds}
noncomputable def exR (ps:List (Str × Str)) (hs:List HD) (x:Int):Ex:=exG ps hs (x / 8 % 4).toNat (mixI x 5)
noncomputable def rowG (ps:List (Str × Str)) (hs:List HD) (x:Int) (a:Nat):Tr:=if x % 8<3 then .give a (exR ps hs x) else if x % 8=3/\ps≠[] then .set a (ps.getD (x / 32 % (ps.length:Int)).toNat ("","")).1 (exR ps hs x) else
 if x % 8=4 then .iff a (.truth "yes") [.give (a+1) (exR ps hs x)] [] else .tell a (exR ps hs x)
noncomputable def spRow:Sp:=fun vs H Q _=>∃ (x:Int) (a:Nat) (pp hh:Addr) (ps:List (Str × Str)) (hs:List HD),vs=[.int x,.int ((a:Nat):Int),.ref pp,.ref hh]/\0<=x/\PrL H pp ps/\AscP ps/\ps.length<=3/\HdsAt H hh hs/\HsOk hs/\∀ v H',Same H H'->SAt (nwL H H') false v (rowG ps hs x a)->Q v H'
noncomputable abbrev N_ZM:List Str:=["_law_number","_law_at","_law_params","_law_heads","_law_e"]
theorem sc_ZM:FnScope N_ZM ["_law_number","_law_at","_law_params","_law_heads"] (defScope st_ZM):=⟨rfl,rfl,rfl,by decide +kernel,rfl,by decide +kernel,by decide +kernel⟩
theorem ok_row (T:All P w K mg AA DD):FnOk P w K mg base CX0 7 AA.ZM DD.ZM ["_law_number","_law_at","_law_params","_law_heads"] spRow:=by
 have GX:=ok_mixed (base:=base) T
 have GE:=ok_xg (base:=base) T 4
 refine T.F_ZM.ok sc_ZM (fun vs H Q E h=>?_) (fun cdv A outer s H vs Q E hr h=>?_)
 ·obtain ⟨x,a,pp,hh,ps,hs,rfl,_⟩:=h
  rfl
 ·obtain ⟨x,a,pp,hh,ps,hs,rfl,hx0,hP,hPA,hP3,hH,hok,kq⟩:=h
  have nd:=sc_ZM.nd
  have hrE:Room (4+1) _:=hr.mono (by omega)
  have hr1:Room 1 _:=hrE.mono (by omega)
  have hu:=hr.units
  refine ⟨_,(@pss_cons _ _ _ _ _ (@ps_set _ _ 4 _ _ _ _ nd rfl (Or.inl rfl) (pe_call GE hrE rfl T.m_ZG T.k_ZG T.b_ZG .nil pass0 (@pa_cons _ _ _ _ _ (pe_call GX hr1 rfl T.m_ZB T.k_ZB T.b_ZB .nil pass0 (@pa_cons _ _ _ _ _ (pv 0) (@pa_cons _ _ _ _ _ pe_int pa_nil (by rfl)) (by rfl))) (@pa_cons _ _ _ _ _ (pv 2) (@pa_cons _ _ _ _ _ (pv 3) (@pa_cons _ _ _ _ _ (@pe_op _ _ _ _ _ _ _ _ op_mod (@pe_op _ _ _ _ _ _ _ _ op_fdiv (pv 0) pe_int) pe_int) pa_nil (by rfl)) (by rfl)) (by rfl)) (by rfl))) (by rfl) (by first | exact .inl rfl | exact .inr rfl | assumption)) (@pss_cons _ _ _ _ _ (@ps_if _ _ _ _ _ _ _ _ (@pt_cmpR _ _ _ _ _ _ _ _ op_lt (@pe_op _ _ _ _ _ _ _ _ op_mod (pv 0) pe_int) pe_int (nomark _)) (@pss_one _ _ _ (@ps_ret _ _ _ _ (@pe_tup _ _ _ _ _ (@pa_cons _ _ _ _ _ pe_str (@pa_cons _ _ _ _ _ (pv 1) (@pa_cons _ _ _ _ _ (pv 4) pa_nil (by rfl)) (by rfl)) (by rfl))))) pss_nil) (@pss_cons _ _ _ _ _ (@ps_if _ _ _ _ _ _ _ _ (PW.pt (pw_and (@pt_cmpR _ _ _ _ _ _ _ _ op_eq (@pe_op _ _ _ _ _ _ _ _ op_mod (pv 0) pe_int) pe_int (nomark _)) (pw_and1 (@pt_cmpR _ _ _ _ _ _ _ _ (op_neD (K:=K) rfl hu) (pv 2) (@pe_lst _ _ _ _ pa_nil) (nomark _))))) (@pss_one _ _ _ (@ps_ret _ _ _ _ (@pe_tup _ _ _ _ _ (@pa_cons _ _ _ _ _ pe_str (@pa_cons _ _ _ _ _ (pv 1) (@pa_cons _ _ _ _ _ (@pe_ix _ _ _ _ _ _ _ (ix_tupK (K:=K) rfl) (@pe_ix _ _ _ _ _ _ _ (ix_listK (K:=K) rfl) (pv 2) (@pe_op _ _ _ _ _ _ _ _ op_mod (@pe_op _ _ _ _ _ _ _ _ op_fdiv (pv 0) pe_int) (pe_callB call_len_seq rfl T.n_len bt_len (@pa_cons _ _ _ _ _ (pv 2) pa_nil (by rfl)))) (fun _ _=>rfl)) pe_int (fun _ _=>rfl)) (@pa_cons _ _ _ _ _ (pv 4) pa_nil (by rfl)) (by rfl)) (by rfl)) (by rfl))))) pss_nil) (@pss_cons _ _ _ _ _ (@ps_if _ _ _ _ _ _ _ _ (@pt_cmpR _ _ _ _ _ _ _ _ op_eq (@pe_op _ _ _ _ _ _ _ _ op_mod (pv 0) pe_int) pe_int (nomark _)) (@pss_one _ _ _ (@ps_ret _ _ _ _ (@pe_tup _ _ _ _ _ (@pa_cons _ _ _ _ _ pe_str (@pa_cons _ _ _ _ _ (pv 1) (@pa_cons _ _ _ _ _ (@pe_tup _ _ _ _ _ (@pa_cons _ _ _ _ _ pe_str (@pa_cons _ _ _ _ _ pe_str pa_nil (by rfl)) (by rfl))) (@pa_cons _ _ _ _ _ (@pe_lst _ _ _ _ (@pa_cons _ _ _ _ _ (@pe_tup _ _ _ _ _ (@pa_cons _ _ _ _ _ pe_str (@pa_cons _ _ _ _ _ (@pe_op _ _ _ _ _ _ _ _ op_add (pv 1) pe_int) (@pa_cons _ _ _ _ _ (pv 4) pa_nil (by rfl)) (by rfl)) (by rfl))) pa_nil (by rfl))) (@pa_cons _ _ _ _ _ (@pe_lst _ _ _ _ pa_nil) pa_nil (by rfl)) (by rfl)) (by rfl)) (by rfl)) (by rfl))))) pss_nil) (@pss_one _ _ _ (@ps_ret _ _ _ _ (@pe_tup _ _ _ _ _ (@pa_cons _ _ _ _ _ pe_str (@pa_cons _ _ _ _ _ (pv 1) (@pa_cons _ _ _ _ _ (pv 4) pa_nil (by rfl)) (by rfl)) (by rfl))))))))),?_⟩
  obtain ⟨d,ed,hd⟩:=modN (a:=x / 8) (n:=4) (by decide)
  have ed:x / 8 % 4=((d:Nat):Int):=ed
  have ee:exR ps hs x=exG ps hs d (mixI x 5):=by unfold exR;rw [ed,Int.toNat_natCast]
  refine ⟨_,rfl,x,5,rfl,_,rfl,_,rfl,_,rfl,_,_,rfl,rfl,⟨by decide,by decide⟩,_,_,rfl,rfl,(by show (0:Int)<4;decide),mixI x 5,pp,hh,ps,hs,d,?_,mixI_nn _ _,mixI_lt _ _,hP,hPA,hP3,hH,hok,hd,fun v1 H1 s1 hE=>?_⟩
  ·show [V.int (mixI x 5),V.ref pp,V.ref hh,V.int (x / 8 % 4)]=_
   rw [ed]
  rw [<- ee] at hE
  dsimp only [gName]
  unfold rowG at kq
  refine ⟨_,rfl,_,_,rfl,rfl,(by show (0:Int)<8;decide),_,_,rfl,rfl,_,rfl,?_⟩
  by_cases h1:x % 8<3
  ·refine iteTb (decide_eq_true h1) ?_
   rw [if_pos h1] at kq
   refine ⟨_,rfl,_,rfl,(by show 3<=sizeLine;decide),fun p hp=>?_⟩
   have sp:=same_upd (o:=.tup [.str "give",.int ((a:Nat):Int),v1]) hp
   have sA:=s1.trans sp
   exact kq _ _ sA (.mk (nw_tup sA upd_same) (.cons (.s _) (.cons (.i _) (.cons (.e (hE.kept (nw_tups sA sp))) .nil))))
  refine iteFb (decide_eq_false h1) ?_
  rw [if_neg h1] at kq
  dsimp only [tNext]
  refine cut_if (fun σ' H'=>Same H1 H'/\¬ (x % 8=3/\ps≠[])/\σ'=[some (.int x),some (.int ((a:Nat):Int)),some (.ref pp),some (.ref hh),some v1]) (fun R hR=>?_) ?_
  ·refine ⟨_,rfl,_,_,rfl,rfl,(by show (0:Int)<8;decide),rfl,_,rfl,?_⟩
   by_cases h3:x % 8=3
   ·refine iteTb (decide_eq_true (congrArg V.int h3)) ?_
    obtain ⟨us,hpp,hul,huat⟩:=hP.kept s1.ls
    refine ⟨_,rfl,Nat.zero_le _,fun q hq=>?_⟩
    have sq:=same_upd (o:=.lst []) hq
    refine ⟨.list (ps.map prD1),.list [],.lst (SqL.of (sq _ _ hpp)) (pr_rdv hul fun i u q h1 h2=>sq _ _ (huat i u q h1 h2)),.lst (SqL.of upd_same) .nil,(Shd.list (prs_shd hPA)).ok (by decide),by rfl,_,rfl,?_⟩
    rw [prs_eqv]
    by_cases hp0:ps=[]
    ·rw [decide_eq_true hp0]
     exact iteF (hR _ _ ⟨sq,fun z=>z.2 hp0,rfl⟩)
    ·rw [decide_eq_false hp0]
     refine iteT ?_
     rw [if_pos ⟨h3,hp0⟩] at kq
     have hl0:0<ps.length:=List.length_pos_iff.mpr hp0
     obtain ⟨j,ej,hj⟩:=modN (a:=x / 32) (n:=ps.length) hl0
     have hju:j<us.length:=by omega
     rw [ej,Int.toNat_natCast,List.getD_eq_getElem?_getD,List.getElem?_eq_getElem hj] at kq
     have huj:=sq _ _ (huat j us[j] ps[j] (List.getElem?_eq_getElem hju) (List.getElem?_eq_getElem hj))
     refine ⟨_,rfl,_,rfl,_,rfl,_,_,rfl,rfl,⟨by decide,by decide⟩,_,rfl,pp,_,rfl,.inl (SqL.of (sq _ _ hpp)),_,_,rfl,rfl,?_,pp,us.map V.ref,_,.ref us[j],rfl,rfl,SqL.of (sq _ _ hpp),?_,us[j],_,_,_,rfl,rfl,SqT.of huj,atI_nat (j:=0) rfl,_,rfl,(by show 4<=sizeLine;decide),fun p hp=>?_⟩
     ·show (0:Int)<((us.map V.ref).length:Int)
      rw [List.length_map];omega
     ·show atI _ (x / 32 % ((us.map V.ref).length:Int))=_
      rw [List.length_map,hul,ej]
      exact atI_nat (by rw [List.getElem?_map,List.getElem?_eq_getElem hju];rfl)
     ·have sp:=same_upd (o:=.tup [.str "set",.int ((a:Nat):Int),.str ps[j].1,v1]) hp
      have sA:=(s1.trans sq).trans sp
      exact kq _ _ sA (.mk (nw_tup sA upd_same) (.cons (.s _) (.cons (.i _) (.cons (.s _) (.cons (.e (hE.kept (nw_tups sA (sq.trans sp)))) .nil)))))
   ·refine iteFb (decide_eq_false fun z=>h3 (by injection z)) ?_
    exact iteF (hR _ _ ⟨Same.refl _,fun z=>h3 z.1,rfl⟩)
  rintro σ' H2 ⟨s2,hn3,rfl⟩
  rw [if_neg hn3] at kq
  refine ⟨_,rfl,_,_,rfl,rfl,(by show (0:Int)<8;decide),rfl,_,rfl,?_⟩
  have s12:=s1.trans s2
  by_cases h4:x % 8=4
  ·refine iteTb (decide_eq_true (congrArg V.int h4)) ?_
   rw [if_pos h4] at kq
   refine ⟨_,rfl,(by show 2<=sizeLine;decide),fun q1 hq1=>⟨_,rfl,_,_,rfl,rfl,_,rfl,(by show 3<=sizeLine;decide),fun q2 hq2=>⟨(by show 1<=sizeLine;decide),fun q3 hq3=>⟨Nat.zero_le _,fun q4 hq4=>⟨(by show 5<=sizeLine;decide),fun p hp=>?_⟩⟩⟩⟩⟩
   have t1:=same_upd (o:=.tup [.str "truth",.str "yes"]) hq1
   have t2:=same_upd (o:=.tup [.str "give",.int (((a:Nat):Int)+1),v1]) hq2
   have t3:=same_upd (o:=.lst [.ref q2]) hq3
   have t4:=same_upd (o:=.lst []) hq4
   have t5:=same_upd (o:=.tup [.str "if",.int ((a:Nat):Int),.ref q1,.ref q3,.ref q4]) hp
   have u2:=t1.trans t2
   have u3:=u2.trans t3
   have u4:=u3.trans t4
   have u5:=u4.trans t5
   have sA:=s12.trans u5
   have e1:(((a:Nat):Int)+1)=((a+1:Nat):Int):=by omega
   have n3:H q3=none:=Same.free (s12.trans u2) hq3
   have n4:H q4=none:=Same.free (s12.trans u3) hq4
   have gv:SAt (nwL H (upd _ p (.tup [.str "if",.int ((a:Nat):Int),.ref q1,.ref q3,.ref q4]))) false (.ref q2) (.give (a+1) (exR ps hs x)):=.mk (nw_tup sA ((t3.trans (t4.trans t5)) _ _ upd_same)) (.cons (.s _) (.cons (.i (a+1)) (.cons (.e (hE.kept (nw_tups sA (s2.trans u5)))) .nil)))
   refine kq _ _ sA (.mk (nw_tup sA upd_same) (.cons (.s _) (.cons (.i _) (.cons (.e (.truth (nw_tup sA ((t2.trans (t3.trans (t4.trans t5))) _ _ upd_same)))) (.cons (.b ((nw_new n3).trans ((t4.trans t5) _ _ upd_same)) (.cons (.plain rfl gv) .nil)) (.cons (.b ((nw_new n4).trans (t5 _ _ upd_same)) .nil) .nil))))))
  ·refine iteFb (decide_eq_false fun z=>h4 (by injection z)) ?_
   rw [if_neg h4] at kq
   dsimp only [tNext]
   refine ⟨_,rfl,_,rfl,(by show 3<=sizeLine;decide),fun p hp=>?_⟩
   have sp:=same_upd (o:=.tup [.str "tell",.int ((a:Nat):Int),v1]) hp
   have sA:=s12.trans sp
   exact kq _ _ sA (.mk (nw_tup sA upd_same) (.cons (.s _) (.cons (.i _) (.cons (.e (hE.kept (nw_tups sA (s2.trans sp)))) .nil))))
end
section
variable {P:Program} {w:World} {K:PySem.W.Frag} {mg:Str->Option Value} {base:Heap} {AA:Adr} {DD:Fds}
theorem Asc.app {a b:Str} (h:Asc a) (h':Asc b):Asc (a++b):=fun c hc=>by
 rw [app_list] at hc
 exact (List.mem_append.mp hc).elim (h c) (h' c)
theorem Asc.cut {z:Str} (h:Asc z) (lo hi:Option Int):Asc (cutS z lo hi):=fun c hc=>by
 rw [cutS_list] at hc
 exact h c (List.mem_of_mem_drop (List.mem_of_mem_take hc))
theorem asc_get {z:Str} (h:Asc z) (j:Nat):Asc ⟨#[z.cps.toList.getD j 0]⟩:=fun c hc=>by
 have:c=z.cps.toList.getD j 0:=by simpa using hc
 rw [this,List.getD_eq_getElem?_getD]
 cases e:z.cps.toList[j]? with
 | none=>decide
 | some d=>exact h d (List.mem_of_getElem? e)
theorem wQ_asc (x:Int):∀ i,Asc (wQ x i)
 | 0=>by show Asc ("q":Str);unfold Asc;decide +kernel
 | i+1=>(wQ_asc x i).app (asc_get (show Asc wsg from by unfold Asc;decide +kernel) _)
theorem names_asc (x:Int):∀ z∈namesF x,Asc z:=fun z hz=>by
 have hq:Asc (nmq x):=wQ_asc x _
 unfold namesF at hz
 obtain ⟨j,_,rfl⟩:=List.mem_map.mp hz
 exact ((hq.cut _ _).app (asc_get (by unfold Asc;decide +kernel) j)).app (hq.cut _ _)
theorem kin_asc:∀ z∈kin2,Asc z:=by unfold Asc;decide +kernel
theorem prG_len (ns:List Str) (x:Int):(prG ns x).length<=3:=by
 unfold prG
 simp
 omega
theorem prG_asc {ns:List Str} (h:∀ z∈ns,Asc z) (x:Int):AscP (prG ns x):=fun q hq=>by
 unfold prG at hq
 obtain ⟨j,_,rfl⟩:=List.mem_map.mp hq
 exact ⟨getD_asc h _,getD_asc kin_asc _⟩
noncomputable def nsX (is:List Int):List Str:=namesF (mixI (cellI is 0) 9)
noncomputable def hdY (is:List Int) (k:Nat):HD:=hdG (nsX is) (mixI (cellI is (2+k)) ((k:Nat):Int)) k
noncomputable def hnX (is:List Int):Nat:=1+(cellI is 1 % 3).toNat
noncomputable def hdsX (is:List Int):List HD:=(List.range (hnX is)).map (hdY is)
noncomputable def numX (is:List Int) (k:Nat):Int:=mixI (cellI is (2+k)) (20+((k:Nat):Int))
noncomputable def bodX (is:List Int) (k:Nat) (h:HD):List Tr:=(List.range (numX is k % 4).toNat).map fun j=>rowG h.ps (hdsX is) (mixI (numX is k) ((j:Nat):Int)) (20*k+3*j+1)
noncomputable def defX (is:List Int) (k:Nat):Tr:=.df (20*k) (hdY is k).nm (hdY is k).kd (hdY is k).ps (bodX is k (hdY is k))
noncomputable def telX (is:List Int) (k:Nat) (c:Int):Tr:=.tell (100+k) (exG [] (hdsX is) 3 (mixI c ((k:Nat):Int)))
noncomputable def treeX (is:List Int):List Tr:=(List.range (hnX is)).map (defX is)++((is.drop 5).take 8).mapIdx (telX is)
theorem hn_le (is:List Int):1<=hnX is/\hnX is<=3:=by
 unfold hnX
 have:=Int.emod_nonneg (cellI is 1) (show (3:Int)≠0 by decide)
 have:=Int.emod_lt_of_pos (cellI is 1) (show (0:Int)<3 by decide)
 omega
theorem hds_ok (is:List Int):HsOk (hdsX is)/\(hdsX is).length=hnX is/\∀ k<hnX is,(hdsX is)[k]?=some (hdY is k):=by
 obtain ⟨h1,h3⟩:=hn_le is
 refine ⟨⟨?_,by simp [hdsX];omega,fun h hh=>?_⟩,by simp [hdsX],fun k hk=>?_⟩
 ·intro z
  have:=congrArg List.length z
  simp [hdsX] at this;omega
 ·unfold hdsX at hh
  obtain ⟨k,_,rfl⟩:=List.mem_map.mp hh
  exact prG_len _ _
 ·unfold hdsX
  rw [List.getElem?_map,List.getElem?_range hk];rfl
theorem hdY_ok (is:List Int) (k:Nat):(hdY is k).ps.length<=3/\AscP (hdY is k).ps:=⟨prG_len _ _,prG_asc (names_asc _) _⟩
theorem cut_513 (ns:List Int):cutV (ns.map V.int) (some 5) (some 13)=((ns.drop 5).take 8).map V.int:=by
 unfold cutV
 have e1:HT.sIx (ns.map V.int).length (ns.map V.int).length (some 13)=min 13 (ns.map V.int).length:=HT.sIx_nat _ _ 13
 have e2:HT.sIx (ns.map V.int).length 0 (some 5)=min 5 (ns.map V.int).length:=HT.sIx_nat _ _ 5
 rw [e1,e2,List.length_map,<- List.map_drop,<- List.map_take]
 congr 1
 by_cases h:ns.length<=5
 ·rw [List.drop_of_length_le (by omega),List.drop_of_length_le (by omega)]
  simp
 ·rw [Nat.min_eq_left (by omega:5<=ns.length)]
  by_cases h2:ns.length<=13
  ·rw [Nat.min_eq_right h2,List.take_of_length_le (by simp),List.take_of_length_le (by simp;omega)]
  ·rw [Nat.min_eq_left (by omega)]
theorem same_open {H H':Hp} (s:Same H H') {l:Addr} {o:HO} (h:H l=none):Same H (upd H' l o):=fun b x hb=>by
 rw [upd_ne (fun z=>by rw [z,h] at hb;cases hb)]
 exact s _ _ hb
theorem msk_upd {H:Hp} {M:List Addr} {l:Addr} {o:HO} (h:l∈M):Same (msk H M) (msk (upd H l o) M):=fun b x hb=>by
 obtain ⟨h1,h2⟩:=msk_some hb
 rw [msk_no h1,upd_ne (fun z=>h1 (by rw [z];exact h))]
 exact h2
theorem msk_same {H H':Hp} (s:Same H H') {M:List Addr}:Same (msk H M) (msk H' M):=msk_le (fun b h=>.inl h) fun b o _ h=>s _ _ h
noncomputable def spTree (K:PySem.W.Frag):Sp:=fun vs H Q _=>∃ (a:Addr) (is:List Int),vs=[.ref a]/\SqL K H a (is.map V.int)/\∀ t l hh xs H',Same H H'->H' t=some (.tup [.ref l,.ref hh])->H' l=some (.lst xs)->LAt H' false xs (treeX is)->HdsAt H' hh (hdsX is)->Q (.ref t) H'
noncomputable abbrev N_ZJ:List Str:=["_law_script","_law_names_here","_law_heads","_law_k","_law_tree_here","_law_number","_law_body","_law_j","_law_cell","_law_e"]
theorem sc_ZJ:FnScope N_ZJ ["_law_script"] (defScope st_ZJ):=⟨rfl,rfl,rfl,by decide +kernel,rfl,by decide +kernel,by decide +kernel⟩
theorem ok_tree (T:All P w K mg AA DD):FnOk P w K mg base CX0 9 AA.ZJ DD.ZJ ["_law_script"] (spTree K):=by
 have GC:=ok_cellat (base:=base) T
 have GX:=ok_mixed (base:=base) T
 have GN:=ok_names (base:=base) T
 have GH:=ok_head (base:=base) T
 have GRW:=ok_row (base:=base) T
 have GE:=ok_xg (base:=base) T 4
 refine T.F_ZJ.ok sc_ZJ (fun vs H Q E h=>?_) (fun cdv A outer s H vs Q E hr h=>?_)
 ·obtain ⟨a,is,rfl,_⟩:=h
  rfl
 ·obtain ⟨a,is,rfl,hS,kq⟩:=h
  have nd:=sc_ZJ.nd
  have hr7:Room 7 _:=hr.mono (by omega)
  have hrE:Room (4+1) _:=hr.mono (by omega)
  have hr1:Room 1 _:=hr.mono (by omega)
  refine ⟨_,(@pss_cons _ _ _ _ _ (@ps_set _ _ 1 _ _ _ _ nd rfl (Or.inl rfl) (pe_call GN hr1 rfl T.m_ZC T.k_ZC T.b_ZC .nil pass0 (@pa_cons _ _ _ _ _ (pe_call GX hr1 rfl T.m_ZB T.k_ZB T.b_ZB .nil pass0 (@pa_cons _ _ _ _ _ (pe_call GC hr1 rfl T.m_Zs T.k_Zs T.b_Zs .nil pass0 (@pa_cons _ _ _ _ _ (pv 0) (@pa_cons _ _ _ _ _ pe_int pa_nil (by rfl)) (by rfl))) (@pa_cons _ _ _ _ _ pe_int pa_nil (by rfl)) (by rfl))) pa_nil (by rfl))) (by rfl) (by first | exact .inl rfl | exact .inr rfl | assumption)) (@pss_cons _ _ _ _ _ (@ps_set _ _ 2 _ _ _ _ nd rfl (Or.inl rfl) (@pe_lst _ _ _ _ pa_nil) (by rfl) (by first | exact .inl rfl | exact .inr rfl | assumption)) (@pss_cons _ _ _ _ _ (@ps_for _ _ _ _ _ _ _ _ PassesOwn.never rfl (pi_range1 rfl T.n_range (@pa_cons _ _ _ _ _ (@pe_op _ _ _ _ _ _ _ _ op_add pe_int (@pe_op _ _ _ _ _ _ _ _ op_mod (pe_call GC hr1 rfl T.m_Zs T.k_Zs T.b_Zs .nil pass0 (@pa_cons _ _ _ _ _ (pv 0) (@pa_cons _ _ _ _ _ pe_int pa_nil (by rfl)) (by rfl))) pe_int)) pa_nil (by rfl))) (pg_name (i:=3) nd rfl (Or.inl rfl)) (@pss_one _ _ _ (@ps_expr _ _ _ _ (pe_bm PySem.F.plainAttrs_list PySem.F.slot_list_append PySem.F.type_list_append mt_append (pv 2) (@pa_cons _ _ _ _ _ (pe_call GH hr1 rfl T.m_ZI T.k_ZI T.b_ZI .nil pass0 (@pa_cons _ _ _ _ _ (pe_call GX hr1 rfl T.m_ZB T.k_ZB T.b_ZB .nil pass0 (@pa_cons _ _ _ _ _ (pe_call GC hr1 rfl T.m_Zs T.k_Zs T.b_Zs .nil pass0 (@pa_cons _ _ _ _ _ (pv 0) (@pa_cons _ _ _ _ _ (@pe_op _ _ _ _ _ _ _ _ op_add pe_int (pv 3)) pa_nil (by rfl)) (by rfl))) (@pa_cons _ _ _ _ _ (pv 3) pa_nil (by rfl)) (by rfl))) (@pa_cons _ _ _ _ _ (pv 3) (@pa_cons _ _ _ _ _ (pv 1) pa_nil (by rfl)) (by rfl)) (by rfl))) pa_nil (by rfl))) (by rfl))) (by intro _;rfl)) (@pss_cons _ _ _ _ _ (@ps_set _ _ 4 _ _ _ _ nd rfl (Or.inl rfl) (@pe_lst _ _ _ _ pa_nil) (by rfl) (by first | exact .inl rfl | exact .inr rfl | assumption)) (@pss_cons _ _ _ _ _ (@ps_for _ _ _ _ _ _ _ _ PassesOwn.never rfl (pi_range1 rfl T.n_range (@pa_cons _ _ _ _ _ (pe_callB call_len_seq rfl T.n_len bt_len (@pa_cons _ _ _ _ _ (pv 2) pa_nil (by rfl))) pa_nil (by rfl))) (pg_name (i:=3) nd rfl (Or.inl rfl)) (@pss_cons _ _ _ _ _ (@ps_set _ _ 5 _ _ _ _ nd rfl (Or.inl rfl) (pe_call GX hr1 rfl T.m_ZB T.k_ZB T.b_ZB .nil pass0 (@pa_cons _ _ _ _ _ (pe_call GC hr1 rfl T.m_Zs T.k_Zs T.b_Zs .nil pass0 (@pa_cons _ _ _ _ _ (pv 0) (@pa_cons _ _ _ _ _ (@pe_op _ _ _ _ _ _ _ _ op_add pe_int (pv 3)) pa_nil (by rfl)) (by rfl))) (@pa_cons _ _ _ _ _ (@pe_op _ _ _ _ _ _ _ _ op_add pe_int (pv 3)) pa_nil (by rfl)) (by rfl))) (by rfl) (by first | exact .inl rfl | exact .inr rfl | assumption)) (@pss_cons _ _ _ _ _ (@ps_set _ _ 6 _ _ _ _ nd rfl (Or.inl rfl) (@pe_lst _ _ _ _ pa_nil) (by rfl) (by first | exact .inl rfl | exact .inr rfl | assumption)) (@pss_cons _ _ _ _ _ (@ps_for _ _ _ _ _ _ _ _ PassesOwn.never rfl (pi_range1 rfl T.n_range (@pa_cons _ _ _ _ _ (@pe_op _ _ _ _ _ _ _ _ op_mod (pv 5) pe_int) pa_nil (by rfl))) (pg_name (i:=7) nd rfl (Or.inl rfl)) (@pss_one _ _ _ (@ps_expr _ _ _ _ (pe_bm PySem.F.plainAttrs_list PySem.F.slot_list_append PySem.F.type_list_append mt_append (pv 6) (@pa_cons _ _ _ _ _ (pe_call GRW hr7 rfl T.m_ZM T.k_ZM T.b_ZM .nil pass0 (@pa_cons _ _ _ _ _ (pe_call GX hr1 rfl T.m_ZB T.k_ZB T.b_ZB .nil pass0 (@pa_cons _ _ _ _ _ (pv 5) (@pa_cons _ _ _ _ _ (pv 7) pa_nil (by rfl)) (by rfl))) (@pa_cons _ _ _ _ _ (@pe_op _ _ _ _ _ _ _ _ op_add (@pe_op _ _ _ _ _ _ _ _ op_add (@pe_op _ _ _ _ _ _ _ _ op_mul pe_int (pv 3)) (@pe_op _ _ _ _ _ _ _ _ op_mul pe_int (pv 7))) pe_int) (@pa_cons _ _ _ _ _ (@pe_ix _ _ _ _ _ _ _ (ix_tupK (K:=K) rfl) (@pe_ix _ _ _ _ _ _ _ (ix_listK (K:=K) rfl) (pv 2) (pv 3) (fun _ _=>rfl)) pe_int (fun _ _=>rfl)) (@pa_cons _ _ _ _ _ (pv 2) pa_nil (by rfl)) (by rfl)) (by rfl)) (by rfl))) pa_nil (by rfl))) (by rfl))) (by intro _;rfl)) (@pss_one _ _ _ (@ps_expr _ _ _ _ (pe_bm PySem.F.plainAttrs_list PySem.F.slot_list_append PySem.F.type_list_append mt_append (pv 4) (@pa_cons _ _ _ _ _ (@pe_tup _ _ _ _ _ (@pa_cons _ _ _ _ _ pe_str (@pa_cons _ _ _ _ _ (@pe_op _ _ _ _ _ _ _ _ op_mul pe_int (pv 3)) (@pa_cons _ _ _ _ _ (@pe_ix _ _ _ _ _ _ _ (ix_tupK (K:=K) rfl) (@pe_ix _ _ _ _ _ _ _ (ix_listK (K:=K) rfl) (pv 2) (pv 3) (fun _ _=>rfl)) pe_int (fun _ _=>rfl)) (@pa_cons _ _ _ _ _ (@pe_ix _ _ _ _ _ _ _ (ix_tupK (K:=K) rfl) (@pe_ix _ _ _ _ _ _ _ (ix_listK (K:=K) rfl) (pv 2) (pv 3) (fun _ _=>rfl)) pe_int (fun _ _=>rfl)) (@pa_cons _ _ _ _ _ (pe_callTy call_tuple_of rfl T.n_tuple bt_tuple (@pa_cons _ _ _ _ _ (@pe_ix _ _ _ _ _ _ _ (ix_tupK (K:=K) rfl) (@pe_ix _ _ _ _ _ _ _ (ix_listK (K:=K) rfl) (pv 2) (pv 3) (fun _ _=>rfl)) pe_int (fun _ _=>rfl)) pa_nil (by rfl))) (@pa_cons _ _ _ _ _ (pv 6) pa_nil (by rfl)) (by rfl)) (by rfl)) (by rfl)) (by rfl)) (by rfl))) pa_nil (by rfl))) (by rfl)))))) (by intro _;rfl)) (@pss_cons _ _ _ _ _ (@ps_for _ _ _ _ _ _ _ _ PassesOwn.never rfl (pi_enum rfl T.n_enumerate (@pa_cons _ _ _ _ _ (pe_slice sl_list (pv 0) (po_some pe_int) (po_some pe_int)) pa_nil (by rfl))) (pg_tup rfl (pgs_cons (pg_name (i:=3) nd rfl (Or.inl rfl)) (pgs_cons (pg_name (i:=8) nd rfl (Or.inl rfl)) pgs_nil))) (@pss_cons _ _ _ _ _ (@ps_set _ _ 9 _ _ _ _ nd rfl (Or.inl rfl) (pe_call GE hrE rfl T.m_ZG T.k_ZG T.b_ZG .nil pass0 (@pa_cons _ _ _ _ _ (pe_call GX hr1 rfl T.m_ZB T.k_ZB T.b_ZB .nil pass0 (@pa_cons _ _ _ _ _ (pv 8) (@pa_cons _ _ _ _ _ (pv 3) pa_nil (by rfl)) (by rfl))) (@pa_cons _ _ _ _ _ (@pe_lst _ _ _ _ pa_nil) (@pa_cons _ _ _ _ _ (pv 2) (@pa_cons _ _ _ _ _ pe_int pa_nil (by rfl)) (by rfl)) (by rfl)) (by rfl))) (by rfl) (by first | exact .inl rfl | exact .inr rfl | assumption)) (@pss_one _ _ _ (@ps_expr _ _ _ _ (pe_bm PySem.F.plainAttrs_list PySem.F.slot_list_append PySem.F.type_list_append mt_append (pv 4) (@pa_cons _ _ _ _ _ (@pe_tup _ _ _ _ _ (@pa_cons _ _ _ _ _ pe_str (@pa_cons _ _ _ _ _ (@pe_op _ _ _ _ _ _ _ _ op_add pe_int (pv 3)) (@pa_cons _ _ _ _ _ (pv 9) pa_nil (by rfl)) (by rfl)) (by rfl))) pa_nil (by rfl))) (by rfl)))) (by intro _;rfl)) (@pss_one _ _ _ (@ps_ret _ _ _ _ (@pe_tup _ _ _ _ _ (@pa_cons _ _ _ _ _ (pv 4) (@pa_cons _ _ _ _ _ (pv 2) pa_nil (by rfl)) (by rfl))))))))))),?_⟩
  refine ⟨_,rfl,a,is,0,rfl,hS,cellI is 0,9,rfl,mixI (cellI is 0) 9,rfl,mixI_nn _ _,fun pn H1 s1 hpn=>?_⟩
  dsimp only [gName]
  refine ⟨Nat.zero_le _,fun hh hhh=>?_⟩
  dsimp only [gName]
  have s2:=same_upd (o:=.lst []) hhh
  have hh2:upd H1 hh (.lst []) hh=some (.lst []):=upd_same
  have hS1:=s1.ls.seq hS
  generalize upd H1 hh (.lst [])=H2 at s2 hh2 ⊢
  obtain ⟨⟨hk0,hk3,hkp⟩,hkl,hkg⟩:=hds_ok is
  have hhn:=hn_le is
  have ehn:hnX is=1+(cellI is 1 % 3).toNat:=rfl
  refine cut_for (fun σ' H'=>Same H1 H'/\HdsAt H' hh (hdsX is)/\∃ x3,σ'=[some (.ref a),some (.ref pn),some (.ref hh),x3,none,none,none,none,none,none]) (fun R hR=>?_) ?_
  ·have e3:=Int.emod_nonneg (cellI is 1) (show (3:Int)≠0 by decide)
   have e3':=Int.emod_lt_of_pos (cellI is 1) (show (0:Int)<3 by decide)
   refine ⟨_,rfl,a,is,1,rfl,s2.ls.seq hS1,_,_,rfl,rfl,(by show (0:Int)<3;decide),_,_,rfl,rfl,_,rfl,?_,?_,?_⟩
   ·show _<=1+cellI is 1 % 3;omega
   ·show 1+cellI is 1 % 3<_;omega
   rw [show (1+cellI is 1 % 3).toNat=hnX is by rw [ehn];omega]
   refine for_range (D:=⟨R,_,R,R⟩) (fun i σ' H'=>Same H1 H'/\(∃ us:List V,H' hh=some (.lst us)/\us.length=i/\∀ (j:Nat) (u:V),us[j]?=some u->HdAt (msk H' [hh]) u (hdY is j))/\∃ x3,σ'=[some (.ref a),some (.ref pn),some (.ref hh),x3,none,none,none,none,none,none]) ⟨s2,⟨[],hh2,rfl,fun j u h=>by simp at h⟩,_,rfl⟩ ?_ ?_
   ·rintro i σ' H3 hi ⟨s3,⟨us,hus,hul,huat⟩,x3,rfl⟩
    rw [Int.zero_add]
    dsimp only [gName]
    refine ⟨_,rfl,.inl ⟨rfl,_,SqL.of hus⟩,_,rfl,_,rfl,_,_,rfl,rfl,a,is,2+i,rfl,s3.ls.seq hS1,_,rfl,cellI is (2+i),((i:Nat):Int),rfl,_,rfl,_,rfl,mixI (cellI is (2+i)) ((i:Nat):Int),i,pn,nsX is,rfl,mixI_nn _ _,by omega,s3 _ _ hpn,names_len _,fun v H4 s4 hv=>?_⟩
    have hus4:=s4 _ _ hus
    refine ⟨hh,us,v,rfl,rfl,hus4,small1000' (by omega),?_⟩
    refine ⟨same_open (s3.trans s4) hhh,⟨us++[v],upd_same,by simp [hul],fun j u h=>?_⟩,_,rfl⟩
    have mu:Same (msk H4 [hh]) (msk (upd H4 hh (.lst (us++[v]))) [hh]):=msk_upd (by simp)
    by_cases hj:j<us.length
    ·rw [List.getElem?_append_left hj] at h
     exact (huat j u h).kept ((msk_same s4).trans mu).ls
    ·have hj0:j=i:=by have:=(List.getElem?_eq_some_iff.mp h).1;simp at this;omega
     subst hj0
     rw [List.getElem?_append_right (by omega)] at h
     have e1:u=v:=by simpa [hul] using h.symm
     subst e1
     exact hv.kept ((nw_to (M:=[hh]) (fun b hb=>by rw [List.mem_singleton.mp hb];exact ⟨_,hus⟩)).trans mu).ls
   ·rintro σ' H3 ⟨s3,⟨us,hus,hul,huat⟩,x3,rfl⟩
    refine hR _ _ ⟨s3,⟨us,hus,by rw [hul,hkl],fun j u h x y=>?_⟩,x3,rfl⟩
    have hj:j<hnX is:=by have:=(List.getElem?_eq_some_iff.mp x).1;omega
    rw [hkg j hj] at y
    cases y
    exact (huat j u x).kept (msk_in _ _).ls
  rintro σ' H3 ⟨s3,hH3,x3,rfl⟩
  refine ⟨Nat.zero_le _,fun tl htl=>?_⟩
  dsimp only [gName]
  have s4:=same_upd (o:=.lst []) htl
  have ht4:upd H3 tl (.lst []) tl=some (.lst []):=upd_same
  have hS3:=s3.ls.seq hS1
  generalize upd H3 tl (.lst [])=H4 at s4 ht4 ⊢
  obtain ⟨us,hus,hul,huat⟩:=hH3
  have hgt:∀ k<hnX is,∃ th pl,us[k]?=some (.ref th)/\H3 th=some (.tup [.str (hdY is k).nm,.str (hdY is k).kd,.ref pl])/\PrL H3 pl (hdY is k).ps:=fun k hk=>by
   have hku:k<us.length:=by omega
   obtain ⟨th,pl,e,h1,h2⟩:=huat k us[k] (hdY is k) (List.getElem?_eq_getElem hku) (hkg k hk)
   exact ⟨th,pl,by rw [List.getElem?_eq_getElem hku,e],h1,h2⟩
  have hH3:HdsAt H3 hh (hdsX is):=⟨us,hus,hul,huat⟩
  refine cut_for (fun σ' H'=>Same H3 H'/\(∃ xs:List V,H' tl=some (.lst xs)/\xs.length=hnX is/\LAt (msk H' [tl]) false xs ((List.range (hnX is)).map (defX is)))/\∃ x3 x5 x6 x7,σ'=[some (.ref a),some (.ref pn),some (.ref hh),x3,some (.ref tl),x5,x6,x7,none,none]) (fun R hR=>?_) ?_
  ·refine ⟨_,rfl,hh,us,rfl,.inl (SqL.of (s4 _ _ hus)),_,rfl,?_,?_,?_⟩
   ·show _<=(us.length:Int);omega
   ·show (us.length:Int)<_;omega
   rw [Int.toNat_natCast,hul,hkl]
   refine for_range (D:=⟨R,_,R,R⟩) (fun i σ' H'=>Same H3 H'/\(∃ xs:List V,H' tl=some (.lst xs)/\xs.length=i/\LAt (msk H' [tl]) false xs ((List.range i).map (defX is)))/\∃ x3 x5 x6 x7,σ'=[some (.ref a),some (.ref pn),some (.ref hh),x3,some (.ref tl),x5,x6,x7,none,none]) ⟨s4,⟨[],ht4,rfl,.nil⟩,_,_,_,_,rfl⟩ ?_ ?_
   ·rintro i σ' H5 hi ⟨s5,⟨xs,hxs,hxl,hL5⟩,x3',x5,x6,x7,rfl⟩
    rw [Int.zero_add]
    dsimp only [gName]
    obtain ⟨th,pl,eth,hth,hpl⟩:=hgt i hi
    refine ⟨_,rfl,_,rfl,_,_,rfl,rfl,a,is,2+i,rfl,s5.ls.seq hS3,_,rfl,_,_,rfl,rfl,cellI is (2+i),20+((i:Nat):Int),rfl,?_⟩
    dsimp only [gName]
    refine ⟨Nat.zero_le _,fun bl hbl=>?_⟩
    dsimp only [gName]
    have s6:=same_upd (o:=.lst []) hbl
    have hb6:upd H5 bl (.lst []) bl=some (.lst []):=upd_same
    generalize upd H5 bl (.lst [])=H6 at s6 hb6 ⊢
    show tSeq _ _ _ [some (.ref a),some (.ref pn),some (.ref hh),some (.int ((i:Nat):Int)),some (.ref tl),some (.int (numX is i)),some (.ref bl),x7,none,none] _
    obtain ⟨m,em,hm⟩:=modN (a:=numX is i) (n:=4) (by decide)
    have em:numX is i % 4=((m:Nat):Int):=em
    have ebd:bodX is i (hdY is i)=(List.range m).map fun j=>rowG (hdY is i).ps (hdsX is) (mixI (numX is i) ((j:Nat):Int)) (20*i+3*j+1):=by unfold bodX;rw [em,Int.toNat_natCast]
    refine cut_for (fun σ' H'=>Same H5 H'/\(∃ ys:List V,H' bl=some (.lst ys)/\LAt (msk H' [tl,bl]) false ys (bodX is i (hdY is i)))/\∃ x7,σ'=[some (.ref a),some (.ref pn),some (.ref hh),some (.int ((i:Nat):Int)),some (.ref tl),some (.int (numX is i)),some (.ref bl),x7,none,none]) (fun R2 hR2=>?_) ?_
    ·refine ⟨_,rfl,_,_,rfl,rfl,(by show (0:Int)<4;decide),_,rfl,?_,?_,?_⟩
     ·show _<=numX is i % 4;omega
     ·show numX is i % 4<_;omega
     rw [em,Int.toNat_natCast]
     refine for_range (D:=⟨R2,_,R2,R2⟩) (fun j σ' H'=>Same H5 H'/\(∃ ys:List V,H' bl=some (.lst ys)/\ys.length=j/\LAt (msk H' [tl,bl]) false ys ((List.range j).map fun j=>rowG (hdY is i).ps (hdsX is) (mixI (numX is i) ((j:Nat):Int)) (20*i+3*j+1)))/\∃ x7,σ'=[some (.ref a),some (.ref pn),some (.ref hh),some (.int ((i:Nat):Int)),some (.ref tl),some (.int (numX is i)),some (.ref bl),x7,none,none]) ⟨s6,⟨[],hb6,rfl,.nil⟩,_,rfl⟩ ?_ ?_
     ·rintro j σ' H7 hj ⟨s7,⟨ys,hys,hyl,hL7⟩,x7',rfl⟩
      rw [Int.zero_add]
      dsimp only [gName]
      have s57:=s5.trans s7
      refine ⟨_,rfl,.inl ⟨rfl,_,SqL.of hys⟩,_,rfl,_,rfl,numX is i,((j:Nat):Int),rfl,_,rfl,_,_,rfl,rfl,.inl ⟨by decide,by decide⟩,_,rfl,_,_,rfl,rfl,.inl ⟨by decide,by decide⟩,_,_,rfl,rfl,_,_,rfl,rfl,?_⟩
      refine ⟨_,rfl,_,rfl,hh,us,_,.ref th,rfl,rfl,SqL.of (s57 _ _ hus),atI_nat eth,th,_,_,_,rfl,rfl,SqT.of (s57 _ _ hth),atI_nat (j:=2) rfl,_,rfl,?_⟩
      refine ⟨mixI (numX is i) ((j:Nat):Int),20*i+3*j+1,pl,hh,(hdY is i).ps,hdsX is,rfl,mixI_nn _ _,hpl.kept s57.ls,(hdY_ok is i).2,(hdY_ok is i).1,hH3.kept s57.ls,⟨hk0,hk3,hkp⟩,fun v H8 s8 hv=>?_⟩
      have hys8:=s8 _ _ hys
      refine ⟨bl,ys,v,rfl,rfl,hys8,small1000' (by omega),?_⟩
      refine ⟨same_open (s7.trans s8) hbl,⟨ys++[v],upd_same,by simp [hyl],?_⟩,_,rfl⟩
      have mu:Same (msk H8 [tl,bl]) (msk (upd H8 bl (.lst (ys++[v]))) [tl,bl]):=msk_upd (by simp)
      rw [List.range_succ,List.map_append]
      refine (hL7.kept ((msk_same s8).trans mu).ls).snoc (.plain rfl (hv.kept ((nw_to (M:=[tl,bl]) (fun b hb=>?_)).trans mu).ls))
      rcases (by simpa using hb:b=tl∨b=bl) with rfl | rfl
      ·exact ⟨_,s7 _ _ hxs⟩
      ·exact ⟨_,hys⟩
     ·rintro σ' H7 ⟨s7,⟨ys,hys,hyl,hL7⟩,x7',rfl⟩
      exact hR2 _ _ ⟨s7,⟨ys,hys,by rw [ebd];exact hL7⟩,_,rfl⟩
    rintro σ' H7 ⟨s7,⟨ys,hys,hL7⟩,x7',rfl⟩
    have s57:=s5.trans s7
    have hix:∀ {H9:Hp},Same H3 H9->∀ {Z:V->Hp->Prop},Z (.ref th) H9->rIxL K (.ref hh) (.int ((i:Nat):Int)) H9 Z:=fun s9 Z hZ=>⟨hh,us,_,.ref th,rfl,rfl,SqL.of (s9 _ _ hus),atI_nat eth,hZ⟩
    refine ⟨_,rfl,.inl ⟨rfl,_,SqL.of (s7 _ _ hxs)⟩,_,rfl,_,_,rfl,rfl,.inl ⟨by decide,by decide⟩,?_⟩
    refine ⟨_,rfl,_,rfl,hix s57 ⟨th,_,_,_,rfl,rfl,SqT.of (s57 _ _ hth),atI_nat (j:=0) rfl,?_⟩⟩
    refine ⟨_,rfl,_,rfl,hix s57 ⟨th,_,_,_,rfl,rfl,SqT.of (s57 _ _ hth),atI_nat (j:=1) rfl,?_⟩⟩
    refine ⟨_,rfl,_,rfl,hix s57 ⟨th,_,_,_,rfl,rfl,SqT.of (s57 _ _ hth),atI_nat (j:=2) rfl,?_⟩⟩
    obtain ⟨vs,hvs,hvl,hvat⟩:=hpl.kept s57.ls
    refine ⟨pl,vs.map V.ref,rfl,.inl ⟨SqL.of hvs,fun pt hpt=>?_⟩⟩
    have s8:=same_upd (o:=.tup (vs.map V.ref)) hpt
    refine ⟨_,rfl,(by show 6<=sizeLine;decide),fun q hq=>?_⟩
    have s9:=same_upd (o:=.tup [.str "def",.int (20*((i:Nat):Int)),.str (hdY is i).nm,.str (hdY is i).kd,.ref pt,.ref bl]) hq
    have s79:=s8.trans s9
    have hpt9:=s9 _ _ (upd_same (H:=H7) (a:=pt) (o:=.tup (vs.map V.ref)))
    have hq9:upd (upd H7 pt (.tup (vs.map V.ref))) q (.tup [.str "def",.int (20*((i:Nat):Int)),.str (hdY is i).nm,.str (hdY is i).kd,.ref pt,.ref bl]) q=some (.tup [.str "def",.int (20*((i:Nat):Int)),.str (hdY is i).nm,.str (hdY is i).kd,.ref pt,.ref bl]):=upd_same
    have hxs9:=s79 _ _ (s7 _ _ hxs)
    have hys9:=s79 _ _ hys
    have hvat9:=fun j u q x y=>s79 _ _ (hvat j u q x y)
    refine ⟨tl,xs,.ref q,rfl,rfl,hxs9,small1000' (by omega),?_⟩
    show Same H3 (upd (upd (upd H7 pt (.tup (vs.map V.ref))) q (.tup [.str "def",.int (20*((i:Nat):Int)),.str (hdY is i).nm,.str (hdY is i).kd,.ref pt,.ref bl])) tl (.lst (xs++[.ref q])))/\_
    generalize upd (upd H7 pt (.tup (vs.map V.ref))) q (.tup [.str "def",.int (20*((i:Nat):Int)),.str (hdY is i).nm,.str (hdY is i).kd,.ref pt,.ref bl])=H9 at s79 hpt9 hq9 hxs9 hys9 hvat9 ⊢
    refine ⟨same_open (s57.trans s79) htl,⟨xs++[.ref q],upd_same,by simp [hxl],?_⟩,_,_,_,_,rfl⟩
    have mu:Same (msk H9 [tl]) (msk (upd H9 tl (.lst (xs++[.ref q]))) [tl]):=msk_upd (by simp)
    have tp:TupS H9 (msk H9 [tl]):=fun b xs' hb=>by
     rw [msk_no fun z=>?_]
     ·exact hb
     ·rw [List.mem_singleton.mp z,hxs9] at hb;cases hb
    have hbt:bl≠tl:=fun z=>by rw [z,hxs] at hbl;cases hbl
    have hbm:msk H9 [tl] bl=some (.lst ys):=by rw [msk_no (by simpa using hbt)];exact hys9
    have hLb:LAt (msk H9 [tl]) false ys (bodX is i (hdY is i)):=hL7.kept (msk_le (M:=[tl,bl]) (M':=[tl]) (fun b hb=>.inl (by simp at hb;simp [hb])) fun b o _ h=>s79 _ _ h).ls
    have hdf:SAt (msk H9 [tl]) false (.ref q) (defX is i):=.mk (tp _ _ hq9) (.cons (.s _) (.cons (.i (20*i)) (.cons (.s _) (.cons (.s _) (.cons (.p ⟨pt,vs,rfl,tp _ _ hpt9,hvl,fun j u q x y=>tp _ _ (hvat9 j u q x y)⟩) (.cons (.b hbm hLb) .nil))))))
    rw [List.range_succ,List.map_append]
    exact (hL5.kept ((msk_same (s7.trans s79)).trans mu).ls).snoc (.plain rfl (hdf.kept mu.ls))
   ·rintro σ' H5 ⟨s5,h5,x3',x5,x6,x7,rfl⟩
    exact hR _ _ ⟨s5,h5,_,_,_,_,rfl⟩
  rintro σ' H5 ⟨s5,⟨xs,hxs,hxl,hL5⟩,x3',x5,x6,x7,rfl⟩
  refine cut_for (fun σ' H'=>Same H3 H'/\(∃ xs:List V,H' tl=some (.lst xs)/\LAt (msk H' [tl]) false xs (treeX is))/\∃ x3 x5 x6 x7 x8 x9,σ'=[some (.ref a),some (.ref pn),some (.ref hh),x3,some (.ref tl),x5,x6,x7,x8,x9]) (fun R hR=>?_) ?_
  ·refine ⟨_,rfl,_,rfl,_,rfl,a,_,rfl,s5.ls.seq hS3,fun pc hpc=>?_⟩
   have ec:cutV (is.map V.int) (some 5) (some 13)=((is.drop 5).take 8).map V.int:=cut_513 is
   rw [ec]
   refine ⟨pc,_,rfl,SqL.of upd_same,?_⟩
   have s6:=same_upd (o:=.lst (((is.drop 5).take 8).map V.int)) hpc
   have h6:upd H5 pc (.lst (((is.drop 5).take 8).map V.int)) pc=some (.lst (((is.drop 5).take 8).map V.int)):=upd_same
   generalize upd H5 pc (.lst (((is.drop 5).take 8).map V.int))=H6 at s6 h6 ⊢
   have hcl:((is.drop 5).take 8).length<=8:=by rw [List.length_take];omega
   have etr:treeX is=(List.range (hnX is)).map (defX is)++((is.drop 5).take 8).mapIdx (telX is):=rfl
   generalize (is.drop 5).take 8=cs at h6 hcl etr ⊢
   have hpt:pc≠tl:=fun z=>by rw [z,hxs] at hpc;cases hpc
   refine for_enum (K:=K) (a:=pc) (xs:=cs.map V.int) (D:=⟨R,_,R,R⟩) (fun i σ' H'=>Same H3 H'/\H' pc=some (.lst (cs.map V.int))/\i<=8/\(∃ xs:List V,H' tl=some (.lst xs)/\xs.length=hnX is+i/\LAt (msk H' [tl]) false xs ((List.range (hnX is)).map (defX is)++(cs.take i).mapIdx (telX is)))/\∃ x3 x5 x6 x7 x8 x9,σ'=[some (.ref a),some (.ref pn),some (.ref hh),x3,some (.ref tl),x5,x6,x7,x8,x9]) ⟨s5.trans s6,h6,Nat.zero_le _,⟨xs,s6 _ _ hxs,by omega,by simpa using hL5.kept (msk_same s6).ls⟩,_,_,_,_,_,_,rfl⟩ (fun i σ' H' _ h=>SqL.of h.2.1) ?_ ?_
   ·rintro i x σ' H7 t hx ⟨s7,hpc7,_,⟨xs,hxs,hxl,hL⟩,y3,y5,y6,y7,y8,y9,rfl⟩ ht
    have hi:i<cs.length:=by
     have:=(List.getElem?_eq_some_iff.mp hx).1
     simpa using this
    have ex:x=V.int cs[i]:=by rw [List.getElem?_map,List.getElem?_eq_getElem hi] at hx;exact (Option.some.inj hx).symm
    subst ex
    have st:=same_upd (o:=.tup [V.int ((i:Nat):Int),V.int cs[i]]) ht
    have hT:upd H7 t (.tup [V.int ((i:Nat):Int),V.int cs[i]]) t=some (.tup [V.int ((i:Nat):Int),V.int cs[i]]):=upd_same
    generalize upd H7 t (.tup [V.int ((i:Nat):Int),V.int cs[i]])=H8 at st hT ⊢
    refine ⟨t,_,rfl,SqT.of hT,rfl,_,_,rfl,_,_,rfl,rfl,?_⟩
    refine ⟨_,rfl,_,rfl,cs[i],((i:Nat):Int),rfl,Nat.zero_le _,fun pe hpe=>?_⟩
    have s9:=st.trans (same_upd (o:=.lst []) hpe)
    have s39:=s7.trans s9
    refine ⟨_,rfl,mixI cs[i] ((i:Nat):Int),pe,hh,[],hdsX is,3,rfl,mixI_nn _ _,mixI_lt _ _,⟨[],upd_same,rfl,fun j u q x=>by simp at x⟩,fun q hq=>(by simp at hq),by simp,hH3.kept s39.ls,⟨hk0,hk3,hkp⟩,by omega,fun v H9 s10 hE=>?_⟩
    dsimp only [gName]
    have sA:=s9.trans s10
    refine ⟨_,rfl,.inl ⟨rfl,_,SqL.of (sA _ _ hxs)⟩,_,rfl,_,_,rfl,rfl,_,rfl,(by show 3<=sizeLine;decide),fun q hq=>?_⟩
    have s11:=same_upd (o:=.tup [.str "tell",.int (100+((i:Nat):Int)),v]) hq
    have hq11:upd H9 q (.tup [.str "tell",.int (100+((i:Nat):Int)),v]) q=some (.tup [.str "tell",.int (100+((i:Nat):Int)),v]):=upd_same
    have sB:=sA.trans s11
    have hxs11:=sB _ _ hxs
    have hpc11:=sB _ _ hpc7
    have hE11:=hE.kept s11.ls.1
    refine ⟨tl,xs,.ref q,rfl,rfl,hxs11,small1000' (by omega),?_⟩
    show Same H3 (upd (upd H9 q (.tup [.str "tell",.int (100+((i:Nat):Int)),v])) tl (.lst (xs++[.ref q])))/\_
    generalize upd H9 q (.tup [.str "tell",.int (100+((i:Nat):Int)),v])=H10 at s11 hq11 sB hxs11 hpc11 hE11 ⊢
    refine ⟨same_open (s7.trans sB) htl,by rw [upd_ne hpt];exact hpc11,by omega,⟨xs++[.ref q],upd_same,by simp;omega,?_⟩,_,_,_,_,_,_,rfl⟩
    have mu:Same (msk H10 [tl]) (msk (upd H10 tl (.lst (xs++[.ref q]))) [tl]):=msk_upd (by simp)
    have tp:TupS H10 (msk H10 [tl]):=fun b xs' hb=>by
     rw [msk_no fun z=>?_]
     ·exact hb
     ·rw [List.mem_singleton.mp z,hxs11] at hb;cases hb
    have e:(cs.take (i+1)).mapIdx (telX is)=(cs.take i).mapIdx (telX is)++[telX is i cs[i]]:=by
     rw [List.take_succ_eq_append_getElem hi,List.mapIdx_append]
     simp [List.length_take,Nat.min_eq_left (Nat.le_of_lt hi)]
    have hdf:SAt (msk H10 [tl]) false (.ref q) (telX is i cs[i]):=.mk (tp _ _ hq11) (.cons (.s _) (.cons (.i (100+i)) (.cons (.e (hE11.kept tp)) .nil)))
    rw [e,<- List.append_assoc]
    exact (hL.kept ((msk_same sB).trans mu).ls).snoc (.plain rfl (hdf.kept mu.ls))
   ·rintro σ' H7 ⟨s7,_,_,⟨xs,hxs,hxl,hL⟩,y3,y5,y6,y7,y8,y9,rfl⟩
    rw [List.length_map,List.take_length,<- etr] at hL
    exact hR _ _ ⟨s7,⟨xs,hxs,hL⟩,_,_,_,_,_,_,rfl⟩
  rintro σ' H7 ⟨s7,⟨xs,hxs,hL⟩,y3,y5,y6,y7,y8,y9,rfl⟩
  refine ⟨_,rfl,_,rfl,(by show 2<=sizeLine;decide),fun t ht=>?_⟩
  have s8:=same_upd (o:=.tup [.ref tl,.ref hh]) ht
  exact kq t tl hh xs _ (((s1.trans s3).trans s7).trans s8) upd_same (s8 _ _ hxs) ((hL.kept (msk_in _ _).ls).kept s8.ls) (hH3.kept (s7.trans s8).ls)
end
section
variable {P:Program} {w:World} {K:PySem.W.Frag} {mg:Str->Option Value} {base:Heap} {AA:Adr} {DD:Fds}
mutual
noncomputable def AscE:Ex->Prop
 | .num _=>True
 | .truth z=>Asc z
 | .name z=>Asc z
 | .not e=>AscE e
 | .op w a b=>Asc w/\AscE a/\AscE b
 | .of _ _=>False
 | .many w z es=>Asc w/\Asc z/\AscL es
noncomputable def AscL:List Ex->Prop
 | []=>True
 | e::es=>AscE e/\AscL es
end
mutual
noncomputable def exD:Ex->PyData
 | .num n=>.tuple [.str "num",.int n]
 | .truth z=>.tuple [.str "truth",.str z]
 | .name z=>.tuple [.str "name",.str z]
 | .not e=>.tuple [.str "not",exD e]
 | .op w a b=>.tuple [.str w,exD a,exD b]
 | .of _ _=>.none
 | .many w z es=>.tuple [.str w,.str z,.tuple (exsD es)]
noncomputable def exsD:List Ex->List PyData
 | []=>[]
 | e::es=>exD e::exsD es
end
mutual
theorem ex_rdv {K:PySem.W.Frag} {H:Hp}:∀ {e:Ex} {v:V},AscE e->ExAt H v e->Rdv K H v (exD e)
 | .num n,v,_,h=>by cases h with | num h=>rw [exD];exact .tup (SqT.of h) (.cons (.str _) (.cons (.int _) .nil))
 | .truth z,v,_,h=>by cases h with | truth h=>rw [exD];exact .tup (SqT.of h) (.cons (.str _) (.cons (.str _) .nil))
 | .name z,v,_,h=>by cases h with | name h=>rw [exD];exact .tup (SqT.of h) (.cons (.str _) (.cons (.str _) .nil))
 | .not e,v,p,h=>by cases h with | not h a=>rw [exD];exact .tup (SqT.of h) (.cons (.str _) (.cons (ex_rdv (by simpa only [AscE] using p) a) .nil))
 | .op w a b,v,p,h=>by
  rw [AscE] at p
  cases h with | op h x y=>rw [exD];exact .tup (SqT.of h) (.cons (.str _) (.cons (ex_rdv p.2.1 x) (.cons (ex_rdv p.2.2 y) .nil)))
 | .of _ _,v,p,_=>by rw [AscE] at p;exact p.elim
 | .many w z es,v,p,h=>by
  rw [AscE] at p
  cases h with | many h l a=>rw [exD];exact .tup (SqT.of h) (.cons (.str _) (.cons (.str _) (.cons (.tup (SqT.of l) (exs_rdv p.2.2 a)) .nil)))
theorem exs_rdv {K:PySem.W.Frag} {H:Hp}:∀ {es:List Ex} {vs:List V},AscL es->ExsAt H vs es->RdvA K H vs (exsD es)
 | [],_,_,h=>by cases h;rw [exsD];exact .nil
 | e::es,_,p,h=>by
  rw [AscL] at p
  cases h with | cons a b=>rw [exsD];exact .cons (ex_rdv p.1 a) (exs_rdv p.2 b)
end
theorem lit_shd {n:Nat} {z:Str} (h:Asc z):Shd n (.str z):=(Shd.str h).up (Nat.zero_le _)
mutual
theorem ex_shd:∀ (e:Ex),AscE e->Shd (2*e.deep+1) (exD e)
 | .num n,_=>by
  rw [exD]
  refine (Shd.tuple (n:=0) fun d hd=>?_).up (by omega)
  simp only [List.mem_cons,List.not_mem_nil,or_false] at hd
  rcases hd with rfl | rfl
  ·exact .str (by decide +kernel)
  ·exact .int _
 | .truth z,h=>by
  rw [AscE] at h
  rw [exD]
  refine (Shd.tuple (n:=0) fun d hd=>?_).up (by omega)
  simp only [List.mem_cons,List.not_mem_nil,or_false] at hd
  rcases hd with rfl | rfl
  ·exact .str (by decide +kernel)
  ·exact .str h
 | .name z,h=>by
  rw [AscE] at h
  rw [exD]
  refine (Shd.tuple (n:=0) fun d hd=>?_).up (by omega)
  simp only [List.mem_cons,List.not_mem_nil,or_false] at hd
  rcases hd with rfl | rfl
  ·exact .str (by decide +kernel)
  ·exact .str h
 | .not e,h=>by
  rw [AscE] at h
  have ih:=ex_shd e h
  rw [exD]
  refine (Shd.tuple (n:=2*e.deep+1) fun d hd=>?_).up (by rw [Ex.deep];omega)
  simp only [List.mem_cons,List.not_mem_nil,or_false] at hd
  rcases hd with rfl | rfl
  ·exact lit_shd (by unfold Asc;decide +kernel)
  ·exact ih
 | .op w a b,h=>by
  rw [AscE] at h
  have i1:=ex_shd a h.2.1
  have i2:=ex_shd b h.2.2
  rw [exD]
  refine (Shd.tuple (n:=2*(max a.deep b.deep)+1) fun d hd=>?_).up (by rw [Ex.deep];omega)
  simp only [List.mem_cons,List.not_mem_nil,or_false] at hd
  rcases hd with rfl | rfl | rfl
  ·exact lit_shd h.1
  ·exact i1.up (by omega)
  ·exact i2.up (by omega)
 | .of _ _,h=>by rw [AscE] at h;exact h.elim
 | .many w z es,h=>by
  rw [AscE] at h
  have ih:=exs_shd es h.2.2
  rw [exD]
  refine (Shd.tuple (n:=2*deepL es+2) fun d hd=>?_).up (by rw [Ex.deep];omega)
  simp only [List.mem_cons,List.not_mem_nil,or_false] at hd
  rcases hd with rfl | rfl | rfl
  ·exact lit_shd h.1
  ·exact lit_shd h.2.1
  ·exact Shd.tuple ih
theorem exs_shd:∀ (es:List Ex),AscL es->∀ d∈exsD es,Shd (2*deepL es+1) d
 | [],_,d,h=>by simp [exsD] at h
 | e::es,p,d,h=>by
  rw [AscL] at p
  have i1:=ex_shd e p.1
  have i2:=exs_shd es p.2
  rw [exsD] at h
  rw [deepL]
  rcases List.mem_cons.mp h with rfl | h
  ·exact i1.up (by omega)
  ·exact (i2 d h).up (by omega)
end
theorem goodL_of:∀ {es:List Ex},(∀ e∈es,e.good)->goodL es
 | [],_=>trivial
 | e::es,h=>⟨h e (by simp),goodL_of fun x hx=>h x (by simp [hx])⟩
theorem dosL_of:∀ {es:List Ex},(∀ e∈es,e.dos)->dosL es
 | [],_=>trivial
 | e::es,h=>⟨h e (by simp),dosL_of fun x hx=>h x (by simp [hx])⟩
theorem WfL_of {ps:List (Str × Str)} {hs:List HD}:∀ {es:List Ex},(∀ e∈es,WfE ps hs e)->WfL ps hs es
 | [],_=>trivial
 | e::es,h=>⟨h e (by simp),WfL_of fun x hx=>h x (by simp [hx])⟩
theorem AscL_of:∀ {es:List Ex},(∀ e∈es,AscE e)->AscL es
 | [],_=>trivial
 | e::es,h=>⟨h e (by simp),AscL_of fun x hx=>h x (by simp [hx])⟩
theorem deepL_le {d:Nat}:∀ {es:List Ex},(∀ e∈es,e.deep<=d)->deepL es<=d
 | [],_=>by simp [deepL]
 | e::es,h=>by
  have h1:=h e (by simp)
  have h2:=deepL_le (es:=es) fun x hx=>h x (by simp [hx])
  rw [deepL];omega
noncomputable def HdGood (hs:List HD):Prop:=∀ h∈hs,fstH hs h.nm=some h/\h.ps.length<=3/\Asc h.nm
structure ExOk (ps:List (Str × Str)) (hs:List HD) (d:Nat) (e:Ex):Prop where
 dp:e.deep<=d
 gd:e.good
 ds:e.dos
 wf:WfE ps hs e
 ac:AscE e
theorem getD_in {ns:List Str} {j:Nat} (h:j<ns.length):ns.getD j ""∈ns:=by
 rw [List.getD_eq_getElem?_getD,List.getElem?_eq_getElem h]
 exact List.getElem_mem h
theorem yn_asc:∀ z∈yn2,Asc z:=by unfold Asc;decide +kernel
theorem ops_asc:∀ z∈ops7,Asc z:=by unfold Asc;decide +kernel
theorem do_asc:Asc "do":=by unfold Asc;decide +kernel
theorem fstP_mem {ps:List (Str × Str)} {q:Str × Str} (h:q∈ps):∃ q',fstP ps q.1=some q':=by
 cases e:fstP ps q.1 with
 | some q'=>exact ⟨q',rfl⟩
 | none =>
  have:=List.find?_eq_none.mp e q h
  simp at this
theorem leafG_ok {ps:List (Str × Str)} (hs:List HD) (d:Nat) (hp:AscP ps) (x:Int):ExOk ps hs d (leafG ps x):=by
 unfold leafG
 split
 ·rename_i h
  have hl:0<ps.length:=List.length_pos_iff.mpr h.2
  obtain ⟨j,ej,hj⟩:=modN (a:=x / 14) (n:=ps.length) hl
  rw [ej,Int.toNat_natCast,List.getD_eq_getElem?_getD,List.getElem?_eq_getElem hj]
  have hm:ps[j]∈ps:=List.getElem_mem hj
  exact ⟨Nat.zero_le _,trivial,trivial,fstP_mem hm,(hp _ hm).1⟩
 ·split
  ·exact ⟨Nat.zero_le _,trivial,trivial,trivial,getD_asc yn_asc _⟩
  ·exact ⟨Nat.zero_le _,trivial,trivial,trivial,trivial⟩
theorem hdX_mem {hs:List HD} (h0:hs≠[]) (x:Int):hdX hs x∈hs:=by
 have hl:0<hs.length:=List.length_pos_iff.mpr h0
 obtain ⟨j,ej,hj⟩:=modN (a:=x / 14) (n:=hs.length) hl
 unfold hdX
 rw [ej,Int.toNat_natCast,List.getD_eq_getElem?_getD,List.getElem?_eq_getElem hj]
 exact List.getElem_mem hj
theorem ExOk.up {ps:List (Str × Str)} {hs:List HD} {d d':Nat} {e:Ex} (h:ExOk ps hs d e) (hd:d<=d'):ExOk ps hs d' e:=⟨Nat.le_trans h.dp hd,h.gd,h.ds,h.wf,h.ac⟩
theorem exG_ok {ps:List (Str × Str)} {hs:List HD} (hp:AscP ps) (h0:hs≠[]) (hg:HdGood hs):∀ (d:Nat) (x:Int),ExOk ps hs d (exG ps hs d x)
 | 0,x=>leafG_ok hs 0 hp x
 | d+1,x=>by
  rw [exG]
  split
  ·exact leafG_ok hs _ hp x
  ·split
   ·have h:=exG_ok hp h0 hg d (mixI x 1)
    exact ⟨by have:=h.dp;rw [Ex.deep];omega,h.gd,h.ds,h.wf,h.ac⟩
   ·split
    ·have hm:=hdX_mem h0 x
     obtain ⟨hf,h3,ha⟩:=hg _ hm
     have hh:∀ e∈(List.range (hdX hs x).ps.length).map fun k=>exG ps hs d (mixI x (2+((k:Nat):Int))),ExOk ps hs d e:=fun e he=>by
      obtain ⟨k,_,rfl⟩:=List.mem_map.mp he
      exact exG_ok hp h0 hg d _
     refine ⟨?_,⟨.inl rfl,by simp;omega,goodL_of fun e he=>(hh e he).gd⟩,⟨rfl,dosL_of fun e he=>(hh e he).ds⟩,⟨rfl,⟨_,hf,by simp⟩,WfL_of fun e he=>(hh e he).wf⟩,⟨do_asc,ha,AscL_of fun e he=>(hh e he).ac⟩⟩
     have:=deepL_le fun e he=>(hh e he).dp
     rw [Ex.deep];omega
    ·have h1:=exG_ok hp h0 hg d (mixI x 2)
     have h2:=exG_ok hp h0 hg d (mixI x 3)
     have hw:ops7.getD (x / 14 % 7).toNat ""∈ops7:=getD_in (by show (x / 14 % 7).toNat<7;omega)
     exact ⟨by have:=h1.dp;have:=h2.dp;rw [Ex.deep];omega,⟨hw,h1.gd,h2.gd⟩,⟨hw,h1.ds,h2.ds⟩,⟨hw,h1.wf,h2.wf⟩,⟨ops_asc _ hw,h1.ac,h2.ac⟩⟩
theorem hdY_nm {is:List Int} {k:Nat} (hk:k<6):(hdY is k).nm=nmO (mixI (cellI is 0) 9) k:=names_getD hk
theorem find_own {α:Type} {p:α->Bool}:∀ {l:List α} {i:Nat} {x:α},l[i]?=some x->p x=true->(∀ j y,j<i->l[j]?=some y->p y=false)->l.find? p=some x
 | y::l,0,x,h,hp,_=>by
  cases (show some y=some x from h)
  rw [List.find?_cons,hp]
 | y::l,i+1,x,h,hp,hn=>by
  rw [List.find?_cons,hn 0 y (by omega) rfl]
  exact find_own (l:=l) (i:=i) h hp fun j z hj hz=>hn (j+1) z (by omega) hz
theorem hds_good (is:List Int):HdGood (hdsX is):=fun h hh=>by
 obtain ⟨_,hkl,hkg⟩:=hds_ok is
 have hn:=hn_le is
 unfold hdsX at hh
 obtain ⟨k,hk,rfl⟩:=List.mem_map.mp hh
 have hk:k<hnX is:=List.mem_range.mp hk
 refine ⟨find_own (hkg k hk) (decide_eq_true rfl) fun j y hj hy=>?_,(hdY_ok is k).1,?_⟩
 ·rw [hkg j (by omega)] at hy
  cases hy
  refine decide_eq_false fun z=>?_
  rw [hdY_nm (by omega),hdY_nm (by omega)] at z
  have:=nmO_inj (by omega) (by omega) z
  omega
 ·exact getD_asc (names_asc _) _
mutual
noncomputable def trD:Tr->PyData
 | .set r n e=>.tuple [.str "set",.int ((r:Nat):Int),.str n,exD e]
 | .tell r e=>.tuple [.str "tell",.int ((r:Nat):Int),exD e]
 | .iff r e b o=>.tuple [.str "if",.int ((r:Nat):Int),exD e,.list (trsD b),.list (trsD o)]
 | .whl r e b=>.tuple [.str "while",.int ((r:Nat):Int),exD e,.list (trsD b)]
 | .give r e=>.tuple [.str "give",.int ((r:Nat):Int),exD e]
 | .df r n k ps b=>.tuple [.str "def",.int ((r:Nat):Int),.str n,.str k,.tuple (ps.map prD1),.list (trsD b)]
 | .kd r n ps=>.tuple [.str "kind",.int ((r:Nat):Int),.str n,.tuple (ps.map prD1)]
noncomputable def trsD:List Tr->List PyData
 | []=>[]
 | t::ts=>trD t::trsD ts
end
mutual
noncomputable def AscT:Tr->Prop
 | .set _ n e=>Asc n/\AscE e/\e.deep<=3
 | .tell _ e=>AscE e/\e.deep<=3
 | .iff _ e b o=>(AscE e/\e.deep<=3)/\AscTs b/\AscTs o
 | .whl _ e b=>(AscE e/\e.deep<=3)/\AscTs b
 | .give _ e=>AscE e/\e.deep<=3
 | .df _ n k ps b=>Asc n/\Asc k/\AscP ps/\AscTs b
 | .kd _ n ps=>Asc n/\AscP ps
noncomputable def AscTs:List Tr->Prop
 | []=>True
 | t::ts=>AscT t/\AscTs ts
end
noncomputable def ptD:Part->PyData
 | .s z=>.str z
 | .i n=>.int ((n:Nat):Int)
 | .e x=>exD x
 | .b ts=>.list (trsD ts)
 | .p ps=>.tuple (ps.map prD1)
noncomputable def ptA:Part->Prop
 | .s z=>Asc z
 | .i _=>True
 | .e x=>AscE x/\x.deep<=3
 | .b ts=>AscTs ts
 | .p ps=>AscP ps
theorem trD_parts (t:Tr):trD t=.tuple (t.parts.map ptD):=by cases t<;>simp [trD,Tr.parts,ptD]
theorem word_asc:∀ z∈(["set","tell","if","while","give","def","kind"]:List Str),Asc z:=by unfold Asc;decide +kernel
theorem AscT.parts {t:Tr} (h:AscT t):∀ p∈t.parts,ptA p:=by
 cases t<;>(rw [AscT] at h;intro p hp;simp only [Tr.parts,List.mem_cons,List.not_mem_nil,or_false] at hp)
 ·rcases hp with rfl | rfl | rfl | rfl
  ·exact word_asc _ (by simp)
  ·trivial
  ·exact h.1
  ·exact h.2
 ·rcases hp with rfl | rfl | rfl
  ·exact word_asc _ (by simp)
  ·trivial
  ·exact h
 ·rcases hp with rfl | rfl | rfl | rfl | rfl
  ·exact word_asc _ (by simp)
  ·trivial
  ·exact h.1
  ·exact h.2.1
  ·exact h.2.2
 ·rcases hp with rfl | rfl | rfl | rfl
  ·exact word_asc _ (by simp)
  ·trivial
  ·exact h.1
  ·exact h.2
 ·rcases hp with rfl | rfl | rfl
  ·exact word_asc _ (by simp)
  ·trivial
  ·exact h
 ·rcases hp with rfl | rfl | rfl | rfl | rfl | rfl
  ·exact word_asc _ (by simp)
  ·trivial
  ·exact h.1
  ·exact h.2.1
  ·exact h.2.2.1
  ·exact h.2.2.2
 ·rcases hp with rfl | rfl | rfl | rfl
  ·exact word_asc _ (by simp)
  ·trivial
  ·exact h.1
  ·exact h.2
mutual
theorem tr_rdv {K:PySem.W.Frag} {H:Hp}:∀ {v:V} {t:Tr},SAt H false v t->AscT t->Rdv K H v (trD t)
 | _,t,.mk h a,p=>by rw [trD_parts];exact .tup (SqT.of h) (ps_rdv a p.parts)
theorem ps_rdv {K:PySem.W.Frag} {H:Hp}:∀ {vs:List V} {ps:List Part},PsAt H false vs ps->(∀ p∈ps,ptA p)->RdvA K H vs (ps.map ptD)
 | _,_,.nil,_=>.nil
 | _,_,.cons a b,p=>.cons (pt_rdv a (p _ (by simp))) (ps_rdv b fun x hx=>p x (by simp [hx]))
theorem pt_rdv {K:PySem.W.Frag} {H:Hp}:∀ {v:V} {x:Part},PAt H false v x->ptA x->Rdv K H v (ptD x)
 | _,_,.s z,_=>.str z
 | _,_,.i n,_=>.int _
 | _,_,.e a,p=>ex_rdv p.1 a
 | _,_,.b l a,p=>.lst (SqL.of l) (trs_rdv a p)
 | _,_,.p ⟨t,us,e,h,hl,hat⟩,_=>by rw [e];exact .tup (SqT.of h) (pr_rdv hl hat)
theorem trs_rdv {K:PySem.W.Frag} {H:Hp}:∀ {vs:List V} {ts:List Tr},LAt H false vs ts->AscTs ts->RdvA K H vs (trsD ts)
 | _,_,.nil,_=>by rw [trsD];exact .nil
 | _,_,.cons a b,p=>by
  rw [AscTs] at p
  rw [trsD];exact .cons (o_rdv a p.1) (trs_rdv b p.2)
theorem o_rdv {K:PySem.W.Frag} {H:Hp}:∀ {v:V} {t:Tr},OAt H false v t->AscT t->Rdv K H v (trD t)
 | _,_,.plain _ a,p=>tr_rdv a p
 | _,_,.shared e _ _,_=>by cases e
end
theorem part_size {t:Tr} {ts:List Tr} (h:Part.b ts∈t.parts):sizeOf ts<sizeOf t:=by
 cases t with
 | set r n e=>simp [Tr.parts] at h
 | tell r e=>simp [Tr.parts] at h
 | iff r e b o=>simp [Tr.parts] at h;rcases h with h | h<;>subst h<;>simp<;>omega
 | whl r e b=>simp [Tr.parts] at h;subst h;simp;omega
 | give r e=>simp [Tr.parts] at h
 | df r n k ps b=>simp [Tr.parts] at h;subst h;simp;omega
 | kd r n ps=>simp [Tr.parts] at h
mutual
theorem tr_shd:∀ (t:Tr),AscT t->Shd (2*t.deep+9) (trD t)
 | t,p=>by
  rw [trD_parts]
  refine Shd.tuple (n:=2*t.deep+8) fun d hd=>?_
  obtain ⟨x,hx,rfl⟩:=List.mem_map.mp hd
  have hpx:=p.parts x hx
  cases x with
  | s z=>exact lit_shd hpx
  | i n=>exact (Shd.int _).up (Nat.zero_le _)
  | e e=>exact (ex_shd e hpx.1).up (by have:=hpx.2;omega)
  | p ps=>exact (Shd.tuple (prs_shd hpx)).up (by omega)
  | b ts =>
   have hdd:=deep_part hx
   have hsz:sizeOf ts<sizeOf t:=part_size hx
   exact (Shd.list (trs_shd ts hpx)).up (by omega)
termination_by t=>sizeOf t
theorem trs_shd:∀ (ts:List Tr),AscTs ts->∀ d∈trsD ts,Shd (2*deeps ts+7) d
 | [],_,d,h=>by simp [trsD] at h
 | t::ts,p,d,h=>by
  rw [AscTs] at p
  have hd:deeps (t::ts)=max (t.deep+1) (deeps ts):=by simp [deeps]
  rw [hd]
  rw [trsD] at h
  rcases List.mem_cons.mp h with rfl | h
  ·exact (tr_shd t p.1).up (by omega)
  ·exact (trs_shd ts p.2 d h).up (by omega)
termination_by ts=>sizeOf ts
end
theorem trs_eqv (ts:List Tr):PyData.eqv (.list (trsD ts)) (.list [])=decide (ts=[]):=by
 cases ts with
 | nil=>rw [trsD];simp [PyData.eqv];rfl
 | cons q ps=>rw [trsD];simp [PyData.eqv];rfl
end
section
variable {P:Program} {w:World} {K:PySem.W.Frag} {mg:Str->Option Value} {base:Heap} {AA:Adr} {DD:Fds}
structure RhoOk (tt:List Tr) (ps:List (Str × Str)) (hs:List HD) (ρ:Env):Prop where
 nm:∀ z q,fstP ps z=some q->ρ z=some (some q.2)
 hd:∀ z h,fstH hs z=some h->∃ t,fstT ("def",z) tt=some t/\t.knd=h.kd/\t.prs=h.ps
theorem kdX_L {tt:List Tr} {ps:List (Str × Str)} {hs:List HD} {ρ:Env} (R:RhoOk tt ps hs ρ) {e:Ex} (w:WfE ps hs e):kdX tt ρ e=some (some (kdL ps hs e)):=by
 cases e with
 | name z =>
  obtain ⟨q,hq⟩:=(show ∃ q,fstP ps z=some q from w)
  show ρ z=_
  rw [R.nm z q hq]
  simp [kdL,hq]
 | many w' z es =>
  obtain ⟨_,⟨h,hh,_⟩,_⟩:=(show w'="do"/\(∃ h,fstH hs z=some h/\es.length=h.ps.length)/\WfL ps hs es from w)
  obtain ⟨t,ht,hk,_⟩:=R.hd z h hh
  show (fstT ("def",z) tt).map _=_
  rw [ht]
  simp [kdL,hh,hk]
 | of n e=>exact w.elim
 | _=>rfl
theorem askF_L (r:Nat) (k due:Str) (fs:List (List Key)):askF r (some (some k)) due fs=if k=due then fs else addF fs (kk r "kind"):=by
 unfold askF unfN
 by_cases h:k=due<;>simp [fits,h]
theorem or_add (a b:Bool) (fs:List (List Key)) (k:List Key):(if a=true then addF (if b=true then addF fs k else fs) k else (if b=true then addF fs k else fs))=if (a||b)=true then addF fs k else fs:=by
 cases a<;>cases b<;>simp [addF_in (addF_has _ _)]
theorem ask_or (r:Nat) (k due:Str) (b:Bool) (fs:List (List Key)):askF r (some (some k)) due (if b=true then addF fs (kk r "kind") else fs)=if (!decide (k=due)||b)=true then addF fs (kk r "kind") else fs:=by
 rw [askF_L,<- or_add]
 by_cases h:k=due<;>simp [h]
theorem if_or (a b:Bool) (fs:List (List Key)) (k:List Key):(if b=true then addF (if a=true then addF fs k else fs) k else (if a=true then addF fs k else fs))=if (a||b)=true then addF fs k else fs:=by
 cases a<;>cases b<;>simp [addF_in (addF_has _ _)]
mutual
theorem kfX_wr {tt:List Tr} {ps:List (Str × Str)} {hs:List HD} {ρ:Env} (R:RhoOk tt ps hs ρ) (r:Nat):∀ (e:Ex) (fs:List (List Key)),WfE ps hs e->kfX tt ρ r e fs=if wrL ps hs e=true then addF fs (kk r "kind") else fs
 | .not e,fs,w=>by
  have w:WfE ps hs e:=by simpa only [WfE] using w
  have ea:askE (.not e)="truth":=by show (ak8.lookup ("not":Str)).getD "truth"="truth";rw [ak_not];rfl
  rw [kfX,kfX_wr R r e fs w,kdX_L R w,ask_or,wrL,ea]
 | .op o a b,fs,w=>by
  rw [WfE] at w
  rw [kfX,kfX_wr R r a fs w.2.1,kdX_L R w.2.1,ask_or,kfX_wr R r b _ w.2.2,kdX_L R w.2.2,if_or,ask_or,wrL]
  congr 1
  cases wrL ps hs a<;>cases wrL ps hs b<;>cases decide (kdL ps hs a=askE (.op o a b))<;>cases decide (kdL ps hs b=askE (.op o a b))<;>rfl
 | .many o z es,fs,w=>by
  rw [WfE] at w
  obtain ⟨_,⟨h,hh,hl⟩,w⟩:=w
  obtain ⟨t,ht,_,hp⟩:=R.hd z h hh
  rw [kfX,ht]
  show kfZ tt ρ r es t.prs fs=_
  rw [hp,kfZ_wr R r es h.ps fs w hl,wrL]
  simp [dueH,hh]
 | .num _,fs,_=>by rw [kfX,wrL];rfl
 | .truth _,fs,_=>by rw [kfX,wrL];rfl
 | .name _,fs,_=>by rw [kfX,wrL];rfl
 | .of _ _,fs,w=>by rw [WfE] at w;exact w.elim
theorem kfZ_wr {tt:List Tr} {ps:List (Str × Str)} {hs:List HD} {ρ:Env} (R:RhoOk tt ps hs ρ) (r:Nat):∀ (es:List Ex) (qs:List (Str × Str)) (fs:List (List Key)),WfL ps hs es->es.length=qs.length->kfZ tt ρ r es qs fs=if wrD ps hs es (qs.map (·.2))=true then addF fs (kk r "kind") else fs
 | [],qs,fs,_,_=>by rw [kfZ,wrD];rfl
 | e::es,[],fs,_,h=>by simp at h
 | e::es,q::qs,fs,w,h=>by
  rw [WfL] at w
  rw [kfZ,kfX_wr R r e fs w.1,kdX_L R w.1,ask_or,kfZ_wr R r es qs _ w.2 (by simpa using h),if_or,List.map_cons,wrD]
  rfl
end
theorem mk_plain:∀ p∈mk10,p.2∈plainL:=by decide +kernel
theorem kdE_plain (e:Ex):kdE e∈plainL:=by
 unfold kdE
 cases h:mk10.lookup (hdE e) with
 | none=>show ("num":Str)∈plainL;simp [plainL]
 | some k=>exact mk_plain _ (PySem.mem_of_lookup h)
noncomputable def PlK (ps:List (Str × Str)) (hs:List HD):Prop:=(∀ q∈ps,q.2∈plainL)/\∀ h∈hs,h.kd∈plainL
theorem kdL_plain {ps:List (Str × Str)} {hs:List HD} (p:PlK ps hs) {e:Ex} (w:WfE ps hs e):kdL ps hs e∈plainL:=by
 cases e with
 | name z =>
  obtain ⟨q,hq⟩:=(show ∃ q,fstP ps z=some q from w)
  have:kdL ps hs (.name z)=q.2:=by simp [kdL,hq]
  rw [this]
  exact p.1 q (List.mem_of_find?_eq_some hq)
 | many w' z es =>
  obtain ⟨_,⟨h,hh,_⟩,_⟩:=(show w'="do"/\(∃ h,fstH hs z=some h/\es.length=h.ps.length)/\WfL ps hs es from w)
  have:kdL ps hs (.many w' z es)=h.kd:=by simp [kdL,hh]
  rw [this]
  exact p.2 h (List.mem_of_find?_eq_some hh)
 | _=>exact kdE_plain _
noncomputable def inn:Tr->Tr
 | .iff _ _ (g::_) _=>g
 | t=>t
noncomputable def ownK (ps:List (Str × Str)) (z:Str):Str:=((fstP ps z).map (·.2)).getD ""
noncomputable def wrB (ps:List (Str × Str)) (hs:List HD) (kd:Str):Tr->Bool
 | .give _ e=>wrL ps hs e||!decide (kdL ps hs e=kd)
 | .set _ z e=>wrL ps hs e||!decide (kdL ps hs e=ownK ps z)
 | .tell _ e=>wrL ps hs e
 | _=>false
noncomputable def dueB (ps:List (Str × Str)) (hs:List HD) (kd:Str) (t:Tr):List (List Key):=if wrB ps hs kd (inn t)=true then [kk (inn t).row "kind"] else []
inductive BRow (ps:List (Str × Str)) (hs:List HD):Tr->Prop where
 | give (r:Nat) {e:Ex}:ExOk ps hs 3 e->BRow ps hs (.give r e)
 | set (r:Nat) {z:Str} {q:Str × Str} {e:Ex}:ExOk ps hs 3 e->fstP ps z=some q->Asc z->BRow ps hs (.set r z e)
 | iff (r:Nat) {e:Ex}:ExOk ps hs 3 e->BRow ps hs (.iff r (.truth "yes") [.give (r+1) e] [])
 | tell (r:Nat) {e:Ex}:ExOk ps hs 3 e->BRow ps hs (.tell r e)
theorem if_fold (b:Bool) (fs:List (List Key)) (k:List Key):(if b=true then addF fs k else fs)=(if b=true then [k] else []).foldl addF fs:=by
 cases b<;>rfl
theorem unf_L (k due:Str):unfN [some k] due=if k=due then 0 else 1:=by
 unfold unfN
 by_cases h:k=due<;>simp [fits,h]
theorem give_B {tt:List Tr} {ps:List (Str × Str)} {hs:List HD} {ρ:Env} (R:RhoOk tt ps hs ρ) {kd:Str} (r:Nat) {e:Ex} (h:ExOk ps hs 3 e) (fs:List (List Key)):kfT tt (some kd) (.give r e) (ρ,fs)=(ρ,if wrB ps hs kd (.give r e)=true then addF fs (kk r "kind") else fs):=by
 rw [kfT]
 show (ρ,truF r (kdX tt ρ e) "kind" kd (kfX tt ρ r e fs))=_
 rw [kdX_L R h.wf,kfX_wr R r e fs h.wf]
 refine congrArg _ ?_
 unfold truF
 show (if unfN [some (kdL ps hs e)] kd=0 then _ else _)=_
 rw [unf_L]
 show _=if (wrL ps hs e||!decide (kdL ps hs e=kd))=true then _ else _
 rw [<- if_or]
 by_cases hk:kdL ps hs e=kd<;>simp [hk]
theorem tell_B {tt:List Tr} {ps:List (Str × Str)} {hs:List HD} {ρ:Env} (R:RhoOk tt ps hs ρ) (pl:PlK ps hs) {du:Kd} (r:Nat) {e:Ex} (h:ExOk ps hs 3 e) (fs:List (List Key)):kfT tt du (.tell r e) (ρ,fs)=(ρ,if wrL ps hs e=true then addF fs (kk r "kind") else fs):=by
 rw [kfT]
 show (ρ,telF r (kdX tt ρ e) (kfX tt ρ r e fs))=_
 rw [kdX_L R h.wf,kfX_wr R r e fs h.wf]
 refine congrArg _ ?_
 unfold telF
 have:=kdL_plain pl h.wf
 rw [if_neg (by simp [isRec,this])]
theorem kfT_B {tt:List Tr} {ps:List (Str × Str)} {hs:List HD} {ρ:Env} (R:RhoOk tt ps hs ρ) (pl:PlK ps hs) {kd:Str} {t:Tr} (h:BRow ps hs t) (fs:List (List Key)):kfT tt (some kd) t (ρ,fs)=(ρ,(dueB ps hs kd t).foldl addF fs):=by
 unfold dueB
 rw [<- if_fold]
 cases h with
 | give r h=>exact give_B R r h fs
 | tell r h=>exact tell_B R pl r h fs
 | @set r z q e h hq _ =>
  rw [kfT]
  show (setE ρ z (kdX tt ρ e),setF r ρ z (kdX tt ρ e) (kfX tt ρ r e fs))=_
  rw [kdX_L R h.wf,kfX_wr R r e fs h.wf]
  have hz:=R.nm z q hq
  have e1:setE ρ z (some (some (kdL ps hs e)))=ρ:=by
   funext x
   unfold setE
   split
   ·rename_i hx;rw [hx,hz]
   ·rfl
  have e2:setF r ρ z (some (some (kdL ps hs e))) (if wrL ps hs e=true then addF fs (kk r "kind") else fs)=if wrB ps hs kd (.set r z e)=true then addF fs (kk r "kind") else fs:=by
   show askF r (ρ z) (kdL ps hs e) _=if (wrL ps hs e||!decide (kdL ps hs e=ownK ps z))=true then _ else _
   have eo:ownK ps z=q.2:=by simp [ownK,hq]
   rw [hz,askF_L,eo,<- if_or]
   by_cases hk:q.2=kdL ps hs e
   ·simp [hk]
   ·rw [if_neg hk]
    have hk2:¬ kdL ps hs e=q.2:=fun z=>hk z.symm
    simp [hk2]
  rw [e1,e2];rfl
 | @iff r e h =>
  rw [kfT,kfTs,kfTs,kfTs]
  have e0:rowF tt (some kd) (.iff r (.truth "yes") [.give (r+1) e] []) (.truth "yes") (ρ,fs)=(ρ,fs):=by
   unfold rowF
   show (ρ,truF r (some (some (kdE (.truth "yes")))) "truth" "truth" (kfX tt ρ r (.truth "yes") fs))=_
   rw [kfX]
   unfold truF
   rw [show kdE (.truth "yes")="truth" from by decide +kernel]
   show (ρ,if unfN [some "truth"] "truth"=0 then fs else _)=_
   rw [unf_L];rfl
  rw [e0,give_B R (r+1) h fs];rfl
theorem kfTs_B {tt:List Tr} {ps:List (Str × Str)} {hs:List HD} {ρ:Env} (R:RhoOk tt ps hs ρ) (pl:PlK ps hs) {kd:Str}:∀ (ts:List Tr),(∀ t∈ts,BRow ps hs t)->∀ fs,kfTs tt (some kd) ts (ρ,fs)=(ρ,((ts.map (dueB ps hs kd)).flatten).foldl addF fs)
 | [],_,fs=>by rw [kfTs];rfl
 | t::ts,h,fs=>by
  rw [kfTs,kfT_B R pl (h t (by simp)) fs,kfTs_B R pl ts (fun x hx=>h x (by simp [hx]))]
  simp
theorem kfTs_tell {tt:List Tr} {hs:List HD} (R:RhoOk tt [] hs env0) (pl:PlK [] hs):∀ (ts:List Tr),(∀ t∈ts,∃ r e,t=.tell r e/\ExOk [] hs 3 e)->∀ fs,kfTs tt none ts (env0,fs)=(env0,((ts.map (dueB [] hs "")).flatten).foldl addF fs)
 | [],_,fs=>by rw [kfTs];rfl
 | t::ts,h,fs=>by
  obtain ⟨r,e,rfl,he⟩:=h t (by simp)
  rw [kfTs,tell_B R pl r he fs,kfTs_tell R pl ts (fun x hx=>h x (by simp [hx])),if_fold,List.map_cons,List.flatten_cons,List.foldl_append]
  rfl
theorem parE_out:∀ (ps:List (Str × Str)) (ρ:Env) (z:Str),(∀ q∈ps,q.1≠z)->ps.foldl (fun ρ q=>fun z=>if z=q.1 then some (some q.2) else ρ z) ρ z=ρ z
 | [],ρ,z,_=>rfl
 | q::ps,ρ,z,h=>by
  rw [List.foldl_cons,parE_out ps _ z fun x hx=>h x (by simp [hx])]
  rw [if_neg fun e=>h q (by simp) e.symm]
theorem parE_get {z:Str} {q:Str × Str}:∀ (ps:List (Str × Str)) (ρ:Env),(ps.map (·.1)).Nodup->fstP ps z=some q->ps.foldl (fun ρ q=>fun z=>if z=q.1 then some (some q.2) else ρ z) ρ z=some (some q.2)
 | [],ρ,_,h=>by simp [fstP] at h
 | p::ps,ρ,hn,h=>by
  rw [List.map_cons,List.nodup_cons] at hn
  rw [List.foldl_cons]
  unfold fstP at h
  rw [List.find?_cons] at h
  by_cases hp:p.1=z
  ·rw [decide_eq_true hp] at h
   cases (show some p=some q from h)
   rw [parE_out ps _ z fun x hx e=>hn.1 (by rw [hp,<- e];exact List.mem_map.mpr ⟨x,hx,rfl⟩)]
   rw [if_pos hp.symm]
  ·rw [decide_eq_false hp] at h
   exact parE_get ps _ hn.2 h
theorem pr_nd (x y:Int):((prG (namesF x) y).map (·.1)).Nodup:=by
 unfold prG
 rw [List.map_map]
 refine List.pairwise_map.mpr ?_
 refine List.Pairwise.imp_of_mem (R:=fun a b=>a<b) (fun {i j} hi hj hij e=>?_) List.pairwise_lt_range
 have hi:i<(y / 2 % 4).toNat:=List.mem_range.mp hi
 have hj:j<(y / 2 % 4).toNat:=List.mem_range.mp hj
 have e:(namesF x).getD (3+i) ""=(namesF x).getD (3+j) "":=e
 rw [names_getD (by omega),names_getD (by omega)] at e
 have:=nmO_inj (by omega) (by omega) e
 omega
theorem find_map {α β:Type} (p:β->Bool) (f:α->β) (l:List α):(l.map f).find? p=(l.find? fun x=>p (f x)).map f:=by
 induction l with
 | nil=>rfl
 | cons x l ih =>
  rw [List.map_cons,List.find?_cons,List.find?_cons,ih]
  cases p (f x)<;>rfl
theorem rho_ok (is:List Int) {ps:List (Str × Str)} (hp:(ps.map (·.1)).Nodup):RhoOk (treeX is) ps (hdsX is) (parE ps):=by
 refine ⟨fun z q h=>parE_get ps env0 hp h,fun z h hh=>?_⟩
 have e1:fstH (hdsX is) z=((List.range (hnX is)).find? fun k=>decide ((hdY is k).nm=z)).map (hdY is):=find_map _ _ _
 have e2:fstT ("def",z) (treeX is)=(((List.range (hnX is)).find? fun k=>decide ((defX is k).hd=some (("def":Str),z))).map (defX is)).or ((((is.drop 5).take 8).mapIdx (telX is)).find? fun t=>decide (t.hd=some (("def":Str),z))):=by
  unfold fstT treeX
  rw [List.find?_append,find_map]
 have e3:(fun k=>decide ((defX is k).hd=some ((("def":Str)),z)))=fun k=>decide ((hdY is k).nm=z):=by
  funext k
  show decide (some (("def":Str),(hdY is k).nm)=some (("def":Str),z))=_
  simp
 rw [e1] at hh
 obtain ⟨k,hk,rfl⟩:=Option.map_eq_some_iff.mp hh
 exact ⟨defX is k,by rw [e2,e3,hk];rfl,rfl,rfl⟩
theorem kin_plain (j:Nat) (h:j<2):kin2.getD j ""∈plainL:=getD_in (ns:=kin2) h
theorem hds_pl (is:List Int):(∀ h∈hdsX is,h.kd∈plainL)/\∀ k,∀ q∈(hdY is k).ps,q.2∈plainL:=by
 refine ⟨fun h hh=>?_,fun k q hq=>?_⟩
 ·unfold hdsX at hh
  obtain ⟨k,_,rfl⟩:=List.mem_map.mp hh
  refine kin_plain _ ?_
  omega
 ·have hq:q∈prG (nsX is) (mixI (cellI is (2+k)) ((k:Nat):Int)):=hq
  unfold prG at hq
  obtain ⟨j,_,rfl⟩:=List.mem_map.mp hq
  refine kin_plain _ ?_
  omega
theorem rowG_B {ps:List (Str × Str)} {hs:List HD} (hp:AscP ps) (h0:hs≠[]) (hg:HdGood hs) (x:Int) (a:Nat):BRow ps hs (rowG ps hs x a)/\(rowG ps hs x a).row=a:=by
 have he:ExOk ps hs 3 (exR ps hs x):=(exG_ok hp h0 hg _ _).up (by omega)
 unfold rowG
 split
 ·exact ⟨.give _ he,rfl⟩
 ·split
  ·rename_i h
   have hl:0<ps.length:=List.length_pos_iff.mpr h.2
   obtain ⟨j,ej,hj⟩:=modN (a:=x / 32) (n:=ps.length) hl
   rw [ej,Int.toNat_natCast,List.getD_eq_getElem?_getD,List.getElem?_eq_getElem hj]
   have hm:ps[j]∈ps:=List.getElem_mem hj
   obtain ⟨q,hq⟩:=fstP_mem hm
   exact ⟨.set _ he hq (hp _ hm).1,rfl⟩
  ·split
   ·exact ⟨.iff _ he,rfl⟩
   ·exact ⟨.tell _ he,rfl⟩
theorem bod_B (is:List Int) (k:Nat):∀ t∈bodX is k (hdY is k),BRow (hdY is k).ps (hdsX is) t:=fun t ht=>by
 unfold bodX at ht
 obtain ⟨j,_,rfl⟩:=List.mem_map.mp ht
 exact (rowG_B (hdY_ok is k).2 (hds_ok is).1.1 (hds_good is) _ _).1
noncomputable def dueD (is:List Int) (k:Nat):List (List Key):=(if givN (bodX is k (hdY is k))=0 then [kk (20*k) "give"] else [])++((bodX is k (hdY is k)).map (dueB (hdY is k).ps (hdsX is) (hdY is k).kd)).flatten
noncomputable def telL (is:List Int):List Tr:=((is.drop 5).take 8).mapIdx (telX is)
noncomputable def dueA (is:List Int):List (List Key):=((List.range (hnX is)).map (dueD is)).flatten++((telL is).map (dueB [] (hdsX is) "")).flatten
theorem kfT_def (is:List Int) (k:Nat) (fs:List (List Key)):kfT (treeX is) none (defX is k) (env0,fs)=(env0,(dueD is k).foldl addF fs):=by
 unfold defX
 rw [kfT,kfTs_B (rho_ok is (ps:=(hdY is k).ps) (pr_nd _ _)) ⟨(hds_pl is).2 k,(hds_pl is).1⟩ _ (bod_B is k)]
 unfold dueD givF
 rw [List.foldl_append]
 by_cases h:givN (bodX is k (hdY is k))=0
 ·rw [if_pos h,if_pos h];rfl
 ·rw [if_neg h,if_neg h];rfl
theorem kfTs_def (is:List Int):∀ (ks:List Nat) (fs:List (List Key)),kfTs (treeX is) none (ks.map (defX is)) (env0,fs)=(env0,((ks.map (dueD is)).flatten).foldl addF fs)
 | [],fs=>by rw [List.map_nil,kfTs];rfl
 | k::ks,fs=>by
  rw [List.map_cons,kfTs,kfT_def,kfTs_def is ks]
  simp
theorem tel_mem {is:List Int} {t:Tr} (h:t∈telL is):∃ i c,i<8/\t=telX is i c:=by
 unfold telL at h
 obtain ⟨i,hi,e⟩:=List.mem_iff_getElem.mp h
 rw [List.getElem_mapIdx] at e
 have:i<8:=by simp at hi;omega
 exact ⟨i,_,this,e.symm⟩
theorem tel_ok (is:List Int) (i:Nat) (c:Int):ExOk [] (hdsX is) 3 (exG [] (hdsX is) 3 (mixI c ((i:Nat):Int))):=exG_ok (fun q hq=>by simp at hq) (hds_ok is).1.1 (hds_good is) 3 _
theorem fK_fold (is:List Int):fK (treeX is)=(dueA is).foldl addF []:=by
 have e:treeX is=(List.range (hnX is)).map (defX is)++telL is:=rfl
 unfold fK
 rw [show kfTs (treeX is) none (treeX is) (env0,[])=kfTs (treeX is) none ((List.range (hnX is)).map (defX is)++telL is) (env0,[]) from by rw [<- e]]
 rw [kfTs_app,kfTs_def,kfTs_tell (rho_ok is (ps:=[]) (by simp)) ⟨fun q hq=>by simp at hq,(hds_pl is).1⟩ _ (fun t ht=>?_)]
 ·unfold dueA;rw [List.foldl_append]
 ·obtain ⟨i,c,_,rfl⟩:=tel_mem ht
  exact ⟨_,_,rfl,tel_ok is i c⟩
theorem addF_new {fs:List (List Key)} {k:List Key} (h:k∉fs):addF fs k=fs++[k]:=by
 unfold addF
 rw [if_neg]
 intro z
 obtain ⟨x,hx,e⟩:=List.any_eq_true.mp z
 exact h (of_decide_eq_true e ▸ hx)
theorem fold_add:∀ (ks fs:List (List Key)),ks.Nodup->(∀ k∈ks,k∉fs)->ks.foldl addF fs=fs++ks
 | [],fs,_,_=>by simp
 | k::ks,fs,hn,h=>by
  rw [List.nodup_cons] at hn
  rw [List.foldl_cons,addF_new (h k (by simp)),fold_add ks _ hn.2 fun x hx z=>?_]
  ·simp
  ·rcases List.mem_append.mp z with z | z
   ·exact h x (by simp [hx]) z
   ·exact hn.1 (by rw [<- List.mem_singleton.mp z];exact hx)
noncomputable def rk:List Key->Int
 | .inl n::_=>n
 | _=>0
theorem inn_row {ps:List (Str × Str)} {hs:List HD} {t:Tr} (h:BRow ps hs t):t.row<=(inn t).row/\(inn t).row<=t.row+1:=by
 cases h<;>simp [inn,Tr.row]
theorem dueB_rk {ps:List (Str × Str)} {hs:List HD} {kd:Str} {t:Tr} (h:BRow ps hs t) {k:List Key} (hk:k∈dueB ps hs kd t):k=kk (inn t).row "kind"/\(t.row:Int)<=rk k/\rk k<=t.row+1:=by
 unfold dueB at hk
 split at hk
 ·have e:k=kk (inn t).row "kind":=by simpa using hk
  have:=inn_row h
  refine ⟨e,?_,?_⟩<;>rw [e]<;>show _<=_<;>simp [rk,kk]<;>omega
 ·cases hk
theorem dueB_pw {ps:List (Str × Str)} {hs:List HD} {kd:Str} (t:Tr):(dueB ps hs kd t).Pairwise fun a b=>rk a<rk b:=by
 unfold dueB
 split<;>simp
theorem bod_row (is:List Int) (k j:Nat):(rowG (hdY is k).ps (hdsX is) (mixI (numX is k) ((j:Nat):Int)) (20*k+3*j+1)).row=20*k+3*j+1:=(rowG_B (hdY_ok is k).2 (hds_ok is).1.1 (hds_good is) _ _).2
theorem bod_len (is:List Int) (k:Nat):(bodX is k (hdY is k)).length<=3:=by
 unfold bodX
 simp
 omega
theorem dueD_all (is:List Int) (k:Nat):(dueD is k).Pairwise (fun a b=>rk a<rk b)/\(∀ x∈dueD is k,(∃ r w,x=kk r w/\Asc w)/\(20*k:Int)<=rk x/\rk x<20*k+20)/\(dueD is k).length<=4:=by
 have hin:∀ x∈((bodX is k (hdY is k)).map (dueB (hdY is k).ps (hdsX is) (hdY is k).kd)).flatten,(∃ r w,x=kk r w/\Asc w)/\(20*k:Int)+1<=rk x/\rk x<20*k+20:=fun x hx=>by
  obtain ⟨l,hl,hx⟩:=List.mem_flatten.mp hx
  obtain ⟨t,ht,rfl⟩:=List.mem_map.mp hl
  have hB:=bod_B is k t ht
  unfold bodX at ht
  obtain ⟨j,hj,rfl⟩:=List.mem_map.mp ht
  have hj:j<(numX is k % 4).toNat:=List.mem_range.mp hj
  obtain ⟨e,h1,h2⟩:=dueB_rk hB hx
  rw [bod_row] at h1 h2
  refine ⟨⟨_,_,e,by unfold Asc;decide +kernel⟩,?_,?_⟩<;>omega
 have hpw:(((bodX is k (hdY is k)).map (dueB (hdY is k).ps (hdsX is) (hdY is k).kd)).flatten).Pairwise fun a b=>rk a<rk b:=by
  refine List.pairwise_flatten.mpr ⟨fun l hl=>?_,?_⟩
  ·obtain ⟨t,_,rfl⟩:=List.mem_map.mp hl
   exact dueB_pw t
  ·rw [List.pairwise_map]
   unfold bodX
   rw [List.pairwise_map]
   refine List.Pairwise.imp_of_mem (R:=fun a b=>a<b) (fun {i j} hi hj hij x hx y hy=>?_) List.pairwise_lt_range
   have hBi:=(rowG_B (hdY_ok is k).2 (hds_ok is).1.1 (hds_good is) (mixI (numX is k) ((i:Nat):Int)) (20*k+3*i+1))
   have hBj:=(rowG_B (hdY_ok is k).2 (hds_ok is).1.1 (hds_good is) (mixI (numX is k) ((j:Nat):Int)) (20*k+3*j+1))
   obtain ⟨_,_,h2⟩:=dueB_rk hBi.1 hx
   obtain ⟨_,h3,_⟩:=dueB_rk hBj.1 hy
   rw [hBi.2] at h2
   rw [hBj.2] at h3
   omega
 have hlen:(((bodX is k (hdY is k)).map (dueB (hdY is k).ps (hdsX is) (hdY is k).kd)).flatten).length<=3:=by
  have hb:=bod_len is k
  have go:∀ ts:List Tr,((ts.map (dueB (hdY is k).ps (hdsX is) (hdY is k).kd)).flatten).length<=ts.length:=fun ts=>by
   induction ts with
   | nil=>simp
   | cons t ts ih =>
    have:(dueB (hdY is k).ps (hdsX is) (hdY is k).kd t).length<=1:=by unfold dueB;split<;>simp
    simp only [List.map_cons,List.flatten_cons,List.length_append,List.length_cons]
    omega
  exact Nat.le_trans (go _) hb
 unfold dueD
 refine ⟨?_,fun x hx=>?_,?_⟩
 ·rw [List.pairwise_append]
  refine ⟨by split<;>simp,hpw,fun x hx y hy=>?_⟩
  obtain ⟨_,h1,_⟩:=hin y hy
  split at hx
  ·rw [List.mem_singleton.mp hx]
   show ((20*k:Nat):Int)<_
   omega
  ·cases hx
 ·rcases List.mem_append.mp hx with hx | hx
  ·split at hx
   ·rw [List.mem_singleton.mp hx]
    refine ⟨⟨_,_,rfl,by unfold Asc;decide +kernel⟩,?_,?_⟩<;>show _<;>simp [rk,kk]<;>omega
   ·cases hx
  ·obtain ⟨a,b,c⟩:=hin x hx
   exact ⟨a,by omega,c⟩
 ·rw [List.length_append]
  have:(if givN (bodX is k (hdY is k))=0 then [kk (20*k) "give"] else []).length<=1:=by split<;>simp
  omega
end
section
variable {P:Program} {w:World} {K:PySem.W.Frag} {mg:Str->Option Value} {base:Heap} {AA:Adr} {DD:Fds}
theorem tel_B (is:List Int) (i:Nat) (c:Int):BRow [] (hdsX is) (telX is i c)/\(telX is i c).row=100+i:=⟨.tell _ (tel_ok is i c),rfl⟩
theorem mapIdx_rng {α β:Type} (f:Nat->α->β) (d:α) (l:List α):l.mapIdx f=(List.range l.length).map fun i=>f i (l.getD i d):=by
 apply List.ext_getElem
 ·simp
 ·intro i h1 h2
  simp only [List.getElem_mapIdx,List.getElem_map,List.getElem_range]
  have:i<l.length:=by simpa using h1
  rw [List.getD_eq_getElem?_getD,List.getElem?_eq_getElem this];rfl
theorem telL_rng (is:List Int):telL is=(List.range ((is.drop 5).take 8).length).map fun i=>telX is i (((is.drop 5).take 8).getD i 0):=mapIdx_rng _ _ _
theorem dueA_all (is:List Int):(dueA is).Pairwise (fun a b=>rk a<rk b)/\(∀ x∈dueA is,∃ r w,x=kk r w/\Asc w)/\(dueA is).length<=20:=by
 have hn:=hn_le is
 have h8:((is.drop 5).take 8).length<=8:=by rw [List.length_take];omega
 have p1:(((List.range (hnX is)).map (dueD is)).flatten).Pairwise fun a b=>rk a<rk b:=by
  refine List.pairwise_flatten.mpr ⟨fun l hl=>?_,?_⟩
  ·obtain ⟨k,_,rfl⟩:=List.mem_map.mp hl
   exact (dueD_all is k).1
  ·rw [List.pairwise_map]
   refine List.Pairwise.imp_of_mem (R:=fun a b=>a<b) (fun {i j} hi hj hij x hx y hy=>?_) List.pairwise_lt_range
   obtain ⟨_,_,h2⟩:=(dueD_all is i).2.1 x hx
   obtain ⟨_,h3,_⟩:=(dueD_all is j).2.1 y hy
   omega
 have m1:∀ x∈((List.range (hnX is)).map (dueD is)).flatten,(∃ r w,x=kk r w/\Asc w)/\rk x<60:=fun x hx=>by
  obtain ⟨l,hl,hx⟩:=List.mem_flatten.mp hx
  obtain ⟨k,hk,rfl⟩:=List.mem_map.mp hl
  have hk:=List.mem_range.mp hk
  obtain ⟨a,_,b⟩:=(dueD_all is k).2.1 x hx
  exact ⟨a,by omega⟩
 have m2:∀ x∈((telL is).map (dueB [] (hdsX is) "")).flatten,(∃ r w,x=kk r w/\Asc w)/\100<=rk x:=fun x hx=>by
  obtain ⟨l,hl,hx⟩:=List.mem_flatten.mp hx
  obtain ⟨t,ht,rfl⟩:=List.mem_map.mp hl
  obtain ⟨i,c,hi,rfl⟩:=tel_mem ht
  obtain ⟨e,h1,_⟩:=dueB_rk (tel_B is i c).1 hx
  rw [(tel_B is i c).2] at h1
  exact ⟨⟨_,_,e,by unfold Asc;decide +kernel⟩,by omega⟩
 have p2:(((telL is).map (dueB [] (hdsX is) "")).flatten).Pairwise fun a b=>rk a<rk b:=by
  refine List.pairwise_flatten.mpr ⟨fun l hl=>?_,?_⟩
  ·obtain ⟨t,_,rfl⟩:=List.mem_map.mp hl
   exact dueB_pw t
  ·rw [List.pairwise_map,telL_rng,List.pairwise_map]
   refine List.Pairwise.imp_of_mem (R:=fun a b=>a<b) (fun {i j} hi hj hij x hx y hy=>?_) List.pairwise_lt_range
   have h2:=(dueB_rk (tel_B is i _).1 hx).1
   have h3:=(dueB_rk (tel_B is j _).1 hy).1
   rw [h2,h3]
   show ((100+i:Nat):Int)<((100+j:Nat):Int)
   omega
 have l1:(((List.range (hnX is)).map (dueD is)).flatten).length<=4*hnX is:=by
  have go:∀ ks:List Nat,((ks.map (dueD is)).flatten).length<=4*ks.length:=fun ks=>by
   induction ks with
   | nil=>simp
   | cons k ks ih =>
    have:=(dueD_all is k).2.2
    simp only [List.map_cons,List.flatten_cons,List.length_append,List.length_cons]
    omega
  simpa using go (List.range (hnX is))
 have l2:(((telL is).map (dueB [] (hdsX is) "")).flatten).length<=8:=by
  have go:∀ ts:List Tr,((ts.map (dueB [] (hdsX is) "")).flatten).length<=ts.length:=fun ts=>by
   induction ts with
   | nil=>simp
   | cons t ts ih =>
    have:(dueB [] (hdsX is) "" t).length<=1:=by unfold dueB;split<;>simp
    simp only [List.map_cons,List.flatten_cons,List.length_append,List.length_cons]
    omega
  refine Nat.le_trans (go _) ?_
  rw [telL_rng];simpa using h8
 unfold dueA
 refine ⟨List.pairwise_append.mpr ⟨p1,p2,fun x hx y hy=>?_⟩,fun x hx=>?_,by rw [List.length_append];omega⟩
 ·have h1:=(m1 x hx).2
  have h2:=(m2 y hy).2
  omega
 ·rcases List.mem_append.mp hx with hx | hx
  ·exact (m1 x hx).1
  ·exact (m2 x hx).1
theorem fK_due (is:List Int):fK (treeX is)=dueA is:=by
 rw [fK_fold,fold_add _ _ ((dueA_all is).1.imp fun {a b} h e=>by rw [e] at h;omega) (fun k _=>by simp)]
 simp
theorem deeps_le {d:Nat}:∀ {ts:List Tr},(∀ t∈ts,t.deep<=d)->deeps ts<=d+1
 | [],_=>by simp [deeps]
 | t::ts,h=>by
  have h1:=h t (by simp)
  have h2:=deeps_le (ts:=ts) fun x hx=>h x (by simp [hx])
  rw [deeps];omega
theorem cnts_le {c:Nat}:∀ {ts:List Tr},(∀ t∈ts,t.cnt<=c)->cnts ts<=c*ts.length
 | [],_=>by simp [cnts]
 | t::ts,h=>by
  have h1:=h t (by simp)
  have h2:=cnts_le (ts:=ts) fun x hx=>h x (by simp [hx])
  rw [cnts,List.length_cons,Nat.mul_succ];omega
theorem ascs_of:∀ {ts:List Tr},(∀ t∈ts,t.asc)->ts.Pairwise (fun a b=>a.row<b.row)->ascs ts
 | [],_,_=>trivial
 | t::ts,h,p=>by
  rw [List.pairwise_cons] at p
  exact ⟨h t (by simp),p.1,ascs_of (fun x hx=>h x (by simp [hx])) p.2⟩
theorem okTs_of {du:Bool}:∀ {ts:List Tr},(∀ t∈ts,okT du t)->okTs du ts
 | [],_=>trivial
 | t::ts,h=>⟨h t (by simp),okTs_of fun x hx=>h x (by simp [hx])⟩
theorem AscTs_of:∀ {ts:List Tr},(∀ t∈ts,AscT t)->AscTs ts
 | [],_=>trivial
 | t::ts,h=>⟨h t (by simp),AscTs_of fun x hx=>h x (by simp [hx])⟩
theorem ExOk.fit {ps:List (Str × Str)} {hs:List HD} {e:Ex} (h:ExOk ps hs 3 e):e.fit:=⟨h.gd,by have:=h.dp;omega⟩
theorem yes_asc:Asc "yes":=by unfold Asc;decide +kernel
theorem BRow.all {ps:List (Str × Str)} {hs:List HD} {t:Tr} (h:BRow ps hs t):t.deep<=1/\t.cnt<=2/\t.asc/\okT true t/\AscT t:=by
 cases h with
 | give r h=>exact ⟨by simp [Tr.deep],by simp [Tr.cnt],h.fit,⟨rfl,h.ds⟩,h.ac,h.dp⟩
 | tell r h=>exact ⟨by simp [Tr.deep],by simp [Tr.cnt],h.fit,h.ds,h.ac,h.dp⟩
 | set r h hq hz=>exact ⟨by simp [Tr.deep],by simp [Tr.cnt],h.fit,h.ds,hz,h.ac,h.dp⟩
 | iff r h=>exact ⟨by simp [Tr.deep,deeps],by simp [Tr.cnt,cnts],⟨⟨trivial,by show (0:Nat)<8;decide⟩,⟨by simp,h.fit,fun u hu=>by simp at hu,trivial⟩,by simp,trivial⟩,⟨trivial,⟨⟨rfl,h.ds⟩,trivial⟩,trivial⟩,⟨yes_asc,Nat.zero_le _⟩,⟨⟨h.ac,h.dp⟩,trivial⟩,trivial⟩
theorem def_all (is:List Int) (k:Nat):(defX is k).deep<=2/\(defX is k).cnt<=7/\(defX is k).asc/\okT false (defX is k)/\AscT (defX is k):=by
 have hB:=bod_B is k
 have hl:=bod_len is k
 have hc:=cnts_le (c:=2) fun t ht=>(hB t ht).all.2.1
 refine ⟨?_,?_,⟨?_,by omega,ascs_of (fun t ht=>(hB t ht).all.2.2.1) ?_⟩,okTs_of fun t ht=>(hB t ht).all.2.2.2.1,getD_asc (names_asc _) _,getD_asc kin_asc _,(hdY_ok is k).2,AscTs_of fun t ht=>(hB t ht).all.2.2.2.2⟩
 ·show deeps (bodX is k (hdY is k))<=2
  exact deeps_le fun t ht=>(hB t ht).all.1
 ·show 1+cnts (bodX is k (hdY is k))<=7
  omega
 ·have:=(hdY_ok is k).1;omega
 ·unfold bodX
  rw [List.pairwise_map]
  refine List.Pairwise.imp (R:=fun a b=>a<b) (fun {i j} hij=>?_) List.pairwise_lt_range
  rw [bod_row,bod_row];omega
theorem tel_all (is:List Int) (i:Nat) (c:Int):(telX is i c).deep<=2/\(telX is i c).cnt<=7/\(telX is i c).asc/\okT false (telX is i c)/\AscT (telX is i c):=by
 have h:=tel_ok is i c
 exact ⟨by simp [telX,Tr.deep],by simp [telX,Tr.cnt],h.fit,h.ds,h.ac,h.dp⟩
theorem tree_mem {is:List Int} {t:Tr} (h:t∈treeX is):t.deep<=2/\t.cnt<=7/\t.asc/\okT false t/\AscT t:=by
 rcases List.mem_append.mp (show t∈(List.range (hnX is)).map (defX is)++telL is from h) with h | h
 ·obtain ⟨k,_,rfl⟩:=List.mem_map.mp h
  exact def_all is k
 ·obtain ⟨i,c,_,rfl⟩:=tel_mem h
  exact tel_all is i c
theorem tree_len (is:List Int):(treeX is).length<=11/\(treeX is).length=hnX is+(telL is).length:=by
 have hn:=hn_le is
 have h8:((is.drop 5).take 8).length<=8:=by rw [List.length_take];omega
 have e:(treeX is).length=hnX is+(telL is).length:=by
  show ((List.range (hnX is)).map (defX is)++telL is).length=_
  simp
 have e2:(telL is).length=((is.drop 5).take 8).length:=by rw [telL_rng];simp
 omega
theorem tree_ok (is:List Int):KOk (treeX is)/\AscTs (treeX is)/\deeps (treeX is)<=3:=by
 have hd:=deeps_le (d:=2) fun t ht=>(tree_mem (is:=is) ht).1
 have hc:=cnts_le (c:=7) fun t ht=>(tree_mem (is:=is) ht).2.1
 have hl:=(tree_len is).1
 have hn:=hn_le is
 refine ⟨⟨by omega,by omega,ascs_of (fun t ht=>(tree_mem ht).2.2.1) ?_,okTs_of fun t ht=>(tree_mem ht).2.2.2.1,by omega⟩,AscTs_of fun t ht=>(tree_mem ht).2.2.2.2,hd⟩
 show ((List.range (hnX is)).map (defX is)++telL is).Pairwise fun a b=>a.row<b.row
 rw [List.pairwise_append]
 refine ⟨?_,?_,fun x hx y hy=>?_⟩
 ·rw [List.pairwise_map]
  refine List.Pairwise.imp (R:=fun a b=>a<b) (fun {i j} hij=>?_) List.pairwise_lt_range
  show 20*i<20*j
  omega
 ·rw [telL_rng,List.pairwise_map]
  refine List.Pairwise.imp (R:=fun a b=>a<b) (fun {i j} hij=>?_) List.pairwise_lt_range
  show 100+i<100+j
  omega
 ·obtain ⟨k,hk,rfl⟩:=List.mem_map.mp hx
  have hk:=List.mem_range.mp hk
  obtain ⟨i,c,_,rfl⟩:=tel_mem hy
  show 20*k<100+i
  omega
noncomputable def kD1:Key->PyData
 | .inl i=>.int i
 | .inr z=>.str z
noncomputable def kD (k:List Key):PyData:=.tuple (k.map kD1)
theorem kD1_eqv (a b:Key):PyData.eqv (kD1 a) (kD1 b)=decide (a=b):=by
 cases a<;>cases b<;>simp [kD1,PyData.eqv,Bool.beq_eq_decide_eq]
theorem kDs_eqv:∀ a b:List Key,PyData.eqvAll (a.map kD1) (b.map kD1)=decide (a=b)
 | [],[]=>by simp [PyData.eqvAll]
 | [],_::_=>by simp [PyData.eqvAll]
 | _::_,[]=>by simp [PyData.eqvAll]
 | x::a,y::b=>by
  have ih:=kDs_eqv a b
  simp only [List.map_cons,PyData.eqvAll,kD1_eqv,ih]
  by_cases h1:x=y<;>by_cases h2:a=b<;>simp [h1,h2]
theorem kD_eqv (a b:List Key):PyData.eqv (kD a) (kD b)=decide (a=b):=by
 unfold kD
 simp only [PyData.eqv]
 exact kDs_eqv a b
theorem rdv_keys {K:PySem.W.Frag} {H:Hp}:∀ (k:List Key),RdvA K H (k.map kV) (k.map kD1)
 | []=>.nil
 | .inl i::k=>.cons (.int i) (rdv_keys k)
 | .inr z::k=>.cons (.str z) (rdv_keys k)
theorem rdv_tups {K:PySem.W.Frag} {H:Hp}:∀ {xs:List V} {ds:List (List Key)},TupsAt H xs ds->RdvA K H xs (ds.map kD)
 | [],[],_=>.nil
 | [],_::_,h=>by simp [TupsAt] at h
 | _::_,[],h=>by simp [TupsAt] at h
 | x::xs,d::ds,h=>by
  obtain ⟨t,rfl,ht⟩:=h.2 0 x d rfl rfl
  exact .cons (.tup (SqT.of ht) (rdv_keys d)) (rdv_tups ⟨by simpa using h.1,fun i y e a b=>h.2 (i+1) y e a b⟩)
theorem tups_kept {H H':Hp} {xs:List V} {ds:List (List Key)} (s:TupS H H') (h:TupsAt H xs ds):TupsAt H' xs ds:=⟨h.1,fun i x d a b=>by obtain ⟨t,e,q⟩:=h.2 i x d a b;exact ⟨t,e,s _ _ q⟩⟩
theorem eqvAll_refl:∀ ds:List (List Key),PyData.eqvAll (ds.map kD) (ds.map kD)=true
 | []=>by simp [PyData.eqvAll]
 | d::ds=>by simp [PyData.eqvAll,kD_eqv,eqvAll_refl ds]
theorem tups_snoc {H:Hp} {ys:List V} {ks:List (List Key)} (h:TupsAt H ys ks) {t:Addr} {k:List Key} (ht:H t=some (.tup (k.map kV))):TupsAt H (ys++[.ref t]) (ks++[k]):=by
 refine ⟨by simp [h.1],fun j x d hx hd=>?_⟩
 by_cases hj:j<ys.length
 ·rw [List.getElem?_append_left hj] at hx
  rw [List.getElem?_append_left (by have:=h.1;omega)] at hd
  exact h.2 j x d hx hd
 ·rw [List.getElem?_append_right (by omega)] at hx
  rw [List.getElem?_append_right (by have:=h.1;omega),<- h.1] at hd
  have hj2:=(List.getElem?_eq_some_iff.mp hx).1
  have hj0:j-ys.length=0:=by simpa using hj2
  rw [hj0] at hx hd
  cases (show some (V.ref t)=some x from hx)
  cases (show some k=some d from hd)
  exact ⟨t,rfl,ht⟩
theorem tupS_upd {H:Hp} {l:Addr} {xs:List V} {o:HO} (h:H l=some (.lst xs)):TupS H (upd H l o):=fun b ys hb=>by
 rw [upd_ne fun z=>by rw [z,h] at hb;cases hb]
 exact hb
noncomputable def spBD:Sp:=fun vs H Q _=>∃ (hv:V) (hh bl:Addr) (h:HD) (hs:List HD) (xs:List V) (ts:List Tr),vs=[hv,.ref hh,.ref bl]/\HdAt H hv h/\h.ps.length<=3/\HdsAt H hh hs/\hs.length<=3/\(∀ h∈hs,h.ps.length<=3)/\H bl=some (.lst xs)/\LAt H false xs ts/\ts.length<=3/\(∀ t∈ts,BRow h.ps hs t) /\
 ∀ q ds H',Same H H'->H' q=some (.lst ds)->TupsAt H' ds ((ts.map (dueB h.ps hs h.kd)).flatten)->Q (.ref q) H'
theorem o_pl {H:Hp} {v:V} {t:Tr} (h:OAt H false v t):SAt H false v t:=by
 cases h with
 | plain _ a=>exact a
 | shared e _ _=>cases e
theorem br_at {H:Hp} {v:V} {ps:List (Str × Str)} {hs:List HD} {t:Tr} (hB:BRow ps hs t) (hS:SAt H false v t) :
  ∃ (a0:Addr) (vs0:List V),v=.ref a0/\H a0=some (.tup vs0)/\vs0[0]?=some (.str t.kw)/\∃ (a:Addr) (vs:List V) (e:Ex) (ve:V),H a=some (.tup vs) /\
   ((t.kw="if"/\∃ b,vs0[3]?=some (.ref b)/\H b=some (.lst [.ref a]))∨(t.kw≠"if"/\a=a0))/\vs[0]?=some (.str (inn t).kw)/\vs[1]?=some (.int (((inn t).row:Nat):Int))/\vs=vs.dropLast++[ve]/\ExAt H ve e/\ExOk ps hs 3 e /\
   (((inn t).kw="give"/\(∀ kd,wrB ps hs kd (inn t)=(wrL ps hs e||!decide (kdL ps hs e=kd)))) ∨
    ((inn t).kw="set"/\∃ z q,vs[2]?=some (.str z)/\fstP ps z=some q/\∀ kd,wrB ps hs kd (inn t)=(wrL ps hs e||!decide (kdL ps hs e=q.2))) ∨
    ((inn t).kw="tell"/\∀ kd,wrB ps hs kd (inn t)=wrL ps hs e)):=by
 cases hB with
 | give r h =>
  obtain ⟨a,ve,e1,ha,hx⟩:=s_give hS
  exact ⟨_,_,e1,ha,rfl,_,_,_,_,ha,.inr ⟨by show ("give":Str)≠"if";decide,rfl⟩,rfl,rfl,rfl,hx,h,.inl ⟨rfl,fun _=>rfl⟩⟩
 | tell r h =>
  obtain ⟨a,ve,e1,ha,hx⟩:=s_tell hS
  exact ⟨_,_,e1,ha,rfl,_,_,_,_,ha,.inr ⟨by show ("tell":Str)≠"if";decide,rfl⟩,rfl,rfl,rfl,hx,h,.inr (.inr ⟨rfl,fun _=>rfl⟩)⟩
 | @set r z q e' h hq hz =>
  obtain ⟨a,ve,e1,ha,hx⟩:=s_set hS
  exact ⟨_,_,e1,ha,rfl,_,_,_,_,ha,.inr ⟨by show ("set":Str)≠"if";decide,rfl⟩,rfl,rfl,rfl,hx,h,.inr (.inl ⟨rfl,z,q,rfl,hq,fun _=>by simp [wrB,inn,ownK,hq]⟩)⟩
 | iff r h =>
  obtain ⟨a,ve0,lb,xb,lo,xo,e1,ha,_,hlb,hLb,_⟩:=s_iff hS
  obtain ⟨v2,ex,hS2⟩:∃ v2,xb=[v2]/\SAt H false v2 (.give (r+1) _):=by
   cases hLb with
   | cons u w =>
    cases w
    exact ⟨_,rfl,o_pl u⟩
  obtain ⟨a2,ve,e2,ha2,hx⟩:=s_give hS2
  exact ⟨_,_,e1,ha,rfl,_,_,_,_,ha2,.inl ⟨rfl,_,rfl,by rw [hlb,ex,e2]⟩,rfl,rfl,rfl,hx,h,.inl ⟨rfl,fun _=>rfl⟩⟩
end
section
variable {P:Program} {w:World} {K:PySem.W.Frag} {mg:Str->Option Value} {base:Heap} {AA:Adr} {DD:Fds}
noncomputable abbrev N_Zp:List Str:=["_law_head_here","_law_heads","_law_body","_law_due","_law_row_here","_law_e","_law_kind_here","_law_wrong_here","_law_own"]
theorem sc_Zp:FnScope N_Zp ["_law_head_here","_law_heads","_law_body"] (defScope st_Zp):=⟨rfl,rfl,rfl,by decide +kernel,rfl,by decide +kernel,by decide +kernel⟩
theorem ok_bd (T:All P w K mg AA DD):FnOk P w K mg base CX0 6 AA.Zp DD.Zp ["_law_head_here","_law_heads","_law_body"] spBD:=by
 have GKD:=ok_kd (base:=base) T
 have GWR:=ok_wr (base:=base) T 4
 refine T.F_Zp.ok sc_Zp (fun vs H Q E h=>?_) (fun cdv A outer s H vs Q E hr h=>?_)
 ·obtain ⟨hv,hh,bl,h,hs,xs,ts,rfl,_⟩:=h
  rfl
 ·obtain ⟨hv,hh,bl,h,hs,xs,ts,rfl,hv0,hp3,hH,hh3,hhp,hbl,hL,ht3,hB,kq⟩:=h
  have nd:=sc_Zp.nd
  have hrW:Room (4+1) _:=hr
  have hr1:Room 1 _:=hrW.mono (by omega)
  refine ⟨_,(@pss_cons _ _ _ _ _ (@ps_set _ _ 3 _ _ _ _ nd rfl (Or.inl rfl) (@pe_lst _ _ _ _ pa_nil) (by rfl) (by first | exact .inl rfl | exact .inr rfl | assumption)) (@pss_cons _ _ _ _ _ (@ps_for _ _ _ _ _ _ _ _ PassesOwn.never rfl (pi_list (pv 2)) (pg_name (i:=4) nd rfl (Or.inr rfl)) (@pss_cons _ _ _ _ _ (@ps_if _ _ _ _ _ _ _ _ (@pt_cmpR _ _ _ _ _ _ _ _ op_eq (@pe_ix _ _ _ _ _ _ _ (ix_tupK (K:=K) rfl) (pv 4) pe_int (fun _ _=>rfl)) pe_str (nomark _)) (@pss_one _ _ _ (@ps_set _ _ 4 _ _ _ _ nd rfl (Or.inr rfl) (@pe_ix _ _ _ _ _ _ _ (ix_listK (K:=K) rfl) (@pe_ix _ _ _ _ _ _ _ (ix_tupK (K:=K) rfl) (pv 4) pe_int (fun _ _=>rfl)) pe_int (fun _ _=>rfl)) (by rfl) (by first | exact .inl rfl | exact .inr rfl | assumption))) pss_nil) (@pss_cons _ _ _ _ _ (@ps_set _ _ 5 _ _ _ _ nd rfl (Or.inl rfl) (@pe_ix _ _ _ _ _ _ _ (ix_tupK (K:=K) rfl) (pv 4) (pe_un un_neg pe_int) (fun _ _=>rfl)) (by rfl) (by first | exact .inl rfl | exact .inr rfl | assumption)) (@pss_cons _ _ _ _ _ (@ps_set _ _ 6 _ _ _ _ nd rfl (Or.inl rfl) (pe_call GKD hr1 rfl T.m_ZH T.k_ZH T.b_ZH .nil pass0 (@pa_cons _ _ _ _ _ (pv 5) (@pa_cons _ _ _ _ _ (@pe_ix _ _ _ _ _ _ _ (ix_tupK (K:=K) rfl) (pv 0) pe_int (fun _ _=>rfl)) (@pa_cons _ _ _ _ _ (pv 1) pa_nil (by rfl)) (by rfl)) (by rfl))) (by rfl) (by first | exact .inl rfl | exact .inr rfl | assumption)) (@pss_cons _ _ _ _ _ (@ps_set _ _ 7 _ _ _ _ nd rfl (Or.inl rfl) (pe_call GWR hrW rfl T.m_ZD T.k_ZD T.b_ZD .nil pass0 (@pa_cons _ _ _ _ _ (pv 5) (@pa_cons _ _ _ _ _ (@pe_ix _ _ _ _ _ _ _ (ix_tupK (K:=K) rfl) (pv 0) pe_int (fun _ _=>rfl)) (@pa_cons _ _ _ _ _ (pv 1) pa_nil (by rfl)) (by rfl)) (by rfl))) (by rfl) (by first | exact .inl rfl | exact .inr rfl | assumption)) (@pss_cons _ _ _ _ _ (@ps_if _ _ _ _ _ _ _ _ (PW.pt (pw_and (@pt_cmpR _ _ _ _ _ _ _ _ op_eq (@pe_ix _ _ _ _ _ _ _ (ix_tupK (K:=K) rfl) (pv 4) pe_int (fun _ _=>rfl)) pe_str (nomark _)) (pw_and1 (@pt_cmpR _ _ _ _ _ _ _ _ op_ne (pv 6) (@pe_ix _ _ _ _ _ _ _ (ix_tupK (K:=K) rfl) (pv 0) pe_int (fun _ _=>rfl)) (nomark _))))) (@pss_one _ _ _ (@ps_set _ _ 7 _ _ _ _ nd rfl (Or.inl rfl) pe_bl (by rfl) (by first | exact .inl rfl | exact .inr rfl | assumption))) pss_nil) (@pss_cons _ _ _ _ _ (@ps_if _ _ _ _ _ _ _ _ (@pt_cmpR _ _ _ _ _ _ _ _ op_eq (@pe_ix _ _ _ _ _ _ _ (ix_tupK (K:=K) rfl) (pv 4) pe_int (fun _ _=>rfl)) pe_str (nomark _)) (@pss_cons _ _ _ _ _ (ps_setcomp2 (i:=8) (xs:=["_law_name","_law_its"]) (defScope st_Zp) N_Zp ["_law_row_here"] [4] rfl (by exact ⟨rfl,rfl,by decide +kernel,by decide +kernel,by decide +kernel,by decide +kernel,by decide +kernel,rfl,by decide +kernel⟩) rfl rfl (pi_list (@pe_ix _ _ _ _ _ _ _ (ix_tupK (K:=K) rfl) (pv 0) pe_int (fun _ _=>rfl))) (fun _ _ _ _=>(pg_tupK (K:=K) (n:=2) rfl rfl (pgs_cons (pg_name (i:=0) (show (["_law_name","_law_its","_law_row_here"]:List Str).Nodup by decide +kernel) rfl (Or.inl rfl)) (pgs_cons (pg_name (i:=1) (show (["_law_name","_law_its","_law_row_here"]:List Str).Nodup by decide +kernel) rfl (Or.inl rfl)) pgs_nil)))) (fun _ _ _ _=>pif_one (pt_cmpR op_eq (pv 0) (pe_ix (ix_tupK (K:=K) rfl) (pv 2) pe_int (fun _ _=>rfl)) (nomark _))) (fun _ _ _ _=>(pv 1)) nd rfl rfl rfl) (@pss_one _ _ _ (@ps_set _ _ 7 _ _ _ _ nd rfl (Or.inl rfl) (pe_or (pv 7) (pe_one (@pe_cmpR _ _ _ _ _ _ _ _ op_ne (pv 6) (@pe_ix _ _ _ _ _ _ _ (ix_listK (K:=K) rfl) (pv 8) pe_int (fun _ _=>rfl)) (nomark _)))) (by rfl) (by first | exact .inl rfl | exact .inr rfl | assumption)))) pss_nil) (@pss_one _ _ _ (@ps_if _ _ _ _ _ _ _ _ (pt_val (pv 7)) (@pss_one _ _ _ (@ps_expr _ _ _ _ (pe_bm PySem.F.plainAttrs_list PySem.F.slot_list_append PySem.F.type_list_append mt_append (pv 3) (@pa_cons _ _ _ _ _ (@pe_tup _ _ _ _ _ (@pa_cons _ _ _ _ _ (@pe_ix _ _ _ _ _ _ _ (ix_tupK (K:=K) rfl) (pv 4) pe_int (fun _ _=>rfl)) (@pa_cons _ _ _ _ _ pe_str pa_nil (by rfl)) (by rfl))) pa_nil (by rfl))) (by rfl))) pss_nil)))))))) (by intro _;rfl)) (@pss_one _ _ _ (@ps_ret _ _ _ _ (pv 3))))),?_⟩
  obtain ⟨th,pl,rfl,hth,hP⟩:=hv0
  refine ⟨Nat.zero_le _,fun dl hdl=>?_⟩
  dsimp only [gName]
  have s1:=same_upd (o:=.lst []) hdl
  have hd1:upd H dl (.lst []) dl=some (.lst []):=upd_same
  generalize upd H dl (.lst [])=H1 at s1 hd1 ⊢
  have hxl:=hL.length
  refine cut_for (fun σ' H'=>Same H H'/\(∃ ds,H' dl=some (.lst ds)/\TupsAt H' ds ((ts.map (dueB h.ps hs h.kd)).flatten))/\∃ x4 x5 x6 x7 x8,σ'=[some (.ref th),some (.ref hh),some (.ref bl),some (.ref dl),x4,x5,x6,x7,x8]) (fun R hR=>?_) ?_
  ·refine ⟨_,rfl,bl,rfl,⟨_,SqL.of (s1 _ _ hbl)⟩,?_⟩
   refine for_list (K:=K) (a:=bl) (xs:=xs) (fun i σ' H'=>Same H H'/\(∃ ds,H' dl=some (.lst ds)/\ds.length<=i/\TupsAt H' ds (((ts.take i).map (dueB h.ps hs h.kd)).flatten))/\∃ x4 x5 x6 x7 x8,σ'=[some (.ref th),some (.ref hh),some (.ref bl),some (.ref dl),x4,x5,x6,x7,x8]) ⟨s1,⟨[],hd1,Nat.le_refl _,by simp,fun j x d hx=>by simp at hx⟩,_,_,_,_,_,rfl⟩ (fun i σ' H' _ h=>SqL.of (h.1 _ _ hbl)) ?_ ?_
   ·rintro i x σ' H2 hx ⟨s2,⟨ds,hds,hdl3,hT⟩,x4,x5,x6,x7,x8,rfl⟩
    obtain ⟨t,ht,hO⟩:=hL.get hx
    obtain ⟨hi',et⟩:=List.getElem?_eq_some_iff.mp ht
    have hBt:=hB t (List.mem_of_getElem? ht)
    have hS:SAt H false x t:=by
     cases hO with
     | plain _ a=>exact a
     | shared e _ _=>cases e
    have hS2:=hS.kept s2.ls
    obtain ⟨a0,vs0,rfl,ha0,hv0,a,vs,e,ve,ha,hif,hk0,hk1,hlast,hE,hXe,hkind⟩:=br_at hBt hS2
    dsimp only [gName]
    refine cut_if (fun σ' H'=>H'=H2/\σ'=[some (.ref th),some (.ref hh),some (.ref bl),some (.ref dl),some (.ref a),x5,x6,x7,x8]) (fun R2 hR2=>?_) ?_
    ·refine ⟨_,rfl,a0,_,_,_,rfl,rfl,SqT.of ha0,atI_nat (j:=0) hv0,rfl,_,rfl,?_⟩
     rcases hif with ⟨hw,b,hb3,hb⟩ | ⟨hw,rfl⟩
     ·refine iteTb (decide_eq_true (by rw [hw])) ?_
      exact ⟨_,rfl,a0,_,_,_,rfl,rfl,SqT.of ha0,atI_nat (j:=3) hb3,b,_,_,_,rfl,rfl,SqL.of hb,atI_nat (j:=0) rfl,hR2 _ _ ⟨rfl,rfl⟩⟩
     ·refine iteFb (decide_eq_false fun z=>hw (by injection z)) ?_
      exact hR2 _ _ ⟨rfl,rfl⟩
    rintro σ' H2' ⟨rfl,rfl⟩
    refine ⟨_,rfl,1,rfl,a,_,_,ve,rfl,rfl,SqT.of ha,(by rw [hlast];exact atI_last _ _),?_⟩
    dsimp only [gName]
    refine ⟨_,rfl,_,rfl,th,_,_,_,rfl,rfl,SqT.of (s2 _ _ hth),atI_nat (j:=2) rfl,_,rfl,ve,pl,hh,h.ps,hs,e,rfl,hE,hXe.wf,hP.kept s2.ls,hp3,hH.kept s2.ls,hh3,fun H3 s3=>?_⟩
    dsimp only [gName]
    have s23:=s2.trans s3
    refine ⟨_,rfl,_,rfl,th,_,_,_,rfl,rfl,SqT.of (s23 _ _ hth),atI_nat (j:=2) rfl,_,rfl,ve,pl,hh,h.ps,hs,e,rfl,hE.kept s3.ls.1,hXe.wf,hP.kept s23.ls,hp3,hH.kept s23.ls,hh3,hhp,by have:=hXe.dp;omega,fun H4 s4=>?_⟩
    dsimp only [gName]
    have s24:=s23.trans s4
    have ha4:=s4 _ _ (s3 _ _ ha)
    refine cut_if (fun σ' H'=>H'=H4/\σ'=[some (.ref th),some (.ref hh),some (.ref bl),some (.ref dl),some (.ref a),some ve,some (.str (kdL h.ps hs e)),some (.bl (if (inn t).kw="give" then wrB h.ps hs h.kd (inn t) else wrL h.ps hs e)),x8]) (fun R2 hR2=>?_) ?_
    ·refine ⟨_,rfl,a,_,_,_,rfl,rfl,SqT.of ha4,atI_nat (j:=0) hk0,rfl,_,rfl,?_⟩
     by_cases hg:(inn t).kw="give"
     ·refine iteTb (decide_eq_true (by rw [hg])) ?_
      have ew:wrB h.ps hs h.kd (inn t)=(wrL h.ps hs e||!decide (kdL h.ps hs e=h.kd)):=by
       rcases hkind with ⟨_,q⟩ | ⟨hs',_⟩ | ⟨hs',_⟩
       ·exact q _
       ·rw [hg] at hs';exact absurd hs' (by decide)
       ·rw [hg] at hs';exact absurd hs' (by decide)
      rw [if_pos hg,ew] at hR2
      refine ⟨_,rfl,_,rfl,th,_,_,_,rfl,rfl,SqT.of (s24 _ _ hth),atI_nat (j:=1) rfl,rfl,_,rfl,?_⟩
      by_cases hkd:kdL h.ps hs e=h.kd
      ·refine iteFb (by
        show (!decide (V.str (kdL h.ps hs e)=V.str h.kd))=false
        rw [decide_eq_true (by rw [hkd])];rfl) ?_
       refine hR2 _ _ ⟨rfl,?_⟩
       rw [decide_eq_true hkd,Bool.not_true,Bool.or_false];rfl
      ·refine iteTb (by
        show (!decide (V.str (kdL h.ps hs e)=V.str h.kd))=true
        rw [decide_eq_false (fun z=>hkd (by injection z))];rfl) ?_
       refine hR2 _ _ ⟨rfl,?_⟩
       rw [decide_eq_false hkd,Bool.not_false,Bool.or_true];rfl
     ·refine iteFb (decide_eq_false fun z=>hg (by injection z)) ?_
      rw [if_neg hg] at hR2
      exact iteF (hR2 _ _ ⟨rfl,rfl⟩)
    rintro σ' H4' ⟨rfl,rfl⟩
    refine cut_if (fun σ' H'=>Same H4' H'/\∃ x8,σ'=[some (.ref th),some (.ref hh),some (.ref bl),some (.ref dl),some (.ref a),some ve,some (.str (kdL h.ps hs e)),some (.bl (wrB h.ps hs h.kd (inn t))),x8]) (fun R2 hR2=>?_) ?_
    ·refine ⟨_,rfl,a,_,_,_,rfl,rfl,SqT.of ha4,atI_nat (j:=0) hk0,rfl,_,rfl,?_⟩
     rcases hkind with ⟨hw,q⟩ | ⟨hw,z,q0,hz2,hq0,q⟩ | ⟨hw,q⟩
     ·refine iteFb (decide_eq_false (by rw [hw];intro z;injection z with z;exact absurd z (by decide))) ?_
      refine hR2 _ _ ⟨Same.refl _,x8,?_⟩
      rw [if_pos hw]
     ·refine iteTb (decide_eq_true (by rw [hw])) ?_
      rw [if_neg (by rw [hw];decide)]
      obtain ⟨us,hpp,hul,huat⟩:=hP.kept s24.ls
      refine ⟨_,rfl,th,_,_,_,rfl,rfl,SqT.of (s24 _ _ hth),atI_nat (j:=2) rfl,pl,rfl,⟨_,SqL.of hpp⟩,?_⟩
      refine comp2_list (K:=K) (a:=pl) (xs:=us.map V.ref) (fun i ys H'=>H'=H4'/\i<=3/\ys=((h.ps.take i).filter fun q=>decide (q.1=z)).map fun q=>V.str q.2) ⟨rfl,Nat.zero_le _,rfl⟩ (fun i ys H' _ h=>by rw [h.1];exact SqL.of hpp) ?_ ?_
      ·rintro i x ys H5 hx ⟨rfl,_,rfl⟩
       have hi:i<us.length:=by
        have:=(List.getElem?_eq_some_iff.mp hx).1
        rw [List.length_map] at this;exact this
       have hip:i<h.ps.length:=by omega
       have ex:x=V.ref us[i]:=by rw [List.getElem?_map,List.getElem?_eq_getElem hi] at hx;exact (Option.some.inj hx).symm
       subst ex
       have hu:=huat i us[i] h.ps[i] (List.getElem?_eq_getElem hi) (List.getElem?_eq_getElem hip)
       intro os hos
       obtain ⟨o1,o2,rfl⟩:∃ a b,os=[a,b]:=by
        match os,hos with
        | [a,b],_=>exact ⟨a,b,rfl⟩
       refine ⟨us[i],_,rfl,SqT.of hu,rfl,_,_,rfl,_,_,rfl,rfl,⟨[_,_],rfl,rfl⟩,?_⟩
       refine ⟨_,rfl,_,rfl,a,_,_,_,rfl,rfl,SqT.of ha4,atI_nat (j:=2) hz2,rfl,_,rfl,?_⟩
       rw [List.take_succ_eq_append_getElem hip,List.filter_append,List.map_append]
       by_cases hz:h.ps[i].1=z
       ·refine iteTb (decide_eq_true (by rw [hz])) ?_
        refine ⟨_,rfl,?_,rfl,by omega,?_⟩
        ·have:=List.length_filter_le (fun q:Str × Str=>decide (q.1=z)) (h.ps.take i)
         rw [List.length_take] at this
         rw [List.length_map]
         exact small1000' (by omega)
        ·rw [List.filter_cons_of_pos (by simpa using hz)];rfl
       ·refine iteFb (decide_eq_false fun w=>hz (by injection w)) ?_
        refine ⟨rfl,by omega,?_⟩
        rw [List.filter_cons_of_neg (by simpa using hz)];simp
      ·rintro ys H5 ⟨rfl,_,rfl⟩ p hp
       rw [List.length_map,hul,List.take_length]
       have sp:=same_upd (o:=.lst ((h.ps.filter fun q=>decide (q.1=z)).map fun q=>V.str q.2)) hp
       have hget:((h.ps.filter fun q=>decide (q.1=z)).map fun q=>V.str q.2)[0]?=some (.str q0.2):=by
        rw [List.getElem?_map,<- List.head?_eq_getElem?,List.head?_filter]
        show (fstP h.ps z).map _=_
        rw [hq0];rfl
       have ew:=q h.kd
       rw [ew] at hR2
       dsimp only [gName]
       refine ⟨_,rfl,_,rfl,?_⟩
       cases hwl:wrL h.ps hs e with
       | true =>
        rw [hwl,Bool.true_or] at hR2
        exact iteT (hR2 _ _ ⟨sp,_,rfl⟩)
       | false =>
        rw [hwl,Bool.false_or] at hR2
        refine iteF ?_
        refine ⟨_,rfl,_,rfl,p,_,_,.str q0.2,rfl,rfl,SqL.of upd_same,atI_nat (j:=0) hget,rfl,?_⟩
        refine hR2 _ _ ⟨sp,some (.ref p),?_⟩
        have e5:(!decide (V.str (kdL h.ps hs e)=V.str q0.2))=!decide (kdL h.ps hs e=q0.2):=by
         by_cases hk:kdL h.ps hs e=q0.2
         ·rw [decide_eq_true hk,decide_eq_true (by rw [hk])]
         ·rw [decide_eq_false hk,decide_eq_false fun z=>hk (by injection z)]
        rw [<- e5];rfl
     ·refine iteFb (decide_eq_false (by rw [hw];intro z;injection z with z;exact absurd z (by decide))) ?_
      refine hR2 _ _ ⟨Same.refl _,x8,?_⟩
      rw [if_neg (by rw [hw];decide),q]
    rintro σ' H5 ⟨s5,x8',rfl⟩
    have s45:=(s3.trans s4).trans s5
    have s25:=s2.trans s45
    have hds5:=s45 _ _ hds
    have hT5:TupsAt H5 ds (((ts.take i).map (dueB h.ps hs h.kd)).flatten):=tups_kept s45.ls.1 hT
    have ha5:=s45 _ _ ha
    have etk:((ts.take (i+1)).map (dueB h.ps hs h.kd)).flatten=((ts.take i).map (dueB h.ps hs h.kd)).flatten++dueB h.ps hs h.kd t:=by
     rw [List.take_succ_eq_append_getElem hi',et];simp
    rw [etk]
    refine ⟨_,rfl,_,rfl,?_⟩
    unfold dueB at *
    cases hwb:wrB h.ps hs h.kd (inn t) with
    | false =>
     refine iteF ?_
     refine ⟨s25,⟨ds,hds5,by omega,by simpa using hT5⟩,_,_,_,_,_,rfl⟩
    | true =>
     refine iteT ?_
     refine ⟨_,rfl,.inl ⟨rfl,_,SqL.of hds5⟩,_,rfl,a,_,_,_,rfl,rfl,SqT.of ha5,atI_nat (j:=1) hk1,(by show 2<=sizeLine;decide),fun q hq=>?_⟩
     have sq:=same_upd (o:=.tup [.int (((inn t).row:Nat):Int),.str "kind"]) hq
     refine ⟨dl,ds,.ref q,rfl,rfl,sq _ _ hds5,small1000' (by omega),?_⟩
     refine ⟨same_open (s25.trans sq) hdl,⟨ds++[.ref q],upd_same,by simp;omega,?_⟩,_,_,_,_,_,rfl⟩
     refine tups_kept (tupS_upd (sq _ _ hds5)) ?_
     exact tups_snoc (tups_kept sq.ls.1 hT5) (k:=kk (inn t).row "kind") upd_same
   ·rintro σ' H2 ⟨s2,⟨ds,hds,hdl3,hT⟩,x4,x5,x6,x7,x8,rfl⟩
    rw [List.take_of_length_le (by omega)] at hT
    exact hR _ _ ⟨s2,⟨ds,hds,hT⟩,_,_,_,_,_,rfl⟩
  rintro σ' H2 ⟨s2,⟨ds,hds,hT⟩,x4,x5,x6,x7,x8,rfl⟩
  exact ⟨_,rfl,kq dl ds H2 s2 hds hT⟩
end
section
variable {P:Program} {w:World} {K:PySem.W.Frag} {mg:Str->Option Value} {base:Heap} {AA:Adr} {DD:Fds}
noncomputable def spLaw (K:PySem.W.Frag):Sp:=fun vs H Q _=>∃ (a:Addr) (ns:List Int),vs=[.ref a]/\SqL K H a (ns.map V.int)/\ns.length<=63/\∀ H',Q (.bl true) H'
theorem kk_shd {k:List Key} (h:∃ r w,k=kk r w/\Asc w):Shd 1 (kD k):=by
 obtain ⟨r,z,rfl,hz⟩:=h
 refine Shd.tuple fun d hd=>?_
 simp only [kk,List.map_cons,List.map_nil,List.mem_cons,List.not_mem_nil,or_false] at hd
 rcases hd with rfl | rfl
 ·exact .int _
 ·exact .str hz
theorem tups_app {H:Hp} {xs ys:List V} {a b:List (List Key)} (h1:TupsAt H xs a) (h2:TupsAt H ys b):TupsAt H (xs++ys) (a++b):=by
 refine ⟨by simp [h1.1,h2.1],fun j x d hx hd=>?_⟩
 by_cases hj:j<xs.length
 ·rw [List.getElem?_append_left hj] at hx
  rw [List.getElem?_append_left (by have:=h1.1;omega)] at hd
  exact h1.2 j x d hx hd
 ·rw [List.getElem?_append_right (by omega)] at hx
  rw [List.getElem?_append_right (by have:=h1.1;omega),<- h1.1] at hd
  exact h2.2 _ x d hx hd
theorem givN_last (ts:List Tr):(ts=[]/\givN ts=0)∨∃ (t0:List Tr) (u:Tr),ts=t0++[u]/\(givN ts=0↔u.kw≠"give"):=by
 by_cases h:ts=[]
 ·exact .inl ⟨h,by rw [h];rfl⟩
 ·refine .inr ⟨ts.dropLast,ts.getLast h,(List.dropLast_concat_getLast h).symm,?_⟩
  have e:=givN_snoc ts.dropLast (ts.getLast h)
  rw [List.dropLast_concat_getLast h] at e
  rw [e]
  by_cases hk:(ts.getLast h).kw="give"
  ·rw [if_pos hk];simp [hk]
  ·rw [if_neg hk];simp [hk]
theorem tree_def {is:List Int} {k:Nat} (hk:k<hnX is):(treeX is)[k]?=some (defX is k):=by
 show ((List.range (hnX is)).map (defX is)++telL is)[k]?=_
 rw [List.getElem?_append_left (by simpa using hk),List.getElem?_map,List.getElem?_range hk];rfl
theorem lAt_drop {H:Hp} {sh:Bool}:∀ {vs:List V} {ts:List Tr} (n:Nat),LAt H sh vs ts->LAt H sh (vs.drop n) (ts.drop n)
 | _,_,0,h=>by simpa using h
 | _,_,n+1,.nil=>by simpa using LAt.nil
 | _,_,n+1,.cons _ b=>by simpa using lAt_drop n b
theorem tree_drop (is:List Int):(treeX is).drop (hnX is)=telL is:=by
 show ((List.range (hnX is)).map (defX is)++telL is).drop (hnX is)=_
 rw [List.drop_append_of_le_length (by simp)]
 simp
theorem cut_from (xs:List V) (n:Nat):cutV xs (some ((n:Nat):Int)) none=xs.drop n:=by
 unfold cutV
 have e1:HT.sIx xs.length xs.length none=xs.length:=by simp [HT.sIx]
 have e2:HT.sIx xs.length 0 (some ((n:Nat):Int))=min n xs.length:=HT.sIx_nat _ _ n
 rw [e1,e2]
 by_cases h:n<=xs.length
 ·rw [Nat.min_eq_left h,List.take_of_length_le (by simp)]
 ·rw [Nat.min_eq_right (by omega),List.drop_of_length_le (Nat.le_refl _),List.drop_of_length_le (by omega)]
  simp
theorem last_at {H:Hp} {zs:List V} {ts t0:List Tr} {u:Tr} (h:LAt H false zs ts) (e:ts=t0++[u]):∃ z0 zu,zs=z0++[zu]/\∃ tu r,zu=.ref tu/\H tu=some (.tup (.str u.kw::r)):=by
 have hl:=h.length
 rw [e] at hl
 simp at hl
 have hne:zs≠[]:=fun z=>by rw [z] at hl;simp at hl
 refine ⟨zs.dropLast,zs.getLast hne,(List.dropLast_concat_getLast hne).symm,?_⟩
 obtain ⟨t,ht,hO⟩:=h.get (i:=t0.length) (v:=zs.getLast hne) (by rw [<- List.getLast?_eq_some_getLast hne,List.getLast?_eq_getElem?,hl];rfl)
 rw [e] at ht
 have et:t=u:=by simpa using ht.symm
 subst et
 have hS:=o_pl hO
 generalize zs.getLast hne=v at hS
 cases hS with
 | @mk tu vs _ htu hps =>
 obtain ⟨r,rfl⟩:=st_head hps
 exact ⟨_,_,rfl,htu⟩
noncomputable abbrev N_law:List Str:=["_law_script","_law_tree_here","_law_heads","_law_due","_law_k","_law_body","_law_row_here","_law_found"]
theorem sc_law:FnScope N_law ["_law_script"] (defScope st_law):=⟨rfl,rfl,rfl,by decide +kernel,rfl,by decide +kernel,by decide +kernel⟩
theorem ok_law (T:All P w K mg AA DD) {f:Addr} {fd:FuncData} (F:Fun K "law" "law" st_law f fd):FnOk P w K mg base CX0 45 f fd ["_law_script"] (spLaw K):=by
 have GTR:=ok_tree (base:=base) T
 have GPK:=ok_pk (base:=base) T
 have GBD:=ok_bd (base:=base) T
 have GWR:=ok_wr (base:=base) T 4
 refine F.ok sc_law (fun vs H Q E h=>?_) (fun cdv A outer s H vs Q E hr h=>?_)
 ·obtain ⟨a,ns,rfl,_⟩:=h
  rfl
 ·obtain ⟨a,is,rfl,hS,hlen,kq⟩:=h
  have nd:=sc_law.nd
  have hu:=hr.units
  have hrT:Room 9 _:=hr.mono (by decide)
  have hrP:Room 39 _:=hr.mono (by decide)
  have hrD:Room 6 _:=hr.mono (by decide)
  have hrW:Room (4+1) _:=hr.mono (by decide)
  refine ⟨_,(@pss_cons _ _ _ _ _ (ps_asg (pe_call GTR hrT rfl T.m_ZJ T.k_ZJ T.b_ZJ .nil pass0 (@pa_cons _ _ _ _ _ (pv 0) pa_nil (by rfl))) (pg_tup rfl (pgs_cons (pg_name (i:=1) nd rfl (Or.inl rfl)) (pgs_cons (pg_name (i:=2) nd rfl (Or.inl rfl)) pgs_nil)))) (@pss_cons _ _ _ _ _ (@ps_set _ _ 3 _ _ _ _ nd rfl (Or.inl rfl) (@pe_lst _ _ _ _ pa_nil) (by rfl) (by first | exact .inl rfl | exact .inr rfl | assumption)) (@pss_cons _ _ _ _ _ (@ps_for _ _ _ _ _ _ _ _ PassesOwn.never rfl (pi_range1 rfl T.n_range (@pa_cons _ _ _ _ _ (pe_callB call_len_seq rfl T.n_len bt_len (@pa_cons _ _ _ _ _ (pv 2) pa_nil (by rfl))) pa_nil (by rfl))) (pg_name (i:=4) nd rfl (Or.inl rfl)) (@pss_cons _ _ _ _ _ (@ps_set _ _ 5 _ _ _ _ nd rfl (Or.inl rfl) (@pe_ix _ _ _ _ _ _ _ (ix_tupK (K:=K) rfl) (@pe_ix _ _ _ _ _ _ _ (ix_listK (K:=K) rfl) (pv 1) (pv 4) (fun _ _=>rfl)) pe_int (fun _ _=>rfl)) (by rfl) (by first | exact .inl rfl | exact .inr rfl | assumption)) (@pss_cons _ _ _ _ _ (@ps_if _ _ _ _ _ _ _ _ (PW.pt (pw_or (@pt_cmpR _ _ _ _ _ _ _ _ (op_eqD (K:=K) rfl hu) (pv 5) (@pe_lst _ _ _ _ pa_nil) (nomark _)) (pw_or1 (@pt_cmpR _ _ _ _ _ _ _ _ op_ne (@pe_ix _ _ _ _ _ _ _ (ix_tupK (K:=K) rfl) (@pe_ix _ _ _ _ _ _ _ (ix_listK (K:=K) rfl) (pv 5) (pe_un un_neg pe_int) (fun _ _=>rfl)) pe_int (fun _ _=>rfl)) pe_str (nomark _))))) (@pss_one _ _ _ (@ps_expr _ _ _ _ (pe_bm PySem.F.plainAttrs_list PySem.F.slot_list_append PySem.F.type_list_append mt_append (pv 3) (@pa_cons _ _ _ _ _ (@pe_tup _ _ _ _ _ (@pa_cons _ _ _ _ _ (@pe_ix _ _ _ _ _ _ _ (ix_tupK (K:=K) rfl) (@pe_ix _ _ _ _ _ _ _ (ix_listK (K:=K) rfl) (pv 1) (pv 4) (fun _ _=>rfl)) pe_int (fun _ _=>rfl)) (@pa_cons _ _ _ _ _ pe_str pa_nil (by rfl)) (by rfl))) pa_nil (by rfl))) (by rfl))) pss_nil) (@pss_one _ _ _ (@ps_set _ _ 3 _ _ _ _ nd rfl (Or.inl rfl) (@pe_op _ _ _ _ _ _ _ _ op_cat (pv 3) (pe_call GBD hrD rfl T.m_Zp T.k_Zp T.b_Zp .nil pass0 (@pa_cons _ _ _ _ _ (@pe_ix _ _ _ _ _ _ _ (ix_listK (K:=K) rfl) (pv 2) (pv 4) (fun _ _=>rfl)) (@pa_cons _ _ _ _ _ (pv 2) (@pa_cons _ _ _ _ _ (pv 5) pa_nil (by rfl)) (by rfl)) (by rfl)))) (by rfl) (by first | exact .inl rfl | exact .inr rfl | assumption))))) (by intro _;rfl)) (@pss_cons _ _ _ _ _ (@ps_for _ _ _ _ _ _ _ _ PassesOwn.never rfl (pi_list (pe_slice sl_list (pv 1) (po_some (pe_callB call_len_seq rfl T.n_len bt_len (@pa_cons _ _ _ _ _ (pv 2) pa_nil (by rfl)))) po_none)) (pg_name (i:=6) nd rfl (Or.inl rfl)) (@pss_one _ _ _ (@ps_if _ _ _ _ _ _ _ _ (pt_val (pe_call GWR hrW rfl T.m_ZD T.k_ZD T.b_ZD .nil pass0 (@pa_cons _ _ _ _ _ (@pe_ix _ _ _ _ _ _ _ (ix_tupK (K:=K) rfl) (pv 6) pe_int (fun _ _=>rfl)) (@pa_cons _ _ _ _ _ (@pe_lst _ _ _ _ pa_nil) (@pa_cons _ _ _ _ _ (pv 2) pa_nil (by rfl)) (by rfl)) (by rfl)))) (@pss_one _ _ _ (@ps_expr _ _ _ _ (pe_bm PySem.F.plainAttrs_list PySem.F.slot_list_append PySem.F.type_list_append mt_append (pv 3) (@pa_cons _ _ _ _ _ (@pe_tup _ _ _ _ _ (@pa_cons _ _ _ _ _ (@pe_ix _ _ _ _ _ _ _ (ix_tupK (K:=K) rfl) (pv 6) pe_int (fun _ _=>rfl)) (@pa_cons _ _ _ _ _ pe_str pa_nil (by rfl)) (by rfl))) pa_nil (by rfl))) (by rfl))) pss_nil)) (by intro _;rfl)) (@pss_cons _ _ _ _ _ (@ps_set _ _ 7 _ _ _ _ nd rfl (Or.inl rfl) (pe_call GPK hrP rfl T.m_Zr T.k_Zr T.b_Zr .nil pass0 (@pa_cons _ _ _ _ _ (pv 1) pa_nil (by rfl))) (by rfl) (by first | exact .inl rfl | exact .inr rfl | assumption)) (@pss_one _ _ _ (@ps_ret _ _ _ _ (pe_and (pe_callB (call_isinstK (K:=K) (n:="list") rfl) rfl T.n_isinstance bt_isi (@pa_cons _ _ _ _ _ (pv 7) (@pa_cons _ _ _ _ _ (pe_bltn (v:=.ty "list") rfl T.n_list bt_list rfl) pa_nil (by rfl)) (by rfl))) (pe_and (@pe_cmpR _ _ _ _ _ _ _ _ (op_eqD (K:=K) rfl hu) (pv 7) (pe_callB (call_sortedT (K:=K) rfl) rfl T.n_sorted bt_sorted (@pa_cons _ _ _ _ _ (pv 3) pa_nil (by rfl))) (nomark _)) (pe_one (@pe_cmpR _ _ _ _ _ _ _ _ (op_eqD (K:=K) rfl hu) (pv 1) (@pe_ix _ _ _ _ _ _ _ (ix_tupK (K:=K) rfl) (pe_call GTR hrT rfl T.m_ZJ T.k_ZJ T.b_ZJ .nil pass0 (@pa_cons _ _ _ _ _ (pv 0) pa_nil (by rfl))) pe_int (fun _ _=>rfl)) (nomark _)))))))))))),?_⟩
  obtain ⟨hok,hasc,hdp⟩:=tree_ok is
  have hshd:Shd 20 (.list (trsD (treeX is))):=(Shd.list (trs_shd _ hasc)).up (by omega)
  have efk:=fK_due is
  obtain ⟨hpw,hwd,h20⟩:=dueA_all is
  obtain ⟨⟨hk0,hk3,hkp⟩,hkl,hkg⟩:=hds_ok is
  have hhn:=hn_le is
  refine ⟨_,rfl,a,is,rfl,hS,fun t l hh xs H1 s1 ht hl hL hH=>?_⟩
  refine ⟨t,_,rfl,SqT.of ht,rfl,_,_,rfl,_,_,rfl,rfl,?_⟩
  dsimp only
  refine ⟨Nat.zero_le _,fun dl hdl=>?_⟩
  have s2:=same_upd (o:=.lst []) hdl
  have hd2:upd H1 dl (.lst []) dl=some (.lst []):=upd_same
  generalize upd H1 dl (.lst [])=H2 at s2 hd2 ⊢
  dsimp only [gName]
  have hxl:=hL.length
  have htl:=tree_len is
  refine cut_for (fun σ' H'=>Same H1 H'/\∃ dl ds x4 x5,H1 dl=none/\H' dl=some (.lst ds)/\ds.length<=12/\TupsAt H' ds (((List.range (hnX is)).map (dueD is)).flatten)/\σ'=[some (.ref a),some (.ref l),some (.ref hh),some (.ref dl),x4,x5,none,none]) (fun R hR=>?_) ?_
  ·obtain ⟨us,hus,hul,huat⟩:=hH
   have hH:HdsAt H1 hh (hdsX is):=⟨us,hus,hul,huat⟩
   refine ⟨_,rfl,hh,us,rfl,.inl (SqL.of (s2 _ _ hus)),_,rfl,?_,?_,?_⟩
   ·show _<=(us.length:Int);omega
   ·show (us.length:Int)<_;omega
   rw [Int.toNat_natCast,hul,hkl]
   refine for_range (D:=⟨R,_,R,R⟩) (fun i σ' H'=>Same H1 H'/\∃ dl ds x4 x5,H1 dl=none/\H' dl=some (.lst ds)/\ds.length<=4*i/\TupsAt H' ds (((List.range i).map (dueD is)).flatten)/\σ'=[some (.ref a),some (.ref l),some (.ref hh),some (.ref dl),x4,x5,none,none]) ⟨s2,dl,[],_,_,hdl,hd2,Nat.zero_le _,⟨by simp,fun j x d hx=>by simp at hx⟩,rfl⟩ ?_ ?_
   ·rintro i σ' H3 hi ⟨s3,dl,ds,x4,x5,hdn,hds,hdsl,hT,rfl⟩
    rw [Int.zero_add]
    dsimp only [gName]
    have hix:i<xs.length:=by omega
    obtain ⟨td,htd,hO⟩:=hL.get (List.getElem?_eq_getElem hix)
    rw [tree_def hi] at htd
    cases htd
    have hSd:=o_pl hO
    obtain ⟨tq,vp,lb,zs,etq,htq,hlb,hLb⟩:∃ tq vp lb zs,xs[i]=.ref tq/\H1 tq=some (.tup [.str "def",.int ((20*i:Nat):Int),.str (hdY is i).nm,.str (hdY is i).kd,vp,.ref lb])/\H1 lb=some (.lst zs)/\LAt H1 false zs (bodX is i (hdY is i)):=by
     obtain ⟨tq,vp,lb,zs,e1,htq,_,hlb,hLb⟩:=s_df hSd
     exact ⟨tq,vp,lb,zs,e1,htq,hlb,hLb⟩
    have hbl:=bod_len is i
    have hzl:=hLb.length
    have hBa:AscTs (bodX is i (hdY is i)):=AscTs_of fun t ht=>(bod_B is i t ht).all.2.2.2.2
    have hBd:deeps (bodX is i (hdY is i))<=2:=deeps_le fun t ht=>(bod_B is i t ht).all.1
    have hBs:Shd 20 (.list (trsD (bodX is i (hdY is i)))):=(Shd.list (trs_shd _ hBa)).up (by omega)
    refine ⟨_,rfl,_,rfl,l,xs,_,.ref tq,rfl,rfl,SqL.of (s3 _ _ hl),atI_nat (by rw [List.getElem?_eq_getElem hix,etq]),tq,_,_,_,rfl,rfl,SqT.of (s3 _ _ htq),atI_nat (j:=5) rfl,?_⟩
    dsimp only [gName]
    generalize hpre:((List.range i).map (dueD is)).flatten=pre at hT
    refine cut_if (fun σ' H'=>Same H1 H'/\∃ ds,H' dl=some (.lst ds)/\ds.length<=4*i+1/\TupsAt H' ds (pre++(if givN (bodX is i (hdY is i))=0 then [kk (20*i) "give"] else []))/\σ'=[some (.ref a),some (.ref l),some (.ref hh),some (.ref dl),some (.int ((i:Nat):Int)),some (.ref lb),none,none]) (fun R2 hR2=>?_) ?_
    ·refine ⟨_,rfl,Nat.zero_le _,fun q hq=>?_⟩
     have sq:=same_upd (o:=.lst []) hq
     have s3q:=s3.trans sq
     refine ⟨.list (trsD (bodX is i (hdY is i))),.list [],.lst (SqL.of (s3q _ _ hlb)) (trs_rdv (hLb.kept s3q.ls) hBa),.lst (SqL.of upd_same) .nil,hBs.ok (by decide),by rfl,_,rfl,?_⟩
     rw [trs_eqv]
     have hds4:=sq _ _ hds
     have hT4:=tups_kept sq.ls.1 hT
     generalize upd H3 q (.lst [])=H4 at sq s3q hds4 hT4 ⊢
     by_cases hg:givN (bodX is i (hdY is i))=0
     ·refine or_leaf ?_ ?_
      ·rcases givN_last (bodX is i (hdY is i)) with ⟨h0,_⟩ | ⟨t0,u,htu,hgu⟩
       ·exact .inl (decide_eq_true h0)
       ·refine .inr ⟨decide_eq_false (by rw [htu];simp),fun leaf=>?_⟩
        obtain ⟨z0,zu,ezs,tu,r0,etu,htu4⟩:=last_at (hLb.kept s3q.ls) htu
        refine ⟨_,rfl,1,rfl,lb,_,_,_,rfl,rfl,SqL.of (s3q _ _ hlb),(by rw [ezs];exact atI_last _ _),tu,_,_,_,etu,rfl,SqT.of htu4,atI_nat (j:=0) rfl,rfl,_,rfl,?_⟩
        refine iteTb ?_ leaf
        show (!decide (V.str u.kw=V.str "give"))=true
        rw [decide_eq_false (fun z=>hgu.mp hg (by injection z))];rfl
      ·refine ⟨_,rfl,.inl ⟨rfl,_,SqL.of hds4⟩,_,rfl,_,rfl,l,xs,_,.ref tq,rfl,rfl,SqL.of (s3q _ _ hl),atI_nat (by rw [List.getElem?_eq_getElem hix,etq]),tq,_,_,_,rfl,rfl,SqT.of (s3q _ _ htq),atI_nat (j:=1) rfl,(by show 2<=sizeLine;decide),fun q2 hq2=>?_⟩
       have s5:=same_upd (o:=.tup [.int ((20*i:Nat):Int),.str "give"]) hq2
       refine ⟨dl,ds,.ref q2,rfl,rfl,s5 _ _ hds4,small1000' (by omega),?_⟩
       refine hR2 _ _ ⟨same_open (s3q.trans s5) hdn,ds++[.ref q2],upd_same,by simp;omega,?_,rfl⟩
       rw [if_pos hg]
       exact tups_kept (tupS_upd (s5 _ _ hds4)) (tups_snoc (tups_kept s5.ls.1 hT4) (k:=kk (20*i) "give") upd_same)
     ·rcases givN_last (bodX is i (hdY is i)) with ⟨_,hg0⟩ | ⟨t0,u,htu,hgu⟩
      ·exact absurd hg0 hg
      rw [decide_eq_false (by rw [htu];simp)]
      refine iteF ?_
      obtain ⟨z0,zu,ezs,tu,r0,etu,htu4⟩:=last_at (hLb.kept s3q.ls) htu
      refine ⟨_,rfl,1,rfl,lb,_,_,_,rfl,rfl,SqL.of (s3q _ _ hlb),(by rw [ezs];exact atI_last _ _),tu,_,_,_,etu,rfl,SqT.of htu4,atI_nat (j:=0) rfl,rfl,_,rfl,?_⟩
      refine iteFb ?_ (hR2 _ _ ⟨s3q,ds,hds4,by omega,by rw [if_neg hg,List.append_nil];exact hT4,rfl⟩)
      have hk:u.kw="give":=Classical.byContradiction fun z=>hg (hgu.mpr z)
      show (!decide (V.str u.kw=V.str "give"))=false
      rw [decide_eq_true (by rw [hk])];rfl
    rintro σ' H4 ⟨s4,ds4,hds4,hdl4,hT4,rfl⟩
    have hiu:i<us.length:=by omega
    refine ⟨_,rfl,_,rfl,_,rfl,hh,us,_,us[i],rfl,rfl,SqL.of (s4 _ _ hus),atI_nat (List.getElem?_eq_getElem hiu),_,rfl,_,rfl,?_⟩
    refine ⟨us[i],hh,lb,hdY is i,hdsX is,zs,bodX is i (hdY is i),rfl,(huat i us[i] _ (List.getElem?_eq_getElem hiu) (hkg i hi)).kept s4.ls,(hdY_ok is i).1,hH.kept s4.ls,hk3,hkp,s4 _ _ hlb,hLb.kept s4.ls,hbl,bod_B is i,fun q ds5 H5 s5 hq5 hT5=>?_⟩
    have hlen5:ds5.length<=3:=by
     rw [hT5.1]
     have go:∀ ts:List Tr,((ts.map (dueB (hdY is i).ps (hdsX is) (hdY is i).kd)).flatten).length<=ts.length:=fun ts=>by
      induction ts with
      | nil=>simp
      | cons t ts ih =>
       have:(dueB (hdY is i).ps (hdsX is) (hdY is i).kd t).length<=1:=by unfold dueB;split<;>simp
       simp only [List.map_cons,List.flatten_cons,List.length_append,List.length_cons]
       omega
     exact Nat.le_trans (go _) hbl
    refine ⟨dl,q,ds4,ds5,rfl,rfl,s5 _ _ hds4,hq5,Nat.le_of_lt (small1000' (by omega)),fun l4 hl4=>?_⟩
    have s6:=same_upd (o:=.lst (ds4++ds5)) hl4
    refine ⟨(s4.trans s5).trans s6,l4,ds4++ds5,_,_,Same.free (s4.trans s5) hl4,upd_same,by simp;omega,?_,rfl⟩
    rw [List.range_succ,List.map_append,List.flatten_append,hpre]
    show TupsAt _ _ (pre++[dueD is i].flatten)
    rw [show [dueD is i].flatten=dueD is i by simp]
    unfold dueD
    rw [<- List.append_assoc]
    exact tups_kept s6.ls.1 (tups_app (tups_kept s5.ls.1 hT4) hT5)
   ·rintro σ' H3 ⟨s3,dl,ds,x4,x5,hdn,hds,hdsl,hT,rfl⟩
    exact hR _ _ ⟨s3,dl,ds,_,_,hdn,hds,by omega,hT,rfl⟩
  rintro σ' H3 ⟨s3,dl,ds,x4,x5,hdn,hds,hdsl,hT,rfl⟩
  refine cut_for (fun σ' H'=>Same H1 H'/\∃ ds x4 x5 x6,H' dl=some (.lst ds)/\TupsAt H' ds (dueA is)/\σ'=[some (.ref a),some (.ref l),some (.ref hh),some (.ref dl),x4,x5,x6,none]) (fun R hR=>?_) ?_
  ·obtain ⟨us,hus,hul,huat⟩:=hH
   have hH:HdsAt H1 hh (hdsX is):=⟨us,hus,hul,huat⟩
   refine ⟨_,rfl,_,rfl,hh,us,rfl,.inl (SqL.of (s3 _ _ hus)),_,rfl,l,xs,rfl,SqL.of (s3 _ _ hl),fun pc hpc=>?_⟩
   have ec:cutV xs (some (us.length:Int)) none=xs.drop (hnX is):=by rw [cut_from,hul,hkl]
   rw [ec]
   have s4:=same_upd (o:=.lst (xs.drop (hnX is))) hpc
   have h4:upd H3 pc (.lst (xs.drop (hnX is))) pc=some (.lst (xs.drop (hnX is))):=upd_same
   generalize upd H3 pc (.lst (xs.drop (hnX is)))=H4 at s4 h4 ⊢
   have hpt:pc≠dl:=fun z=>by rw [z,hds] at hpc;cases hpc
   have hLd:LAt H1 false (xs.drop (hnX is)) (telL is):=by
    have:=lAt_drop (hnX is) hL
    rw [tree_drop] at this;exact this
   have hdl2:=hLd.length
   refine ⟨pc,rfl,⟨_,SqL.of h4⟩,?_⟩
   refine for_list (K:=K) (a:=pc) (xs:=xs.drop (hnX is)) (fun i σ' H'=>Same H1 H'/\H' pc=some (.lst (xs.drop (hnX is)))/\∃ ds x4 x5 x6,H' dl=some (.lst ds)/\ds.length<=12+i/\TupsAt H' ds (((List.range (hnX is)).map (dueD is)).flatten++(((telL is).take i).map (dueB [] (hdsX is) "")).flatten)/\σ'=[some (.ref a),some (.ref l),some (.ref hh),some (.ref dl),x4,x5,x6,none]) ⟨s3.trans s4,h4,ds,_,_,_,s4 _ _ hds,hdsl,by simpa using tups_kept s4.ls.1 hT,rfl⟩ (fun i σ' H' _ h=>SqL.of h.2.1) ?_ ?_
   ·rintro i x σ' H5 hx ⟨s5,hpc5,ds,x4,x5,x6,hds,hdsl,hT,rfl⟩
    obtain ⟨t,ht,hO⟩:=hLd.get hx
    obtain ⟨hi',et⟩:=List.getElem?_eq_some_iff.mp ht
    obtain ⟨j,c,hj8,rfl⟩:=tel_mem (List.mem_of_getElem? ht)
    obtain ⟨tq,ve,rfl,htq,hE⟩:∃ tq ve,x=.ref tq/\H1 tq=some (.tup [.str "tell",.int ((100+j:Nat):Int),ve])/\ExAt H1 ve (exG [] (hdsX is) 3 (mixI c ((j:Nat):Int))):=s_tell (o_pl hO)
    have hXe:=tel_ok is j c
    dsimp only [gName]
    refine ⟨_,rfl,tq,_,_,_,rfl,rfl,SqT.of (s5 _ _ htq),atI_nat (j:=2) rfl,Nat.zero_le _,fun pe hpe=>?_⟩
    have s6:=same_upd (o:=.lst []) hpe
    have s56:=s5.trans s6
    refine ⟨_,rfl,ve,pe,hh,[],hdsX is,_,rfl,(hE.kept s56.ls.1),hXe.wf,⟨[],upd_same,rfl,fun j u q x=>by simp at x⟩,by simp,hH.kept s56.ls,hk3,hkp,by have:=hXe.dp;omega,fun H7 s7=>⟨_,rfl,?_⟩⟩
    have s57:=s56.trans s7
    have s67:=s6.trans s7
    have hds7:=s67 _ _ hds
    have hpc7:=s67 _ _ hpc5
    have hT7:=tups_kept s67.ls.1 hT
    have etk:(((telL is).take (i+1)).map (dueB [] (hdsX is) "")).flatten=(((telL is).take i).map (dueB [] (hdsX is) "")).flatten++dueB [] (hdsX is) "" (telX is j c):=by
     rw [List.take_succ_eq_append_getElem hi',et];simp
    have edb:dueB [] (hdsX is) "" (telX is j c)=if wrL [] (hdsX is) (exG [] (hdsX is) 3 (mixI c ((j:Nat):Int)))=true then [kk (100+j) "kind"] else []:=rfl
    rw [etk,edb,<- List.append_assoc]
    cases hwb:wrL [] (hdsX is) (exG [] (hdsX is) 3 (mixI c ((j:Nat):Int))) with
    | false =>
     refine iteF ?_
     exact ⟨s57,hpc7,ds,_,_,_,hds7,by omega,by simpa using hT7,rfl⟩
    | true =>
     refine iteT ?_
     have hi8:i<11:=by have:=htl.1;omega
     refine ⟨_,rfl,.inl ⟨rfl,_,SqL.of hds7⟩,_,rfl,tq,_,_,_,rfl,rfl,SqT.of (s57 _ _ htq),atI_nat (j:=1) rfl,(by show 2<=sizeLine;decide),fun q hq=>?_⟩
     have sq:=same_upd (o:=.tup [.int ((100+j:Nat):Int),.str "kind"]) hq
     refine ⟨dl,ds,.ref q,rfl,rfl,sq _ _ hds7,small1000' (by omega),?_⟩
     refine ⟨same_open (s57.trans sq) hdn,by rw [upd_ne hpt];exact sq _ _ hpc7,ds++[.ref q],_,_,_,upd_same,by simp;omega,?_,rfl⟩
     refine tups_kept (tupS_upd (sq _ _ hds7)) ?_
     exact tups_snoc (tups_kept sq.ls.1 hT7) (k:=kk (100+j) "kind") upd_same
   ·rintro σ' H5 ⟨s5,_,ds,x4,x5,x6,hds,hdsl,hT,rfl⟩
    rw [List.take_of_length_le (by omega)] at hT
    exact hR _ _ ⟨s5,ds,_,_,_,hds,hT,rfl⟩
  rintro σ' H4 ⟨s4,ds,x4,x5,x6,hds,hT,rfl⟩
  have hkd:∀ k∈srtK (dueA is),Shd 1 (kD k):=fun k hk=>kk_shd (hwd k (srtK_mem hk))
  have shl:SeqAt.shaped (.list ((srtK (dueA is)).map kD))=true:=(Shd.list (n:=1) fun d hd=>by obtain ⟨k,hk,rfl⟩:=List.mem_map.mp hd;exact hkd k hk).ok (by decide)
  have er:PyData.eqv (.list ((srtK (dueA is)).map kD)) (.list ((srtK (dueA is)).map kD))=true:=by simp only [PyData.eqv];exact eqvAll_refl _
  have hsh:∀ d∈dueA is,d.map isI=[true,false]:=fun d hd=>by
   obtain ⟨r,w,rfl,_⟩:=hwd d hd
   rfl
  refine ⟨_,rfl,l,xs,treeX is,rfl,s4 _ _ hl,hL.kept s4.ls,hok,by rw [efk];omega,fun p ys H5 l5 hp hTp hno=>?_⟩
  rw [efk] at hTp
  dsimp only [gName]
  have hds5:=l5.2 _ _ hds
  have hT5:TupsAt H5 ds (dueA is):=tups_kept l5.1 hT
  refine ⟨_,rfl,.ref p,_,true,rfl,.lst hp,by rfl,_,rfl,iteT ?_⟩
  refine ⟨_,rfl,_,rfl,dl,ds,dueA is,[true,false],rfl,SqL.of hds5,by have:=hT5.1;omega,hT5,hsh,by simp,fun p2 hp2=>?_⟩
  have s6:=same_upd (o:=.lst (srt (dueA is) ds)) hp2
  have hD6:=tups_kept s6.ls.1 (srt_tups hT5)
  refine ⟨.list _,.list _,.lst (SqL.of (s6 _ _ hp)) (rdv_tups (tups_kept s6.ls.1 hTp)),.lst (SqL.of upd_same) (rdv_tups hD6),shl,shl,?_⟩
  rw [er]
  refine ⟨true,rfl,iteT ?_⟩
  have l6:=l5.trans s6.ls
  refine ⟨_,rfl,_,rfl,a,is,rfl,l6.seq (s4.ls.seq (s1.ls.seq hS)),fun t' l' hh' xs' H7 s7 ht' hl' hL' _=>?_⟩
  refine ⟨t',_,_,_,rfl,rfl,SqT.of ht',atI_nat (j:=0) rfl,?_⟩
  have hl7:=s7 _ _ (l6.2 _ _ (s4 _ _ hl))
  have hL7:=((hL.kept s4.ls).kept l6).kept s7.ls
  refine ⟨.list (trsD (treeX is)),.list (trsD (treeX is)),.lst (SqL.of hl7) (trs_rdv hL7 hasc),.lst (SqL.of hl') (trs_rdv hL' hasc),hshd.ok (by decide),hshd.ok (by decide),?_⟩
  rw [hshd.refl]
  exact kq _
end
theorem all_mk {l:PySem.W.OpenLaw} {w:World} {K:PySem.W.Frag} {h:Heap} {mg:Str->Option Value} {fa f_ZQ f_ZK f_ZN f_Zt f_ZO f_Zu f_Zw f_Zj f_Zk f_Zx f_Zh f_Zy f_Zv f_ZE f_ZL f_ZF f_ZR f_ZA f_ZP f_Zn f_Zr f_Zs f_ZB f_ZC f_ZG f_ZH f_ZD f_ZI f_ZM f_ZJ f_Zp f_Zl f_Zm f_Zb f_Zd f_Ze f_Zf f_Zq f_Zg f_Zc f_Za f_law c_KindLook d_MAKES d_ASKS q_PLAIN_KINDS:Addr} (X:K.In h) (G:h.Ns mainGlobals mg) (hfa:mg "law"=some (.ref fa))
  {od_ZQ an_ZQ od_ZK an_ZK od_ZN an_ZN od_Zt an_Zt od_ZO an_ZO od_Zu an_Zu od_Zw an_Zw od_Zj an_Zj od_Zk an_Zk od_Zx an_Zx od_Zh an_Zh od_Zy an_Zy od_Zv an_Zv od_ZE an_ZE od_ZL an_ZL od_ZF an_ZF od_ZR an_ZR od_ZA an_ZA od_ZP an_ZP od_Zn an_Zn od_Zr an_Zr od_Zs an_Zs od_ZB an_ZB od_ZC an_ZC od_ZG an_ZG od_ZH an_ZH od_ZD an_ZD od_ZI an_ZI od_ZM an_ZM od_ZJ an_ZJ od_Zp an_Zp od_Zl an_Zl od_Zm an_Zm od_Zb an_Zb od_Zd an_Zd od_Ze an_Ze od_Zf an_Zf od_Zq an_Zq od_Zg an_Zg od_Zc an_Zc od_Za an_Za od_law an_law:Option Addr} {sl_ZQ sl_ZK sl_ZN sl_Zt sl_ZO sl_Zu sl_Zw sl_Zj sl_Zk sl_Zx sl_Zh sl_Zy sl_Zv sl_ZE sl_ZL sl_ZF sl_ZR sl_ZA sl_ZP sl_Zn sl_Zr sl_Zs sl_ZB sl_ZC sl_ZG sl_ZH sl_ZD sl_ZI sl_ZM sl_ZJ sl_Zp sl_Zl sl_Zm sl_Zb sl_Zd sl_Ze sl_Zf sl_Zq sl_Zg sl_Zc sl_Za sl_law:Array (Option Value)} {oc_ZQ kV_ZQ dc_ZQ pm_ZQ cd_ZQ ct_ZQ oc_ZK kV_ZK dc_ZK pm_ZK cd_ZK ct_ZK oc_ZN kV_ZN dc_ZN pm_ZN cd_ZN ct_ZN oc_Zt kV_Zt dc_Zt pm_Zt cd_Zt ct_Zt oc_ZO kV_ZO dc_ZO pm_ZO cd_ZO ct_ZO oc_Zu kV_Zu dc_Zu pm_Zu cd_Zu ct_Zu oc_Zw kV_Zw dc_Zw pm_Zw cd_Zw ct_Zw oc_Zj kV_Zj dc_Zj pm_Zj cd_Zj ct_Zj oc_Zk kV_Zk dc_Zk pm_Zk cd_Zk ct_Zk oc_Zx kV_Zx dc_Zx pm_Zx cd_Zx ct_Zx oc_Zh kV_Zh dc_Zh pm_Zh cd_Zh ct_Zh oc_Zy kV_Zy dc_Zy pm_Zy cd_Zy ct_Zy oc_Zv kV_Zv dc_Zv pm_Zv cd_Zv ct_Zv oc_ZE kV_ZE dc_ZE pm_ZE cd_ZE ct_ZE oc_ZL kV_ZL dc_ZL pm_ZL cd_ZL ct_ZL oc_ZF kV_ZF dc_ZF pm_ZF cd_ZF ct_ZF oc_ZR kV_ZR dc_ZR pm_ZR cd_ZR ct_ZR oc_ZA kV_ZA dc_ZA pm_ZA cd_ZA ct_ZA oc_ZP kV_ZP dc_ZP pm_ZP cd_ZP ct_ZP oc_Zn kV_Zn dc_Zn pm_Zn cd_Zn ct_Zn oc_Zr kV_Zr dc_Zr pm_Zr cd_Zr ct_Zr oc_Zs kV_Zs dc_Zs pm_Zs cd_Zs ct_Zs oc_ZB kV_ZB dc_ZB pm_ZB cd_ZB ct_ZB oc_ZC kV_ZC dc_ZC pm_ZC cd_ZC ct_ZC oc_ZG kV_ZG dc_ZG pm_ZG cd_ZG ct_ZG oc_ZH kV_ZH dc_ZH pm_ZH cd_ZH ct_ZH oc_ZD kV_ZD dc_ZD pm_ZD cd_ZD ct_ZD oc_ZI kV_ZI dc_ZI pm_ZI cd_ZI ct_ZI oc_ZM kV_ZM dc_ZM pm_ZM cd_ZM ct_ZM oc_ZJ kV_ZJ dc_ZJ pm_ZJ cd_ZJ ct_ZJ oc_Zp kV_Zp dc_Zp pm_Zp cd_Zp ct_Zp oc_Zl kV_Zl dc_Zl pm_Zl cd_Zl ct_Zl oc_Zm kV_Zm dc_Zm pm_Zm cd_Zm ct_Zm oc_Zb kV_Zb dc_Zb pm_Zb cd_Zb ct_Zb oc_Zd kV_Zd dc_Zd pm_Zd cd_Zd ct_Zd oc_Ze kV_Ze dc_Ze pm_Ze cd_Ze ct_Ze oc_Zf kV_Zf dc_Zf pm_Zf cd_Zf ct_Zf oc_Zq kV_Zq dc_Zq pm_Zq cd_Zq ct_Zq oc_Zg kV_Zg dc_Zg pm_Zg cd_Zg ct_Zg oc_Zc kV_Zc dc_Zc pm_Zc cd_Zc ct_Zc oc_Za kV_Za dc_Za pm_Za cd_Za ct_Za oc_law kV_law dc_law pm_law cd_law ct_law:Value}
  {h_MAKES_0 h_MAKES_1 h_MAKES_2 h_MAKES_3 h_MAKES_4 h_MAKES_5 h_MAKES_6 h_MAKES_7 h_MAKES_8 h_MAKES_9:Int} {t_MAKES_0 u_MAKES_0 t_MAKES_1 u_MAKES_1 t_MAKES_2 u_MAKES_2 t_MAKES_3 u_MAKES_3 t_MAKES_4 u_MAKES_4 t_MAKES_5 u_MAKES_5 t_MAKES_6 u_MAKES_6 t_MAKES_7 u_MAKES_7 t_MAKES_8 u_MAKES_8 t_MAKES_9 u_MAKES_9:Tok} {ep_MAKES:Nat}
  {h_ASKS_0 h_ASKS_1 h_ASKS_2 h_ASKS_3 h_ASKS_4 h_ASKS_5 h_ASKS_6 h_ASKS_7:Int} {t_ASKS_0 u_ASKS_0 t_ASKS_1 u_ASKS_1 t_ASKS_2 u_ASKS_2 t_ASKS_3 u_ASKS_3 t_ASKS_4 u_ASKS_4 t_ASKS_5 u_ASKS_5 t_ASKS_6 u_ASKS_6 t_ASKS_7 u_ASKS_7:Tok} {ep_ASKS:Nat}
  {t_PLAIN_KINDS_0 t_PLAIN_KINDS_1:Tok} {od_PLAIN_KINDS:Option Addr} {n_PLAIN_KINDS:Nat} {sl_PLAIN_KINDS:Array (Option Value)}
  (aC_KindLook:PySem.W.nsIn K mainGlobals "KindLook"=some (some (.ref c_KindLook)))
  (a_ZQ:PySem.W.nsIn K mainGlobals "least"=some (some (.ref f_ZQ)))
  (l_ZQ:K.lookup f_ZQ=some ⟨oc_ZQ,od_ZQ,.func (PySem.W.fnOf "least" "least" (defArgs st_ZQ) (defBody st_ZQ) (defScope st_ZQ) .none kV_ZQ dc_ZQ pm_ZQ an_ZQ cd_ZQ ct_ZQ),sl_ZQ⟩)
  (c_ZQ':PySem.W.codeIn K cd_ZQ "least"=true)
  (k_ZQ:PySem.W.keepIn K (.ref f_ZQ)=true)
  (a_ZK:PySem.W.nsIn K mainGlobals "without"=some (some (.ref f_ZK)))
  (l_ZK:K.lookup f_ZK=some ⟨oc_ZK,od_ZK,.func (PySem.W.fnOf "without" "without" (defArgs st_ZK) (defBody st_ZK) (defScope st_ZK) .none kV_ZK dc_ZK pm_ZK an_ZK cd_ZK ct_ZK),sl_ZK⟩)
  (c_ZK':PySem.W.codeIn K cd_ZK "without"=true)
  (k_ZK:PySem.W.keepIn K (.ref f_ZK)=true)
  (a_ZN:PySem.W.nsIn K mainGlobals "all_of"=some (some (.ref f_ZN)))
  (l_ZN:K.lookup f_ZN=some ⟨oc_ZN,od_ZN,.func (PySem.W.fnOf "all_of" "all_of" (defArgs st_ZN) (defBody st_ZN) (defScope st_ZN) .none kV_ZN dc_ZN pm_ZN an_ZN cd_ZN ct_ZN),sl_ZN⟩)
  (c_ZN':PySem.W.codeIn K cd_ZN "all_of"=true)
  (k_ZN:PySem.W.keepIn K (.ref f_ZN)=true)
  (a_Zt:PySem.W.nsIn K mainGlobals "kept_pairs"=some (some (.ref f_Zt)))
  (l_Zt:K.lookup f_Zt=some ⟨oc_Zt,od_Zt,.func (PySem.W.fnOf "kept_pairs" "kept_pairs" (defArgs st_Zt) (defBody st_Zt) (defScope st_Zt) .none kV_Zt dc_Zt pm_Zt an_Zt cd_Zt ct_Zt),sl_Zt⟩)
  (c_Zt':PySem.W.codeIn K cd_Zt "kept_pairs"=true)
  (k_Zt:PySem.W.keepIn K (.ref f_Zt)=true)
  (a_ZO:PySem.W.nsIn K mainGlobals "add_to"=some (some (.ref f_ZO)))
  (l_ZO:K.lookup f_ZO=some ⟨oc_ZO,od_ZO,.func (PySem.W.fnOf "add_to" "add_to" (defArgs st_ZO) (defBody st_ZO) (defScope st_ZO) .none kV_ZO dc_ZO pm_ZO an_ZO cd_ZO ct_ZO),sl_ZO⟩)
  (c_ZO':PySem.W.codeIn K cd_ZO "add_to"=true)
  (k_ZO:PySem.W.keepIn K (.ref f_ZO)=true)
  (a_Zu:PySem.W.nsIn K mainGlobals "with_masks"=some (some (.ref f_Zu)))
  (l_Zu:K.lookup f_Zu=some ⟨oc_Zu,od_Zu,.func (PySem.W.fnOf "with_masks" "with_masks" (defArgs st_Zu) (defBody st_Zu) (defScope st_Zu) .none kV_Zu dc_Zu pm_Zu an_Zu cd_Zu ct_Zu),sl_Zu⟩)
  (c_Zu':PySem.W.codeIn K cd_Zu "with_masks"=true)
  (k_Zu:PySem.W.keepIn K (.ref f_Zu)=true)
  (a_Zw:PySem.W.nsIn K mainGlobals "kept_tree"=some (some (.ref f_Zw)))
  (l_Zw:K.lookup f_Zw=some ⟨oc_Zw,od_Zw,.func (PySem.W.fnOf "kept_tree" "kept_tree" (defArgs st_Zw) (defBody st_Zw) (defScope st_Zw) .none kV_Zw dc_Zw pm_Zw an_Zw cd_Zw ct_Zw),sl_Zw⟩)
  (c_Zw':PySem.W.codeIn K cd_Zw "kept_tree"=true)
  (k_Zw:PySem.W.keepIn K (.ref f_Zw)=true)
  (a_Zj:PySem.W.nsIn K mainGlobals "kept_statement"=some (some (.ref f_Zj)))
  (l_Zj:K.lookup f_Zj=some ⟨oc_Zj,od_Zj,.func (PySem.W.fnOf "kept_statement" "kept_statement" (defArgs st_Zj) (defBody st_Zj) (defScope st_Zj) .none kV_Zj dc_Zj pm_Zj an_Zj cd_Zj ct_Zj),sl_Zj⟩)
  (c_Zj':PySem.W.codeIn K cd_Zj "kept_statement"=true)
  (k_Zj:PySem.W.keepIn K (.ref f_Zj)=true)
  (a_Zk:PySem.W.nsIn K mainGlobals "row_and_least"=some (some (.ref f_Zk)))
  (l_Zk:K.lookup f_Zk=some ⟨oc_Zk,od_Zk,.func (PySem.W.fnOf "row_and_least" "row_and_least" (defArgs st_Zk) (defBody st_Zk) (defScope st_Zk) .none kV_Zk dc_Zk pm_Zk an_Zk cd_Zk ct_Zk),sl_Zk⟩)
  (c_Zk':PySem.W.codeIn K cd_Zk "row_and_least"=true)
  (k_Zk:PySem.W.keepIn K (.ref f_Zk)=true)
  (a_Zx:PySem.W.nsIn K mainGlobals "shared_of"=some (some (.ref f_Zx)))
  (l_Zx:K.lookup f_Zx=some ⟨oc_Zx,od_Zx,.func (PySem.W.fnOf "shared_of" "shared_of" (defArgs st_Zx) (defBody st_Zx) (defScope st_Zx) .none kV_Zx dc_Zx pm_Zx an_Zx cd_Zx ct_Zx),sl_Zx⟩)
  (c_Zx':PySem.W.codeIn K cd_Zx "shared_of"=true)
  (k_Zx:PySem.W.keepIn K (.ref f_Zx)=true)
  (a_Zh:PySem.W.nsIn K mainGlobals "shared_statement"=some (some (.ref f_Zh)))
  (l_Zh:K.lookup f_Zh=some ⟨oc_Zh,od_Zh,.func (PySem.W.fnOf "shared_statement" "shared_statement" (defArgs st_Zh) (defBody st_Zh) (defScope st_Zh) .none kV_Zh dc_Zh pm_Zh an_Zh cd_Zh ct_Zh),sl_Zh⟩)
  (c_Zh':PySem.W.codeIn K cd_Zh "shared_statement"=true)
  (k_Zh:PySem.W.keepIn K (.ref f_Zh)=true)
  (a_Zy:PySem.W.nsIn K mainGlobals "blocks_of"=some (some (.ref f_Zy)))
  (l_Zy:K.lookup f_Zy=some ⟨oc_Zy,od_Zy,.func (PySem.W.fnOf "blocks_of" "blocks_of" (defArgs st_Zy) (defBody st_Zy) (defScope st_Zy) .none kV_Zy dc_Zy pm_Zy an_Zy cd_Zy ct_Zy),sl_Zy⟩)
  (c_Zy':PySem.W.codeIn K cd_Zy "blocks_of"=true)
  (k_Zy:PySem.W.keepIn K (.ref f_Zy)=true)
  (a_Zv:PySem.W.nsIn K mainGlobals "first_rows"=some (some (.ref f_Zv)))
  (l_Zv:K.lookup f_Zv=some ⟨oc_Zv,od_Zv,.func (PySem.W.fnOf "first_rows" "first_rows" (defArgs st_Zv) (defBody st_Zv) (defScope st_Zv) .none kV_Zv dc_Zv pm_Zv an_Zv cd_Zv ct_Zv),sl_Zv⟩)
  (c_Zv':PySem.W.codeIn K cd_Zv "first_rows"=true)
  (k_Zv:PySem.W.keepIn K (.ref f_Zv)=true)
  (a_ZE:PySem.W.nsIn K mainGlobals "pairs_of"=some (some (.ref f_ZE)))
  (l_ZE:K.lookup f_ZE=some ⟨oc_ZE,od_ZE,.func (PySem.W.fnOf "pairs_of" "pairs_of" (defArgs st_ZE) (defBody st_ZE) (defScope st_ZE) .none kV_ZE dc_ZE pm_ZE an_ZE cd_ZE ct_ZE),sl_ZE⟩)
  (c_ZE':PySem.W.codeIn K cd_ZE "pairs_of"=true)
  (k_ZE:PySem.W.keepIn K (.ref f_ZE)=true)
  (a_ZL:PySem.W.nsIn K mainGlobals "expr_of"=some (some (.ref f_ZL)))
  (l_ZL:K.lookup f_ZL=some ⟨oc_ZL,od_ZL,.func (PySem.W.fnOf "expr_of" "expr_of" (defArgs st_ZL) (defBody st_ZL) (defScope st_ZL) .none kV_ZL dc_ZL pm_ZL an_ZL cd_ZL ct_ZL),sl_ZL⟩)
  (c_ZL':PySem.W.codeIn K cd_ZL "expr_of"=true)
  (k_ZL:PySem.W.keepIn K (.ref f_ZL)=true)
  (a_ZF:PySem.W.nsIn K mainGlobals "exprs_in"=some (some (.ref f_ZF)))
  (l_ZF:K.lookup f_ZF=some ⟨oc_ZF,od_ZF,.func (PySem.W.fnOf "exprs_in" "exprs_in" (defArgs st_ZF) (defBody st_ZF) (defScope st_ZF) .none kV_ZF dc_ZF pm_ZF an_ZF cd_ZF ct_ZF),sl_ZF⟩)
  (c_ZF':PySem.W.codeIn K cd_ZF "exprs_in"=true)
  (k_ZF:PySem.W.keepIn K (.ref f_ZF)=true)
  (a_ZR:PySem.W.nsIn K mainGlobals "unfit"=some (some (.ref f_ZR)))
  (l_ZR:K.lookup f_ZR=some ⟨oc_ZR,od_ZR,.func (PySem.W.fnOf "unfit" "unfit" (defArgs st_ZR) (defBody st_ZR) (defScope st_ZR) .none kV_ZR dc_ZR pm_ZR an_ZR cd_ZR ct_ZR),sl_ZR⟩)
  (c_ZR':PySem.W.codeIn K cd_ZR "unfit"=true)
  (k_ZR:PySem.W.keepIn K (.ref f_ZR)=true)
  (a_ZA:PySem.W.nsIn K mainGlobals "is_record"=some (some (.ref f_ZA)))
  (l_ZA:K.lookup f_ZA=some ⟨oc_ZA,od_ZA,.func (PySem.W.fnOf "is_record" "is_record" (defArgs st_ZA) (defBody st_ZA) (defScope st_ZA) .none kV_ZA dc_ZA pm_ZA an_ZA cd_ZA ct_ZA),sl_ZA⟩)
  (c_ZA':PySem.W.codeIn K cd_ZA "is_record"=true)
  (k_ZA:PySem.W.keepIn K (.ref f_ZA)=true)
  (a_ZP:PySem.W.nsIn K mainGlobals "giving"=some (some (.ref f_ZP)))
  (l_ZP:K.lookup f_ZP=some ⟨oc_ZP,od_ZP,.func (PySem.W.fnOf "giving" "giving" (defArgs st_ZP) (defBody st_ZP) (defScope st_ZP) .none kV_ZP dc_ZP pm_ZP an_ZP cd_ZP ct_ZP),sl_ZP⟩)
  (c_ZP':PySem.W.codeIn K cd_ZP "giving"=true)
  (k_ZP:PySem.W.keepIn K (.ref f_ZP)=true)
  (a_Zn:PySem.W.nsIn K mainGlobals "shared_kinds"=some (some (.ref f_Zn)))
  (l_Zn:K.lookup f_Zn=some ⟨oc_Zn,od_Zn,.func (PySem.W.fnOf "shared_kinds" "shared_kinds" (defArgs st_Zn) (defBody st_Zn) (defScope st_Zn) .none kV_Zn dc_Zn pm_Zn an_Zn cd_Zn ct_Zn),sl_Zn⟩)
  (c_Zn':PySem.W.codeIn K cd_Zn "shared_kinds"=true)
  (k_Zn:PySem.W.keepIn K (.ref f_Zn)=true)
  (a_Zr:PySem.W.nsIn K mainGlobals "plain_kinds"=some (some (.ref f_Zr)))
  (l_Zr:K.lookup f_Zr=some ⟨oc_Zr,od_Zr,.func (PySem.W.fnOf "plain_kinds" "plain_kinds" (defArgs st_Zr) (defBody st_Zr) (defScope st_Zr) .none kV_Zr dc_Zr pm_Zr an_Zr cd_Zr ct_Zr),sl_Zr⟩)
  (c_Zr':PySem.W.codeIn K cd_Zr "plain_kinds"=true)
  (k_Zr:PySem.W.keepIn K (.ref f_Zr)=true)
  (a_Zs:PySem.W.nsIn K mainGlobals "_law_cell_at"=some (some (.ref f_Zs)))
  (l_Zs:K.lookup f_Zs=some ⟨oc_Zs,od_Zs,.func (PySem.W.fnOf "_law_cell_at" "_law_cell_at" (defArgs st_Zs) (defBody st_Zs) (defScope st_Zs) .none kV_Zs dc_Zs pm_Zs an_Zs cd_Zs ct_Zs),sl_Zs⟩)
  (c_Zs':PySem.W.codeIn K cd_Zs "_law_cell_at"=true)
  (k_Zs:PySem.W.keepIn K (.ref f_Zs)=true)
  (a_ZB:PySem.W.nsIn K mainGlobals "_law_mixed"=some (some (.ref f_ZB)))
  (l_ZB:K.lookup f_ZB=some ⟨oc_ZB,od_ZB,.func (PySem.W.fnOf "_law_mixed" "_law_mixed" (defArgs st_ZB) (defBody st_ZB) (defScope st_ZB) .none kV_ZB dc_ZB pm_ZB an_ZB cd_ZB ct_ZB),sl_ZB⟩)
  (c_ZB':PySem.W.codeIn K cd_ZB "_law_mixed"=true)
  (k_ZB:PySem.W.keepIn K (.ref f_ZB)=true)
  (a_ZC:PySem.W.nsIn K mainGlobals "_law_names"=some (some (.ref f_ZC)))
  (l_ZC:K.lookup f_ZC=some ⟨oc_ZC,od_ZC,.func (PySem.W.fnOf "_law_names" "_law_names" (defArgs st_ZC) (defBody st_ZC) (defScope st_ZC) .none kV_ZC dc_ZC pm_ZC an_ZC cd_ZC ct_ZC),sl_ZC⟩)
  (c_ZC':PySem.W.codeIn K cd_ZC "_law_names"=true)
  (k_ZC:PySem.W.keepIn K (.ref f_ZC)=true)
  (a_ZG:PySem.W.nsIn K mainGlobals "_law_expr"=some (some (.ref f_ZG)))
  (l_ZG:K.lookup f_ZG=some ⟨oc_ZG,od_ZG,.func (PySem.W.fnOf "_law_expr" "_law_expr" (defArgs st_ZG) (defBody st_ZG) (defScope st_ZG) .none kV_ZG dc_ZG pm_ZG an_ZG cd_ZG ct_ZG),sl_ZG⟩)
  (c_ZG':PySem.W.codeIn K cd_ZG "_law_expr"=true)
  (k_ZG:PySem.W.keepIn K (.ref f_ZG)=true)
  (a_ZH:PySem.W.nsIn K mainGlobals "_law_kind"=some (some (.ref f_ZH)))
  (l_ZH:K.lookup f_ZH=some ⟨oc_ZH,od_ZH,.func (PySem.W.fnOf "_law_kind" "_law_kind" (defArgs st_ZH) (defBody st_ZH) (defScope st_ZH) .none kV_ZH dc_ZH pm_ZH an_ZH cd_ZH ct_ZH),sl_ZH⟩)
  (c_ZH':PySem.W.codeIn K cd_ZH "_law_kind"=true)
  (k_ZH:PySem.W.keepIn K (.ref f_ZH)=true)
  (a_ZD:PySem.W.nsIn K mainGlobals "_law_wrong"=some (some (.ref f_ZD)))
  (l_ZD:K.lookup f_ZD=some ⟨oc_ZD,od_ZD,.func (PySem.W.fnOf "_law_wrong" "_law_wrong" (defArgs st_ZD) (defBody st_ZD) (defScope st_ZD) .none kV_ZD dc_ZD pm_ZD an_ZD cd_ZD ct_ZD),sl_ZD⟩)
  (c_ZD':PySem.W.codeIn K cd_ZD "_law_wrong"=true)
  (k_ZD:PySem.W.keepIn K (.ref f_ZD)=true)
  (a_ZI:PySem.W.nsIn K mainGlobals "_law_head"=some (some (.ref f_ZI)))
  (l_ZI:K.lookup f_ZI=some ⟨oc_ZI,od_ZI,.func (PySem.W.fnOf "_law_head" "_law_head" (defArgs st_ZI) (defBody st_ZI) (defScope st_ZI) .none kV_ZI dc_ZI pm_ZI an_ZI cd_ZI ct_ZI),sl_ZI⟩)
  (c_ZI':PySem.W.codeIn K cd_ZI "_law_head"=true)
  (k_ZI:PySem.W.keepIn K (.ref f_ZI)=true)
  (a_ZM:PySem.W.nsIn K mainGlobals "_law_row"=some (some (.ref f_ZM)))
  (l_ZM:K.lookup f_ZM=some ⟨oc_ZM,od_ZM,.func (PySem.W.fnOf "_law_row" "_law_row" (defArgs st_ZM) (defBody st_ZM) (defScope st_ZM) .none kV_ZM dc_ZM pm_ZM an_ZM cd_ZM ct_ZM),sl_ZM⟩)
  (c_ZM':PySem.W.codeIn K cd_ZM "_law_row"=true)
  (k_ZM:PySem.W.keepIn K (.ref f_ZM)=true)
  (a_ZJ:PySem.W.nsIn K mainGlobals "_law_tree"=some (some (.ref f_ZJ)))
  (l_ZJ:K.lookup f_ZJ=some ⟨oc_ZJ,od_ZJ,.func (PySem.W.fnOf "_law_tree" "_law_tree" (defArgs st_ZJ) (defBody st_ZJ) (defScope st_ZJ) .none kV_ZJ dc_ZJ pm_ZJ an_ZJ cd_ZJ ct_ZJ),sl_ZJ⟩)
  (c_ZJ':PySem.W.codeIn K cd_ZJ "_law_tree"=true)
  (k_ZJ:PySem.W.keepIn K (.ref f_ZJ)=true)
  (a_Zp:PySem.W.nsIn K mainGlobals "_law_body_due"=some (some (.ref f_Zp)))
  (l_Zp:K.lookup f_Zp=some ⟨oc_Zp,od_Zp,.func (PySem.W.fnOf "_law_body_due" "_law_body_due" (defArgs st_Zp) (defBody st_Zp) (defScope st_Zp) .none kV_Zp dc_Zp pm_Zp an_Zp cd_Zp ct_Zp),sl_Zp⟩)
  (c_Zp':PySem.W.codeIn K cd_Zp "_law_body_due"=true)
  (k_Zp:PySem.W.keepIn K (.ref f_Zp)=true)
  (a_Zl:PySem.W.findIn K (.ref c_KindLook) "__init__"=some (some (.ref f_Zl)))
  (i_Zl:PySem.W.isFn K (.ref f_Zl)=true)
  (l_Zl:K.lookup f_Zl=some ⟨oc_Zl,od_Zl,.func (PySem.W.fnOf "__init__" "KindLook.__init__" (defArgs st_Zl) (defBody st_Zl) (defScope st_Zl) .none kV_Zl dc_Zl pm_Zl an_Zl cd_Zl ct_Zl),sl_Zl⟩)
  (c_Zl':PySem.W.codeIn K cd_Zl "KindLook.__init__"=true)
  (k_Zl:PySem.W.keepIn K (.ref f_Zl)=true)
  (a_Zm:PySem.W.findIn K (.ref c_KindLook) "note"=some (some (.ref f_Zm)))
  (i_Zm:PySem.W.isFn K (.ref f_Zm)=true)
  (l_Zm:K.lookup f_Zm=some ⟨oc_Zm,od_Zm,.func (PySem.W.fnOf "note" "KindLook.note" (defArgs st_Zm) (defBody st_Zm) (defScope st_Zm) .none kV_Zm dc_Zm pm_Zm an_Zm cd_Zm ct_Zm),sl_Zm⟩)
  (c_Zm':PySem.W.codeIn K cd_Zm "KindLook.note"=true)
  (k_Zm:PySem.W.keepIn K (.ref f_Zm)=true)
  (a_Zb:PySem.W.findIn K (.ref c_KindLook) "look_body"=some (some (.ref f_Zb)))
  (i_Zb:PySem.W.isFn K (.ref f_Zb)=true)
  (l_Zb:K.lookup f_Zb=some ⟨oc_Zb,od_Zb,.func (PySem.W.fnOf "look_body" "KindLook.look_body" (defArgs st_Zb) (defBody st_Zb) (defScope st_Zb) .none kV_Zb dc_Zb pm_Zb an_Zb cd_Zb ct_Zb),sl_Zb⟩)
  (c_Zb':PySem.W.codeIn K cd_Zb "KindLook.look_body"=true)
  (k_Zb:PySem.W.keepIn K (.ref f_Zb)=true)
  (a_Zd:PySem.W.findIn K (.ref c_KindLook) "look_def"=some (some (.ref f_Zd)))
  (i_Zd:PySem.W.isFn K (.ref f_Zd)=true)
  (l_Zd:K.lookup f_Zd=some ⟨oc_Zd,od_Zd,.func (PySem.W.fnOf "look_def" "KindLook.look_def" (defArgs st_Zd) (defBody st_Zd) (defScope st_Zd) .none kV_Zd dc_Zd pm_Zd an_Zd cd_Zd ct_Zd),sl_Zd⟩)
  (c_Zd':PySem.W.codeIn K cd_Zd "KindLook.look_def"=true)
  (k_Zd:PySem.W.keepIn K (.ref f_Zd)=true)
  (a_Ze:PySem.W.findIn K (.ref c_KindLook) "look_row"=some (some (.ref f_Ze)))
  (i_Ze:PySem.W.isFn K (.ref f_Ze)=true)
  (l_Ze:K.lookup f_Ze=some ⟨oc_Ze,od_Ze,.func (PySem.W.fnOf "look_row" "KindLook.look_row" (defArgs st_Ze) (defBody st_Ze) (defScope st_Ze) .none kV_Ze dc_Ze pm_Ze an_Ze cd_Ze ct_Ze),sl_Ze⟩)
  (c_Ze':PySem.W.codeIn K cd_Ze "KindLook.look_row"=true)
  (k_Ze:PySem.W.keepIn K (.ref f_Ze)=true)
  (a_Zf:PySem.W.findIn K (.ref c_KindLook) "look_set"=some (some (.ref f_Zf)))
  (i_Zf:PySem.W.isFn K (.ref f_Zf)=true)
  (l_Zf:K.lookup f_Zf=some ⟨oc_Zf,od_Zf,.func (PySem.W.fnOf "look_set" "KindLook.look_set" (defArgs st_Zf) (defBody st_Zf) (defScope st_Zf) .none kV_Zf dc_Zf pm_Zf an_Zf cd_Zf ct_Zf),sl_Zf⟩)
  (c_Zf':PySem.W.codeIn K cd_Zf "KindLook.look_set"=true)
  (k_Zf:PySem.W.keepIn K (.ref f_Zf)=true)
  (a_Zq:PySem.W.findIn K (.ref c_KindLook) "ask"=some (some (.ref f_Zq)))
  (i_Zq:PySem.W.isFn K (.ref f_Zq)=true)
  (l_Zq:K.lookup f_Zq=some ⟨oc_Zq,od_Zq,.func (PySem.W.fnOf "ask" "KindLook.ask" (defArgs st_Zq) (defBody st_Zq) (defScope st_Zq) .none kV_Zq dc_Zq pm_Zq an_Zq cd_Zq ct_Zq),sl_Zq⟩)
  (c_Zq':PySem.W.codeIn K cd_Zq "KindLook.ask"=true)
  (k_Zq:PySem.W.keepIn K (.ref f_Zq)=true)
  (a_Zg:PySem.W.findIn K (.ref c_KindLook) "kinds_of"=some (some (.ref f_Zg)))
  (i_Zg:PySem.W.isFn K (.ref f_Zg)=true)
  (l_Zg:K.lookup f_Zg=some ⟨oc_Zg,od_Zg,.func (PySem.W.fnOf "kinds_of" "KindLook.kinds_of" (defArgs st_Zg) (defBody st_Zg) (defScope st_Zg) .none kV_Zg dc_Zg pm_Zg an_Zg cd_Zg ct_Zg),sl_Zg⟩)
  (c_Zg':PySem.W.codeIn K cd_Zg "KindLook.kinds_of"=true)
  (k_Zg:PySem.W.keepIn K (.ref f_Zg)=true)
  (a_Zc:PySem.W.findIn K (.ref c_KindLook) "used_rows"=some (some (.ref f_Zc)))
  (i_Zc:PySem.W.isFn K (.ref f_Zc)=true)
  (l_Zc:K.lookup f_Zc=some ⟨oc_Zc,od_Zc,.func (PySem.W.fnOf "used_rows" "KindLook.used_rows" (defArgs st_Zc) (defBody st_Zc) (defScope st_Zc) .none kV_Zc dc_Zc pm_Zc an_Zc cd_Zc ct_Zc),sl_Zc⟩)
  (c_Zc':PySem.W.codeIn K cd_Zc "KindLook.used_rows"=true)
  (k_Zc:PySem.W.keepIn K (.ref f_Zc)=true)
  (a_Za:PySem.W.findIn K (.ref c_KindLook) "field_kinds"=some (some (.ref f_Za)))
  (i_Za:PySem.W.isFn K (.ref f_Za)=true)
  (l_Za:K.lookup f_Za=some ⟨oc_Za,od_Za,.func (PySem.W.fnOf "field_kinds" "KindLook.field_kinds" (defArgs st_Za) (defBody st_Za) (defScope st_Za) .none kV_Za dc_Za pm_Za an_Za cd_Za ct_Za),sl_Za⟩)
  (c_Za':PySem.W.codeIn K cd_Za "KindLook.field_kinds"=true)
  (k_Za:PySem.W.keepIn K (.ref f_Za)=true)
  (a_law:PySem.W.nsIn K mainGlobals "law"=some (some (.ref f_law)))
  (l_law:K.lookup f_law=some ⟨oc_law,od_law,.func (PySem.W.fnOf "law" "law" (defArgs st_law) (defBody st_law) (defScope st_law) .none kV_law dc_law pm_law an_law cd_law ct_law),sl_law⟩)
  (c_law':PySem.W.codeIn K cd_law "law"=true)
  (k_law:PySem.W.keepIn K (.ref f_law)=true)
  (pg_KindLook:PySem.W.plainGet K c_KindLook Str.empty=true)
  (hd_KindLook:PySem.W.hasDictIn K c_KindLook=true)
  (po_KindLook:PySem.W.plainOver K c_KindLook=true)
  (sa_KindLook:PySem.W.findIn K (.ref c_KindLook) "__setattr__"=some (some (.builtin "object.__setattr__")))
  (mk_KindLook:PySem.W.makesIn K c_KindLook=true)
  (kc_KindLook:PySem.W.keepIn K (.ref c_KindLook)=true)
  (na_KindLook_faults:PySem.W.findIn K (.ref c_KindLook) "faults"=some none)
  (na_KindLook_firsts:PySem.W.findIn K (.ref c_KindLook) "firsts"=some none)
  (t1_KindLook:PySem.W.findIn K (.ref c_KindLook) "__class__"=some (some (.builtin "object.__class__")))
  (t2_KindLook:PySem.W.specialIn K (.builtin "object.__class__") "__get__"=some (some (.builtin "getset_descriptor.__get__")))
  (t3_KindLook:PySem.W.takesIn K (.builtin "object.__class__")=some true)
  (t4_KindLook:PySem.W.mroIn K c_KindLook (.type "object")=some true)
  (a_MAKES:PySem.W.nsIn K mainGlobals "MAKES"=some (some (.ref d_MAKES)))
  (l_MAKES:K.lookup d_MAKES=some ⟨.type "dict",none,.dict #[⟨h_MAKES_0,.str "num" t_MAKES_0,.str "num" u_MAKES_0⟩,⟨h_MAKES_1,.str "truth" t_MAKES_1,.str "truth" u_MAKES_1⟩,⟨h_MAKES_2,.str "+" t_MAKES_2,.str "num" u_MAKES_2⟩,⟨h_MAKES_3,.str "-" t_MAKES_3,.str "num" u_MAKES_3⟩,⟨h_MAKES_4,.str "*" t_MAKES_4,.str "num" u_MAKES_4⟩,⟨h_MAKES_5,.str "less" t_MAKES_5,.str "truth" u_MAKES_5⟩,⟨h_MAKES_6,.str "same" t_MAKES_6,.str "truth" u_MAKES_6⟩,⟨h_MAKES_7,.str "and" t_MAKES_7,.str "truth" u_MAKES_7⟩,⟨h_MAKES_8,.str "or" t_MAKES_8,.str "truth" u_MAKES_8⟩,⟨h_MAKES_9,.str "not" t_MAKES_9,.str "truth" u_MAKES_9⟩] ep_MAKES,#[]⟩)
  (s_MAKES:(d_MAKES == sysModules)=false)
  (e_MAKES_0:h_MAKES_0=hashStr w "num")
  (e_MAKES_1:h_MAKES_1=hashStr w "truth")
  (e_MAKES_2:h_MAKES_2=hashStr w "+")
  (e_MAKES_3:h_MAKES_3=hashStr w "-")
  (e_MAKES_4:h_MAKES_4=hashStr w "*")
  (e_MAKES_5:h_MAKES_5=hashStr w "less")
  (e_MAKES_6:h_MAKES_6=hashStr w "same")
  (e_MAKES_7:h_MAKES_7=hashStr w "and")
  (e_MAKES_8:h_MAKES_8=hashStr w "or")
  (e_MAKES_9:h_MAKES_9=hashStr w "not")
  (a_ASKS:PySem.W.nsIn K mainGlobals "ASKS"=some (some (.ref d_ASKS)))
  (l_ASKS:K.lookup d_ASKS=some ⟨.type "dict",none,.dict #[⟨h_ASKS_0,.str "+" t_ASKS_0,.str "num" u_ASKS_0⟩,⟨h_ASKS_1,.str "-" t_ASKS_1,.str "num" u_ASKS_1⟩,⟨h_ASKS_2,.str "*" t_ASKS_2,.str "num" u_ASKS_2⟩,⟨h_ASKS_3,.str "less" t_ASKS_3,.str "num" u_ASKS_3⟩,⟨h_ASKS_4,.str "same" t_ASKS_4,.str "num" u_ASKS_4⟩,⟨h_ASKS_5,.str "and" t_ASKS_5,.str "truth" u_ASKS_5⟩,⟨h_ASKS_6,.str "or" t_ASKS_6,.str "truth" u_ASKS_6⟩,⟨h_ASKS_7,.str "not" t_ASKS_7,.str "truth" u_ASKS_7⟩] ep_ASKS,#[]⟩)
  (s_ASKS:(d_ASKS == sysModules)=false)
  (e_ASKS_0:h_ASKS_0=hashStr w "+")
  (e_ASKS_1:h_ASKS_1=hashStr w "-")
  (e_ASKS_2:h_ASKS_2=hashStr w "*")
  (e_ASKS_3:h_ASKS_3=hashStr w "less")
  (e_ASKS_4:h_ASKS_4=hashStr w "same")
  (e_ASKS_5:h_ASKS_5=hashStr w "and")
  (e_ASKS_6:h_ASKS_6=hashStr w "or")
  (e_ASKS_7:h_ASKS_7=hashStr w "not")
  (a_PLAIN_KINDS:PySem.W.nsIn K mainGlobals "PLAIN_KINDS"=some (some (.ref q_PLAIN_KINDS)))
  (l_PLAIN_KINDS:K.lookup q_PLAIN_KINDS=some ⟨.type "tuple",od_PLAIN_KINDS,.seq #[.str "num" t_PLAIN_KINDS_0,.str "truth" t_PLAIN_KINDS_1] n_PLAIN_KINDS,sl_PLAIN_KINDS⟩)
  (z_len:PySem.W.nsIn K mainGlobals "len"=some none)
  (z_range:PySem.W.nsIn K mainGlobals "range"=some none)
  (z_list:PySem.W.nsIn K mainGlobals "list"=some none)
  (z_dict:PySem.W.nsIn K mainGlobals "dict"=some none)
  (z_tuple:PySem.W.nsIn K mainGlobals "tuple"=some none)
  (z_sorted:PySem.W.nsIn K mainGlobals "sorted"=some none)
  (z_enumerate:PySem.W.nsIn K mainGlobals "enumerate"=some none)
  (z_isinstance:PySem.W.nsIn K mainGlobals "isinstance"=some none)
  (z_zip:PySem.W.nsIn K mainGlobals "zip"=some none)
  :
  ∃ fd:FuncData,(∀ (s:Shared) (v:Value),BindsTo s fd ⟨[v],[]⟩ [("_law_script",v)])/\∀ base:Heap,K.In base->base.Ns mainGlobals mg->FnOk l.prog w K mg base CX0 45 fa fd ["_law_script"] (spLaw K):=by
 have e:=hfa.symm.trans (PySem.W.mg_of X G a_law)
 cases e
 have F_ZQ:=fun_mk (st:=st_ZQ) l_ZQ c_ZQ' k_ZQ
 have F_ZK:=fun_mk (st:=st_ZK) l_ZK c_ZK' k_ZK
 have F_ZN:=fun_mk (st:=st_ZN) l_ZN c_ZN' k_ZN
 have F_Zt:=fun_mk (st:=st_Zt) l_Zt c_Zt' k_Zt
 have F_ZO:=fun_mk (st:=st_ZO) l_ZO c_ZO' k_ZO
 have F_Zu:=fun_mk (st:=st_Zu) l_Zu c_Zu' k_Zu
 have F_Zw:=fun_mk (st:=st_Zw) l_Zw c_Zw' k_Zw
 have F_Zj:=fun_mk (st:=st_Zj) l_Zj c_Zj' k_Zj
 have F_Zk:=fun_mk (st:=st_Zk) l_Zk c_Zk' k_Zk
 have F_Zx:=fun_mk (st:=st_Zx) l_Zx c_Zx' k_Zx
 have F_Zh:=fun_mk (st:=st_Zh) l_Zh c_Zh' k_Zh
 have F_Zy:=fun_mk (st:=st_Zy) l_Zy c_Zy' k_Zy
 have F_Zv:=fun_mk (st:=st_Zv) l_Zv c_Zv' k_Zv
 have F_ZE:=fun_mk (st:=st_ZE) l_ZE c_ZE' k_ZE
 have F_ZL:=fun_mk (st:=st_ZL) l_ZL c_ZL' k_ZL
 have F_ZF:=fun_mk (st:=st_ZF) l_ZF c_ZF' k_ZF
 have F_ZR:=fun_mk (st:=st_ZR) l_ZR c_ZR' k_ZR
 have F_ZA:=fun_mk (st:=st_ZA) l_ZA c_ZA' k_ZA
 have F_ZP:=fun_mk (st:=st_ZP) l_ZP c_ZP' k_ZP
 have F_Zn:=fun_mk (st:=st_Zn) l_Zn c_Zn' k_Zn
 have F_Zr:=fun_mk (st:=st_Zr) l_Zr c_Zr' k_Zr
 have F_Zs:=fun_mk (st:=st_Zs) l_Zs c_Zs' k_Zs
 have F_ZB:=fun_mk (st:=st_ZB) l_ZB c_ZB' k_ZB
 have F_ZC:=fun_mk (st:=st_ZC) l_ZC c_ZC' k_ZC
 have F_ZG:=fun_mk (st:=st_ZG) l_ZG c_ZG' k_ZG
 have F_ZH:=fun_mk (st:=st_ZH) l_ZH c_ZH' k_ZH
 have F_ZD:=fun_mk (st:=st_ZD) l_ZD c_ZD' k_ZD
 have F_ZI:=fun_mk (st:=st_ZI) l_ZI c_ZI' k_ZI
 have F_ZM:=fun_mk (st:=st_ZM) l_ZM c_ZM' k_ZM
 have F_ZJ:=fun_mk (st:=st_ZJ) l_ZJ c_ZJ' k_ZJ
 have F_Zp:=fun_mk (st:=st_Zp) l_Zp c_Zp' k_Zp
 have F_Zl:=fun_mk (st:=st_Zl) l_Zl c_Zl' k_Zl
 have F_Zm:=fun_mk (st:=st_Zm) l_Zm c_Zm' k_Zm
 have F_Zb:=fun_mk (st:=st_Zb) l_Zb c_Zb' k_Zb
 have F_Zd:=fun_mk (st:=st_Zd) l_Zd c_Zd' k_Zd
 have F_Ze:=fun_mk (st:=st_Ze) l_Ze c_Ze' k_Ze
 have F_Zf:=fun_mk (st:=st_Zf) l_Zf c_Zf' k_Zf
 have F_Zq:=fun_mk (st:=st_Zq) l_Zq c_Zq' k_Zq
 have F_Zg:=fun_mk (st:=st_Zg) l_Zg c_Zg' k_Zg
 have F_Zc:=fun_mk (st:=st_Zc) l_Zc c_Zc' k_Zc
 have F_Za:=fun_mk (st:=st_Za) l_Za c_Za' k_Za
 have F_law:=fun_mk (st:=st_law) l_law c_law' k_law
 have b_ZQ:=F_ZQ.binds (ps:=["mask"]) fun _ _ _ _ _ _ us hl=>by obtain ⟨_,rfl⟩:=len1 hl;rfl
 have b_ZK:=F_ZK.binds (ps:=["mask","other"]) fun _ _ _ _ _ _ us hl=>by obtain ⟨_,_,rfl⟩:=len2 hl;rfl
 have b_ZN:=F_ZN.binds (ps:=["pairs"]) fun _ _ _ _ _ _ us hl=>by obtain ⟨_,rfl⟩:=len1 hl;rfl
 have b_Zt:=F_Zt.binds (ps:=["pairs","mask"]) fun _ _ _ _ _ _ us hl=>by obtain ⟨_,_,rfl⟩:=len2 hl;rfl
 have b_ZO:=F_ZO.binds (ps:=["found","key","mask"]) fun _ _ _ _ _ _ us hl=>by obtain ⟨_,_,_,rfl⟩:=len3 hl;rfl
 have b_Zu:=F_Zu.binds (ps:=["found"]) fun _ _ _ _ _ _ us hl=>by obtain ⟨_,rfl⟩:=len1 hl;rfl
 have b_Zw:=F_Zw.binds (ps:=["tree","mask"]) fun _ _ _ _ _ _ us hl=>by obtain ⟨_,_,rfl⟩:=len2 hl;rfl
 have b_Zj:=F_Zj.binds (ps:=["one","mask"]) fun _ _ _ _ _ _ us hl=>by obtain ⟨_,_,rfl⟩:=len2 hl;rfl
 have b_Zk:=F_Zk.binds (ps:=["pair"]) fun _ _ _ _ _ _ us hl=>by obtain ⟨_,rfl⟩:=len1 hl;rfl
 have b_Zx:=F_Zx.binds (ps:=["tree"]) fun _ _ _ _ _ _ us hl=>by obtain ⟨_,rfl⟩:=len1 hl;rfl
 have b_Zh:=F_Zh.binds (ps:=["one"]) fun _ _ _ _ _ _ us hl=>by obtain ⟨_,rfl⟩:=len1 hl;rfl
 have b_Zy:=F_Zy.binds (ps:=["one"]) fun _ _ _ _ _ _ us hl=>by obtain ⟨_,rfl⟩:=len1 hl;rfl
 have b_Zv:=F_Zv.binds (ps:=["tree"]) fun _ _ _ _ _ _ us hl=>by obtain ⟨_,rfl⟩:=len1 hl;rfl
 have b_ZE:=F_ZE.binds (ps:=["one"]) fun _ _ _ _ _ _ us hl=>by obtain ⟨_,rfl⟩:=len1 hl;rfl
 have b_ZL:=F_ZL.binds (ps:=["one"]) fun _ _ _ _ _ _ us hl=>by obtain ⟨_,rfl⟩:=len1 hl;rfl
 have b_ZF:=F_ZF.binds (ps:=["e"]) fun _ _ _ _ _ _ us hl=>by obtain ⟨_,rfl⟩:=len1 hl;rfl
 have b_ZR:=F_ZR.binds (ps:=["kinds","due"]) fun _ _ _ _ _ _ us hl=>by obtain ⟨_,_,rfl⟩:=len2 hl;rfl
 have b_ZA:=F_ZA.binds (ps:=["kind"]) fun _ _ _ _ _ _ us hl=>by obtain ⟨_,rfl⟩:=len1 hl;rfl
 have b_ZP:=F_ZP.binds (ps:=["body"]) fun _ _ _ _ _ _ us hl=>by obtain ⟨_,rfl⟩:=len1 hl;rfl
 have b_Zn:=F_Zn.binds (ps:=["tree","mask"]) fun _ _ _ _ _ _ us hl=>by obtain ⟨_,_,rfl⟩:=len2 hl;rfl
 have b_Zr:=F_Zr.binds (ps:=["tree"]) fun _ _ _ _ _ _ us hl=>by obtain ⟨_,rfl⟩:=len1 hl;rfl
 have b_Zs:=F_Zs.binds (ps:=["_law_script","_law_k"]) fun _ _ _ _ _ _ us hl=>by obtain ⟨_,_,rfl⟩:=len2 hl;rfl
 have b_ZB:=F_ZB.binds (ps:=["_law_cell","_law_k"]) fun _ _ _ _ _ _ us hl=>by obtain ⟨_,_,rfl⟩:=len2 hl;rfl
 have b_ZC:=F_ZC.binds (ps:=["_law_number"]) fun _ _ _ _ _ _ us hl=>by obtain ⟨_,rfl⟩:=len1 hl;rfl
 have b_ZG:=F_ZG.binds (ps:=["_law_number","_law_params","_law_heads","_law_deep"]) fun _ _ _ _ _ _ us hl=>by obtain ⟨_,_,_,_,rfl⟩:=len4 hl;rfl
 have b_ZH:=F_ZH.binds (ps:=["_law_e","_law_params","_law_heads"]) fun _ _ _ _ _ _ us hl=>by obtain ⟨_,_,_,rfl⟩:=len3 hl;rfl
 have b_ZD:=F_ZD.binds (ps:=["_law_e","_law_params","_law_heads"]) fun _ _ _ _ _ _ us hl=>by obtain ⟨_,_,_,rfl⟩:=len3 hl;rfl
 have b_ZI:=F_ZI.binds (ps:=["_law_number","_law_k","_law_names_here"]) fun _ _ _ _ _ _ us hl=>by obtain ⟨_,_,_,rfl⟩:=len3 hl;rfl
 have b_ZM:=F_ZM.binds (ps:=["_law_number","_law_at","_law_params","_law_heads"]) fun _ _ _ _ _ _ us hl=>by obtain ⟨_,_,_,_,rfl⟩:=len4 hl;rfl
 have b_ZJ:=F_ZJ.binds (ps:=["_law_script"]) fun _ _ _ _ _ _ us hl=>by obtain ⟨_,rfl⟩:=len1 hl;rfl
 have b_Zp:=F_Zp.binds (ps:=["_law_head_here","_law_heads","_law_body"]) fun _ _ _ _ _ _ us hl=>by obtain ⟨_,_,_,rfl⟩:=len3 hl;rfl
 have b_Zl:=F_Zl.binds (ps:=["self","tree"]) fun _ _ _ _ _ _ us hl=>by obtain ⟨_,_,rfl⟩:=len2 hl;rfl
 have b_Zm:=F_Zm.binds (ps:=["self","mask","at","what"]) fun _ _ _ _ _ _ us hl=>by obtain ⟨_,_,_,_,rfl⟩:=len4 hl;rfl
 have b_Zb:=F_Zb.binds (ps:=["self","statements","names","due"]) fun _ _ _ _ _ _ us hl=>by obtain ⟨_,_,_,_,rfl⟩:=len4 hl;rfl
 have b_Zd:=F_Zd.binds (ps:=["self","mask","one"]) fun _ _ _ _ _ _ us hl=>by obtain ⟨_,_,_,rfl⟩:=len3 hl;rfl
 have b_Ze:=F_Ze.binds (ps:=["self","one","kinds","names","due"]) fun _ _ _ _ _ _ us hl=>by obtain ⟨_,_,_,_,_,rfl⟩:=len5 hl;rfl
 have b_Zf:=F_Zf.binds (ps:=["self","one","kinds","names"]) fun _ _ _ _ _ _ us hl=>by obtain ⟨_,_,_,_,rfl⟩:=len4 hl;rfl
 have b_Zq:=F_Zq.binds (ps:=["self","mask","e","due","at","names"]) fun _ _ _ _ _ _ us hl=>by obtain ⟨_,_,_,_,_,_,rfl⟩:=len6 hl;rfl
 have b_Zg:=F_Zg.binds (ps:=["self","mask","e","at","names"]) fun _ _ _ _ _ _ us hl=>by obtain ⟨_,_,_,_,_,rfl⟩:=len5 hl;rfl
 have b_Zc:=F_Zc.binds (ps:=["self","mask","e","word","at","names"]) fun _ _ _ _ _ _ us hl=>by obtain ⟨_,_,_,_,_,_,rfl⟩:=len6 hl;rfl
 have b_Za:=F_Za.binds (ps:=["self","mask","kind","field","at"]) fun _ _ _ _ _ _ us hl=>by obtain ⟨_,_,_,_,_,rfl⟩:=len5 hl;rfl
 have T:All l.prog w K mg ⟨f_ZQ,f_ZK,f_ZN,f_Zt,f_ZO,f_Zu,f_Zw,f_Zj,f_Zk,f_Zx,f_Zh,f_Zy,f_Zv,f_ZE,f_ZL,f_ZF,f_ZR,f_ZA,f_ZP,f_Zn,f_Zr,f_Zs,f_ZB,f_ZC,f_ZG,f_ZH,f_ZD,f_ZI,f_ZM,f_ZJ,f_Zp,f_Zl,f_Zm,f_Zb,f_Zd,f_Ze,f_Zf,f_Zq,f_Zg,f_Zc,f_Za,c_KindLook,d_MAKES,d_ASKS,q_PLAIN_KINDS⟩ ⟨_,_,_,_,_,_,_,_,_,_,_,_,_,_,_,_,_,_,_,_,_,_,_,_,_,_,_,_,_,_,_,_,_,_,_,_,_,_,_,_,_⟩:={
  m_ZQ:=PySem.W.mg_of X G a_ZQ
  k_ZQ:=k_ZQ
  F_ZQ:=F_ZQ
  b_ZQ:=b_ZQ
  m_ZK:=PySem.W.mg_of X G a_ZK
  k_ZK:=k_ZK
  F_ZK:=F_ZK
  b_ZK:=b_ZK
  m_ZN:=PySem.W.mg_of X G a_ZN
  k_ZN:=k_ZN
  F_ZN:=F_ZN
  b_ZN:=b_ZN
  m_Zt:=PySem.W.mg_of X G a_Zt
  k_Zt:=k_Zt
  F_Zt:=F_Zt
  b_Zt:=b_Zt
  m_ZO:=PySem.W.mg_of X G a_ZO
  k_ZO:=k_ZO
  F_ZO:=F_ZO
  b_ZO:=b_ZO
  m_Zu:=PySem.W.mg_of X G a_Zu
  k_Zu:=k_Zu
  F_Zu:=F_Zu
  b_Zu:=b_Zu
  m_Zw:=PySem.W.mg_of X G a_Zw
  k_Zw:=k_Zw
  F_Zw:=F_Zw
  b_Zw:=b_Zw
  m_Zj:=PySem.W.mg_of X G a_Zj
  k_Zj:=k_Zj
  F_Zj:=F_Zj
  b_Zj:=b_Zj
  m_Zk:=PySem.W.mg_of X G a_Zk
  k_Zk:=k_Zk
  F_Zk:=F_Zk
  b_Zk:=b_Zk
  m_Zx:=PySem.W.mg_of X G a_Zx
  k_Zx:=k_Zx
  F_Zx:=F_Zx
  b_Zx:=b_Zx
  m_Zh:=PySem.W.mg_of X G a_Zh
  k_Zh:=k_Zh
  F_Zh:=F_Zh
  b_Zh:=b_Zh
  m_Zy:=PySem.W.mg_of X G a_Zy
  k_Zy:=k_Zy
  F_Zy:=F_Zy
  b_Zy:=b_Zy
  m_Zv:=PySem.W.mg_of X G a_Zv
  k_Zv:=k_Zv
  F_Zv:=F_Zv
  b_Zv:=b_Zv
  m_ZE:=PySem.W.mg_of X G a_ZE
  k_ZE:=k_ZE
  F_ZE:=F_ZE
  b_ZE:=b_ZE
  m_ZL:=PySem.W.mg_of X G a_ZL
  k_ZL:=k_ZL
  F_ZL:=F_ZL
  b_ZL:=b_ZL
  m_ZF:=PySem.W.mg_of X G a_ZF
  k_ZF:=k_ZF
  F_ZF:=F_ZF
  b_ZF:=b_ZF
  m_ZR:=PySem.W.mg_of X G a_ZR
  k_ZR:=k_ZR
  F_ZR:=F_ZR
  b_ZR:=b_ZR
  m_ZA:=PySem.W.mg_of X G a_ZA
  k_ZA:=k_ZA
  F_ZA:=F_ZA
  b_ZA:=b_ZA
  m_ZP:=PySem.W.mg_of X G a_ZP
  k_ZP:=k_ZP
  F_ZP:=F_ZP
  b_ZP:=b_ZP
  m_Zn:=PySem.W.mg_of X G a_Zn
  k_Zn:=k_Zn
  F_Zn:=F_Zn
  b_Zn:=b_Zn
  m_Zr:=PySem.W.mg_of X G a_Zr
  k_Zr:=k_Zr
  F_Zr:=F_Zr
  b_Zr:=b_Zr
  m_Zs:=PySem.W.mg_of X G a_Zs
  k_Zs:=k_Zs
  F_Zs:=F_Zs
  b_Zs:=b_Zs
  m_ZB:=PySem.W.mg_of X G a_ZB
  k_ZB:=k_ZB
  F_ZB:=F_ZB
  b_ZB:=b_ZB
  m_ZC:=PySem.W.mg_of X G a_ZC
  k_ZC:=k_ZC
  F_ZC:=F_ZC
  b_ZC:=b_ZC
  m_ZG:=PySem.W.mg_of X G a_ZG
  k_ZG:=k_ZG
  F_ZG:=F_ZG
  b_ZG:=b_ZG
  m_ZH:=PySem.W.mg_of X G a_ZH
  k_ZH:=k_ZH
  F_ZH:=F_ZH
  b_ZH:=b_ZH
  m_ZD:=PySem.W.mg_of X G a_ZD
  k_ZD:=k_ZD
  F_ZD:=F_ZD
  b_ZD:=b_ZD
  m_ZI:=PySem.W.mg_of X G a_ZI
  k_ZI:=k_ZI
  F_ZI:=F_ZI
  b_ZI:=b_ZI
  m_ZM:=PySem.W.mg_of X G a_ZM
  k_ZM:=k_ZM
  F_ZM:=F_ZM
  b_ZM:=b_ZM
  m_ZJ:=PySem.W.mg_of X G a_ZJ
  k_ZJ:=k_ZJ
  F_ZJ:=F_ZJ
  b_ZJ:=b_ZJ
  m_Zp:=PySem.W.mg_of X G a_Zp
  k_Zp:=k_Zp
  F_Zp:=F_Zp
  b_Zp:=b_Zp
  M_KindLook:=⟨mk_KindLook,a_Zl,i_Zl,kc_KindLook⟩
  k_Zl:=k_Zl
  F_Zl:=F_Zl
  b_Zl:=b_Zl
  M_Zm:=⟨a_Zm,i_Zm,k_Zm⟩
  k_Zm:=k_Zm
  F_Zm:=F_Zm
  b_Zm:=b_Zm
  M_Zb:=⟨a_Zb,i_Zb,k_Zb⟩
  k_Zb:=k_Zb
  F_Zb:=F_Zb
  b_Zb:=b_Zb
  M_Zd:=⟨a_Zd,i_Zd,k_Zd⟩
  k_Zd:=k_Zd
  F_Zd:=F_Zd
  b_Zd:=b_Zd
  M_Ze:=⟨a_Ze,i_Ze,k_Ze⟩
  k_Ze:=k_Ze
  F_Ze:=F_Ze
  b_Ze:=b_Ze
  M_Zf:=⟨a_Zf,i_Zf,k_Zf⟩
  k_Zf:=k_Zf
  F_Zf:=F_Zf
  b_Zf:=b_Zf
  M_Zq:=⟨a_Zq,i_Zq,k_Zq⟩
  k_Zq:=k_Zq
  F_Zq:=F_Zq
  b_Zq:=b_Zq
  M_Zg:=⟨a_Zg,i_Zg,k_Zg⟩
  k_Zg:=k_Zg
  F_Zg:=F_Zg
  b_Zg:=b_Zg
  M_Zc:=⟨a_Zc,i_Zc,k_Zc⟩
  k_Zc:=k_Zc
  F_Zc:=F_Zc
  b_Zc:=b_Zc
  M_Za:=⟨a_Za,i_Za,k_Za⟩
  k_Za:=k_Za
  F_Za:=F_Za
  b_Za:=b_Za
  m_KindLook:=PySem.W.mg_of X G aC_KindLook
  cl_KindLook:=⟨pg_KindLook,hd_KindLook,po_KindLook,sa_KindLook⟩
  na_KindLook_faults:=na_KindLook_faults
  na_KindLook_firsts:=na_KindLook_firsts
  ty_KindLook:=fun H a dx fs e=>.ins e ⟨pg_KindLook,hd_KindLook,po_KindLook,sa_KindLook⟩ t1_KindLook t2_KindLook t3_KindLook t4_KindLook
  is_KindLook:=kit_same _ _
  m_MAKES:=PySem.W.mg_of X G a_MAKES
  D_MAKES:=by
   subst e_MAKES_0 e_MAKES_1 e_MAKES_2 e_MAKES_3 e_MAKES_4 e_MAKES_5 e_MAKES_6 e_MAKES_7 e_MAKES_8 e_MAKES_9
   exact kdictT_mk (es:=[("num",t_MAKES_0,"num",u_MAKES_0),("truth",t_MAKES_1,"truth",u_MAKES_1),("+",t_MAKES_2,"num",u_MAKES_2),("-",t_MAKES_3,"num",u_MAKES_3),("*",t_MAKES_4,"num",u_MAKES_4),("less",t_MAKES_5,"truth",u_MAKES_5),("same",t_MAKES_6,"truth",u_MAKES_6),("and",t_MAKES_7,"truth",u_MAKES_7),("or",t_MAKES_8,"truth",u_MAKES_8),("not",t_MAKES_9,"truth",u_MAKES_9)]) s_MAKES l_MAKES (show (["num","truth","+","-","*","less","same","and","or","not"]:List Str).Nodup by decide +kernel)
  m_ASKS:=PySem.W.mg_of X G a_ASKS
  D_ASKS:=by
   subst e_ASKS_0 e_ASKS_1 e_ASKS_2 e_ASKS_3 e_ASKS_4 e_ASKS_5 e_ASKS_6 e_ASKS_7
   exact kdictT_mk (es:=[("+",t_ASKS_0,"num",u_ASKS_0),("-",t_ASKS_1,"num",u_ASKS_1),("*",t_ASKS_2,"num",u_ASKS_2),("less",t_ASKS_3,"num",u_ASKS_3),("same",t_ASKS_4,"num",u_ASKS_4),("and",t_ASKS_5,"truth",u_ASKS_5),("or",t_ASKS_6,"truth",u_ASKS_6),("not",t_ASKS_7,"truth",u_ASKS_7)]) s_ASKS l_ASKS (show (["+","-","*","less","same","and","or","not"]:List Str).Nodup by decide +kernel)
  m_PLAIN_KINDS:=PySem.W.mg_of X G a_PLAIN_KINDS
  Q_PLAIN_KINDS:=fun H=>.inr ⟨_,_,_,l_PLAIN_KINDS,rfl,rfl,(by show 2<=sizeLine;decide),.cons ⟨_,rfl⟩ (.cons ⟨_,rfl⟩ (.nil))⟩
  n_len:=PySem.W.mg_none_of X G z_len
  n_range:=PySem.W.mg_none_of X G z_range
  n_list:=PySem.W.mg_none_of X G z_list
  n_dict:=PySem.W.mg_none_of X G z_dict
  n_tuple:=PySem.W.mg_none_of X G z_tuple
  n_sorted:=PySem.W.mg_none_of X G z_sorted
  n_enumerate:=PySem.W.mg_none_of X G z_enumerate
  n_isinstance:=PySem.W.mg_none_of X G z_isinstance
  n_zip:=PySem.W.mg_none_of X G z_zip
 }
 exact ⟨PySem.W.fnOf "law" "law" (defArgs st_law) (defBody st_law) (defScope st_law) .none kV_law dc_law pm_law an_law cd_law ct_law,fun s v=>.of_eq rfl,fun base _ _=>ok_law T F_law⟩
theorem walk {l:PySem.W.OpenLaw} {q:Program} {loose:List Str} {XP:(Str->Option Value)->Heap->Prop} {YP:World->Heap->Prop} {d:DefRec} {K:Params->PySem.W.Frag} (hn:l.most=some 63) (hdf:d.params.defaults=[])
  (hY:∀ (w:World) (h:Heap),YP w h->(K w.params).In h)
  (F:∀ (w:World) (mg:Str->Option Value) (fa:Addr) (h:Heap),(K w.params).In h->h.Ns mainGlobals mg->mg d.name=some (.ref fa) ->
   ∃ fd:FuncData,(∀ (s:Shared) (u:Value),BindsTo s fd ⟨[u],[]⟩ [("_law_script",u)])/\∀ base:Heap,(K w.params).In base->base.Ns mainGlobals mg->FnOk l.prog w (K w.params) mg base CX0 45 fa fd ["_law_script"] (spLaw (K w.params))) :
  PySem.W.WalkO q loose XP YP l.row.toRowW d [] (fun f vs=>PySem.call f vs) :=
 L2.walk_of (n:=63) (k:=45) (x:="_law_script") (CX:=fun _=>CX0) (sp:=fun w=>spLaw (K w.params)) hn (by decide) hdf ⟨rfl,by decide,by decide⟩ hY F (fun _ _ a ns hl _ hS=>⟨a,ns,rfl,hS,hl,fun _=>rfl⟩) fun _ _ _ _ _ z=>z
end K43
open PySem PySem.W PyProof.Rows
set_option maxRecDepth 100000 in
set_option maxHeartbeats 0 in
theorem PySem.Challenge.cw_manymakes_k43_calls_and_gives_holds : PySem.Challenge.rw_manymakes_k43_calls_and_gives.Holds := by
 w_on;o_law
 refine PySem.W.holds_open (r:=OpenLaw.row PySem.Challenge.rw_manymakes_k43_calls_and_gives) (q:=K43.vw) (loose:=["MAKES","ASKS"]) (Xt:=K43.xt) (XP:=XL K43.vw [])
  (Yf:=(kHook K43.pre.heap_1 K43.as K43.ase).obs) (Ya:=(kHook K43.pre.heap_1 K43.as K43.ase).val) (YP:=(kHook K43.pre.heap_1 K43.as K43.ase).says)
  (N:=3706) K43.left
  ((kHook K43.pre.heap_1 K43.as K43.ase).of) ((kHook K43.pre.heap_1 K43.as K43.ase).keeps) (fun s e=>xl_of s (Mm.both_true e).1)
  (XL.keeps) (by rfl) (by rfl) (by rfl) (fun s e=>recFacts_of (Mm.both_true e).2)
  (by rfl) (by assumption) (by decide +kernel)
  ⟨rfl,rfl,rfl,rfl,rfl,by decide +kernel⟩ ?hw ?hc
 (case hw=>w_witness2)
 k_fill
 refine K43.walk (l:=PySem.Challenge.rw_manymakes_k43_calls_and_gives) rfl rfl (fun w h Y=>PySem.W.kIn_of Y) ?F
 case F =>
  intro w mg fa h KX G hmg
  refine' K43.all_mk KX G hmg ?aC_KindLook ?a_ZQ ?l_ZQ ?c_ZQ' ?k_ZQ ?a_ZK ?l_ZK ?c_ZK' ?k_ZK ?a_ZN ?l_ZN ?c_ZN' ?k_ZN ?a_Zt ?l_Zt ?c_Zt' ?k_Zt ?a_ZO ?l_ZO ?c_ZO' ?k_ZO ?a_Zu ?l_Zu ?c_Zu' ?k_Zu ?a_Zw ?l_Zw ?c_Zw' ?k_Zw ?a_Zj ?l_Zj ?c_Zj' ?k_Zj ?a_Zk ?l_Zk ?c_Zk' ?k_Zk ?a_Zx ?l_Zx ?c_Zx' ?k_Zx ?a_Zh ?l_Zh ?c_Zh' ?k_Zh ?a_Zy ?l_Zy ?c_Zy' ?k_Zy ?a_Zv ?l_Zv ?c_Zv' ?k_Zv ?a_ZE ?l_ZE ?c_ZE' ?k_ZE ?a_ZL ?l_ZL ?c_ZL' ?k_ZL ?a_ZF ?l_ZF ?c_ZF' ?k_ZF ?a_ZR ?l_ZR ?c_ZR' ?k_ZR ?a_ZA ?l_ZA ?c_ZA' ?k_ZA ?a_ZP ?l_ZP ?c_ZP' ?k_ZP ?a_Zn ?l_Zn ?c_Zn' ?k_Zn ?a_Zr ?l_Zr ?c_Zr' ?k_Zr ?a_Zs ?l_Zs ?c_Zs' ?k_Zs ?a_ZB ?l_ZB ?c_ZB' ?k_ZB ?a_ZC ?l_ZC ?c_ZC' ?k_ZC ?a_ZG ?l_ZG ?c_ZG' ?k_ZG ?a_ZH ?l_ZH ?c_ZH' ?k_ZH ?a_ZD ?l_ZD ?c_ZD' ?k_ZD ?a_ZI ?l_ZI ?c_ZI' ?k_ZI ?a_ZM ?l_ZM ?c_ZM' ?k_ZM ?a_ZJ ?l_ZJ ?c_ZJ' ?k_ZJ ?a_Zp ?l_Zp ?c_Zp' ?k_Zp ?a_Zl ?i_Zl ?l_Zl ?c_Zl' ?k_Zl ?a_Zm ?i_Zm ?l_Zm ?c_Zm' ?k_Zm ?a_Zb ?i_Zb ?l_Zb ?c_Zb' ?k_Zb ?a_Zd ?i_Zd ?l_Zd ?c_Zd' ?k_Zd ?a_Ze ?i_Ze ?l_Ze ?c_Ze' ?k_Ze ?a_Zf ?i_Zf ?l_Zf ?c_Zf' ?k_Zf ?a_Zq ?i_Zq ?l_Zq ?c_Zq' ?k_Zq ?a_Zg ?i_Zg ?l_Zg ?c_Zg' ?k_Zg ?a_Zc ?i_Zc ?l_Zc ?c_Zc' ?k_Zc ?a_Za ?i_Za ?l_Za ?c_Za' ?k_Za ?a_law ?l_law ?c_law' ?k_law ?pg_KindLook ?hd_KindLook ?po_KindLook ?sa_KindLook ?mk_KindLook ?kc_KindLook ?na_KindLook_faults ?na_KindLook_firsts ?t1_KindLook ?t2_KindLook ?t3_KindLook ?t4_KindLook ?a_MAKES ?l_MAKES ?s_MAKES ?e_MAKES_0 ?e_MAKES_1 ?e_MAKES_2 ?e_MAKES_3 ?e_MAKES_4 ?e_MAKES_5 ?e_MAKES_6 ?e_MAKES_7 ?e_MAKES_8 ?e_MAKES_9 ?a_ASKS ?l_ASKS ?s_ASKS ?e_ASKS_0 ?e_ASKS_1 ?e_ASKS_2 ?e_ASKS_3 ?e_ASKS_4 ?e_ASKS_5 ?e_ASKS_6 ?e_ASKS_7 ?a_PLAIN_KINDS ?l_PLAIN_KINDS ?z_len ?z_range ?z_list ?z_dict ?z_tuple ?z_sorted ?z_enumerate ?z_isinstance ?z_zip
  (case aC_KindLook=>k_is)
  (case a_ZQ=>k_is)
  (case l_ZQ=>k_is)
  (case c_ZQ'=>k_is)
  (case k_ZQ=>k_is)
  (case a_ZK=>k_is)
  (case l_ZK=>k_is)
  (case c_ZK'=>k_is)
  (case k_ZK=>k_is)
  (case a_ZN=>k_is)
  (case l_ZN=>k_is)
  (case c_ZN'=>k_is)
  (case k_ZN=>k_is)
  (case a_Zt=>k_is)
  (case l_Zt=>k_is)
  (case c_Zt'=>k_is)
  (case k_Zt=>k_is)
  (case a_ZO=>k_is)
  (case l_ZO=>k_is)
  (case c_ZO'=>k_is)
  (case k_ZO=>k_is)
  (case a_Zu=>k_is)
  (case l_Zu=>k_is)
  (case c_Zu'=>k_is)
  (case k_Zu=>k_is)
  (case a_Zw=>k_is)
  (case l_Zw=>k_is)
  (case c_Zw'=>k_is)
  (case k_Zw=>k_is)
  (case a_Zj=>k_is)
  (case l_Zj=>k_is)
  (case c_Zj'=>k_is)
  (case k_Zj=>k_is)
  (case a_Zk=>k_is)
  (case l_Zk=>k_is)
  (case c_Zk'=>k_is)
  (case k_Zk=>k_is)
  (case a_Zx=>k_is)
  (case l_Zx=>k_is)
  (case c_Zx'=>k_is)
  (case k_Zx=>k_is)
  (case a_Zh=>k_is)
  (case l_Zh=>k_is)
  (case c_Zh'=>k_is)
  (case k_Zh=>k_is)
  (case a_Zy=>k_is)
  (case l_Zy=>k_is)
  (case c_Zy'=>k_is)
  (case k_Zy=>k_is)
  (case a_Zv=>k_is)
  (case l_Zv=>k_is)
  (case c_Zv'=>k_is)
  (case k_Zv=>k_is)
  (case a_ZE=>k_is)
  (case l_ZE=>k_is)
  (case c_ZE'=>k_is)
  (case k_ZE=>k_is)
  (case a_ZL=>k_is)
  (case l_ZL=>k_is)
  (case c_ZL'=>k_is)
  (case k_ZL=>k_is)
  (case a_ZF=>k_is)
  (case l_ZF=>k_is)
  (case c_ZF'=>k_is)
  (case k_ZF=>k_is)
  (case a_ZR=>k_is)
  (case l_ZR=>k_is)
  (case c_ZR'=>k_is)
  (case k_ZR=>k_is)
  (case a_ZA=>k_is)
  (case l_ZA=>k_is)
  (case c_ZA'=>k_is)
  (case k_ZA=>k_is)
  (case a_ZP=>k_is)
  (case l_ZP=>k_is)
  (case c_ZP'=>k_is)
  (case k_ZP=>k_is)
  (case a_Zn=>k_is)
  (case l_Zn=>k_is)
  (case c_Zn'=>k_is)
  (case k_Zn=>k_is)
  (case a_Zr=>k_is)
  (case l_Zr=>k_is)
  (case c_Zr'=>k_is)
  (case k_Zr=>k_is)
  (case a_Zs=>k_is)
  (case l_Zs=>k_is)
  (case c_Zs'=>k_is)
  (case k_Zs=>k_is)
  (case a_ZB=>k_is)
  (case l_ZB=>k_is)
  (case c_ZB'=>k_is)
  (case k_ZB=>k_is)
  (case a_ZC=>k_is)
  (case l_ZC=>k_is)
  (case c_ZC'=>k_is)
  (case k_ZC=>k_is)
  (case a_ZG=>k_is)
  (case l_ZG=>k_is)
  (case c_ZG'=>k_is)
  (case k_ZG=>k_is)
  (case a_ZH=>k_is)
  (case l_ZH=>k_is)
  (case c_ZH'=>k_is)
  (case k_ZH=>k_is)
  (case a_ZD=>k_is)
  (case l_ZD=>k_is)
  (case c_ZD'=>k_is)
  (case k_ZD=>k_is)
  (case a_ZI=>k_is)
  (case l_ZI=>k_is)
  (case c_ZI'=>k_is)
  (case k_ZI=>k_is)
  (case a_ZM=>k_is)
  (case l_ZM=>k_is)
  (case c_ZM'=>k_is)
  (case k_ZM=>k_is)
  (case a_ZJ=>k_is)
  (case l_ZJ=>k_is)
  (case c_ZJ'=>k_is)
  (case k_ZJ=>k_is)
  (case a_Zp=>k_is)
  (case l_Zp=>k_is)
  (case c_Zp'=>k_is)
  (case k_Zp=>k_is)
  (case a_Zl=>k_is)
  (case i_Zl=>k_is)
  (case l_Zl=>k_is)
  (case c_Zl'=>k_is)
  (case k_Zl=>k_is)
  (case a_Zm=>k_is)
  (case i_Zm=>k_is)
  (case l_Zm=>k_is)
  (case c_Zm'=>k_is)
  (case k_Zm=>k_is)
  (case a_Zb=>k_is)
  (case i_Zb=>k_is)
  (case l_Zb=>k_is)
  (case c_Zb'=>k_is)
  (case k_Zb=>k_is)
  (case a_Zd=>k_is)
  (case i_Zd=>k_is)
  (case l_Zd=>k_is)
  (case c_Zd'=>k_is)
  (case k_Zd=>k_is)
  (case a_Ze=>k_is)
  (case i_Ze=>k_is)
  (case l_Ze=>k_is)
  (case c_Ze'=>k_is)
  (case k_Ze=>k_is)
  (case a_Zf=>k_is)
  (case i_Zf=>k_is)
  (case l_Zf=>k_is)
  (case c_Zf'=>k_is)
  (case k_Zf=>k_is)
  (case a_Zq=>k_is)
  (case i_Zq=>k_is)
  (case l_Zq=>k_is)
  (case c_Zq'=>k_is)
  (case k_Zq=>k_is)
  (case a_Zg=>k_is)
  (case i_Zg=>k_is)
  (case l_Zg=>k_is)
  (case c_Zg'=>k_is)
  (case k_Zg=>k_is)
  (case a_Zc=>k_is)
  (case i_Zc=>k_is)
  (case l_Zc=>k_is)
  (case c_Zc'=>k_is)
  (case k_Zc=>k_is)
  (case a_Za=>k_is)
  (case i_Za=>k_is)
  (case l_Za=>k_is)
  (case c_Za'=>k_is)
  (case k_Za=>k_is)
  (case a_law=>k_is)
  (case l_law=>k_is)
  (case c_law'=>k_is)
  (case k_law=>k_is)
  (case pg_KindLook=>k_is)
  (case hd_KindLook=>k_is)
  (case po_KindLook=>k_is)
  (case sa_KindLook=>k_is)
  (case mk_KindLook=>k_is)
  (case kc_KindLook=>k_is)
  (case na_KindLook_faults=>k_is)
  (case na_KindLook_firsts=>k_is)
  (case t1_KindLook=>k_is)
  (case t2_KindLook=>k_is)
  (case t3_KindLook=>k_is)
  (case t4_KindLook=>k_is)
  (case a_MAKES=>k_is)
  (case l_MAKES=>k_is)
  (case s_MAKES=>first | rfl | decide | k_is)
  (case e_MAKES_0=>first | rfl | decide | k_is)
  (case e_MAKES_1=>first | rfl | decide | k_is)
  (case e_MAKES_2=>first | rfl | decide | k_is)
  (case e_MAKES_3=>first | rfl | decide | k_is)
  (case e_MAKES_4=>first | rfl | decide | k_is)
  (case e_MAKES_5=>first | rfl | decide | k_is)
  (case e_MAKES_6=>first | rfl | decide | k_is)
  (case e_MAKES_7=>first | rfl | decide | k_is)
  (case e_MAKES_8=>first | rfl | decide | k_is)
  (case e_MAKES_9=>first | rfl | decide | k_is)
  (case a_ASKS=>k_is)
  (case l_ASKS=>k_is)
  (case s_ASKS=>first | rfl | decide | k_is)
  (case e_ASKS_0=>first | rfl | decide | k_is)
  (case e_ASKS_1=>first | rfl | decide | k_is)
  (case e_ASKS_2=>first | rfl | decide | k_is)
  (case e_ASKS_3=>first | rfl | decide | k_is)
  (case e_ASKS_4=>first | rfl | decide | k_is)
  (case e_ASKS_5=>first | rfl | decide | k_is)
  (case e_ASKS_6=>first | rfl | decide | k_is)
  (case e_ASKS_7=>first | rfl | decide | k_is)
  (case a_PLAIN_KINDS=>k_is)
  (case l_PLAIN_KINDS=>k_is)
  (case z_len=>k_is)
  (case z_range=>k_is)
  (case z_list=>k_is)
  (case z_dict=>k_is)
  (case z_tuple=>k_is)
  (case z_sorted=>k_is)
  (case z_enumerate=>k_is)
  (case z_isinstance=>k_is)
  (case z_zip=>k_is)
