import PyProof.Rows.All
import Wide.All
import OpenK.AllK
import Wide.FinOn
import Lean
import PyProof.EqAt
import PyProof.EqKinds
import PyProof.TupleCall
import PyProof.Rows.BitMore
import KE.IntBitsLaws
import KE.KRevIter
import KE.KTryMore
import PyProof.StrLawsRepr
import KE.KIsAll
import KE.RegKIsAll
import KE.RegKTryMore
import PyProof.StrCalls2
import PyProof.StrLawsTight
import PyProof.StrLawsChain
import PyProof.Rows.StrItems
import PyProof.Rows.StrWeight2
import PyProof.EnumMake
import PyProof.EnumStmt
import PyProof.Rows.EnumRows
import PyProof.Rows.EqDataRows
import PyProof.P3Eq
import PyProof.Rows.SortRev
import KE.KSortTup
import PyProof.StrWalks
import KE.KIntText
import KE.IntTextLaws
import PyProof.CallStr
import KE.KDictSum
import PyProof.SumWalk
import PyProof.Rows.InDataRows
import KE.KDictList
import PySem.SetTable
import PyProof.Rows.SetFrom
import PySem.Challenge.RW_manymakes_k42_kinds_of_names
set_option Elab.async false
set_option maxRecDepth 100000
set_option linter.all false
set_option maxHeartbeats 4000000
section
open PySem PySem.Spec PyProof.Rows PySem.W
theorem Qa:type_of% @wpAny_bind:=@wpAny_bind
theorem Qb:type_of% @List.getElem?_eq_getElem:=@List.getElem?_eq_getElem
theorem Qc:type_of% @wpAny_pure:=@wpAny_pure
theorem Qd:type_of% @Heap.get?_push_of_some:=@Heap.get?_push_of_some
theorem Qe:type_of% @List.getD_eq_getElem?_getD:=@List.getD_eq_getElem?_getD
theorem Qf:type_of% @Nat.le_refl:=@Nat.le_refl
theorem Qg:type_of% @List.mem_cons_of_mem:=@List.mem_cons_of_mem
theorem Qh {α:Type _} {l:List α} {i:Nat} {a:α} (h:l[i]?=some a):∃ h:i<l.length,l[i]=a:=List.getElem?_eq_some_iff.mp h
theorem Qi:type_of% @List.length_map:=@List.length_map
theorem Qj:type_of% @decide_eq_false:=@decide_eq_false
theorem Qk:type_of% @List.mem_cons_self:=@List.mem_cons_self
theorem Ql:type_of% @List.getElem?_map:=@List.getElem?_map
theorem Qm:type_of% @List.size_toArray:=@List.size_toArray
theorem Qn {α:Type _} {l:List α} {a b:α} (h:a∈b::l):a=b∨a∈l:=List.mem_cons.mp h
theorem Qo:type_of% @Heap.get?_push_size:=@Heap.get?_push_size
theorem Qp:type_of% @Nat.zero_le:=@Nat.zero_le
theorem Qq:type_of% @Heap.lt_size:=@Heap.lt_size
theorem Qr:type_of% @Option.some.inj:=@Option.some.inj
theorem Qs:type_of% @List.mem_of_getElem?:=@List.mem_of_getElem?
theorem Qt {α:Type _} {l r:List α} {a:α} (h:a∈l++r):a∈l∨a∈r:=List.mem_append.mp h
theorem Qu:type_of% @List.take_succ_eq_append_getElem:=@List.take_succ_eq_append_getElem
theorem Qv:type_of% @List.length_take:=@List.length_take
theorem Qw:type_of% @decide_eq_true:=@decide_eq_true
theorem Qx:type_of% @List.getElem?_append_right:=@List.getElem?_append_right
theorem Qy:type_of% @Nat.ne_of_lt:=@Nat.ne_of_lt
theorem Qz:type_of% @List.getElem?_append_left:=@List.getElem?_append_left
theorem QA:type_of% @List.take_of_length_le:=@List.take_of_length_le
theorem QB:type_of% @List.length_append:=@List.length_append
theorem QC:type_of% @List.getElem_mem:=@List.getElem_mem
theorem QD:type_of% @Array.length_toList:=@Array.length_toList
theorem QE:type_of% @Nat.le_trans:=@Nat.le_trans
theorem QF {α β:Type _} {f:α->β} {l:List α} {b:β} (h:b∈l.map f):∃ a,a∈l∧f a=b:=List.mem_map.mp h
theorem QG:type_of% @Nat.lt_of_le_of_lt:=@Nat.lt_of_le_of_lt
theorem QH:type_of% @Heap.get?_update_ne:=@Heap.get?_update_ne
theorem QI:type_of% @List.map_append:=@List.map_append
theorem QJ:type_of% @wpAny_mono:=@wpAny_mono
end
section
open PySem PySem.W
noncomputable def Mm.hdTr {α:Type} (_:α):Prop:=True
noncomputable def Mm.hdPk {α:Type} (s:α) (_:Mm.hdTr s):α:=s
theorem Mm.hdOf {α:Type} {a s:α} (_:a=s):Mm.hdTr s:=trivial
abbrev K42.g (i:Nat):Stmt:=PySem.Challenge.pw_manymakes_k42_kinds_of_names.main.body.getD i (Stmt.Pass ⟨0,0,0,0⟩)
noncomputable def K42.t0:Stmt:=Mm.hdPk (Stmt.Assign _ _ _) (Mm.hdOf (a:=K42.g 0) rfl)
noncomputable def K42.t1:Stmt:=Mm.hdPk (Stmt.FunctionDef _ _ _ _ _ _ _ _ _ _) (Mm.hdOf (a:=K42.g 1) rfl)
noncomputable def K42.t2:Stmt:=Mm.hdPk (Stmt.FunctionDef _ _ _ _ _ _ _ _ _ _) (Mm.hdOf (a:=K42.g 2) rfl)
noncomputable def K42.t3:Stmt:=Mm.hdPk (Stmt.FunctionDef _ _ _ _ _ _ _ _ _ _) (Mm.hdOf (a:=K42.g 3) rfl)
noncomputable def K42.t4:Stmt:=Mm.hdPk (Stmt.FunctionDef _ _ _ _ _ _ _ _ _ _) (Mm.hdOf (a:=K42.g 4) rfl)
noncomputable def K42.t5:Stmt:=Mm.hdPk (Stmt.FunctionDef _ _ _ _ _ _ _ _ _ _) (Mm.hdOf (a:=K42.g 5) rfl)
noncomputable def K42.t6:Stmt:=Mm.hdPk (Stmt.FunctionDef _ _ _ _ _ _ _ _ _ _) (Mm.hdOf (a:=K42.g 6) rfl)
noncomputable def K42.t7:Stmt:=Mm.hdPk (Stmt.Assign _ _ _) (Mm.hdOf (a:=K42.g 7) rfl)
noncomputable def K42.t8:Stmt:=Mm.hdPk (Stmt.FunctionDef _ _ _ _ _ _ _ _ _ _) (Mm.hdOf (a:=K42.g 8) rfl)
noncomputable def K42.t9:Stmt:=Mm.hdPk (Stmt.FunctionDef _ _ _ _ _ _ _ _ _ _) (Mm.hdOf (a:=K42.g 9) rfl)
noncomputable def K42.t10:Stmt:=Mm.hdPk (Stmt.FunctionDef _ _ _ _ _ _ _ _ _ _) (Mm.hdOf (a:=K42.g 10) rfl)
noncomputable def K42.t11:Stmt:=Mm.hdPk (Stmt.FunctionDef _ _ _ _ _ _ _ _ _ _) (Mm.hdOf (a:=K42.g 11) rfl)
noncomputable def K42.t12:Stmt:=Mm.hdPk (Stmt.FunctionDef _ _ _ _ _ _ _ _ _ _) (Mm.hdOf (a:=K42.g 12) rfl)
noncomputable def K42.t13:Stmt:=Mm.hdPk (Stmt.FunctionDef _ _ _ _ _ _ _ _ _ _) (Mm.hdOf (a:=K42.g 13) rfl)
noncomputable def K42.t14:Stmt:=Mm.hdPk (Stmt.Assign _ _ _) (Mm.hdOf (a:=K42.g 14) rfl)
noncomputable def K42.t15:Stmt:=Mm.hdPk (Stmt.Assign _ _ _) (Mm.hdOf (a:=K42.g 15) rfl)
noncomputable def K42.t16:Stmt:=Mm.hdPk (Stmt.FunctionDef _ _ _ _ _ _ _ _ _ _) (Mm.hdOf (a:=K42.g 16) rfl)
noncomputable def K42.t17:Stmt:=Mm.hdPk (Stmt.FunctionDef _ _ _ _ _ _ _ _ _ _) (Mm.hdOf (a:=K42.g 17) rfl)
noncomputable def K42.t18:Stmt:=Mm.hdPk (Stmt.FunctionDef _ _ _ _ _ _ _ _ _ _) (Mm.hdOf (a:=K42.g 18) rfl)
noncomputable def K42.t19:Stmt:=Mm.hdPk (Stmt.FunctionDef _ _ _ _ _ _ _ _ _ _) (Mm.hdOf (a:=K42.g 19) rfl)
noncomputable def K42.t20:Stmt:=Mm.hdPk (Stmt.Assign _ _ _) (Mm.hdOf (a:=K42.g 20) rfl)
noncomputable def K42.t21:Stmt:=Mm.hdPk (Stmt.Assign _ _ _) (Mm.hdOf (a:=K42.g 21) rfl)
noncomputable def K42.t22:Stmt:=Mm.hdPk (Stmt.Assign _ _ _) (Mm.hdOf (a:=K42.g 22) rfl)
noncomputable def K42.t23:Stmt:=Mm.hdPk (Stmt.ClassDef _ _ _ _ _ _ _ _ _ _ _) (Mm.hdOf (a:=K42.g 23) rfl)
noncomputable def K42.t24:Stmt:=Mm.hdPk (Stmt.FunctionDef _ _ _ _ _ _ _ _ _ _) (Mm.hdOf (a:=K42.g 24) rfl)
noncomputable def K42.t25:Stmt:=Mm.hdPk (Stmt.FunctionDef _ _ _ _ _ _ _ _ _ _) (Mm.hdOf (a:=K42.g 25) rfl)
noncomputable def K42.t26:Stmt:=Mm.hdPk (Stmt.FunctionDef _ _ _ _ _ _ _ _ _ _) (Mm.hdOf (a:=K42.g 26) rfl)
noncomputable def K42.t27:Stmt:=Mm.hdPk (Stmt.FunctionDef _ _ _ _ _ _ _ _ _ _) (Mm.hdOf (a:=K42.g 27) rfl)
noncomputable def K42.t28:Stmt:=Mm.hdPk (Stmt.FunctionDef _ _ _ _ _ _ _ _ _ _) (Mm.hdOf (a:=K42.g 28) rfl)
noncomputable def K42.t29:Stmt:=Mm.hdPk (Stmt.Assign _ _ _) (Mm.hdOf (a:=K42.g 29) rfl)
noncomputable def K42.t30:Stmt:=Mm.hdPk (Stmt.FunctionDef _ _ _ _ _ _ _ _ _ _) (Mm.hdOf (a:=K42.g 30) rfl)
noncomputable def K42.t31:Stmt:=Mm.hdPk (Stmt.FunctionDef _ _ _ _ _ _ _ _ _ _) (Mm.hdOf (a:=K42.g 31) rfl)
noncomputable def K42.t32:Stmt:=Mm.hdPk (Stmt.FunctionDef _ _ _ _ _ _ _ _ _ _) (Mm.hdOf (a:=K42.g 32) rfl)
noncomputable def K42.t33:Stmt:=Mm.hdPk (Stmt.FunctionDef _ _ _ _ _ _ _ _ _ _) (Mm.hdOf (a:=K42.g 33) rfl)
noncomputable def K42.t34:Stmt:=Mm.hdPk (Stmt.FunctionDef _ _ _ _ _ _ _ _ _ _) (Mm.hdOf (a:=K42.g 34) rfl)
noncomputable def K42.t35:Stmt:=Mm.hdPk (Stmt.FunctionDef _ _ _ _ _ _ _ _ _ _) (Mm.hdOf (a:=K42.g 35) rfl)
noncomputable def K42.t36:Stmt:=Mm.hdPk (Stmt.FunctionDef _ _ _ _ _ _ _ _ _ _) (Mm.hdOf (a:=K42.g 36) rfl)
noncomputable def K42.t37:Stmt:=Mm.hdPk (Stmt.FunctionDef _ _ _ _ _ _ _ _ _ _) (Mm.hdOf (a:=K42.g 37) rfl)
noncomputable def K42.t38:Stmt:=Mm.hdPk (Stmt.FunctionDef _ _ _ _ _ _ _ _ _ _) (Mm.hdOf (a:=K42.g 38) rfl)
noncomputable def K42.t39:Stmt:=Mm.hdPk (Stmt.FunctionDef _ _ _ _ _ _ _ _ _ _) (Mm.hdOf (a:=K42.g 39) rfl)
noncomputable def K42.sc:Scope:=Mm.hdPk (Scope.mk _ _ _ _ _) (Mm.hdOf (a:=PySem.Challenge.pw_manymakes_k42_kinds_of_names.main.scope) rfl)
noncomputable def K42.pw:Program:=Mm.hdPk (Program.mk (Module.mk (K42.t0::K42.t1::K42.t2::K42.t3::K42.t4::K42.t5::K42.t6::K42.t7::K42.t8::K42.t9::K42.t10::K42.t11::K42.t12::K42.t13::K42.t14::K42.t15::K42.t16::K42.t17::K42.t18::K42.t19::K42.t20::K42.t21::K42.t22::K42.t23::K42.t24::K42.t25::K42.t26::K42.t27::K42.t28::K42.t29::K42.t30::K42.t31::K42.t32::K42.t33::K42.t34::K42.t35::K42.t36::K42.t37::K42.t38::K42.t39::List.nil) K42.sc _ _ _) _ _ _ _ _) (Mm.hdOf (a:=PySem.Challenge.pw_manymakes_k42_kinds_of_names) rfl)
noncomputable def K42.rw:OpenLaw:=Mm.hdPk { prog:=K42.pw,name:=_,about:=_,foot:=_,most:=_,bound:=_,writes:=_ } (Mm.hdOf (a:=PySem.Challenge.rw_manymakes_k42_kinds_of_names) rfl)
theorem K42.rwe:K42.rw=PySem.Challenge.rw_manymakes_k42_kinds_of_names:=rfl
end
section
open PySem PySem.W PyProof.Rows
theorem K42.pwe:PySem.Challenge.pw_manymakes_k42_kinds_of_names=K42.pw:=rfl
noncomputable def K42.vw:Program:={ K42.pw with main:={ K42.pw.main with body:=K42.t1::K42.t2::K42.t3::K42.t4::K42.t5::K42.t6::K42.t8::K42.t9::K42.t10::K42.t11::K42.t12::K42.t13::K42.t14::K42.t16::K42.t17::K42.t18::K42.t19::K42.t21::K42.t22::K42.t23::K42.t24::K42.t25::K42.t26::K42.t27::K42.t28::K42.t30::K42.t31::K42.t32::K42.t33::K42.t34::K42.t35::K42.t36::K42.t37::K42.t38::K42.t39::List.nil } }
theorem Mm.keepIt (_:Hook) {p:Prop} (h:p):p:=h
section
local macro_rules | `(tactic| o_head $H)=>`(tactic| exact Mm.keepIt $H (by assumption))
set_option maxHeartbeats 0 in
theorem K42.pre (h:(OpenLaw.row PySem.Challenge.rw_manymakes_k42_kinds_of_names).Holds):(OpenLaw.row PySem.Challenge.rw_manymakes_k42_kinds_of_names).Holds:=by k_head
end
def K42.as:List Addr:=[2,3,15,17,18,20,21,22,24,25,27,28,29,31,32,34,35,36,39,40,41,43,44,46,47,48,51,52,53,56,57,58,61,62,63,65,66,68,69,70,73,74,75,78,79,80,83,84,85,86,88,89,91,92,93,95,96,98,99,100,102,103,105,106,107,109,110,112,113,114,115,123,125,126,128,129,130,132,133,135,136,137,139,140,142,143,144,147,148,149,152,153,154,156,157,159,160,161,163,164,166,167,168,171,172,173,175,176,178,179,180,183,184,185,186,187,188,189,192,195,196,197,199,200,202,203,204,206,207,209,210,211,213,214,216,217,218,221,222,223,225,226,228,229,230,232,233,235,236,237,240,241,242,244,245,247,248,249,251,252,254,255,256,258,259,261,262,263,265,266,268,269,270,272,273,275,276,277,279,280,282,283,284,286,287,289,290]
theorem K42.ase (P:Params):K42.as=(K42.pre.heap_1 P).map (·.1):=by kernel_rfl
theorem Mm.both_true {a b:Bool} (h:(a&&b)=true):a=true/\b=true:=by cases a<;>cases b<;>simp_all
noncomputable abbrev K42.xt:Shared->Bool:=fun s=>(xlAt K42.vw [] s)&&(recOk (RowW.records (OpenRow.toRowW (OpenLaw.row K42.rw))) s)
noncomputable def K42.oe (w:World):Option Shared :=
 (importEnds treeTable (opening K42.pw) w 3704 (start (opening K42.pw)).1 (start (opening K42.pw)).2).bind fun s=>(fenceModules? K42.pw s).bind fun s₀ =>
 match s₀.heap.isNs mainGlobals&&s₀.gens.size == 0 with
 | true=>(topRun treeTable K42.pw w s₀.heap.objs.size (s₀.heap.nsMap mainGlobals "__annotations__") 3704 s₀ (topStub K42.pw)).bind fun s₁=>match staticsOk (importedModules K42.pw.main.body) s₀.heap s₁.heap&&namesBound K42.pw s₁.heap&&gensDone s₁&&laidKept s₀.heap s₁.heap with
   | true=>some s₁
   | false=>none
 | false=>none
theorem Mm.bindAss {α β γ:Type} (o:Option α) (f:α->Option β) (g:β->Option γ):(o.bind f).bind g=o.bind fun s=>(f s).bind g:=by cases o<;>rfl
theorem K42.oe_eq (w:World):openEnds treeTable PySem.Challenge.pw_manymakes_k42_kinds_of_names w 3704=K42.oe w:=by
 rw [K42.pwe]
 show ((importEnds _ _ _ _ _ _).bind _).bind _=_
 rw [Mm.bindAss]
 rfl
noncomputable def K42.ga (w:World):=Option.map (openSeen K42.vw ["MAKES","ASKS"] (importedModules K42.pw.main.body) K42.xt true) (K42.oe w)
noncomputable def K42.gb:=some (openGood K42.vw ["MAKES","ASKS"])
noncomputable def K42.oa (w:World):Option (List (Option Obj)):=Option.map (fun s=>K42.as.map s.heap.get?) (K42.oe w)
def Mm.hdTt {α:Type} (_:α):Bool:=true
theorem K42.lay1:Mm.hdTt K42.ga=true:=by k_qdec
theorem K42.lay2:Mm.hdTt K42.gb=true:=by k_qdec
theorem K42.lay3:Mm.hdTt K42.oa=true:=by k_qdec
theorem K42.la0 (w:World):PySem.W.Fast.tw1053916025983580383 (w.withFollow "special-get-raises" false)=PySem.W.Fast.tw17970452433587022865:=by kernel_rfl
theorem K42.lb0 (w:World):PySem.W.Fast.tw11406329619191793468 (w.withFollow "special-get-raises" false)=some ((K42.pre.heap_1 (w.withFollow "special-get-raises" false).params).map fun p=>some p.2):=by kernel_rfl
theorem K42.la1 (w:World):PySem.W.Fast.tw1053916025983580383 (w.withFollow "special-get-raises" true)=PySem.W.Fast.tw17970452433587022865:=by kernel_rfl
theorem K42.lb1 (w:World):PySem.W.Fast.tw11406329619191793468 (w.withFollow "special-get-raises" true)=some ((K42.pre.heap_1 (w.withFollow "special-get-raises" true).params).map fun p=>some p.2):=by kernel_rfl
theorem K42.la (w:World):PySem.W.Fast.tw1053916025983580383 w=PySem.W.Fast.tw17970452433587022865:=byRow2 "special-get-raises" (P:=fun w=>PySem.W.Fast.tw1053916025983580383 w=PySem.W.Fast.tw17970452433587022865) K42.la0 K42.la1 w
theorem K42.lb (w:World):PySem.W.Fast.tw11406329619191793468 w=some ((K42.pre.heap_1 w.params).map fun p=>some p.2):=byRow2 "special-get-raises" (P:=fun w=>PySem.W.Fast.tw11406329619191793468 w=some ((K42.pre.heap_1 w.params).map fun p=>some p.2)) K42.lb0 K42.lb1 w
theorem Mm.twoM {α β γ:Type} {o:Option α} {f:α->β} {g:α->γ} {b:β} {c:γ} (h1:o.map f=some b) (h2:o.map g=some c):o.map (fun s=>(f s,g s))=some (b,c):=by
 cases o with
 | none=>cases h1
 | some s =>
  have h1:=Qr h1
  have h2:=Qr h2
  show some (f s,g s)=_
  rw [h1,h2]
theorem K42.left:LeftO PySem.Challenge.pw_manymakes_k42_kinds_of_names K42.vw ["MAKES","ASKS"] K42.xt (kHook K42.pre.heap_1 K42.as K42.ase).obs (kHook K42.pre.heap_1 K42.as K42.ase).val 3704:=fun w=>by
 rw [K42.oe_eq]
 exact Mm.twoM ((congrFun PySem.W.Fast.te1053916025983580383 w).trans ((K42.la w).trans PySem.W.Fast.te17970452433587022865.symm)) ((congrFun PySem.W.Fast.te11406329619191793468 w).trans (K42.lb w))
end
namespace L2
open PySem PySem.Spec PyProof.Rows
noncomputable abbrev Key:=Sum Int Str
noncomputable def keyIs:Key->Value->Bool
 | .inl k,v=>Value.isInt k v
 | .inr x,v=>Value.isStrOf x v
noncomputable def keyH (w:World):Key->Int
 | .inl k=>hashInt k
 | .inr x=>hashStr w x
theorem keyIs_shape:∀ {k:Key} {v:Value},keyIs k v=true->(∃ i t,k=Sum.inl i/\v=Value.int i t)∨(∃ x t,k=Sum.inr x/\v=Value.str x t)
 | .inl i,v,h=>by
  obtain ⟨t,e⟩:=Value.isInt_shape (k:=i) (v:=v) h
  exact .inl ⟨i,t,rfl,e⟩
 | .inr x,v,h=>by
  obtain ⟨t,e⟩:=Value.isStrOf_shape (x:=x) (v:=v) h
  exact .inr ⟨x,t,rfl,e⟩
theorem keyIs_int (i:Int) (t:Tok):keyIs (.inl i) (.int i t)=true:=by simp [keyIs,Value.isInt]
theorem keyIs_str (x:Str) (t:Tok):keyIs (.inr x) (.str x t)=true:=by simp [keyIs,Value.isStrOf]
theorem key_ll (a b:Int):decide ((Sum.inl a:Key)=Sum.inl b)=(a == b):=by
 by_cases e:a=b
 ·subst e;simp
 ·have h:¬ (Sum.inl a:Key)=Sum.inl b:=fun q=>e (Sum.inl.inj q)
  rw [Qj h]
  exact (beq_eq_false_iff_ne.mpr e).symm
theorem key_rr (a b:Str):decide ((Sum.inr a:Key)=Sum.inr b)=decide (a=b):=by
 by_cases e:a=b
 ·subst e;simp
 ·have h:¬ (Sum.inr a:Key)=Sum.inr b:=fun q=>e (Sum.inr.inj q)
  rw [Qj h,Qj e]
theorem key_lr (a:Int) (b:Str):decide ((Sum.inl a:Key)=Sum.inr b)=false:=Qj (fun q=>nomatch q)
theorem key_rl (a:Str) (b:Int):decide ((Sum.inr a:Key)=Sum.inl b)=false:=Qj (fun q=>nomatch q)
noncomputable def mixKind (prog:Program) (w:World):PySem.KeyKind prog w Key where
 is:=keyIs
 hash:=keyH w
 inj:=fun v a b ha hb=>by
  rcases keyIs_shape ha with ⟨i,t,rfl,rfl⟩ | ⟨x,t,rfl,rfl⟩
  ·rcases keyIs_shape hb with ⟨j,u,rfl,e⟩ | ⟨y,u,rfl,e⟩
   ·injection e with e1 _;rw [e1]
   ·exact nomatch e
  ·rcases keyIs_shape hb with ⟨j,u,rfl,e⟩ | ⟨y,u,rfl,e⟩
   ·exact nomatch e
   ·injection e with e1 _;rw [e1]
 byValue:=fun k v h=>by
  rcases keyIs_shape h with ⟨i,t,rfl,rfl⟩ | ⟨x,t,rfl,rfl⟩<;>rfl
 pyHash:=fun hv h=>by
  rcases keyIs_shape hv with ⟨i,t,rfl,rfl⟩ | ⟨x,t,rfl,rfl⟩
  ·exact wpAny_pyHash_int h
  ·exact wpAny_pyHash_str h
 eqBool:=fun hu hv h=>by
  rcases keyIs_shape hu with ⟨i,t,rfl,rfl⟩ | ⟨x,t,rfl,rfl⟩
  ·rcases keyIs_shape hv with ⟨j,u,rfl,rfl⟩ | ⟨y,u,rfl,rfl⟩
   ·rw [key_ll] at h;exact wpAny_eqBool_int h
   ·rw [key_lr] at h;exact SeqAt.EqAt.int_str i t y u _ _ _ _ h
  ·rcases keyIs_shape hv with ⟨j,u,rfl,rfl⟩ | ⟨y,u,rfl,rfl⟩
   ·rw [key_rl] at h;exact SeqAt.EqAt.str_int x t j u _ _ _ _ h
   ·rw [key_rr] at h;exact wpAny_eqBool_str h
 «strs»:=fun k x t v h=>by
  rcases keyIs_shape h with ⟨i,u,rfl,e⟩ | ⟨y,u,rfl,e⟩
  ·exact nomatch e
  ·injection e with e1 _
   subst e1
   cases v<;>rfl
theorem mixKind_int (prog:Program) (w:World) (i:Int) (t:Tok):(mixKind prog w).is (.inl i) (.int i t)=true:=keyIs_int i t
theorem mixKind_str (prog:Program) (w:World) (x:Str) (t:Tok):(mixKind prog w).is (.inr x) (.str x t)=true:=keyIs_str x t
end L2
namespace L2
open PySem PySem.Spec PyProof.Rows
inductive V where
 | non | bl (b:Bool) | int (i:Int) | str (x:Str) | byt (b:Array UInt8) | flt (b:UInt64) | ref (a:Addr) | ty (n:String)
 deriving DecidableEq
noncomputable def RelV:V->Value->Prop
 | .non,u=>u=Value.none
 | .bl b,u=>u=Value.bool b
 | .int i,u=>∃ t,u=Value.int i t
 | .str x,u=>∃ t,u=Value.str x t
 | .byt b,u=>∃ t,u=Value.bytes b t
 | .flt b,u=>∃ t,u=Value.float b t
 | .ref a,u=>u=Value.ref a
 | .ty n,u=>u=Value.type n
noncomputable abbrev Vals:List V->List Value->Prop:=Paired RelV
theorem Vals.length {xs:List V} {us:List Value} (r:Vals xs us):xs.length=us.length:=Paired.length r
theorem Vals.get:∀ {xs:List V} {us:List Value} {i:Nat} {x:V},Vals xs us->xs[i]?=some x->∃ u,us[i]?=some u/\RelV x u
 | _,_,_,_,.nil,e=>by simp at e
 | _,_,0,_,.cons r _,e=>by simp at e;subst e;exact ⟨_,rfl,r⟩
 | _,_,i+1,x,.cons _ t,e=>by
  obtain ⟨u,h1,h2⟩:=Vals.get (i:=i) (x:=x) t (by simpa using e)
  exact ⟨u,by simpa using h1,h2⟩
theorem Vals.append:∀ {xs ys:List V} {us ws:List Value},Vals xs us->Vals ys ws->Vals (xs++ys) (us++ws)
 | _,_,_,_,.nil,s=>s
 | _,_,_,_,.cons r t,s=>.cons r (Vals.append t s)
theorem Vals.take:∀ {xs:List V} {us:List Value} (n:Nat),Vals xs us->Vals (xs.take n) (us.take n)
 | _,_,0,_=>.nil
 | _,_,_+1,.nil=>.nil
 | _,_,n+1,.cons r t=>.cons r (Vals.take n t)
theorem Vals.drop:∀ {xs:List V} {us:List Value} (n:Nat),Vals xs us->Vals (xs.drop n) (us.drop n)
 | _,_,0,r=>r
 | _,_,_+1,.nil=>.nil
 | _,_,n+1,.cons _ t=>Vals.drop n t
noncomputable def RelO:Option V->Option Value->Prop
 | some v,some u=>RelV v u
 | none,none=>True
 | _,_=>False
noncomputable def KV {κ:Type}:List (κ × V)->List (κ × Value)->Prop:=Paired fun (p:κ × V) (q:κ × Value)=>p.1=q.1/\RelV p.2 q.2
noncomputable def kV:Key->V
 | .inl i=>.int i
 | .inr x=>.str x
inductive HO where
 | lst (xs:List V)
 | tup (xs:List V)
 | dK (kvs:List (Key × V)) | dT (kvs:List (List Key × V))
 | set (S:Int->Bool) (n:Nat)
 | ins (C dx:Addr) (fs:List (Str × V))
 | own (x:Addr)
 | xd (fs:List (Str × V))
 | met (f x:Addr)
 | rng (lo hi:Int)
 | frz (o:Obj) (u:HO)
 | tbl (ps:Array Value)
 | ext (φ:Heap->Prop)
noncomputable abbrev Hp:=Addr->Option HO
noncomputable def upd (H:Hp) (a:Addr) (o:HO):Hp:=fun b=>if b=a then some o else H b
theorem upd_same {H:Hp} {a:Addr} {o:HO}:upd H a o a=some o:=by unfold upd;rw [if_pos rfl]
theorem upd_ne {H:Hp} {a b:Addr} {o:HO} (h:b≠a):upd H a o b=H b:=by unfold upd;rw [if_neg h]
theorem ne_of {H:Hp} {a b:Addr} {o u:HO} (h:H a=some o) (h':H b=some u) (d:o≠u):a≠b:=by
 intro e;subst e;rw [h] at h';exact d (Qr h')
theorem ne_of_none {H:Hp} {a b:Addr} {o:HO} (h:H a=some o) (h':H b=none):a≠b:=by
 intro e;subst e;rw [h] at h';cases h'
section
variable (P:Program) (w:World)
noncomputable def ObjOk (H:Hp) (h:Heap) (a:Addr):HO->Prop
 | .lst xs=>xs.length<=sizeLine/\∃ (its:List Value) (n:Nat),Vals xs its/\h.get? a=some { cls:=.type "list",data:=.seq its.toArray n }
 | .tup xs=>xs.length<=sizeLine/\∃ its:List Value,Vals xs its/\IsTup h a its.toArray
 | .dK kvs=>kvs.length<=sizeLine/\(a == sysModules)=false/\∃ vs,KV kvs vs/\h.DictOf (mixKind P w) a vs
 | .dT kvs=>kvs.length<=sizeLine/\(a == sysModules)=false/\∃ xs:List (List Key × Addr × Value),
   Paired (fun (p:List Key × V) (q:List Key × Addr × Value)=>p.1=q.1/\H q.2.1=some (.tup (p.1.map kV))/\RelV p.2 q.2.2) kvs xs /\
   ∃ o es ep,h.get? a=some o/\o.ExactDict/\o.data=.dict es ep/\es.toList=xs.map (entryOfKey (tupleKind (mixKind P w)))/\(xs.map (·.1)).Nodup
 | .set S n=>h.SetOf (intKind P w) a S n
 | .ins C dx fs=>H dx=some (.own a)/\fs.length<=1000/\dx≠a/\h.get? a=some (PySem.W.instObj C dx) /\
   ∃ mA,h.Ns1 dx mA/\(∀ f,RelO (fs.lookup f) (mA f))/\PySem.Within mA (fs.map (·.1))
 | .own _=>∃ o,h.get? a=some o
 | .xd fs=>∃ mA,h.Ns1 a mA/\∀ f,RelO (fs.lookup f) (mA f)
 | .rng lo hi=>∃ t u v,h.get? a=some { cls:=.type "range",data:=.fields #[.int lo t,.int hi u,.int 1 v] }
 | .frz o u=>h.get? a=some o/\ObjOk H h a u
 | .tbl ps=>h.get? a=some { cls:=.none,data:=.fields ps }
 | .met f x=>h.get? a=some (PySem.W.methodObj (.ref f) (.ref x))
 | .ext φ=>φ h/\(∃ o,h.get? a=some o)/\∀ h1 h2:Heap,φ h1->(∀ o,h1.get? a=some o->h2.get? a=some o)->φ h2
noncomputable def HOk (H:Hp) (h:Heap):Prop:=∀ a o,H a=some o->ObjOk P w H h a o
end
section
variable {P:Program} {w:World} {H H':Hp} {h h':Heap} {a:Addr} {o:HO}
theorem ObjOk.lt (x:ObjOk P w H h a o):a<h.objs.size:=by
 cases o with
 | lst xs=>obtain ⟨_,_,_,_,e⟩:=x;exact Qq e
 | tup xs=>obtain ⟨_,_,_,p⟩:=x;exact p.lt
 | dK kvs=>obtain ⟨_,_,_,_,o,_,_,e,_⟩:=x;exact Qq e
 | dT kvs=>obtain ⟨_,_,_,_,o,_,_,e,_⟩:=x;exact Qq e
 | set S n=>obtain ⟨o,_,_,_,e,_⟩:=x;exact Qq e
 | ins C dx fs=>obtain ⟨_,_,_,e,_⟩:=x;exact Qq e
 | own y=>obtain ⟨_,e⟩:=x;exact Qq e
 | xd fs=>obtain ⟨_,⟨_,_,_,e,_⟩,_⟩:=x;exact Qq e
 | rng lo hi=>obtain ⟨_,_,_,e⟩:=x;exact Qq e
 | frz ob u=>obtain ⟨e,_⟩:=x;exact Qq e
 | tbl ps=>exact Qq (show h.get? a=some _ from x)
 | met f y=>exact Qq (show h.get? a=some _ from x)
 | ext φ=>obtain ⟨_,⟨_,e⟩,_⟩:=x;exact Qq e
theorem Paired.mapP {α β:Type} {F G:α->β->Prop}:∀ {l₁:List α} {l₂:List β},Paired F l₁ l₂->(∀ a b,F a b->G a b)->Paired G l₁ l₂
 | _,_,.nil,_=>.nil
 | _,_,.cons r t,f=>.cons (f _ _ r) (Paired.mapP t f)
theorem ObjOk.stay (x:ObjOk P w H h a o) (k:∀ b u,(b=a∨H b=some (.own a))->h.get? b=some u->h'.get? b=some u)
  (ho:∀ b,H b=some (.own a)->H' b=some (.own a)) (ht:∀ b xs,H b=some (.tup xs)->H' b=some (.tup xs)):ObjOk P w H' h' a o:=by
 induction o with
 | lst xs=>obtain ⟨z,its,n,r,e⟩:=x;exact ⟨z,its,n,r,k _ _ (.inl rfl) e⟩
 | tup xs=>obtain ⟨z,its,r,ob,e,c⟩:=x;exact ⟨z,its,r,ob,k _ _ (.inl rfl) e,c⟩
 | dK kvs=>obtain ⟨z,y,vs,r,ob,es,ep,e,c⟩:=x;exact ⟨z,y,vs,r,ob,es,ep,k _ _ (.inl rfl) e,c⟩
 | dT kvs =>
  obtain ⟨z,y,xs,r,ob,es,ep,e,c⟩:=x
  exact ⟨z,y,xs,Paired.mapP r fun p q z=>⟨z.1,ht _ _ z.2.1,z.2.2⟩,ob,es,ep,k _ _ (.inl rfl) e,c⟩
 | set S n=>obtain ⟨ob,es,ep,t,e,c⟩:=x;exact ⟨ob,es,ep,t,k _ _ (.inl rfl) e,c⟩
 | ins C dx fs =>
  obtain ⟨d,z,ne,e,mA,⟨od,es,ep,e2,c⟩,r⟩:=x
  exact ⟨ho _ d,z,ne,k _ _ (.inl rfl) e,mA,⟨od,es,ep,k _ _ (.inr d) e2,c⟩,r⟩
 | own y=>obtain ⟨ob,e⟩:=x;exact ⟨ob,k _ _ (.inl rfl) e⟩
 | xd fs=>obtain ⟨mA,⟨od,es,ep,e,c⟩,r⟩:=x;exact ⟨mA,⟨od,es,ep,k _ _ (.inl rfl) e,c⟩,r⟩
 | rng lo hi=>obtain ⟨t,u,v,e⟩:=x;exact ⟨t,u,v,k _ _ (.inl rfl) e⟩
 | frz ob u ih=>obtain ⟨e,q⟩:=x;exact ⟨k _ _ (.inl rfl) e,ih q⟩
 | tbl ps =>
  have e:h.get? a=some { cls:=.none,data:=.fields ps }:=x
  show h'.get? a=some { cls:=.none,data:=.fields ps }
  exact k a _ (.inl rfl) e
 | met f y =>
  have e:h.get? a=some (PySem.W.methodObj (.ref f) (.ref y)):=x
  show h'.get? a=some (PySem.W.methodObj (.ref f) (.ref y))
  exact k a _ (.inl rfl) e
 | ext φ=>obtain ⟨p,⟨o,e⟩,st⟩:=x;exact ⟨st _ _ p fun o q=>k _ _ (.inl rfl) q,⟨o,k _ _ (.inl rfl) e⟩,st⟩
theorem HOk.lt (x:HOk P w H h) (e:H a=some o):a<h.objs.size:=(x a o e).lt
theorem HOk.fresh (x:HOk P w H h) (e:h.objs.size<=a):H a=none:=by
 cases q:H a with
 | none=>rfl
 | some u=>exact absurd (Nat.lt_of_lt_of_le (x.lt q) e) (Nat.lt_irrefl _)
theorem HOk.kept (x:HOk P w H h) (k:∀ b u,h.get? b=some u->h'.get? b=some u):HOk P w H h':=fun a o e =>
 (x a o e).stay (fun b u _ q=>k b u q) (fun _ q=>q) fun _ _ q=>q
theorem HOk.laid (x:HOk P w H h) (k:∀ b u,h.get? b=some u->h'.get? b=some u) (hp:h.objs.size<=a) (new:ObjOk P w (upd H a o) h' a o):HOk P w (upd H a o) h':=fun b u e=>by
 have hn:=x.fresh hp
 by_cases hb:b=a
 ·subst hb;rw [upd_same] at e;cases e;exact new
 ·rw [upd_ne hb] at e
  exact (x b u e).stay (fun c v _ q=>k c v q) (fun c q=>by rw [upd_ne (ne_of_none q hn)];exact q) fun c xs q=>by rw [upd_ne (ne_of_none q hn)];exact q
end
noncomputable def Rd (H:Hp) (a:Addr) (u:HO):Prop:=H a=some u∨∃ o,H a=some (.frz o u)
theorem Rd.ok {P:Program} {w:World} {H:Hp} {h:Heap} {a:Addr} {u:HO} (r:Rd H a u) (x:HOk P w H h):ObjOk P w H h a u:=by
 rcases r with r | ⟨o,r⟩
 ·exact x a u r
 ·obtain ⟨_,q⟩:=x a _ r
  exact q
noncomputable def Mut:Option HO->Prop
 | some (.lst _)=>True
 | some (.dK _)=>True
 | some (.dT _)=>True
 | some (.set _ _)=>True
 | some (.ins _ _ _)=>True
 | some (.ext _)=>True
 | _=>False
section
variable {P:Program} {w:World} {H:Hp} {h h':Heap} {x e:Addr} {o':HO}
theorem HOk.write (ok:HOk P w H h) (mu:Mut (H x)) (he:e=x∨H e=some (.own x)) (k:∀ b u,b≠e->h.get? b=some u->h'.get? b=some u) (heo:∃ u,h'.get? e=some u)
  (new:ObjOk P w (upd H x o') h' x o'):HOk P w (upd H x o') h':=fun b u q=>by
 have nown:∀ c y,H c=some (.own y)->c≠x:=fun c y r z=>by subst z;rw [r] at mu;exact mu
 have ntup:∀ c xs,H c=some (.tup xs)->c≠x:=fun c xs r z=>by subst z;rw [r] at mu;exact mu
 by_cases hb:b=x
 ·subst hb;rw [upd_same] at q;cases q;exact new
 ·rw [upd_ne hb] at q
  by_cases hbe:b=e
  ·have q':H b=some (.own x):=by
    rcases he with z | z
    ·exact absurd (hbe.trans z) hb
    ·rw [hbe];exact z
   rw [q] at q';cases q'
   obtain ⟨v,hv⟩:=heo
   exact ⟨v,by rw [hbe];exact hv⟩
  ·refine (ok b u q).stay (fun c v hc r=>k c v ?_ r) (fun c r=>by rw [upd_ne (nown c b r)];exact r) fun c xs r=>by rw [upd_ne (ntup c xs r)];exact r
   rcases hc with rfl | hc
   ·exact hbe
   ·rintro rfl
    rcases he with z | z
    ·exact nown c b hc z
    ·rw [hc] at z;cases z;exact hb rfl
end
structure Un (fs ex:List Addr) (H H':Hp) (h h':Heap):Prop where
 keep:∀ b o,h.get? b=some o->H b=none->b∉fs->b∉ex->h'.get? b=some o
 slot:∀ b o,h.get? b=some o->H b=none->b∈fs->b∉ex->∃ sl,h'.get? b=some { o with slots:=sl }
 free:∀ b o,h.get? b=some o->H b=none->b∉ex->H' b=none
 there:∀ b o,h.get? b=some o->b∉ex->∃ o',h'.get? b=some o'
 tups:∀ b xs,H b=some (.tup xs)->H' b=some (.tup xs)
 frzs:∀ b o u,H b=some (.frz o u)->H' b=some (.frz o u)
 tbls:∀ b ps,H b=some (.tbl ps)->∃ more,H' b=some (.tbl (ps++more))
section
variable {fs fs' ex ex':List Addr} {H H1 H2:Hp} {h h1 h2 h':Heap} {a x e:Addr} {o:HO}
theorem Un.any (u:Un fs ex H H1 h h1) {b:Addr} {ob:Obj} (q:h.get? b=some ob) (n:H b=none) (hx:b∉ex):∃ sl,h1.get? b=some { ob with slots:=sl }:=by
 by_cases hb:b∈fs
 ·exact u.slot b ob q n hb hx
 ·exact ⟨ob.slots,u.keep b ob q n hb hx⟩
theorem Un.kept (k:∀ b u,h.get? b=some u->h'.get? b=some u):Un fs ex H H h h' :=
 ⟨fun b ob q _ _ _=>k b ob q,fun b ob q _ _ _=>⟨ob.slots,k b ob q⟩,fun _ _ _ n _=>n,fun b ob q _=>⟨ob,k b ob q⟩,fun _ _ q=>q,fun _ _ _ q=>q,fun _ ps q=>⟨#[],by rw [q];simp⟩⟩
theorem Un.refl:Un fs ex H H h h:=Un.kept fun _ _ q=>q
theorem Un.laid (k:∀ b u,h.get? b=some u->h'.get? b=some u) (hp:h.objs.size<=a) (hn:H a=none):Un fs ex H (upd H a o) h h' where
 keep:=fun b u q _ _ _=>k b u q
 slot:=fun b u q _ _ _=>⟨u.slots,k b u q⟩
 free:=fun b u q n _=>by rw [upd_ne (Qy (Nat.lt_of_lt_of_le (Qq q) hp))];exact n
 there:=fun b u q _=>⟨u,k b u q⟩
 tups:=fun b xs q=>by rw [upd_ne (ne_of_none q hn)];exact q
 frzs:=fun b u xs q=>by rw [upd_ne (ne_of_none q hn)];exact q
 tbls:=fun b ps q=>⟨#[],by rw [upd_ne (ne_of_none q hn),q];simp⟩
theorem Un.write (mu:Mut (H x)) (he:e=x∨H e=some (.own x)) (k:∀ b u,b≠e->h.get? b=some u->h'.get? b=some u) (heo:∃ u,h'.get? e=some u):Un fs ex H (upd H x o) h h':=by
 have hx:∀ b,H b=none->b≠x:=fun b n z=>by subst z;rw [n] at mu;exact mu
 have hb:∀ b,H b=none->b≠e:=fun b n z=>by
  subst z
  rcases he with r | r
  ·exact hx b n r
  ·rw [n] at r;cases r
 have hm:∀ b u,H b=some u->¬ Mut (some u)->b≠x:=fun b u q nm z=>by subst z;rw [q] at mu;exact nm mu
 refine ⟨fun b u q n _ _=>k b u (hb b n) q,fun b u q n _ _=>⟨u.slots,k b u (hb b n) q⟩,fun b u q n _=>by rw [upd_ne (hx b n)];exact n,fun b u q _=>?_,
  fun b xs q=>by rw [upd_ne (hm b _ q fun z=>z)];exact q,fun b u xs q=>by rw [upd_ne (hm b _ q fun z=>z)];exact q,fun b ps q=>⟨#[],by rw [upd_ne (hm b _ q fun z=>z),q];simp⟩⟩
 by_cases hbe:b=e
 ·subst hbe;exact heo
 ·exact ⟨u,k b u hbe q⟩
end
noncomputable def trk (h:Heap) (H:Hp):List Addr:=(List.range h.objs.size).filter fun a=>(H a).isSome
noncomputable def hidT (h:Heap) (H:Hp):Heap:=PySem.W.hideAll h (trk h H)
theorem hidT_size (h:Heap) (H:Hp):(hidT h H).objs.size=h.objs.size:=PySem.W.hideAll_size _ _
theorem hidT_get {h:Heap} {H:Hp} {b:Addr} {o:Obj} (e:h.get? b=some o) (n:H b=none):(hidT h H).get? b=some o :=
 PySem.W.hideAll_get _ e fun hm=>by
  have q:(H b).isSome=true:=(List.mem_filter.mp hm).2
  rw [n] at q;simp at q
theorem of_hidT {h:Heap} {H:Hp} {b:Addr} {o:Obj} (e:(hidT h H).get? b=some o):h.get? b=some o/\H b=none:=by
 have e':h.get? b=some o:=PySem.W.of_hideAll (trk h H) e
 refine ⟨e',?_⟩
 cases q:H b with
 | none=>rfl
 | some x =>
  have hm:b∈trk h H:=List.mem_filter.mpr ⟨List.mem_range.mpr (Qq e'),by simp [q]⟩
  have z:(hidT h H).get? b=none:=PySem.W.hideAll_none (trk h H) hm
  rw [z] at e;cases e
end L2
namespace L2
open PySem PySem.Spec PyProof.Rows
structure Mod (K:PySem.W.Frag) (mg:Str->Option Value) (base:Heap):Prop where
 kin:K.In base
 glob:base.Ns mainGlobals mg
 blt:∃ mb,base.Ns builtinsNs mb/\∀ x:Str,x≠"__name__"->mb x=bootBuiltins x
 nolimit:base.NoLimit
structure Cx where
 prog:Program
 w:World
 K:PySem.W.Frag
 mg:Str->Option Value
 base:Heap
 A:Around
 N:List Str
 s₀:Shared
 H₀:Hp
 env:Env
 outer:List Env
 stack:List Env
 ex:List Addr
 fn:Str->Bool
 calm:Bool
 pn:List (Addr × Obj)
 xe:Value->Shared->Prop
noncomputable def frs (l:List Env):List Addr:=l.filterMap (·.frame)
noncomputable abbrev Cx.fs (X:Cx):List Addr:=frs X.outer
noncomputable def Vis (sc:Scope) (x:Str):Prop:=sc.names.lookup x=some .local∨sc.names.lookup x=some .cell∨sc.names.lookup x=some .free
noncomputable def Loc (sc:Scope) (x:Str):Prop:=sc.names.lookup x=some .local∨sc.names.lookup x=some .cell
noncomputable def Look (env:Env) (h:Heap) (m:Str->Option Value) (x:Str) (u:Value):Prop :=
 (env.kindOf x=some .local/\m x=some u)∨((env.kindOf x=some .cell∨env.kindOf x=some .free)/\∃ c,env.cells.lookup x=some c/\h.IsCell c (some u))
structure Cx.Ok (X:Cx):Prop where
 mod:Mod X.K X.mg X.base
 kind:X.env.scope.kind=.function
 glob:X.env.globals=mainGlobals
 blt:X.env.builtins=builtinsNs
 above:X.s₀.heap.objs.size<=X.env.locals
 inj:∀ x y c,X.env.cells.lookup x=some c->X.env.cells.lookup y=some c->x=y
 has:∀ x,(X.env.kindOf x=some .cell∨X.env.kindOf x=some .free)->∃ c,X.env.cells.lookup x=some c
 cab:∀ x c,X.fn x=true->X.env.cells.lookup x=some c->X.s₀.heap.objs.size<=c
 hd:X.calm=true->X.A.handled=none
 frames:X.A.frames=some X.stack
 stk:X.stack=X.outer∨(X.stack=X.env::X.outer/\X.env.frame=some X.env.locals)
 exf:∀ b∈X.ex,b≠X.env.locals/\∀ x c,X.env.cells.lookup x=some c->c≠b
 bs:∀ b o,X.base.get? b=some o->X.s₀.heap.get? b=some o/\X.H₀ b=none
 bsz:X.base.objs.size<=X.s₀.heap.objs.size
 noex:∀ b o,X.base.get? b=some o->b∉X.ex
 exfs:∀ b∈X.ex,b∉X.fs
 funs:X.s₀.heap.FunFrames X.base X.outer
 frf:∀ b∈X.fs,X.H₀ b=none
structure Inv (X:Cx) (pins:List (Addr × Obj)) (σ:List (Option V)) (H:Hp) (s:Shared):Prop where
 ok:X.Ok
 os:s.os=X.s₀.os
 bare:AllBare s.gens
 base:Un X.fs X.ex X.H₀ H X.s₀.heap s.heap
 loc:∃ m,s.heap.Ns X.env.locals m/\∀ (i:Nat) (x:Str) (v:V),X.N[i]?=some x->σ[i]?=some (some v)->Vis X.env.scope x->∃ u,RelV v u/\Look X.env s.heap m x u
 cell:∀ x c,X.env.cells.lookup x=some c->∃ v,s.heap.IsCell c v
 free:H X.env.locals=none
 freeC:∀ x c,X.env.cells.lookup x=some c->H c=none
 pin:∀ p∈X.pn++pins,s.heap.get? p.1=some p.2/\H p.1=none/\p.1≠X.env.locals/\p.1∉X.fs/\∀ v,p.2.data≠.cell v
 hok:HOk X.prog X.w H s.heap
 len:σ.length=X.N.length
section
variable {X:Cx} {pins:List (Addr × Obj)} {σ:List (Option V)} {H H':Hp} {s:Shared} {h':Heap}
theorem Cx.Ok.nofr (ok:X.Ok) {b:Addr} {o:Obj} (e:X.base.get? b=some o):b∉X.fs:=fun hb=>by
 have:=(ok.funs.mem hb).1
 rw [e] at this;cases this
theorem Inv.bs (I:Inv X pins σ H s):∀ b o,X.base.get? b=some o->s.heap.get? b=some o/\H b=none:=fun b o e =>
 ⟨I.base.keep b o (I.ok.bs b o e).1 (I.ok.bs b o e).2 (I.ok.nofr e) (I.ok.noex b o e),I.base.free b o (I.ok.bs b o e).1 (I.ok.bs b o e).2 (I.ok.noex b o e)⟩
theorem Inv.bk (I:Inv X pins σ H s):∀ b o,X.base.get? b=some o->s.heap.get? b=some o:=fun b o e=>(I.bs b o e).1
theorem Inv.mod (I:Inv X pins σ H s):Mod X.K X.mg X.base:=I.ok.mod
theorem Inv.kIn (I:Inv X pins σ H s):X.K.In s.heap:=I.ok.mod.kin.keeps I.bk
theorem Inv.lt (I:Inv X pins σ H s):X.env.locals<s.heap.objs.size:=by obtain ⟨_,hn,_⟩:=I.loc;exact hn.lt
theorem Inv.sz (I:Inv X pins σ H s):X.s₀.heap.objs.size<=s.heap.objs.size:=QE I.ok.above (Nat.le_of_lt I.lt)
theorem Inv.nofs (I:Inv X pins σ H s) {a:Addr} (h:s.heap.objs.size<=a):a∉X.fs:=fun hb=>by
 obtain ⟨_,o,ho,_⟩:=I.ok.funs.mem hb
 exact absurd (Nat.lt_of_lt_of_le (Qq ho) (QE I.sz h)) (Nat.lt_irrefl _)
theorem Inv.cne (I:Inv X pins σ H s):∀ x c,X.env.cells.lookup x=some c->c≠X.env.locals:=fun x c e z=>by
 obtain ⟨v,o,ho,hd⟩:=I.cell x c e
 obtain ⟨m,⟨o',es,ep,ho',hd',_⟩,_⟩:=I.loc
 rw [z,ho'] at ho;cases ho;rw [hd'] at hd;cases hd
theorem Inv.funs (I:Inv X pins σ H s):s.heap.FunFrames X.base X.outer:=by
 have all:∀ (l:List Env),(∀ b∈frs l,b∈X.fs)->X.s₀.heap.FunFrames X.base l->s.heap.FunFrames X.base l:=by
  intro l
  induction l with
  | nil=>intro _ _;trivial
  | cons env r ih =>
   intro hs hl
   obtain ⟨hk,⟨L,o,hf,hn,ho,hd⟩,hr⟩:=hl
   have hL:L∈X.fs:=hs L (by unfold frs;rw [List.filterMap_cons,hf];exact Qk)
   obtain ⟨sl,e⟩:=I.base.slot L o ho (I.ok.frf L hL) hL fun z=>I.ok.exfs L z hL
   exact ⟨hk,⟨L,_,hf,hn,e,hd⟩,ih (fun b hb=>hs b (by unfold frs;rw [List.filterMap_cons,hf];exact Qg _ hb)) hr⟩
 exact all X.outer (fun _ hb=>hb) I.ok.funs
theorem Inv.stack (I:Inv X pins σ H s):s.heap.FunFrames X.base X.stack:=by
 rcases I.ok.stk with e | ⟨e,hf⟩
 ·rw [e];exact I.funs
 ·rw [e]
  obtain ⟨m,hn,_⟩:=I.loc
  refine .cons (by rw [I.ok.kind];decide) hf hn ?_ I.funs
  exact Heap.get?_none_of_le (QE I.ok.bsz I.ok.above)
theorem Inv.stkSub (I:Inv X pins σ H s):∀ b∈frs X.stack,b∈X.env.locals::X.fs:=fun b hb=>by
 rcases I.ok.stk with e | ⟨e,hf⟩
 ·rw [e] at hb;exact Qg _ hb
 ·rw [e] at hb
  unfold frs at hb
  rw [List.filterMap_cons,hf] at hb
  exact hb
theorem Inv.stkFree (I:Inv X pins σ H s):∀ b∈frs X.stack,H b=none:=fun b hb=>by
 rcases Qn (I.stkSub b hb) with e | hb
 ·rw [e];exact I.free
 ·obtain ⟨_,o,ho,_⟩:=I.ok.funs.mem hb
  exact I.base.free b o ho (I.ok.frf b hb) fun z=>I.ok.exfs b z hb
theorem Inv.step {g':Array GenState} {t':Nat} {d':Drawn} {ch:List Addr} (I:Inv X pins σ H s)
  (hch:∀ b∈ch,(b∈X.ex∨X.s₀.heap.objs.size<=b)/\b≠X.env.locals/\(∀ x c,X.env.cells.lookup x=some c->c≠b)/\∀ p∈X.pn++pins,p.1≠b)
  (keep:∀ b o,b≠X.env.locals->b∉X.fs->b∉ch->s.heap.get? b=some o->H b=none->h'.get? b=some o)
  (slot:∀ b o,b≠X.env.locals->b∈X.fs->b∉ch->s.heap.get? b=some o->H b=none->∃ sl,h'.get? b=some { o with slots:=sl }) (free:∀ b o,b∉ch->s.heap.get? b=some o->H b=none->H' b=none)
  (there:∀ b o,b∉ch->s.heap.get? b=some o->∃ o',h'.get? b=some o')
  (tups:∀ b xs,H b=some (.tup xs)->H' b=some (.tup xs)) (frzs:∀ b o u,H b=some (.frz o u)->H' b=some (.frz o u)) (tbls:∀ b ps,H b=some (.tbl ps)->∃ more,H' b=some (.tbl (ps++more)))
  (ns:∀ m,s.heap.Ns X.env.locals m->h'.Ns X.env.locals m) (hok:HOk X.prog X.w H' h') (hg:AllBare g') :
  Inv X pins σ H' { s with heap:=h',gens:=g',drawn:=d',toks:=t' }:=by
 have neL:∀ b o,X.s₀.heap.get? b=some o->b≠X.env.locals:=fun b o e=>Qy (Nat.lt_of_lt_of_le (Qq e) I.ok.above)
 have neC:∀ b o,X.s₀.heap.get? b=some o->b∉X.ex->b∉ch:=fun b o e hx hb=>by
  rcases (hch b hb).1 with z | z
  ·exact hx z
  ·exact absurd (Nat.lt_of_lt_of_le (Qq e) z) (Nat.lt_irrefl _)
 have cellK:∀ x c,X.env.cells.lookup x=some c->∀ v,s.heap.IsCell c v->h'.IsCell c v:=fun x c e v ⟨o,ho,hd⟩=>by
  have nch:c∉ch:=fun z=>(hch c z).2.2.1 x c e rfl
  by_cases hc:c∈X.fs
  ·obtain ⟨sl,q⟩:=slot c o (I.cne x c e) hc nch ho (I.freeC x c e)
   exact ⟨_,q,hd⟩
  ·exact ⟨o,keep c o (I.cne x c e) hc nch ho (I.freeC x c e),hd⟩
 refine ⟨I.ok,I.os,hg,⟨fun b o e n hb hx=>?_,fun b o e n hb hx=>?_,fun b o e n hx=>?_,fun b o e hx=>?_,fun b xs e=>tups b xs (I.base.tups b xs e),fun b o xs e=>frzs b o xs (I.base.frzs b o xs e),fun b ps e=>?_⟩,?_,fun x c e=>?_,?_,fun x c e=>?_,fun p hp=>?_,hok,I.len⟩
 ·exact keep b o (neL b o e) hb (neC b o e hx) (I.base.keep b o e n hb hx) (I.base.free b o e n hx)
 ·obtain ⟨sl,e1⟩:=I.base.slot b o e n hb hx
  obtain ⟨sl',e2⟩:=slot b _ (neL b o e) hb (neC b o e hx) e1 (I.base.free b o e n hx)
  exact ⟨sl',e2⟩
 ·obtain ⟨o',e1⟩:=I.base.there b o e hx
  exact free b o' (neC b o e hx) e1 (I.base.free b o e n hx)
 ·obtain ⟨o',e1⟩:=I.base.there b o e hx
  exact there b o' (neC b o e hx) e1
 ·obtain ⟨m1,e1⟩:=I.base.tbls b ps e
  obtain ⟨m2,e2⟩:=tbls b _ e1
  exact ⟨m1++m2,by rw [e2,Array.append_assoc]⟩
 ·obtain ⟨m,hn,hl⟩:=I.loc
  refine ⟨m,ns m hn,fun i x v e1 e2 e3=>?_⟩
  obtain ⟨u,r,l⟩:=hl i x v e1 e2 e3
  refine ⟨u,r,?_⟩
  rcases l with l | ⟨k,c,e,z⟩
  ·exact .inl l
  ·exact .inr ⟨k,c,e,cellK x c e _ z⟩
 ·obtain ⟨v,z⟩:=I.cell x c e
  exact ⟨v,cellK x c e v z⟩
 ·obtain ⟨m,⟨o,_,_,ho,_⟩,_⟩:=I.loc
  exact free _ o (fun z=>(hch _ z).2.1 rfl) ho I.free
 ·obtain ⟨v,o,ho,hd⟩:=I.cell x c e
  exact free c o (fun z=>(hch c z).2.2.1 x c e rfl) ho (I.freeC x c e)
 ·obtain ⟨e,n,ne,nf,d⟩:=I.pin p hp
  have nch:p.1∉ch:=fun z=>(hch p.1 z).2.2.2 p hp rfl
  exact ⟨keep p.1 p.2 ne nf nch e n,free p.1 p.2 nch e n,ne,nf,d⟩
theorem Inv.un {t':Nat} (I:Inv X pins σ H s) (u:Un X.fs [] H H' s.heap h') (hok:HOk X.prog X.w H' h'):Inv X pins σ H' { s with heap:=h',toks:=t' }:=by
 obtain ⟨m,⟨o,es,ep,ho,r⟩,_⟩:=id I.loc
 obtain ⟨sl,hL⟩:=u.any ho I.free (by simp)
 exact I.step (g':=s.gens) (d':=s.drawn) (ch:=[]) (fun _ z=>nomatch z) (fun b o _ hb _ e n=>u.keep b o e n hb (by simp)) (fun b o _ hb _ e n=>u.slot b o e n hb (by simp)) (fun b o _ e n=>u.free b o e n (by simp)) (fun b o _ e=>u.there b o e (by simp)) u.tups u.frzs u.tbls (fun m' hm=>by
  obtain ⟨o',es',ep',ho',r'⟩:=hm
  rw [ho] at ho';cases ho'
  exact ⟨_,es',ep',hL,r'⟩) hok I.bare
theorem Inv.call {g':Array GenState} {t':Nat} {d':Drawn} {ch:List Addr} (I:Inv X pins σ H s) (u:Un (frs X.stack) ch H H' s.heap h') (hok:HOk X.prog X.w H' h') (hg:AllBare g')
  (hch:∀ b∈ch,(b∈X.ex∨X.s₀.heap.objs.size<=b)/\b≠X.env.locals/\(∀ x c,X.env.cells.lookup x=some c->c≠b)/\∀ p∈X.pn++pins,p.1≠b) :
  Inv X pins σ H' { s with heap:=h',gens:=g',drawn:=d',toks:=t' }:=by
 obtain ⟨m,⟨o,es,ep,ho,r⟩,_⟩:=id I.loc
 obtain ⟨sl,hL⟩:=u.any ho I.free fun z=>(hch _ z).2.1 rfl
 exact I.step (ch:=ch) hch (fun b o hL hb hc e n=>u.keep b o e n (fun z=>(Qn (I.stkSub b z)).elim hL hb) hc) (fun b o _ _ hc e n=>u.any e n hc) (fun b o hc e n=>u.free b o e n hc) (fun b o hc e=>u.there b o e hc) u.tups u.frzs u.tbls (fun m' hm=>by
  obtain ⟨o',es',ep',ho',r'⟩:=hm
  rw [ho] at ho';cases ho'
  exact ⟨_,es',ep',hL,r'⟩) hok hg
theorem Inv.turned {t':Nat} {it:Addr} (I:Inv X pins σ H s) (k:∀ b o,b≠it->s.heap.get? b=some o->h'.get? b=some o) (hn:H it=none) (hL:it≠X.env.locals)
  (h1:it∈X.ex∨X.s₀.heap.objs.size<=it) (h2:∀ x c,X.env.cells.lookup x=some c->c≠it) (h3:∀ p∈X.pn++pins,p.1≠it):Inv X pins σ H { s with heap:=h',toks:=t' }:=by
 have nit:∀ b u,H b=some u->b≠it:=fun b u e z=>by rw [z,hn] at e;cases e
 refine I.step (g':=s.gens) (d':=s.drawn) (ch:=[it]) (fun b hb=>?_) (fun b o _ _ hc e _=>k b o (fun z=>hc (by simp [z])) e) (fun b o _ _ hc e _=>⟨o.slots,k b o (fun z=>hc (by simp [z])) e⟩) (fun _ _ _ _ n=>n)
  (fun b o hc e=>⟨o,k b o (fun z=>hc (by simp [z])) e⟩) (fun _ _ e=>e) (fun _ _ _ e=>e) (fun b ps e=>⟨#[],by rw [e];simp⟩) (fun m hm=>?_) (fun b u e=>?_) I.bare
 ·have e:b=it:=by simpa using hb
  subst e
  exact ⟨h1,hL,h2,h3⟩
 ·obtain ⟨o,es,ep,ho,r⟩:=hm
  exact ⟨o,es,ep,k _ o (Ne.symm hL) ho,r⟩
 ·refine (I.hok b u e).stay (fun c v hc q=>k c v ?_ q) (fun _ q=>q) fun _ _ q=>q
  rcases hc with z | z
  ·rw [z];exact nit b u e
  ·exact nit c _ z
theorem Inv.tok (I:Inv X pins σ H s) (t:Nat):Inv X pins σ H { s with toks:=t }:=I.un (h':=s.heap) (t':=t) Un.refl I.hok
theorem Inv.kept {t':Nat} (I:Inv X pins σ H s) (k:∀ b u,s.heap.get? b=some u->h'.get? b=some u):Inv X pins σ H { s with heap:=h',toks:=t' }:=I.un (Un.kept k) (I.hok.kept k)
theorem Inv.laid {a:Addr} {o:HO} {t':Nat} (I:Inv X pins σ H s) (k:∀ b u,s.heap.get? b=some u->h'.get? b=some u) (hp:s.heap.objs.size<=a) (new:ObjOk X.prog X.w (upd H a o) h' a o) :
  Inv X pins σ (upd H a o) { s with heap:=h',toks:=t' }:=I.un (Un.laid k hp (I.hok.fresh hp)) (I.hok.laid k hp new)
theorem Inv.write {x e:Addr} {o:HO} {t':Nat} (I:Inv X pins σ H s) (mu:Mut (H x)) (he:e=x∨H e=some (.own x)) (k:∀ b u,b≠e->s.heap.get? b=some u->h'.get? b=some u) (heo:∃ u,h'.get? e=some u)
  (new:ObjOk X.prog X.w (upd H x o) h' x o):Inv X pins σ (upd H x o) { s with heap:=h',toks:=t' }:=I.un (Un.write mu he k heo) (I.hok.write mu he k heo new)
theorem Inv.pins_of {pins':List (Addr × Obj)} (I:Inv X pins σ H s) (h:∀ p∈pins',s.heap.get? p.1=some p.2/\H p.1=none/\p.1≠X.env.locals/\p.1∉X.fs/\∀ v,p.2.data≠.cell v):Inv X pins' σ H s :=
 ⟨I.ok,I.os,I.bare,I.base,I.loc,I.cell,I.free,I.freeC,fun p hp=>(Qt hp).elim (fun z=>I.pin p (List.mem_append_left _ z)) (h p),I.hok,I.len⟩
theorem nodup_ix {N:List Str} (hN:N.Nodup) {i j:Nat} {x:Str} (a:N[i]?=some x) (b:N[j]?=some x):i=j:=by
 obtain ⟨h1,e1⟩:=Qh a
 obtain ⟨h2,e2⟩:=Qh b
 exact (List.getElem_inj hN).mp (e1.trans e2.symm)
theorem store_ok2 {M:Model} {A:Around} {E:Value->Shared->Prop} {i:Nat} {x:Str} {v:V} {u:Value} {Q:Unit->Shared->Prop} (I:Inv X pins σ H s) (hN:X.N.Nodup) (hi:X.N[i]?=some x) (hx:Loc X.env.scope x) (r:RelV v u)
  (h:∀ s',Inv X pins (σ.set i (some v)) H s'->(∃ a,Heap.SameBut a s.heap s'.heap/\(a=X.env.locals∨X.env.cells.lookup x=some a))->Q () s') (hf:X.fn x=true∨X.env.scope.names.lookup x=some .local:=by first | exact .inl rfl | exact .inr rfl | assumption):wpAny M A (storeName X.env x u) Q E s:=by
 obtain ⟨m,hn,hl⟩:=id I.loc
 have hcls:(X.env.scope.kind == .class||(X.env.scope.kind == .module&&X.env.locals != X.env.globals))=false:=by rw [I.ok.kind];rfl
 have hiσ:i<σ.length:=by rw [I.len];exact (Qh hi).1
 have cne:=I.cne
 have tracked:∀ {a:Addr} {h':Heap},(∃ o,s.heap.get? a=some o/\H a=none)->Heap.SameBut a s.heap h'->HOk X.prog X.w H h':=fun {a h'} ha hs b ob e=>by
  obtain ⟨_,_,hfree⟩:=ha
  refine (I.hok b ob e).stay (fun c w' hc q=>(hs.2 c ?_).trans q) (fun _ q=>q) fun _ _ q=>q
  rintro rfl
  rcases hc with rfl | hc
  ·rw [hfree] at e;cases e
  ·rw [hfree] at hc;cases hc
 rcases hx with hk | hk
 ·refine wpAny_storeName_local hk hn (fun h' hn' hs=>?_) hcls
  obtain ⟨oL,_,_,hoL,_⟩:=id hn
  refine h _ ⟨I.ok,I.os,I.bare,⟨fun b o e n hb hx=>?_,fun b o e n hb hx=>?_,I.base.free,fun b o e hx=>?_,I.base.tups,I.base.frzs,I.base.tbls⟩,⟨_,hn',fun j y v' e1 e2 e3=>?_⟩,fun y c e=>?_,I.free,I.freeC,fun p hp=>?_,tracked ⟨oL,hoL,I.free⟩ hs,by simpa using I.len⟩ ⟨_,hs,.inl rfl⟩
  ·exact (hs.2 b (Qy (Nat.lt_of_lt_of_le (Qq e) I.ok.above))).trans (I.base.keep b o e n hb hx)
  ·obtain ⟨sl,e1⟩:=I.base.slot b o e n hb hx
   exact ⟨sl,(hs.2 b (Qy (Nat.lt_of_lt_of_le (Qq e) I.ok.above))).trans e1⟩
  ·obtain ⟨o',e1⟩:=I.base.there b o e hx
   exact ⟨o',(hs.2 b (Qy (Nat.lt_of_lt_of_le (Qq e) I.ok.above))).trans e1⟩
  ·by_cases hj:j=i
   ·subst hj
    rw [hi] at e1;cases e1
    rw [List.getElem?_set_self hiσ] at e2
    cases e2
    exact ⟨u,r,.inl ⟨hk,by simp⟩⟩
   ·rw [List.getElem?_set_ne (Ne.symm hj)] at e2
    obtain ⟨u',r',q⟩:=hl j y v' e1 e2 e3
    refine ⟨u',r',?_⟩
    rcases q with ⟨k,e⟩ | ⟨k,c,e,z⟩
    ·refine .inl ⟨k,?_⟩
     have:y≠x:=fun e=>hj (nodup_ix hN e1 (e ▸ hi))
     simp [this,e]
    ·exact .inr ⟨k,c,e,z.sameBut hs (cne y c e)⟩
  ·obtain ⟨w',z⟩:=I.cell y c e
   exact ⟨w',z.sameBut hs (cne y c e)⟩
  ·obtain ⟨e,n,ne,nf,d⟩:=I.pin p hp
   exact ⟨(hs.2 p.1 ne).trans e,n,ne,nf,d⟩
 ·have hfn:X.fn x=true:=by
   rcases hf with z | z
   ·exact z
   ·rw [z] at hk;cases hk
  obtain ⟨c,hc⟩:=I.ok.has x (.inl hk)
  obtain ⟨w',z⟩:=I.cell x c hc
  refine wpAny_storeName_cell I.ok.kind hk hc z (fun h' hc' hs=>?_)
  obtain ⟨oc,hoc,hocd⟩:=id z
  refine h { s with heap:=h' } ⟨I.ok,I.os,I.bare,⟨fun b o e n hb hx=>?_,fun b o e n hb hx=>?_,I.base.free,fun b o e hx=>?_,I.base.tups,I.base.frzs,I.base.tbls⟩,⟨m,hn.sameBut hs (Ne.symm (cne x c hc)),fun j y v' e1 e2 e3=>?_⟩,fun y c' e=>?_,I.free,I.freeC,fun p hp=>?_,tracked ⟨oc,hoc,I.freeC x c hc⟩ hs,by simpa using I.len⟩ ⟨c,hs,.inr hc⟩
  ·exact (hs.2 b (Qy (Nat.lt_of_lt_of_le (Qq e) (I.ok.cab x c hfn hc)))).trans (I.base.keep b o e n hb hx)
  ·obtain ⟨sl,e1⟩:=I.base.slot b o e n hb hx
   exact ⟨sl,(hs.2 b (Qy (Nat.lt_of_lt_of_le (Qq e) (I.ok.cab x c hfn hc)))).trans e1⟩
  ·obtain ⟨o',e1⟩:=I.base.there b o e hx
   exact ⟨o',(hs.2 b (Qy (Nat.lt_of_lt_of_le (Qq e) (I.ok.cab x c hfn hc)))).trans e1⟩
  ·by_cases hj:j=i
   ·subst hj
    rw [hi] at e1;cases e1
    rw [List.getElem?_set_self hiσ] at e2
    cases e2
    exact ⟨u,r,.inr ⟨.inl hk,c,hc,hc'⟩⟩
   ·rw [List.getElem?_set_ne (Ne.symm hj)] at e2
    obtain ⟨u',r',q⟩:=hl j y v' e1 e2 e3
    refine ⟨u',r',?_⟩
    rcases q with q | ⟨k,c',e,z'⟩
    ·exact .inl q
    ·refine .inr ⟨k,c',e,z'.sameBut hs ?_⟩
     rintro rfl
     exact hj (nodup_ix hN e1 (I.ok.inj _ _ _ e hc ▸ hi))
  ·by_cases hcc:c'=c
   ·subst hcc;exact ⟨_,hc'⟩
   ·obtain ⟨w2,z2⟩:=I.cell y c' e
    exact ⟨w2,z2.sameBut hs hcc⟩
  ·obtain ⟨e,n,ne,nf,d⟩:=I.pin p hp
   refine ⟨(hs.2 p.1 ?_).trans e,n,ne,nf,d⟩
   intro q
   rw [q,hoc] at e
   have q':oc=p.2:=Qr e
   exact d w' (by rw [<- q'];exact hocd)
theorem store_ok {M:Model} {A:Around} {E:Value->Shared->Prop} {i:Nat} {x:Str} {v:V} {u:Value} {Q:Unit->Shared->Prop} (I:Inv X pins σ H s) (hN:X.N.Nodup) (hi:X.N[i]?=some x) (hx:Loc X.env.scope x) (r:RelV v u)
  (h:∀ s',Inv X pins (σ.set i (some v)) H s'->Q () s') (hf:X.fn x=true∨X.env.scope.names.lookup x=some .local:=by first | exact .inl rfl | exact .inr rfl | assumption):wpAny M A (storeName X.env x u) Q E s :=
 store_ok2 I hN hi hx r (fun s' I' _=>h s' I') hf
theorem Inv.call' {s':Shared} {ch:List Addr} (I:Inv X pins σ H s) (ho:s'.os=s.os) (u:Un (frs X.stack) ch H H' s.heap s'.heap) (hok:HOk X.prog X.w H' s'.heap) (hg:AllBare s'.gens)
  (hch:∀ b∈ch,(b∈X.ex∨X.s₀.heap.objs.size<=b)/\b≠X.env.locals/\(∀ x c,X.env.cells.lookup x=some c->c≠b)/\∀ p∈X.pn++pins,p.1≠b):Inv X pins σ H' s':=by
 obtain ⟨h',g',d',t',o'⟩:=s'
 have e:o'=s.os:=ho
 subst e
 exact I.call (g':=g') (t':=t') (d':=d') u hok hg hch
end
noncomputable abbrev XK:=Value->Option Addr->Hp->Prop
noncomputable abbrev St:=List (Option V)
noncomputable abbrev VK:=V->Hp->Prop
noncomputable abbrev TE:=St->Hp->VK->Prop
noncomputable abbrev TT:=St->Hp->(Bool->Hp->Prop)->Prop
noncomputable abbrev TA:=St->Hp->(List V->Hp->Prop)->Prop
structure Ends where
 nx:St->Hp->Prop
 rt:VK
 bk:St->Hp->Prop:=fun _ _=>False
 ct:St->Hp->Prop:=fun _ _=>False
noncomputable abbrev TS:=Ends->St->Hp->Prop
noncomputable def EP (X:Cx) (pins:List (Addr × Obj)) (σ:St) (Q:VK) (u:Value) (s':Shared):Prop:=∃ v H',Inv X pins σ H' s'/\RelV v u/\Q v H'
noncomputable def TP (X:Cx) (pins:List (Addr × Obj)) (σ:St) (Q:Bool->Hp->Prop) (b:Bool) (s':Shared):Prop:=∃ H',Inv X pins σ H' s'/\Q b H'
noncomputable def AP (X:Cx) (pins:List (Addr × Obj)) (σ:St) (Q:List V->Hp->Prop) (us:List Value) (s':Shared):Prop:=∃ vs H',Inv X pins σ H' s'/\Vals vs us/\Q vs H'
noncomputable def SP (X:Cx) (pins:List (Addr × Obj)) (D:Ends) (f:Flow) (s':Shared):Prop :=
 match f with
 | .next=>∃ σ' H',Inv X pins σ' H' s'/\D.nx σ' H'
 | .brk=>∃ σ' H',Inv X pins σ' H' s'/\D.bk σ' H'
 | .cont=>∃ σ' H',Inv X pins σ' H' s'/\D.ct σ' H'
 | .ret u=>∃ v σ' H',Inv X pins σ' H' s'/\RelV v u/\D.rt v H'
noncomputable def PE (X:Cx) (e:Expr) (t:TE):Prop :=
 ∀ (pins:List (Addr × Obj)) (s:Shared) (σ:St) (H:Hp) (Q:VK),Inv X pins σ H s->t σ H Q->wpAny (model X.prog X.w) X.A (eval e X.env) (EP X pins σ Q) X.xe s
noncomputable def PT (X:Cx) (e:Expr) (t:TT):Prop :=
 ∀ (pins:List (Addr × Obj)) (s:Shared) (σ:St) (H:Hp) (Q:Bool->Hp->Prop),Inv X pins σ H s->t σ H Q->wpAny (model X.prog X.w) X.A (isTrue e X.env (eval e X.env)) (TP X pins σ Q) X.xe s
noncomputable def PW (X:Cx) (e:Expr) (t:TT):Prop :=
 ∀ (whole:Sem Value) (pins:List (Addr × Obj)) (s:Shared) (σ:St) (H:Hp) (Q:Bool->Hp->Prop),Inv X pins σ H s->t σ H Q->wpAny (model X.prog X.w) X.A (isTrue e X.env whole) (TP X pins σ Q) X.xe s
theorem PW.pt {X:Cx} {e:Expr} {t:TT} (h:PW X e t):PT X e t:=h _
noncomputable def PA (X:Cx) (es:List Expr) (t:TA):Prop :=
 ∀ (pos:Pos) (pins:List (Addr × Obj)) (s:Shared) (σ:St) (H:Hp) (Q:List V->Hp->Prop),Inv X pins σ H s->t σ H Q->wpAny (model X.prog X.w) X.A (spliced (backTo pos (starEach es X.env))) (AP X pins σ Q) X.xe s
noncomputable def PS (X:Cx) (st:Stmt) (t:TS):Prop :=
 ∀ (pins:List (Addr × Obj)) (s:Shared) (σ:St) (H:Hp) (D:Ends),Inv X pins σ H s->t D σ H->wpAny (model X.prog X.w) X.A (exec st X.env) (SP X pins D) X.xe s
noncomputable def PSs (X:Cx) (st:List Stmt) (t:TS):Prop :=
 ∀ (pins:List (Addr × Obj)) (s:Shared) (σ:St) (H:Hp) (D:Ends),Inv X pins σ H s->t D σ H->wpAny (model X.prog X.w) X.A (execs st X.env) (SP X pins D) X.xe s
theorem thn {α:Type} {t:Sem α} {Q Q':α->Shared->Prop} {M:Model} {A:Around} {E:Value->Shared->Prop} {s:Shared} (h:wpAny M A t Q E s) (hQ:∀ a s,Q a s->Q' a s):wpAny M A t Q' E s:=QJ h hQ fun _ _ x=>x
end L2
namespace L2
open PySem PySem.Spec PyProof.Rows
section
variable {X:Cx}
noncomputable def tVar (i:Nat):TE:=fun σ H Q=>∃ v,σ[i]?=some (some v)/\Q v H
noncomputable def tC (v:V):TE:=fun _ H Q=>Q v H
theorem pe_var {i:Nat} {x:Str} {pos:Pos} (hN:X.N[i]?=some x) (hv:Vis X.env.scope x) (hd:(x == ("__debug__":Str))=false:=by decide) (hcd:(x == ("__classdict__":Str))=false:=by decide):PE X (.Name x pos) (tVar i):=by
 intro pins s σ H Q I h
 obtain ⟨v,e,h⟩:=h
 obtain ⟨m,hn,hl⟩:=I.loc
 obtain ⟨u,r,l⟩:=hl i x v hN e hv
 have fin:EP X pins σ Q u s:=⟨v,H,I,r,h⟩
 rcases l with ⟨hk,hm⟩ | ⟨hk,c,hc,hcell⟩
 ·exact wpAny_Name (wpAny_loadName_local I.ok.kind hk hn hm fin) hd
 ·rcases hk with hk | hk
  ·exact wpAny_Name (wpAny_loadName_cell I.ok.kind hk hc hcell fin) hd
  ·exact wpAny_Name (wpAny_loadName_free I.ok.kind hk hc hcell fin hcd) hd
theorem pe_int {i j pos}:PE X (.Constant (.int i) j pos) (tC (.int i)):=fun _ _ _ H _ I h=>wpAny_Constant_int ⟨.int i,H,I.tok _,⟨_,rfl⟩,h⟩
theorem pe_bl {b j pos}:PE X (.Constant (.bool b) j pos) (tC (.bl b)):=fun _ _ _ H _ I h=>Constant_bool ⟨.bl b,H,I,rfl,h⟩
theorem pe_non {j pos}:PE X (.Constant .none j pos) (tC .non):=fun _ _ _ H _ I h=>Constant_none ⟨.non,H,I,rfl,h⟩
theorem pe_str {x j pos}:PE X (.Constant (.str x) j pos) (tC (.str x)):=fun _ _ _ H _ I h=>Calls.Constant_str ⟨.str x,H,I.tok _,⟨_,rfl⟩,h⟩
noncomputable def Gl (X:Cx) (x:Str):Prop:=X.env.kindOf x=some .globalImplicit
theorem ld_glob {E:Value->Shared->Prop} {pins:List (Addr × Obj)} {s:Shared} {σ:St} {H:Hp} {x:Str} {u:Value} {pos:Pos} {Q:Value->Shared->Prop} (I:Inv X pins σ H s) (hg:Gl X x) (hm:X.mg x=some u) (h:Q u s)
  (hd:(x == ("__debug__":Str))=false:=by decide):wpAny (model X.prog X.w) X.A (eval (.Name x pos) X.env) Q E s :=
 Calls.Name_function_global I.ok.kind hg (Calls.loadGlobal_global (by rw [I.ok.glob];exact I.mod.glob.keeps I.bk) hm h) hd
theorem ld_blt {E:Value->Shared->Prop} {pins:List (Addr × Obj)} {s:Shared} {σ:St} {H:Hp} {x:Str} {u:Value} {pos:Pos} {Q:Value->Shared->Prop} (I:Inv X pins σ H s) (hg:Gl X x) (hm:X.mg x=none) (hv:bootBuiltins x=some u) (h:Q u s)
  (hn:x≠"__name__":=by decide) (hd:(x == ("__debug__":Str))=false:=by decide):wpAny (model X.prog X.w) X.A (eval (.Name x pos) X.env) Q E s:=by
 obtain ⟨mb,h1,h2⟩:=I.mod.blt
 exact Calls.Name_function_global I.ok.kind hg (Calls.loadGlobal_builtin (by rw [I.ok.glob];exact I.mod.glob.keeps I.bk) hm (by rw [I.ok.blt];exact h1.keeps I.bk) ((h2 x hn).trans hv) h) hd
theorem pe_glob {x:Str} {v:V} {u:Value} {pos:Pos} (hg:Gl X x) (hm:X.mg x=some u) (r:RelV v u) (hd:(x == ("__debug__":Str))=false:=by decide):PE X (.Name x pos) (tC v) :=
 fun _ _ _ H _ I h=>ld_glob I hg hm ⟨v,H,I,r,h⟩ hd
theorem pe_bltn {x:Str} {v:V} {u:Value} {pos:Pos} (hg:Gl X x) (hm:X.mg x=none) (hv:bootBuiltins x=some u) (r:RelV v u) (hn:x≠"__name__":=by decide) (hd:(x == ("__debug__":Str))=false:=by decide):PE X (.Name x pos) (tC v) :=
 fun _ _ _ H _ I h=>ld_blt I hg hm hv ⟨v,H,I,r,h⟩ hn hd
variable {a b:Expr} {ta tb:TE} {pos:Pos}
noncomputable def PC (X:Cx) (op:CmpOp) (a b:Expr) (t:TE):Prop :=
 ∀ (pins:List (Addr × Obj)) (s:Shared) (σ:St) (H:Hp) (Q:VK),Inv X pins σ H s->t σ H Q ->
  wpAny (model X.prog X.w) X.A (eval a X.env) (fun v s₁=>wpAny (model X.prog X.w) X.A (eval b X.env) (fun u s₂=>wpAny (model X.prog X.w) X.A (compareOp op v u) (EP X pins σ Q) X.xe s₂) X.xe s₁) X.xe s
theorem nobehind (b:Expr) {op:CmpOp} (h:op≠.In) (h2:op≠.NotIn):behindInMarks op b=false:=by
 have e1:(op == CmpOp.In)=false:=by cases op<;>first | rfl | exact absurd rfl h
 have e2:(op == CmpOp.NotIn)=false:=by cases op<;>first | rfl | exact absurd rfl h2
 cases b<;>simp [behindInMarks,e1,e2]
noncomputable def tNotN (ta:TE):TE:=fun σ H Q=>ta σ H fun x H1=>Q (.bl (!decide (x=.non))) H1
theorem RelV.none_iff {x:V} {v:Value} (r:RelV x v):(v == Value.none)=decide (x=.non):=by
 cases x with
 | non=>cases r;rfl
 | bl _=>cases r;rfl
 | int _=>obtain ⟨t,rfl⟩:=r;rfl
 | str _=>obtain ⟨t,rfl⟩:=r;rfl
 | byt _=>obtain ⟨t,rfl⟩:=r;rfl
 | flt _=>obtain ⟨t,rfl⟩:=r;rfl
 | ref _=>cases r;rfl
 | ty _=>cases r;rfl
theorem pc_notN {j pos'} (ha:PE X a ta):PC X .IsNot a (.Constant .none j pos') (tNotN ta):=by
 intro pins s σ H Q I h
 refine thn (ha pins s σ H _ I h) fun v s1 hsl1=>?_
 obtain ⟨x,H1,I1,r1,q1⟩:=hsl1
 exact Constant_none (isnot_none_gen ⟨.bl _,H1,I1,by rw [r1.none_iff];rfl,q1⟩)
noncomputable def tB (t:TE):TT:=fun σ H Q=>t σ H fun x H1=>∃ c,x=.bl c/\Q c H1
theorem pe_cmp {op:CmpOp} {t:TE} (h:PC X op a b t) (h1:behindInMarks op b=false:=by first | exact nobehind _ (by decide) (by decide) | rfl):PE X (.Compare a [op] [b] pos) t:=fun pins s σ H Q I hw=>wpAny_Compare1 (h pins s σ H Q I hw) h1
theorem pt_cmp {op:CmpOp} {t:TE} (h:PC X op a b t) (h1:behindInMarks op b=false:=by first | exact nobehind _ (by decide) (by decide) | rfl):PT X (.Compare a [op] [b] pos) (tB t):=by
 intro pins s σ H Q I hw
 refine wpAny_isTrue_Compare1 (thn (h pins s σ H _ I hw) fun v s1 h1=>thn h1 fun u s2 h2=>thn h2 fun c s3 hsl2=>?_) h1
 obtain ⟨x,H1,I1,r1,q1⟩:=hsl2
 obtain ⟨d,rfl,q⟩:=q1
 cases r1
 exact wpAny_truthy_bool ⟨H1,I1,q⟩
theorem pt_val {e:Expr} {t:TE} (h:PE X e t) (he:∀ whole,isTrue e X.env whole=(do let v <- whole;standAt e.pos;holding [v] (truthy v)):=by intro _;rfl):PT X e (tB t):=by
 intro pins s σ H Q I hw
 refine isTrue_plain (thn (h pins s σ H _ I hw) fun v s1 hsl3=>?_) (he _)
 obtain ⟨x,H1,I1,r1,q1⟩:=hsl3
 obtain ⟨d,rfl,q⟩:=q1
 cases r1
 exact wpAny_truthy_bool ⟨H1,I1,q⟩
variable {tA tB':TT} {rest:List Expr}
noncomputable def tAnd (t u:TT):TT:=fun σ H Q=>t σ H fun c H1=>if c=true then u σ H1 Q else Q false H1
noncomputable def tOr (t u:TT):TT:=fun σ H Q=>t σ H fun c H1=>if c=true then Q true H1 else u σ H1 Q
theorem pw_and1 (ha:PT X a tA):PW X (.BoolOp .And [a] pos) tA:=by
 intro wh pins s σ H Q I h
 refine isTrue_and (thn (ha pins s σ H Q I h) fun c s1 e=>?_)
 cases c with
 | true=>exact isTrue_and_nil e
 | false=>exact e
theorem pw_or1 (ha:PT X a tA):PW X (.BoolOp .Or [a] pos) tA:=by
 intro wh pins s σ H Q I h
 refine isTrue_or (thn (ha pins s σ H Q I h) fun c s1 e=>?_)
 cases c with
 | false=>exact isTrue_or_nil e
 | true=>exact e
theorem pw_and (ha:PT X a tA) (hb:PW X (.BoolOp .And (b::rest) pos) tB'):PW X (.BoolOp .And (a::b::rest) pos) (tAnd tA tB'):=by
 intro wh pins s σ H Q I h
 refine isTrue_and (thn (ha pins s σ H _ I h) fun c s1 hsl4=>?_)
 obtain ⟨H1,I1,q1⟩:=hsl4
 cases c with
 | true=>exact hb wh pins s1 σ H1 Q I1 q1
 | false=>exact ⟨H1,I1,q1⟩
theorem pw_or (ha:PT X a tA) (hb:PW X (.BoolOp .Or (b::rest) pos) tB'):PW X (.BoolOp .Or (a::b::rest) pos) (tOr tA tB'):=by
 intro wh pins s σ H Q I h
 refine isTrue_or (thn (ha pins s σ H _ I h) fun c s1 hsl5=>?_)
 obtain ⟨H1,I1,q1⟩:=hsl5
 cases c with
 | true=>exact ⟨H1,I1,q1⟩
 | false=>exact hb wh pins s1 σ H1 Q I1 q1
noncomputable def tAndV (ta tb:TE):TE:=fun σ H Q=>ta σ H fun x H1=>∃ c,x=.bl c/\if c=true then tb σ H1 Q else Q (.bl false) H1
theorem pe_one {op} {t:TE} (h:PE X a t):PE X (.BoolOp op [a] pos) t:=fun pins s σ H Q I hw=>BoolOp_one (h pins s σ H Q I hw)
theorem pe_and (ha:PE X a ta) (hb:PE X (.BoolOp .And (b::rest) pos) tb):PE X (.BoolOp .And (a::b::rest) pos) (tAndV ta tb):=by
 intro pins s σ H Q I h
 refine BoolOp_and (thn (ha pins s σ H _ I h) fun v s1 hsl6=>?_)
 obtain ⟨x,H1,I1,r1,q1⟩:=hsl6
 obtain ⟨c,rfl,q1⟩:=q1
 cases r1
 refine wpAny_truthy_bool ?_
 cases c with
 | true=>exact hb pins s1 σ H1 Q I1 q1
 | false=>exact ⟨.bl false,H1,I1,rfl,q1⟩
noncomputable def tIf (t:TT) (ta tb:TE):TE:=fun σ H Q=>t σ H fun c H1=>if c=true then ta σ H1 Q else tb σ H1 Q
theorem pe_ifExp {c:Expr} (hc:PT X c tA) (ha:PE X a ta) (hb:PE X b tb):PE X (.IfExp c a b pos) (tIf tA ta tb):=by
 intro pins s σ H Q I h
 refine wpAny_IfExp (thn (hc pins s σ H _ I h) fun d s1 hsl7=>?_)
 obtain ⟨H1,I1,q1⟩:=hsl7
 cases d with
 | true=>exact ha pins s1 σ H1 Q I1 q1
 | false=>exact hb pins s1 σ H1 Q I1 q1
end
end L2
namespace L2
open PySem PySem.Spec PyProof.Rows
noncomputable def SqL (K:PySem.W.Frag) (H:Hp) (a:Addr) (xs:List V):Prop :=
 Rd H a (.lst xs) ∨
  ∃ (o:Obj) (its:Array Value) (n:Nat),K.lookup a=some o/\o.cls=.type "list"/\o.dict=none/\o.data=.seq its n/\its.size<=sizeLine/\Vals xs its.toList
noncomputable def SqT (K:PySem.W.Frag) (H:Hp) (a:Addr) (xs:List V):Prop :=
 Rd H a (.tup xs) ∨
  ∃ (o:Obj) (its:Array Value) (n:Nat),K.lookup a=some o/\o.cls=.type "tuple"/\o.data=.seq its n/\its.size<=sizeLine/\Vals xs its.toList
noncomputable def absV:Value->Option V
 | .none=>some .non
 | .bool b=>some (.bl b)
 | .int i _=>some (.int i)
 | .str x _=>some (.str x)
 | .bytes b _=>some (.byt b)
 | .float b _=>some (.flt b)
 | .ref a=>some (.ref a)
 | .type n=>some (.ty n)
 | _=>none
theorem RelV.abs {x:V} {u:Value} (r:RelV x u):absV u=some x:=by
 cases x with
 | non=>cases r;rfl
 | bl _=>cases r;rfl
 | int _=>obtain ⟨t,rfl⟩:=r;rfl
 | str _=>obtain ⟨t,rfl⟩:=r;rfl
 | byt _=>obtain ⟨t,rfl⟩:=r;rfl
 | flt _=>obtain ⟨t,rfl⟩:=r;rfl
 | ref _=>cases r;rfl
 | ty _=>cases r;rfl
theorem RelV.inj {x y:V} {u:Value} (r:RelV x u) (q:RelV y u):x=y:=Qr (r.abs.symm.trans q.abs)
theorem Vals.inj:∀ {xs ys:List V} {us:List Value},Vals xs us->Vals ys us->xs=ys
 | _,_,_,.nil,.nil=>rfl
 | _,_,_,.cons r t,.cons r' t'=>by rw [r.inj r',Vals.inj t t']
section
variable {X:Cx} {pins:List (Addr × Obj)} {σ:St} {H:Hp} {s:Shared} {a:Addr} {xs ys:List V}
theorem SqL.of {K:PySem.W.Frag} (h:H a=some (.lst xs)):SqL K H a xs:=.inl (.inl h)
theorem SqT.of {K:PySem.W.Frag} (h:H a=some (.tup xs)):SqT K H a xs:=.inl (.inl h)
theorem Inv.list (I:Inv X pins σ H s) (h:SqL X.K H a xs):∃ its:List Value,Vals xs its/\PlainL s.heap a its.toArray/\xs.length<=sizeLine:=by
 rcases h with h | ⟨o,its,n,hk,hc,hd,hs,hz,r⟩
 ·obtain ⟨z,its,n,r,e⟩:=h.ok I.hok
  exact ⟨its,r,⟨_,n,e,rfl,rfl,rfl⟩,z⟩
 ·refine ⟨its.toList,r,⟨o,n,I.kIn a o hk,hc,hd,by simpa using hs⟩,?_⟩
  have e:=r.length
  simp only [QD] at e
  omega
theorem Inv.tuple (I:Inv X pins σ H s) (h:SqT X.K H a xs):∃ its:List Value,Vals xs its/\IsTup s.heap a its.toArray/\xs.length<=sizeLine:=by
 rcases h with h | ⟨o,its,n,hk,hc,hs,hz,r⟩
 ·obtain ⟨z,its,r,p⟩:=h.ok I.hok
  exact ⟨its,r,p,z⟩
 ·refine ⟨its.toList,r,⟨o,I.kIn a o hk,hc,n,by simpa using hs⟩,?_⟩
  have e:=r.length
  simp only [QD] at e
  omega
theorem Inv.list_inj (I:Inv X pins σ H s) (h:SqL X.K H a xs) (h':SqL X.K H a ys):xs=ys:=by
 obtain ⟨its,r,⟨o,n,e,_,_,d⟩,_⟩:=I.list h
 obtain ⟨its',r',⟨o',n',e',_,_,d'⟩,_⟩:=I.list h'
 rw [e] at e';cases e'
 rw [d] at d'
 injection d' with d1 _
 have:its=its':=by simpa using congrArg Array.toList d1
 subst this
 exact r.inj r'
theorem Inv.tuple_inj (I:Inv X pins σ H s) (h:SqT X.K H a xs) (h':SqT X.K H a ys):xs=ys:=by
 obtain ⟨its,r,⟨o,e,_,n,d⟩,_⟩:=I.tuple h
 obtain ⟨its',r',⟨o',e',_,n',d'⟩,_⟩:=I.tuple h'
 rw [e] at e';cases e'
 rw [d] at d'
 injection d' with d1 _
 have:its=its':=by simpa using congrArg Array.toList d1
 subst this
 exact r.inj r'
end
noncomputable abbrev Cx.wish (X:Cx) (E:Value->Shared->Prop):Cx:={ X with xe:=E }
noncomputable abbrev Cx.nox (X:Cx):Cx:=X.wish fun _ _=>False
theorem Cx.Ok.wish {X:Cx} (ok:X.Ok) (E:Value->Shared->Prop):(X.wish E).Ok :=
 ⟨ok.mod,ok.kind,ok.glob,ok.blt,ok.above,ok.inj,ok.has,ok.cab,ok.hd,ok.frames,ok.stk,ok.exf,ok.bs,ok.bsz,ok.noex,ok.exfs,ok.funs,ok.frf⟩
theorem Cx.Ok.unwish {X:Cx} {E:Value->Shared->Prop} (ok:(X.wish E).Ok):X.Ok :=
 ⟨ok.mod,ok.kind,ok.glob,ok.blt,ok.above,ok.inj,ok.has,ok.cab,ok.hd,ok.frames,ok.stk,ok.exf,ok.bs,ok.bsz,ok.noex,ok.exfs,ok.funs,ok.frf⟩
section
variable {X:Cx} {pins:List (Addr × Obj)} {σ:St} {H:Hp} {s:Shared} {E:Value->Shared->Prop}
theorem Inv.wish (I:Inv X pins σ H s) (E:Value->Shared->Prop):Inv (X.wish E) pins σ H s:=⟨I.ok.wish E,I.os,I.bare,I.base,I.loc,I.cell,I.free,I.freeC,I.pin,I.hok,I.len⟩
theorem Inv.unwish (I:Inv (X.wish E) pins σ H s):Inv X pins σ H s:=⟨I.ok.unwish,I.os,I.bare,I.base,I.loc,I.cell,I.free,I.freeC,I.pin,I.hok,I.len⟩
theorem SP.unwish {D:Ends} {f:Flow} {s':Shared} (h:SP (X.wish E) pins D f s'):SP X pins D f s':=by
 cases f with
 | next=>obtain ⟨σ',H',I,q⟩:=h;exact ⟨σ',H',I.unwish,q⟩
 | brk=>obtain ⟨σ',H',I,q⟩:=h;exact ⟨σ',H',I.unwish,q⟩
 | cont=>obtain ⟨σ',H',I,q⟩:=h;exact ⟨σ',H',I.unwish,q⟩
 | ret u=>obtain ⟨v,σ',H',I,r,q⟩:=h;exact ⟨v,σ',H',I.unwish,r,q⟩
theorem PSs.nox {st:List Stmt} {t:TS} (h:PSs X.nox st t):PSs X st t:=fun pins s σ H D I hw =>
 QJ (h pins s σ H D (I.wish _) hw) (fun _ _ q=>q.unwish) fun _ _ z=>False.elim z
end
section
variable {X:Cx} {st:Stmt} {rest:List Stmt} {t u:TS} {e:Expr} {te:TE} {pos:Pos}
noncomputable def tNext:TS:=fun D σ H=>D.nx σ H
noncomputable def tSeq (t u:TS):TS:=fun D σ H=>t { D with nx:=u D } σ H
theorem pss_nil:PSs X [] tNext:=fun _ _ σ H _ I h=>wpAny_execs_nil ⟨σ,H,I,h⟩
theorem pss_cons (h1:PS X st t) (h2:PSs X rest u):PSs X (st::rest) (tSeq t u):=by
 intro pins s σ H D I h
 refine wpAny_execs_cons (thn (h1 pins s σ H { D with nx:=u D } I h) fun f s1 q=>?_)
 cases f with
 | next =>
  obtain ⟨σ',H',I',q⟩:=q
  exact h2 pins s1 σ' H' D I' q
 | ret v=>exact q
 | brk=>exact q
 | cont=>exact q
theorem pss_one (h1:PS X st t):PSs X [st] t:=by
 intro pins s σ H D I h
 refine wpAny_execs_cons (thn (h1 pins s σ H D I h) fun f s1 q=>?_)
 cases f with
 | next=>exact wpAny_execs_nil q
 | ret v=>exact q
 | brk=>exact q
 | cont=>exact q
theorem Inv.quiet {pins:List (Addr × Obj)} {σ:St} {H:Hp} {s:Shared} (I:Inv X pins σ H s):interactive X.env=false:=by simp [interactive,I.ok.kind]
noncomputable def tDrop (te:TE):TS:=fun D σ H=>te σ H fun _ H1=>D.nx σ H1
theorem ps_expr (he:PE X e te) (hs:swapsWith e none pos.line X.env=pure false:=by rfl):PS X (.Expr e pos) (tDrop te):=by
 intro pins s σ H D I h
 exact wpAny_Expr_any (thn (he pins s σ H _ I h) fun v s1 hsl10=>by obtain ⟨x,H1,I1,r1,q1⟩:=hsl10;exact ⟨σ,H1,I1,q1⟩) I.quiet hs
noncomputable def tRet (te:TE):TS:=fun D σ H=>te σ H D.rt
theorem ps_ret (he:PE X e te):PS X (.Return (some e) pos) (tRet te):=by
 intro pins s σ H D I h
 exact wpAny_Return_some (thn (he pins s σ H _ I h) fun v s1 hsl11=>by obtain ⟨x,H1,I1,r1,q1⟩:=hsl11;exact ⟨x,σ,H1,I1,r1,q1⟩)
noncomputable def tIfS (c:TT) (t u:TS):TS:=fun D σ H=>c σ H fun b H1=>if b=true then t D σ H1 else u D σ H1
theorem ps_if {c:Expr} {a b:List Stmt} {tc:TT} (hc:PT X c tc) (ha:PSs X a t) (hb:PSs X b u):PS X (.If c a b pos) (tIfS tc t u):=by
 intro pins s σ H D I h
 refine wpAny_If (thn (hc pins s σ H _ I h) fun d s1 hsl12=>?_)
 obtain ⟨H1,I1,q1⟩:=hsl12
 cases d with
 | true=>exact ha pins s1 σ H1 D I1 q1
 | false=>exact hb pins s1 σ H1 D I1 q1
noncomputable def tNever:TS:=fun _ _ _=>False
theorem pss_never {sts:List Stmt}:PSs X sts tNever:=fun _ _ _ _ _ _ h=>h.elim
end
noncomputable abbrev TG:=V->St->Hp->(St->Hp->Prop)->Prop
noncomputable abbrev TGs:=List V->St->Hp->(St->Hp->Prop)->Prop
noncomputable def PG (X:Cx) (target:Expr) (t:TG):Prop :=
 ∀ (pins:List (Addr × Obj)) (s:Shared) (σ:St) (H:Hp) (v:V) (u:Value) (Q:St->Hp->Prop),Inv X pins σ H s->RelV v u->t v σ H Q ->
  wpAny (model X.prog X.w) X.A (assign target X.env u) (fun _ s'=>∃ σ' H',Inv X pins σ' H' s'/\Q σ' H') X.xe s
noncomputable def PGs (X:Cx) (ts:List Expr) (t:TGs):Prop :=
 ∀ (pins:List (Addr × Obj)) (s:Shared) (σ:St) (H:Hp) (vs:List V) (us:List Value) (Q:St->Hp->Prop),Inv X pins σ H s->Vals vs us->t vs σ H Q ->
  wpAny (model X.prog X.w) X.A (assignInOrder ((assignEach ts X.env).map (·.2)) us) (fun _ s'=>∃ σ' H',Inv X pins σ' H' s'/\Q σ' H') X.xe s
section
variable {X:Cx} {pos:Pos}
noncomputable def gName (i:Nat):TG:=fun v σ H Q=>Q (σ.set i (some v)) H
theorem pg_name {i:Nat} {x:Str} (hN:X.N.Nodup) (hi:X.N[i]?=some x) (hx:Loc X.env.scope x) (hf:X.fn x=true∨X.env.scope.names.lookup x=some .local:=by first | exact .inl rfl | exact .inr rfl | assumption):PG X (.Name x pos) (gName i):=by
 intro pins s σ H v u Q I r h
 exact wpAny_assign_Name (store_ok I hN hi hx r (fun s' I'=>⟨_,H,I',h⟩) hf)
noncomputable def gNil:TGs:=fun vs σ H Q=>vs=[]/\Q σ H
noncomputable def gCons (t:TG) (u:TGs):TGs:=fun vs σ H Q=>∃ v r,vs=v::r/\t v σ H fun σ' H'=>u r σ' H' Q
theorem pgs_nil:PGs X [] gNil:=by
 intro pins s σ H vs us Q I r h
 obtain ⟨e,h⟩:=h
 subst e
 cases r
 exact assignInOrder_nil ⟨σ,H,I,h⟩
theorem pgs_cons {e:Expr} {es:List Expr} {t:TG} {u:TGs} (h1:PG X e t) (h2:PGs X es u)
  (hs:(assignEach (e::es) X.env).map (·.2)=assign e X.env::(assignEach es X.env).map (·.2):=by rfl):PGs X (e::es) (gCons t u):=by
 intro pins s σ H vs us Q I r h
 obtain ⟨v,vr,e1,h⟩:=h
 subst e1
 cases r with
 | cons r rr =>
  rw [hs]
  refine assignInOrder_cons (thn (h1 pins s σ H _ _ _ I r h) fun _ s1 hsl13=>?_)
  obtain ⟨σ1,H1,I1,q1⟩:=hsl13
  exact h2 pins s1 σ1 H1 _ _ Q I1 rr q1
noncomputable def gTup (K:PySem.W.Frag) (n:Nat) (t:TGs):TG:=fun v σ H Q=>∃ a xs,v=.ref a/\SqT K H a xs/\xs.length=n/\t xs σ H Q
theorem pg_tup {es:List Expr} {k:Nat} {t:TGs} {n:Nat} (hc:X.calm=true) (h:PGs X es t)
  (hn:(assignEach es X.env).length=n:=by rfl) (hst:(assignEach es X.env).findIdx? (·.1)=none:=by rfl):PG X (.Tuple es k pos) (gTup X.K n t):=by
 intro pins s σ H v u Q I r hw
 obtain ⟨a,xs,e1,hq,hl,hw⟩:=hw
 subst e1
 cases r
 obtain ⟨its,rv,ht,hz⟩:=I.tuple hq
 refine assign_Tuple_tuple (I.ok.hd hc) ht (by simp [hn,<- hl,rv.length]) hst fun h' hx=>?_
 have I1:Inv X pins σ H { s with heap:=h' }:=I.kept (t':=s.toks) fun b o e=>hx b o (Qy (Qq e)) e
 exact h pins _ σ H xs _ Q I1 (by simpa using rv) hw
noncomputable def tAsg (te:TE) (g:TG):TS:=fun D σ H=>te σ H fun x H1=>g x σ H1 D.nx
theorem ps_asg {tg e:Expr} {te:TE} {g:TG} (he:PE X e te) (hg:PG X tg g) (hs:swapsWithSole [tg] e pos.line X.env=pure false:=by rfl) (hw:swappedStores [tg] e X.env=pure none:=by rfl)
  (h1:(assignEach [tg] X.env).map (·.2)=[assign tg X.env]:=by rfl):PS X (.Assign [tg] e pos) (tAsg te g):=by
 intro pins s σ H D I h
 refine wpAny_Assign_stores (thn (he pins s σ H _ I h) fun v s1 hsl14=>?_) hs hw
 obtain ⟨x,H1,I1,r1,q1⟩:=hsl14
 rw [h1]
 exact thn (hg pins s1 σ H1 x v _ I1 r1 q1) fun _ s2 q=>q
theorem ps_set {i:Nat} {x:Str} {e:Expr} {te:TE} {pos':Pos} (hN:X.N.Nodup) (hi:X.N[i]?=some x) (hx:Loc X.env.scope x) (he:PE X e te) (hs:swapsWith e (some (.Name x pos')) pos.line X.env=pure false:=by rfl) (hf:X.fn x=true∨X.env.scope.names.lookup x=some .local:=by first | exact .inl rfl | exact .inr rfl | assumption) :
  PS X (.Assign [.Name x pos'] e pos) (tAsg te (gName i)):=by
 intro pins s σ H D I h
 refine wpAny_Assign_Name (thn (he pins s σ H _ I h) fun v s1 hsl15=>?_) hs
 obtain ⟨y,H1,I1,r1,q1⟩:=hsl15
 exact store_ok I1 hN hi hx r1 (fun s2 I2=>⟨_,H1,I2,q1⟩) hf
end
section
variable {X:Cx} {pos:Pos}
end
structure It where
 go:Nat->Hp->Prop
 yld:Nat->Hp->V->Hp->Prop
 stop:Nat->Hp->Prop
noncomputable def FpOk (X:Cx) (pins:List (Addr × Obj)) (H:Hp) (b:Addr):Prop :=
 H b=none/\b≠X.env.locals/\b∉X.fs/\(b∈X.ex∨X.s₀.heap.objs.size<=b)/\(∀ x c,X.env.cells.lookup x=some c->c≠b)/\∀ p∈X.pn++pins,p.1≠b
theorem Inv.fpOk {X:Cx} {pins:List (Addr × Obj)} {σ:St} {H H':Hp} {s:Shared} {b:Addr} (I:Inv X pins σ H s) (hb:s.heap.objs.size<=b) (hn:H' b=none):FpOk X pins H' b:=by
 refine ⟨hn,Nat.ne_of_gt (Nat.lt_of_lt_of_le I.lt hb),I.nofs hb,.inr (QE I.sz hb),fun x c e z=>?_,fun p hp z=>?_⟩
 ·obtain ⟨v,q⟩:=I.cell x c e
  exact absurd (Nat.lt_of_lt_of_le q.lt (by rw [z];exact hb)) (Nat.lt_irrefl _)
 ·exact absurd (Nat.lt_of_lt_of_le (Qq (I.pin p hp).1) (by rw [z];exact hb)) (Nat.lt_irrefl _)
structure Turn (P:Program) (w:World) (K:PySem.W.Frag) (tg:Expr) (J:It) (fp:List Addr) (it:Addr) (tn:Nat->Heap->Prop):Prop where
 mem:it∈fp
 obj:∀ i h,tn i h->∀ b∈fp,∃ o,h.get? b=some o/\∀ v,o.data≠.cell v
 keep:∀ i h h',tn i h->(∀ b∈fp,∀ o,h.get? b=some o->h'.get? b=some o)->tn i h'
 item:∀ (X:Cx),X.prog=P->X.w=w->X.K=K->X.calm=true->∀ (i:Nat) (pins:List (Addr × Obj)) (s:Shared) (σ:St) (H:Hp) (E:Value->Shared->Prop),Inv X pins σ H s->(∀ b∈fp,FpOk X pins H b)->tn i s.heap->J.go i H ->
  wpAny (model P w) X.A (pyNext (.ref it)) (fun r s1=>∃ u,r=some u /\
   wpAny (model P w) X.A (letOwnedTupleGo tg (.ref it) u) (fun _ s2=>∃ x H',Inv X pins σ H' s2/\RelV x u/\J.yld i H x H'/\tn (i+1) s2.heap/\∀ b∈fp,H' b=none) E s1) E s
 done:∀ (X:Cx),X.prog=P->X.w=w->X.K=K->X.calm=true->∀ (i:Nat) (pins:List (Addr × Obj)) (s:Shared) (σ:St) (H:Hp) (E:Value->Shared->Prop),Inv X pins σ H s->(∀ b∈fp,FpOk X pins H b)->tn i s.heap->J.stop i H ->
  wpAny (model P w) X.A (pyNext (.ref it)) (fun r s1=>r=none/\Inv X pins σ H s1) E s
 self:∀ (A:Around) (i:Nat) (s:Shared) (Q:Value->Shared->Prop) (E:Value->Shared->Prop),tn i s.heap->Q (.ref it) s->wpAny (model P w) A (pyIter (.ref it)) Q E s
noncomputable abbrev TI:=St->Hp->(It->Hp->Prop)->Prop
noncomputable def PIE (X:Cx) (pins:List (Addr × Obj)) (σ:St) (tg:Expr) (R:It->Hp->Prop) (itv:Value) (s2:Shared):Prop :=
 ∃ (it:Addr) (fp:List Addr) (tn:Nat->Heap->Prop) (J:It) (H':Hp),itv=.ref it/\Inv X pins σ H' s2/\Turn X.prog X.w X.K tg J fp it tn/\tn 0 s2.heap/\(∀ b∈fp,FpOk X pins H' b)/\R J H'
noncomputable def PI (X:Cx) (tg iter:Expr) (wi:TI):Prop :=
 ∀ (pins:List (Addr × Obj)) (s:Shared) (σ:St) (H:Hp) (R:It->Hp->Prop),Inv X pins σ H s->wi σ H R ->
  wpAny (model X.prog X.w) X.A (eval iter X.env) (fun v s1=>wpAny (model X.prog X.w) X.A (pyIter v) (PIE X pins σ tg R) X.xe s1) X.xe s
theorem go_of {M:Model} {A:Around} {E:Value->Shared->Prop} {s:Shared} {tg:Expr} {it:Addr} {u:Value} {o:Obj} {n:String} {vs:Array Value} {Q:Unit->Shared->Prop} (ho:s.heap.get? it=some o) (hc:o.cls=.type n) (hd:o.data=.fields vs)
  (hn:["enumerate","zip","dict_itemiterator","dict_reverseitemiterator","odict_iterator","itertools.zip_longest","itertools.pairwise"].contains n=false) (hQ:Q () s):wpAny M A (letOwnedTupleGo tg (.ref it) u) Q E s:=by
 unfold letOwnedTupleGo
 cases tg<;>first
  | exact Qc hQ
  | (cases u<;>first
    | exact Qc hQ
    | (refine Qa (wpAny_load ho ?_)
       rw [hc,hd]
       show wpAny M A (if (["enumerate","zip","dict_itemiterator","dict_reverseitemiterator","odict_iterator","itertools.zip_longest","itertools.pairwise"].contains n&&vs[0]? == some (rawInt _))=true then _ else _) Q E s
       rw [if_neg (by intro h;rw [hn,Bool.false_and] at h;cases h)]
       exact Qc hQ))
noncomputable def Itl (K:PySem.W.Frag) (a:Addr):It :=
 ⟨fun i H=>∃ xs x,SqL K H a xs/\xs[i]?=some x,fun i H x H'=>H'=H/\∀ xs,SqL K H a xs->xs[i]?=some x,fun i H=>∃ xs,SqL K H a xs/\xs.length<=i⟩
noncomputable def Itt (K:PySem.W.Frag) (a:Addr):It :=
 ⟨fun i H=>∃ xs x,SqT K H a xs/\xs[i]?=some x,fun i H x H'=>H'=H/\∀ xs,SqT K H a xs->xs[i]?=some x,fun i H=>∃ xs,SqT K H a xs/\xs.length<=i⟩
noncomputable def Itr (lo:Int) (n:Nat):It:=⟨fun i _=>i<n,fun i H x H'=>H'=H/\x=.int (lo+i),fun i _=>n<=i⟩
theorem turn_list {P:Program} {w:World} {K:PySem.W.Frag} {tg:Expr} (a it:Addr):Turn P w K tg (Itl K a) [it] it (fun i h=>h.IsListIter it a i) where
 mem:=by simp
 obj:=fun i h st b hb=>by
  have e:b=it:=by simpa using hb
  subst e
  obtain ⟨o,e,c,d⟩:=st
  exact ⟨o,e,fun v z=>by rw [d] at z;cases z⟩
 keep:=fun i h h' st k=>st.at fun o e=>k it (by simp) o e
 item:=by
  intro X hP hw hK hc i pins s σ H E I hf st hg
  subst hP hw hK
  obtain ⟨xs,x,hq,hx⟩:=hg
  obtain ⟨its,rv,p,hz⟩:=I.list hq
  obtain ⟨u,hu,ru⟩:=rv.get hx
  obtain ⟨f0,f1,f2,f3,f4,f5⟩:=hf it (by simp)
  refine wpAny_pyNext_list_item st p.isList (x:=u) (by simpa using hu) fun h' st' sb=>?_
  have I1:Inv X pins σ H { s with heap:=h' }:=I.turned (t':=s.toks) (fun b o hb e=>(sb.2 b hb).trans e) f0 f1 f3 f4 f5
  obtain ⟨o,e,c,d⟩:=id st'
  exact ⟨u,rfl,go_of (s:={ s with heap:=h' }) e c d (by decide) ⟨x,H,I1,ru,⟨rfl,fun ys hy=>by rw [I.list_inj hy hq];exact hx⟩,st',fun b hb=>(hf b hb).1⟩⟩
 done:=by
  intro X hP hw hK hc i pins s σ H E I hf st hg
  subst hP hw hK
  obtain ⟨xs,hq,hx⟩:=hg
  obtain ⟨its,rv,p,hz⟩:=I.list hq
  obtain ⟨f0,f1,f2,f3,f4,f5⟩:=hf it (by simp)
  have hl:=rv.length
  exact wpAny_pyNext_list_end (I.ok.hd hc) st p.isList (by simp;omega) fun h' eb=>⟨rfl,I.turned (t':=s.toks) (fun b o hb e=>eb b o hb e) f0 f1 f3 f4 f5⟩
 self:=fun _ _ _ _ _ st h=>wpAny_pyIter_listiter st h
theorem turn_tuple {P:Program} {w:World} {K:PySem.W.Frag} {tg:Expr} (a it:Addr):Turn P w K tg (Itt K a) [it] it (fun i h=>h.IsTupleIter it a i) where
 mem:=by simp
 obj:=fun i h st b hb=>by
  have e:b=it:=by simpa using hb
  subst e
  obtain ⟨o,e,c,d⟩:=st
  exact ⟨o,e,fun v z=>by rw [d] at z;cases z⟩
 keep:=fun i h h' st k=>st.at fun o e=>k it (by simp) o e
 item:=by
  intro X hP hw hK hc i pins s σ H E I hf st hg
  subst hP hw hK
  obtain ⟨xs,x,hq,hx⟩:=hg
  obtain ⟨its,rv,p,hz⟩:=I.tuple hq
  obtain ⟨u,hu,ru⟩:=rv.get hx
  obtain ⟨f0,f1,f2,f3,f4,f5⟩:=hf it (by simp)
  refine wpAny_pyNext_tuple_item st (show s.heap.IsTuple a its.toArray from p) (x:=u) (by simpa using hu) fun h' st' sb=>?_
  have I1:Inv X pins σ H { s with heap:=h' }:=I.turned (t':=s.toks) (fun b o hb e=>(sb.2 b hb).trans e) f0 f1 f3 f4 f5
  obtain ⟨o,e,c,d⟩:=id st'
  exact ⟨u,rfl,go_of (s:={ s with heap:=h' }) e c d (by decide) ⟨x,H,I1,ru,⟨rfl,fun ys hy=>by rw [I.tuple_inj hy hq];exact hx⟩,st',fun b hb=>(hf b hb).1⟩⟩
 done:=by
  intro X hP hw hK hc i pins s σ H E I hf st hg
  subst hP hw hK
  obtain ⟨xs,hq,hx⟩:=hg
  obtain ⟨its,rv,p,hz⟩:=I.tuple hq
  obtain ⟨f0,f1,f2,f3,f4,f5⟩:=hf it (by simp)
  have hl:=rv.length
  exact wpAny_pyNext_tuple_end (I.ok.hd hc) st (show s.heap.IsTuple a its.toArray from p) (by simp;omega) fun h' eb=>⟨rfl,I.turned (t':=s.toks) (fun b o hb e=>eb b o hb e) f0 f1 f3 f4 f5⟩
 self:=fun _ _ _ _ _ st h=>wpAny_pyIter_tupleiter st h
theorem turn_range {P:Program} {w:World} {K:PySem.W.Frag} {tg:Expr} (it:Addr) (lo:Int) (n:Nat):Turn P w K tg (Itr lo n) [it] it (fun i h=>IsRangeIter h it (lo+(i:Nat)*1) ((n:Int)-(i:Nat)) 1) where
 mem:=by simp
 obj:=fun i h st b hb=>by
  have e:b=it:=by simpa using hb
  subst e
  exact ⟨_,st,fun v z=>by
   have z':Data.fields _=Data.cell v:=z
   cases z'⟩
 keep:=fun i h h' st k=>k it (by simp) _ st
 item:=by
  intro X hP hw hK hc i pins s σ H E I hf st hg
  subst hP hw hK
  obtain ⟨f0,f1,f2,f3,f4,f5⟩:=hf it (by simp)
  have W:=Walks.range (prog:=X.prog) (w:=X.w) (I.ok.hd hc) it lo 1 n
  refine W.item i s _ _ hg st fun v h' tk hv st' kk=>?_
  obtain ⟨t,rfl⟩:=hv
  have I1:Inv X pins σ H { s with heap:=h',toks:=tk }:=I.turned (fun b o hb e=>kk b o (by simpa using hb) e) f0 f1 f3 f4 f5
  refine ⟨_,rfl,go_of (s:={ s with heap:=h',toks:=tk }) (n:="range_iterator") st' rfl rfl (by decide) ⟨.int (lo+i),H,I1,⟨t,?_⟩,⟨rfl,rfl⟩,st',fun b hb=>(hf b hb).1⟩⟩
  rw [Int.mul_one]
 done:=by
  intro X hP hw hK hc i pins s σ H E I hf st hg
  subst hP hw hK
  obtain ⟨f0,f1,f2,f3,f4,f5⟩:=hf it (by simp)
  exact wpAny_pyNext_range_end (I.ok.hd hc) st (by have:n<=i:=hg;omega) fun h' eb=>⟨rfl,I.turned (t':=s.toks) (fun b o hb e=>eb b o hb e) f0 f1 f3 f4 f5⟩
 self:=fun _ _ _ _ _ st h=>wpAny_pyIter_rangeiter st h
end L2
namespace L2
open PySem PySem.Spec PyProof.Rows
section
variable {X:Cx} {tg:Expr}
noncomputable def iList (K:PySem.W.Frag) (tl:TE):TI:=fun σ H R=>tl σ H fun x H1=>∃ a,x=.ref a/\(∃ xs,SqL K H1 a xs)/\R (Itl K a) H1
noncomputable def iTup (K:PySem.W.Frag) (tl:TE):TI:=fun σ H R=>tl σ H fun x H1=>∃ a,x=.ref a/\(∃ xs,SqT K H1 a xs)/\R (Itt K a) H1
theorem pi_list {l:Expr} {tl:TE} (hl:PE X l tl):PI X tg l (iList X.K tl):=by
 intro pins s σ H R I h
 refine thn (hl pins s σ H _ I h) fun v s1 hsl16=>?_
 obtain ⟨x,H1,I1,r1,q1⟩:=hsl16
 obtain ⟨a,e,⟨xs,hq⟩,q⟩:=q1
 subst e
 cases r1
 obtain ⟨its,rv,p,hz⟩:=I1.list hq
 refine wpAny_pyIter_list p.isList ?_
 refine ⟨s1.heap.objs.size,[s1.heap.objs.size],_,_,H1,rfl,I1.kept (t':=s1.toks) fun b o e=>Qd _ e,turn_list a _,⟨_,Qo _ rfl,rfl,rfl⟩,fun b hb=>?_,q⟩
 have e:b=s1.heap.objs.size:=by simpa using hb
 subst e
 exact I1.fpOk (Qf _) (I1.hok.fresh (Qf _))
theorem pi_tup {l:Expr} {tl:TE} (hl:PE X l tl):PI X tg l (iTup X.K tl):=by
 intro pins s σ H R I h
 refine thn (hl pins s σ H _ I h) fun v s1 hsl17=>?_
 obtain ⟨x,H1,I1,r1,q1⟩:=hsl17
 obtain ⟨a,e,⟨xs,hq⟩,q⟩:=q1
 subst e
 cases r1
 obtain ⟨its,rv,p,hz⟩:=I1.tuple hq
 refine wpAny_pyIter_tuple (show s1.heap.IsTuple a its.toArray from p) ?_
 refine ⟨s1.heap.objs.size,[s1.heap.objs.size],_,_,H1,rfl,I1.kept (t':=s1.toks) fun b o e=>Qd _ e,turn_tuple a _,⟨_,Qo _ rfl,rfl,rfl⟩,fun b hb=>?_,q⟩
 have e:b=s1.heap.objs.size:=by simpa using hb
 subst e
 exact I1.fpOk (Qf _) (I1.hok.fresh (Qf _))
theorem range_it {pins:List (Addr × Obj)} {σ:St} {H:Hp} {s:Shared} {R:It->Hp->Prop} {E:Value->Shared->Prop} {lo hi:Int} {t u v:Tok} {tk:Nat} (I:Inv X pins σ H s) (h1:-(2 ^ 62)<=lo) (h2:lo<2 ^ 62) (h3:-(2 ^ 62)<=hi) (h4:hi<2 ^ 62)
  (q:R (Itr lo (hi-lo).toNat) H):wpAny (model X.prog X.w) X.A (pyIter (.ref s.heap.objs.size)) (PIE X pins σ tg R) E { s with heap:=s.heap.push { cls:=.type "range",data:=.fields #[.int lo t,.int hi u,.int 1 v] },toks:=tk }:=by
 refine wpAny_pyIter_range (IsRange.new ..) (small_one h1 h2 h3 h4) ?_
 have I1:Inv X pins σ H { s with heap:=s.heap.push { cls:=.type "range",data:=.fields #[.int lo t,.int hi u,.int 1 v] },toks:=tk }:=I.kept fun b o e=>Qd _ e
 refine ⟨(s.heap.push { cls:=.type "range",data:=.fields #[.int lo t,.int hi u,.int 1 v] }).objs.size,[(s.heap.push { cls:=.type "range",data:=.fields #[.int lo t,.int hi u,.int 1 v] }).objs.size],_,_,H,rfl,
  I1.kept (t':=tk) fun b o e=>Qd _ e,turn_range _ lo (hi-lo).toNat,?_,fun b hb=>?_,q⟩
 ·have e1:lo+((0:Nat):Int)*1=lo:=by simp
  have e2:(((hi-lo).toNat:Nat):Int)-((0:Nat):Int)=Builtin.Range.rangeSize lo hi 1:=by rw [rangeSize_one];split<;>omega
  show IsRangeIter _ _ (lo+((0:Nat):Int)*1) ((((hi-lo).toNat:Nat):Int)-((0:Nat):Int)) 1
  rw [e1,e2]
  exact Qo _ rfl
 ·have e:b=(s.heap.push { cls:=.type "range",data:=.fields #[.int lo t,.int hi u,.int 1 v] }).objs.size:=by simpa using hb
  subst e
  exact I1.fpOk (Qf _) (I1.hok.fresh (Qf _))
noncomputable def iRng1 (ta:TA):TI:=fun σ H R=>ta σ H fun vs H1=>∃ j:Int,vs=[.int j]/\-(2 ^ 62)<=j/\j<2 ^ 62/\R (Itr 0 j.toNat) H1
theorem pi_range1 {a:Expr} {ta:TA} {p pos:Pos} (hg:Gl X "range") (hm:X.mg "range"=none) (ha:PA X [a] ta) (hs:starEach [a] X.env=[(false,eval a X.env)]:=by rfl):PI X tg (.Call (.Name "range" p) [a] [] pos) (iRng1 ta):=by
 intro pins s σ H R I h
 refine Call_ (ld_blt I hg hm boot_range (PyProof.Rows.callWith_type1 (thn (ha pos pins s σ H _ I h) fun us s1 hsl18=>?_) hs rfl))
 obtain ⟨vs,H1,I1,r1,q1⟩:=hsl18
 obtain ⟨j,e,q1,q2,q⟩:=q1
 subst e
 cases r1 with
 | cons r rr =>
  cases rr
  obtain ⟨t,rfl⟩:=r
  exact call_range_1 (range_it I1 (by omega) (by omega) q1 q2 (by simpa using q))
noncomputable def tFor (wi:TI) (g:TG) (tb:TS):TS:=fun D σ H=>wi σ H fun J H1=>∃ W:Nat->Nat->St->Hp->Prop,(∃ m,W 0 m σ H1)/\∀ i m σ H,W i m σ H ->
 (J.stop i H/\D.nx σ H)∨(J.go i H/\∃ N:St->Hp->Prop,(∀ σ' H',N σ' H'->∃ m',m'<m/\W (i+1) m' σ' H')/\∀ x H',J.yld i H x H'->g x σ H' fun σ2 H2=>tb { D with nx:=N,ct:=N,bk:=D.nx } σ2 H2)
noncomputable def pinsAt (fp:List Addr) (h:Heap):List (Addr × Obj):=fp.filterMap fun b=>(h.get? b).map fun o=>(b,o)
theorem mem_pinsAt {fp:List Addr} {h:Heap} {b:Addr} {o:Obj} (hb:b∈fp) (e:h.get? b=some o):(b,o)∈pinsAt fp h:=List.mem_filterMap.mpr ⟨b,hb,by rw [e];rfl⟩
theorem of_pinsAt {fp:List Addr} {h:Heap} {p:Addr × Obj} (hp:p∈pinsAt fp h):p.1∈fp/\h.get? p.1=some p.2:=by
 obtain ⟨b,hb,e⟩:=List.mem_filterMap.mp hp
 cases q:h.get? b with
 | none=>rw [q] at e;cases e
 | some o =>
  rw [q] at e
  have e':(b,o)=p:=Qr e
  subst e'
  exact ⟨hb,q⟩
theorem Inv.pinned {pins:List (Addr × Obj)} {σ:St} {H:Hp} {s:Shared} {fp:List Addr} (I:Inv X pins σ H s) (hf:∀ b∈fp,FpOk X pins H b) (ho:∀ b∈fp,∃ o,s.heap.get? b=some o/\∀ v,o.data≠.cell v):Inv X (pins++pinsAt fp s.heap) σ H s :=
 I.pins_of fun p hp=>(Qt hp).elim (fun z=>I.pin p (List.mem_append_right _ z)) fun z=>by
  obtain ⟨hb,e⟩:=of_pinsAt z
  obtain ⟨f0,f1,f2,_⟩:=hf p.1 hb
  obtain ⟨o,e',d⟩:=ho p.1 hb
  rw [e] at e';cases e'
  exact ⟨e,f0,f1,f2,d⟩
theorem Inv.unpinned {pins pl:List (Addr × Obj)} {σ:St} {H:Hp} {s:Shared} (I:Inv X (pins++pl) σ H s):Inv X pins σ H s:=I.pins_of fun p hp=>I.pin p (List.mem_append_right _ (List.mem_append_left _ hp))
theorem ps_for {iter:Expr} {body:List Stmt} {wi:TI} {g:TG} {tb:TS} {pos:Pos} (hp:PassesOwn (model X.prog X.w) X.A X.env X.xe) (hc:X.calm=true) (hi:PI X tg iter wi) (hg:PG X tg g) (hb:PSs X body tb)
  (hs:∀ x,foldedSetIterable iter X.env x=pure x:=by intro _;rfl):PS X (.For tg iter body [] pos) (tFor wi g tb):=by
 intro pins s σ H D I h
 refine wpAny_For (thn (hi pins s σ H _ I h) fun v s1 h1=>thn h1 fun itv s2 h2=>?_) hs
 obtain ⟨it,fp,tn,J,H2,e,I2,T,st2,f2,W,⟨m0,w0⟩,turn⟩:=h2
 subst e
 have stat:∀ {H':Hp},(∀ b∈fp,H' b=none)->∀ b∈fp,FpOk X pins H' b:=fun hn b hb=>⟨hn b hb,(f2 b hb).2⟩
 refine codeAny_forLoop_any (fun n s'=>∃ i σ' H',Inv X pins σ' H' s'/\tn i s'.heap/\(∀ b∈fp,H' b=none)/\W i n σ' H') ?_ m0 ⟨0,σ,H2,I2,st2,fun b hb=>(f2 b hb).1,w0⟩
 rintro n s3 ⟨i,σ3,H3,I3,st3,fr3,w3⟩
 rcases turn i n σ3 H3 w3 with ⟨stop,qn⟩ | ⟨go,N,hN,step⟩
 ·refine wpAny_passesOwn hp (thn (T.done X rfl rfl rfl hc i pins s3 σ3 H3 X.xe I3 (stat fr3) st3 stop) fun r s4 hsl19=>?_)
  obtain ⟨hr,I4⟩:=hsl19
  subst hr
  exact wpAny_execs_nil ⟨σ3,H3,I4,qn⟩
 ·refine wpAny_passesOwn hp (thn (T.item X rfl rfl rfl hc i pins s3 σ3 H3 X.xe I3 (stat fr3) st3 go) fun r s4 hsl20=>?_)
  obtain ⟨u,hr,h4⟩:=hsl20
  subst hr
  refine wpAny_passesOwn hp (thn h4 fun _ s5 hsl21=>?_)
  obtain ⟨x,H5,I5,r5,y5,st5,fr5⟩:=hsl21
  have I5':=I5.pinned (stat fr5) (T.obj _ _ st5)
  refine wpAny_passesOwn hp (thn (hg _ s5 σ3 H5 x u _ I5' r5 (step x H5 y5)) fun _ s6 hsl22=>?_)
  obtain ⟨σ6,H6,I6,q6⟩:=hsl22
  refine wpAny_passesOwn hp (thn (hb _ s6 σ6 H6 _ I6 q6) fun f s7 q7=>?_)
  have again:∀ {σ7:St} {H7:Hp},Inv X (pins++pinsAt fp s5.heap) σ7 H7 s7->N σ7 H7->∃ m,m<n/\∃ i σ' H',Inv X pins σ' H' s7/\tn i s7.heap/\(∀ b∈fp,H' b=none)/\W i m σ' H':=fun {σ7 H7} I7 n7=>by
   obtain ⟨m',hm,w7⟩:=hN σ7 H7 n7
   refine ⟨m',hm,i+1,σ7,H7,I7.unpinned,T.keep _ _ _ st5 fun b hb o e=>(I7.pin (b,o) (List.mem_append_right _ (List.mem_append_right _ (mem_pinsAt hb e)))).1,fun b hb=>?_,w7⟩
   obtain ⟨o,e,d⟩:=T.obj _ _ st5 b hb
   exact (I7.pin (b,o) (List.mem_append_right _ (List.mem_append_right _ (mem_pinsAt hb e)))).2.1
  cases f with
  | next=>obtain ⟨σ7,H7,I7,n7⟩:=q7;exact again I7 n7
  | cont=>obtain ⟨σ7,H7,I7,n7⟩:=q7;exact again I7 n7
  | brk=>obtain ⟨σ7,H7,I7,q7⟩:=q7;exact ⟨σ7,H7,I7.unpinned,q7⟩
  | ret v=>obtain ⟨x7,σ7,H7,I7,r7,q7⟩:=q7;exact ⟨x7,σ7,H7,I7.unpinned,r7,q7⟩
end
theorem for_list {K:PySem.W.Frag} {a:Addr} {xs:List V} {g:TG} {tb:TS} {D:Ends} {σ:St} {H:Hp} (Pv:Nat->St->Hp->Prop) (h0:Pv 0 σ H) (hl:∀ i σ H,i<=xs.length->Pv i σ H->SqL K H a xs)
  (hs:∀ i x σ H,xs[i]?=some x->Pv i σ H->g x σ H fun σ2 H2=>tb { D with nx:=Pv (i+1),ct:=Pv (i+1),bk:=D.nx } σ2 H2) (hd:∀ σ H,Pv xs.length σ H->D.nx σ H) :
  ∃ W:Nat->Nat->St->Hp->Prop,(∃ m,W 0 m σ H)/\∀ i m σ H,W i m σ H ->
   ((Itl K a).stop i H/\D.nx σ H)∨((Itl K a).go i H/\∃ N:St->Hp->Prop,(∀ σ' H',N σ' H'->∃ m',m'<m/\W (i+1) m' σ' H')/\∀ x H',(Itl K a).yld i H x H'->g x σ H' fun σ2 H2=>tb { D with nx:=N,ct:=N,bk:=D.nx } σ2 H2):=by
 refine ⟨fun i m σ H=>m=xs.length-i/\i<=xs.length/\Pv i σ H,⟨xs.length,by simp,Qp _,h0⟩,?_⟩
 rintro i m σ H ⟨rfl,hi,p⟩
 have q:=hl i σ H hi p
 by_cases hlt:i<xs.length
 ·refine .inr ⟨⟨xs,xs[i],q,by simp [hlt]⟩,Pv (i+1),fun σ' H' p'=>⟨xs.length-(i+1),by omega,rfl,hlt,p'⟩,fun x H' y=>?_⟩
  obtain ⟨e,y⟩:=y
  subst e
  exact hs i x σ _ (y xs q) p
 ·have e:i=xs.length:=by omega
  subst e
  exact .inl ⟨⟨xs,q,Qf _⟩,hd σ H p⟩
theorem for_tup {K:PySem.W.Frag} {a:Addr} {xs:List V} {g:TG} {tb:TS} {D:Ends} {σ:St} {H:Hp} (Pv:Nat->St->Hp->Prop) (h0:Pv 0 σ H) (hl:∀ i σ H,i<=xs.length->Pv i σ H->SqT K H a xs)
  (hs:∀ i x σ H,xs[i]?=some x->Pv i σ H->g x σ H fun σ2 H2=>tb { D with nx:=Pv (i+1),ct:=Pv (i+1),bk:=D.nx } σ2 H2) (hd:∀ σ H,Pv xs.length σ H->D.nx σ H) :
  ∃ W:Nat->Nat->St->Hp->Prop,(∃ m,W 0 m σ H)/\∀ i m σ H,W i m σ H ->
   ((Itt K a).stop i H/\D.nx σ H)∨((Itt K a).go i H/\∃ N:St->Hp->Prop,(∀ σ' H',N σ' H'->∃ m',m'<m/\W (i+1) m' σ' H')/\∀ x H',(Itt K a).yld i H x H'->g x σ H' fun σ2 H2=>tb { D with nx:=N,ct:=N,bk:=D.nx } σ2 H2):=by
 refine ⟨fun i m σ H=>m=xs.length-i/\i<=xs.length/\Pv i σ H,⟨xs.length,by simp,Qp _,h0⟩,?_⟩
 rintro i m σ H ⟨rfl,hi,p⟩
 have q:=hl i σ H hi p
 by_cases hlt:i<xs.length
 ·refine .inr ⟨⟨xs,xs[i],q,by simp [hlt]⟩,Pv (i+1),fun σ' H' p'=>⟨xs.length-(i+1),by omega,rfl,hlt,p'⟩,fun x H' y=>?_⟩
  obtain ⟨e,y⟩:=y
  subst e
  exact hs i x σ _ (y xs q) p
 ·have e:i=xs.length:=by omega
  subst e
  exact .inl ⟨⟨xs,q,Qf _⟩,hd σ H p⟩
theorem for_range {lo:Int} {n:Nat} {g:TG} {tb:TS} {D:Ends} {σ:St} {H:Hp} (Pv:Nat->St->Hp->Prop) (h0:Pv 0 σ H)
  (hs:∀ i σ H,i<n->Pv i σ H->g (.int (lo+i)) σ H fun σ2 H2=>tb { D with nx:=Pv (i+1),ct:=Pv (i+1),bk:=D.nx } σ2 H2) (hd:∀ σ H,Pv n σ H->D.nx σ H) :
  ∃ W:Nat->Nat->St->Hp->Prop,(∃ m,W 0 m σ H)/\∀ i m σ H,W i m σ H ->
   ((Itr lo n).stop i H/\D.nx σ H)∨((Itr lo n).go i H/\∃ N:St->Hp->Prop,(∀ σ' H',N σ' H'->∃ m',m'<m/\W (i+1) m' σ' H')/\∀ x H',(Itr lo n).yld i H x H'->g x σ H' fun σ2 H2=>tb { D with nx:=N,ct:=N,bk:=D.nx } σ2 H2):=by
 refine ⟨fun i m σ H=>m=n-i/\i<=n/\Pv i σ H,⟨n,by simp,Qp _,h0⟩,?_⟩
 rintro i m σ H ⟨rfl,hi,p⟩
 by_cases hlt:i<n
 ·refine .inr ⟨hlt,Pv (i+1),fun σ' H' p'=>⟨n-(i+1),by omega,rfl,hlt,p'⟩,fun x H' y=>?_⟩
  obtain ⟨e,y⟩:=y
  subst e y
  exact hs i σ _ hlt p
 ·have e:i=n:=by omega
  subst e
  exact .inl ⟨Qf _,hd σ H p⟩
end L2
namespace L2
open PySem PySem.Spec PyProof.Rows
noncomputable abbrev R2:=V->V->Hp->VK->Prop
noncomputable def OpR (X:Cx) (f:Value->Value->Sem Value) (r:R2):Prop :=
 ∀ (pins:List (Addr × Obj)) (s:Shared) (σ:St) (H:Hp) (x y:V) (v u:Value) (Q:VK),Inv X pins σ H s->RelV x v->RelV y u->r x y H Q ->
  wpAny (model X.prog X.w) X.A (f v u) (EP X pins σ Q) X.xe s
noncomputable def UnR (X:Cx) (f:Value->Sem Value) (r:V->Hp->VK->Prop):Prop :=
 ∀ (pins:List (Addr × Obj)) (s:Shared) (σ:St) (H:Hp) (x:V) (v:Value) (Q:VK),Inv X pins σ H s->RelV x v->r x H Q ->
  wpAny (model X.prog X.w) X.A (f v) (EP X pins σ Q) X.xe s
noncomputable def CallR (X:Cx) (f:Value) (r:List V->Hp->VK->Prop):Prop :=
 ∀ (pins:List (Addr × Obj)) (s:Shared) (σ:St) (H:Hp) (xs:List V) (us:List Value) (Q:VK),Inv X pins σ H s->Vals xs us->r xs H Q ->
  wpAny (model X.prog X.w) X.A (call f us) (EP X pins σ Q) X.xe s
noncomputable def tOp (r:R2) (ta tb:TE):TE:=fun σ H Q=>ta σ H fun x H1=>tb σ H1 fun y H2=>r x y H2 Q
noncomputable def tUn (r:V->Hp->VK->Prop) (ta:TE):TE:=fun σ H Q=>ta σ H fun x H1=>r x H1 Q
noncomputable def rI (C:Int->Int->Prop) (g:Int->Int->V):R2:=fun x y H Q=>∃ i j,x=.int i/\y=.int j/\C i j/\Q (g i j) H
noncomputable def rI0 (g:Int->Int->V):R2:=fun x y H Q=>∃ i j,x=.int i/\y=.int j/\Q (g i j) H
noncomputable def rU (g:Int->V):V->Hp->VK->Prop:=fun x H Q=>∃ i,x=.int i/\Q (g i) H
section
variable {X:Cx} {a b c:Expr} {ta tb tc:TE} {pos:Pos}
theorem binT (ha:PE X a ta) (hb:PE X b tb) {pins:List (Addr × Obj)} {s:Shared} {σ:St} {H:Hp} {R:V->V->Hp->Prop} (I:Inv X pins σ H s)
  (h:ta σ H fun x H1=>tb σ H1 fun y H2=>R x y H2) {Q:Value->Shared->Prop} {f:Value->Value->Sem Value}
  (hf:∀ v u s2 x y H2,Inv X pins σ H2 s2->RelV x v->RelV y u->R x y H2->wpAny (model X.prog X.w) X.A (f v u) Q X.xe s2) :
  wpAny (model X.prog X.w) X.A (eval a X.env) (fun v s₁=>wpAny (model X.prog X.w) X.A (eval b X.env) (fun u s₂=>wpAny (model X.prog X.w) X.A (f v u) Q X.xe s₂) X.xe s₁) X.xe s:=by
 refine thn (ha pins s σ H _ I h) fun v s1 hsl23=>?_
 obtain ⟨x,H1,I1,r1,q1⟩:=hsl23
 refine thn (hb pins s1 σ H1 _ I1 q1) fun u s2 hsl24=>?_
 obtain ⟨y,H2,I2,r2,q2⟩:=hsl24
 exact hf v u s2 x y H2 I2 r1 r2 q2
theorem pe_op {op:Operator} {r:R2} (ho:OpR X (binaryOp op) r) (ha:PE X a ta) (hb:PE X b tb):PE X (.BinOp a op b pos) (tOp r ta tb):=by
 intro pins s σ H Q I h
 exact wpAny_BinOp (binT ha hb I h fun v u s2 x y H2 I2 rx ry q=>ho pins s2 σ H2 x y v u Q I2 rx ry q)
theorem pe_un {op:UnaryOp} {r:V->Hp->VK->Prop} (ho:UnR X (unaryOp op) r) (ha:PE X a ta):PE X (.UnaryOp op a pos) (tUn r ta):=by
 intro pins s σ H Q I h
 exact UnaryOp_ (thn (ha pins s σ H _ I h) fun v s1 hsl25=>by obtain ⟨x,H1,I1,r1,q1⟩:=hsl25;exact ho pins s1 σ H1 x v Q I1 r1 q1)
theorem opI {f:Value->Value->Sem Value} {C:Int->Int->Prop} {g:Int->Int->Int}
  (rule:∀ (i j:Int) (t u:Tok) (s:Shared) (Q:Value->Shared->Prop) (E:Value->Shared->Prop),C i j->Q (.int (g i j) s.toks) { s with toks:=s.toks+1 }->wpAny (model X.prog X.w) X.A (f (.int i t) (.int j u)) Q E s) :
  OpR X f (rI C fun i j=>.int (g i j)):=by
 intro pins s σ H x y v u Q I rx ry h
 obtain ⟨i,j,rfl,rfl,hc,q⟩:=h
 obtain ⟨t,rfl⟩:=rx
 obtain ⟨t',rfl⟩:=ry
 exact rule i j t t' s _ _ hc ⟨.int (g i j),H,I.tok _,⟨_,rfl⟩,q⟩
theorem opI0 {f:Value->Value->Sem Value} {g:Int->Int->Int}
  (rule:∀ (i j:Int) (t u:Tok) (s:Shared) (Q:Value->Shared->Prop) (E:Value->Shared->Prop),Q (.int (g i j) s.toks) { s with toks:=s.toks+1 }->wpAny (model X.prog X.w) X.A (f (.int i t) (.int j u)) Q E s) :
  OpR X f (rI0 fun i j=>.int (g i j)):=by
 intro pins s σ H x y v u Q I rx ry h
 obtain ⟨i,j,rfl,rfl,q⟩:=h
 obtain ⟨t,rfl⟩:=rx
 obtain ⟨t',rfl⟩:=ry
 exact rule i j t t' s _ _ ⟨.int (g i j),H,I.tok _,⟨_,rfl⟩,q⟩
theorem opB0 {f:Value->Value->Sem Value} {g:Int->Int->Bool}
  (rule:∀ (i j:Int) (t u:Tok) (s:Shared) (Q:Value->Shared->Prop) (E:Value->Shared->Prop),Q (.bool (g i j)) s->wpAny (model X.prog X.w) X.A (f (.int i t) (.int j u)) Q E s) :
  OpR X f (rI0 fun i j=>.bl (g i j)):=by
 intro pins s σ H x y v u Q I rx ry h
 obtain ⟨i,j,rfl,rfl,q⟩:=h
 obtain ⟨t,rfl⟩:=rx
 obtain ⟨t',rfl⟩:=ry
 exact rule i j t t' s _ _ ⟨.bl (g i j),H,I,rfl,q⟩
noncomputable def CDiv (i j:Int):Prop:=0<j/\j<1073741824
noncomputable def CPow (i j:Int):Prop:=0<=j/\j<=1000000/\i.natAbs<2 ^ 64
noncomputable def CMul (i j:Int):Prop:=(-(2 ^ 64)<i/\i<2 ^ 64)∨(-(2 ^ 64)<j/\j<2 ^ 64)
theorem CMul.ok {i j:Int} (h:CMul i j):IntMulOk i j:=by
 rcases h with ⟨h1,h2⟩ | ⟨h1,h2⟩
 ·exact .of_left (intBits_le_64 h1 h2)
 ·exact .of_right (intBits_le_64 h1 h2)
theorem op_add:OpR X (binaryOp .Add) (rI0 fun i j=>.int (i+j)):=opI0 fun _ _ _ _ _ _ _ q=>add_int q
theorem op_sub:OpR X (binaryOp .Sub) (rI0 fun i j=>.int (i-j)):=opI0 fun _ _ _ _ _ _ _ q=>sub_int q
theorem op_mul:OpR X (binaryOp .Mult) (rI CMul fun i j=>.int (i*j)):=opI fun _ _ _ _ _ _ _ hc q=>mul_int q hc.ok
theorem op_fdiv:OpR X (binaryOp .FloorDiv) (rI CDiv fun i j=>.int (i / j)):=opI fun i j _ _ _ _ _ hc q=>by
 have h1:(0:Int)<j:=hc.1
 have h2:j<1073741824:=hc.2
 exact floordiv_int (by omega) (by rw [Int.fdiv_eq_ediv_of_nonneg i (by omega)];exact q) (.inl (PyProof.noPylong_small (by omega)))
theorem op_mod:OpR X (binaryOp .Mod) (rI (fun _ j=>0<j) fun i j=>.int (i % j)):=opI fun i j _ _ _ _ _ hc q=>by
 have h1:(0:Int)<j:=hc
 exact mod_int' (by omega) (by rw [Int.fmod_eq_emod_of_nonneg i (by omega)];exact q)
theorem op_pow:OpR X (binaryOp .Pow) (rI CPow fun i j=>.int (i ^ j.toNat)):=opI fun _ _ _ _ _ _ _ hc q=>pow_int_small hc.1 hc.2.1 hc.2.2 q
theorem op_and:OpR X (binaryOp .BitAnd) (rI0 fun i j=>.int (Builtin.bitAnd i j)):=opI0 fun _ _ _ _ _ _ _ q=>and_int q
theorem op_or:OpR X (binaryOp .BitOr) (rI0 fun i j=>.int (Builtin.bitOr i j)):=opI0 fun _ _ _ _ _ _ _ q=>or_int q
theorem op_xor:OpR X (binaryOp .BitXor) (rI0 fun i j=>.int (Builtin.bitXor i j)):=opI0 fun _ _ _ _ _ _ _ q=>xor_int q
theorem unI {f:Value->Sem Value} {g:Int->Int}
  (rule:∀ (i:Int) (t:Tok) (s:Shared) (Q:Value->Shared->Prop) (E:Value->Shared->Prop),Q (.int (g i) s.toks) { s with toks:=s.toks+1 }->wpAny (model X.prog X.w) X.A (f (.int i t)) Q E s) :
  UnR X f (rU fun i=>.int (g i)):=by
 intro pins s σ H x v Q I rx h
 obtain ⟨i,rfl,q⟩:=h
 obtain ⟨t,rfl⟩:=rx
 exact rule i t s _ _ ⟨.int (g i),H,I.tok _,⟨_,rfl⟩,q⟩
theorem un_neg:UnR X (unaryOp .USub) (rU fun i=>.int (-i)):=unI fun _ _ _ _ _ q=>neg_int q
end
noncomputable def scal:V->V->Bool
 | .non,.non=>true | .non,.int _=>true | .int _,.non=>true | .non,.bl _=>true | .bl _,.non=>true | .non,.str _=>true | .str _,.non=>true
 | .int _,.int _=>true | .bl _,.bl _=>true | .str _,.str _=>true | .byt _,.byt _=>true
 | .int _,.str _=>true | .str _,.int _=>true | .bl _,.str _=>true | .str _,.bl _=>true
 | _,_=>false
noncomputable def rEq:R2:=fun x y H Q=>scal x y=true/\Q (.bl (decide (x=y))) H
noncomputable def rNe:R2:=fun x y H Q=>scal x y=true/\Q (.bl (!decide (x=y))) H
theorem dec_int {i j:Int}:decide (V.int i=V.int j)=(i == j):=by
 rw [Bool.eq_iff_iff]
 simp
theorem dec_bl {i j:Bool}:decide (V.bl i=V.bl j)=(i == j):=by
 rw [Bool.eq_iff_iff]
 simp
theorem dec_str {i j:Str}:decide (V.str i=V.str j)=(i == j):=by
 rw [Bool.eq_iff_iff]
 simp
theorem dec_byt {i j:Array UInt8}:decide (V.byt i=V.byt j)=(i.toList == j.toList):=by
 rw [Bool.eq_iff_iff]
 cases i
 cases j
 simp
section
variable {X:Cx} {a b c:Expr} {ta tb tc:TE} {pos:Pos}
theorem fin_bl {pins:List (Addr × Obj)} {σ:St} {H:Hp} {s:Shared} {Q:VK} {k k':Bool} (I:Inv X pins σ H s) (q:Q (.bl k) H) (e:k=k'):EP X pins σ Q (.bool k') s:=by
 subst e
 exact ⟨.bl k,H,I,rfl,q⟩
theorem op_eq:OpR X (compareOp .Eq) rEq:=by
 intro pins s σ H x y v u Q I rx ry h
 obtain ⟨hs,q⟩:=h
 cases x with
 | non =>
  cases rx
  cases y with
  | non=>cases ry;exact PySem.EqNone.eq_none_none (fin_bl I q (by simp))
  | bl j=>cases ry;exact PySem.EqNone.eq_none_bool (fin_bl I q (by simp))
  | int j=>obtain ⟨t',rfl⟩:=ry;exact PySem.EqNone.eq_none_int (fin_bl I q (by simp))
  | str j=>obtain ⟨t',rfl⟩:=ry;exact PySem.EqNone.eq_none_str (fin_bl I q (by simp))
  | _=>exact absurd (show false=true from hs) Bool.false_ne_true
 | bl i =>
  cases rx
  cases y with
  | non=>cases ry;exact PySem.EqNone.eq_bool_none (fin_bl I q (by simp))
  | bl j=>cases ry;exact eq_bool (fin_bl I q dec_bl)
  | str j=>obtain ⟨t',rfl⟩:=ry;exact PySem.EqMixed.eq_bool_str (fin_bl I q (by simp))
  | _=>exact absurd (show false=true from hs) Bool.false_ne_true
 | int i =>
  obtain ⟨t,rfl⟩:=rx
  cases y with
  | non=>cases ry;exact PySem.EqNone.eq_int_none (fin_bl I q (by simp))
  | int j=>obtain ⟨t',rfl⟩:=ry;exact eq_int (fin_bl I q dec_int)
  | str j=>obtain ⟨t',rfl⟩:=ry;exact PySem.EqMixed.eq_int_str (fin_bl I q (by simp))
  | _=>exact absurd (show false=true from hs) Bool.false_ne_true
 | str i =>
  obtain ⟨t,rfl⟩:=rx
  cases y with
  | non=>cases ry;exact PySem.EqNone.eq_str_none (fin_bl I q (by simp))
  | bl j=>cases ry;exact PySem.EqMixed.eq_str_bool (fin_bl I q (by simp))
  | int j=>obtain ⟨t',rfl⟩:=ry;exact PySem.EqMixed.eq_str_int (fin_bl I q (by simp))
  | str j=>obtain ⟨t',rfl⟩:=ry;exact eq_str (fin_bl I q dec_str)
  | _=>exact absurd (show false=true from hs) Bool.false_ne_true
 | byt i =>
  obtain ⟨t,rfl⟩:=rx
  cases y with
  | byt j=>obtain ⟨t',rfl⟩:=ry;exact PySem.W.eq_bytes (fin_bl I q dec_byt)
  | _=>exact absurd (show false=true from hs) Bool.false_ne_true
 | _=>cases y<;>exact absurd (show false=true from hs) Bool.false_ne_true
theorem op_ne:OpR X (compareOp .NotEq) rNe:=by
 intro pins s σ H x y v u Q I rx ry h
 obtain ⟨hs,q⟩:=h
 cases x with
 | non =>
  cases rx
  cases y with
  | non=>cases ry;exact PySem.EqNone.ne_none_none (fin_bl I q (by simp))
  | bl j=>cases ry;exact PySem.EqNone.ne_none_bool (fin_bl I q (by simp))
  | int j=>obtain ⟨t',rfl⟩:=ry;exact PySem.EqNone.ne_none_int (fin_bl I q (by simp))
  | str j=>obtain ⟨t',rfl⟩:=ry;exact PySem.EqNone.ne_none_str (fin_bl I q (by simp))
  | _=>exact absurd (show false=true from hs) Bool.false_ne_true
 | bl i =>
  cases rx
  cases y with
  | non=>cases ry;exact PySem.EqNone.ne_bool_none (fin_bl I q (by simp))
  | bl j=>cases ry;exact ne_bool (fin_bl I q (congrArg not dec_bl))
  | str j=>obtain ⟨t',rfl⟩:=ry;exact PySem.EqMixed.ne_bool_str (fin_bl I q (by simp))
  | _=>exact absurd (show false=true from hs) Bool.false_ne_true
 | int i =>
  obtain ⟨t,rfl⟩:=rx
  cases y with
  | non=>cases ry;exact PySem.EqNone.ne_int_none (fin_bl I q (by simp))
  | int j=>obtain ⟨t',rfl⟩:=ry;exact ne_int (fin_bl I q (congrArg not dec_int))
  | str j=>obtain ⟨t',rfl⟩:=ry;exact PySem.EqMixed.ne_int_str (fin_bl I q (by simp))
  | _=>exact absurd (show false=true from hs) Bool.false_ne_true
 | str i =>
  obtain ⟨t,rfl⟩:=rx
  cases y with
  | non=>cases ry;exact PySem.EqNone.ne_str_none (fin_bl I q (by simp))
  | bl j=>cases ry;exact PySem.EqMixed.ne_str_bool (fin_bl I q (by simp))
  | int j=>obtain ⟨t',rfl⟩:=ry;exact PySem.EqMixed.ne_str_int (fin_bl I q (by simp))
  | str j=>obtain ⟨t',rfl⟩:=ry;exact ne_str (fin_bl I q (congrArg not dec_str))
  | _=>exact absurd (show false=true from hs) Bool.false_ne_true
 | byt i =>
  obtain ⟨t,rfl⟩:=rx
  cases y with
  | byt j=>obtain ⟨t',rfl⟩:=ry;exact PySem.W.ne_bytes (fin_bl I q (congrArg not dec_byt))
  | _=>exact absurd (show false=true from hs) Bool.false_ne_true
 | _=>cases y<;>exact absurd (show false=true from hs) Bool.false_ne_true
theorem op_lt:OpR X (compareOp .Lt) (rI0 fun i j=>.bl (decide (i<j))):=opB0 fun _ _ _ _ _ _ _ q=>lt_int q
theorem op_gt:OpR X (compareOp .Gt) (rI0 fun i j=>.bl (decide (j<i))):=opB0 fun _ _ _ _ _ _ _ q=>gt_int q
theorem nomark (b:Expr) {op:CmpOp} (h:op≠.In:=by decide) (h2:op≠.NotIn:=by decide):behindInMarks op b=false:=by
 have e1:(op == CmpOp.In)=false:=by cases op<;>first | rfl | exact absurd rfl h
 have e2:(op == CmpOp.NotIn)=false:=by cases op<;>first | rfl | exact absurd rfl h2
 cases b<;>simp [behindInMarks,e1,e2]
theorem pe_cmpR {op:CmpOp} {r:R2} (ho:OpR X (compareOp op) r) (ha:PE X a ta) (hb:PE X b tb) (hm:behindInMarks op b=false):PE X (.Compare a [op] [b] pos) (tOp r ta tb):=by
 intro pins s σ H Q I h
 exact wpAny_Compare1 (binT ha hb I h fun v u s2 x y H2 I2 rx ry q=>ho pins s2 σ H2 x y v u Q I2 rx ry q) hm
noncomputable def tTest (t:TE):TT:=fun σ H Q=>t σ H fun x H'=>∃ k,x=.bl k/\Q k H'
theorem pt_cmpR {op:CmpOp} {r:R2} (ho:OpR X (compareOp op) r) (ha:PE X a ta) (hb:PE X b tb) (hm:behindInMarks op b=false):PT X (.Compare a [op] [b] pos) (tTest (tOp r ta tb)):=by
 intro pins s σ H Q I h
 refine wpAny_isTrue_Compare1 (thn (ha pins s σ H _ I h) fun v s1 ⟨x,H1,I1,r1,q1⟩=>thn (hb pins s1 σ H1 _ I1 q1) fun u s2 ⟨y,H2,I2,r2,q2⟩ =>
  thn (ho pins s2 σ H2 x y v u _ I2 r1 r2 q2) fun c s3 ⟨z,H3,I3,r3,k,e,q3⟩=>?_) hm
 subst e
 cases r3
 exact wpAny_truthy_bool ⟨H3,I3,q3⟩
theorem line63:(sizeLine:Nat)<2 ^ 63:=by rw [sizeLine_eq];decide
theorem op_add_str:OpR X (binaryOp .Add) (fun x y H Q=>∃ i j,x=.str i/\y=.str j/\i.length+j.length<=sizeLine/\Q (.str (i++j)) H):=by
 intro pins s σ H x y v u Q I rx ry h
 obtain ⟨i,j,rfl,rfl,hz,q⟩:=h
 obtain ⟨t,rfl⟩:=rx
 obtain ⟨t',rfl⟩:=ry
 exact add_str (fun t' tk=>⟨.str (i++j),H,I.tok _,⟨_,rfl⟩,q⟩) hz
theorem vals1 {x:V} {us:List Value} (r:Vals [x] us):∃ u,us=[u]/\RelV x u:=by
 cases r with
 | cons r1 r2=>cases r2;exact ⟨_,rfl,r1⟩
theorem vals2 {x y:V} {us:List Value} (r:Vals [x,y] us):∃ u w',us=[u,w']/\RelV x u/\RelV y w':=by
 cases r with
 | cons r1 r2 =>
  cases r2 with
  | cons r3 r4=>cases r4;exact ⟨_,_,rfl,r1,r3⟩
end
end L2
namespace L2
open PySem PySem.Spec PyProof.Rows
structure ObjM (h:Heap) (x dx C:Addr) (mA:Str->Option Value):Prop where
 obj:h.get? x=some (PySem.W.instObj C dx)
 ns:h.Ns1 dx mA
 ne:dx≠x
theorem lookIn_ns {h:Heap} {dx:Addr} {mA:Str->Option Value} (n:h.Ns1 dx mA):∃ od,h.get? dx=some od/\∀ name,PySem.W.lookIn name od=some (mA name):=by
 obtain ⟨o,es,ep,ho,hd,hk,_,hm⟩:=n
 refine ⟨o,ho,fun name=>?_⟩
 have e:=hm name
 unfold nsFind findBy at e
 rw [<- Array.find?_toList] at e
 unfold PySem.W.lookIn
 rw [hd]
 dsimp only
 split
 ·rename_i y q
  rw [q] at e
  exact congrArg some e
 ·rename_i q
  rw [q] at e
  have a:es.toList.any (·.refKey)=false:=by
   rw [List.any_eq_false]
   intro y hy
   obtain ⟨z,t,hkey⟩:=hk y (Array.mem_toList_iff.mp hy)
   simp [DictEntry.refKey,hkey]
  have a':¬ es.toList.any (·.refKey)=true:=by rw [a];exact Bool.false_ne_true
  rw [if_neg a']
  exact congrArg some e
theorem ObjM.look {h:Heap} {x dx C:Addr} {mA:Str->Option Value} (I:ObjM h x dx C mA):∃ od,PySem.W.InstAt h x (PySem.W.instObj C dx) C (some od)/\∀ name,PySem.W.lookIn name od=some (mA name) :=
 let ⟨od,ho,hl⟩:=lookIn_ns I.ns
 ⟨od,⟨I.obj,rfl,rfl,ho⟩,hl⟩
section
variable {prog:Program} {w:World} {A:Around} {E:Value->Shared->Prop} {s:Shared} {K:PySem.W.Frag} {x dx C f:Addr} {mA:Str->Option Value} {name:Str} {v:Value}
theorem get_map {expr:Bool} {Q:Value->Shared->Prop} (X:K.In s.heap) (I:ObjM s.heap x dx C mA) (hg:PySem.W.plainGet K C name=true) (hh:PySem.W.hasDictIn K C=true)
  (ha:PySem.W.findIn K (.ref C) name=some none) (hv:mA name=some v) (hv':PySem.W.handedIn v=true) (h:Q v { s with toks:=s.toks+1 }) :
  wpAny (model prog w) A (getAttr (.ref x) name expr) Q E s:=by
 obtain ⟨od,J,hl⟩:=I.look
 exact PySem.W.get_value X J (PySem.W.plainGet_of hg).1 (PySem.W.findObj_own hh ha rfl (by rw [hl,hv])) hv' h
theorem get_meth {pl:Sem Bool} {Q:Value × List Value->Shared->Prop} (X:K.In s.heap) (I:ObjM s.heap x dx C mA) (hg:PySem.W.plainGet K C name=true)
  (hf:PySem.W.findIn K (.ref C) name=some (some (.ref f))) (ht:PySem.W.isFn K (.ref f)=true) (hv:mA name=none) (h:Q (.ref f,[.ref x]) s) :
  wpAny (model prog w) A (getMethod (.ref x) name pl) Q E s:=by
 obtain ⟨od,J,hl⟩:=I.look
 exact PySem.W.method_fn X J (PySem.W.plainGet_of hg).1 (PySem.W.plainGet_of hg).2 hf (beq_iff_eq.mp ht) (by show (PySem.W.lookIn name od).map (·.isSome)=some false;rw [hl,hv];rfl) h
theorem set_map {ns:List Str} {Q:Unit->Shared->Prop} (X:K.In s.heap) (I:ObjM s.heap x dx C mA)
  (hs:PySem.W.findIn K (.ref C) "__setattr__"=some (some (.builtin "object.__setattr__"))) (hp:PySem.W.plainOver K C=true) (ht:PySem.W.takerIn K C name=some none) (hh:PySem.W.hasDictIn K C=true)
  (hw:PySem.Within mA ns) (hsz:ns.length<=sizeLine)
  (h:∀ h',ObjM h' x dx C (fun y=>if y=name then some v else mA y)->Heap.SameBut dx s.heap h'->Q () { s with heap:=h',toks:=s.toks+2 }) :
  wpAny (model prog w) A (setAttr (.ref x) name v) Q E s:=by
 obtain ⟨od,J,hl⟩:=I.look
 refine PySem.W.set_plain X J hs (PySem.W.osa_open (s:={ s with toks:=s.toks+1 }) (r:=none) X J hp ht fun b=>?_)
 obtain ⟨cd,hc,hd'⟩:=PySem.W.any_some hh
 have hx:s.heap.get? x=some ⟨.ref C,some dx,.plain,#[]⟩:=I.obj
 refine Qa (Qc (Qa (Qa (wpAny_loadPart hx (Qa (PySem.W.Looks.here (s:={ s with toks:=s.toks+1 }) (PySem.W.looks_clsIn X hc) ?_))))))
 rw [hd']
 refine Qc (a:=some dx) (Qa (Qc (Qa ?_)))
 refine wpAny_nsSet1 (s:={ s with toks:=s.toks+1 }) I.ns fun h' hn2 hs2=>?_
 obtain ⟨oD,esD,epD,hoD,hdD,hcD⟩:=hn2.count (PySem.Within.cons name v hw)
 refine Qa (wpAny_lookBehind hoD (by rw [hdD];exact pastItsLine_dict (QE hcD (by rw [List.length_cons];omega))) ?_)
 exact Qc (h _ ⟨(hs2.2 _ (Ne.symm I.ne)).trans I.obj,hn2,I.ne⟩ hs2)
theorem make_map {R:Result->Shared->Prop} {vs:List Value} {kw:List (Str × Value)} (X:K.In s.heap) (hm:PySem.W.makesIn K C=true)
  (hi:PySem.W.findIn K (.ref C) "__init__"=some (some (.ref f))) (hf:PySem.W.typeIn K (.ref f)=some (.type "function"))
  (h:codeAny (model prog w) (A.under (.builtin "type.__call__" ⟨.ref C::vs,kw⟩)) (.call (.ref f) ⟨.ref (s.heap.objs.size+1)::vs,kw⟩) (PySem.W.InitBack (s.heap.objs.size+1) R)
   { s with heap:=(s.heap.push PySem.W.emptyDict).push (PySem.W.instObj C s.heap.objs.size) }) :
  codeAny (model prog w) A (.call (.ref C) ⟨vs,kw⟩) R s:=by
 obtain ⟨hh,g,d,t,os⟩:=s
 exact PySem.W.make_core (PySem.W.makes_of X hm) (PySem.W.looks_findIn X hi) (fun self=>PySem.W.bind_fn X self hf) (.inl rfl) h
end
noncomputable def putF (f:Str) (v:V):List (Str × V)->List (Str × V)
 | []=>[(f,v)]
 | (g,x)::r=>if g=f then (g,v)::r else (g,x)::putF f v r
theorem lookup_putF (f g:Str) (v:V):∀ fs:List (Str × V),(putF f v fs).lookup g=if g=f then some v else fs.lookup g
 | []=>by
  show List.lookup g [(f,v)]=_
  by_cases h:g=f
  ·have hb:(g == f)=true:=beq_iff_eq.mpr h
   simp only [List.lookup,hb,if_pos h]
  ·have hb:(g == f)=false:=beq_eq_false_iff_ne.mpr h
   simp only [List.lookup,hb,if_neg h]
 | (k,x)::r=>by
  have ih:=lookup_putF f g v r
  rw [show putF f v ((k,x)::r)=(if k=f then (k,v)::r else (k,x)::putF f v r) from rfl]
  by_cases hk:k=f
  ·rw [if_pos hk]
   by_cases h:g=k
   ·have hb:(g == k)=true:=beq_iff_eq.mpr h
    simp only [List.lookup,hb,if_pos (h.trans hk)]
   ·have hb:(g == k)=false:=beq_eq_false_iff_ne.mpr h
    simp only [List.lookup,hb,if_neg (fun e:g=f=>h (e.trans hk.symm))]
  ·rw [if_neg hk]
   by_cases h:g=k
   ·have hb:(g == k)=true:=beq_iff_eq.mpr h
    simp only [List.lookup,hb,if_neg (fun e:g=f=>hk (h.symm.trans e))]
   ·have hb:(g == k)=false:=beq_eq_false_iff_ne.mpr h
    simp only [List.lookup,hb]
    exact ih
theorem keys_putF (f:Str) (v:V):∀ fs:List (Str × V),f∈(putF f v fs).map (·.1)/\∀ g,g∈fs.map (·.1)->g∈(putF f v fs).map (·.1)
 | []=>⟨by simp [putF],fun g h=>by simp at h⟩
 | (k,x)::r=>by
  obtain ⟨i1,i2⟩:=keys_putF f v r
  rw [show putF f v ((k,x)::r)=(if k=f then (k,v)::r else (k,x)::putF f v r) from rfl]
  by_cases hk:k=f
  ·rw [if_pos hk]
   subst hk
   exact ⟨by simp,fun g h=>by simpa using h⟩
  ·rw [if_neg hk]
   refine ⟨?_,fun g h=>?_⟩
   ·rw [List.map_cons]
    exact Qg _ i1
   ·rw [List.map_cons] at h ⊢
    rcases Qn h with e | e
    ·exact List.mem_cons.mpr (.inl e)
    ·exact Qg _ (i2 g e)
theorem length_putF (f:Str) (v:V):∀ fs:List (Str × V),(putF f v fs).length<=fs.length+1
 | []=>by simp [putF]
 | (k,x)::r=>by
  have ih:=length_putF f v r
  rw [show putF f v ((k,x)::r)=(if k=f then (k,v)::r else (k,x)::putF f v r) from rfl]
  by_cases hk:k=f
  ·rw [if_pos hk,List.length_cons,List.length_cons];omega
  ·rw [if_neg hk,List.length_cons,List.length_cons];omega
theorem RelO.some_of {v:V} {o:Option Value} (r:RelO (some v) o):∃ u,o=some u/\RelV v u:=by
 cases o with
 | none=>exact (show False from r).elim
 | some u=>exact ⟨u,rfl,r⟩
theorem RelO.none_of {o:Option Value} (r:RelO none o):o=none:=by
 cases o with
 | none=>rfl
 | some u=>exact (show False from r).elim
theorem handed_of {v:V} {u:Value} (r:RelV v u):PySem.W.handedIn u=true:=by
 cases v with
 | non=>cases (show u=Value.none from r);rfl
 | bl b=>cases (show u=Value.bool b from r);rfl
 | int i=>obtain ⟨t,e⟩:=(show ∃ t,u=Value.int i t from r);cases e;rfl
 | str x=>obtain ⟨t,e⟩:=(show ∃ t,u=Value.str x t from r);cases e;rfl
 | byt b=>obtain ⟨t,e⟩:=(show ∃ t,u=Value.bytes b t from r);cases e;rfl
 | flt b=>obtain ⟨t,e⟩:=(show ∃ t,u=Value.float b t from r);cases e;rfl
 | ref a=>cases (show u=Value.ref a from r);rfl
 | ty n=>cases (show u=Value.type n from r);rfl
section
variable {P:Program} {w:World} {H H':Hp} {h h':Heap} {a C dx:Addr} {fs fs':List (Str × V)}
theorem ins_get (hok:HOk P w H h) (e:H a=some (.ins C dx fs)):∃ mA,ObjM h a dx C mA/\(∀ f,RelO (fs.lookup f) (mA f))/\PySem.Within mA (fs.map (·.1))/\fs.length<=1000/\H dx=some (.own a):=by
 obtain ⟨d,z,ne,ob,mA,n,r,q⟩:=(show ObjOk P w H h a (.ins C dx fs) from hok a _ e)
 exact ⟨mA,⟨ob,n,ne⟩,r,q,z,d⟩
end
structure Cls (K:PySem.W.Frag) (C:Addr):Prop where
 pg:PySem.W.plainGet K C Str.empty=true
 hd:PySem.W.hasDictIn K C=true
 po:PySem.W.plainOver K C=true
 sa:PySem.W.findIn K (.ref C) "__setattr__"=some (some (.builtin "object.__setattr__"))
theorem Cls.get {K:PySem.W.Frag} {C:Addr} (c:Cls K C) (f:Str):PySem.W.plainGet K C f=true:=c.pg
noncomputable def NoAttr (K:PySem.W.Frag) (C:Addr) (f:Str):Prop:=PySem.W.findIn K (.ref C) f=some none
theorem NoAttr.taker {K:PySem.W.Frag} {C:Addr} {f:Str} (n:NoAttr K C f):PySem.W.takerIn K C f=some none:=by
 unfold PySem.W.takerIn
 rw [show PySem.W.findIn K (.ref C) f=some none from n]
 rfl
structure Meth (K:PySem.W.Frag) (C:Addr) (m:Str) (f:Addr):Prop where
 at_:PySem.W.findIn K (.ref C) m=some (some (.ref f))
 fn:PySem.W.isFn K (.ref f)=true
 kp:PySem.W.keepIn K (.ref f)=true
section
variable {X:Cx} {pins:List (Addr × Obj)} {σ:St} {H:Hp} {s:Shared} {a C dx:Addr} {fs:List (Str × V)} {f:Str} {v:V} {A:Around} {E:Value->Shared->Prop}
theorem getattr_ok {b:Bool} {Q:Value->Shared->Prop} (I:Inv X pins σ H s) (e:H a=some (.ins C dx fs)) (c:Cls X.K C) (n:NoAttr X.K C f) (l:fs.lookup f=some v)
  (h:∀ u s',Inv X pins σ H s'->RelV v u->Q u s'):wpAny (model X.prog X.w) A (getAttr (.ref a) f b) Q E s:=by
 obtain ⟨mA,O,r,_,_,_⟩:=ins_get I.hok e
 obtain ⟨u,hu,ru⟩:=RelO.some_of (v:=v) (o:=mA f) (by rw [<- l];exact r f)
 exact get_map I.kIn O (c.get f) c.hd n hu (handed_of ru) (h u _ (I.tok _) ru)
theorem getmeth_ok {m:Str} {g:Addr} {pl:Sem Bool} {Q:Value × List Value->Shared->Prop} (I:Inv X pins σ H s) (e:H a=some (.ins C dx fs)) (c:Cls X.K C) (k:Meth X.K C m g) (l:fs.lookup m=none)
  (h:Q (.ref g,[.ref a]) s):wpAny (model X.prog X.w) A (getMethod (.ref a) m pl) Q E s:=by
 obtain ⟨mA,O,r,_,_,_⟩:=ins_get I.hok e
 have hn:mA m=none:=RelO.none_of (by rw [<- l];exact r m)
 exact get_meth I.kIn O (c.get m) k.at_ k.fn hn h
theorem setattr_ok {y:V} {u:Value} {Q:Unit->Shared->Prop} (I:Inv X pins σ H s) (e:H a=some (.ins C dx fs)) (c:Cls X.K C) (n:NoAttr X.K C f) (hl:fs.length<1000) (ry:RelV y u)
  (h:∀ s',Inv X pins σ (upd H a (.ins C dx (putF f y fs))) s'->Q () s'):wpAny (model X.prog X.w) A (setAttr (.ref a) f u) Q E s:=by
 obtain ⟨mA,O,r,wi,_,ho⟩:=ins_get I.hok e
 have hz:(fs.map (·.1)).length<=sizeLine:=by rw [Qi,sizeLine_eq];omega
 refine set_map I.kIn O c.sa c.po n.taker c.hd wi hz fun h' O' sb=>h _ ?_
 have hd:∃ o,h'.get? dx=some o:=by obtain ⟨o,_,_,e',_⟩:=O'.ns;exact ⟨o,e'⟩
 refine I.write (x:=a) (e:=dx) (by rw [e];exact True.intro) (.inr ho) (fun b q hb z=>(sb.2 b hb).trans z) hd ?_
 refine ⟨by rw [upd_ne O.ne];exact ho,?_,O.ne,O'.obj,_,O'.ns,fun g=>?_,fun g hg=>?_⟩
 ·have:=length_putF f y fs;omega
 ·show RelO ((putF f y fs).lookup g) (if g=f then some u else mA g)
  rw [lookup_putF]
  by_cases q:g=f
  ·rw [if_pos q,if_pos q];exact ry
  ·rw [if_neg q,if_neg q];exact r g
 ·by_cases q:g=f
  ·rw [q];exact (keys_putF f y fs).1
  ·refine (keys_putF f y fs).2 g (wi g fun z=>hg ?_)
   show (if g=f then some u else mA g)=none
   rw [if_neg q];exact z
theorem Inv.made (I:Inv X pins σ H s):Inv X pins σ (upd (upd H s.heap.objs.size (.own (s.heap.objs.size+1))) (s.heap.objs.size+1) (.ins C s.heap.objs.size []))
  { s with heap:=(s.heap.push PySem.W.emptyDict).push (PySem.W.instObj C s.heap.objs.size) }:=by
 have e1:(s.heap.push PySem.W.emptyDict).get? s.heap.objs.size=some PySem.W.emptyDict:=Qo s.heap rfl
 have e2:((s.heap.push PySem.W.emptyDict).push (PySem.W.instObj C s.heap.objs.size)).get? (s.heap.objs.size+1)=some (PySem.W.instObj C s.heap.objs.size):=by
  have:=Qo (s.heap.push PySem.W.emptyDict) (o:=PySem.W.instObj C s.heap.objs.size) rfl
  rwa [Heap.size_push] at this
 have e3:(s.heap.push PySem.W.emptyDict).Ns s.heap.objs.size (fun _=>none):=⟨PySem.W.emptyDict,#[],_,e1,rfl,(fun e he=>absurd he (by simp)),fun _=>rfl⟩
 have I1:=I.laid (a:=s.heap.objs.size) (o:=.own (s.heap.objs.size+1)) (h':=s.heap.push PySem.W.emptyDict) (t':=s.toks) (fun b u q=>Qd _ q) (Qf _) ⟨_,e1⟩
 refine I1.laid (a:=s.heap.objs.size+1) (o:=.ins C s.heap.objs.size []) (t':=s.toks) (fun b u q=>Qd _ q) (Nat.le_of_eq (Heap.size_push _ _)) ?_
 have ne:s.heap.objs.size≠s.heap.objs.size+1:=Qy (Nat.lt_succ_self _)
 refine ⟨by rw [upd_ne ne,upd_same],Qp _,ne,e2,fun _=>none,(Heap.Ns1.of_empty e3).at fun o q=>Qd _ q,fun _=>True.intro,fun y hy=>absurd rfl hy⟩
theorem attr_of {prog:Program} {w:World} {env:Env} {e:Expr} {f:Str} {pos:Pos} {s:Shared} {Q:Value->Shared->Prop} (hb:attributeBase e f env (eval e env)=eval e env)
  (h:wpAny (model prog w) A (eval e env) (fun o s₁=>wpAny (model prog w) A (getAttr o f true) Q E s₁) E s):wpAny (model prog w) A (eval (.Attribute e f pos) env) Q E s :=
 Attribute_any_ h (by rw [arm_eval_Attribute,hb])
end
noncomputable def tFld (K:PySem.W.Frag) (ta:TE) (f:Str):TE:=fun σ H Q=>ta σ H fun x H1=>∃ a C dx fs v,x=.ref a/\H1 a=some (.ins C dx fs)/\Cls K C/\NoAttr K C f/\fs.lookup f=some v/\Q v H1
noncomputable def sFld (K:PySem.W.Frag) (ta tv:TE) (f:Str):TS:=fun D σ H=>tv σ H fun y H1=>ta σ H1 fun x H2=>∃ a C dx fs,x=.ref a/\H2 a=some (.ins C dx fs)/\Cls K C/\NoAttr K C f/\fs.length<1000 /\
 D.nx σ (upd H2 a (.ins C dx (putF f y fs)))
section
variable {X:Cx} {o e value:Expr} {f:Str} {pos pos' tpos:Pos} {ta tv:TE}
theorem pe_fld (he:PE X e ta) (hb:attributeBase e f X.env (eval e X.env)=eval e X.env):PE X (.Attribute e f pos) (tFld X.K ta f):=by
 intro pins s σ H Q I h
 refine attr_of hb (thn (he pins s σ H _ I h) fun u s1 hsl26=>?_)
 obtain ⟨x,H1,I1,rx,a,C,dx,fs,v,ex,ea,c,n,l,q⟩:=hsl26
 subst ex
 obtain rfl:u=Value.ref a:=rx
 exact getattr_ok I1 ea c n l fun u' s2 I2 ru=>⟨v,H1,I2,ru,q⟩
theorem ps_fld (ha:PE X o ta) (hv:PE X value tv) (hs:swapsWith value (some (.Attribute o f pos')) pos.line X.env=pure false):PS X (.Assign [.Attribute o f pos'] value pos) (sFld X.K ta tv f):=by
 intro pins s σ H D I h
 refine plainObj_wpAny_Assign_Attribute (thn (hv pins s σ H _ I h) fun u s1 ⟨y,H1,I1,ry,q⟩=>thn (ha pins s1 σ H1 _ I1 q) fun ov s2 hsl27=>?_) hs
 obtain ⟨x,H2,I2,rx,a,C,dx,fs,ex,ea,c,n,l,q2⟩:=hsl27
 subst ex
 obtain rfl:ov=Value.ref a:=rx
 exact setattr_ok I2 ea c n l ry fun s3 I3=>⟨σ,_,I3,q2⟩
end
section
variable {X:Cx} {pins:List (Addr × Obj)} {σ:St} {H:Hp} {s:Shared} {A:Around} {E:Value->Shared->Prop} {Q:Value->Shared->Prop} {c:Value} {b:Bool}
inductive TyOf (K:PySem.W.Frag) (H:Hp):V->Value->Prop where
 | non:TyOf K H .non (.type "NoneType")
 | bl (x:Bool):TyOf K H (.bl x) (.type "bool")
 | int (i:Int):TyOf K H (.int i) (.type "int")
 | str (x:Str):TyOf K H (.str x) (.type "str")
 | flt (x:UInt64):TyOf K H (.flt x) (.type "float")
 | lst {a:Addr} {xs:List V} (e:H a=some (.lst xs)):TyOf K H (.ref a) (.type "list")
 | frz {a:Addr} {o:Obj} {xs:List V} (e:H a=some (.frz o (.lst xs))):TyOf K H (.ref a) (.type "list")
 | tup {a:Addr} {xs:List V} (e:H a=some (.tup xs)):TyOf K H (.ref a) (.type "tuple")
 | dK {a:Addr} {kvs:List (Key × V)} (e:H a=some (.dK kvs)):TyOf K H (.ref a) (.type "dict")
 | dT {a:Addr} {kvs:List (List Key × V)} (e:H a=some (.dT kvs)):TyOf K H (.ref a) (.type "dict")
 | ins {a C dx:Addr} {fs:List (Str × V)} (e:H a=some (.ins C dx fs)) (cl:Cls K C) (ha:PySem.W.findIn K (.ref C) "__class__"=some (some (.builtin "object.__class__")))
   (hn:PySem.W.specialIn K (.builtin "object.__class__") "__get__"=some (some (.builtin "getset_descriptor.__get__"))) (htk:PySem.W.takesIn K (.builtin "object.__class__")=some true)
   (hm:PySem.W.mroIn K C (.type "object")=some true):TyOf K H (.ref a) (.ref C)
theorem isinst_ok {x:V} {u t:Value} (I:Inv X pins σ H s) (rx:RelV x u) (ty:TyOf X.K H x t) (e:PySem.W.kitOne X.K t c=some b) (h:∀ tk,Q (.bool b) { s with toks:=tk }) :
  wpAny (model X.prog X.w) A (call (.builtin "isinstance") [u,c]) Q E s:=by
 cases ty with
 | non=>cases (show u=Value.none from rx);exact PySem.W.kia_one PySem.W.kitx_none I.kIn True.intro e (fun z=>nomatch z) h
 | bl y=>cases (show u=Value.bool y from rx);exact PySem.W.kia_one PySem.W.kitx_bool I.kIn True.intro e (fun z=>nomatch z) h
 | int i=>obtain ⟨t,q⟩:=(show ∃ t,u=Value.int i t from rx);cases q;exact PySem.W.kia_one PySem.W.kitx_int I.kIn True.intro e (fun z=>nomatch z) h
 | str y=>obtain ⟨t,q⟩:=(show ∃ t,u=Value.str y t from rx);cases q;exact PySem.W.kia_one PySem.W.kitx_str I.kIn True.intro e (fun z=>nomatch z) h
 | flt y=>obtain ⟨t,q⟩:=(show ∃ t,u=Value.float y t from rx);cases q;exact PySem.W.kia_one PySem.W.kitx_float I.kIn True.intro e (fun z=>nomatch z) h
 | @lst a xs ea =>
  cases (show u=Value.ref a from rx)
  obtain ⟨_,_,n,_,h1⟩:=(show ObjOk X.prog X.w H s.heap a (.lst xs) from I.hok a _ ea)
  exact PySem.W.kia_one PySem.W.kitx_list I.kIn ⟨_,h1,rfl⟩ e (fun z=>nomatch z) h
 | @frz a ob xs ea =>
  cases (show u=Value.ref a from rx)
  obtain ⟨_,_,_,n,_,h1⟩:=(show ObjOk X.prog X.w H s.heap a (.frz ob (.lst xs)) from I.hok a _ ea)
  exact PySem.W.kia_one PySem.W.kitx_list I.kIn ⟨_,h1,rfl⟩ e (fun z=>nomatch z) h
 | @tup a xs ea =>
  cases (show u=Value.ref a from rx)
  obtain ⟨_,_,_,p⟩:=(show ObjOk X.prog X.w H s.heap a (.tup xs) from I.hok a _ ea)
  obtain ⟨o,h1,h2,_⟩:=p
  exact PySem.W.kia_one PySem.W.kitx_tuple I.kIn ⟨o,h1,h2⟩ e (fun z=>nomatch z) h
 | @dK a kvs ea =>
  cases (show u=Value.ref a from rx)
  obtain ⟨_,_,vs,_,p⟩:=(show ObjOk X.prog X.w H s.heap a (.dK kvs) from I.hok a _ ea)
  obtain ⟨o,es,ep,h1,h2,_⟩:=p
  exact PySem.W.kia_one PySem.W.kitx_dict I.kIn ⟨o,h1,h2.1⟩ e (fun z=>nomatch z) h
 | @dT a kvs ea =>
  cases (show u=Value.ref a from rx)
  obtain ⟨_,_,xs,_,o,es,ep,h1,h2,_⟩:=(show ObjOk X.prog X.w H s.heap a (.dT kvs) from I.hok a _ ea)
  exact PySem.W.kia_one PySem.W.kitx_dict I.kIn ⟨o,h1,h2.1⟩ e (fun z=>nomatch z) h
 | @ins a C dx fs ea cl ha hn htk hm =>
  cases (show u=Value.ref a from rx)
  obtain ⟨mA,O,_⟩:=ins_get I.hok ea
  obtain ⟨od,J,_⟩:=O.look
  exact PySem.W.kia_one (PySem.W.kitx_own (cl.get _) cl.hd ha hn htk hm) I.kIn J e (fun z=>nomatch z) h
end
end L2
namespace L2
open PySem PySem.Spec PyProof.Rows
structure Room (k:Nat) (A:Around):Prop where
 hd:A.handled=none
 dp:A.depth+3*k+5<recursionLimit
 un:A.units+16*k+200<cLine
theorem Room.mono {j k:Nat} {A:Around} (r:Room k A) (h:j<=k):Room j A:=⟨r.hd,by have:=r.dp;omega,by have:=r.un;omega⟩
theorem Room.deeper {k:Nat} {A:Around} (r:Room (k+1) A) (env:Env):Room k (A.deeper env) :=
 ⟨r.hd,by have:=r.dp;show A.depth+1+3*k+5<_;omega,by have:=r.un;show A.units+3+16*k+200<_;omega⟩
theorem Room.in1 {k:Nat} {A:Around} (r:Room (k+1) A):Room k A.in1 :=
 ⟨r.hd,by have:=r.dp;show A.depth+3*k+5<_;omega,by have:=r.un;show A.units+1+16*k+200<_;omega⟩
theorem make_depth {A:Around} {C:Addr} {us:List Value} {kw:List (Str × Value)}:(A.under (.builtin "type.__call__" ⟨.ref C::us,kw⟩)).depth=A.depth+1:=by
 first | rfl | simp [Around.under,Code.weight,Code.isCreation,Code.isGuard,Code.isCaller,Code.frames,Code.isFrame,guardIds]
theorem make_units {A:Around} {C:Addr} {us:List Value} {kw:List (Str × Value)}:(A.under (.builtin "type.__call__" ⟨.ref C::us,kw⟩)).units=A.units+1:=by
 first | rfl | simp [Around.under,Code.cUnits,Code.frames,Code.isFrame]
theorem Room.make {k:Nat} {A:Around} (r:Room (k+1) A) (C:Addr) (us:List Value) (kw:List (Str × Value)):Room k (A.under (.builtin "type.__call__" ⟨.ref C::us,kw⟩)) :=
 ⟨r.hd,by have:=r.dp;rw [make_depth];omega,by have:=r.un;rw [make_units];omega⟩
theorem Room.depth {k:Nat} {A:Around} (r:Room k A):A.depth<recursionLimit:=by have:=r.dp;omega
theorem Room.units {k:Nat} {A:Around} (r:Room k A):A.units+64<cLine:=by have:=r.un;omega
noncomputable def tNil:TA:=fun _ H Q=>Q [] H
noncomputable def tCons (ta:TE) (tr:TA):TA:=fun σ H Q=>ta σ H fun x H1=>tr σ H1 fun xs H2=>Q (x::xs) H2
section
variable {X:Cx} {e:Expr} {es:List Expr} {te:TE} {t:TA} {pos:Pos}
theorem pa_nil:PA X [] tNil:=fun _ _ _ _ H Q I h=>Calls.spliced_nil ⟨[],H,I,.nil,h⟩
theorem pa_cons (ha:PE X e te) (hr:PA X es t) (hs:starEach (e::es) X.env=(false,eval e X.env)::starEach es X.env:=by rfl):PA X (e::es) (tCons te t):=by
 intro pos pins s σ H Q I h
 rw [hs]
 show wpAny _ _ (spliced ((false,eval e X.env)::backTo pos (starEach es X.env))) _ _ s
 refine Calls.spliced_cons (thn (ha pins s σ H _ I h) fun u s1 hsl29=>?_)
 obtain ⟨x,H1,I1,r1,q1⟩:=hsl29
 exact thn (hr pos pins s1 σ H1 _ I1 q1) fun us s2 hsl30=>by obtain ⟨xs,H2,I2,r2,q2⟩:=hsl30;exact ⟨x::xs,H2,I2,.cons r1 r2,q2⟩
noncomputable def tTup (t:TA):TE:=fun σ H Q=>t σ H fun xs H1=>xs.length<=sizeLine/\∀ p,H1 p=none->Q (.ref p) (upd H1 p (.tup xs))
noncomputable def tLst (t:TA):TE:=fun σ H Q=>t σ H fun xs H1=>xs.length<=sizeLine/\∀ p,H1 p=none->Q (.ref p) (upd H1 p (.lst xs))
theorem pe_tup {x1} (h:PA X es t):PE X (.Tuple es x1 pos) (tTup t):=by
 intro pins s σ H Q I hq
 refine wpAny_Tuple_spliced (thn (h pos pins s σ H _ I hq) fun us s1 ⟨xs,H1,I1,r,z,q⟩=>⟨by rw [<- r.length];exact z,?_⟩)
 have hf:H1 s1.heap.objs.size=none:=I1.hok.fresh (Qf _)
 refine ⟨.ref s1.heap.objs.size,upd H1 s1.heap.objs.size (.tup xs),I1.laid (t':=s1.toks) (fun b u e=>Qd _ e) (Qf _) ?_,rfl,q _ hf⟩
 exact ⟨z,us,r,⟨_,Qo _ rfl,rfl,_,rfl⟩⟩
theorem pe_lst (h:PA X es t):PE X (.List es pos) (tLst t):=by
 intro pins s σ H Q I hq
 refine wpAny_List_spliced (thn (h pos pins s σ H _ I hq) fun us s1 ⟨xs,H1,I1,r,z,q⟩=>⟨by rw [<- r.length];exact z,?_⟩)
 have hf:H1 s1.heap.objs.size=none:=I1.hok.fresh (Qf _)
 refine ⟨.ref s1.heap.objs.size,upd H1 s1.heap.objs.size (.lst xs),I1.laid (t':=s1.toks) (fun b u e=>Qd _ e) (Qf _) ?_,rfl,q _ hf⟩
 exact ⟨z,us,0,r,Qo _ rfl⟩
end
noncomputable abbrev Sp:=List V->Hp->VK->XK->Prop
noncomputable abbrev CXT:=List Env->Hp->Shared->XK->Value->Shared->Prop
structure Env0 (P:Program) (w:World) (K:PySem.W.Frag) (mg:Str->Option Value) (base:Heap) (A:Around) (outer:List Env) (s:Shared) (H:Hp):Prop where
 frames:A.frames=some outer
 mod:Mod K mg base
 bs:∀ b o,base.get? b=some o->s.heap.get? b=some o/\H b=none
 bsz:base.objs.size<=s.heap.objs.size
 funs:s.heap.FunFrames base outer
 frf:∀ b∈frs outer,H b=none
 hok:HOk P w H s.heap
 bare:AllBare s.gens
noncomputable def CE (outer:List Env) (P:Program) (w:World) (H:Hp) (s:Shared) (Q:VK) (u:Value) (s':Shared):Prop :=
 ∃ v H',s'.os=s.os/\AllBare s'.gens/\Un (frs outer) [] H H' s.heap s'.heap/\HOk P w H' s'.heap/\RelV v u/\Q v H'
noncomputable def CR (CX:CXT) (outer:List Env) (P:Program) (w:World) (H:Hp) (s:Shared) (Q:VK) (E:XK) (r:Result) (s':Shared):Prop :=
 match r with
 | .ok (.ret u)=>CE outer P w H s Q u s'
 | .ok _=>False
 | .error e=>CX outer H s E e s'
structure FnOk (P:Program) (w:World) (K:PySem.W.Frag) (mg:Str->Option Value) (base:Heap) (CX:CXT) (k:Nat) (f:Addr) (fd:FuncData) (ps:List Str) (sp:Sp):Prop where
 len:∀ vs H Q E,sp vs H Q E->vs.length=ps.length
 run:∀ (A:Around) (outer:List Env) (s:Shared) (H:Hp) (args:Args) (us:List Value) (vs:List V) (Q:VK) (E:XK),Room k A->Env0 P w K mg base A outer s H->BindsTo s fd args (ps.zip us)->Vals vs us->sp vs H Q E ->
  codeAny (model P w) A (.call (.ref f) args) (CR CX outer P w H s Q E) s
theorem Env0.make {P:Program} {w:World} {K:PySem.W.Frag} {mg:Str->Option Value} {base:Heap} {A:Around} {outer:List Env} {s:Shared} {H:Hp} (e:Env0 P w K mg base A outer s H) (C:Addr) (us:List Value) (kw:List (Str × Value)) :
  Env0 P w K mg base (A.under (.builtin "type.__call__" ⟨.ref C::us,kw⟩)) outer s H:=⟨by first | exact e.frames | (simpa [Around.under,Code.envs,Code.isFrame,pushEnvs] using e.frames),e.mod,e.bs,e.bsz,e.funs,e.frf,e.hok,e.bare⟩
theorem Env0.in1 {P:Program} {w:World} {K:PySem.W.Frag} {mg:Str->Option Value} {base:Heap} {A:Around} {outer:List Env} {s:Shared} {H:Hp} (e:Env0 P w K mg base A outer s H) :
  Env0 P w K mg base A.in1 outer s H:=⟨e.frames,e.mod,e.bs,e.bsz,e.funs,e.frf,e.hok,e.bare⟩
section
variable {X:Cx} {pins:List (Addr × Obj)} {σ:St} {H:Hp} {s s':Shared}
theorem Inv.env0 (I:Inv X pins σ H s):Env0 X.prog X.w X.K X.mg X.base X.A X.stack s H :=
 ⟨I.ok.frames,I.ok.mod,I.bs,QE I.ok.bsz I.sz,I.stack,I.stkFree,I.hok,I.bare⟩
theorem Inv.after {Q:VK} {u:Value} (I:Inv X pins σ H s) (h:CE X.stack X.prog X.w H s Q u s'):EP X pins σ Q u s':=by
 obtain ⟨v,H',os,bare,un,hok,r,q⟩:=h
 obtain ⟨hh,g,d,t,os'⟩:=s'
 obtain rfl:os'=s.os:=os
 exact ⟨v,H',I.call (h':=hh) (g':=g) (d':=d) (t':=t) (ch:=[]) un hok bare (fun b z=>absurd z (by simp)),r,q⟩
end
noncomputable def tCall (sp:Sp) (dvs:List V) (E:XK) (t:TA):TE:=fun σ H Q=>t σ H fun vs H1=>sp (vs++dvs) H1 Q E
noncomputable def tMeth (C:Addr) (m:Str) (sp:Sp) (dvs:List V) (E:XK) (ta:TE) (t:TA):TE:=fun σ H Q=>ta σ H fun x H1=>∃ a dx fs,x=.ref a/\H1 a=some (.ins C dx fs)/\fs.lookup m=none /\
 t σ H1 fun vs H2=>sp (x::(vs++dvs)) H2 Q E
noncomputable def tMake (C:Addr) (sp:Sp) (dvs:List V) (E:XK) (t:TA):TE:=fun σ H Q=>t σ H fun vs H1=>∀ x dx,H1 x=none->H1 dx=none->dx≠x ->
 sp (.ref x::(vs++dvs)) (upd (upd H1 dx (.own x)) x (.ins C dx [])) (fun v H2=>v=.non/\Q (.ref x) H2) E
noncomputable def Binds (K:PySem.W.Frag) (fd:FuncData) (ps:List Str) (ds:List Value):Prop :=
 ∀ (s:Shared) (us:List Value),K.In s.heap->(us++ds).length=ps.length->BindsTo s fd ⟨us,[]⟩ (ps.zip (us++ds))
theorem Binds.all {K:PySem.W.Frag} {fd:FuncData} {ps:List Str} (h:∀ us:List Value,us.length=ps.length->bindArgs fd ⟨us,[]⟩=pure (ps.zip us)):Binds K fd ps []:=fun s us _ hl=>by
 rw [List.append_nil] at hl ⊢
 exact .of_eq (h us hl)
noncomputable def Passes (CX:CXT) (X:Cx) (E:XK):Prop:=∀ (pins:List (Addr × Obj)) (σ:St) (H:Hp) (s:Shared) (e:Value) (s':Shared),Inv X pins σ H s->CX X.stack H s E e s'->X.xe e s'
section
variable {X:Cx} {CX:CXT} {k:Nat} {f C:Addr} {fd:FuncData} {ps:List Str} {sp:Sp} {dvs:List V} {ds:List Value} {E:XK} {x m:Str} {p pos apos:Pos} {e o:Expr} {es:List Expr} {ta:TE} {t:TA}
theorem run_fn {pins:List (Addr × Obj)} {σ:St} {H:Hp} {s:Shared} {Q:VK} {us:List Value} {vs:List V} (F:FnOk X.prog X.w X.K X.mg X.base CX k f fd ps sp) (hr:Room k X.A) (hb:Binds X.K fd ps ds) (hd:Vals dvs ds) (hx:Passes CX X E)
  (I:Inv X pins σ H s) (r:Vals vs us) (h:sp (vs++dvs) H Q E):wpAny (model X.prog X.w) X.A (call (.ref f) us) (EP X pins σ Q) X.xe s:=by
 have r2:Vals (vs++dvs) (us++ds):=r.append hd
 have hl:(us++ds).length=ps.length:=by rw [<- r2.length];exact F.len _ _ _ _ h
 refine wpAny_call (codeAny_mono (F.run X.A X.stack s H ⟨us,[]⟩ (us++ds) (vs++dvs) Q E hr I.env0 (hb s us I.kIn hl) r2 h) fun r s' hq=>?_)
 cases r with
 | error e=>exact hx pins σ H s e s' I hq
 | ok fl =>
  cases fl with
  | ret u=>exact I.after hq
  | next=>exact False.elim hq
  | brk=>exact False.elim hq
  | cont=>exact False.elim hq
theorem pe_call (F:FnOk X.prog X.w X.K X.mg X.base CX k f fd ps sp) (hr:Room k X.A) (hg:Gl X x) (hm:X.mg x=some (.ref f)) (hk:PySem.W.keepIn X.K (.ref f)=true) (hb:Binds X.K fd ps ds) (hd:Vals dvs ds) (hx:Passes CX X E)
  (ha:PA X (e::es) t) (hdb:(x == ("__debug__":Str))=false:=by decide) (he:starEach (e::es) X.env=(false,eval e X.env)::starEach es X.env:=by rfl) (hpl:(backTo pos (starEach es X.env)).any (·.1)=false:=by rfl) :
  PE X (.Call (.Name x p) (e::es) [] pos) (tCall sp dvs E t):=by
 intro pins s σ H Q I h
 refine wpAny_Call_Name_kw (ld_glob I hg hm ?_ hdb)
 refine PySem.W.callWith_K (h₀:=X.base) I.ok.mod.kin hk (thn (ha pos pins s σ H _ I h) fun us s1 ⟨vs,H1,I1,r,q⟩=>⟨I1.kIn,?_⟩) he hpl
 exact run_fn F hr hb hd hx I1 r q
theorem pe_meth {pl:Sem Bool} (he:PE X o ta) (c:Cls X.K C) (hm:Meth X.K C m f) (F:FnOk X.prog X.w X.K X.mg X.base CX k f fd ps sp) (hr:Room k X.A) (hb:Binds X.K fd ps ds) (hd:Vals dvs ds) (hx:Passes CX X E) (ha:PA X (e::es) t)
  (hst:starEach (e::es) X.env=(false,eval e X.env)::starEach es X.env:=by rfl) (hpl:(backTo pos (starEach es X.env)).any (·.1)=false:=by rfl)
  (ht:eval (.Call (.Attribute o m apos) (e::es) [] pos) X.env=(do
   let ov <- eval o X.env
   standAt apos.atName
   let (f,first) <- holding [ov] (getMethod ov m pl)
   callWith pos f first (backTo pos (starEach (e::es) X.env)) (backToKw pos (keywordEach [] X.env))):=by rfl) :
  PE X (.Call (.Attribute o m apos) (e::es) [] pos) (tMeth C m sp dvs E ta t):=by
 intro pins s σ H Q I h
 refine PySem.W.methodCall_KW (pl:=pl) (thn (he pins s σ H _ I h) fun u s1 hsl31=>?_) ht
 obtain ⟨x,H1,I1,rx,a,dx,fs,ex,ea,l,q⟩:=hsl31
 subst ex
 obtain rfl:u=Value.ref a:=rx
 refine getmeth_ok I1 ea c hm l ?_
 refine PySem.W.callWith_K (first:=[.ref a]) (h₀:=X.base) I.ok.mod.kin hm.kp (thn (ha pos pins s1 σ H1 _ I1 q) fun us s2 ⟨vs,H2,I2,r,q2⟩=>⟨I2.kIn,?_⟩) hst hpl
 exact run_fn (us:=.ref a::us) (vs:=.ref a::vs) F hr hb hd hx I2 (.cons rfl r) q2
structure Mk (K:PySem.W.Frag) (C f:Addr):Prop where
 makes:PySem.W.makesIn K C=true
 init:PySem.W.findIn K (.ref C) "__init__"=some (some (.ref f))
 fn:PySem.W.isFn K (.ref f)=true
 kp:PySem.W.keepIn K (.ref C)=true
theorem run_make {pins:List (Addr × Obj)} {σ:St} {H:Hp} {s:Shared} {Q:VK} {us:List Value} {vs:List V} (M:Mk X.K C f) (F:FnOk X.prog X.w X.K X.mg X.base CX k f fd ps sp) (hr:Room (k+1) X.A) (hb:Binds X.K fd ps ds) (hd:Vals dvs ds)
  (hx:Passes CX X E) (I:Inv X pins σ H s) (r:Vals vs us)
  (h:∀ x dx,H x=none->H dx=none->dx≠x->sp (.ref x::(vs++dvs)) (upd (upd H dx (.own x)) x (.ins C dx [])) (fun v H2=>v=.non/\Q (.ref x) H2) E) :
  wpAny (model X.prog X.w) X.A (call (.ref C) us) (EP X pins σ Q) X.xe s:=by
 have hq:=h (s.heap.objs.size+1) s.heap.objs.size (I.hok.fresh (Nat.le_succ _)) (I.hok.fresh (Qf _)) (Qy (Nat.lt_succ_self _))
 have I2:=Inv.made (C:=C) I
 have r2:Vals (V.ref (s.heap.objs.size+1)::(vs++dvs)) (Value.ref (s.heap.objs.size+1)::(us++ds)):=.cons rfl (r.append hd)
 have hl:(Value.ref (s.heap.objs.size+1)::us++ds).length=ps.length:=by
  have e:=r2.length
  rw [F.len _ _ _ _ hq] at e
  exact e.symm
 refine wpAny_call (make_map (f:=f) I.kIn M.makes M.init (beq_iff_eq.mp M.fn) (codeAny_mono (F.run _ X.stack _ _ ⟨Value.ref (s.heap.objs.size+1)::us,[]⟩ (Value.ref (s.heap.objs.size+1)::(us++ds)) _ _ E (hr.make C us [])
  (I2.env0.make C us []) (hb _ (Value.ref (s.heap.objs.size+1)::us) I2.kIn hl) r2 hq) fun r s' hq'=>?_))
 cases r with
 | error e=>exact hx pins σ _ _ e s' I2 hq'
 | ok fl =>
  cases fl with
  | ret u =>
   obtain ⟨v,H',I3,rv,ev,q3⟩:=I2.after hq'
   subst ev
   exact ⟨rv,⟨V.ref (s.heap.objs.size+1),H',I3,rfl,q3⟩⟩
  | next=>exact False.elim hq'
  | brk=>exact False.elim hq'
  | cont=>exact False.elim hq'
theorem pe_make (M:Mk X.K C f) (F:FnOk X.prog X.w X.K X.mg X.base CX k f fd ps sp) (hr:Room (k+1) X.A) (hg:Gl X x) (hm:X.mg x=some (.ref C)) (hb:Binds X.K fd ps ds) (hd:Vals dvs ds) (hx:Passes CX X E)
  (ha:PA X (e::es) t) (hdb:(x == ("__debug__":Str))=false:=by decide) (he:starEach (e::es) X.env=(false,eval e X.env)::starEach es X.env:=by rfl) (hpl:(backTo pos (starEach es X.env)).any (·.1)=false:=by rfl) :
  PE X (.Call (.Name x p) (e::es) [] pos) (tMake C sp dvs E t):=by
 intro pins s σ H Q I h
 refine wpAny_Call_Name_kw (ld_glob I hg hm ?_ hdb)
 refine PySem.W.callWith_K (h₀:=X.base) I.ok.mod.kin M.kp (thn (ha pos pins s σ H _ I h) fun us s1 ⟨vs,H1,I1,r,q⟩=>⟨I1.kIn,?_⟩) he hpl
 exact run_make M F hr hb hd hx I1 r q
end
noncomputable def PK (X:Cx) (kws:List Keyword) (t:TA):Prop :=
 ∀ (pos:Pos) (pins:List (Addr × Obj)) (s:Shared) (σ:St) (H:Hp) (Q:List V->Hp->Prop),Inv X pins σ H s->t σ H Q->wpAny (model X.prog X.w) X.A (evalAll ((backToKw pos (keywordEach kws X.env)).map (·.2))) (AP X pins σ Q) X.xe s
section
variable {X:Cx} {CX:CXT} {k:Nat} {f C:Addr} {fd:FuncData} {ps ks:List Str} {sp:Sp} {E:XK} {x m:Str} {p pos apos kpos:Pos} {e o:Expr} {es:List Expr} {kws:List Keyword} {te ta:TE} {t tk:TA} {nm:Option Str}
theorem pk_nil:PK X [] tNil:=fun _ _ _ _ H Q I h=>wpAny_evalAll_nil ⟨[],H,I,.nil,h⟩
theorem pk_cons (ha:PE X e te) (hr:PK X kws t):PK X (⟨nm,e,kpos⟩::kws) (tCons te t):=by
 intro pos pins s σ H Q I h
 show wpAny _ _ (evalAll ((do let v <- eval e X.env;standAt pos;pure v)::(backToKw pos (keywordEach kws X.env)).map (·.2))) _ _ s
 refine wpAny_evalAll_cons (Qa (thn (ha pins s σ H _ I h) fun u s1 ⟨x,H1,I1,r1,q1⟩=>Qa (wpAny_standAt (Qc ?_))))
 exact thn (hr pos pins s1 σ H1 _ I1 q1) fun us s2 hsl32=>by obtain ⟨xs,H2,I2,r2,q2⟩:=hsl32;exact ⟨x::xs,H2,I2,.cons r1 r2,q2⟩
variable {g:List Value->List Value->List Value} {gV:List V->List V->List V}
end
structure FnScope (N P:List Str) (sc:Scope):Prop where
 kind:sc.kind=.function
 co:sc.isCoroutine=false
 gen:sc.isGenerator=false
 nd:N.Nodup
 pre:N.take P.length=P
 par:∀ x∈P,sc.names.lookup x=some .local∨sc.names.lookup x=some .cell
 nofree:∀ y∈sc.names,y.2≠.free
theorem bindL_out {kindOf:Str->Option NameKind} {x:Str}:∀ {binds:List (Str × Value)} {m:Str->Option Value},(∀ v,(x,v)∉binds)->bindL kindOf binds m x=m x
 | [],_,_=>rfl
 | (n,v)::r,m,h=>by
  unfold bindL
  rw [bindL_out fun w hw=>h w (Qg _ hw)]
  split
  ·have:x≠n:=by rintro rfl;exact h v Qk
   simp [this]
  ·rfl
theorem bindC_out {kindOf:Str->Option NameKind} {x:Str}:∀ {binds:List (Str × Value)} {m:Str->Option Value},(∀ v,(x,v)∉binds)->bindC kindOf binds m x=m x
 | [],_,_=>rfl
 | (n,v)::r,m,h=>by
  unfold bindC
  rw [bindC_out fun w hw=>h w (Qg _ hw)]
  split
  ·rfl
  ·have:x≠n:=by rintro rfl;exact h v Qk
   simp [this]
theorem bindL_get {kindOf:Str->Option NameKind} {x:Str} {v:Value}:∀ {P:List Str} {vs:List Value} {i:Nat} {m:Str->Option Value},P.Nodup->P[i]?=some x->vs[i]?=some v->kindOf x=some .local ->
  bindL kindOf (P.zip vs) m x=some v
 | [],_,_,_,_,h,_,_=>by simp at h
 | _::_,[],_,_,_,_,h,_=>by simp at h
 | p::P,w::vs,0,m,nd,h1,h2,hk=>by
  simp at h1 h2;subst h1;subst h2
  show bindL kindOf ((p,w)::P.zip vs) m p=_
  unfold bindL
  rw [bindL_out fun v hv=>(List.nodup_cons.mp nd).1 (List.of_mem_zip hv).1,if_pos hk]
  simp
 | p::P,w::vs,i+1,m,nd,h1,h2,hk=>by
  show bindL kindOf ((p,w)::P.zip vs) m x=_
  unfold bindL
  exact bindL_get (i:=i) (List.nodup_cons.mp nd).2 (by simpa using h1) (by simpa using h2) hk
theorem bindC_get {kindOf:Str->Option NameKind} {x:Str} {v:Value}:∀ {P:List Str} {vs:List Value} {i:Nat} {m:Str->Option Value},P.Nodup->P[i]?=some x->vs[i]?=some v->kindOf x≠some .local ->
  bindC kindOf (P.zip vs) m x=some v
 | [],_,_,_,_,h,_,_=>by simp at h
 | _::_,[],_,_,_,_,h,_=>by simp at h
 | p::P,w::vs,0,m,nd,h1,h2,hk=>by
  simp at h1 h2;subst h1;subst h2
  show bindC kindOf ((p,w)::P.zip vs) m p=_
  unfold bindC
  rw [bindC_out fun v hv=>(List.nodup_cons.mp nd).1 (List.of_mem_zip hv).1,if_neg hk]
  simp
 | p::P,w::vs,i+1,m,nd,h1,h2,hk=>by
  show bindC kindOf ((p,w)::P.zip vs) m x=_
  unfold bindC
  exact bindC_get (i:=i) (List.nodup_cons.mp nd).2 (by simpa using h1) (by simpa using h2) hk
noncomputable def start (N:List Str) (vs:List V):St:=vs.map some++List.replicate (N.length-vs.length) none
noncomputable def cxOf (CX:CXT) (P:Program) (w:World) (K:PySem.W.Frag) (mg:Str->Option Value) (base:Heap) (N:List Str) (qual:Str) (scope:Scope) (f:Addr) (cd:Value) (A:Around) (outer:List Env) (s:Shared) (H:Hp) (E:XK):Cx where
 prog:=P
 w:=w
 K:=K
 mg:=mg
 base:=base
 A:=A.deeper (envOfC qual scope s.heap.objs.size f cd)
 N:=N
 s₀:=s
 H₀:=H
 env:=envOfC qual scope s.heap.objs.size f cd
 outer:=outer
 stack:=envOfC qual scope s.heap.objs.size f cd::outer
 ex:=[]
 calm:=true
 fn:=fun _=>true
 pn:=[]
 xe:=fun e s'=>wpAny (model P w) (A.deeper (envOfC qual scope s.heap.objs.size f cd)) (leaving (envOfC qual scope s.heap.objs.size f cd) e) (fun _ s''=>CX outer H s E e s'') (fun e' s''=>CX outer H s E e' s'') s'
theorem cell_has {sc:Scope} {n:Nat} {x:Str} (h:sc.names.lookup x=some .cell):∃ c,(cellsFrom n sc.names []).lookup x=some c:=by
 have q:=PySem.W.cellsFrom_some sc.names n [] (.inl h)
 exact Option.isSome_iff_exists.mp q
theorem inv_start {CX:CXT} {P:Program} {w:World} {K:PySem.W.Frag} {mg:Str->Option Value} {base:Heap} {N ps:List Str} {qual:Str} {scope:Scope} {f:Addr} {cd:Value} {A:Around} {outer:List Env} {s s1:Shared} {H:Hp} {E:XK} {us:List Value} {vs:List V}
  (S:FnScope N ps scope) (hd:A.handled=none) (e0:Env0 P w K mg base A outer s H) (hl:vs.length=ps.length) (r:Vals vs us)
  (x:InCallC s s.heap.objs.size (bindL (envOfC qual scope s.heap.objs.size f cd).kindOf (ps.zip us) fun _=>none) (cellsFrom (s.heap.objs.size+1) scope.names []) (bindC (envOfC qual scope s.heap.objs.size f cd).kindOf (ps.zip us) fun _=>none) s1) :
  Inv (cxOf CX P w K mg base N qual scope f cd A outer s H E) [] (start N vs) H s1:=by
 have hpl:ps.length<=N.length:=by have:=congrArg List.length S.pre;rw [Qv] at this;omega
 obtain ⟨h1,tk,rfl,hk⟩:=x.done
 have noA:∀ b:Addr,b∉(cxOf CX P w K mg base N qual scope f cd A outer s H E).ex:=fun b z=>absurd (show b∈([]:List Addr) from z) (by simp)
 refine ⟨⟨e0.mod,S.kind,rfl,rfl,Qf _,fun y z c h1 h2=>?_,fun y hy=>?_,fun y c _ h=>?_,fun _=>hd,Around.frames_deeper e0.frames,.inr ⟨rfl,rfl⟩,fun b z=>absurd z (noA b),e0.bs,e0.bsz,fun b _ _=>noA b,fun b z=>absurd z (noA b),e0.funs,e0.frf⟩,
  rfl,e0.bare,Un.kept hk,⟨_,x.toInCall.ns,fun i y v h1 h2 h3=>?_⟩,fun y c h=>⟨_,x.cell y c h⟩,e0.hok.fresh (Qf _),fun y c h=>?_,fun p hp=>absurd (show p∈([]:List (Addr × Obj)) from hp) (by simp),e0.hok.kept hk,?_⟩
 ·exact name_of_addr x.apart (PySem.mem_of_lookup h1) (PySem.mem_of_lookup h2)
 ·have hy:scope.names.lookup y=some .cell∨scope.names.lookup y=some .free:=hy
  rcases hy with hy | hy
  ·exact cell_has hy
  ·exact absurd rfl (S.nofree _ (PySem.mem_of_lookup hy))
 ·exact Nat.le_of_lt (x.above y c (PySem.mem_of_lookup h))
 ·have hi:i<vs.length:=by
   unfold start at h2
   by_cases hi:i<vs.length
   ·exact hi
   ·rw [Qx (by simpa using hi)] at h2
    rw [List.getElem?_replicate] at h2
    split at h2<;>cases h2
  have ha:vs[i]?=some v:=by
   unfold start at h2
   rw [Qz (by simpa using hi),Ql] at h2
   cases e:vs[i]? with
   | none=>rw [e] at h2;cases h2
   | some a=>rw [e] at h2;cases h2;rfl
  obtain ⟨u,hu,rv⟩:=r.get ha
  have hp:ps[i]?=some y:=by
   rw [<- S.pre,List.getElem?_take_of_lt (by omega)];exact h1
  have ndP:ps.Nodup:=by rw [<- S.pre];exact S.nd.sublist (List.take_sublist _ _)
  refine ⟨u,rv,?_⟩
  rcases S.par y (Qs hp) with k | k
  ·exact .inl ⟨k,bindL_get ndP hp hu k⟩
  ·obtain ⟨c,e⟩:=cell_has (n:=s.heap.objs.size+1) k
   refine .inr ⟨.inl k,c,e,?_⟩
   have q:=x.cell y c e
   rw [bindC_get ndP hp hu (by show scope.names.lookup y≠_;rw [k];decide)] at q
   exact q
 ·exact e0.hok.fresh (Nat.le_of_lt (x.above y c (PySem.mem_of_lookup h)))
 ·unfold start
  show _=N.length
  rw [QB,Qi,List.length_replicate]
  omega
theorem fn_of {CX:CXT} {P:Program} {w:World} {K:PySem.W.Frag} {mg:Str->Option Value} {base:Heap} {k:Nat} {f:Addr} {name qual:Str} {params:Arguments} {body:List Stmt} {scope:Scope} {dV kV doc pm cdv ct oc:Value} {an od:Option Addr}
  {osl:Array (Option Value)} {N ps:List Str} {sp:Sp} (lk:K.lookup f=some ⟨oc,od,.func (PySem.W.fnOf name qual params body scope dV kV doc pm an cdv ct),osl⟩) (hcd:PySem.W.codeIn K cdv qual=true) (S:FnScope N ps scope)
  (len:∀ vs H Q E,sp vs H Q E->vs.length=ps.length)
  (hbody:∀ (A:Around) (outer:List Env) (s:Shared) (H:Hp) (vs:List V) (Q:VK) (E:XK),Room k (A.deeper (envOfC qual scope s.heap.objs.size f cdv))->sp vs H Q E ->
   ∃ t,PSs (cxOf CX P w K mg base N qual scope f cdv A outer s H E) body t/\t { nx:=fun _ H'=>Q .non H',rt:=Q } (start N vs) H) :
  FnOk P w K mg base CX (k+1) f (PySem.W.fnOf name qual params body scope dV kV doc pm an cdv ct) ps sp:=by
 refine ⟨len,fun A outer s H args us vs Q E hr e0 hb r hsp=>?_⟩
 have hl:=len _ _ _ _ hsp
 have KX:K.In s.heap:=e0.mod.kin.keeps fun b o e=>(e0.bs b o e).1
 have lim:s.heap.NoLimit:=e0.mod.nolimit.keeps fun b o e=>(e0.bs b o e).1
 have hkind:∀ y∈ps.zip us,scope.names.lookup y.1=some .local∨(scope.names.lookup y.1=some .cell/\((cellsFrom (s.heap.objs.size+1) scope.names []).lookup y.1).isSome=true):=fun ⟨n,v⟩ hy=>by
  rcases S.par n (List.of_mem_zip hy).1 with q | q
  ·exact .inl q
  ·exact .inr ⟨q,PySem.W.cellsFrom_some _ _ _ (.inl q)⟩
 refine codeAny_call_function hr.depth (KX _ _ lk) rfl S.co S.gen rfl (PySem.W.codeRec_of KX hcd) (hb _ _ _ _ ?_)
 refine wpAny_newFunctionEnv_cells S.kind hkind fun env he s1 x=>?_
 subst he
 refine ⟨lim.keeps x.toInCall.keep,codeAny_func ?_⟩
 obtain ⟨t,ht,hq⟩:=hbody A outer s H vs Q E (hr.deeper _) hsp
 have I:Inv (cxOf CX P w K mg base N qual scope f cdv A outer s H E) [] (start N vs) H s1:=inv_start S hr.hd e0 hl r x
 refine QJ (ht [] s1 (start N vs) H _ I hq) (fun fl s' hs=>?_) fun e s' hs=>hs
 have fin:∀ {σ':St} {H':Hp} {v:V} {u:Value},Inv (cxOf CX P w K mg base N qual scope f cdv A outer s H E) [] σ' H' s'->RelV v u->Q v H'->CE outer P w H s Q u s' :=
  fun {σ' H' v u} J rv q=>⟨v,H',J.os,J.bare,J.base,J.hok,rv,q⟩
 cases fl with
 | ret u =>
  obtain ⟨v,σ',H',J,rv,q⟩:=hs
  exact fin J rv q
 | next =>
  obtain ⟨σ',H',J,q⟩:=hs
  exact fin (v:=V.non) (u:=Value.none) J rfl q
 | brk =>
  obtain ⟨_,_,_,q⟩:=hs
  exact False.elim q
 | cont =>
  obtain ⟨_,_,_,q⟩:=hs
  exact False.elim q
end L2
namespace L2
open PySem PySem.Spec PyProof.Rows
section
variable {X:Cx} {x:Str} {p pos:Pos} {e:Expr} {es:List Expr} {t:TA} {id T:String} {r:List V->Hp->VK->Prop}
noncomputable def tCB (r:List V->Hp->VK->Prop) (t:TA):TE:=fun σ H Q=>t σ H fun vs H1=>r vs H1 Q
theorem pe_callB (hc:CallR X (.builtin id) r) (hg:Gl X x) (hm:X.mg x=none) (hv:bootBuiltins x=some (.builtin id)) (ha:PA X (e::es) t) (hn:x≠"__name__":=by decide) (hdb:(x == ("__debug__":Str))=false:=by decide)
  (he:starEach (e::es) X.env=(false,eval e X.env)::starEach es X.env:=by rfl) (hpl:(backTo pos (starEach es X.env)).any (·.1)=false:=by rfl):PE X (.Call (.Name x p) (e::es) [] pos) (tCB r t):=by
 intro pins s σ H Q I h
 refine wpAny_Call_Name_kw (ld_blt I hg hm hv ?_ hn hdb)
 exact PyProof.Rows.callWith_builtin1 (thn (ha pos pins s σ H _ I h) fun us s1 hsl33=>by obtain ⟨vs,H1,I1,r1,q1⟩:=hsl33;exact hc pins s1 σ H1 vs us Q I1 r1 q1) he hpl
theorem pe_callTy (hc:CallR X (.type T) r) (hg:Gl X x) (hm:X.mg x=none) (hv:bootBuiltins x=some (.type T)) (ha:PA X (e::es) t) (hn:x≠"__name__":=by decide) (hdb:(x == ("__debug__":Str))=false:=by decide)
  (he:starEach (e::es) X.env=(false,eval e X.env)::starEach es X.env:=by rfl) (hpl:(backTo pos (starEach es X.env)).any (·.1)=false:=by rfl):PE X (.Call (.Name x p) (e::es) [] pos) (tCB r t):=by
 intro pins s σ H Q I h
 refine wpAny_Call_Name_kw (ld_blt I hg hm hv ?_ hn hdb)
 exact PyProof.Rows.callWith_type1 (thn (ha pos pins s σ H _ I h) fun us s1 hsl34=>by obtain ⟨vs,H1,I1,r1,q1⟩:=hsl34;exact hc pins s1 σ H1 vs us Q I1 r1 q1) he hpl
end
end L2
namespace HT
open PySem PyProof.Rows
section
open PySem.SeqAt
open PySem.AutoSeq1 (wpAny_loadPart')
open PySem.MeetsSeq PySem.MeetsSeq2 PySem.MeetsSeq3
end
section
variable {prog:Program} {w:World} {A:Around} {E:Value->Shared->Prop} {s:Shared}
theorem cat_tup {t b:Addr} {vs ws:List Value} {Q:Value->Shared->Prop} (ht:IsTup s.heap t vs.toArray) (hb:IsTup s.heap b ws.toArray) (hv:vs≠[])
  (h1:ws=[]->Q (.ref t) s) (h2:ws≠[]->Q (.ref s.heap.objs.size) { s with heap:=s.heap.push { cls:=.type "tuple",data:=.seq (vs++ws).toArray } })
  (hsz:vs.length+ws.length<=sizeLine):wpAny (model prog w) A (binaryOp .Add (.ref t) (.ref b)) Q E s:=by
 obtain ⟨⟨cls,dd,data,sl⟩,ho,hc,n,hd⟩:=id ht
 obtain ⟨⟨cls2,dd2,data2,sl2⟩,ho2,hc2,n2,hd2⟩:=id hb
 simp only at hc hd hc2 hd2
 subst hc hd hc2 hd2
 have e:vs.toArray++ws.toArray=(vs++ws).toArray:=by simp
 by_cases hw:ws=[]
 ·exact concat_meets ⟨_,ho,rfl⟩ ⟨_,ho2,rfl⟩ noFill_tuple_add seq_tuple_add PySem.F.slot_tuple_add PySem.F.entry_tuple_add (PySem.F.args_tuple_add_2 _ _)
   (tuple_addW1 t b vs.toArray ws.toArray n n2 dd dd2 sl sl2 (by simpa using hv) (by simp [hw])) ⟨ho,ho2,h1 hw⟩
 ·refine concat_meets ⟨_,ho,rfl⟩ ⟨_,ho2,rfl⟩ noFill_tuple_add seq_tuple_add PySem.F.slot_tuple_add PySem.F.entry_tuple_add (PySem.F.args_tuple_add_2 _ _)
   (tuple_addW2 t b vs.toArray ws.toArray n n2 dd dd2 sl sl2 (by simpa using hv) (by simpa using hw) (by rw [Qm,Qm];exact hsz)) ⟨ho,ho2,?_⟩
  rw [e]
  exact h2 hw
noncomputable def sIx (n d:Nat):Option Int->Nat
 | none=>d
 | some v=>if v<0 then (v+(n:Int)).toNat else min v.toNat n
theorem sIx_le (n d:Nat) (hd:d<=n) (o:Option Int):sIx n d o<=n:=by
 cases o with
 | none=>exact hd
 | some v =>
  show (if v<0 then (v+(n:Int)).toNat else min v.toNat n)<=n
  by_cases hv:v<0
  ·rw [if_pos hv];omega
  ·rw [if_neg hv];exact Nat.min_le_right _ _
theorem clip_eq (v:Int) (n d:Nat):(if v<0 then max (v+(n:Int)) 0 else min v (n:Int))=((sIx n d (some v):Nat):Int):=by
 show (if v<0 then max (v+(n:Int)) 0 else min v (n:Int))=(((if v<0 then (v+(n:Int)).toNat else min v.toNat n):Nat):Int)
 by_cases hv:v<0
 ·simp only [if_pos hv];omega
 ·simp only [if_neg hv];omega
theorem adjust_gen (lo hi:Option Int) (n:Nat):Builtin.Slice.sliceAdjust lo hi 1 (n:Int)=(((sIx n 0 lo:Nat):Int),((sIx n n hi:Nat):Int)):=by
 have h1:¬ ((1:Int)<0):=by omega
 unfold Builtin.Slice.sliceAdjust
 simp only [h1,if_false]
 refine Prod.ext ?_ ?_
 ·cases lo with
  | none=>rfl
  | some v=>exact clip_eq v n 0
 ·cases hi with
  | none=>rfl
  | some v=>exact clip_eq v n n
theorem places_gen (i j:Nat):Builtin.Slice.slicePlaces (i:Int) (j:Int) 1=j-i:=by
 unfold Builtin.Slice.slicePlaces
 have h1:(1:Int)>0:=by omega
 simp only [h1,if_true,Int.ediv_one]
 split<;>omega
theorem slicePart_ {v:Value} {o:Option Int} {Q:Option Int->Shared->Prop} (p:IsPart v o) (h:Q o s):wpAny (model prog w) A (Builtin.Slice.slicePartIndex v) Q E s:=by
 cases p with
 | none=>exact slicePart_none h
 | int i t=>exact slicePart_int h
theorem sliceApplied_gen {sl:Addr} {vl vu:Value} {lo hi:Option Int} {n:Nat} {Q:Int × Int × Nat->Shared->Prop} (hs:s.heap.IsSliceOf sl vl vu .none) (pl:IsPart vl lo) (pu:IsPart vu hi)
  (h:Q (((sIx n 0 lo:Nat):Int),1,sIx n n hi-sIx n 0 lo) s):wpAny (model prog w) A (Builtin.Slice.sliceApplied (.ref sl) (pure (n:Int))) Q E s:=by
 obtain ⟨os,hos,hcs,hds⟩:=id hs
 unfold Builtin.Slice.sliceApplied Builtin.Slice.sliceFields
 refine Qa (Qa (wpAny_field hos hds (x:=vl) rfl (Qa (wpAny_field hos hds (x:=vu) rfl (Qa (wpAny_field hos hds (x:=.none) rfl (Qc ?_)))))))
 refine Qa (slicePart_none ?_)
 show wpAny _ _ (if ((1:Int) == 0)=true then _ else _) _ _ s
 rw [if_neg (by decide)]
 refine Qa (slicePart_ pl (Qa (slicePart_ pu (Qa (Qc ?_)))))
 show wpAny _ _ (match Builtin.Slice.sliceAdjust lo hi 1 (n:Int) with | (lo,hi)=>pure (lo,(1:Int),Builtin.Slice.slicePlaces lo hi 1)) _ _ s
 rw [adjust_gen lo hi n]
 show wpAny _ _ (pure (((sIx n 0 lo:Nat):Int),(1:Int),Builtin.Slice.slicePlaces ((sIx n 0 lo:Nat):Int) ((sIx n n hi:Nat):Int) 1)) _ _ s
 rw [places_gen]
 exact Qc h
theorem pick_gen (xs:Array Value) (i k:Nat):((List.range k).filterMap fun (m:Nat)=>xs[((i:Int)+(m:Int)*1).toNat]?).toArray=((xs.toList.drop i).take k).toArray:=by
 have e:(fun (m:Nat)=>xs[((i:Int)+(m:Int)*1).toNat]?)=fun m=>xs[i+m]?:=by
  funext m
  have:((i:Int)+(m:Int)*1).toNat=i+m:=by omega
  rw [this]
 rw [e]
 have:=pick_run xs i k
 rw [List.filterMap_map] at this
 have e2:((fun x=>xs[x]?)∘fun x=>i+x)=fun m=>xs[i+m]?:=rfl
 rw [e2] at this
 rw [this]
theorem getItem_tuple_cut {t sl:Addr} {items:Array Value} {vl vu:Value} {lo hi:Option Int} {Q:Value->Shared->Prop} (ht:IsTup s.heap t items) (hs:s.heap.IsSliceOf sl vl vu .none) (pl:IsPart vl lo) (pu:IsPart vu hi)
  (hw:¬ (sIx items.size 0 lo=0/\sIx items.size items.size hi=items.size))
  (h:Q (.ref s.heap.objs.size) { s with heap:=s.heap.push { cls:=.type "tuple",data:=.seq ((items.toList.drop (sIx items.size 0 lo)).take (sIx items.size items.size hi-sIx items.size 0 lo)).toArray } })
  (hsz:items.size<=sizeLine):wpAny (model prog w) A (getItem (.ref t) (.ref sl)) Q E s:=by
 have htake:sizeOk (.seq ((items.toList.drop (sIx items.size 0 lo)).take (sIx items.size items.size hi-sIx items.size 0 lo)).toArray):=by
  show ((items.toList.drop (sIx items.size 0 lo)).take (sIx items.size items.size hi-sIx items.size 0 lo)).toArray.size<=sizeLine
  rw [Qm,Qv,List.length_drop,QD]
  omega
 have hj:sIx items.size items.size hi<=items.size:=sIx_le _ _ (Qf _) hi
 obtain ⟨os,hos,hcs,hds⟩:=id hs
 have hTs:s.TypeIs (.ref sl) "slice":=⟨os,hos,hcs⟩
 unfold getItem
 try with_reducible refine wpAny_holding ?_
 first | refine Qa (Qc ?_) | skip
 refine Qa (wpAny_sequenceKey ht.typeIs (by decide) ?_)
 refine Qa (wpAny_callSpecial?_slot (name:=Str.ofString "__getitem__") ht.typeIs PyProof.Rows.slot_tuple_getitem
  (wpAny_call_entry PyProof.Rows.slot_tuple_getitem ht.typeIs entry_tuple_getitem ?_ (args_tuple_getitem _ _)))
 show wpAny _ _ (Builtin.Tuple.tupleItemsOf (.ref t) >>= _) _ _ s
 refine Qa (tupleItemsOf_ ht ?_)
 refine Qa (wpAny_typeOf hTs ?_)
 rw [if_pos (by decide)]
 refine Qa (sliceApplied_gen hs pl pu ?_)
 have hno:¬ ((((sIx items.size 0 lo:Nat):Int) == 0&&(1:Int) == 1&&(sIx items.size items.size hi-sIx items.size 0 lo) == items.size)=true):=by
  intro q
  rw [Bool.and_eq_true,Bool.and_eq_true] at q
  have q1:((sIx items.size 0 lo:Nat):Int)=0:=eq_of_beq q.1.1
  have q2:sIx items.size items.size hi-sIx items.size 0 lo=items.size:=eq_of_beq q.2
  exact hw ⟨by omega,by omega⟩
 show wpAny _ _ (if (((sIx items.size 0 lo:Nat):Int) == 0&&(1:Int) == 1&&(sIx items.size items.size hi-sIx items.size 0 lo) == items.size)=true then _ else _) _ _ s
 rw [if_neg hno,pick_gen]
 first
  | exact Qa (m:=Builtin.Tuple.tupleExact _) (wpAny_newObj_type (Qc ⟨_,rfl,Qc h⟩) htake)
  | exact Qa (m:=Builtin.Tuple.tupleExact _) (wpAny_newObj_type (Qa (Qc (Qc ⟨_,rfl,Qc h⟩))) htake)
  | exact Qa (Qa (m:=Builtin.Tuple.tupleExact _) (wpAny_newObj_type (Qc (Qc ⟨_,rfl,Qc h⟩)) htake))
  | exact Qa (Qa (m:=Builtin.Tuple.tupleExact _) (wpAny_newObj_type (Qc ⟨_,rfl,Qc h⟩) htake))
end
end HT
namespace L2
open PySem PySem.Spec PyProof.Rows
noncomputable abbrev TO:=St->Hp->(Option Int->Hp->Prop)->Prop
noncomputable def PO (X:Cx) (e:Option Expr) (t:TO):Prop :=
 ∀ (pins:List (Addr × Obj)) (s:Shared) (σ:St) (H:Hp) (Q:Option Int->Hp->Prop),Inv X pins σ H s->t σ H Q ->
  wpAny (model X.prog X.w) X.A (evalPart e X.env) (fun u s'=>∃ o H',Inv X pins σ H' s'/\IsPart u o/\Q o H') X.xe s
noncomputable def tNoPart:TO:=fun _ H Q=>Q none H
noncomputable def tPart (t:TE):TO:=fun σ H Q=>t σ H fun x H1=>∃ i,x=.int i/\Q (some i) H1
section
variable {X:Cx} {e:Expr} {te:TE} {lo hi:Option Expr} {tl th:TO} {pos p2:Pos}
theorem po_none:PO X none tNoPart:=by
 intro pins s σ H Q I h
 rw [evalPart_none]
 exact Qc ⟨none,H,I,.none,h⟩
theorem po_some (h:PE X e te):PO X (some e) (tPart te):=by
 intro pins s σ H Q I hw
 rw [evalPart_some]
 refine thn (h pins s σ H _ I hw) fun u s1 hsl35=>?_
 obtain ⟨x,H1,I1,r1,q1⟩:=hsl35
 obtain ⟨i,rfl,q⟩:=q1
 obtain ⟨t,rfl⟩:=r1
 exact ⟨some i,H1,I1,.int i t,q⟩
noncomputable def SlR (X:Cx) (r:V->Option Int->Option Int->Hp->VK->Prop):Prop :=
 ∀ (pins:List (Addr × Obj)) (s:Shared) (σ:St) (H:Hp) (x:V) (v vl vu:Value) (lo hi:Option Int) (sl:Addr) (Q:VK),Inv X pins σ H s->RelV x v->s.heap.IsSliceOf sl vl vu .none->IsPart vl lo->IsPart vu hi->r x lo hi H Q ->
  ∃ T id,typeLookup (.type T) "__getitem__"=pure (some (.builtin id))/\s.TypeIs v T/\wpAny (model X.prog X.w) X.A (getItem v (.ref sl)) (EP X pins σ Q) X.xe s
theorem SlR.or {r r':V->Option Int->Option Int->Hp->VK->Prop} (h:SlR X r) (h':SlR X r'):SlR X (fun x lo hi H Q=>r x lo hi H Q∨r' x lo hi H Q):=by
 intro pins s σ H x v vl vu lo hi sl Q I rx hs pl pu q
 rcases q with q | q
 ·exact h pins s σ H x v vl vu lo hi sl Q I rx hs pl pu q
 ·exact h' pins s σ H x v vl vu lo hi sl Q I rx hs pl pu q
noncomputable def tSl (r:V->Option Int->Option Int->Hp->VK->Prop) (te:TE) (tl th:TO):TE:=fun σ H Q=>te σ H fun x H1=>tl σ H1 fun l H2=>th σ H2 fun u H3=>r x l u H3 Q
theorem pe_slice {r:V->Option Int->Option Int->Hp->VK->Prop} (hr:SlR X r) (he:PE X e te) (hl:PO X lo tl) (hu:PO X hi th):PE X (.Subscript e (.Slice lo hi none p2) pos) (tSl r te tl th):=by
 intro pins s σ H Q I h
 refine Subscript_ (thn (he pins s σ H _ I h) fun v s1 hsl36=>?_)
 obtain ⟨x,H1,I1,r1,q1⟩:=hsl36
 refine wpAny_Slice (thn (hl pins s1 σ H1 _ I1 q1) fun vl s2 ⟨l,H2,I2,pl,q2⟩=>thn (hu pins s2 σ H2 _ I2 q2) fun vu s3 hsl37=>?_)
 obtain ⟨u,H3,I3,pu,q3⟩:=hsl37
 rw [evalPart_none]
 refine Qc ?_
 have I4:Inv X pins σ H3 { s3 with heap:=s3.heap.push { cls:=.type "slice",data:=.fields #[vl,vu,.none] } }:=I3.kept (t':=s3.toks) fun b ob q=>Qd _ q
 obtain ⟨T,id,hT,ht,hg⟩:=hr pins { s3 with heap:=s3.heap.push { cls:=.type "slice",data:=.fields #[vl,vu,.none] } } σ H3 x v vl vu l u s3.heap.objs.size Q I4 r1 (Heap.IsSliceOf.new ..) pl pu q3
 show wpAny (model X.prog X.w) X.A (subscriptTail e (.Slice lo hi none p2) v (.ref s3.heap.objs.size)) (EP X pins σ Q) X.xe { s3 with heap:=s3.heap.push { cls:=.type "slice",data:=.fields #[vl,vu,.none] } }
 exact tail_any (ops:=[.ref s3.heap.objs.size,v]) ht hT hg (by with_unfolding_all rfl)
noncomputable def cutV (xs:List V) (lo hi:Option Int):List V:=(xs.drop (HT.sIx xs.length 0 lo)).take (HT.sIx xs.length xs.length hi-HT.sIx xs.length 0 lo)
theorem cutV_length (xs:List V) (lo hi:Option Int):(cutV xs lo hi).length<=xs.length:=by
 unfold cutV
 rw [Qv,List.length_drop]
 omega
noncomputable def rSlT (K:PySem.W.Frag):V->Option Int->Option Int->Hp->VK->Prop:=fun x lo hi H Q=>∃ a xs,x=.ref a/\SqT K H a xs /\
 ¬ (HT.sIx xs.length 0 lo=0/\HT.sIx xs.length xs.length hi=xs.length)/\∀ p,H p=none->Q (.ref p) (upd H p (.tup (cutV xs lo hi)))
theorem sl_tup:SlR X (rSlT X.K):=by
 intro pins s σ H x v vl vu lo hi sl Q I rx hs pl pu h
 obtain ⟨a,xs,rfl,hx,hw,q⟩:=h
 cases rx
 obtain ⟨its,r,ht,hz⟩:=I.tuple hx
 have hlen:its.toArray.size=xs.length:=by rw [Qm];exact r.length.symm
 refine ⟨"tuple",_,PyProof.Rows.slot_tuple_getitem.lookup,ht.typeIs,?_⟩
 refine HT.getItem_tuple_cut ht hs pl pu (by rw [hlen];exact hw) ?_ (by rw [hlen];exact hz)
 rw [hlen]
 refine ⟨.ref s.heap.objs.size,_,I.laid (t':=s.toks) (o:=.tup (cutV xs lo hi)) (fun b ob q=>Qd _ q) (Qf _) ?_,rfl,q _ (I.hok.fresh (Qf _))⟩
 exact ⟨QE (cutV_length xs lo hi) hz,_,(r.drop (HT.sIx xs.length 0 lo)).take (HT.sIx xs.length xs.length hi-HT.sIx xs.length 0 lo),IsTup.new _ _⟩
noncomputable def rCatT (K:PySem.W.Frag):R2:=fun x y H Q=>∃ a b xs ys,x=.ref a/\y=.ref b/\SqT K H a xs/\SqT K H b ys/\xs≠[]/\xs.length+ys.length<=sizeLine /\
 (ys=[]->Q (.ref a) H)/\(ys≠[]->∀ p,H p=none->Q (.ref p) (upd H p (.tup (xs++ys))))
theorem Vals.nil_iff {xs:List V} {us:List Value} (r:Vals xs us):us=[]↔xs=[]:=by
 cases r with
 | nil=>simp
 | cons _ _=>simp
theorem op_catT:OpR X (binaryOp .Add) (rCatT X.K):=by
 intro pins s σ H x y v u Q I rx ry h
 obtain ⟨a,b,xs,ys,rfl,rfl,ha,hb,hx,hz,q1,q2⟩:=h
 cases rx
 cases ry
 obtain ⟨its,r1,p1,_⟩:=I.tuple ha
 obtain ⟨its2,r2,p2,_⟩:=I.tuple hb
 refine HT.cat_tup p1 p2 (fun z=>hx (r1.nil_iff.mp z)) (fun z=>⟨.ref a,H,I,rfl,q1 (r2.nil_iff.mp z)⟩) (fun z=>?_) (by rw [<- r1.length,<- r2.length];exact hz)
 refine ⟨.ref s.heap.objs.size,_,I.laid (t':=s.toks) (o:=.tup (xs++ys)) (fun b ob q=>Qd _ q) (Qf _) ?_,rfl,q2 (fun w=>z (r2.nil_iff.mpr w)) _ (I.hok.fresh (Qf _))⟩
 exact ⟨by rw [QB];exact hz,_,r1.append r2,IsTup.new _ _⟩
end
end L2
namespace L2
open PySem PySem.Spec PyProof.Rows
noncomputable def ixN (n:Nat) (i:Int):Option Nat:=if 0<=i then (if i<n then some i.toNat else none) else if -(n:Int)<=i then some (i+n).toNat else none
noncomputable def atI {α:Type} (xs:List α) (i:Int):Option α:=(ixN xs.length i).bind fun j=>xs[j]?
theorem ixN_seq {n:Nat} {i:Int} {j:Nat} (h:ixN n i=some j):seqIndex? i n=some j/\j<n/\-(n:Int)<=i/\i<n:=by
 unfold ixN at h
 by_cases h0:0<=i
 ·rw [if_pos h0] at h
  by_cases h1:i<n
  ·rw [if_pos h1] at h
   have e:i.toNat=j:=Qr h
   exact ⟨by rw [seqIndex_of h0 h1,e],by omega,by omega,h1⟩
  ·rw [if_neg h1] at h;cases h
 ·rw [if_neg h0] at h
  by_cases h1:-(n:Int)<=i
  ·rw [if_pos h1] at h
   have e:(i+n).toNat=j:=Qr h
   exact ⟨by rw [seqIndex_neg (by omega) h1,e],by omega,h1,by omega⟩
  ·rw [if_neg h1] at h;cases h
theorem atI_get {α:Type} {xs:List α} {i:Int} {v:α} (h:atI xs i=some v):∃ j,seqIndex? i xs.length=some j/\xs[j]?=some v/\j<xs.length/\-(xs.length:Int)<=i/\i<xs.length:=by
 unfold atI at h
 cases e:ixN xs.length i with
 | none=>rw [e] at h;cases h
 | some j =>
  rw [e] at h
  obtain ⟨h1,h2,h3,h4⟩:=ixN_seq e
  exact ⟨j,h1,h,h2,h3,h4⟩
theorem atI_nat {α:Type} {xs:List α} {j:Nat} {v:α} (h:xs[j]?=some v):atI xs (j:Int)=some v:=by
 have hj:j<xs.length:=(Qh h).1
 have e:ixN xs.length (j:Int)=some j:=by
  unfold ixN
  rw [if_pos (by omega),if_pos (by omega)];simp
 unfold atI;rw [e];exact h
theorem atI_last {α:Type} (xs:List α) (v:α):atI (xs++[v]) (-1)=some v:=by
 have hl:(xs++[v]).length=xs.length+1:=by simp
 have e:ixN (xs++[v]).length (-1)=some xs.length:=by
  unfold ixN
  rw [hl,if_neg (by decide),if_pos (by omega)]
  congr 1
  omega
 unfold atI
 rw [e]
 show (xs++[v])[xs.length]?=some v
 simp
noncomputable def PlainIx (b:Expr):Prop:=∀ o i,subscripted b false o i=operate [o,i] (getItem o i)
noncomputable def IxR (X:Cx) (r:R2):Prop :=
 ∀ (value slice:Expr) (pins:List (Addr × Obj)) (s:Shared) (σ:St) (H:Hp) (x y:V) (v u:Value) (Q:VK),Inv X pins σ H s->RelV x v->RelV y u->r x y H Q ->
  subscripted slice false v u=operate [v,u] (getItem v u)->wpAny (model X.prog X.w) X.A (subscriptTail value slice v u) (EP X pins σ Q) X.xe s
noncomputable def MtR (X:Cx) (id:String) (r:V->List V->Hp->VK->Prop):Prop :=
 ∀ (pins:List (Addr × Obj)) (s:Shared) (σ:St) (H:Hp) (x:V) (xs:List V) (v:Value) (us:List Value) (Q:VK),Inv X pins σ H s->RelV x v->Vals xs us->r x xs H Q ->
  wpAny (model X.prog X.w) X.A (call (.builtin id) (v::us)) (EP X pins σ Q) X.xe s
section
variable {X:Cx} {a b:Expr} {ta tb:TE} {pos:Pos}
theorem pe_ix {r:R2} (hr:IxR X r) (ha:PE X a ta) (hb:PE X b tb) (hs:PlainIx b):PE X (.Subscript a b pos) (tOp r ta tb):=by
 intro pins s σ H Q I h
 exact Subscript_ (binT ha hb I h fun v u s2 x y H2 I2 rx ry q=>hr a b pins s2 σ H2 x y v u Q I2 rx ry q (hs _ _))
noncomputable def rIxL (K:PySem.W.Frag):R2:=fun x y H Q=>∃ p xs i v,x=.ref p/\y=.int i/\SqL K H p xs/\atI xs i=some v/\Q v H
noncomputable def rIxT (K:PySem.W.Frag):R2:=fun x y H Q=>∃ p xs i v,x=.ref p/\y=.int i/\SqT K H p xs/\atI xs i=some v/\Q v H
noncomputable def rIxS:R2:=fun x y H Q=>∃ z i c,x=.str z/\y=.int i/\z.length<=sizeLine/\atI z.cps.toList i=some c/\Q (.str ⟨#[c]⟩) H
theorem ix_list:IxR X (rIxL X.K):=by
 intro value slice pins s σ H x y v u Q I rx ry h hs
 obtain ⟨p,xs,i,z,rfl,rfl,hq,he,q⟩:=h
 cases rx
 obtain ⟨t,rfl⟩:=ry
 obtain ⟨its,r,pl,hz⟩:=I.list hq
 obtain ⟨j,h1,h2,h3,h4,h5⟩:=atI_get he
 obtain ⟨w,ew,rw'⟩:=r.get h2
 have hl:=r.length
 have hn:=line63
 have fin:EP X pins σ Q w s:=⟨z,H,I,rw',q⟩
 by_cases h0:0<=i
 ·have hj:i.toNat=j:=by
   rw [seqIndex_of h0 h5] at h1
   exact Qr h1
  exact item_listR pl.isList h0 (by omega) (by rw [hj];simpa using ew) fin hs
 ·have hj:(i+(its.toArray.size:Int)).toNat=j:=by
   rw [seqIndex_neg (by omega) h4] at h1
   rw [Qm,<- hl]
   exact Qr h1
  exact subscriptTail_builtinR (x:=w) pl.isList.typeIs slot_list_getitem.lookup
   (wpAny_getItem_list_neg (Q:=fun r s'=>r=w/\EP X pins σ Q r s') pl.isList (by omega) (by rw [Qm]<;>omega) (by omega) (by rw [hj];simpa using ew) ⟨rfl,fin⟩) hs
theorem ix_tup:IxR X (rIxT X.K):=by
 intro value slice pins s σ H x y v u Q I rx ry h hs
 obtain ⟨p,xs,i,z,rfl,rfl,hq,he,q⟩:=h
 cases rx
 obtain ⟨t,rfl⟩:=ry
 obtain ⟨its,r,pl,hz⟩:=I.tuple hq
 obtain ⟨j,h1,h2,h3,h4,h5⟩:=atI_get he
 obtain ⟨w,ew,rw'⟩:=r.get h2
 have hl:=r.length
 have hn:=line63
 have fin:EP X pins σ Q w s:=⟨z,H,I,rw',q⟩
 exact subscriptTail_builtinR (x:=w) pl.typeIs slot_tuple_getitem.lookup
  (getItem_tuple (j:=j) (Q:=fun r s'=>r=w/\EP X pins σ Q r s') pl (by omega) (by omega) (by rw [Qm,<- hl];exact h1) (by simpa using ew) ⟨rfl,fin⟩) hs
theorem ix_str:IxR X rIxS:=by
 intro value slice pins s σ H x y v u Q I rx ry h hs
 obtain ⟨z,i,c,rfl,rfl,hz,he,q⟩:=h
 obtain ⟨t,rfl⟩:=rx
 obtain ⟨t',rfl⟩:=ry
 obtain ⟨j,h1,h2,h3,h4,h5⟩:=atI_get he
 have hl:z.cps.toList.length=z.length:=by simp [Str.length]
 rw [hl] at h1 h4 h5
 have hn:=line63
 exact tail_any (typeIs_str s z t) slot_str_getitem.lookup (getItem_str (c:=c) (by
  have e1:decide (i < -(2 ^ 63:Int))=false:=Qj (by omega)
  have e2:decide (i ≥ 2 ^ 63)=false:=Qj (by omega)
  rw [e1,e2,Bool.or_false]) (by rw [h1];simpa using h2) ⟨.str ⟨#[c]⟩,H,I.tok _,⟨_,rfl⟩,q⟩) hs
theorem slice_bounds (lo hi:Option Int) (n:Nat):(sliceBounds lo hi none n).1=((HT.sIx n 0 lo:Nat):Int)/\(sliceBounds lo hi none n).2.1=((HT.sIx n n hi:Nat):Int)/\(sliceBounds lo hi none n).2.2=1:=by
 refine ⟨?_,?_,rfl⟩
 ·cases lo with
  | none=>simp [sliceBounds,HT.sIx]
  | some i =>
   simp only [sliceBounds,HT.sIx,Option.getD_none,show (1:Int)>0 by decide,if_true]
   by_cases h:i<0
   ·simp only [h,if_true]<;>omega
   ·simp only [h,if_false]<;>omega
 ·cases hi with
  | none=>simp [sliceBounds,HT.sIx]
  | some i =>
   simp only [sliceBounds,HT.sIx,Option.getD_none,show (1:Int)>0 by decide,if_true]
   by_cases h:i<0
   ·simp only [h,if_true]<;>omega
   ·simp only [h,if_false]<;>omega
theorem slicePick_cut (its:List Value) (lo hi:Option Int):slicePick its.toArray lo hi none=((its.drop (HT.sIx its.length 0 lo)).take (HT.sIx its.length its.length hi-HT.sIx its.length 0 lo)).toArray:=by
 obtain ⟨h1,h2,h3⟩:=slice_bounds lo hi its.toArray.size
 unfold slicePick
 rw [h1,h2,h3]
 simp only [sliceRange_one,pick_run,Qm]<;>rfl
noncomputable def rSlL (K:PySem.W.Frag):V->Option Int->Option Int->Hp->VK->Prop:=fun x lo hi H Q=>∃ a xs,x=.ref a/\SqL K H a xs/\∀ p,H p=none->Q (.ref p) (upd H p (.lst (cutV xs lo hi)))
theorem sl_list:SlR X (rSlL X.K):=by
 intro pins s σ H x v vl vu lo hi sl Q I rx hs pl pu h
 obtain ⟨a,xs,rfl,hx,q⟩:=h
 cases rx
 obtain ⟨its,r,ht,hz⟩:=I.list hx
 have hlen:=r.length
 refine ⟨"list",_,slot_list_getitem.lookup,ht.isList.typeIs,?_⟩
 refine wpAny_getItem_list_slice ht.isList hs pl pu .none (by simp) ?_ (by rw [Qm]<;>omega)
 rw [slicePick_cut,<- hlen]
 refine ⟨.ref s.heap.objs.size,_,I.laid (t':=s.toks) (o:=.lst (cutV xs lo hi)) (fun b ob q=>Qd _ q) (Qf _) ?_,rfl,q _ (I.hok.fresh (Qf _))⟩
 exact ⟨QE (cutV_length xs lo hi) hz,_,0,(r.drop (HT.sIx xs.length 0 lo)).take (HT.sIx xs.length xs.length hi-HT.sIx xs.length 0 lo),Qo _ rfl⟩
noncomputable def flatV:V->Bool
 | .non=>true
 | .bl _=>true
 | .int _=>true
 | .str _=>true
 | _=>false
noncomputable def eqV:V->V->Bool
 | .non,.non=>true
 | .bl a,.bl b=>a == b
 | .bl a,.int b=>(if a then 1 else 0) == b
 | .int a,.bl b=>a == (if b then 1 else 0)
 | .int a,.int b=>a == b
 | .str a,.str b=>a == b
 | _,_=>false
theorem eqAt_V {A:Around} {s:Shared} {y x:V} {u v:Value} (ry:RelV y u) (rx:RelV x v) (fy:flatV y=true) (fx:flatV x=true):SeqAt.EqAt A s u v (eqV y x):=by
 cases y with
 | non =>
  cases ry
  cases x with
  | non=>cases rx;exact SeqAt.EqAt.same _
  | bl b=>cases rx;exact SeqAt.EqAt.none_bool b
  | int b=>obtain ⟨t,rfl⟩:=rx;exact SeqAt.EqAt.none_int b t
  | str b=>obtain ⟨t,rfl⟩:=rx;exact SeqAt.EqAt.none_str b t
  | _=>exact absurd (show false=true from fx) Bool.false_ne_true
 | bl a =>
  cases ry
  cases x with
  | non=>cases rx;exact SeqAt.EqAt.bool_none a
  | bl b=>cases rx;exact SeqAt.EqAt.bool_bool a b
  | int b=>obtain ⟨t,rfl⟩:=rx;exact SeqAt.EqAt.bool_int a b t
  | str b=>obtain ⟨t,rfl⟩:=rx;exact SeqAt.EqAt.bool_str a b t
  | _=>exact absurd (show false=true from fx) Bool.false_ne_true
 | int a =>
  obtain ⟨t',rfl⟩:=ry
  cases x with
  | non=>cases rx;exact SeqAt.EqAt.int_none a t'
  | bl b=>cases rx;exact SeqAt.EqAt.int_bool a t' b
  | int b=>obtain ⟨t,rfl⟩:=rx;exact SeqAt.EqAt.int_int a t' b t
  | str b=>obtain ⟨t,rfl⟩:=rx;exact SeqAt.EqAt.int_str a t' b t
  | _=>exact absurd (show false=true from fx) Bool.false_ne_true
 | str a =>
  obtain ⟨t',rfl⟩:=ry
  cases x with
  | non=>cases rx;exact SeqAt.EqAt.str_none a t'
  | bl b=>cases rx;exact SeqAt.EqAt.str_bool a t' b
  | int b=>obtain ⟨t,rfl⟩:=rx;exact SeqAt.EqAt.str_int a t' b t
  | str b=>obtain ⟨t,rfl⟩:=rx;exact SeqAt.EqAt.str_str a t' b t
  | _=>exact absurd (show false=true from fx) Bool.false_ne_true
 | _=>exact absurd (show false=true from fy) Bool.false_ne_true
noncomputable def eqU (x:V) (u:Value):Bool:=match u with
 | .none=>eqV .non x
 | .bool b=>eqV (.bl b) x
 | .int i _=>eqV (.int i) x
 | .str z _=>eqV (.str z) x
 | _=>false
theorem eqU_of {x y:V} {u:Value} (r:RelV y u) (f:flatV y=true):eqU x u=eqV y x:=by
 cases y with
 | non=>cases r;rfl
 | bl b=>cases r;rfl
 | int i=>obtain ⟨t,rfl⟩:=r;rfl
 | str z=>obtain ⟨t,rfl⟩:=r;rfl
 | _=>exact absurd (show false=true from f) Bool.false_ne_true
theorem any_eqU {x:V}:∀ {xs:List V} {us:List Value},Vals xs us->xs.all flatV=true->us.any (eqU x)=xs.any fun y=>eqV y x
 | _,_,.nil,_=>rfl
 | y::xs,u::us,.cons r t,f=>by
  rw [List.all_cons,Bool.and_eq_true] at f
  rw [List.any_cons,List.any_cons,eqU_of r f.1,any_eqU t f.2]
theorem mem_eqAt {A:Around} {s:Shared} {x:V} {v:Value} (rx:RelV x v) (fx:flatV x=true):∀ {xs:List V} {us:List Value},Vals xs us->xs.all flatV=true->∀ u∈us,SeqAt.EqAt A s u v (eqU x u)
 | _,_,.nil,_=>fun u hu=>by cases hu
 | y::xs,u::us,.cons r t,f=>fun u' hu=>by
  rw [List.all_cons,Bool.and_eq_true] at f
  rcases Qn hu with rfl | hu
  ·rw [eqU_of r f.1];exact eqAt_V r rx f.1 fx
  ·exact mem_eqAt rx fx t f.2 u' hu
noncomputable def inV (x:V) (xs:List V):Bool:=xs.any fun y=>eqV y x
noncomputable def rIn (K:PySem.W.Frag) (neg:Bool):R2:=fun x y H Q=>∃ p xs,y=.ref p/\(SqL K H p xs∨SqT K H p xs)/\flatV x=true/\xs.all flatV=true/\Q (.bl (if neg then !inV x xs else inV x xs)) H
theorem op_in_seq:OpR X (compareOp .In) (rIn X.K false):=by
 intro pins s σ H x y v u Q I rx ry h
 obtain ⟨p,xs,rfl,hq,fx,fs,q⟩:=h
 cases ry
 rcases hq with hq | hq
 ·obtain ⟨its,r,pl,hz⟩:=I.list hq
  refine SeqAt.in_listAt (eqU x) pl.isList (fun w hw=>mem_eqAt rx fx r fs w (by simpa using hw)) ⟨.bl _,H,I,rfl,?_⟩
  rw [show its.toArray.any (eqU x)=its.any (eqU x) by simp,any_eqU r fs]
  exact q
 ·obtain ⟨its,r,pl,hz⟩:=I.tuple hq
  refine SeqAt.in_tupleAt (eqU x) pl (fun w hw=>mem_eqAt rx fx r fs w (by simpa using hw)) ⟨.bl _,H,I,rfl,?_⟩
  rw [show its.toArray.any (eqU x)=its.any (eqU x) by simp,any_eqU r fs]
  exact q
theorem op_notIn_seq:OpR X (compareOp .NotIn) (rIn X.K true):=by
 intro pins s σ H x y v u Q I rx ry h
 obtain ⟨p,xs,rfl,hq,fx,fs,q⟩:=h
 cases ry
 rcases hq with hq | hq
 ·obtain ⟨its,r,pl,hz⟩:=I.list hq
  refine SeqAt.notIn_listAt (eqU x) pl.isList (fun w hw=>mem_eqAt rx fx r fs w (by simpa using hw)) ⟨.bl _,H,I,rfl,?_⟩
  rw [show its.toArray.any (eqU x)=its.any (eqU x) by simp,any_eqU r fs]
  exact q
 ·obtain ⟨its,r,pl,hz⟩:=I.tuple hq
  refine SeqAt.notIn_tupleAt (eqU x) pl (fun w hw=>mem_eqAt rx fx r fs w (by simpa using hw)) ⟨.bl _,H,I,rfl,?_⟩
  rw [show its.toArray.any (eqU x)=its.any (eqU x) by simp,any_eqU r fs]
  exact q
theorem call_len_seq:CallR X (.builtin "len") (fun xs H Q=>∃ p ys,xs=[.ref p]/\(SqL X.K H p ys∨SqT X.K H p ys)/\Q (.int ys.length) H):=by
 intro pins s σ H xs us Q I r h
 obtain ⟨p,ys,rfl,hq,q⟩:=h
 obtain ⟨u,rfl,rx⟩:=vals1 r
 cases rx
 have hn:=line63
 rcases hq with hq | hq
 ·obtain ⟨its,r',pl,hz⟩:=I.list hq
  have hlen:=r'.length
  exact Calls.call_len_list pl.isList (by simp only [Qm]<;>omega) ⟨.int ys.length,H,I.tok _,⟨s.toks+1,by rw [Qm,hlen]⟩,q⟩
 ·obtain ⟨its,r',pl,hz⟩:=I.tuple hq
  have hlen:=r'.length
  exact len_tuple pl (by simp only [Qm]<;>omega) ⟨.int ys.length,H,I.tok _,⟨s.toks+1,by rw [Qm,hlen]⟩,q⟩
theorem call_len_str:CallR X (.builtin "len") (fun xs H Q=>∃ z,xs=[.str z]/\z.length<=sizeLine/\Q (.int z.length) H):=by
 intro pins s σ H xs us Q I r h
 obtain ⟨z,rfl,hz,q⟩:=h
 obtain ⟨u,rfl,t,rfl⟩:=vals1 r
 have hn:=line63
 exact len_str (by omega) ⟨.int z.length,H,I.tok _,⟨_,rfl⟩,q⟩
theorem call_tuple_of:CallR X (.type "tuple") (fun xs H Q=>∃ p ys,xs=[.ref p]/\((SqL X.K H p ys/\∀ l,H l=none->Q (.ref l) (upd H l (.tup ys)))∨(SqT X.K H p ys/\Q (.ref p) H))):=by
 intro pins s σ H xs us Q I r h
 obtain ⟨p,ys,rfl,h⟩:=h
 obtain ⟨u,rfl,rx⟩:=vals1 r
 cases rx
 rcases h with ⟨hq,q⟩ | ⟨hq,q⟩
 ·obtain ⟨its,r',pl,hz⟩:=I.list hq
  have hlen:=r'.length
  refine call_tuple_list pl.isList (fun h' kp=>?_) (by simp only [Qm]<;>omega)
  have I1:Inv X pins σ H { s with heap:=h' }:=I.kept (t':=s.toks) kp
  have I2:Inv X pins σ (upd H h'.objs.size (.tup ys)) { s with heap:=h'.push { cls:=.type "tuple",data:=.seq its.toArray } } :=
   I1.laid (t':=s.toks) (fun b o e=>Qd _ e) (Qf _) (show ObjOk X.prog X.w _ _ _ (.tup ys) from ⟨hz,its,r',IsTup.new _ _⟩)
  exact ⟨.ref h'.objs.size,_,I2,rfl,q _ (I1.hok.fresh (Qf _))⟩
 ·obtain ⟨its,r',pl,hz⟩:=I.tuple hq
  exact call_tuple_same pl ⟨.ref p,H,I,rfl,q⟩
noncomputable def tyV (K:PySem.W.Frag) (T:String) (x:V) (H:Hp):Prop:=match x with
 | .str _=>T="str"
 | .int _=>T="int"
 | .ref p=>(T="list"/\∃ xs,SqL K H p xs)∨(T="tuple"/\∃ o,K.lookup p=some o/\o.cls=.type "tuple"/\o.dict=none) ∨
   (T="dict"/\((∃ kvs,H p=some (.dK kvs))∨∃ kvs,H p=some (.dT kvs)))∨(T="set"/\∃ S n,H p=some (.set S n))
 | _=>False
theorem tyV_is {pins:List (Addr × Obj)} {σ:St} {H:Hp} {s:Shared} {T:String} {x:V} {v:Value} (I:Inv X pins σ H s) (r:RelV x v) (ty:tyV X.K T x H) :
  s.TypeIs v T/\∀ a,v=.ref a->∃ ob,s.heap.get? a=some ob/\ob.dict=none:=by
 cases x with
 | str z =>
  obtain ⟨t,rfl⟩:=r
  cases (show T="str" from ty)
  exact ⟨typeIs_str s z t,fun _ e=>nomatch e⟩
 | int i =>
  obtain ⟨t,rfl⟩:=r
  cases (show T="int" from ty)
  exact ⟨typeIs_int s i t,fun _ e=>nomatch e⟩
 | ref p =>
  cases r
  rcases ty with ⟨rfl,xs,hq⟩ | ⟨rfl,o,hk,hc,hd⟩ | ⟨rfl,hk⟩ | ⟨rfl,S,n,hk⟩
  ·obtain ⟨its,_,pl,_⟩:=I.list hq
   refine ⟨pl.isList.typeIs,fun a e=>?_⟩
   cases e
   obtain ⟨o,n,e,c,hd,_⟩:=pl
   exact ⟨o,e,hd⟩
  ·refine ⟨⟨o,I.kIn p o hk,hc⟩,fun a e=>?_⟩
   cases e
   exact ⟨o,I.kIn _ o hk,hd⟩
  ·have z:∃ o,s.heap.get? p=some o/\o.ExactDict:=by
    rcases hk with ⟨kvs,hk⟩ | ⟨kvs,hk⟩
    ·obtain ⟨_,_,_,_,o,_,_,e,ex,_⟩:=I.hok p _ hk
     exact ⟨o,e,ex⟩
    ·obtain ⟨_,_,_,_,o,_,_,e,ex,_⟩:=I.hok p _ hk
     exact ⟨o,e,ex⟩
   obtain ⟨o,e,ex⟩:=z
   refine ⟨⟨o,e,ex.1⟩,fun a e2=>?_⟩
   cases e2
   exact ⟨o,e,ex.2.1⟩
  ·obtain ⟨o,_,_,_,e,ex,_⟩:=I.hok p _ hk
   refine ⟨⟨o,e,ex.1⟩,fun a e2=>?_⟩
   cases e2
   exact ⟨o,e,ex.2.1⟩
 | _=>exact False.elim ty
noncomputable def tBM0 (K:PySem.W.Frag) (T:String) (r:V->List V->Hp->VK->Prop) (to:TE):TE:=fun σ H Q=>to σ H fun x H1=>tyV K T x H1/\r x [] H1 Q
noncomputable def tBM (K:PySem.W.Frag) (T:String) (r:V->List V->Hp->VK->Prop) (to:TE) (t:TA):TE:=fun σ H Q=>to σ H fun x H1=>tyV K T x H1/\t σ H1 fun xs H2=>r x xs H2 Q
variable {o e:Expr} {es:List Expr} {to:TE} {t:TA} {name:Str} {apos cpos:Pos} {T id:String} {r:V->List V->Hp->VK->Prop}
theorem pe_bm0 (pa:PlainAttrs T) (slot:Slot T name id) (hty:typeOf (.builtin id)=pure (.type "method_descriptor")) (hm:MtR X id r) (ho:PE X o to)
  (hbase:attributeBase o name X.env (eval o X.env)=eval o X.env:=by rfl) (hline:(apos.endLine == cpos.line)=true:=by rfl):PE X (.Call (.Attribute o name apos) [] [] cpos) (tBM0 X.K T r to):=by
 intro pins s σ H Q I h
 refine wpAny_Call_method0_late hbase hline (thn (ho pins s σ H _ I h) fun v s1 hsl38=>?_)
 obtain ⟨x,H1,I1,r1,ty,q1⟩:=hsl38
 obtain ⟨h1,h2⟩:=tyV_is I1 r1 ty
 exact ⟨T,id,pa,slot,hty,h1,h2,Calls.callWith_builtin rfl (PySem.evalArgs_none (hm pins s1 σ H1 x [] v [] Q I1 r1 .nil q1))⟩
theorem pe_bm (pa:PlainAttrs T) (slot:Slot T name id) (hty:typeOf (.builtin id)=pure (.type "method_descriptor")) (hm:MtR X id r) (ho:PE X o to) (ha:PA X (e::es) t)
  (hbase:attributeBase o name X.env (eval o X.env)=eval o X.env:=by rfl)
  (hfew:((backTo cpos (starEach (e::es) X.env)).all (fun x=>!x.1)&&(backToKw cpos (keywordEach [] X.env)).all (fun x=>x.1.isSome)
   && decide ((e::es).length+([]:List Keyword).length+(if ([]:List Keyword).isEmpty then 0 else 1)<30))=true:=by rfl)
  (hline:(apos.endLine == cpos.line)=true:=by rfl) (hs:starEach (e::es) X.env=(false,eval e X.env)::starEach es X.env:=by rfl) (hplain:(backTo cpos (starEach es X.env)).any (·.1)=false:=by rfl) :
  PE X (.Call (.Attribute o name apos) (e::es) [] cpos) (tBM X.K T r to t):=by
 intro pins s σ H Q I h
 refine wpAny_Call_method_late hbase hfew hline rfl (thn (ho pins s σ H _ I h) fun v s1 hsl39=>?_)
 obtain ⟨x,H1,I1,r1,ty,q1⟩:=hsl39
 obtain ⟨h1,h2⟩:=tyV_is I1 r1 ty
 refine ⟨T,id,pa,slot,hty,h1,h2,?_⟩
 have hA:=ha cpos pins s1 σ H1 _ I1 q1
 rw [hs] at hA ⊢
 refine Calls.callWith_builtin (by show (false||(backTo cpos (starEach es X.env)).any (·.1))=false;rw [hplain]<;>rfl) (Calls.evalArgs_plain ?_)
 exact thn hA fun us s2 hsl40=>by obtain ⟨vs,H2,I2,r2,q2⟩:=hsl40;exact hm pins s2 σ H2 x vs v us Q I2 r1 r2 q2
end
end L2
namespace L2
open PySem PySem.Spec PyProof.Rows
noncomputable def MtM (X:Cx) (id:String) (r:V->List V->Hp->VK->Prop):Prop :=
 ∀ (pins:List (Addr × Obj)) (s:Shared) (σ:St) (H:Hp) (x:V) (xs:List V) (v:Value) (us:List Value) (Q:VK),Inv X pins σ H s->RelV x v->Vals xs us->r x xs H Q ->
  wpAny (model X.prog X.w) X.A (call (.builtin id) (v::us)) (EP X pins σ Q) X.xe s
theorem Vals.one:∀ {x:V} {us:List Value},Vals [x] us->∃ u,us=[u]/\RelV x u
 | _,_,.cons r .nil=>⟨_,rfl,r⟩
theorem Vals.zero:∀ {us:List Value},Vals [] us->us=[]
 | _,.nil=>rfl
theorem Vals.dropLast {xs:List V} {us:List Value} (h:Vals xs us):Vals xs.dropLast us.dropLast:=by
 induction h with
 | nil=>exact .nil
 | cons r t ih =>
  cases t with
  | nil=>exact .nil
  | cons q t'=>exact .cons r ih
theorem erase_last {α:Type} (l:List α):l.eraseIdx (l.length-1)=l.dropLast:=by
 induction l with
 | nil=>rfl
 | cons a r ih =>
  cases r with
  | nil=>rfl
  | cons b r =>
   have e:(a::b::r).length-1=((b::r).length-1)+1:=by
    have h1:(a::b::r).length=r.length+2:=rfl
    have h2:(b::r).length=r.length+1:=rfl
    omega
   rw [e,List.eraseIdx_cons_succ,ih]
   all_goals rfl
section
variable {X:Cx} {pins:List (Addr × Obj)} {σ:St} {H:Hp} {s:Shared} {l b:Addr} {xs ys zs:List V}
theorem Inv.lset {its its':List Value} {n:Nat} {f:Array Value->Array Value} {t':Nat} (I:Inv X pins σ H s) (hH:H l=some (.lst xs))
  (e:s.heap.get? l=some { cls:=.type "list",data:=.seq its.toArray n }) (hf:f its.toArray=its'.toArray) (hv:Vals ys its') (hz:ys.length<=sizeLine) :
  Inv X pins σ (upd H l (.lst ys)) { s with heap:=s.heap.update l (Obj.mapSeq f),toks:=t' }:=by
 have q:=PySem.IsL.update e f
 rw [hf] at q
 refine I.write (x:=l) (e:=l) (by rw [hH];exact trivial) (.inl rfl) (fun b' u hb hu=>(Heap.get?_update_other s.heap (Obj.mapSeq f) (Ne.symm hb)).trans hu) ⟨_,q⟩ ?_
 exact ⟨hz,its',_,hv,q⟩
theorem Inv.lnew {its:List Value} {t':Nat} (I:Inv X pins σ H s) (hv:Vals ys its) (hz:ys.length<=sizeLine) :
  Inv X pins σ (upd H s.heap.objs.size (.lst ys)) { s with heap:=s.heap.push { cls:=.type "list",data:=.seq its.toArray },toks:=t' } :=
 I.laid (fun _ _ q=>Qd _ q) (Qf _) ⟨hz,its,0,hv,Qo _ rfl⟩
theorem Inv.fresh (I:Inv X pins σ H s):H s.heap.objs.size=none:=I.hok.fresh (Qf _)
theorem Inv.lstM (I:Inv X pins σ H s) (hH:H l=some (.lst xs)):xs.length<=sizeLine/\∃ (its:List Value) (n:Nat),Vals xs its/\xs.length=its.length/\s.heap.get? l=some { cls:=.type "list",data:=.seq its.toArray n }:=by
 obtain ⟨z,its,n,r,e⟩:=I.hok l _ hH
 exact ⟨z,its,n,r,r.length,e⟩
end
section
variable {X:Cx}
noncomputable def rAppend:V->List V->Hp->VK->Prop:=fun x vs H Q=>∃ l xs y,x=.ref l/\vs=[y]/\H l=some (.lst xs)/\xs.length<sizeLine/\Q .non (upd H l (.lst (xs++[y])))
theorem mt_append:MtM X "list.append" rAppend:=by
 intro pins s σ H x vs v us Q I rx rv h
 obtain ⟨l,xs,y,rfl,rfl,hH,hz,q⟩:=h
 cases rx
 obtain ⟨u,rfl,ru⟩:=rv.one
 obtain ⟨z,its,n,r,hl,e⟩:=I.lstM hH
 refine call_meets F.slot_list_append ⟨_,e,rfl⟩ F.entry_list_append (F.args_list_append_2 _ _) (PySem.list_append l its.toArray n u (by rw [Qm];omega)) ⟨e,?_⟩
 refine ⟨.non,_,I.lset (its':=its++[u]) hH e (by simp) (r.append (.cons ru .nil)) ?_,rfl,q⟩
 rw [QB,List.length_singleton]
 omega
noncomputable def rPop:V->List V->Hp->VK->Prop:=fun x vs H Q=>∃ l xs y,x=.ref l/\vs=[]/\H l=some (.lst xs)/\xs[xs.length-1]?=some y/\Q y (upd H l (.lst xs.dropLast))
theorem mt_pop:MtM X "list.pop" rPop:=by
 intro pins s σ H x vs v us Q I rx rv h
 obtain ⟨l,xs,y,rfl,rfl,hH,hy,q⟩:=h
 cases rx
 have hus:=rv.zero
 subst hus
 obtain ⟨z,its,n,r,hl,e⟩:=I.lstM hH
 obtain ⟨u,hu,ru⟩:=r.get hy
 have hy':its.toArray[its.toArray.size-1]?=some u:=by
  show its.toArray[its.length-1]?=some u
  rw [<- Array.getElem?_toList,<- hl]
  exact hu
 refine call_meets F.slot_list_pop ⟨_,e,rfl⟩ F.entry_list_pop (F.args_list_pop_1 _) (MeetsSeq.list_pop_last l its.toArray n u hy' (by rw [Qm];omega)) ⟨e,?_⟩
 refine ⟨y,_,I.lset (its':=its.dropLast) hH e ?_ r.dropLast ?_,ru,q⟩
 ·show its.toArray.eraseIdxIfInBounds (its.toArray.size-1)=its.dropLast.toArray
  rw [Qm,List.eraseIdxIfInBounds_toArray,erase_last]
 ·rw [List.length_dropLast]
  omega
noncomputable def rCat:R2:=fun x y H Q=>∃ l b xs zs,x=.ref l/\y=.ref b/\H l=some (.lst xs)/\H b=some (.lst zs)/\xs.length+zs.length<=sizeLine/\∀ p,H p=none->Q (.ref p) (upd H p (.lst (xs++zs)))
theorem op_cat:OpR X (binaryOp .Add) rCat:=by
 intro pins s σ H x y v u Q I rx ry h
 obtain ⟨l,b,xs,zs,rfl,rfl,hH,hB,hz,q⟩:=h
 cases rx
 cases ry
 obtain ⟨z,its,n,r,hl,e⟩:=I.lstM hH
 obtain ⟨z2,its2,n2,r2,hl2,e2⟩:=I.lstM hB
 refine PySem.P.add_list e e2 ?_ (by rw [Qm,Qm];omega)
 have ea:its.toArray++its2.toArray=(its++its2).toArray:=by simp
 rw [ea]
 exact ⟨.ref _,_,I.lnew (t':=s.toks) (r.append r2) (by rw [QB];omega),rfl,q _ I.fresh⟩
end
section
variable {prog:Program} {w:World} {A:Around} {E:Value->Shared->Prop} {s:Shared}
end
section
variable {X:Cx}
end
end L2
namespace Att
open PySem PySem.W PySem.Calls PyProof.Rows
theorem ints_of_wellAll {P:Params} {h:Heap}:∀ (ns:List Int) (vs:List Value),WellAll P h vs (ns.map WData.int)->IntsAre vs ns:=by
 intro ns
 induction ns with
 | nil =>
  intro vs w
  rw [List.map_nil] at w
  cases w
  exact .nil
 | cons n ns ih =>
  intro vs w
  rw [List.map_cons] at w
  cases w with
  | cons a b =>
   cases a
   exact .cons _ _ (ih _ b)
theorem script_of {l:OpenLaw} {n:Nat} (hn:l.most=some n) {P:Params} {h:Heap} {args:List WData} {vals:List Value}
  (hpre:l.row.toRowW.claim.pre args=true) (hwl:WellAll P h vals args) :
  ∃ a vs ns,vals=[Value.ref a]/\args=[WData.list (ns.map WData.int)]/\h.get? a=some { cls:=.type "list",data:=.seq vs.toArray }/\IntsAre vs ns/\ns.length<=n:=by
 have hsh:WShape.hasAll [] args [.list .int]=true:=(pre_splitW hpre).1
 have hc:l.pre.holds [] { args:=args }=true:=(pre_splitW hpre).2
 obtain ⟨d,r,rfl,h1,h2⟩:=hasAllW_cons hsh
 obtain rfl:=hasAllW_nil h2
 obtain ⟨xs,rfl,h3⟩:=hasW_list h1
 obtain ⟨ns,rfl⟩:=items_int h3
 have hlen:ns.length<=n:=by
  unfold OpenLaw.pre at hc
  have h4:(WTm.not (.lt (.lit (.int (n:Int))) (.len (.arg 0)))).holds [] { args:=[.list (ns.map .int)] }=true:=by
   have h4:=(holds_andW hc).1
   rw [hn] at h4
   exact h4
  have h5:=condW_of h4 (w_not (w_lt w_lit (w_len_list (w_arg rfl))))
  rw [Qi] at h5
  refine Nat.le_of_not_lt fun q=>?_
  have q':(n:Int)<((ns.length:Nat):Int):=by omega
  first
   | (rw [Qw q'] at h5;exact absurd h5 (by decide))
   | (simp at h5;omega)
 cases hwl with
 | cons w1 w2 =>
  cases w2
  cases w1 with
  | list ho hall=>exact ⟨_,_,ns,rfl,rfl,ho,ints_of_wellAll ns _ hall,hlen⟩
theorem post_true (l:OpenLaw) (args:List WData):l.row.toRowW.claim.post args (.bool true) args=true :=
 postW_of (r:=l.row.toRowW) (X:=(true == true))
  (show WShape.has [] (.bool true) .bool=true by first | rfl | decide | simp [WShape.has,WShape.arms,WShape.armsAll])
  (show (WTm.eq .res (.lit (.bool true))).value [] { args:=args,res:=some (.bool true),after:=args }=some (.bool (true == true)) from w_eq_bool (w_res rfl) w_lit) rfl
theorem attach_call {l:OpenLaw} {n:Nat} {q:Program} {loose:List Str} {XP:(Str->Option Value)->Heap->Prop} {YP:World->Heap->Prop} {d:DefRec}
  (hn:l.most=some n) (hdf:d.params.defaults=[])
  (call:∀ (w:World) (s₀ s₁:Shared) (mg mb:Str->Option Value) (fa:Addr) (o:Obj) (pm cd doc:Value) (a:Addr) (vs:List Value) (ns:List Int),
   Ground q loose [] XP w s₀ mg mb s₁.heap->YP w s₁.heap ->
   s₁.heap.get? fa=some o->o.data=.func (docDef d.name d.params d.body d.scope pm cd doc)->s₁.heap.CodeRec cd d.name->mg d.name=some (.ref fa) ->
   s₁.heap.get? a=some { cls:=.type "list",data:=.seq vs.toArray }->IntsAre vs ns->ns.length<=n->s₁.gens=#[] ->
   codeAny (model l.prog w) callerA (.call (.ref fa) ⟨[.ref a],[]⟩) (fun r s'=>r=.ok (.ret (.bool true))/\OldK s₁.heap s'.heap/\s'.os=s₁.os/\AllBare s'.gens) s₁) :
  WalkO q loose XP YP l.row.toRowW d [] (fun f vs=>PySem.call f vs):=by
 intro w s₀ s₁ mg mb G Y fa o pm cd doc dV kV ho hd hcd hD hmg hg args vals as hpre hlay hrd hwl hlo
 obtain rfl:dV=.none:=Dflts.none hD hdf
 obtain rfl:kV=.none:=Dflts.noKw hD
 obtain ⟨a,vs,ns,rfl,rfl,hobj,hints,hlen⟩:=script_of hn hpre hwl
 refine enter_call (codeAny_mono (call w s₀ s₁ mg mb fa o pm cd doc a vs ns G Y ho (fd_plain hd) hcd hmg hobj hints hlen hg) fun r s' hq=>?_)
 obtain ⟨rfl,h2,h3,h4⟩:=hq
 exact ⟨.inl ⟨.bool true,.bool true,[],rfl,fun _=>rfl,.bool true,post_true l _,fun _=>⟨List.Pairwise.nil,fun _ hm=>(nomatch hm)⟩⟩,h2,h3,h4⟩
section
variable {prog:Program} {w:World} {A:Around} {E:Value->Shared->Prop} {s:Shared} {K:Frag}
end
end Att
namespace L2
open PySem PySem.Spec PyProof.Rows
theorem vals_ints:∀ {vs:List Value} {ns:List Int},IntsAre vs ns->Vals (ns.map V.int) vs
 | _,_,.nil=>.nil
 | _,_,.cons n t h=>.cons ⟨t,rfl⟩ (vals_ints h)
noncomputable def Only (H:Hp):Prop:=∀ b,H b=none∨∃ o xs,H b=some (.frz o (.lst xs))
theorem law_call {P:Program} {w:World} {K:PySem.W.Frag} {mg mb:Str->Option Value} {CX:CXT} {k:Nat} {fa a:Addr} {fd:FuncData} {x:Str} {sp:Sp} {s₁:Shared} {vs:List Value} {ns:List Int}
  (KX:K.In s₁.heap) (hns:s₁.heap.Ns mainGlobals mg) (hb:s₁.heap.Ns builtinsNs mb) (hbb:∀ x:Str,x≠"__name__"->mb x=bootBuiltins x) (hlim:s₁.heap.NoLimit) (hg:s₁.gens=#[])
  (ha:s₁.heap.get? a=some { cls:=.type "list",data:=.seq vs.toArray }) (hi:IntsAre vs ns) (hl:ns.length<=sizeLine) (hr:Room k callerA)
  (F:∀ base:Heap,K.In base->base.Ns mainGlobals mg->FnOk P w K mg base CX k fa fd [x] sp) (hbind:∀ (s:Shared) (u:Value),BindsTo s fd ⟨[u],[]⟩ [(x,u)])
  (hsp:∀ H:Hp,Only H->SqL K H a (ns.map V.int)->sp [.ref a] H (fun v _=>v=.bl true) fun _ _ _=>False)
  (hCX:∀ H e s',CX [] H s₁ (fun _ _ _=>False) e s'->False) :
  codeAny (model P w) callerA (.call (.ref fa) ⟨[.ref a],[]⟩) (fun r s'=>r=.ok (.ret (.bool true))/\OldK s₁.heap s'.heap/\s'.os=s₁.os/\AllBare s'.gens) s₁:=by
 have rv:=vals_ints hi
 have lenV:=hi.length
 have core:∀ H:Hp,Only H->SqL K H a (ns.map V.int)->HOk P w H s₁.heap->(∀ b,H b≠none->b=a)->(H a≠none->K.lookup a=none) ->
   codeAny (model P w) callerA (.call (.ref fa) ⟨[.ref a],[]⟩) (fun r s'=>r=.ok (.ret (.bool true))/\OldK s₁.heap s'.heap/\s'.os=s₁.os/\AllBare s'.gens) s₁:=by
  intro H hO hS hok hA hK
  have base_of:∀ {b:Addr} {o:Obj},s₁.heap.get? b=some o->H b=none->(hidT s₁.heap H).get? b=some o:=fun e n=>hidT_get e n
  have noA:∀ {b:Addr} {o:Obj} {es:Array DictEntry} {ep:Nat},s₁.heap.get? b=some o->o.data=.dict es ep->H b=none:=fun {b o es ep} e d=>by
   cases q:H b with
   | none=>rfl
   | some u =>
    have e':b=a:=hA b (by rw [q];simp)
    subst e'
    rw [ha] at e;cases e
    have d':Data.seq vs.toArray _=Data.dict es ep:=d
    cases d'
  have nsK:∀ {b:Addr} {m:Str->Option Value},s₁.heap.Ns b m->(hidT s₁.heap H).Ns b m:=fun {b m} ⟨o,es,ep,e,d,r⟩=>⟨o,es,ep,base_of e (noA e d),d,r⟩
  have hKb:K.In (hidT s₁.heap H):=fun b o e=>base_of (KX b o e) (by
   cases q:H b with
   | none=>rfl
   | some u =>
    have e':b=a:=hA b (by rw [q];simp)
    subst e'
    rw [hK (by rw [q];simp)] at e;cases e)
  have hM:Mod K mg (hidT s₁.heap H):=⟨hKb,nsK hns,⟨mb,nsK hb,hbb⟩,by obtain ⟨mc,h1,h2⟩:=hlim;exact ⟨mc,nsK h1,h2⟩⟩
  have e0:Env0 P w K mg (hidT s₁.heap H) callerA [] s₁ H:=⟨rfl,hM,fun b o e=>of_hidT e,Nat.le_of_eq (hidT_size _ _),trivial,fun b hb=>absurd (show b∈([]:List Addr) from hb) (by simp),hok,.of_eq hg⟩
  refine codeAny_mono ((F _ hKb (nsK hns)).run callerA [] s₁ H ⟨[.ref a],[]⟩ [.ref a] [.ref a] _ _ hr e0 (hbind s₁ (.ref a)) (.cons rfl .nil) (hsp H hO hS)) fun r s' h=>?_
  cases r with
  | error e=>exact (hCX H e s' h).elim
  | ok fl =>
   cases fl with
   | next=>exact False.elim h
   | brk=>exact False.elim h
   | cont=>exact False.elim h
   | ret u =>
    obtain ⟨v,H',os,bare,un,hok',r',q⟩:=h
    have q':v=.bl true:=q
    subst q'
    obtain rfl:u=Value.bool true:=r'
    refine ⟨rfl,OldK.of_keep fun b o e=>?_,os,bare⟩
    cases q:H b with
    | none=>exact un.keep b o e q (by intro z;exact absurd (show b∈([]:List Addr) from z) (by simp)) (by simp)
    | some u =>
     rcases hO b with z | ⟨ob,xs,z⟩
     ·rw [q] at z;cases z
     ·have z2:=un.frzs b ob _ z
      obtain ⟨e1,_⟩:=hok b _ z
      obtain ⟨e2,_⟩:=hok' b _ z2
      rw [e] at e1;cases e1
      exact e2
 cases hk:K.lookup a with
 | some o =>
  have e:=KX a o hk
  rw [ha] at e
  cases e
  refine core (fun _=>none) (fun _=>.inl rfl) (.inr ⟨_,vs.toArray,_,hk,rfl,rfl,rfl,by rw [Qm,lenV];exact hl,by simpa using rv⟩) (fun b u z=>by have z':(none:Option HO)=some u:=z;cases z') (fun b z=>absurd rfl z) fun z=>absurd rfl z
 | none =>
  refine core (fun b=>if b=a then some (.frz { cls:=.type "list",data:=.seq vs.toArray } (.lst (ns.map V.int))) else none) (fun b=>?_) (.inl (.inr ⟨{ cls:=.type "list",data:=.seq vs.toArray },if_pos rfl⟩)) (fun b u z=>?_) (fun b z=>?_) fun _=>hk
  ·by_cases hb:b=a
   ·exact .inr ⟨_,_,if_pos hb⟩
   ·exact .inl (if_neg hb)
  ·by_cases hb:b=a
   ·have z':=(if_pos hb).symm.trans z
    cases z'
    subst hb
    exact ⟨ha,by rw [Qi];exact hl,vs,_,rv,ha⟩
   ·have z':=(if_neg hb).symm.trans z
    cases z'
  ·by_cases hb:b=a
   ·exact hb
   ·exact absurd (if_neg hb) z
end L2
namespace L2
open PySem PySem.Spec PyProof.Rows
theorem walk_of {l:PySem.W.OpenLaw} {n k:Nat} {q:Program} {loose:List Str} {XP:(Str->Option Value)->Heap->Prop} {YP:World->Heap->Prop} {d:DefRec} {K:Params->PySem.W.Frag} {CX:World->CXT} {sp:World->Sp} {x:Str}
  (hn:l.most=some n) (hn2:n<=sizeLine) (hdf:d.params.defaults=[]) (hr:Room k callerA)
  (hY:∀ (w:World) (h:Heap),YP w h->(K w.params).In h)
  (F:∀ (w:World) (mg:Str->Option Value) (fa:Addr) (h:Heap),(K w.params).In h->h.Ns mainGlobals mg->mg d.name=some (.ref fa) ->
   ∃ fd:FuncData,(∀ (s:Shared) (u:Value),BindsTo s fd ⟨[u],[]⟩ [(x,u)]) /\
    ∀ base:Heap,(K w.params).In base->base.Ns mainGlobals mg->FnOk l.prog w (K w.params) mg base (CX w) k fa fd [x] (sp w))
  (hsp:∀ (w:World) (H:Hp) (a:Addr) (ns:List Int),ns.length<=n->Only H->SqL (K w.params) H a (ns.map V.int)->sp w [.ref a] H (fun v _=>v=.bl true) fun _ _ _=>False)
  (hCX:∀ (w:World) (H:Hp) (s:Shared) (e:Value) (s':Shared),CX w [] H s (fun _ _ _=>False) e s'->False) :
  PySem.W.WalkO q loose XP YP l.row.toRowW d [] (fun f vs=>PySem.call f vs):=by
 refine Att.attach_call hn hdf fun w s₀ s₁ mg mb fa o pm cd doc a vs ns G Y ho hd hcd hmg hobj hints hlen hg=>?_
 have KX:=hY w _ Y
 obtain ⟨fd,hb,hF⟩:=F w mg fa _ KX G.T.g hmg
 exact law_call KX G.T.g G.T.b G.T.builtins G.T.nolimit hg hobj hints (QE hlen hn2) hr hF hb (fun H hO hS=>hsp w H a ns hlen hO hS) fun H e s'=>hCX w H s₁ e s'
end L2
namespace L2
open PySem PySem.Spec PyProof.Rows
noncomputable def inClass (s:Stmt) (j:Nat):Stmt:=match s with
 | .ClassDef _ _ _ body _ _ _ _ _ _ _=>body.getD j (.Pass ⟨0,0,0,0⟩)
 | _=>.Pass ⟨0,0,0,0⟩
noncomputable def defArgs (s:Stmt):Arguments:=match s with
 | .FunctionDef _ a _ _ _ _ _ _ _ _=>a
 | _=>{ posonlyargs:=[],args:=[],vararg:=none,kwonlyargs:=[],kw_defaults:=[],kwarg:=none,defaults:=[] }
noncomputable def defBody (s:Stmt):List Stmt:=match s with
 | .FunctionDef _ _ b _ _ _ _ _ _ _=>b
 | _=>[]
noncomputable def defScope (s:Stmt):Scope:=match s with
 | .FunctionDef _ _ _ _ _ _ sc _ _ _=>sc
 | _=>{ kind:=.function,names:=[],isGenerator:=false,isCoroutine:=false }
noncomputable abbrev CX0:CXT:=fun _ _ _ _ _ _=>False
noncomputable abbrev E0:XK:=fun _ _ _=>False
theorem pass0 {X:Cx}:Passes CX0 X E0:=fun _ _ _ _ _ _ _ h=>h.elim
structure Fun (K:PySem.W.Frag) (x qual:Str) (st:Stmt) (f:Addr) (fd:FuncData):Prop where
 ex:∃ (oc:Value) (od:Option Addr) (kV doc pm:Value) (an:Option Addr) (cdv ct:Value) (osl:Array (Option Value)),
  fd=PySem.W.fnOf x qual (defArgs st) (defBody st) (defScope st) .none kV doc pm an cdv ct/\K.lookup f=some ⟨oc,od,.func fd,osl⟩/\PySem.W.codeIn K cdv qual=true
 kp:PySem.W.keepIn K (.ref f)=true
section
variable {P:Program} {w:World} {K:PySem.W.Frag} {mg:Str->Option Value} {base:Heap}
theorem Fun.ok {x qual:Str} {st:Stmt} {f:Addr} {fd:FuncData} {N ps:List Str} {k:Nat} {sp:Sp} (F:Fun K x qual st f fd) (S:FnScope N ps (defScope st)) (len:∀ vs H Q E,sp vs H Q E->vs.length=ps.length)
  (hbody:∀ (cdv:Value) (A:Around) (outer:List Env) (s:Shared) (H:Hp) (vs:List V) (Q:VK) (E:XK),Room k (A.deeper (envOfC qual (defScope st) s.heap.objs.size f cdv))->sp vs H Q E ->
   ∃ t,PSs (cxOf CX0 P w K mg base N qual (defScope st) f cdv A outer s H E).nox (defBody st) t/\t { nx:=fun _ H'=>Q .non H',rt:=Q } (start N vs) H):FnOk P w K mg base CX0 (k+1) f fd ps sp:=by
 obtain ⟨oc,od,kV,doc,pm,an,cdv,ct,osl,rfl,lk,hcd⟩:=F.ex
 refine fn_of lk hcd S len fun A outer s H vs Q E hr hsp=>?_
 obtain ⟨t,h,q⟩:=hbody cdv A outer s H vs Q E hr hsp
 exact ⟨t,h.nox,q⟩
theorem Fun.binds {x qual:Str} {st:Stmt} {f:Addr} {fd:FuncData} {ps:List Str} (F:Fun K x qual st f fd)
  (h:∀ (kV doc pm:Value) (an:Option Addr) (cdv ct:Value) (us:List Value),us.length=ps.length->bindArgs (PySem.W.fnOf x qual (defArgs st) (defBody st) (defScope st) .none kV doc pm an cdv ct) ⟨us,[]⟩=pure (ps.zip us)):Binds K fd ps []:=by
 obtain ⟨oc,od,kV,doc,pm,an,cdv,ct,osl,rfl,lk,hcd⟩:=F.ex
 exact .all (h kV doc pm an cdv ct)
theorem fun_mk {x qual:Str} {st:Stmt} {f:Addr} {oc:Value} {od an:Option Addr} {osl:Array (Option Value)} {kV doc pm cdv ct:Value} (l:K.lookup f=some ⟨oc,od,.func (PySem.W.fnOf x qual (defArgs st) (defBody st) (defScope st) .none kV doc pm an cdv ct),osl⟩)
  (c:PySem.W.codeIn K cdv qual=true) (k:PySem.W.keepIn K (.ref f)=true):Fun K x qual st f (PySem.W.fnOf x qual (defArgs st) (defBody st) (defScope st) .none kV doc pm an cdv ct):=⟨⟨oc,od,kV,doc,pm,an,cdv,ct,osl,rfl,l,c⟩,k⟩
end
theorem small1000 {n:Nat} (h:n<=1000):n<sizeLine:=QG h (by decide)
section
variable {X:Cx}
theorem pv (i:Nat) {x:Str} {pos:Pos} (hN:X.N[i]?=some x:=by rfl) (hv:Vis X.env.scope x:=by first | exact Or.inl rfl | exact Or.inr (Or.inl rfl) | exact Or.inr (Or.inr rfl)) (hd:(x == ("__debug__":Str))=false:=by decide)
  (hcd:(x == ("__classdict__":Str))=false:=by decide):PE X (.Name x pos) (tVar i):=pe_var hN hv hd hcd
end
theorem iteF {A B:Prop} (h:B):if false=true then A else B:=by
 rw [if_neg Bool.false_ne_true]
 exact h
theorem iteT {A B:Prop} (h:A):if true=true then A else B:=by
 rw [if_pos rfl]
 exact h
theorem ite2 {c A B:Prop} [Decidable c] (h1:c->A) (h2:¬ c->B):if c then A else B:=by
 by_cases h:c
 ·rw [if_pos h]
  exact h1 h
 ·rw [if_neg h]
  exact h2 h
noncomputable def Same (H H':Hp):Prop:=∀ b o,H b=some o->H' b=some o
theorem Same.refl (H:Hp):Same H H:=fun _ _ h=>h
theorem Same.trans {H H1 H2:Hp} (a:Same H H1) (b:Same H1 H2):Same H H2:=fun c o h=>b c o (a c o h)
theorem Same.free {H H':Hp} (e:Same H H') {l:Addr} (h:H' l=Option.none):H l=Option.none:=by
 cases q:H l with
 | none=>rfl
 | some o =>
  rw [e l o q] at h
  cases h
theorem Same.seq {K:PySem.W.Frag} {H H':Hp} {a:Addr} {xs:List V} (e:Same H H') (h:SqL K H a xs):SqL K H' a xs:=by
 rcases h with (h | ⟨o,h⟩) | h
 ·exact .inl (.inl (e _ _ h))
 ·exact .inl (.inr ⟨o,e _ _ h⟩)
 ·exact .inr h
end L2
namespace L2
open PySem PySem.Spec PyProof.Rows
noncomputable abbrev cmpTests (ifs:List Expr) (env:Env):Sem Bool :=
 forIn ifs true fun c r=>if r=true then do let ok <- isTrue c env (eval c env);pure (ForInStep.yield ok) else pure (ForInStep.yield r)
noncomputable def clOf (cells:List (Str × Addr)):List (Str × NameKind)->List (Str × Addr)->List (Str × Addr)
 | [],acc=>acc
 | (n,k)::r,acc=>clOf cells r (if k == .free then (n,(cells.lookup n).getD 0)::acc else acc)
theorem clOf_eq {env:Env}:∀ (ns:List (Str × NameKind)) (acc:List (Str × Addr)),(∀ y∈ns,y.2=.free->∃ c,env.cells.lookup y.1=some c) ->
  (forIn ns acc fun (p:Str × NameKind) (cs:List (Str × Addr))=>(if p.2 == .free then (do let c <- cellOf env p.1;pure (ForInStep.yield ((p.1,c)::cs))) else pure (ForInStep.yield cs):Sem (ForInStep (List (Str × Addr)))))=(pure (clOf env.cells ns acc):Sem (List (Str × Addr)))
 | [],acc,_=>rfl
 | (n,k)::r,acc,h=>by
  rw [List.forIn_cons]
  by_cases hk:k=.free
  ·subst hk
   obtain ⟨c,hc⟩:=h (n,.free) Qk rfl
   have e1:cellOf env n=pure c:=by unfold cellOf;rw [show env.cells.lookup n=some c from hc]
   simp only [beq_self_eq_true,if_true,e1,clOf,hc,Option.getD_some]
   exact clOf_eq r ((n,c)::acc) fun y hy=>h y (Qg _ hy)
  ·have hb:(k == NameKind.free)=false:=by simpa using hk
   simp only [hb,Bool.false_eq_true,if_false,clOf]
   exact clOf_eq r acc fun y hy=>h y (Qg _ hy)
theorem closure_eq {env:Env} {sc:Scope} (h:∀ y∈sc.names,y.2=.free->∃ c,env.cells.lookup y.1=some c):closureFor sc env=pure (clOf env.cells sc.names []):=by
 unfold closureFor
 have q:=clOf_eq (env:=env) sc.names [] h
 have e:(forIn sc.names [] fun (p:Str × NameKind) (cs:List (Str × Addr))=>(match p with | (name,kind)=>if kind == .free then (do let c <- cellOf env name;pure (ForInStep.yield ((name,c)::cs))) else pure (ForInStep.yield cs):Sem (ForInStep (List (Str × Addr)))))=(pure (clOf env.cells sc.names []):Sem (List (Str × Addr))):=q
 simp only [e]
 rfl
theorem clOf_look {cells:List (Str × Addr)}:∀ (ns:List (Str × NameKind)) (acc:List (Str × Addr)),(∀ y∈ns,y.2=.free->∃ c,cells.lookup y.1=some c)->(∀ y c,acc.lookup y=some c->cells.lookup y=some c) ->
  (∀ y c,(clOf cells ns acc).lookup y=some c->cells.lookup y=some c)/\(∀ y,(acc.lookup y).isSome=true->((clOf cells ns acc).lookup y).isSome=true)/\(∀ y,(y,NameKind.free)∈ns->((clOf cells ns acc).lookup y).isSome=true)
 | [],acc,_,h2=>⟨h2,fun _ h=>h,fun _ h=>nomatch h⟩
 | (n,k)::r,acc,h1,h2=>by
  have h1':∀ y∈r,y.2=.free->∃ c,cells.lookup y.1=some c:=fun y hy=>h1 y (Qg _ hy)
  by_cases hk:k=.free
  ·subst hk
   obtain ⟨c,hc⟩:=h1 (n,.free) Qk rfl
   have hc':cells.lookup n=some c:=hc
   have e:clOf cells ((n,.free)::r) acc=clOf cells r ((n,c)::acc):=by simp only [clOf,beq_self_eq_true,if_true,hc',Option.getD_some]
   have ih:=clOf_look (cells:=cells) r ((n,c)::acc) h1' (fun y d hy=>by
    rw [List.lookup_cons] at hy
    cases q:y == n with
    | true=>rw [q] at hy;cases hy;rw [eq_of_beq q];exact hc'
    | false=>rw [q] at hy;exact h2 y d hy)
   rw [e]
   refine ⟨ih.1,fun y hy=>ih.2.1 y ?_,fun y hy=>?_⟩
   ·rw [List.lookup_cons];split
    ·rfl
    ·exact hy
   ·rcases Qn hy with z | z
    ·cases z;exact ih.2.1 n (by rw [List.lookup_cons];simp)
    ·exact ih.2.2 y z
  ·have hb:(k == NameKind.free)=false:=by simpa using hk
   have e:clOf cells ((n,k)::r) acc=clOf cells r acc:=by simp only [clOf,hb,Bool.false_eq_true,if_false]
   have ih:=clOf_look (cells:=cells) r acc h1' h2
   rw [e]
   refine ⟨ih.1,ih.2.1,fun y hy=>?_⟩
   rcases Qn hy with z | z
   ·cases z;exact absurd rfl hk
   ·exact ih.2.2 y z
structure CompSc (scX sc:Scope) (NX:List Str) (x:Str) (fv:List Str) (js:List Nat):Prop where
 kind:sc.kind=.function
 kindX:scX.kind=.function
 cell:∀ y∈sc.names,y.2≠.cell
 own:sc.names.lookup x=some .local
 names:∀ y∈sc.names,y.2=.local->sc.names.lookup y.1=some .local
 free:∀ y∈sc.names,y.2=.free->scX.names.lookup y.1=some .cell
 nd:(x::fv).Nodup
 at':js.map (fun j=>NX[j]?)=fv.map some
 fr:∀ y∈fv,sc.names.lookup y=some .free
theorem relabel_free {env:Env} (hk:env.scope.kind=.function):∀ {ns:List (Str × NameKind)} {y:Str},ns.lookup y=some .free->env.kindOf y=some .cell ->
  (ns.map fun (n,k)=>if (k == NameKind.free&&env.scope.kind == .function&&env.kindOf n == some .cell) then (n,NameKind.cell) else (n,k)).lookup y=some .cell
 | [],_,h,_=>by simp at h
 | (n,k)::r,y,h,hc=>by
  have ih:=@relabel_free env hk r y
  show List.lookup y ((if (k == NameKind.free&&env.scope.kind == .function&&env.kindOf n == some .cell)=true then (n,NameKind.cell) else (n,k))::_)=_
  cases hx:y == n with
  | true =>
   simp only [List.lookup_cons,hx] at h
   cases h
   have e:y=n:=eq_of_beq hx
   subst e
   simp [List.lookup_cons,hc,hk]
  | false =>
   simp only [List.lookup_cons,hx] at h
   split<;>(simp only [List.lookup_cons,hx];exact ih h hc)
theorem relabel_back {env:Env}:∀ {ns:List (Str × NameKind)} {y:Str},(∀ z∈ns,z.2≠.cell) ->
  ((ns.map fun (n,k)=>if (k == NameKind.free&&env.scope.kind == .function&&env.kindOf n == some .cell) then (n,NameKind.cell) else (n,k)).lookup y=some .cell ∨
   (ns.map fun (n,k)=>if (k == NameKind.free&&env.scope.kind == .function&&env.kindOf n == some .cell) then (n,NameKind.cell) else (n,k)).lookup y=some .free)->(y,NameKind.free)∈ns
 | [],_,_,h=>by simp at h
 | (n,k)::r,y,hz,h=>by
  have ih:=@relabel_back env r y fun z hm=>hz z (Qg _ hm)
  have hk:k≠.cell:=hz (n,k) Qk
  rw [List.map_cons] at h
  by_cases hc:(k == NameKind.free&&env.scope.kind == .function&&env.kindOf n == some .cell)=true
  ·have hf:k=.free:=by
    rw [Bool.and_eq_true,Bool.and_eq_true] at hc
    exact eq_of_beq hc.1.1
   simp only [hc,if_true,List.lookup_cons] at h
   cases hx:y == n with
   | true=>rw [eq_of_beq hx,hf];exact Qk
   | false=>rw [hx] at h;exact Qg _ (ih h)
  ·rw [Bool.not_eq_true] at hc
   simp only [hc,Bool.false_eq_true,if_false,List.lookup_cons] at h
   cases hx:y == n with
   | true =>
    rw [hx] at h
    rcases h with h | h
    ·exact absurd (Qr h) hk
    ·have:k=.free:=Qr h
     rw [eq_of_beq hx,this];exact Qk
   | false=>rw [hx] at h;exact Qg _ (ih h)
noncomputable def pick (js:List Nat) (σ:St):St:=js.map fun j=>(σ[j]?).getD none
noncomputable abbrev xc (X:Cx) (sc:Scope) (x:Str) (fv:List Str) (C:Addr) (s0:Shared) (H0:Hp) (ex:List Addr):Cx :=
 { X with N:=x::fv,s₀:=s0,H₀:=H0,env:=compEnvC sc (clOf X.env.cells sc.names []) C X.env,outer:=X.stack,ex:=ex,fn:=fun _=>false,pn:=[],xe:=fun _ _=>False }
noncomputable def PIf (X:Cx) (ifs:List Expr) (t:TT):Prop :=
 ∀ (pins:List (Addr × Obj)) (s:Shared) (σ:St) (H:Hp) (Q:Bool->Hp->Prop),Inv X pins σ H s->t σ H Q->wpAny (model X.prog X.w) X.A (cmpTests ifs X.env) (TP X pins σ Q) X.xe s
noncomputable def tYes:TT:=fun _ H Q=>Q true H
theorem tYes_ok {σ:St} {H:Hp} {Q:Bool->Hp->Prop} (h:Q true H):tYes σ H Q:=h
theorem pif_nil {X:Cx}:PIf X [] tYes:=fun _ _ _ H _ I h=>wpAny_tests_nil ⟨H,I,h⟩
theorem pif_one {X:Cx} {c:Expr} {t:TT} (hc:PT X c t):PIf X [c] t:=fun pins s σ H Q I h=>wpAny_tests_one (hc pins s σ H Q I h)
noncomputable def tCompB (J:It) (js:List Nat) (tt:TT) (te:TE):TE:=fun σ H1 Q=>∃ W:Nat->Nat->List V->Hp->Prop,(∃ m,W 0 m [] H1)/\∀ i m ys H,W i m ys H ->
 (J.stop i H/\∀ p,H p=none->Q (.ref p) (upd H p (.lst ys))) ∨
 (J.go i H/\∃ N:List V->Hp->Prop,(∀ ys' H',N ys' H'->∃ m',m'<m/\W (i+1) m' ys' H') /\
  ∀ x H',J.yld i H x H'->tt (some x::pick js σ) H' fun b H2=>if b=true then te (some x::pick js σ) H2 fun y H3=>ys.length<sizeLine/\N (ys++[y]) H3 else N ys H2)
noncomputable def tComp (wi:TI) (js:List Nat) (tt:TT) (te:TE):TE:=fun σ H Q=>wi σ H fun J H1=>tCompB J js tt te σ H1 Q
section
variable {X:Cx} {pins:List (Addr × Obj)} {σ:St} {H2:Hp} {s2:Shared} {elt iter:Expr} {x:Str} {px:Pos} {ifs:List Expr} {sc scX:Scope} {pos:Pos} {fv:List Str} {js:List Nat} {tt:TT} {te:TE}
theorem comp_list {K:PySem.W.Frag} {a:Addr} {xs:List V} {σ:St} {H:Hp} {Q:VK} (Pv:Nat->List V->Hp->Prop) (h0:Pv 0 [] H) (hl:∀ i ys H,i<=xs.length->Pv i ys H->SqL K H a xs)
  (hs:∀ i x ys H,xs[i]?=some x->Pv i ys H->tt (some x::pick js σ) H fun b H2=>if b=true then te (some x::pick js σ) H2 fun y H3=>ys.length<sizeLine/\Pv (i+1) (ys++[y]) H3 else Pv (i+1) ys H2)
  (hd:∀ ys H,Pv xs.length ys H->∀ p,H p=none->Q (.ref p) (upd H p (.lst ys))) :
  tCompB (Itl K a) js tt te σ H Q:=by
 refine ⟨fun i m ys H=>m=xs.length-i/\i<=xs.length/\Pv i ys H,⟨xs.length,by simp,Qp _,h0⟩,?_⟩
 rintro i m ys H ⟨rfl,hi,p⟩
 have q:=hl i ys H hi p
 by_cases hlt:i<xs.length
 ·refine .inr ⟨⟨xs,xs[i],q,by simp [hlt]⟩,Pv (i+1),fun ys' H' p'=>⟨xs.length-(i+1),by omega,rfl,hlt,p'⟩,fun x H' y=>?_⟩
  obtain ⟨e,y⟩:=y
  subst e
  exact hs i x ys _ (y xs q) p
 ·have e:i=xs.length:=by omega
  subst e
  exact .inl ⟨⟨xs,q,Qf _⟩,hd ys H p⟩
end
end L2
namespace Mm
open PySem
theorem or_xor_and:∀ (n a b:Nat),a<=n->(a ||| b)=(a ^^^ b)+(a &&& b)
 | 0,a,b,h=>by
  have:a=0:=by omega
  subst this
  simp
 | n+1,a,b,h=>by
  by_cases ha:a=0
  ·subst ha;simp
  ·have ih:=or_xor_and n (a / 2) (b / 2) (by omega)
   have e1:(a ||| b) / 2=a / 2 ||| b / 2:=Nat.or_div_two
   have e2:(a ^^^ b) / 2=a / 2 ^^^ b / 2:=Nat.xor_div_two
   have e3:(a &&& b) / 2=a / 2 &&& b / 2:=Nat.and_div_two
   have m1:(a ||| b) % 2=(a % 2 ||| b % 2):=by simpa using Nat.or_mod_two_pow (a:=a) (b:=b) (n:=1)
   have m2:(a ^^^ b) % 2=(a % 2 ^^^ b % 2):=by simpa using Nat.xor_mod_two_pow (a:=a) (b:=b) (n:=1)
   have m3:(a &&& b) % 2=(a % 2 &&& b % 2):=by simpa using Nat.and_mod_two_pow (a:=a) (b:=b) (n:=1)
   have d:∀ x<2,∀ y<2,(x ||| y)=(x ^^^ y)+(x &&& y):=by decide
   have dd:=d (a % 2) (by omega) (b % 2) (by omega)
   omega
theorem bitAnd_nat (a b:Nat):Builtin.bitAnd (a:Int) (b:Int)=((a &&& b:Nat):Int):=by
 rw [PyProof.Rows.bitAnd_pp (by omega) (by omega)]
 simp
theorem bitOr_nat (a b:Nat):Builtin.bitOr (a:Int) (b:Int)=((a ||| b:Nat):Int):=by
 have ha:¬ 0<=Builtin.bitNot (a:Int):=by unfold Builtin.bitNot;omega
 have hb:¬ 0<=Builtin.bitNot (b:Int):=by unfold Builtin.bitNot;omega
 unfold Builtin.bitOr
 rw [PyProof.Rows.bitAnd_nn ha hb,PyProof.Rows.bitNot_bitNot,PyProof.Rows.bitNot_bitNot,PyProof.Rows.bitNot_bitNot]
 simp
theorem bitXor_nat (a b:Nat):Builtin.bitXor (a:Int) (b:Int)=((a ^^^ b:Nat):Int):=by
 unfold Builtin.bitXor
 rw [bitOr_nat,bitAnd_nat]
 have:=or_xor_and a a b (Qf _)
 omega
end Mm
namespace L2
open PySem PySem.Spec PyProof.Rows
section
variable {X:Cx}
theorem call_isinst {n:String}:CallR X (.builtin "isinstance") (fun xs H Q=>∃ x t b,xs=[x,.ty n]/\TyOf X.K H x t/\PySem.W.kitOne X.K t (.type n)=some b/\Q (.bl b) H):=by
 intro pins s σ H xs us Q I r h
 obtain ⟨x,t,b,rfl,ty,e,q⟩:=h
 obtain ⟨u,w',rfl,rx,rw'⟩:=vals2 r
 cases (show w'=Value.type n from rw')
 exact isinst_ok I rx ty e fun tk=>⟨.bl b,H,I.tok _,rfl,q⟩
end
theorem bt_len:bootBuiltins "len"=some (.builtin "len"):=by decide +kernel
theorem bt_isi:bootBuiltins "isinstance"=some (.builtin "isinstance"):=by decide +kernel
theorem ix_listK {X:Cx} {K:PySem.W.Frag} (h:X.K=K):IxR X (rIxL K):=by subst h;exact ix_list
end L2
namespace L2
open PySem PySem.Spec PyProof.Rows
section
variable {X:Cx}
theorem mt_bitlen:MtR X "int.bit_length" (fun x xs H Q=>∃ i,x=.int i/\xs=[]/\Q (.int ((Builtin.Int.intBits i:Nat):Int)) H):=by
 intro pins s σ H x xs v us Q I rx rs h
 obtain ⟨i,rfl,rfl,q⟩:=h
 obtain ⟨t,rfl⟩:=rx
 cases rs
 exact call_int_bit_length ⟨.int _,H,I.tok _,⟨_,rfl⟩,q⟩
end
theorem bt_list:bootBuiltins "list"=some (.type "list"):=by decide +kernel
end L2
namespace L2
open PySem PySem.Spec PyProof.Rows
section
variable {X:Cx}
noncomputable def cutS (z:Str) (lo hi:Option Int):Str:=⟨((z.cps.toList.drop (HT.sIx z.length 0 lo)).take (HT.sIx z.length z.length hi-HT.sIx z.length 0 lo)).toArray⟩
theorem sIx_clip (n d:Nat) (v:Option Int):(match v with | none=>(d:Int) | some i=>max 0 (min (if i<0 then i+(n:Int) else i) (n:Int)))=((HT.sIx n d v:Nat):Int):=by
 cases v with
 | none=>rfl
 | some i =>
  show max 0 (min (if i<0 then i+(n:Int) else i) (n:Int))=(((if i<0 then (i+(n:Int)).toNat else min i.toNat n):Nat):Int)
  by_cases h:i<0
  ·simp only [if_pos h];omega
  ·simp only [if_neg h];omega
theorem sliceIdx (lo hi:Option Int) (n:Nat):Builtin.Str.strSliceIndices lo hi 1 n=(List.range (HT.sIx n n hi-HT.sIx n 0 lo)).map (HT.sIx n 0 lo+·):=by
 rw [<- sliceRange_one]
 have e1:=sIx_clip n 0 lo
 have e2:=sIx_clip n n hi
 rw [<- e1,<- e2]
 rfl
theorem slice_cut (z:Str) (lo hi:Option Int):Txt.slice z lo hi=cutS z lo hi:=by
 have hL:=HT.sIx_le z.length 0 (Qp _) lo
 have hH:=HT.sIx_le z.length z.length (Qf _) hi
 have hz:z.cps.toList.length=z.length:=by simp [Str.length]
 unfold Txt.slice cutS
 rw [sliceIdx]
 split
 ·rename_i h
  have h':HT.sIx z.length z.length hi-HT.sIx z.length 0 lo=z.length:=by simpa using h
  rw [h']
  by_cases h0:HT.sIx z.length 0 lo=0
  ·rw [h0,List.drop_zero,QA (by omega)]
  ·have:z.length=0:=by omega
   omega
 ·rw [pick_run]
theorem cutS_list (z:Str) (lo hi:Option Int):(cutS z lo hi).cps.toList=(z.cps.toList.drop (HT.sIx z.length 0 lo)).take (HT.sIx z.length z.length hi-HT.sIx z.length 0 lo):=rfl
theorem cutS_len (z:Str) (lo hi:Option Int):(cutS z lo hi).length<=z.length:=by
 show ((z.cps.toList.drop (HT.sIx z.length 0 lo)).take (HT.sIx z.length z.length hi-HT.sIx z.length 0 lo)).toArray.size<=z.length
 rw [Qm,Qv,List.length_drop]
 have hz:z.cps.toList.length=z.length:=by simp [Str.length]
 omega
theorem sl_str:SlR X (fun x lo hi H Q=>∃ z,x=.str z/\z.length<=sizeLine/\Q (.str (cutS z lo hi)) H):=by
 intro pins s σ H x v vl vu lo hi sl Q I rx hs pl pu h
 obtain ⟨z,rfl,hz,q⟩:=h
 obtain ⟨t,rfl⟩:=rx
 rw [<- slice_cut] at q
 refine ⟨"str",_,slot_str_getitem.lookup,typeIs_str s z t,?_⟩
 have key:∀ (l u:Option (Int × Tok)),s.heap.IsSliceOf sl (partValue l) (partValue u) .none->l.map (·.1)=lo->u.map (·.1)=hi->wpAny (model X.prog X.w) X.A (getItem (.str z t) (.ref sl)) (EP X pins σ Q) X.xe s:=by
  intro l u hs' hl hu
  subst hl hu
  exact wpAny_getItem_str_slice (l:=l) (u:=u) (st:=none) hs' rfl (post_val_or_str ⟨QE (Txt.slice_le z _ _) hz,fun t' k=>⟨.str (Txt.slice z (l.map (·.1)) (u.map (·.1))),H,I.tok k,⟨t',rfl⟩,q⟩⟩)
 cases pl with
 | none=>cases pu with
  | none=>exact key none none hs rfl rfl
  | int j tj=>exact key none (some (j,tj)) hs rfl rfl
 | int i ti=>cases pu with
  | none=>exact key (some (i,ti)) none hs rfl rfl
  | int j tj=>exact key (some (i,ti)) (some (j,tj)) hs rfl rfl
noncomputable def ItN (n:Nat) (y:Nat->V):It:=⟨fun i _=>i<n,fun i H x H'=>H'=H/\x=y i,fun i _=>n<=i⟩
end
end L2
namespace PySem.F
end PySem.F
namespace PySem
section
variable {prog:Program} {w:World} {A:Around} {E:Value->Shared->Prop} {s:Shared}
end
end PySem
namespace L2
open PySem PySem.Spec PyProof.Rows
section
variable {X:Cx} {tg:Expr}
end
end L2
namespace L2
open PySem PySem.Spec PyProof.Rows
section
variable {X:Cx} {a:Addr} {kvs:List (Str × Int)} {x:Str} {p pos apos cpos:Pos} {e f:Expr} {ty tx:TE}
end
end L2
namespace L2
open PySem PySem.Spec PyProof.Rows
structure KDictT (P:Program) (w:World) (K:PySem.W.Frag) (a:Addr) (kvs:List (Str × Str)):Prop where
 ns:(a == sysModules)=false
 ob:∃ (o:Obj) (vs:List (Key × Value)),K.lookup a=some o/\o.cls=.type "dict"/\o.dict=none/\(∀ h:Heap,h.get? a=some o->h.DictOf (mixKind P w) a vs) /\
  ∀ k:Str,(∀ i,kvs.lookup k=some i->∃ t,valueAt vs (Sum.inr k:Key)=some (.str i t))/\(kvs.lookup k=none->valueAt vs (Sum.inr k:Key)=none)
noncomputable abbrev KE4T:=Str × Tok × Str × Tok
noncomputable def kEntT (w:World) (e:KE4T):DictEntry:=⟨hashStr w e.1,.str e.1 e.2.1,.str e.2.2.1 e.2.2.2⟩
noncomputable def kPrT (e:KE4T):Key × Value:=(Sum.inr e.1,.str e.2.2.1 e.2.2.2)
theorem kPairsT {P:Program} {w:World}:∀ es:List KE4T,Pairs (mixKind P w) (es.map (kEntT w)) (es.map kPrT)
 | []=>.nil
 | e::r=>.cons (mixKind_str P w e.1 e.2.1) rfl (kPairsT r)
theorem kValT (k:Str):∀ es:List KE4T,(∀ i,(es.map fun e=>(e.1,e.2.2.1)).lookup k=some i->∃ t,valueAt (es.map kPrT) (Sum.inr k:Key)=some (.str i t))/\((es.map fun e=>(e.1,e.2.2.1)).lookup k=none->valueAt (es.map kPrT) (Sum.inr k:Key)=none)
 | []=>⟨fun i h=>by simp at h,fun _=>rfl⟩
 | e::r=>by
  obtain ⟨h1,h2⟩:=kValT k r
  simp only [List.map_cons,List.lookup_cons]
  by_cases hk:k=e.1
  ·subst hk
   simp only [beq_self_eq_true]
   refine ⟨fun i h=>?_,fun h=>nomatch h⟩
   cases h
   exact ⟨e.2.2.2,by simp [valueAt,kPrT]⟩
  ·have hb:(k == e.1)=false:=beq_eq_false_iff_ne.mpr hk
   have hn:¬ ((kPrT e).1=(Sum.inr k:Key)):=fun z=>hk (by
    have z':(Sum.inr e.1:Key)=Sum.inr k:=z
    injection z' with z'
    exact z'.symm)
   have ev:valueAt (kPrT e::r.map kPrT) (Sum.inr k:Key)=valueAt (r.map kPrT) (Sum.inr k:Key):=by
    unfold valueAt
    rw [List.find?_cons_of_neg (by simpa using hn)]
   rw [hb,ev]
   exact ⟨h1,h2⟩
theorem kdictT_mk {P:Program} {w:World} {K:PySem.W.Frag} {a:Addr} {ep:Nat} {es:List KE4T} (hs:(a == sysModules)=false)
  (hl:K.lookup a=some ⟨.type "dict",none,.dict (es.map (kEntT w)).toArray ep,#[]⟩) (nd:(es.map (·.1)).Nodup):KDictT P w K a (es.map fun e=>(e.1,e.2.2.1)):=by
 refine ⟨hs,_,es.map kPrT,hl,rfl,rfl,fun h e=>⟨_,_,_,e,⟨rfl,rfl,rfl⟩,rfl,?_,kPairsT es,?_⟩,fun k=>kValT k es⟩
 ·intro x hx
  have hx':x∈es.map (kEntT w):=by simpa using hx
  obtain ⟨y,_,rfl⟩:=QF hx'
  exact ⟨Sum.inr y.1,mixKind_str P w y.1 y.2.1,rfl⟩
 ·have e1:(es.map kPrT).map (·.1)=(es.map (·.1)).map (Sum.inr:Str->Key):=by rw [List.map_map,List.map_map];rfl
  rw [e1]
  refine List.Pairwise.map _ (fun x y hxy hz=>hxy ?_) nd
  injection hz
section
variable {X:Cx} {a:Addr} {kvs:List (Str × Str)} {x:Str} {p pos apos cpos:Pos} {e f:Expr} {ty tx:TE}
theorem KDictT.here {pins:List (Addr × Obj)} {σ:St} {H:Hp} {s:Shared} (D:KDictT X.prog X.w X.K a kvs) (I:Inv X pins σ H s) :
  ∃ vs:List (Key × Value),s.heap.DictOf (mixKind X.prog X.w) a vs/\(∀ b,Value.ref a=.ref b->∃ ob,s.heap.get? b=some ob/\ob.dict=none) /\
   ∀ k:Str,(∀ i,kvs.lookup k=some i->∃ t,valueAt vs (Sum.inr k:Key)=some (.str i t))/\(kvs.lookup k=none->valueAt vs (Sum.inr k:Key)=none):=by
 obtain ⟨o,vs,hk,hc,hd,hh,hv⟩:=D.ob
 have e:=I.kIn a o hk
 exact ⟨vs,hh _ e,fun b q=>by cases q;exact ⟨o,e,hd⟩,hv⟩
noncomputable def tKIxT (kvs:List (Str × Str)) (ty:TE):TE:=fun σ H Q=>ty σ H fun y H1=>∃ (k:Str) (i:Str),y=.str k/\kvs.lookup k=some i/\Q (.str i) H1
theorem pe_kixT (D:KDictT X.prog X.w X.K a kvs) (hg:Gl X x) (hm:X.mg x=some (.ref a)) (he:PE X e ty) (hs:PlainIx e) (hd:(x == ("__debug__":Str))=false:=by decide):PE X (.Subscript (.Name x p) e pos) (tKIxT kvs ty):=by
 intro pins s σ H Q I h
 refine Subscript_ (ld_glob I hg hm ?_ hd)
 refine thn (he pins s σ H _ I h) fun iv s1 hsl41=>?_
 obtain ⟨y,H1,I1,ry,k,i,ey,hk,q⟩:=hsl41
 subst ey
 obtain ⟨t,rfl⟩:=ry
 obtain ⟨vs,dd,_,hv⟩:=D.here I1
 obtain ⟨t',e⟩:=(hv k).1 i hk
 exact tail_any dd.typeIs PySem.F.slot_dict_getitem.lookup (wpAny_getItem_of (k:=(Sum.inr k:Key)) (mixKind_str _ _ k t) dd.mapOf e ⟨.str i,H1,I1.tok _,⟨t',rfl⟩,q⟩) (hs _ _)
end
end L2
namespace L2
open PySem PySem.Spec PyProof.Rows
section
variable {X:Cx}
end
theorem kit_same (K:PySem.W.Frag) (C:Addr):PySem.W.kitOne K (.ref C) (.ref C)=some true:=by
 unfold PySem.W.kitOne
 rw [if_pos (by simp)]
end L2
namespace L2
open PySem PySem.Spec PyProof.Rows
section
variable {X:Cx}
end
section
variable {X:Cx} {pins:List (Addr × Obj)} {σ:St} {H H':Hp} {s s':Shared} {B h'':Heap}
end
section
variable {P:Program} {w:World} {K:PySem.W.Frag} {mg:Str->Option Value} {base:Heap} {N:List Str} {qual:Str} {scope:Scope} {f:Addr} {cd:Value} {A:Around} {outer:List Env} {s₀:Shared} {H₀:Hp} {E:XK}
end
section
variable {X:Cx}
end
end L2
namespace L2
open PySem PySem.Spec PyProof.Rows
section
variable {prog:Program} {w:World} {A:Around} {E:Value->Shared->Prop} {s:Shared} {K:PySem.W.Frag} {x D:Addr} {name:Str}
end
section
variable {X:Cx}
end
section
variable {X:Cx} {CX:CXT} {k:Nat} {f C:Addr} {fd:FuncData} {ps:List Str} {sp:Sp} {dvs:List V} {ds:List Value} {x m:Str} {p pos apos:Pos} {e o:Expr} {es:List Expr} {ta:TE} {t:TA}
end
section
variable {X:Cx} {pins:List (Addr × Obj)} {σ:St} {H:Hp} {s:Shared}
end
section
variable {X:Cx}
end
end L2
namespace L2
open PySem PySem.Spec PyProof.Rows
section
variable {X:Cx} {CX:CXT} {e:Expr} {te:XK->TE} {pos:Pos}
end
section
variable {X:Cx} {CX:CXT} {k:Nat} {f C:Addr} {fd:FuncData} {ps:List Str} {sp:Sp} {dvs:List V} {ds:List Value} {x m:Str} {p pos apos:Pos} {e o:Expr} {es:List Expr} {ta:TE} {t:TA}
end
section
variable {X:Cx}
end
end L2
namespace L2
open PySem PySem.Spec PyProof.Rows
theorem cmp_loop2 {prog:Program} {w:World} {A:Around} {R:Result->Shared->Prop} {s:Shared} {elt iter:Expr} {tg:Expr} {ifs:List Expr} {sc:Scope} {pos:Pos} {it acc:Value} {env:Env} (J:Nat->Shared->Prop)
  (one:∀ k st,J k st->wpAny (model prog w) A (pyNext it) (fun r s₁=>match r with
   | none=>R (.ok .next) s₁
   | some v=>wpAny (model prog w) A (letOwnedTupleGo tg it v) (fun _ sg=>wpAny (model prog w) A (assign tg env v) (fun _ s₂ =>
     wpAny (model prog w) A (cmpTests ifs env) (fun ok s₃ =>
      if ok=true then wpAny (model prog w) A (eval elt env) (fun y s₄=>wpAny (model prog w) A (call (.builtin "list.append") [acc,y]) (fun _ s₅=>∃ m,m<k/\J m s₅) (fun _ _=>False) s₄) (fun _ _=>False) s₃
      else ∃ m,m<k/\J m s₃) (fun _ _=>False) s₂) (fun _ _=>False) sg) (fun _ _=>False) s₁) (fun _ _=>False) st)
  (k0:Nat) (h0:J k0 s):codeAny (model prog w) A (.compLoop (.ListComp elt [⟨tg,iter,ifs,0⟩] sc pos) 0 it acc env) R s:=by
 refine codeAny_loop rfl J (fun k st hk=>?_) k0 h0
 show wpAny _ A ((compTurn (.ListComp elt [⟨tg,iter,ifs,0⟩] sc pos) 0 it acc env).onRaise (fun y=>do noteFrame y env;theTreesLotGoes y)) _ _ st
 refine wpAny_noted ?_
 rw [compTurn_list]
 refine Qa (wpAny_standAt (Qa (QJ (one k st hk) (fun r s₁ h₁=>?_) fun _ _ z=>z.elim)))
 cases r with
 | none=>exact Qc h₁
 | some v =>
  refine Qa (QJ h₁ (fun _ sg hg=>?_) fun _ _ z=>z.elim)
  refine Qa (QJ hg (fun _ s₂ h₂=>?_) fun _ _ z=>z.elim)
  refine Qa (QJ h₂ (fun ok s₃ h₃=>?_) fun _ _ z=>z.elim)
  cases ok with
  | false=>exact Qc ⟨rfl,h₃⟩
  | true =>
   refine Qa (Qa (QJ h₃ (fun y s₄ h₄=>?_) fun _ _ z=>z.elim))
   exact Qa (QJ h₄ (fun _ s₅ h₅=>Qc (Qc ⟨rfl,h₅⟩)) fun _ _ z=>z.elim)
structure CompSc2 (scX sc:Scope) (NX:List Str) (xs:List Str) (fv:List Str) (js:List Nat):Prop where
 kind:sc.kind=.function
 kindX:scX.kind=.function
 cell:∀ y∈sc.names,y.2≠.cell
 own:∀ x∈xs,sc.names.lookup x=some .local
 names:∀ y∈sc.names,y.2=.local->sc.names.lookup y.1=some .local
 free:∀ y∈sc.names,y.2=.free->scX.names.lookup y.1=some .cell
 nd:(xs++fv).Nodup
 at':js.map (fun j=>NX[j]?)=fv.map some
 fr:∀ y∈fv,sc.names.lookup y=some .free
noncomputable abbrev xc2 (X:Cx) (sc:Scope) (xs:List Str) (fv:List Str) (C:Addr) (s0:Shared) (H0:Hp) (ex:List Addr):Cx :=
 { X with N:=xs++fv,s₀:=s0,H₀:=H0,env:=compEnvC sc (clOf X.env.cells sc.names []) C X.env,outer:=X.stack,ex:=ex,fn:=fun _=>false,pn:=[],xe:=fun _ _=>False }
noncomputable def tStep2 (k:Nat) (js:List Nat) (g:TG) (tt:TT) (te:TE) (σ:St) (ys:List V) (N:List V->Hp->Prop) (x:V) (H':Hp):Prop :=
 ∀ os:List (Option V),os.length=k->g x (os++pick js σ) H' fun σ6 H6=>(∃ os':List (Option V),os'.length=k/\σ6=os'++pick js σ) /\
  tt σ6 H6 fun b H2=>if b=true then te σ6 H2 fun y H3=>ys.length<sizeLine/\N (ys++[y]) H3 else N ys H2
noncomputable def tCompB2 (J:It) (k:Nat) (js:List Nat) (g:TG) (tt:TT) (te:TE):TE:=fun σ H1 Q=>∃ W:Nat->Nat->List V->Hp->Prop,(∃ m,W 0 m [] H1)/\∀ i m ys H,W i m ys H ->
 (J.stop i H/\∀ p,H p=none->Q (.ref p) (upd H p (.lst ys))) ∨
 (J.go i H/\∃ N:List V->Hp->Prop,(∀ ys' H',N ys' H'->∃ m',m'<m/\W (i+1) m' ys' H')/\∀ x H',J.yld i H x H'->tStep2 k js g tt te σ ys N x H')
noncomputable def tComp2 (wi:TI) (k:Nat) (js:List Nat) (g:TG) (tt:TT) (te:TE):TE:=fun σ H Q=>wi σ H fun J H1=>tCompB2 J k js g tt te σ H1 Q
section
variable {X:Cx} {pins:List (Addr × Obj)} {σ:St} {H2:Hp} {s2:Shared} {elt iter tg:Expr} {xs:List Str} {ifs:List Expr} {sc scX:Scope} {pos:Pos} {fv:List Str} {js:List Nat} {g:TG} {tt:TT} {te:TE}
theorem comp_core2 (S:CompSc2 scX sc X.N xs fv js) (hsx:X.env.scope=scX) (hcalm:X.calm=true) (hgg:∀ C s0 H0 ex,PG (xc2 X sc xs fv C s0 H0 ex) tg g)
  (ht:∀ C s0 H0 ex,PIf (xc2 X sc xs fv C s0 H0 ex) ifs tt) (he:∀ C s0 H0 ex,PE (xc2 X sc xs fv C s0 H0 ex) elt te)
  {it:Addr} {fp:List Addr} {tn:Nat->Heap->Prop} {J:It} (I2:Inv X pins σ H2 s2) (T:Turn X.prog X.w X.K tg J fp it tn) (st2:tn 0 s2.heap) (f2:∀ b∈fp,FpOk X pins H2 b)
  {Q:VK} {W:Nat->Nat->List V->Hp->Prop} (w0:∃ m,W 0 m [] H2)
  (step:∀ i m ys H,W i m ys H->(J.stop i H/\∀ p,H p=none->Q (.ref p) (upd H p (.lst ys))) ∨
   (J.go i H/\∃ N:List V->Hp->Prop,(∀ ys' H',N ys' H'->∃ m',m'<m/\W (i+1) m' ys' H') /\
    ∀ x H',J.yld i H x H'->tStep2 xs.length js g tt te σ ys N x H'))
  {RR:Value->Addr->Result->Shared->Prop} {E:Value->Shared->Prop}
  (fin:∀ (D C:Addr) (s':Shared) (H':Hp),Inv X pins σ H' s'->Q (.ref D) H'->(∃ m,s'.heap.Ns C m)->FpOk X pins H' C->RR (.ref D) C (.ok .next) s') :
  wpAny (model X.prog X.w) X.A (newList []) (fun acc s₃=>wpAny (model X.prog X.w) X.A (newFunctionEnv sc X.env.globals (clOf X.env.cells sc.names []) [] X.env.qual none .none (some X.env)) (fun cenv s₄ =>
   codeAny (model X.prog X.w) X.A (.compStart (.ListComp elt [⟨tg,iter,ifs,0⟩] sc pos) 0 (.ref it) acc { cenv with scope:=relabel sc X.env }) (RR acc cenv.locals) s₄) E s₃) E s2:=by
 have hfree:∀ y∈sc.names,y.2=.free->∃ c,X.env.cells.lookup y.1=some c:=fun y hy hf=>I2.ok.has y.1 (.inl (by show X.env.scope.names.lookup y.1=_;rw [hsx];exact S.free y hy hf))
 obtain ⟨cl1,_,cl3⟩:=clOf_look (cells:=X.env.cells) sc.names [] hfree (fun y c h=>by simp at h)
 refine wpAny_newObj_type (wpAny_newFunctionEnv S.cell (by intro y hy;simp at hy) (fun h₁ hns₁ hsb₁=>?_) S.kind)
 dsimp only at hns₁ hsb₁ ⊢
 generalize hG:s2.heap.push { cls:=.type "list",dict:=none,data:=.seq ([]:List Value).toArray }=G at hns₁ hsb₁ ⊢
 have hGz:G.objs.size=s2.heap.objs.size+1:=by rw [<- hG,Heap.size_push]
 have upG:∀ b o,s2.heap.get? b=some o->G.get? b=some o:=fun b o e=>hG ▸ Qd _ e
 have upH:∀ b o,G.get? b=some o->h₁.get? b=some o:=fun b o e=>hsb₁.extBut b o (Qy (Qq e)) (Qd _ e)
 have ltD:∀ b o,s2.heap.get? b=some o->b≠s2.heap.objs.size:=fun b o e=>Qy (Qq e)
 have fpo:∀ b∈fp,∃ o,s2.heap.get? b=some o:=fun b hb=>by obtain ⟨o,e,_⟩:=T.obj 0 _ st2 b hb;exact ⟨o,e⟩
 have fpD:∀ b∈fp,b≠s2.heap.objs.size:=fun b hb=>by obtain ⟨o,e⟩:=fpo b hb;exact ltD b o e
 have fpC:∀ b∈fp,b≠G.objs.size:=fun b hb=>by obtain ⟨o,e⟩:=fpo b hb;exact Qy (Qq (upG b o e))
 have cellO:∀ y c,(clOf X.env.cells sc.names []).lookup y=some c->∃ v,s2.heap.IsCell c v:=fun y c e=>I2.cell y c (cl1 y c e)
 have cellD:∀ y c,(clOf X.env.cells sc.names []).lookup y=some c->c≠s2.heap.objs.size:=fun y c e=>by obtain ⟨v,q⟩:=cellO y c e;exact Qy q.lt
 have Dfs:s2.heap.objs.size∉frs X.stack:=fun hb=>by
  rcases Qn (I2.stkSub _ hb) with z | z
  ·exact absurd I2.lt (by rw [<- z];exact Nat.lt_irrefl _)
  ·exact I2.nofs (Qf _) z
 have fpfs:∀ b∈fp,b∉frs X.stack:=fun b hb hz=>by
  obtain ⟨_,f1,f2',_⟩:=f2 b hb
  rcases Qn (I2.stkSub _ hz) with z | z
  ·exact f1 z
  ·exact f2' z
 have HD:H2 s2.heap.objs.size=none:=I2.hok.fresh (Qf _)
 have HC:H2 G.objs.size=none:=I2.hok.fresh (by rw [hGz];exact Nat.le_succ _)
 have DC:s2.heap.objs.size≠G.objs.size:=by rw [hGz];exact Qy (Nat.lt_succ_self _)
 have okC:Cx.Ok (xc2 X sc xs fv G.objs.size { s2 with heap:=G } H2 (s2.heap.objs.size::fp)):=by
  refine ⟨I2.ok.mod,S.kind,I2.ok.glob,I2.ok.blt,Qf _,fun y z c h1 h2=>I2.ok.inj y z c (cl1 _ _ h1) (cl1 _ _ h2),fun y hy=>?_,fun y c hfn _=>(by cases hfn),I2.ok.hd,I2.ok.frames,.inl rfl,fun b hb=>?_,fun b o e=>?_,?_,fun b o e hb=>?_,fun b hb=>?_,?_,I2.stkFree⟩
  ·exact Option.isSome_iff_exists.mp (cl3 y (relabel_back S.cell hy))
  ·rcases Qn hb with z | z
   ·subst z;exact ⟨DC,cellD⟩
   ·refine ⟨fpC b z,fun y c e=>?_⟩
    obtain ⟨_,_,_,_,f4,_⟩:=f2 b z
    exact f4 y c (cl1 y c e)
  ·exact ⟨upG b o (I2.bs b o e).1,(I2.bs b o e).2⟩
  ·show X.base.objs.size<=G.objs.size
   rw [hGz];exact Nat.le_succ_of_le (QE I2.ok.bsz I2.sz)
  ·rcases Qn hb with z | z
   ·exact ltD b o (I2.bk b o e) z
   ·obtain ⟨_,_,_,f3,_⟩:=f2 b z
    rcases f3 with q | q
    ·exact I2.ok.noex b o e q
    ·exact absurd (Nat.lt_of_lt_of_le (Qq e) (QE I2.ok.bsz q)) (Nat.lt_irrefl _)
  ·rcases Qn hb with z | z
   ·subst z;exact Dfs
   ·exact fpfs b z
  ·exact (I2.stack).of_keeps fun b o e _=>⟨o,upG b o e,rfl⟩
 have lenC:∀ os:List (Option V),os.length=xs.length->(os++pick js σ).length=(xs++fv).length:=fun os ho=>by
  have:=congrArg List.length S.at'
  simp only [Qi] at this
  simp [pick,this,ho]
 have hacc:h₁.get? s2.heap.objs.size=some { cls:=.type "list",dict:=none,data:=.seq ([]:List Value).toArray }:=upH _ _ (hG ▸ Qo _ rfl)
 have I4:Inv (xc2 X sc xs fv G.objs.size { s2 with heap:=G } H2 (s2.heap.objs.size::fp)) [(s2.heap.objs.size,{ cls:=.type "list",dict:=none,data:=.seq ([]:List Value).toArray })] (xs.map (fun _=>none)++pick js σ) H2 { s2 with heap:=h₁,toks:=s2.toks+([]:List (Str × Value)).length }:=by
  refine ⟨okC,rfl,I2.bare,Un.kept upH,⟨_,hns₁,fun i y v e1 e2 e3=>?_⟩,fun y c e=>?_,HC,fun y c e=>I2.freeC y c (cl1 y c e),fun p hp=>?_,I2.hok.kept fun b u e=>upH b u (upG b u e),lenC _ (by simp)⟩
  ·by_cases hix:i<xs.length
   ·have:(xs.map (fun _=>(none:Option V))++pick js σ)[i]?=some none:=by
     rw [Qz (by simpa using hix),Ql,Qb hix];rfl
    rw [this] at e2
    cases e2
   ·obtain ⟨i',rfl⟩:∃ i',i=xs.length+i':=⟨i-xs.length,by omega⟩
    have e1':fv[i']?=some y:=by
     have e1a:(xs++fv)[xs.length+i']?=some y:=e1
     rw [Qx (by omega),Nat.add_sub_cancel_left] at e1a
     exact e1a
    have e2':(pick js σ)[i']?=some (some v):=by
     have e2a:=e2
     rw [Qx (by simp),Qi,Nat.add_sub_cancel_left] at e2a
     exact e2a
    have q:=congrArg (fun l=>l[i']?) S.at'
    simp only [Ql,e1',Option.map_some] at q
    cases hj:js[i']? with
    | none=>rw [hj] at q;cases q
    | some j =>
     rw [hj] at q
     have hj':X.N[j]?=some y:=Qr q
     unfold pick at e2'
     rw [Ql,hj] at e2'
     have e2'':(σ[j]?).getD none=some v:=Qr e2'
     have e2b:σ[j]?=some (some v):=by
      cases hh:σ[j]? with
      | none=>rw [hh] at e2'';cases e2''
      | some o=>rw [hh] at e2'';exact congrArg some e2''
     have hm:y∈fv:=Qs e1'
     have hcX:scX.names.lookup y=some .cell:=S.free (y,.free) (PySem.mem_of_lookup (S.fr y hm)) rfl
     have kX:X.env.kindOf y=some .cell:=by show X.env.scope.names.lookup y=_;rw [hsx];exact hcX
     obtain ⟨m,hn,hl⟩:=I2.loc
     obtain ⟨u,r,lk⟩:=hl j y v hj' e2b (.inr (.inl kX))
     refine ⟨u,r,?_⟩
     rcases lk with ⟨k,_⟩ | ⟨_,c,ec,z⟩
     ·rw [kX] at k;cases k
     ·refine .inr ⟨.inl (relabel_free (by rw [hsx];exact S.kindX) (S.fr y hm) kX),c,?_,?_⟩
      ·obtain ⟨c',ec'⟩:=Option.isSome_iff_exists.mp (cl3 y (PySem.mem_of_lookup (S.fr y hm)))
       have:=cl1 y c' ec'
       rw [ec] at this;cases this
       exact ec'
      ·obtain ⟨o,ho,hd⟩:=z
       exact ⟨o,upH c o (upG c o ho),hd⟩
  ·obtain ⟨v,o,ho,hd⟩:=cellO y c e
   exact ⟨v,o,upH c o (upG c o ho),hd⟩
  ·have hp':p=(s2.heap.objs.size,{ cls:=.type "list",dict:=none,data:=.seq ([]:List Value).toArray }):=by simpa using hp
   subst hp'
   exact ⟨hacc,HD,DC,Dfs,fun v z=>by cases z⟩
 have loop:codeAny (model X.prog X.w) X.A (.compLoop (.ListComp elt [⟨tg,iter,ifs,0⟩] sc pos) 0 (.ref it) (.ref s2.heap.objs.size) (compEnvC sc (clOf X.env.cells sc.names []) G.objs.size X.env)) (RR (.ref s2.heap.objs.size) G.objs.size) { s2 with heap:=h₁,toks:=s2.toks+([]:List (Str × Value)).length }:=by
  obtain ⟨m0,w0⟩:=w0
  have fok:∀ {H':Hp} {o:Obj},(∀ b∈fp,H' b=none)->∀ b∈fp,FpOk (xc2 X sc xs fv G.objs.size { s2 with heap:=G } H2 (s2.heap.objs.size::fp)) [(s2.heap.objs.size,o)] H' b:=fun {H' o} hn b hb=>by
   refine ⟨hn b hb,fpC b hb,fpfs b hb,.inl (Qg _ hb),fun y c e=>?_,fun p hp=>?_⟩
   ·obtain ⟨_,_,_,_,f4,_⟩:=f2 b hb
    exact f4 y c (cl1 y c e)
   ·have hp':p=(s2.heap.objs.size,o):=by simpa using hp
    subst hp'
    exact (fpD b hb).symm
  refine cmp_loop2 (fun k st=>∃ (i:Nat) (ys:List V) (its:List Value) (n:Nat) (os:List (Option V)) (H':Hp),os.length=xs.length/\Inv (xc2 X sc xs fv G.objs.size { s2 with heap:=G } H2 (s2.heap.objs.size::fp)) [(s2.heap.objs.size,{ cls:=.type "list",data:=.seq its.toArray n })] (os++pick js σ) H' st /\
   Vals ys its/\ys.length<=sizeLine/\tn i st.heap/\(∀ b∈fp,H' b=none)/\W i k ys H') ?_ m0
   ⟨0,[],[],_,xs.map (fun _=>none),H2,by simp,I4,.nil,Qp _,T.keep _ _ _ st2 fun b _ o e=>upH b o (upG b o e),fun b hb=>(f2 b hb).1,w0⟩
  rintro k s3 ⟨i,ys,its,n,os,H3,hos,I3,rv,hz,st3,fr3,w3⟩
  rcases step i k ys H3 w3 with ⟨stop,q⟩ | ⟨go,N,hN,hgo⟩
  ·refine thn (T.done (xc2 X sc xs fv G.objs.size { s2 with heap:=G } H2 (s2.heap.objs.size::fp)) rfl rfl rfl hcalm i _ s3 _ H3 _ I3 (fok fr3) st3 stop) fun r s4 hsl42=>?_
   obtain ⟨hr,I4⟩:=hsl42
   subst hr
   obtain ⟨pD,pn,_,_,_⟩:=I4.pin _ (List.mem_append_right _ Qk)
   have B:=I4.base
   have nD:∀ b o,s2.heap.get? b=some o->b∉fp->b∉s2.heap.objs.size::fp:=fun b o e hx hm=>(Qn hm).elim (ltD b o e) hx
   have neH:∀ b u,H2 b=some u->b≠s2.heap.objs.size:=fun b u e z=>by rw [z,HD] at e;cases e
   have JX:Inv X pins σ (upd H3 s2.heap.objs.size (.lst ys)) s4:=by
    refine I2.call' (ch:=fp) I4.os ⟨fun b o e hn hb hx=>B.keep b o (upG b o e) hn hb (nD b o e hx),fun b o e hn hb hx=>B.slot b o (upG b o e) hn hb (nD b o e hx),fun b o e hn hx=>?_,fun b o e hx=>B.there b o (upG b o e) (nD b o e hx),fun b xs e=>?_,fun b o u e=>?_,fun b ps e=>?_⟩ (fun b u e=>?_) I4.bare fun b hb=>?_
    ·rw [upd_ne (ltD b o e)];exact B.free b o (upG b o e) hn (nD b o e hx)
    ·rw [upd_ne (neH b _ e)];exact B.tups b xs e
    ·rw [upd_ne (neH b _ e)];exact B.frzs b o u e
    ·rw [upd_ne (neH b _ e)];exact B.tbls b ps e
    ·by_cases hb:b=s2.heap.objs.size
     ·subst hb
      rw [upd_same] at e;cases e
      exact ⟨hz,its,n,rv,pD⟩
     ·rw [upd_ne hb] at e
      exact (I4.hok b u e).stay (fun _ _ _ z=>z) (fun c z=>by rw [upd_ne (ne_of_none z pn)];exact z) fun c xs z=>by rw [upd_ne (ne_of_none z pn)];exact z
    ·obtain ⟨_,f1,_,f3,f4,f5⟩:=f2 b hb
     exact ⟨f3,f1,f4,f5⟩
   refine fin _ _ s4 _ JX (q _ pn) (by obtain ⟨m,hm,_⟩:=I4.loc;exact ⟨m,hm⟩) (I2.fpOk (by rw [hGz];exact Nat.le_succ _) ?_)
   rw [upd_ne DC.symm];exact I4.free
  ·refine thn (T.item (xc2 X sc xs fv G.objs.size { s2 with heap:=G } H2 (s2.heap.objs.size::fp)) rfl rfl rfl hcalm i _ s3 _ H3 _ I3 (fok fr3) st3 go) fun r s4 hsl43=>?_
   obtain ⟨u,hr,h4⟩:=hsl43
   subst hr
   refine thn h4 fun _ s5 hsl44=>?_
   obtain ⟨y,H5,I5,r5,y5,st5,fr5⟩:=hsl44
   have I5':=I5.pinned (fok fr5) (T.obj _ _ st5)
   refine thn (hgg _ _ _ _ _ s5 _ H5 y u _ I5' r5 (hgo y _ y5 os hos)) fun _ s6 hsl45=>?_
   obtain ⟨σ6,H6,I6,⟨os',hos',eσ⟩,q6⟩:=hsl45
   subst eσ
   refine thn (ht _ _ _ _ _ s6 _ _ _ I6 q6) fun b s7 hsl46=>?_
   obtain ⟨H7,I7,q7⟩:=hsl46
   cases b with
   | false =>
    rw [if_neg Bool.false_ne_true] at q7 ⊢
    obtain ⟨m',hm,w7⟩:=hN ys H7 q7
    exact ⟨m',hm,i+1,ys,its,n,os',H7,hos',I7.unpinned,rv,hz,T.keep _ _ _ st5 fun b hb o e=>(I7.pin (b,o) (List.mem_append_right _ (List.mem_append_right _ (mem_pinsAt hb e)))).1,fun b hb=>by
     obtain ⟨o,e,d⟩:=T.obj _ _ st5 b hb
     exact (I7.pin (b,o) (List.mem_append_right _ (List.mem_append_right _ (mem_pinsAt hb e)))).2.1,w7⟩
   | true =>
    rw [if_pos rfl] at q7 ⊢
    refine thn (he _ _ _ _ _ s7 _ H7 _ I7 q7) fun u8 s8 hsl47=>?_
    obtain ⟨y8,H8,I8,r8,hl8,q8⟩:=hsl47
    obtain ⟨m',hm,w8⟩:=hN _ H8 q8
    obtain ⟨pD,pn,pC,pf,_⟩:=I8.pin _ (List.mem_append_right _ (List.mem_append_left _ Qk))
    refine wpAny_list_append_plain (items:=its.toArray) ⟨n,pD⟩ (fun h9 hl9 sb9=>?_) (by rw [Qm,<- rv.length];exact Nat.le_of_lt hl8)
    have pinF:∀ p∈pinsAt fp s5.heap,p∈[(s2.heap.objs.size,({ cls:=.type "list",data:=.seq its.toArray n }:Obj))]++pinsAt fp s5.heap:=fun p hp=>List.mem_append_right _ hp
    have I8a:=I8.pins_of (pins':=pinsAt fp s5.heap) fun p hp=>I8.pin p (List.mem_append_right _ (pinF p hp))
    have I9:=I8a.turned (it:=s2.heap.objs.size) (h':=h9) (t':=s8.toks) (fun b o hb e=>(sb9.2 b hb).trans e) pn DC (.inl Qk) (fun y c e=>cellD y c e) fun p hp=>fpD p.1 (of_pinsAt (by simpa using hp)).1
    obtain ⟨n9,e9⟩:=hl9
    have e9':h9.get? s2.heap.objs.size=some { cls:=.type "list",data:=.seq (its++[u8]).toArray n9 }:=by
     rw [e9,show (its++[u8]).toArray=its.toArray.push u8 by simp]
    refine ⟨m',hm,i+1,ys++[y8],its++[u8],n9,os',H8,hos',I9.pins_of fun p hp=>?_,rv.append (.cons r8 .nil),by rw [QB];exact hl8,T.keep _ _ _ st5 fun b hb o e=>(I9.pin (b,o) (List.mem_append_right _ (mem_pinsAt hb e))).1,fun b hb=>?_,w8⟩
    ·have hp':p=(s2.heap.objs.size,{ cls:=.type "list",data:=.seq (its++[u8]).toArray n9 }):=by simpa using hp
     subst hp'
     exact ⟨e9',pn,DC,pf,fun v z=>by cases z⟩
    ·obtain ⟨o,e,d⟩:=T.obj _ _ st5 b hb
     exact (I9.pin (b,o) (List.mem_append_right _ (mem_pinsAt hb e))).2.1
 exact codeAny_compStart_list loop (T.self _ 0 _ _ _ (T.keep _ _ _ st2 fun b _ o e=>upH b o (upG b o e)) loop)
theorem pe_comp2 {wi:TI} (scX:Scope) (NX fv:List Str) (js:List Nat) (hNX:X.N=NX) (S:CompSc2 scX sc NX xs fv js) (hsx:X.env.scope=scX) (hcalm:X.calm=true) (hi:PI X tg iter wi) (hgg:∀ C s0 H0 ex,PG (xc2 X sc xs fv C s0 H0 ex) tg g)
  (ht:∀ C s0 H0 ex,PIf (xc2 X sc xs fv C s0 H0 ex) ifs tt) (he:∀ C s0 H0 ex,PE (xc2 X sc xs fv C s0 H0 ex) elt te)
  (hs:∀ v,foldedSetIterable iter X.env v=pure v:=by intro _;rfl):PE X (.ListComp elt [⟨tg,iter,ifs,0⟩] sc pos) (tComp2 wi xs.length js g tt te):=by
 intro pins s σ H Q I h
 rw [<- hNX] at S
 have hfree:∀ y∈sc.names,y.2=.free->∃ c,X.env.cells.lookup y.1=some c:=fun y hy hf=>I.ok.has y.1 (.inl (by show X.env.scope.names.lookup y.1=_;rw [hsx];exact S.free y hy hf))
 rw [eval_ListComp]
 refine wpAny_comprehension_free (use:=none) rfl hs (closure_eq hfree) S.kind S.names (thn (hi pins s σ H _ I h) fun v s1 h1=>thn h1 fun itv s2 h2=>?_)
 obtain ⟨it,fp,tn,J,H2,e,I2,T,st2,f2,W,w0,step⟩:=h2
 subst e
 refine comp_core2 (RR:=fun acc C=>compPost (model X.prog X.w) X.A X.xe none (EP X pins σ Q) acc C) S hsx hcalm hgg ht he I2 T st2 f2 w0 step fun D C s' H' I' q hsl48 hC=>?_
 obtain ⟨m,hm⟩:=hsl48
 obtain ⟨f0,f1,_,f3,f4,f5⟩:=hC
 exact ⟨m,hm,fun h' sb=>⟨.ref D,H',I'.turned (t':=s'.toks) (fun b o hb e=>(sb.2 b hb).trans e) f0 f1 f3 f4 f5,rfl,q⟩⟩
theorem ps_setcomp2 {wi:TI} {i:Nat} {y:Str} {py spos:Pos} (scX:Scope) (NX fv:List Str) (js:List Nat) (hNX:X.N=NX) (S:CompSc2 scX sc NX xs fv js) (hsx:X.env.scope=scX) (hcalm:X.calm=true) (hi:PI X tg iter wi) (hgg:∀ C s0 H0 ex,PG (xc2 X sc xs fv C s0 H0 ex) tg g)
  (ht:∀ C s0 H0 ex,PIf (xc2 X sc xs fv C s0 H0 ex) ifs tt) (he:∀ C s0 H0 ex,PE (xc2 X sc xs fv C s0 H0 ex) elt te)
  (hN:X.N.Nodup) (hy:X.N[i]?=some y) (hl:X.env.scope.names.lookup y=some .local) (hsw:swapsWith (.ListComp elt [⟨tg,iter,ifs,0⟩] sc pos) (some (.Name y py)) spos.line X.env=pure true)
  (hs:∀ v,foldedSetIterable iter X.env v=pure v:=by intro _;rfl):PS X (.Assign [.Name y py] (.ListComp elt [⟨tg,iter,ifs,0⟩] sc pos) spos) (tAsg (tComp2 wi xs.length js g tt te) (gName i)):=by
 intro pins s σ H D I h
 rw [<- hNX] at S
 have hfree:∀ y∈sc.names,y.2=.free->∃ c,X.env.cells.lookup y.1=some c:=fun y hy hf=>I.ok.has y.1 (.inl (by show X.env.scope.names.lookup y.1=_;rw [hsx];exact S.free y hy hf))
 rw [exec_Assign_Name_used _ _ _ _ hsw]
 refine Qa (wpAny_standAt (Qa ?_))
 show wpAny _ _ (do let _ <- comprehension (.ListComp elt [⟨tg,iter,ifs,0⟩] sc pos) sc X.env _ (newList []) false (eval iter X.env) (some (assign (.Name y py) X.env))) _ _ s
 refine Qa (QJ (wpAny_comprehension_free (use:=some (assign (.Name y py) X.env)) (Q:=fun _ st=>SP X pins D .next st) rfl hs (closure_eq hfree) S.kind S.names
  (thn (hi pins s σ H _ I h) fun v s1 h1=>thn h1 fun itv s2 h2=>?_)) (fun _ st hq=>Qc (Qc hq)) fun _ _ e=>e)
 obtain ⟨it,fp,tn,J,H2,e,I2,T,st2,f2,W,w0,step⟩:=h2
 subst e
 refine comp_core2 (Q:=fun v H1=>gName i v σ H1 D.nx) (RR:=fun acc C=>compPost (model X.prog X.w) X.A X.xe (some (assign (.Name y py) X.env)) (fun _ st=>SP X pins D .next st) acc C) S hsx hcalm hgg ht he I2 T st2 f2 w0 step fun Dl C s' H' I' q hsl49 hC=>?_
 obtain ⟨m,hm⟩:=hsl49
 obtain ⟨f0,f1,_,f3,f4,f5⟩:=hC
 refine wpAny_assign_Name (store_ok2 I' hN hy (.inl hl) (show RelV (.ref Dl) (.ref Dl) from rfl) (fun s'' I'' hsl50=>?_) (.inr hl))
 obtain ⟨a,sb,ha⟩:=hsl50
 have aC:C≠a:=fun z=>by
  rcases ha with ha | ha
  ·exact f1 (z.trans ha)
  ·exact f4 y a ha z.symm
 refine ⟨m,hm.sameBut sb aC,fun h' sb'=>?_⟩
 exact ⟨_,_,I''.turned (t':=s''.toks) (fun b o hb e=>(sb'.2 b hb).trans e) f0 f1 f3 f4 f5,q⟩
end
theorem CompSc.two {scX sc:Scope} {NX:List Str} {x:Str} {fv:List Str} {js:List Nat} (S:CompSc scX sc NX x fv js):CompSc2 scX sc NX [x] fv js :=
 ⟨S.kind,S.kindX,S.cell,fun y hy=>by rw [List.mem_singleton.mp hy];exact S.own,S.names,S.free,S.nd,S.at',S.fr⟩
section
variable {X:Cx} {pins:List (Addr × Obj)} {σ:St} {H2:Hp} {s2:Shared} {elt iter:Expr} {x:Str} {px:Pos} {ifs:List Expr} {sc scX:Scope} {pos:Pos} {fv:List Str} {js:List Nat} {tt:TT} {te:TE}
theorem comp_core (S:CompSc scX sc X.N x fv js) (hsx:X.env.scope=scX) (hcalm:X.calm=true)
  (ht:∀ C s0 H0 ex,PIf (xc X sc x fv C s0 H0 ex) ifs tt) (he:∀ C s0 H0 ex,PE (xc X sc x fv C s0 H0 ex) elt te)
  {it:Addr} {fp:List Addr} {tn:Nat->Heap->Prop} {J:It} (I2:Inv X pins σ H2 s2) (T:Turn X.prog X.w X.K (.Name x px) J fp it tn) (st2:tn 0 s2.heap) (f2:∀ b∈fp,FpOk X pins H2 b)
  {Q:VK} {W:Nat->Nat->List V->Hp->Prop} (w0:∃ m,W 0 m [] H2)
  (step:∀ i m ys H,W i m ys H->(J.stop i H/\∀ p,H p=none->Q (.ref p) (upd H p (.lst ys))) ∨
   (J.go i H/\∃ N:List V->Hp->Prop,(∀ ys' H',N ys' H'->∃ m',m'<m/\W (i+1) m' ys' H') /\
    ∀ x H',J.yld i H x H'->tt (some x::pick js σ) H' fun b H2=>if b=true then te (some x::pick js σ) H2 fun y H3=>ys.length<sizeLine/\N (ys++[y]) H3 else N ys H2))
  {RR:Value->Addr->Result->Shared->Prop} {E:Value->Shared->Prop}
  (fin:∀ (D C:Addr) (s':Shared) (H':Hp),Inv X pins σ H' s'->Q (.ref D) H'->(∃ m,s'.heap.Ns C m)->FpOk X pins H' C->RR (.ref D) C (.ok .next) s') :
  wpAny (model X.prog X.w) X.A (newList []) (fun acc s₃=>wpAny (model X.prog X.w) X.A (newFunctionEnv sc X.env.globals (clOf X.env.cells sc.names []) [] X.env.qual none .none (some X.env)) (fun cenv s₄ =>
   codeAny (model X.prog X.w) X.A (.compStart (.ListComp elt [⟨.Name x px,iter,ifs,0⟩] sc pos) 0 (.ref it) acc { cenv with scope:=relabel sc X.env }) (RR acc cenv.locals) s₄) E s₃) E s2:=by
 refine comp_core2 (xs:=[x]) (g:=gName 0) (RR:=RR) S.two hsx hcalm (fun C s0 H0 ex=>pg_name S.nd rfl (.inl (lookup_relabel_local S.own)) (.inr (lookup_relabel_local S.own))) ht he I2 T st2 f2 w0 (fun i m ys H w=>?_) fin
 rcases step i m ys H w with h | ⟨go,N,hN,st⟩
 ·exact .inl h
 ·refine .inr ⟨go,N,hN,fun y H' hy os hos=>?_⟩
  obtain ⟨o,rfl⟩:=List.length_eq_one_iff.mp hos
  exact ⟨⟨[some y],rfl,rfl⟩,st y H' hy⟩
theorem pe_comp {wi:TI} (scX:Scope) (NX fv:List Str) (js:List Nat) (hNX:X.N=NX) (S:CompSc scX sc NX x fv js) (hsx:X.env.scope=scX) (hcalm:X.calm=true) (hi:PI X (.Name x px) iter wi)
  (ht:∀ C s0 H0 ex,PIf (xc X sc x fv C s0 H0 ex) ifs tt) (he:∀ C s0 H0 ex,PE (xc X sc x fv C s0 H0 ex) elt te)
  (hs:∀ v,foldedSetIterable iter X.env v=pure v:=by intro _;rfl):PE X (.ListComp elt [⟨.Name x px,iter,ifs,0⟩] sc pos) (tComp wi js tt te):=by
 intro pins s σ H Q I h
 rw [<- hNX] at S
 have hfree:∀ y∈sc.names,y.2=.free->∃ c,X.env.cells.lookup y.1=some c:=fun y hy hf=>I.ok.has y.1 (.inl (by show X.env.scope.names.lookup y.1=_;rw [hsx];exact S.free y hy hf))
 rw [eval_ListComp]
 refine wpAny_comprehension_free (use:=none) rfl hs (closure_eq hfree) S.kind S.names (thn (hi pins s σ H _ I h) fun v s1 h1=>thn h1 fun itv s2 h2=>?_)
 obtain ⟨it,fp,tn,J,H2,e,I2,T,st2,f2,W,w0,step⟩:=h2
 subst e
 refine comp_core (RR:=fun acc C=>compPost (model X.prog X.w) X.A X.xe none (EP X pins σ Q) acc C) S hsx hcalm ht he I2 T st2 f2 w0 step fun D C s' H' I' q hsl51 hC=>?_
 obtain ⟨m,hm⟩:=hsl51
 obtain ⟨f0,f1,_,f3,f4,f5⟩:=hC
 exact ⟨m,hm,fun h' sb=>⟨.ref D,H',I'.turned (t':=s'.toks) (fun b o hb e=>(sb.2 b hb).trans e) f0 f1 f3 f4 f5,rfl,q⟩⟩
end
end L2
namespace L2
open PySem PySem.Spec PyProof.Rows
section
variable {κ:Type} [DecidableEq κ]
noncomputable def valV (kvs:List (κ × V)) (k:κ):Option V:=(kvs.find? fun kv=>decide (kv.1=k)).map (·.2)
noncomputable def putK (kvs:List (κ × V)) (k:κ) (v:V):List (κ × V) :=
 if (kvs.any fun kv=>decide (kv.1=k))=true then kvs.map (fun kv=>if kv.1=k then (kv.1,v) else kv) else kvs++[(k,v)]
theorem valV_pos {p:κ × V} {r:List (κ × V)} {k:κ} (e:p.1=k):valV (p::r) k=some p.2:=by simp [valV,List.find?_cons,e]
theorem valV_neg {p:κ × V} {r:List (κ × V)} {k:κ} (e:¬ p.1=k):valV (p::r) k=valV r k:=by simp [valV,List.find?_cons,e]
theorem valV_any (k:κ):∀ kvs:List (κ × V),(kvs.any fun kv=>decide (kv.1=k))=(valV kvs k).isSome
 | []=>rfl
 | p::r=>by
  rw [List.any_cons]
  by_cases e:p.1=k
  ·simp only [valV_pos e,Qw e,Bool.true_or,Option.isSome_some]
  ·rw [valV_neg e,Qj e,Bool.false_or];exact valV_any k r
theorem valV_map (k j:κ) (y:V):∀ kvs:List (κ × V),valV (kvs.map fun kv=>if kv.1=k then (kv.1,y) else kv) j=(valV kvs j).map fun x=>if j=k then y else x
 | []=>rfl
 | p::r=>by
  have ih:=valV_map k j y r
  rw [List.map_cons]
  by_cases h:p.1=k
  ·rw [if_pos h]
   by_cases e:p.1=j
   ·rw [valV_pos (p:=(p.1,y)) e,valV_pos e,Option.map_some,if_pos (e.symm.trans h)]
   ·rw [valV_neg (p:=(p.1,y)) e,valV_neg e,ih]
  ·rw [if_neg h]
   by_cases e:p.1=j
   ·rw [valV_pos (p:=p) e,valV_pos e,Option.map_some,if_neg (fun z=>h (e.trans z))]
   ·rw [valV_neg (p:=p) e,valV_neg e,ih]
theorem valV_snoc (k j:κ) (y:V):∀ kvs:List (κ × V),valV kvs k=none->valV (kvs++[(k,y)]) j=if j=k then some y else valV kvs j
 | [],_=>by
  by_cases e:k=j
  ·rw [if_pos e.symm];exact valV_pos (p:=(k,y)) e
  ·rw [if_neg (fun z=>e z.symm)];exact valV_neg (p:=(k,y)) e
 | p::r,hn=>by
  rw [List.cons_append]
  have hk:¬ p.1=k:=fun z=>by rw [valV_pos z] at hn;cases hn
  rw [valV_neg hk] at hn
  have ih:=valV_snoc k j y r hn
  by_cases e:p.1=j
  ·rw [valV_pos e,valV_pos e,if_neg (fun z=>hk (e.trans z))]
  ·rw [valV_neg e,valV_neg e,ih]
theorem valV_put (kvs:List (κ × V)) (k j:κ) (y:V):valV (putK kvs k y) j=if j=k then some y else valV kvs j:=by
 unfold putK
 by_cases a:(kvs.any fun kv=>decide (kv.1=k))=true
 ·rw [if_pos a,valV_map]
  rw [valV_any] at a
  by_cases e:j=k
  ·obtain ⟨x,hx⟩:=Option.isSome_iff_exists.mp a
   rw [if_pos e,e,hx,Option.map_some,if_pos rfl]
  ·rw [if_neg e]
   cases valV kvs j with
   | none=>rfl
   | some x=>rw [Option.map_some,if_neg e]
 ·rw [if_neg a]
  refine valV_snoc k j y kvs ?_
  rw [valV_any] at a
  cases q:valV kvs k with
  | none=>rfl
  | some x=>rw [q] at a;exact (a rfl).elim
theorem length_putK (kvs:List (κ × V)) (k:κ) (v:V):(putK kvs k v).length<=kvs.length+1:=by
 unfold putK
 split
 ·rw [Qi];omega
 ·rw [QB,List.length_cons,List.length_nil];omega
theorem RelO.isSome_eq {o:Option V} {u:Option Value} (r:RelO o u):o.isSome=u.isSome:=by
 cases o with
 | none=>cases u with
  | none=>rfl
  | some _=>exact (show False from r).elim
 | some _=>cases u with
  | none=>exact (show False from r).elim
  | some _=>rfl
theorem RelO.getD {o:Option V} {u:Option Value} {d:V} {d':Value} (r:RelO o u) (rd:RelV d d'):RelV (o.getD d) (u.getD d'):=by
 cases o with
 | none=>cases u with
  | none=>exact rd
  | some _=>exact (show False from r).elim
 | some _=>cases u with
  | none=>exact (show False from r).elim
  | some _=>exact r
theorem KV.val {kvs:List (κ × V)} {vs:List (κ × Value)} (r:KV kvs vs) (k:κ):RelO (valV kvs k) (valueAt vs k):=by
 unfold KV at r
 induction r with
 | nil=>exact True.intro
 | @cons p q ps qs h t ih =>
  obtain ⟨h1,h2⟩:=h
  by_cases e:p.1=k
  ·have e':q.1=k:=h1.symm.trans e
   have b:valueAt (q::qs) k=some q.2:=by simp [valueAt,List.find?_cons,e']
   rw [valV_pos e,b];exact h2
  ·have e':¬ q.1=k:=fun z=>e (h1.trans z)
   have b:valueAt (q::qs) k=valueAt qs k:=by simp [valueAt,List.find?_cons,e']
   rw [valV_neg e,b];exact ih
theorem KV.any {kvs:List (κ × V)} {vs:List (κ × Value)} (r:KV kvs vs) (k:κ):(kvs.any fun kv=>decide (kv.1=k))=vs.any fun kv=>decide (kv.1=k):=by
 unfold KV at r
 induction r with
 | nil=>rfl
 | cons h t ih=>rw [List.any_cons,List.any_cons,ih,h.1]
theorem KV.repl {kvs:List (κ × V)} {vs:List (κ × Value)} (r:KV kvs vs) (k:κ) {y:V} {u:Value} (ry:RelV y u) :
  KV (kvs.map fun kv=>if kv.1=k then (kv.1,y) else kv) (vs.map fun kv=>if kv.1=k then (kv.1,u) else kv):=by
 unfold KV at r ⊢
 induction r with
 | nil=>exact .nil
 | @cons p q ps qs h t ih =>
  rw [List.map_cons,List.map_cons]
  refine .cons ?_ ih
  obtain ⟨h1,h2⟩:=h
  by_cases e:p.1=k
  ·rw [if_pos e,if_pos (h1.symm.trans e)];exact ⟨h1,ry⟩
  ·rw [if_neg e,if_neg (fun z=>e (h1.trans z))];exact ⟨h1,h2⟩
theorem KV.put {kvs:List (κ × V)} {vs:List (κ × Value)} (r:KV kvs vs) (k:κ) {y:V} {u:Value} (ry:RelV y u):KV (putK kvs k y) (stored vs k u):=by
 unfold putK stored
 rw [r.any k]
 by_cases e:(vs.any fun kv=>decide (kv.1=k))=true
 ·rw [if_pos e,if_pos e];exact r.repl k ry
 ·rw [if_neg e,if_neg e];exact Paired.snoc r ⟨rfl,ry⟩
theorem KV.length {kvs:List (κ × V)} {vs:List (κ × Value)} (r:KV kvs vs):kvs.length=vs.length:=Paired.length r
end
theorem kV_is {P:Program} {w:World} {k:Key} {u:Value} (r:RelV (kV k) u):(mixKind P w).is k u=true:=by
 cases k with
 | inl i=>obtain ⟨t,e⟩:=(show ∃ t,u=Value.int i t from r);subst e;exact mixKind_int P w i t
 | inr x=>obtain ⟨t,e⟩:=(show ∃ t,u=Value.str x t from r);subst e;exact mixKind_str P w x t
theorem kV_inj {a b:Key} (e:kV a=kV b):a=b:=by
 cases a with
 | inl i=>cases b with
  | inl j=>have e':V.int i=V.int j:=e;injection e' with e';rw [e']
  | inr y=>exact nomatch (show V.int i=V.str y from e)
 | inr x=>cases b with
  | inl j=>exact nomatch (show V.str x=V.int j from e)
  | inr y=>have e':V.str x=V.str y:=e;injection e' with e';rw [e']
theorem kVs_inj:∀ {a b:List Key},a.map kV=b.map kV->a=b
 | [],[],_=>rfl
 | [],_::_,e=>by simp at e
 | _::_,[],e=>by simp at e
 | x::xs,y::ys,e=>by
  rw [List.map_cons,List.map_cons] at e
  injection e with e1 e2
  rw [kV_inj e1,kVs_inj e2]
theorem items_are {P:Program} {w:World}:∀ {ks:List Key} {us:List Value},Vals (ks.map kV) us->ItemsAre (mixKind P w) ks us
 | [],_,r=>by rw [List.map_nil] at r;cases r;exact .nil
 | k::ks,_,r=>by
  rw [List.map_cons] at r
  cases r with
  | cons h t=>exact .cons (kV_is h) (items_are t)
noncomputable abbrev KT (H:Hp):List (List Key × V)->List (List Key × Addr × Value)->Prop:=Paired fun p q=>p.1=q.1/\H q.2.1=some (.tup (p.1.map kV))/\RelV p.2 q.2.2
theorem KT.val {H:Hp} {kvs:List (List Key × V)} {xs:List (List Key × Addr × Value)} (r:KT H kvs xs) (k:List Key):RelO (valV kvs k) ((atKey xs k).map (·.2)):=by
 induction r with
 | nil=>exact True.intro
 | @cons p q ps qs h t ih =>
  obtain ⟨h1,_,h2⟩:=h
  by_cases e:p.1=k
  ·have e':q.1=k:=h1.symm.trans e
   have b:atKey (q::qs) k=some q.2:=by simp [atKey,List.find?_cons,e']
   rw [valV_pos e,b];exact h2
  ·have e':¬ q.1=k:=fun z=>e (h1.trans z)
   have b:atKey (q::qs) k=atKey qs k:=by simp [atKey,List.find?_cons,e']
   rw [valV_neg e,b];exact ih
theorem KT.repl {H:Hp} {kvs:List (List Key × V)} {xs:List (List Key × Addr × Value)} (r:KT H kvs xs) (k:List Key) {y:V} {u:Value} (ry:RelV y u) :
  KT H (kvs.map fun kv=>if kv.1=k then (kv.1,y) else kv) (xs.map (putAt k u)):=by
 induction r with
 | nil=>exact .nil
 | @cons p q ps qs h t ih =>
  rw [List.map_cons,List.map_cons]
  refine .cons ?_ ih
  obtain ⟨h1,h2,h3⟩:=h
  unfold putAt
  by_cases e:p.1=k
  ·rw [if_pos e,if_pos (h1.symm.trans e)];exact ⟨h1,h2,ry⟩
  ·rw [if_neg e,if_neg (fun z=>e (h1.trans z))];exact ⟨h1,h2,h3⟩
theorem KT.put {H:Hp} {kvs:List (List Key × V)} {xs:List (List Key × Addr × Value)} (r:KT H kvs xs) (k:List Key) {b:Addr} {y:V} {u:Value} (hb:H b=some (.tup (k.map kV))) (ry:RelV y u) :
  KT H (putK kvs k y) (storedH xs k b u):=by
 have e:(kvs.any fun kv=>decide (kv.1=k))=(atKey xs k).isSome:=by
  rw [valV_any,(r.val k).isSome_eq,Option.isSome_map]
 unfold putK storedH
 rw [e]
 by_cases q:(atKey xs k).isSome=true
 ·rw [if_pos q,if_pos q];exact r.repl k ry
 ·rw [if_neg q,if_neg q];exact Paired.snoc r ⟨rfl,hb,ry⟩
theorem KT.keeps {H H':Hp} {kvs:List (List Key × V)} {xs:List (List Key × Addr × Value)} (r:KT H kvs xs) (ht:∀ b ys,H b=some (.tup ys)->H' b=some (.tup ys)):KT H' kvs xs :=
 Paired.mapP r fun _ _ z=>⟨z.1,ht _ _ z.2.1,z.2.2⟩
section
variable {P:Program} {w:World} {H:Hp} {h:Heap} {a:Addr}
theorem rd_of {u:HO} (ok:HOk P w H h) (e:Rd H a u):ObjOk P w H h a u:=e.ok ok
theorem dk_rd {kvs:List (Key × V)} (ok:HOk P w H h) (e:Rd H a (.dK kvs)):kvs.length<=sizeLine/\(a == sysModules)=false/\∃ vs,KV kvs vs/\h.DictOf (mixKind P w) a vs :=
 show ObjOk P w H h a (.dK kvs) from rd_of ok e
theorem dk_of {kvs:List (Key × V)} (ok:HOk P w H h) (e:H a=some (.dK kvs)):kvs.length<=sizeLine/\(a == sysModules)=false/\∃ vs,KV kvs vs/\h.DictOf (mixKind P w) a vs:=dk_rd ok (.inl e)
theorem key_of {ks:List Key} (ok:HOk P w H h) (e:H a=some (.tup (ks.map kV))):(tupleKind (mixKind P w)).is h ks a:=by
 obtain ⟨_,its,r,o,h1,h2,n,h3⟩:=(show ObjOk P w H h a (.tup (ks.map kV)) from ok a _ e)
 exact ⟨o,its.toArray,n,h1,h2,h3,by simpa using items_are r⟩
theorem dt_rd {kvs:List (List Key × V)} (ok:HOk P w H h) (e:Rd H a (.dT kvs)):kvs.length<=sizeLine/\(a == sysModules)=false /\
  ∃ xs,KT H kvs xs/\h.DictOfH (tupleKind (mixKind P w)) a xs:=by
 obtain ⟨z,y,xs,r,o,es,ep,h1,h2,h3,h4,h5⟩:=(show ObjOk P w H h a (.dT kvs) from rd_of ok e)
 refine ⟨z,y,xs,r,o,es,ep,h1,h2,h3,h4,fun x hx=>?_,h5⟩
 have all:∀ {l:List (List Key × V)} {m:List (List Key × Addr × Value)},KT H l m->∀ x∈m,(tupleKind (mixKind P w)).is h x.1 x.2.1:=by
  intro l m q
  induction q with
  | nil=>intro x hx;exact nomatch hx
  | @cons p q ps qs hq t ih =>
   intro x hx
   rcases Qn hx with e | hx
   ·subst e
    exact key_of ok (by rw [<- hq.1];exact hq.2.1)
   ·exact ih x hx
 exact all r x hx
theorem dt_of {kvs:List (List Key × V)} (ok:HOk P w H h) (e:H a=some (.dT kvs)):kvs.length<=sizeLine/\(a == sysModules)=false /\
  ∃ xs,KT H kvs xs/\h.DictOfH (tupleKind (mixKind P w)) a xs:=dt_rd ok (.inl e)
end
noncomputable def DGet (H:Hp) (a:Addr) (y:V) (r:Option V):Prop :=
 (∃ kvs k,Rd H a (.dK kvs)/\y=kV k/\r=valV kvs k)∨∃ kvs k b,Rd H a (.dT kvs)/\y=.ref b/\H b=some (.tup (k.map kV))/\r=valV kvs k
noncomputable def DPut (H:Hp) (a:Addr) (y v:V) (H':Hp):Prop :=
 (∃ kvs k,H a=some (.dK kvs)/\y=kV k/\kvs.length<sizeLine/\H'=upd H a (.dK (putK kvs k v))) ∨
 ∃ kvs k b,H a=some (.dT kvs)/\y=.ref b/\H b=some (.tup (k.map kV))/\kvs.length<sizeLine/\H'=upd H a (.dT (putK kvs k v))
theorem DGet.k {H:Hp} {a:Addr} {kvs:List (Key × V)} {k:Key} (e:H a=some (.dK kvs)):DGet H a (kV k) (valV kvs k):=.inl ⟨kvs,k,.inl e,rfl,rfl⟩
theorem DGet.t {H:Hp} {a b:Addr} {kvs:List (List Key × V)} {k:List Key} (e:H a=some (.dT kvs)) (eb:H b=some (.tup (k.map kV))):DGet H a (.ref b) (valV kvs k):=.inr ⟨kvs,k,b,.inl e,rfl,eb,rfl⟩
theorem DPut.k {H:Hp} {a:Addr} {kvs:List (Key × V)} {k:Key} {v:V} (e:H a=some (.dK kvs)) (hl:kvs.length<sizeLine):DPut H a (kV k) v (upd H a (.dK (putK kvs k v))):=.inl ⟨kvs,k,e,rfl,hl,rfl⟩
theorem DPut.t {H:Hp} {a b:Addr} {kvs:List (List Key × V)} {k:List Key} {v:V} (e:H a=some (.dT kvs)) (eb:H b=some (.tup (k.map kV))) (hl:kvs.length<sizeLine) :
  DPut H a (.ref b) v (upd H a (.dT (putK kvs k v))):=.inr ⟨kvs,k,b,e,rfl,eb,hl,rfl⟩
section
variable {X:Cx} {pins:List (Addr × Obj)} {σ:St} {H:Hp} {s:Shared} {a:Addr} {y v:V} {u r:Value} {o:Option V} {A:Around} {E:Value->Shared->Prop}
theorem Inv.big (I:Inv X pins σ H s):sysModules<s.heap.objs.size:=by
 have h:mainGlobals<s.heap.objs.size:=(I.mod.glob.keeps I.bk).lt
 exact Nat.lt_trans (by decide) h
theorem d_getItem {Q:Value->Shared->Prop} (hu:A.units+1<cLine) (I:Inv X pins σ H s) (g:DGet H a y (some v)) (ry:RelV y u) (h:∀ w' s',Inv X pins σ H s'->RelV v w'->Q w' s') :
  wpAny (model X.prog X.w) A (getItem (.ref a) u) Q E s:=by
 rcases g with ⟨kvs,k,e,ey,l⟩ | ⟨kvs,k,b,e,ey,eb,l⟩
 ·subst ey
  obtain ⟨z,hd,vs,rel,dd⟩:=dk_rd I.hok e
  obtain ⟨w',hw,rw'⟩:=RelO.some_of (v:=v) (o:=valueAt vs k) (by rw [l];exact rel.val k)
  exact wpAny_getItem_of (kV_is ry) dd.mapOf hw (h w' _ (I.tok _) rw')
 ·subst ey
  cases (show u=Value.ref b from ry)
  obtain ⟨z,hd,xs,rel,dd⟩:=dt_rd I.hok e
  obtain ⟨w',hw,rw'⟩:=RelO.some_of (v:=v) (o:=(atKey xs k).map (·.2)) (by rw [l];exact rel.val k)
  obtain ⟨p,hp,hp2⟩:=Option.map_eq_some_iff.mp hw
  refine wpAny_getItem_heap (tupleKind_room_in1 hu) (key_of I.hok eb) dd hp ?_
  rw [hp2]
  exact h w' _ (I.tok _) rw'
theorem d_notIn {Q:Value->Shared->Prop} (hu:A.units+1<cLine) (I:Inv X pins σ H s) (g:DGet H a y o) (ry:RelV y u) (h:∀ s',Inv X pins σ H s'->Q (.bool (!o.isSome)) s') :
  wpAny (model X.prog X.w) A (compareOp .NotIn u (.ref a)) Q E s:=by
 rcases g with ⟨kvs,k,e,ey,l⟩ | ⟨kvs,k,b,e,ey,eb,l⟩
 ·subst ey
  obtain ⟨z,hd,vs,rel,dd⟩:=dk_rd I.hok e
  refine wpAny_notIn_of (kV_is ry) hd dd.mapOf ?_
  rw [<- (rel.val k).isSome_eq,<- l]
  exact h _ (I.tok _)
 ·subst ey
  cases (show u=Value.ref b from ry)
  obtain ⟨z,hd,xs,rel,dd⟩:=dt_rd I.hok e
  refine wpAny_notIn_heap (tupleKind_room_in1 hu) (key_of I.hok eb) hd dd ?_
  have q:=(rel.val k).isSome_eq
  rw [Option.isSome_map] at q
  rw [<- q,<- l]
  exact h _ (I.tok _)
theorem d_write {h':Heap} {t':Nat} {ob:HO} (I:Inv X pins σ H s) (mu:Mut (H a)) (hs:Heap.SameBut a s.heap h') (he:∃ q,h'.get? a=some q) (new:ObjOk X.prog X.w (upd H a ob) h' a ob) :
  Inv X pins σ (upd H a ob) { s with heap:=h',toks:=t' } :=
 I.write (x:=a) (e:=a) mu (.inl rfl) (fun b q hb z=>(hs.2 b hb).trans z) he new
theorem dk_new {P:Program} {w:World} {H':Hp} {h':Heap} {kvs:List (Key × V)} {vs:List (Key × Value)} (z:kvs.length<=sizeLine) (hd:(a == sysModules)=false) (rel:KV kvs vs) (dd:h'.DictOf (mixKind P w) a vs) :
  ObjOk P w H' h' a (.dK kvs):=⟨z,hd,vs,rel,dd⟩
theorem d_setItem {H':Hp} {Q:Unit->Shared->Prop} (hu:A.units+1<cLine) (I:Inv X pins σ H s) (g:DPut H a y v H') (ry:RelV y u) (rv:RelV v r) (h:∀ s',Inv X pins σ H' s'->Q () s') :
  wpAny (model X.prog X.w) A (setItem (.ref a) u r) Q E s:=by
 rcases g with ⟨kvs,k,e,ey,l,eH⟩ | ⟨kvs,k,b,e,ey,eb,l,eH⟩
 ·subst ey eH
  obtain ⟨z,hd,vs,rel,dd⟩:=dk_of I.hok e
  have hz:vs.length<=sizeLine:=by rw [<- rel.length];exact z
  have hl:(putK kvs k v).length<=sizeLine:=by have:=length_putK kvs k v;omega
  refine wpAny_setItem_pairs (hsz:=hz) (kV_is ry) dd fun h' dd' hs=>h _ ?_
  have he:∃ q,h'.get? a=some q:=by obtain ⟨q,_,_,hq,_⟩:=dd';exact ⟨q,hq⟩
  exact d_write I (by rw [e];exact True.intro) hs he (dk_new hl hd (rel.put k rv) dd')
 ·subst ey eH
  cases (show u=Value.ref b from ry)
  obtain ⟨z,hd,xs,rel,dd⟩:=dt_of I.hok e
  have hz:xs.length<=sizeLine:=by rw [<- Paired.length rel];exact z
  have hl:(putK kvs k v).length<=sizeLine:=by have:=length_putK kvs k v;omega
  refine wpAny_setItem_heap (hsz:=hz) (tupleKind_room_in1 hu) (key_of I.hok eb) dd fun h' dd' hs=>h _ ?_
  obtain ⟨q,es,ep,hq,h2,h3,h4,_,h5⟩:=dd'
  refine d_write I (by rw [e];exact True.intro) hs ⟨q,hq⟩ ⟨hl,hd,_,(rel.put k eb rv).keeps fun c ys ec=>?_,q,es,ep,hq,h2,h3,h4,h5⟩
  rw [upd_ne (ne_of ec e (fun z=>nomatch z))]
  exact ec
end
section
variable {X:Cx} {pins:List (Addr × Obj)} {σ:St} {H:Hp} {s:Shared} {a:Addr} {kvs:List (Key × V)} {k:Key} {u:Value} {A:Around} {E:Value->Shared->Prop}
end
noncomputable def NoSl (i:Expr):Prop:=∀ ov iv,subscripted i false ov iv=operate [ov,iv] (getItem ov iv)
theorem subD_of {prog:Program} {w:World} {A:Around} {E:Value->Shared->Prop} {s:Shared} {env:Env} {value slice:Expr} {pos:Pos} {T id:String} {Q:Value->Shared->Prop}
  (hl:typeLookup (.type T) "__getitem__"=pure (some (.builtin id))) (hs:NoSl slice)
  (h:wpAny (model prog w) A (eval value env) (fun o s₁=>wpAny (model prog w) A (eval slice env) (fun i s₂=>s₂.TypeIs o T/\wpAny (model prog w) A (getItem o i) Q E s₂) E s₁) E s) :
  wpAny (model prog w) A (eval (.Subscript value slice pos) env) Q E s:=by
 refine Subscript_ (QJ h (fun o s₁ h₁=>QJ h₁ (fun i s₂ h₂=>?_) fun _ _ x=>x) fun _ _ x=>x)
 obtain ⟨hT,h₂⟩:=h₂
 unfold subscriptTail
 refine Qa ?_
 rw [getitemInPython_of_ne hT.not_modules]
 refine Qa (wpAny_specialOf hT hl ?_)
 have fin:wpAny (model prog w) A (subscripted slice false o i) (fun r s₃=>wpAny (model prog w) A (letTemporaryGo value o r >>= fun _=>pure r) Q E s₃) E s₂:=by
  rw [hs o i]
  exact wpAny_operating (QJ h₂ (fun r s₃ h₃=>Qa (wpAny_letTemporaryGo (Qc h₃))) fun _ _ x=>x)
 first
  | exact Qc (Qa fin)
  | exact Qa (Qc (Qa fin))
  | exact Qa fin
theorem dict_typeIs {X:Cx} {pins:List (Addr × Obj)} {σ:St} {H:Hp} {s:Shared} {a:Addr} {y:V} {o:Option V} (I:Inv X pins σ H s) (g:DGet H a y o):s.TypeIs (.ref a) "dict":=by
 rcases g with ⟨kvs,k,e,_,_⟩ | ⟨kvs,k,b,e,_,_,_⟩
 ·obtain ⟨_,_,vs,_,dd⟩:=dk_rd I.hok e
  exact dd.typeIs
 ·obtain ⟨_,_,xs,_,dd⟩:=dt_rd I.hok e
  exact dd.typeIs
noncomputable def tDGet (td ty:TE):TE:=fun σ H Q=>td σ H fun x H1=>ty σ H1 fun y H2=>∃ a v,x=.ref a/\DGet H2 a y (some v)/\Q v H2
noncomputable def tDNotIn (ty td:TE):TE:=fun σ H Q=>ty σ H fun y H1=>td σ H1 fun x H2=>∃ a o,x=.ref a/\DGet H2 a y o/\Q (.bl (!o.isSome)) H2
noncomputable def sDPut (td ty tv:TE):TS:=fun D σ H=>tv σ H fun v H1=>td σ H1 fun x H2=>ty σ H2 fun y H3=>∃ a H4,x=.ref a/\DPut H3 a y v H4/\D.nx σ H4
section
variable {X:Cx} {o i e value:Expr} {pos pos' tpos:Pos} {td ty tv:TE}
theorem pe_dget (hu:X.A.units+1<cLine) (ho:PE X o td) (hi:PE X i ty) (hs:NoSl i):PE X (.Subscript o i pos) (tDGet td ty):=by
 intro pins s σ H Q I h
 refine subD_of PySem.F.slot_dict_getitem.lookup hs (thn (ho pins s σ H _ I h) fun u s1 ⟨x,H1,I1,rx,q1⟩=>thn (hi pins s1 σ H1 _ I1 q1) fun iv s2 hsl52=>?_)
 obtain ⟨y,H2,I2,ry,a,v,ex,g,q2⟩:=hsl52
 subst ex
 obtain rfl:u=Value.ref a:=rx
 exact ⟨dict_typeIs I2 g,d_getItem hu I2 g ry fun w' s3 I3 rw'=>⟨v,H2,I3,rw',q2⟩⟩
theorem pc_dnotin (hu:X.A.units+1<cLine) (hi:PE X i ty) (ho:PE X o td):PC X .NotIn i o (tDNotIn ty td):=by
 intro pins s σ H Q I h
 refine thn (hi pins s σ H _ I h) fun iv s1 ⟨y,H1,I1,ry,q1⟩=>thn (ho pins s1 σ H1 _ I1 q1) fun u s2 hsl53=>?_
 obtain ⟨x,H2,I2,rx,a,ov,ex,g,q2⟩:=hsl53
 subst ex
 obtain rfl:u=Value.ref a:=rx
 exact d_notIn hu I2 g ry fun s3 I3=>⟨.bl (!ov.isSome),H2,I3,rfl,q2⟩
theorem ps_dput (hu:X.A.units+1<cLine) (ho:PE X o td) (hi:PE X i ty) (hv:PE X value tv) (hs:swapsWith value (some (.Subscript o i pos')) pos.line X.env=pure false) :
  PS X (.Assign [.Subscript o i pos'] value pos) (sDPut td ty tv):=by
 intro pins s σ H D I h
 refine wpAny_Assign_Subscript (thn (hv pins s σ H _ I h) fun r s1 ⟨v,H1,I1,rv,q1⟩=>thn (ho pins s1 σ H1 _ I1 q1) fun u s2 ⟨x,H2,I2,rx,q2⟩=>thn (hi pins s2 σ H2 _ I2 q2) fun iv s3 hsl54=>?_) hs
 obtain ⟨y,H3,I3,ry,a,H4,ex,g,q3⟩:=hsl54
 subst ex
 obtain rfl:u=Value.ref a:=rx
 exact d_setItem hu I3 g ry rv fun s4 I4=>⟨σ,H4,I4,q3⟩
end
theorem dk_empty {P:Program} {w:World} {H:Hp} (h:Heap) (hb:sysModules<h.objs.size):ObjOk P w H (h.push { cls:=.type "dict",data:=.dict #[] }) h.objs.size (.dK []) :=
 ⟨Qp _,beq_eq_false_iff_ne.mpr (Ne.symm (Qy hb)),[],.nil,Heap.DictOf.new h⟩
theorem dt_empty {P:Program} {w:World} {H:Hp} (h:Heap) (hb:sysModules<h.objs.size):ObjOk P w H (h.push { cls:=.type "dict",data:=.dict #[] }) h.objs.size (.dT []) :=
 ⟨Qp _,beq_eq_false_iff_ne.mpr (Ne.symm (Qy hb)),[],.nil,_,#[],0,Qo _ rfl,⟨rfl,rfl,rfl⟩,rfl,rfl,List.nodup_nil⟩
noncomputable def tDNewK:TE:=fun _ H Q=>∀ p,H p=none->Q (.ref p) (upd H p (.dK []))
noncomputable def tDNewT:TE:=fun _ H Q=>∀ p,H p=none->Q (.ref p) (upd H p (.dT []))
section
variable {X:Cx} {pos:Pos}
theorem pe_dnewK:PE X (.Dict [] [] pos) tDNewK:=fun pins s σ H Q I h =>
 wpAny_Dict_empty ⟨.ref s.heap.objs.size,_,I.laid (a:=s.heap.objs.size) (o:=.dK []) (t':=s.toks) (fun _ _ q=>Qd _ q) (Qf _) (dk_empty s.heap I.big),rfl,h _ (I.hok.fresh (Qf _))⟩
theorem pe_dnewT:PE X (.Dict [] [] pos) tDNewT:=fun pins s σ H Q I h =>
 wpAny_Dict_empty ⟨.ref s.heap.objs.size,_,I.laid (a:=s.heap.objs.size) (o:=.dT []) (t':=s.toks) (fun _ _ q=>Qd _ q) (Qf _) (dt_empty s.heap I.big),rfl,h _ (I.hok.fresh (Qf _))⟩
end
structure M2 (X:Cx) (o:Expr) (m:Str) (apos:Pos) (e f:Expr) (cpos:Pos):Prop where
 base:attributeBase o m X.env (eval o X.env)=eval o X.env
 few:((backTo cpos (starEach [e,f] X.env)).all (fun x=>!x.1)&&(backToKw cpos (keywordEach [] X.env)).all (fun x=>x.1.isSome)
  && decide (([e,f]:List Expr).length+([]:List Keyword).length+(if ([]:List Keyword).isEmpty then 0 else 1)<30))=true
 line:(apos.endLine == cpos.line)=true
 trees:backTo cpos (starEach [e,f] X.env)=[(false,eval e X.env),(false,eval f X.env)]
noncomputable def IsD (H:Hp) (a:Addr):Prop:=(∃ kvs,Rd H a (.dK kvs))∨∃ kvs,Rd H a (.dT kvs)
theorem isD_at {X:Cx} {pins:List (Addr × Obj)} {σ:St} {H:Hp} {s:Shared} {a:Addr} (I:Inv X pins σ H s) (d:IsD H a) :
  s.TypeIs (.ref a) "dict"/\(∀ b,Value.ref a=.ref b->∃ ob,s.heap.get? b=some ob/\ob.dict=none)/\(a == sysModules)=false:=by
 rcases d with ⟨kvs,e⟩ | ⟨kvs,e⟩
 ·obtain ⟨_,hd,vs,_,dd⟩:=dk_rd I.hok e
  refine ⟨dd.typeIs,fun b q=>?_,hd⟩
  cases q
  obtain ⟨ob,_,_,h1,h2,_⟩:=dd
  exact ⟨ob,h1,h2.2.1⟩
 ·obtain ⟨_,hd,xs,_,dd⟩:=dt_rd I.hok e
  refine ⟨dd.typeIs,fun b q=>?_,hd⟩
  cases q
  obtain ⟨ob,_,_,h1,h2,_⟩:=dd
  exact ⟨ob,h1,h2.2.1⟩
section
variable {X:Cx} {pins:List (Addr × Obj)} {σ:St} {H:Hp} {s:Shared} {a:Addr} {y d:V} {u r:Value} {o:Option V} {A:Around} {E:Value->Shared->Prop}
theorem d_get2 {Q:Value->Shared->Prop} (hu:A.units+1<cLine) (I:Inv X pins σ H s) (g:DGet H a y o) (ry:RelV y u) (rd:RelV d r) (h:∀ w' s',Inv X pins σ H s'->RelV (o.getD d) w'->Q w' s') :
  wpAny (model X.prog X.w) A (call (.builtin "dict.get") [.ref a,u,r]) Q E s:=by
 rcases g with ⟨kvs,k,e,ey,l⟩ | ⟨kvs,k,b,e,ey,eb,l⟩
 ·subst ey
  obtain ⟨z,hd,vs,rel,dd⟩:=dk_rd I.hok e
  refine call_meetsIn PySem.F.slot_dict_get dd.typeIs PySem.F.entry_dict_get (PySem.F.args_dict_get_3 _ _ _) (meets_dict_get_default (mixKind X.prog X.w) a (kV_is ry) hd r) ⟨_,dd.mapOf,h _ _ (I.tok _) ?_⟩
  rw [l]
  exact (rel.val k).getD rd
 ·subst ey
  cases (show u=Value.ref b from ry)
  obtain ⟨z,hd,xs,rel,dd⟩:=dt_rd I.hok e
  refine call_meetsIn PySem.F.slot_dict_get dd.typeIs PySem.F.entry_dict_get (PySem.F.args_dict_get_3 _ _ _) (meetsH_dict_get_default (tupleKind (mixKind X.prog X.w)) a b hd r) ⟨tupleKind_room_in1 hu,k,xs,key_of I.hok eb,dd,h _ _ (I.tok _) ?_⟩
  rw [l]
  exact (rel.val k).getD rd
end
noncomputable def tDGet2 (td ty tx:TE):TE:=fun σ H Q=>td σ H fun x H1=>∃ a,x=.ref a/\IsD H1 a/\ty σ H1 fun y H2=>tx σ H2 fun z H3=>∃ o,DGet H3 a y o/\Q (o.getD z) H3
section
variable {X:Cx} {o e f:Expr} {apos cpos:Pos} {td ty tx:TE}
theorem pe_dget2 (hu:X.A.units+1<cLine) (ho:PE X o td) (he:PE X e ty) (hf:PE X f tx) (m:M2 X o "get" apos e f cpos):PE X (.Call (.Attribute o "get" apos) [e,f] [] cpos) (tDGet2 td ty tx):=by
 intro pins s σ H Q I h
 refine wpAny_Call_method m.base m.few m.line PySem.F.plainAttrs_dict PySem.F.slot_dict_get PySem.F.type_dict_get (thn (ho pins s σ H _ I h) fun u s1 hsl55=>?_)
 obtain ⟨x,H1,I1,rx,a,ex,d,q1⟩:=hsl55
 subst ex
 obtain rfl:u=Value.ref a:=rx
 obtain ⟨t1,t2,_⟩:=isD_at I1 d
 refine ⟨t1,t2,?_⟩
 rw [m.trees]
 refine Calls.callWith_builtin rfl (Calls.evalArgs_plain (Calls.spliced_cons (thn (he pins s1 σ H1 _ I1 q1) fun iv s2 ⟨y,H2,I2,ry,q2⟩ =>
  Calls.spliced_cons (thn (hf pins s2 σ H2 _ I2 q2) fun fv s3 ⟨z,H3,I3,rz,ov,g,q3⟩=>Calls.spliced_nil ?_))))
 exact d_get2 hu I3 g ry rz fun w' s4 I4 rw'=>⟨_,H3,I4,rw',q3⟩
end
section
variable {X:Cx} {pins:List (Addr × Obj)} {σ:St} {H:Hp} {s:Shared} {a:Addr} {kvs:List (Key × V)} {A:Around} {E:Value->Shared->Prop}
end
section
variable {X:Cx} {pins:List (Addr × Obj)} {σ:St} {H:Hp} {s:Shared} {a:Addr} {y:V} {u:Value} {A:Around} {E:Value->Shared->Prop}
end
end L2
namespace L2
open PySem PySem.Spec PyProof.Rows
section
variable {X:Cx}
end
section
variable {κ:Type} [DecidableEq κ]
end
end L2
namespace Mm
open PySem
end Mm
namespace Mm
open PySem L2
theorem ix_tupK {X:Cx} {K:PySem.W.Frag} (h:X.K=K):IxR X (rIxT K):=by subst h;exact ix_tup
theorem bt_tuple:bootBuiltins "tuple"=some (.type "tuple"):=by decide +kernel
theorem comp_tup {js:List Nat} {tt:TT} {te:TE} {K:PySem.W.Frag} {a:Addr} {xs:List V} {σ:St} {H:Hp} {Q:VK} (Pv:Nat->List V->Hp->Prop) (h0:Pv 0 [] H) (hl:∀ i ys H,i<=xs.length->Pv i ys H->SqT K H a xs)
  (hs:∀ i x ys H,xs[i]?=some x->Pv i ys H->tt (some x::pick js σ) H fun b H2=>if b=true then te (some x::pick js σ) H2 fun y H3=>ys.length<sizeLine/\Pv (i+1) (ys++[y]) H3 else Pv (i+1) ys H2)
  (hd:∀ ys H,Pv xs.length ys H->∀ p,H p=none->Q (.ref p) (upd H p (.lst ys))) :
  tCompB (Itt K a) js tt te σ H Q:=by
 refine ⟨fun i m ys H=>m=xs.length-i/\i<=xs.length/\Pv i ys H,⟨xs.length,by simp,Qp _,h0⟩,?_⟩
 rintro i m ys H ⟨rfl,hi,p⟩
 have q:=hl i ys H hi p
 by_cases hlt:i<xs.length
 ·refine .inr ⟨⟨xs,xs[i],q,by simp [hlt]⟩,Pv (i+1),fun ys' H' p'=>⟨xs.length-(i+1),by omega,rfl,hlt,p'⟩,fun x H' y=>?_⟩
  obtain ⟨e,y⟩:=y
  subst e
  exact hs i x ys _ (y xs q) p
 ·have e:i=xs.length:=by omega
  subst e
  exact .inl ⟨⟨xs,q,Qf _⟩,hd ys H p⟩
theorem seq_c {v:V} {i:Nat} {b:TS} {D:Ends} {σ:St} {H:Hp} (h:b D (σ.set i (some v)) H):tSeq (tAsg (tC v) (gName i)) b D σ H:=h
theorem cut_if {c:TT} {t u b:TS} {D:Ends} {σ:St} {H:Hp} (P:St->Hp->Prop) (h1:∀ R:St->Hp->Prop,(∀ σ' H',P σ' H'->R σ' H')->tIfS c t u { D with nx:=R } σ H) (h2:∀ σ' H',P σ' H'->b D σ' H'):tSeq (tIfS c t u) b D σ H:=h1 (b D) h2
theorem cut_for {wi:TI} {g:TG} {tb b:TS} {D:Ends} {σ:St} {H:Hp} (P:St->Hp->Prop) (h1:∀ R:St->Hp->Prop,(∀ σ' H',P σ' H'->R σ' H')->tFor wi g tb { D with nx:=R } σ H) (h2:∀ σ' H',P σ' H'->b D σ' H'):tSeq (tFor wi g tb) b D σ H:=h1 (b D) h2
end Mm
namespace L2
open PySem PySem.Spec PyProof.Rows
section
variable {X:Cx}
end
end L2
namespace L2
open PySem PySem.Spec PyProof.Rows
noncomputable def Ite (K:PySem.W.Frag) (a:Addr):It:=⟨fun i H=>∃ xs x,SqL K H a xs/\xs[i]?=some x,fun i H x H'=>∃ (t:Addr) (y:V),(∀ xs,SqL K H a xs->xs[i]?=some y)/\H t=none/\x=.ref t/\H'=upd H t (.tup [.int ((i:Nat):Int),y]),fun i H=>∃ xs,SqL K H a xs/\xs.length<=i⟩
theorem turn_enum {P:Program} {w:World} {K:PySem.W.Frag} {elts:List Expr} {k:Nat} {tpos:Pos} (a e it:Addr) (hei:e≠it) :
  Turn P w K (.Tuple elts k tpos) (Ite K a) [e,it] e (fun i h=>(∃ old,IsEnum h e it i old)/\h.IsListIter it a i) where
 mem:=by simp
 obj:=fun i h st b hb=>by
  rcases (show b=e∨b=it by simpa using hb) with z | z
  ·subst z
   obtain ⟨⟨old,he⟩,_⟩:=st
   exact ⟨_,he,fun v z=>by cases z⟩
  ·subst z
   obtain ⟨_,o,e,c,d⟩:=st
   exact ⟨o,e,fun v z=>by rw [d] at z;cases z⟩
 keep:=fun i h h' st kk=>⟨by obtain ⟨old,he⟩:=st.1;exact ⟨old,kk e (by simp) _ he⟩,st.2.at fun o q=>kk it (by simp) o q⟩
 item:=by
  intro X hP hw hK hc i pins s σ H E I hf st hg
  subst hP hw hK
  obtain ⟨xs,x,hq,hx⟩:=hg
  obtain ⟨its,rv,p,hz⟩:=I.list hq
  obtain ⟨u,hu,ru⟩:=rv.get hx
  obtain ⟨⟨old,he⟩,hit⟩:=st
  obtain ⟨e0,e1,e2,e3,e4,e5⟩:=hf e (by simp)
  obtain ⟨f0,f1,f2,f3,f4,f5⟩:=hf it (by simp)
  refine wpAny_pyNext_enum_item he hit p.isList (x:=u) (by simpa using hu) hei fun h1 ho hit1 ht hsz kk=>?_
  refine ⟨_,rfl,?_⟩
  have hel:e<s.heap.objs.size:=Qq he
  have hil:it<s.heap.objs.size:=by obtain ⟨_,q,_⟩:=hit;exact Qq q
  refine wpAny_letOwnedTupleGo_enum (s:={ s with heap:=h1,toks:=s.toks+1 }) ho fun h2 he2 hs2=>?_
  have hs2:Heap.SameBut e h1 h2:=hs2
  have kk2:∀ b o,b≠e->b≠it->s.heap.get? b=some o->h2.get? b=some o:=fun b o q1 q2 q=>(hs2.2 b q1).trans (kk b o q1 q2 q)
  have ht2:h2.get? s.heap.objs.size=some { cls:=.type "tuple",data:=.seq #[.int i s.toks,u] }:=(hs2.2 _ (Nat.ne_of_gt hel)).trans ht
  have hT:H s.heap.objs.size=none:=I.fresh
  have I2:Inv X pins σ (upd H s.heap.objs.size (.tup [.int ((i:Nat):Int),x])) { s with heap:=h2,toks:=s.toks+1 }:=by
   refine I.call' (ch:=[e,it]) rfl ⟨fun b o q hn hb hx=>?_,fun b o q hn hb hx=>?_,fun b o q hn hx=>?_,fun b o q hx=>?_,fun b ys q=>?_,fun b o v q=>?_,fun b ps q=>?_⟩ (fun b v q=>?_) I.bare fun b hb=>?_
   ·exact kk2 b o (fun z=>hx (by simp [z])) (fun z=>hx (by simp [z])) q
   ·exact ⟨o.slots,kk2 b o (fun z=>hx (by simp [z])) (fun z=>hx (by simp [z])) q⟩
   ·rw [upd_ne (Qy (Qq q))];exact hn
   ·exact ⟨o,kk2 b o (fun z=>hx (by simp [z])) (fun z=>hx (by simp [z])) q⟩
   ·rw [upd_ne (ne_of_none q hT)];exact q
   ·rw [upd_ne (ne_of_none q hT)];exact q
   ·exact ⟨#[],by rw [upd_ne (ne_of_none q hT)];simpa using q⟩
   ·by_cases hb:b=s.heap.objs.size
    ·subst hb
     rw [upd_same] at q
     cases q
     exact ⟨(by show 2<=sizeLine;decide),[.int i s.toks,u],.cons ⟨_,rfl⟩ (.cons ru .nil),_,ht2,rfl,_,rfl⟩
    ·rw [upd_ne hb] at q
     have hne:b≠e:=fun z=>by rw [z,e0] at q;cases q
     have hni:b≠it:=fun z=>by rw [z,f0] at q;cases q
     refine (I.hok b v q).stay (fun c o hcb z=>kk2 c o (fun y=>?_) (fun y=>?_) z) (fun c z=>by rw [upd_ne (ne_of_none z hT)];exact z) fun c ys z=>by rw [upd_ne (ne_of_none z hT)];exact z
     ·rcases hcb with r | r
      ·exact hne (r ▸ y)
      ·rw [y,e0] at r;cases r
     ·rcases hcb with r | r
      ·exact hni (r ▸ y)
      ·rw [y,f0] at r;cases r
   ·rcases (show b=e∨b=it by simpa using hb) with z | z
    ·subst z;exact ⟨e3,e1,e4,e5⟩
    ·subst z;exact ⟨f3,f1,f4,f5⟩
  refine ⟨.ref s.heap.objs.size,_,I2,rfl,⟨_,x,fun ys hy=>by rw [I.list_inj hy hq];exact hx,hT,rfl,rfl⟩,⟨⟨u,by simpa using he2⟩,hit1.at fun o q=>(hs2.2 it hei.symm).trans q⟩,fun b hb=>?_⟩
  rcases (show b=e∨b=it by simpa using hb) with z | z
  ·subst z;rw [upd_ne (Qy hel)];exact e0
  ·subst z;rw [upd_ne (Qy hil)];exact f0
 done:=by
  intro X hP hw hK hc i pins s σ H E I hf st hg
  subst hP hw hK
  obtain ⟨xs,hq,hx⟩:=hg
  obtain ⟨its,rv,p,hz⟩:=I.list hq
  obtain ⟨f0,f1,f2,f3,f4,f5⟩:=hf it (by simp)
  obtain ⟨⟨old,he⟩,hit⟩:=st
  have hl:=rv.length
  exact wpAny_pyNext_enum_end (I.ok.hd hc) he hit p.isList (by simp;omega) fun h' eb=>⟨rfl,I.turned (t':=s.toks) (fun b o hb q=>eb b o hb q) f0 f1 f3 f4 f5⟩
 self:=fun _ _ _ _ _ st h=>by obtain ⟨⟨old,he⟩,_⟩:=st;exact wpAny_pyIter_enum he h
section
variable {X:Cx}
noncomputable def iEnum (K:PySem.W.Frag) (ta:TA):TI:=fun σ H R=>ta σ H fun vs H1=>∃ a xs,vs=[.ref a]/\SqL K H1 a xs/\R (Ite K a) H1
theorem pi_enum {a:Expr} {ta:TA} {p pos tpos:Pos} {elts:List Expr} {k:Nat} (hg:Gl X "enumerate") (hm:X.mg "enumerate"=none) (ha:PA X [a] ta) (hs:starEach [a] X.env=[(false,eval a X.env)]:=by rfl) :
  PI X (.Tuple elts k tpos) (.Call (.Name "enumerate" p) [a] [] pos) (iEnum X.K ta):=by
 intro pins s σ H R I h
 refine Call_ (ld_blt I hg hm boot_enumerate (PyProof.Rows.callWith_type1 (thn (ha pos pins s σ H _ I h) fun us s1 hsl56=>?_) hs rfl))
 obtain ⟨vs,H1,I1,r1,q1⟩:=hsl56
 obtain ⟨l,xs,e,hq,q⟩:=q1
 subst e
 obtain ⟨u,rfl,ru⟩:=vals1 r1
 cases ru
 obtain ⟨its,rv,pp,hz⟩:=I1.list hq
 refine call_enumerate_list pp.isList fun h' he hit hsz kk=>?_
 refine wpAny_pyIter_enum (s:={ s1 with heap:=h' }) he ?_
 refine ⟨s1.heap.objs.size+1,[s1.heap.objs.size+1,s1.heap.objs.size],_,_,H1,rfl,I1.kept (t':=s1.toks) kk,turn_enum l _ _ (Nat.succ_ne_self _),⟨⟨_,he⟩,hit⟩,fun b hb=>?_,q⟩
 rcases (show b=s1.heap.objs.size+1∨b=s1.heap.objs.size by simpa using hb) with z | z
 ·subst z;exact I1.fpOk (Nat.le_succ _) (I1.hok.fresh (Nat.le_succ _))
 ·subst z;exact I1.fpOk (Qf _) (I1.hok.fresh (Qf _))
end
theorem pg_tupK {X:Cx} {K:PySem.W.Frag} {es:List Expr} {k:Nat} {pos:Pos} {t:TGs} {n:Nat} (hK:X.K=K) (hc:X.calm=true) (h:PGs X es t)
  (hn:(assignEach es X.env).length=n:=by rfl) (hst:(assignEach es X.env).findIdx? (·.1)=none:=by rfl):PG X (.Tuple es k pos) (gTup K n t):=by
 subst hK
 exact pg_tup hc h hn hst
section
variable {k:Nat} {js:List Nat} {g:TG} {tt:TT} {te:TE}
theorem comp2_list {K:PySem.W.Frag} {a:Addr} {xs:List V} {σ:St} {H:Hp} {Q:VK} (Pv:Nat->List V->Hp->Prop) (h0:Pv 0 [] H) (hl:∀ i ys H,i<=xs.length->Pv i ys H->SqL K H a xs)
  (hs:∀ i x ys H,xs[i]?=some x->Pv i ys H->tStep2 k js g tt te σ ys (Pv (i+1)) x H)
  (hd:∀ ys H,Pv xs.length ys H->∀ p,H p=none->Q (.ref p) (upd H p (.lst ys))):tCompB2 (Itl K a) k js g tt te σ H Q:=by
 refine ⟨fun i m ys H=>m=xs.length-i/\i<=xs.length/\Pv i ys H,⟨xs.length,by simp,Qp _,h0⟩,?_⟩
 rintro i m ys H ⟨rfl,hi,p⟩
 have q:=hl i ys H hi p
 by_cases hlt:i<xs.length
 ·refine .inr ⟨⟨xs,xs[i],q,by simp [hlt]⟩,Pv (i+1),fun ys' H' p'=>⟨xs.length-(i+1),by omega,rfl,hlt,p'⟩,fun x H' y=>?_⟩
  obtain ⟨e,y⟩:=y
  subst e
  exact hs i x ys _ (y xs q) p
 ·have e:i=xs.length:=by omega
  subst e
  exact .inl ⟨⟨xs,q,Qf _⟩,hd ys H p⟩
end
end L2
namespace L2
open PySem PySem.Spec PyProof.Rows
mutual
inductive Rdv (K:PySem.W.Frag) (H:Hp):V->PyData->Prop
 | non:Rdv K H .non .none
 | bl (b:Bool):Rdv K H (.bl b) (.bool b)
 | int (i:Int):Rdv K H (.int i) (.int i)
 | str (x:Str):Rdv K H (.str x) (.str x)
 | lst {a:Addr} {xs:List V} {ds:List PyData}:SqL K H a xs->RdvA K H xs ds->Rdv K H (.ref a) (.list ds)
 | tup {a:Addr} {xs:List V} {ds:List PyData}:SqT K H a xs->RdvA K H xs ds->Rdv K H (.ref a) (.tuple ds)
inductive RdvA (K:PySem.W.Frag) (H:Hp):List V->List PyData->Prop
 | nil:RdvA K H [] []
 | cons {x:V} {d:PyData} {xs:List V} {ds:List PyData}:Rdv K H x d->RdvA K H xs ds->RdvA K H (x::xs) (d::ds)
end
section
variable {X:Cx} {pins:List (Addr × Obj)} {σ:St} {H:Hp} {s:Shared}
mutual
theorem Rdv.reads (I:Inv X pins σ H s):∀ {x:V} {d:PyData} {u:Value},Rdv X.K H x d->RelV x u->∃ as,Reads s.heap u d as
 | _,_,_,.non,r=>by cases r;exact ⟨_,.none⟩
 | _,_,_,.bl b,r=>by cases r;exact ⟨_,.bool b⟩
 | _,_,_,.int i,r=>by obtain ⟨t,rfl⟩:=r;exact ⟨_,.int i t⟩
 | _,_,_,.str x,r=>by obtain ⟨t,rfl⟩:=r;exact ⟨_,.str x t⟩
 | _,_,_,.lst hq ha,r=>by
  cases r
  obtain ⟨its,rv,p,_⟩:=I.list hq
  obtain ⟨as,ra⟩:=RdvA.reads I ha rv
  obtain ⟨o,ho,hc,n,hd⟩:=p.isList
  exact ⟨_,.list ho hc hd (by simpa using ra)⟩
 | _,_,_,.tup hq ha,r=>by
  cases r
  obtain ⟨its,rv,p,_⟩:=I.tuple hq
  obtain ⟨as,ra⟩:=RdvA.reads I ha rv
  obtain ⟨o,ho,hc,n,hd⟩:=p
  exact ⟨_,.tuple ho hc hd (by simpa using ra)⟩
theorem RdvA.reads (I:Inv X pins σ H s):∀ {xs:List V} {ds:List PyData} {us:List Value},RdvA X.K H xs ds->Vals xs us->∃ as,ReadsAll s.heap us ds as
 | _,_,_,.nil,r=>by cases r;exact ⟨_,.nil⟩
 | _,_,_,.cons h t,r=>by
  cases r with
  | cons r1 r2 =>
   obtain ⟨as,ra⟩:=Rdv.reads I h r1
   obtain ⟨bs,rb⟩:=RdvA.reads I t r2
   exact ⟨_,.cons ra rb⟩
end
end
section
variable {X:Cx}
theorem op_eqD {K:PySem.W.Frag} (hK:X.K=K) (hu:X.A.units+64<cLine):OpR X (compareOp .Eq) (fun x y H Q=>∃ d e,Rdv K H x d/\Rdv K H y e/\SeqAt.shaped d=true/\SeqAt.shaped e=true/\Q (.bl (PyData.eqv d e)) H):=by
 intro pins s σ H x y v u Q I rx ry h
 subst hK
 obtain ⟨d,e,h1,h2,s1,s2,q⟩:=h
 obtain ⟨as,ra⟩:=h1.reads I rx
 obtain ⟨bs,rb⟩:=h2.reads I ry
 exact eq_dataH ra rb s1 s2 hu ⟨.bl _,H,I,rfl,q⟩
theorem op_neD {K:PySem.W.Frag} (hK:X.K=K) (hu:X.A.units+64<cLine):OpR X (compareOp .NotEq) (fun x y H Q=>∃ d e,Rdv K H x d/\Rdv K H y e/\SeqAt.shaped d=true/\SeqAt.shaped e=true/\Q (.bl (!PyData.eqv d e)) H):=by
 intro pins s σ H x y v u Q I rx ry h
 subst hK
 obtain ⟨d,e,h1,h2,s1,s2,q⟩:=h
 obtain ⟨as,ra⟩:=h1.reads I rx
 obtain ⟨bs,rb⟩:=h2.reads I ry
 exact ne_dataH ra rb s1 s2 hu ⟨.bl _,H,I,rfl,q⟩
end
section
variable {X:Cx}
end
noncomputable def Shd (n:Nat) (d:PyData):Prop:=d.canLay0=true/\d.depth<=n
theorem Shd.int (i:Int):Shd 0 (.int i):=⟨rfl,Qf _⟩
theorem Shd.str {z:Str} (h:∀ c∈z.cps.toList,c<128):Shd 0 (.str z):=⟨by
 show PyData.strOk z=true
 unfold PyData.strOk
 rw [Array.all_eq_true]
 intro i hi
 have:=h z.cps[i] (by simp)
 simp only [decide_eq_true_eq]
 omega,Qf _⟩
theorem shd_all {n:Nat}:∀ {ds:List PyData},(∀ d∈ds,Shd n d)->PyData.canLayAll0 ds=true/\PyData.depthAll ds<=n
 | [],_=>⟨rfl,Qp _⟩
 | d::r,h=>by
  obtain ⟨a,b⟩:=h d Qk
  obtain ⟨c,e⟩:=shd_all (ds:=r) fun x hx=>h x (Qg _ hx)
  exact ⟨by simp only [PyData.canLayAll0];rw [a,c];rfl,by simp only [PyData.depthAll];omega⟩
theorem Shd.list {n:Nat} {ds:List PyData} (h:∀ d∈ds,Shd n d):Shd (n+1) (.list ds):=⟨by simp only [PyData.canLay0];exact (shd_all h).1,by simp only [PyData.depth];have:=(shd_all h).2;omega⟩
theorem Shd.tuple {n:Nat} {ds:List PyData} (h:∀ d∈ds,Shd n d):Shd (n+1) (.tuple ds):=⟨by simp only [PyData.canLay0];exact (shd_all h).1,by simp only [PyData.depth];have:=(shd_all h).2;omega⟩
theorem Shd.up {n m:Nat} {d:PyData} (h:Shd n d) (hm:n<=m):Shd m d:=⟨h.1,QE h.2 hm⟩
theorem Shd.ok {n:Nat} {d:PyData} (h:Shd n d) (hn:n<=64):SeqAt.shaped d=true:=by
 show (d.canLay0&&decide (d.depth<=64))=true
 rw [h.1,Qw (QE h.2 hn)];rfl
theorem Shd.refl {n:Nat} {d:PyData} (h:Shd n d):PyData.eqv d d=true:=SeqAt.eqv_refl d h.1
theorem RdvA.map {α:Type} {K:PySem.W.Frag} {H:Hp} {f:α->V} {g:α->PyData}:∀ {l:List α},(∀ x∈l,Rdv K H (f x) (g x))->RdvA K H (l.map f) (l.map g)
 | [],_=>.nil
 | x::r,h=>.cons (h x Qk) (RdvA.map fun y hy=>h y (Qg _ hy))
theorem Rdv.strs {K:PySem.W.Frag} {H:Hp} {a:Addr} {zs:List Str} (h:SqL K H a (zs.map V.str)):Rdv K H (.ref a) (.list (zs.map PyData.str)):=.lst h (RdvA.map fun x _=>.str x)
end L2
namespace L2
open PySem PySem.Spec PyProof.Rows
theorem args_lsort_key (a v:Value):argsOk "list.sort" ⟨[a],[(Str.ofString "key",v)]⟩:=by unfold argsOk;kernel_rfl
theorem args_sorted_key (a v:Value):argsOk "sorted" ⟨[a],[(Str.ofString "key",v)]⟩:=by unfold argsOk;kernel_rfl
theorem lsort_key (a f:Addr):Builtin.«list.sort» ⟨[.ref a],[(Str.ofString "key",.ref f)]⟩=(do
  let items <- Builtin.List.listItems (.ref a)
  Builtin.List.listUpdate (.ref a) fun _=>#[]
  let before <- seqEpoch a
  let held <- newTuple items.toList
  let keyStore <- newList []
  holding [held,keyStore] do
   rule "list.sort.key"
   for x in items do
    match <- (call (.ref f) [x]).attempt with
    | .ok k=>Builtin.List.listUpdate keyStore (·.push k)
    | .error e =>
     rule "list.sort.key-raised"
     let made <- Builtin.List.listItems keyStore
     Builtin.List.listUpdate keyStore fun _=>#[]
     letGo made.toList.reverse [e]
     Builtin.List.listUpdate (.ref a) fun _=>items;throw e
   let keys <- Builtin.List.listItems keyStore
   let kind <- if items.size<2 then pure general' else keyKind' keys
   let ((),s) <- (if items.size<2 then pure () else sortRuns').run (SortSt.mk' kind (keys.zip items) #[] 7 none)
   let sorted:=(arrOf s).map (·.2)
   Builtin.List.listUpdate keyStore fun _=>#[]
   letGo ((arrOf s).map (·.1)).toList (failedOf s).toList
   let touched:=(<- seqEpoch a) != before
   Builtin.List.listUpdate (.ref a) fun _=>sorted
   if let some e:=failedOf s then rule "list.sort.comparison-raised";throw e
   if touched then rule "list.sort.modified";raiseError "ValueError" "list modified during sort"
   ret .none):=by
 first | rfl | (fail "not by rfl")
theorem Inv.adopt {X:Cx} {pins:List (Addr × Obj)} {σ:St} {H:Hp} {s:Shared} {a:Addr} {o:HO} (I:Inv X pins σ H s) (f:FpOk X pins H a) (new:ObjOk X.prog X.w (upd H a o) s.heap a o):Inv X pins σ (upd H a o) s:=by
 obtain ⟨f0,f1,f2,f3,f4,f5⟩:=f
 have ne:∀ b u,H b=some u->b≠a:=fun b u e=>ne_of_none e f0
 have hok:HOk X.prog X.w (upd H a o) s.heap:=fun b u e=>by
  by_cases hb:b=a
  ·subst hb;rw [upd_same] at e;cases e;exact new
  ·rw [upd_ne hb] at e
   exact (I.hok b u e).stay (fun c v _ q=>q) (fun c q=>by rw [upd_ne (ne c _ q)];exact q) fun c xs q=>by rw [upd_ne (ne c _ q)];exact q
 have nc:∀ {b:Addr},b∉[a]->b≠a:=fun h z=>h (by simp [z])
 exact I.step (g':=s.gens) (d':=s.drawn) (t':=s.toks) (h':=s.heap) (ch:=[a]) (fun b hb=>by
   have e:b=a:=by simpa using hb
   subst e
   exact ⟨f3,f1,f4,f5⟩)
  (fun b o _ _ _ e _=>e) (fun b o _ _ _ e _=>⟨o.slots,e⟩) (fun b o hc e n=>by rw [upd_ne (nc hc)];exact n) (fun b o _ e=>⟨o,e⟩)
  (fun b xs e=>by rw [upd_ne (ne b _ e)];exact e) (fun b o u e=>by rw [upd_ne (ne b _ e)];exact e) (fun b ps e=>⟨#[],by rw [upd_ne (ne b _ e),e];simp⟩) (fun m hm=>hm) hok I.bare
section
variable {X:Cx} {k:Nat} {f:Addr} {fd:FuncData} {ps:List Str} {sp:Sp} {dvs:List V} {ds:List Value} {pins:List (Addr × Obj)} {σ:St} {H:Hp} {s:Shared} {xs:List V} {ks:List Int}
end
end L2
namespace L2
open PySem PySem.Spec PyProof.Rows
section
variable {prog:Program} {w:World} {K:Type} [DecidableEq K] {knd:HeapKind prog w K} {A:Around} {E:Value->Shared->Prop} {s:Shared} {d:Addr} {xs:List (K × Addr × Value)}
end
section
variable {X:Cx}
end
end L2
namespace L2
open PySem PySem.Spec PyProof.Rows PySem.W
noncomputable def runT {α:Type} (lt:Nat->Nat->Bool):KasT α->α
 | .ret a=>a
 | .ask i j k=>runT lt (k (lt i j))
noncomputable def Asks {α:Type} (n:Nat) (P:α->Prop):KasT α->Prop
 | .ret a=>P a
 | .ask i j k=>i<n/\j<n/\∀ b,Asks n P (k b)
theorem Asks.bind {α β:Type} {n:Nat} {P:β->Prop} {f:α->KasT β}:∀ {t:KasT α},Asks n (fun a=>Asks n P (f a)) t->Asks n P (t.bind f)
 | .ret a,h=>h
 | .ask i j k,h=>⟨h.1,h.2.1,fun b=>Asks.bind (h.2.2 b)⟩
theorem Asks.mono {α:Type} {n:Nat} {P Q:α->Prop} (hq:∀ a,P a->Q a):∀ {t:KasT α},Asks n P t->Asks n Q t
 | .ret a,h=>hq a h
 | .ask i j k,h=>⟨h.1,h.2.1,fun b=>Asks.mono hq (h.2.2 b)⟩
theorem asks_run {α:Type} {n:Nat} {P:α->Prop} (lt:Nat->Nat->Bool):∀ (t:KasT α),Asks n P t->P (runT lt t)
 | .ret a,h=>h
 | .ask i j k,h=>asks_run lt (k (lt i j)) (h.2.2 (lt i j))
theorem kasWp_of {α:Type} {cmp:Nat->Nat->(Bool->Shared->Prop)->Shared->Prop} {lt:Nat->Nat->Bool} {n:Nat} {P:α->Prop} {s:Shared} {G:α->Shared->Prop} (hc:∀ i j,i<n->j<n->∀ C:Bool->Shared->Prop,C (lt i j) s->cmp i j C s) :
  ∀ {t:KasT α},Asks n P t->G (runT lt t) s->KasT.kasWp cmp t G s
 | .ret a,_,g=>g
 | .ask i j k,h,g=>hc i j h.1 h.2.1 _ (kasWp_of hc (h.2.2 (lt i j)) g)
noncomputable def Ent (n:Nat) (p:Array Nat):Prop:=∀ x∈p.toList,x<n
theorem Ent.at {n:Nat} {p:Array Nat} (h0:0<n) (h:Ent n p) (k:Nat):p.getD k 0<n:=by
 rw [Array.getD_eq_getD_getElem?]
 cases e:p[k]? with
 | none=>exact h0
 | some x =>
  refine h x ?_
  rw [<- Array.getElem?_toList] at e
  exact Qs e
theorem Ent.swap {n:Nat} {p:Array Nat} (h:Ent n p) (i j:Nat):Ent n (p.swapIfInBounds i j):=by
 intro x hx
 refine h x ?_
 unfold Array.swapIfInBounds at hx
 split at hx
 ·split at hx
  ·rename_i h1 h2
   exact ((Array.perm_iff_toList_perm.mp (Array.swap_perm h1 h2)).mem_iff).mp hx
  ·exact hx
 ·exact hx
theorem Ent.swaps {n:Nat} (f g:Nat->Nat):∀ (l:List Nat) {p:Array Nat},Ent n p->Ent n (l.foldl (fun a k=>a.swapIfInBounds (f k) (g k)) p)
 | [],_,h=>h
 | k::l,_,h=>Ent.swaps f g l (h.swap _ _)
theorem Ent.rev {n:Nat} {p:Array Nat} (h:Ent n p) (i j:Nat):Ent n (kas_rev p i j):=by
 unfold kas_rev mirror
 exact Ent.swaps (fun k=>i+k) (fun k=>j-1-k) _ h
theorem Ent.bubble {n:Nat} {p:Array Nat} (h:Ent n p) (i d:Nat):Ent n (bubble p i d):=by
 unfold PyProof.Rows.bubble
 exact Ent.swaps (fun k=>i-k) (fun k=>i-k-1) _ h
theorem asks_asc {n:Nat} (h0:0<n) {p:Array Nat} (h:Ent n p):∀ k i,Asks n (fun _=>True) (kas_asc p k i)
 | 0,i=>by unfold kas_asc;trivial
 | k+1,i=>by
  unfold kas_asc
  refine ⟨h.at h0 _,h.at h0 _,fun b=>?_⟩
  dsimp only
  split
  ·trivial
  ·exact asks_asc h0 h k (i+1)
theorem asks_desc {n:Nat} (h0:0<n):∀ k {p:Array Nat},Ent n p->∀ i m,Asks n (fun r:Array Nat × Nat × Nat=>Ent n r.1) (kas_desc k p i m)
 | 0,p,h,i,m=>by unfold kas_desc;exact h
 | k+1,p,h,i,m=>by
  unfold kas_desc
  refine ⟨h.at h0 _,h.at h0 _,fun b=>?_⟩
  dsimp only
  split
  ·split
   ·exact asks_desc h0 k (h.rev _ _) _ _
   ·exact asks_desc h0 k h _ _
  ·refine ⟨h.at h0 _,h.at h0 _,fun b=>?_⟩
   dsimp only
   split
   ·exact h
   ·exact asks_desc h0 k h _ _
theorem asks_place {n:Nat} (h0:0<n) {p:Array Nat} (h:Ent n p) (k:Nat):∀ f l r,Asks n (fun _=>True) (kas_place p k f l r)
 | 0,l,r=>by unfold kas_place;trivial
 | f+1,l,r=>by
  unfold kas_place
  split
  ·trivial
  ·refine ⟨h.at h0 _,h.at h0 _,fun b=>?_⟩
   dsimp only
   split
   ·exact asks_place h0 h k f _ _
   ·exact asks_place h0 h k f _ _
theorem asks_bin {n:Nat} (h0:0<n):∀ k {p:Array Nat},Ent n p->∀ i,Asks n (Ent n) (kas_bin k p i)
 | 0,p,h,i=>by unfold kas_bin;exact h
 | k+1,p,h,i=>by
  unfold kas_bin
  exact Asks.bind ((asks_place h0 h i i 0 i).mono fun l _=>asks_bin h0 k (h.bubble _ _) (i+1))
theorem asks_tail {n:Nat} (h0:0<n) {p:Array Nat} (h:Ent n p) (i j:Nat):Asks n (fun r:Nat × Array Nat=>Ent n r.2) (kas_tail3 i j p):=by
 unfold kas_tail3
 exact Asks.bind ((asks_asc h0 (h.rev _ _) _ _).mono fun m _=>h.rev _ _)
theorem asks_descP {n:Nat} (h0:0<n) {p:Array Nat} (h:Ent n p) (i j:Nat):Asks n (fun r:Nat × Array Nat=>Ent n r.2) (kas_descPart i j p):=by
 unfold kas_descPart
 refine Asks.bind ((asks_desc h0 _ h _ _).mono fun r hr=>?_)
 try dsimp only
 split
 ·exact asks_tail h0 (hr.rev _ _) _ _
 ·exact asks_tail h0 hr _ _
theorem asks_count {n:Nat} (h0:0<n) {p:Array Nat} (h:Ent n p) (j:Nat):Asks n (fun r:Nat × Array Nat=>Ent n r.2) (kas_count j p):=by
 unfold kas_count
 refine Asks.bind ((asks_asc h0 h _ _).mono fun i _=>?_)
 try dsimp only
 split
 ·exact h
 ·split
  ·refine ⟨h.at h0 _,h.at h0 _,fun b=>?_⟩
   dsimp only
   split
   ·exact h
   ·exact asks_descP h0 (h.rev _ _) _ _
  ·exact asks_descP h0 h _ _
theorem asks_sort {n:Nat} (h0:0<n):Asks n (Ent n) (kas_sort n):=by
 have h:Ent n (List.range n).toArray:=fun x hx=>by simpa using hx
 unfold kas_sort
 refine Asks.bind ((asks_count h0 h n).mono fun r hr=>?_)
 try dsimp only
 split
 ·exact asks_bin h0 _ hr _
 ·exact hr
end L2
namespace L2
open PySem PySem.Spec PyProof.Rows PySem.W
noncomputable def isI:Key->Bool
 | .inl _=>true
 | .inr _=>false
noncomputable def ltK:Key->Key->Bool
 | .inl i,.inl j=>decide (i<j)
 | .inr a,.inr c=>decide (a.cps.toList<c.cps.toList)
 | _,_=>false
noncomputable def ltT:List Key->List Key->Bool
 | a::r,b::q=>if a=b then ltT r q else ltK a b
 | _,_=>false
theorem oneLt_ok {prog:Program} {w:World} {A:Around} {E:Value->Shared->Prop} {fl:Bool} {Q:Bool->Shared->Prop} {s:Shared} {a b:Key} {u v:Value} (ra:RelV (kV a) u) (rb:RelV (kV b) v) (h:isI a=isI b) (q:Q (ltK a b) s):wpAny (model prog w) A (oneLt' fl u v) Q E s:=by
 cases a with
 | inl i =>
  cases b with
  | inr y=>cases h
  | inl j =>
   obtain ⟨t,rfl⟩:=(show ∃ t,u=Value.int i t from ra)
   obtain ⟨t',rfl⟩:=(show ∃ t,v=Value.int j t from rb)
   cases fl with
   | true=>exact kat_lt_int q
   | false=>exact kat_one _ _ (lt_int q)
 | inr x =>
  cases b with
  | inl j=>cases h
  | inr y =>
   obtain ⟨t,rfl⟩:=(show ∃ t,u=Value.str x t from ra)
   obtain ⟨t',rfl⟩:=(show ∃ t,v=Value.str y t from rb)
   cases fl with
   | true=>exact kas_lt_str q
   | false=>exact kat_one _ _ (lt_str q)
theorem katLex_ok {prog:Program} {w:World} {A:Around} {fl:Bool} {Q:Bool->Shared->Prop} {s:Shared}:∀ {a b:List Key} {us vs:List Value} (i:Nat),Vals (a.map kV) us->Vals (b.map kV) vs->a.map isI=b.map isI->Q (ltT a b) s->KatLex prog w A fl false Q (us.zip vs) i s
 | [],[],us,vs,i,ra,rb,h,q=>by cases ra;cases rb;unfold KatLex;exact q
 | [],_::_,us,vs,i,ra,rb,h,q=>by cases h
 | _::_,[],us,vs,i,ra,rb,h,q=>by cases h
 | a::r,b::t,us,vs,i,ra,rb,h,q=>by
  cases ra with
  | @cons _ u _ us ra1 ra2 =>
   cases rb with
   | @cons _ v _ vs rb1 rb2 =>
    simp only [List.map_cons,List.cons.injEq] at h
    show KatLex prog w A fl false Q ((u,v)::us.zip vs) i s
    unfold KatLex
    refine (mixKind prog w).eqBool (kV_is ra1) (kV_is rb1) ?_
    unfold ltT at q
    by_cases e:a=b
    ·rw [if_pos e] at q
     rw [if_pos (Qw e)]
     exact katLex_ok (i+1) ra2 rb2 h.2 q
    ·rw [if_neg e] at q
     rw [if_neg (by rw [Qj e];exact Bool.false_ne_true)]
     exact oneLt_ok ra1 rb1 h.1 q
noncomputable def ordN (ds:List (List Key)) (i j:Nat):Bool:=ltT (ds.getD i []) (ds.getD j [])
noncomputable def pickN (n:Nat) (lt:Nat->Nat->Bool):Array Nat:=runT lt (kas_sort n)
theorem pickN_ent {n:Nat} (lt:Nat->Nat->Bool) (h0:0<n):Ent n (pickN n lt):=asks_run (P:=Ent n) _ _ (asks_sort h0)
theorem sort_any {prog:Program} {w:World} {A:Around} {E:Value->Shared->Prop} {κ:SortKind} {ks vs:List Value} {lt:Nat->Nat->Bool} {s:Shared} (hl:ks.length=vs.length) (h2:2<=vs.length) (h:vs.length<64)
  (hc:∀ i j,i<vs.length->j<vs.length->∀ C:Bool->Shared->Prop,C (lt i j) s->kas_ask prog w A κ ks i j C s) :
  wpAny (model prog w) A ((sortRuns').run (SortSt.mk' κ (ks.toArray.zip vs.toArray) #[] 7 none)) (fun r s'=>s'=s/\failedOf r.2=none/\(arrOf r.2).size=vs.length/\arrOf r.2=Array.map (kas_item (ks.toArray.zip vs.toArray)) (pickN vs.length lt)) E s:=by
 unfold pickN
 exact kat_run (Q:=fun st' s'=>s'=s/\failedOf st'=none/\(arrOf st').size=vs.length/\arrOf st'=Array.map (kas_item (ks.toArray.zip vs.toArray)) (runT lt (kas_sort vs.length))) (G:=fun p s'=>p=runT lt (kas_sort vs.length)/\s'=s) hl h2 h (fun p st' s' hp ha hf hG=>⟨hG.2,hf,by rw [ha,Array.size_map];exact hp,by rw [ha,hG.1]⟩)
  (kasWp_of (n:=vs.length) (lt:=lt) hc (asks_sort (by omega)) ⟨rfl,rfl⟩)
noncomputable def srtI (ds:List (List Key)):List Nat:=if ds.length<2 then List.range ds.length else (pickN ds.length (ordN ds)).toList
noncomputable def srt (ds:List (List Key)) (xs:List V):List V:=(srtI ds).map fun i=>xs.getD i .non
noncomputable def TupsAt (H:Hp) (xs:List V) (ds:List (List Key)):Prop:=xs.length=ds.length/\∀ (i:Nat) (x:V) (d:List Key),xs[i]?=some x->ds[i]?=some d->∃ t,x=.ref t/\H t=some (.tup (d.map kV))
theorem tups_heap {X:Cx} {pins:List (Addr × Obj)} {σ:St} {H:Hp} {s:Shared} (I:Inv X pins σ H s) {t:Addr} {d:List Key} (h:H t=some (.tup (d.map kV))):∃ (o:Obj) (vs:List Value) (n:Nat),s.heap.get? t=some o/\o.cls=.type "tuple"/\o.data=.seq vs.toArray n/\Vals (d.map kV) vs:=by
 obtain ⟨_,its,rv,o,ho,hc,n,hd⟩:=I.hok t _ h
 exact ⟨o,its,n,ho,hc,hd,rv⟩
theorem katTups_of {X:Cx} {pins:List (Addr × Obj)} {σ:St} {H:Hp} {s:Shared} (I:Inv X pins σ H s):∀ {xs:List V} {ds:List (List Key)} {its:List Value},Vals xs its->TupsAt H xs ds->(∀ d∈ds,d≠[])->∃ fs:List Value,KatTups s.heap its fs/\fs.length=ds.length/\∀ (i:Nat) (f:Value) (d:List Key),fs[i]?=some f->ds[i]?=some d->∃ k r,d=k::r/\RelV (kV k) f
 | [],[],_,rv,h,_=>by cases rv;exact ⟨[],KatTups.nil,rfl,fun i f d h=>by simp at h⟩
 | [],_::_,_,_,h,_=>by simp [TupsAt] at h
 | _::_,[],_,_,h,_=>by simp [TupsAt] at h
 | x::xs,d::ds,_,rv,h,hn=>by
  cases rv with
  | @cons _ u _ us r1 r2 =>
   obtain ⟨t,rfl,ht⟩:=h.2 0 x d rfl rfl
   cases (show u=Value.ref t from r1)
   obtain ⟨o,vs,n,ho,hc,hd,rd⟩:=tups_heap I ht
   obtain ⟨fs,k1,k2,k3⟩:=katTups_of I r2 (ds:=ds) ⟨by simpa using h.1,fun i y e a b=>h.2 (i+1) y e a b⟩ fun e he=>hn e (Qg _ he)
   cases d with
   | nil=>exact absurd rfl (hn [] (by simp))
   | cons k r =>
    cases rd with
    | @cons _ f _ gs q1 q2 =>
     refine ⟨f::fs,KatTups.cons ho hc hd (by simp) k1,by simp [k2],fun i g e a b=>?_⟩
     cases i with
     | zero =>
      have e1:f=g:=by simpa using a
      have e2:k::r=e:=by simpa using b
      subst e1 e2
      exact ⟨k,r,rfl,q1⟩
     | succ i=>exact k3 i g e a b
theorem vals_getD:∀ {xs:List V} {vs:List Value},Vals xs vs->∀ i,i<xs.length->RelV (xs.getD i .non) (vs.getD i Value.none)
 | _,_,.nil,i,h=>by simp at h
 | _,_,.cons r1 r2,0,_=>r1
 | _,_,.cons r1 r2,i+1,h=>vals_getD r2 i (by simpa using h)
theorem vals_pick {xs:List V} {vs:List Value} (r:Vals xs vs):∀ p:List Nat,(∀ i∈p,i<xs.length)->Vals (p.map fun i=>xs.getD i .non) (p.map fun i=>vs.getD i Value.none)
 | [],_=>.nil
 | i::p,h=>.cons (vals_getD r i (h i (by simp))) (vals_pick r p fun j hj=>h j (Qg _ hj))
theorem range_pick {α:Type} (d:α):∀ xs:List α,(List.range xs.length).map (fun i=>xs.getD i d)=xs:=by
 intro xs
 refine List.ext_getElem (by simp) fun i h1 h2=>?_
 simp [Qb h2]
section
variable {X:Cx} {pins:List (Addr × Obj)} {σ:St} {H:Hp} {s:Shared} {xs:List V} {ds:List (List Key)} {sh:List Bool}
theorem lsortT {A:Around} {E:Value->Shared->Prop} {a:Addr} {its:List Value} {n:Nat} {P:Fin->Shared->Prop}
  (I:Inv X pins σ H s) (fa:FpOk X pins H a) (ho:s.heap.get? a=some (seqObj "list" its.toArray n)) (rv:Vals xs its) (hz:xs.length<=sizeLine) (h64:xs.length<64) (ht:TupsAt H xs ds) (hsh:∀ d∈ds,d.map isI=sh) (hne:sh≠[])
  (fin:∀ (s':Shared) (out:Array Value) (n':Nat),Inv X pins σ H s'->s'.heap.get? a=some (seqObj "list" out n')->out.size<=sizeLine->Vals (srt ds xs) out.toList->P (.done (.ret .none)) s') :
  wpAny (model X.prog X.w) A (Builtin.«list.sort» ⟨[.ref a],[]⟩) P E s:=by
 have hil:its.length=xs.length:=rv.length.symm
 rw [<- hil] at hz
 obtain ⟨f0,f1,f2,f3,f4,f5⟩:=id fa
 rw [list_sort_plain]
 refine Qa (listItems_at ho rfl ?_)
 refine Qa (listUpdate_at ho rfl ?_ (by rw [Qm];exact hz) (by show (#[]:Array Value).size<=_;simp))
 obtain ⟨e1,ho1⟩:∃ e1,(s.heap.update a (Obj.mapSeq fun _=>#[])).get? a=some (seqObj "list" #[] e1):=⟨_,get?_update_seq ho (fun _=>#[])⟩
 have I1:Inv X pins σ H { s with heap:=s.heap.update a (Obj.mapSeq fun _=>#[]) }:=I.turned (t':=s.toks) (fun b o hb e=>by rw [QH _ _ _ _ hb];exact e) f0 f1 f3 f4 f5
 generalize s.heap.update a (Obj.mapSeq fun _=>#[])=h1 at ho1 I1
 refine Qa (seqEpoch_at (s:={ s with heap:=h1 }) ho1 rfl ?_)
 refine Qa (wpAny_newTuple (s:={ s with heap:=h1 }) ?_ (by simpa using hz))
 have ho2:=Qd (seqObj "tuple" its.toArray.toList.toArray 0) ho1
 have I2:Inv X pins σ H { s with heap:=h1.push (seqObj "tuple" its.toArray.toList.toArray 0) }:=I1.kept (t':=s.toks) fun b o e=>Qd _ e
 change wpAny _ _ _ _ _ { s with heap:=h1.push (seqObj "tuple" its.toArray.toList.toArray 0) }
 generalize h1.push (seqObj "tuple" its.toArray.toList.toArray 0)=h2 at ho2 I2
 refine Qa (wpAny_newList (s:={ s with heap:=h2 }) ?_ (by simp))
 have ho3:=Qd (seqObj "list" #[] 0) ho2
 have I3:Inv X pins σ H { s with heap:=h2.push (seqObj "list" #[] 0) }:=I2.kept (t':=s.toks) fun b o e=>Qd _ e
 change wpAny _ _ _ _ _ { s with heap:=h2.push (seqObj "list" #[] 0) }
 generalize h2.push (seqObj "list" #[] 0)=h3 at ho3 I3
 dsimp only
 refine wpAny_holding ?_
 have ho3:({ s with heap:=h3 }:Shared).heap.get? a=some (seqObj "list" #[] e1):=ho3
 generalize { s with heap:=h3 }=s3 at I3 ho3 ⊢
 have last:∀ st':SortSt,failedOf st'=none->((arrOf st').map (·.2)).size<=sizeLine->Vals (srt ds xs) ((arrOf st').map (·.2)).toList->wpAny (model X.prog X.w) A (do
   let __do_lift <- seqEpoch a
   Builtin.List.listUpdate (Value.ref a) fun x=>Array.map (fun x=>x.snd) (arrOf st')
   match failedOf st' with
    | some e=>do
     rule "list.sort.comparison-raised"
     throw e
     if (__do_lift != e1)=true then do
         rule "list.sort.modified"
         raiseErrorWords "ValueError" "list modified during sort"
         ret Value.none
      else ret Value.none
    | x =>
     if (__do_lift != e1)=true then do
      rule "list.sort.modified"
      raiseErrorWords "ValueError" "list modified during sort"
      ret Value.none
     else ret Value.none) P E s3:=by
  intro st' hf hsz hv
  refine Qa (seqEpoch_at ho3 rfl ?_)
  refine Qa (listUpdate_at ho3 rfl ?_ (by simp) (Nat.le_succ_of_le hsz))
  rw [hf]
  simp only [bne_self_eq_false,Bool.false_eq_true,if_false]
  exact Qc (fin _ _ _ (I3.turned (t':=s3.toks) (fun b o hb e=>by rw [QH _ _ _ _ hb];exact e) f0 f1 f3 f4 f5) (get?_update_seq ho3 (fun _=>(arrOf st').map (·.2))) hsz hv)
 have hdl:ds.length=its.length:=by rw [hil];exact ht.1.symm
 by_cases h2:its.toArray.size<2
 ·rw [if_pos h2]
  refine Qa (Qc ?_)
  rw [if_pos h2,StateT.run_pure]
  refine Qa (Qc ?_)
  have e:((arrOf (SortSt.mk' general' (its.toArray.zip its.toArray) #[] 7 none)).map (·.2))=its.toArray:=by
   show (its.toArray.zip its.toArray).map (·.2)=its.toArray
   rw [<- Array.toList_inj]
   simp [List.map_snd_zip]
  refine last _ rfl (by rw [e,Qm];exact hz) ?_
  rw [e]
  rw [Qm] at h2
  unfold srt srtI
  rw [if_pos (by rw [hdl];exact h2),hdl,hil,range_pick]
  exact rv
 ·rw [if_neg h2]
  rw [Qm] at h2
  have hnn:∀ d∈ds,d≠[]:=fun d hd z=>hne (by rw [<- hsh d hd,z];rfl)
  obtain ⟨fs,kt,kl,kf⟩:=katTups_of I3 rv ht hnn
  have hds:2<=its.length:=by omega
  obtain ⟨b0,sh',rfl⟩:∃ b r,sh=b::r:=by
   cases sh with
   | nil=>exact absurd rfl hne
   | cons b r=>exact ⟨b,r,rfl⟩
  refine Qa (kat_kind (T:=if b0=true then Value.type "int" else Value.type "str") kt (by rw [kl,hdl];omega) (fun v hv=>?_) (by cases b0<;>rfl) ?_)
  ·obtain ⟨i,hi⟩:=List.mem_iff_getElem?.mp hv
   have hil2:=(Qh hi).1
   have hid:i<ds.length:=by rw [<- kl];exact hil2
   obtain ⟨k,r,ed,rk⟩:=kf i v ds[i] hi (Qb hid)
   have hs:=hsh ds[i] (QC hid)
   rw [ed,List.map_cons] at hs
   have hb:isI k=b0:=(List.cons.inj hs).1
   cases k with
   | inl m =>
    obtain ⟨t,rfl⟩:=(show ∃ t,v=Value.int m t from rk)
    rw [<- hb]
    exact fun A Q E s _ q=>Qc q
   | inr z =>
    obtain ⟨t,rfl⟩:=(show ∃ t,v=Value.str z t from rk)
    rw [<- hb]
    exact fun A Q E s _ q=>Qc q
  rw [if_neg (by rw [Qm];exact h2)]
  refine Qa (QJ (sort_any (vs:=its) (ks:=its) (lt:=ordN ds) rfl hds (by rw [hil];exact h64) fun i j hi hj C hC=>?_) ?_ fun _ _ e=>e)
  ·have one:∀ i,i<its.length->∃ (t:Addr) (o:Obj) (vs:List Value) (m:Nat),its.getD i Value.none=.ref t/\s3.heap.get? t=some o/\o.data=.seq vs.toArray m/\Vals ((ds.getD i []).map kV) vs/\(ds.getD i []).map isI=b0::sh':=fun i hi=>by
    have hix:i<xs.length:=by rw [<- hil];exact hi
    have hid:i<ds.length:=by rw [hdl];exact hi
    obtain ⟨t,ex,hH⟩:=ht.2 i xs[i] ds[i] (Qb hix) (Qb hid)
    obtain ⟨o,vs,m,ho,hc,hd,rd⟩:=tups_heap I3 hH
    have rg:=vals_getD rv i hix
    have e1:xs.getD i .non=.ref t:=by rw [Qe,Qb hix,ex];rfl
    have e2:ds.getD i []=ds[i]:=by rw [Qe,Qb hid];rfl
    rw [e1] at rg
    exact ⟨t,o,vs,m,rg,ho,hd,by rw [e2];exact rd,by rw [e2];exact hsh _ (QC hid)⟩
   obtain ⟨t1,o1,v1,m1,a1,a2,a3,a4,a5⟩:=one i hi
   obtain ⟨t2,o2,v2,m2,c1,c2,c3,c4,c5⟩:=one j hj
   show wpAny (model X.prog X.w) A (keyLt' _ (its.getD i Value.none) (its.getD j Value.none)) C _ s3
   rw [a1,c1]
   have hl:v1.length=v2.length:=by
    have q1:=a4.length
    have q2:=c4.length
    have q3:=congrArg List.length (a5.trans c5.symm)
    simp only [Qi] at q1 q2 q3
    omega
   refine kat_lt a2 a3 c2 c3 ?_
   rw [Qj (by simp [hl])]
   exact katLex_ok 0 a4 c4 (a5.trans c5.symm) hC
  rintro ⟨⟨⟩,st'⟩ s2 ⟨rfl,hf,hsz,ha⟩
  have hp:Ent its.length (pickN its.length (ordN ds)):=pickN_ent _ (by omega)
  have em:((arrOf st').map (·.2)).toList=(pickN its.length (ordN ds)).toList.map fun i=>its.getD i Value.none:=by
   rw [ha,Array.toList_map,Array.toList_map,List.map_map]
   refine List.map_congr_left fun i _=>?_
   show (kas_item (its.toArray.zip its.toArray) i).2=_
   rw [kat_item rfl]
  refine last st' hf ?_ ?_
  ·rw [Array.size_map,hsz];exact hz
  ·rw [em]
   unfold srt srtI
   rw [if_neg (by rw [hdl];exact h2),hdl]
   exact vals_pick rv _ fun i hi=>by rw [<- hil];exact hp i hi
end
end L2
namespace L2
open PySem PySem.Spec PyProof.Rows PySem.W
section
variable {X:Cx} {k:Nat} {f:Addr} {fd:FuncData} {ps:List Str} {sp:Sp} {dvs:List V} {ds:List Value} {pins:List (Addr × Obj)} {σ:St} {H:Hp} {s:Shared} {xs:List V} {ds':List (List Key)} {sh:List Bool}
theorem lsort_treeT {A:Around} {E:Value->Shared->Prop} {a:Addr} {its:List Value} {n:Nat} {P:Fin->Shared->Prop} (F:FnOk X.prog X.w X.K X.mg X.base CX0 k f fd ps sp) (hr:Room k A)
  (hA:∀ s H,Env0 X.prog X.w X.K X.mg X.base X.A X.stack s H->Env0 X.prog X.w X.K X.mg X.base A X.stack s H) (hb:Binds X.K fd ps ds) (hd:Vals dvs ds)
  (I:Inv X pins σ H s) (fa:FpOk X pins H a) (ho:s.heap.get? a=some (seqObj "list" its.toArray n)) (rv:Vals xs its) (h64:xs.length<64) (hl:ds'.length=xs.length) (hsh:∀ d∈ds',d.map isI=sh) (hne:sh≠[])
  (hk:∀ (i:Nat) (x:V) (d:List Key) (H':Hp),Same H H'->xs[i]?=some x->ds'[i]?=some d->∀ Q':VK,(∀ t H2,Same H' H2->H2 t=some (.tup (d.map kV))->Q' (.ref t) H2)->sp ([x]++dvs) H' Q' E0)
  (fin:∀ (s':Shared) (H':Hp) (out:Array Value) (n':Nat),Same H H'->H' a=none->Inv X pins σ H' s'->s'.heap.get? a=some (seqObj "list" out n')->out.size<=sizeLine->Vals (srt ds' xs) out.toList->P (.done (.ret .none)) s') :
  wpAny (model X.prog X.w) A (Builtin.«list.sort» ⟨[.ref a],[(Str.ofString "key",.ref f)]⟩) P E s:=by
 have hil:its.length=xs.length:=rv.length.symm
 have hz:its.length<=sizeLine:=by rw [sizeLine_eq];omega
 obtain ⟨f0,f1,f2,f3,f4,f5⟩:=id fa
 rw [lsort_key]
 refine Qa (listItems_at ho rfl ?_)
 refine Qa (listUpdate_at ho rfl ?_ (by rw [Qm];exact hz) (by show (#[]:Array Value).size<=_;simp))
 obtain ⟨e1,ho1⟩:∃ e1,(s.heap.update a (Obj.mapSeq fun _=>#[])).get? a=some (seqObj "list" #[] e1):=⟨_,get?_update_seq ho (fun _=>#[])⟩
 have I1:Inv X pins σ H { s with heap:=s.heap.update a (Obj.mapSeq fun _=>#[]) }:=I.turned (t':=s.toks) (fun b o hb e=>by rw [QH _ _ _ _ hb];exact e) f0 f1 f3 f4 f5
 generalize s.heap.update a (Obj.mapSeq fun _=>#[])=h1 at ho1 I1
 refine Qa (seqEpoch_at (s:={ s with heap:=h1 }) ho1 rfl ?_)
 refine Qa (wpAny_newTuple (s:={ s with heap:=h1 }) ?_ (by simpa using hz))
 have ho2:=Qd (seqObj "tuple" its.toArray.toList.toArray 0) ho1
 have I2:Inv X pins σ H { s with heap:=h1.push (seqObj "tuple" its.toArray.toList.toArray 0) }:=I1.kept (t':=s.toks) fun b o e=>Qd _ e
 change wpAny _ _ _ _ _ { s with heap:=h1.push (seqObj "tuple" its.toArray.toList.toArray 0) }
 generalize h1.push (seqObj "tuple" its.toArray.toList.toArray 0)=h2 at ho2 I2
 refine Qa (wpAny_newList (s:={ s with heap:=h2 }) ?_ (by simp))
 have ho3:=Qd (seqObj "list" #[] 0) ho2
 have hK3:(h2.push (seqObj "list" #[] 0)).get? h2.objs.size=some (seqObj "list" #[] 0):=Qo _ rfl
 have fK:FpOk X pins H h2.objs.size:=I2.fpOk (Qf _) (I2.hok.fresh (Qf _))
 have naK:a≠h2.objs.size:=Qy (Qq ho2)
 have I3:Inv X pins σ H { s with heap:=h2.push (seqObj "list" #[] 0) }:=I2.kept (t':=s.toks) fun b o e=>Qd _ e
 change wpAny _ _ _ _ _ { s with heap:=h2.push (seqObj "list" #[] 0) }
 generalize h2.push (seqObj "list" #[] 0)=h3 at ho3 hK3 I3
 dsimp only
 generalize h2.objs.size=K at hK3 fK naK
 obtain ⟨g0,g1,g2,g3,g4,g5⟩:=id fK
 refine wpAny_holding ?_
 refine Qa (wpAny_rule ?_)
 refine Qa ?_
 rw [<- Array.forIn_toList]
 refine wpAny_forIn_list _ (fun rest _ s'=>∃ (i:Nat) (kv:List Value) (kx:List V) (n':Nat) (H':Hp),rest=its.drop i/\Same H H'/\H' a=none/\H' K=none/\Inv X pins σ H' s'/\s'.heap.get? a=some (seqObj "list" #[] e1)/\s'.heap.get? K=some (seqObj "list" kv.toArray n')/\Vals kx kv/\TupsAt H' kx (ds'.take i)/\i<=its.length) _ ?_ ?_ _ _
  ⟨0,[],[],0,H,by simp,Same.refl _,f0,g0,I3,ho3,hK3,.nil,⟨by simp,fun i x d h=>by simp at h⟩,Qp _⟩
 ·rintro x rest b s' ⟨i,kv,kx,n',H1,er,sm,na1,nK1,I',hoa,hoK,rk,tk,hi⟩
  have hlt:i<its.length:=by
   have:=congrArg List.length er
   simp at this
   omega
  have e2:its[i]?=some x/\its.drop (i+1)=rest:=by
   rw [List.drop_eq_getElem_cons hlt] at er
   obtain ⟨z1,z2⟩:=List.cons.inj er
   exact ⟨by rw [Qb hlt,z1],z2.symm⟩
  have hix:i<xs.length:=by omega
  have hik:i<ds'.length:=by omega
  obtain ⟨u,eu,ru⟩:=rv.get (Qb hix)
  rw [e2.1] at eu
  cases eu
  have r1:Vals ([xs[i]]++dvs) ([x]++ds):=Vals.append (.cons ru .nil) hd
  have hsp:=hk i xs[i] ds'[i] H1 sm (Qb hix) (Qb hik) (fun v H2=>∃ t,v=.ref t/\Same H1 H2/\H2 t=some (.tup (ds'[i].map kV))) fun t H2 a b=>⟨t,rfl,a,b⟩
  have hlen:([x]++ds).length=ps.length:=by rw [<- r1.length];exact F.len _ _ _ _ hsp
  have ho2':∀ b∈[a,K],∃ o,s'.heap.get? b=some o/\∀ v,o.data≠.cell v:=by
   intro b hb
   rcases Qn hb with z | z
   ·subst z;exact ⟨_,hoa,fun v z=>nomatch z⟩
   ·have z:b=K:=by simpa using z
    subst z;exact ⟨_,hoK,fun v z=>nomatch z⟩
  have hf2:∀ b∈[a,K],FpOk X pins H1 b:=by
   intro b hb
   rcases Qn hb with z | z
   ·subst z;exact ⟨na1,fa.2⟩
   ·have z:b=K:=by simpa using z
    subst z;exact ⟨nK1,fK.2⟩
  have Ip:=I'.pinned hf2 ho2'
  refine Qa (wpAny_attempt ?_)
  refine wpAny_call (codeAny_mono (F.run A X.stack s' H1 ⟨[x],[]⟩ ([x]++ds) ([xs[i]]++dvs) _ E0 hr (hA _ _ I'.env0) (hb s' [x] I'.kIn hlen) r1 hsp) fun r s2 hq=>?_)
  cases r with
  | error e=>exact False.elim hq
  | ok fl =>
   cases fl with
   | next=>exact False.elim hq
   | brk=>exact False.elim hq
   | cont=>exact False.elim hq
   | ret u =>
    obtain ⟨v,H2,os,bare,un,hok,rr,t,ev,sm2,ht2⟩:=(show CE X.stack X.prog X.w H1 s' _ u s2 from hq)
    subst ev
    cases (show u=Value.ref t from rr)
    have I2':=Ip.call' os un hok bare (fun b z=>absurd z (by simp))
    have pa:=I2'.pin (a,_) (List.mem_append_right _ (List.mem_append_right _ (mem_pinsAt (by simp) hoa)))
    have pK:=I2'.pin (K,_) (List.mem_append_right _ (List.mem_append_right _ (mem_pinsAt (by simp) hoK)))
    have hoa2:=pa.1
    have hoK2:=pK.1
    have I3':=I2'.unpinned
    have hxl:kx.length=i:=by
     have:=tk.1
     rw [Qv] at this
     omega
    have hkl:kv.length<=64:=by
     have:=rk.length
     omega
    dsimp only
    refine Qa (listUpdate_at hoK2 rfl ?_ (by rw [Qm,sizeLine_eq];omega) (by rw [Array.size_push,Qm,sizeLine_eq];omega))
    obtain ⟨n2,hn2⟩:∃ n2,(s2.heap.update K (Obj.mapSeq (·.push (Value.ref t)))).get? K=some (seqObj "list" (kv++[Value.ref t]).toArray n2):=⟨_,(get?_update_seq hoK2 (·.push (Value.ref t))).trans (by rw [List.push_toArray])⟩
    refine Qc ⟨i+1,kv++[Value.ref t],kx++[.ref t],n2,H2,e2.2.symm,sm.trans sm2,pa.2.1,pK.2.1,I3'.turned (t':=s2.toks) (fun b o hb e=>by rw [QH _ _ _ _ hb];exact e) pK.2.1 g1 g3 g4 g5,?_,hn2,rk.append (.cons (show RelV (.ref t) (Value.ref t) from rfl) .nil),?_,hlt⟩
    ·show (s2.heap.update K _).get? a=_
     rw [QH _ _ _ _ naK];exact hoa2
    ·rw [Qu hik]
     refine ⟨by simp only [QB,Qv,List.length_cons,List.length_nil];omega,fun j y d hy hd'=>?_⟩
     by_cases hj:j<i
     ·rw [Qz (by omega)] at hy
      rw [Qz (by rw [Qv];omega)] at hd'
      obtain ⟨t',a1,a2⟩:=tk.2 j y d hy hd'
      exact ⟨t',a1,sm2 _ _ a2⟩
     ·rw [Qx (by omega)] at hy
      rw [Qx (by rw [Qv];omega)] at hd'
      have hj2:=(Qh hy).1
      have hji:j-kx.length=0:=by simp at hj2;omega
      rw [hji] at hy
      rw [show j-(List.take i ds').length=0 by rw [Qv];omega] at hd'
      have y1:V.ref t=y:=by simpa using hy
      have d1:ds'[i]=d:=by simpa using hd'
      exact ⟨t,y1.symm,by rw [<- d1];exact ht2⟩
 ·rintro b s' ⟨i,kv,kx,n',H1,er,sm,na1,nK1,I',hoa,hoK,rk,tk,hi⟩
  have hi':i=its.length:=by
   have:=congrArg List.length er
   simp at this
   omega
  have tk':TupsAt H1 kx ds':=by
   rw [hi',QA (by omega)] at tk
   exact tk
  have hkl:kv.length=its.length:=by rw [<- rk.length,tk'.1];omega
  clear tk er hi hi'
  have hdl:ds'.length=its.length:=by omega
  refine Qa (listItems_at hoK rfl ?_)
  have last:∀ st':SortSt,failedOf st'=none->((arrOf st').map (·.2)).size=its.length->Vals (srt ds' xs) ((arrOf st').map (·.2)).toList->wpAny (model X.prog X.w) A (do
    Builtin.List.listUpdate (.ref K) fun _=>#[]
    letGo ((arrOf st').map (·.1)).toList (failedOf st').toList
    let touched:=(<- seqEpoch a) != e1
    Builtin.List.listUpdate (.ref a) fun _=>(arrOf st').map (·.2)
    if let some e:=failedOf st' then rule "list.sort.comparison-raised";throw e
    if touched then rule "list.sort.modified";raiseError "ValueError" "list modified during sort"
    ret .none) P E s':=by
   intro st' hf hsz vy
   refine Qa (listUpdate_at hoK rfl ?_ (by rw [Qm];omega) (by show (#[]:Array Value).size<=_;simp))
   refine Qa (wpAny_letGo ?_)
   have hoa2:(s'.heap.update K (Obj.mapSeq fun _=>#[])).get? a=some (seqObj "list" #[] e1):=by rw [QH _ _ _ _ naK];exact hoa
   have I2:Inv X pins σ H1 { s' with heap:=s'.heap.update K (Obj.mapSeq fun _=>#[]) }:=I'.turned (t':=s'.toks) (fun b o hb e=>by rw [QH _ _ _ _ hb];exact e) nK1 g1 g3 g4 g5
   refine Qa (seqEpoch_at (s:={ s' with heap:=s'.heap.update K (Obj.mapSeq fun _=>#[]) }) hoa2 rfl ?_)
   refine Qa (listUpdate_at (s:={ s' with heap:=s'.heap.update K (Obj.mapSeq fun _=>#[]) }) hoa2 rfl ?_ (by simp) (by rw [hsz];omega))
   rw [hf]
   simp only [bne_self_eq_false,Bool.false_eq_true,if_false]
   exact Qc (fin _ H1 _ _ sm na1 (I2.turned (t':=s'.toks) (fun b o hb e=>by rw [QH _ _ _ _ hb];exact e) na1 f1 f3 f4 f5) (get?_update_seq hoa2 (fun _=>(arrOf st').map (·.2))) (by show ((arrOf st').map (·.2)).size<=_;rw [hsz];exact hz) vy)
  by_cases h2:its.toArray.size<2
  ·rw [if_pos h2,if_pos h2]
   refine Qa (Qc ?_)
   rw [StateT.run_pure]
   refine Qa (Qc ?_)
   have e:((arrOf (SortSt.mk' general' (kv.toArray.zip its.toArray) #[] 7 none)).map (·.2))=its.toArray:=by
    show (kv.toArray.zip its.toArray).map (·.2)=its.toArray
    rw [<- Array.toList_inj]
    simp [List.map_snd_zip,hkl]
   refine last _ rfl (by rw [e,Qm]) ?_
   rw [e]
   rw [Qm] at h2
   unfold srt srtI
   rw [if_pos (by rw [hdl];exact h2),hdl,hil,range_pick]
   exact rv
  ·rw [if_neg h2,if_neg h2]
   rw [Qm] at h2
   have hnn:∀ d∈ds',d≠[]:=fun d hd z=>hne (by rw [<- hsh d hd,z];rfl)
   obtain ⟨fs,kt,kl,kf⟩:=katTups_of I' rk tk' hnn
   have hds:2<=its.length:=by omega
   obtain ⟨b0,sh',rfl⟩:∃ b r,sh=b::r:=by
    cases sh with
    | nil=>exact absurd rfl hne
    | cons b r=>exact ⟨b,r,rfl⟩
   refine Qa (kat_kind (T:=if b0=true then Value.type "int" else Value.type "str") kt (by rw [kl,hdl];omega) (fun v hv=>?_) (by cases b0<;>rfl) ?_)
   ·obtain ⟨i,hi⟩:=List.mem_iff_getElem?.mp hv
    have hil2:=(Qh hi).1
    have hid:i<ds'.length:=by rw [<- kl];exact hil2
    obtain ⟨k,r,ed,rk⟩:=kf i v ds'[i] hi (Qb hid)
    have hs:=hsh ds'[i] (QC hid)
    rw [ed,List.map_cons] at hs
    have hb:isI k=b0:=(List.cons.inj hs).1
    cases k with
    | inl m =>
     obtain ⟨t,rfl⟩:=(show ∃ t,v=Value.int m t from rk)
     rw [<- hb]
     exact fun A Q E s _ q=>Qc q
    | inr z =>
     obtain ⟨t,rfl⟩:=(show ∃ t,v=Value.str z t from rk)
     rw [<- hb]
     exact fun A Q E s _ q=>Qc q
   refine Qa (QJ (sort_any (vs:=its) (ks:=kv) (lt:=ordN ds') hkl hds (by omega) fun i j hi hj C hC=>?_) ?_ fun _ _ e=>e)
   ·have one:∀ i,i<its.length->∃ (t:Addr) (o:Obj) (vs:List Value) (m:Nat),kv.getD i Value.none=.ref t/\s'.heap.get? t=some o/\o.data=.seq vs.toArray m/\Vals ((ds'.getD i []).map kV) vs/\(ds'.getD i []).map isI=b0::sh':=fun i hi=>by
     have hix:i<kx.length:=by rw [tk'.1,hdl];exact hi
     have hid:i<ds'.length:=by rw [hdl];exact hi
     obtain ⟨t,ex,hH⟩:=tk'.2 i kx[i] ds'[i] (Qb hix) (Qb hid)
     obtain ⟨o,vs,m,ho,hc,hd,rd⟩:=tups_heap I' hH
     have rg:=vals_getD rk i hix
     have e1:kx.getD i .non=.ref t:=by rw [Qe,Qb hix,ex];rfl
     have e2:ds'.getD i []=ds'[i]:=by rw [Qe,Qb hid];rfl
     rw [e1] at rg
     exact ⟨t,o,vs,m,rg,ho,hd,by rw [e2];exact rd,by rw [e2];exact hsh _ (QC hid)⟩
    obtain ⟨t1,o1,v1,m1,a1,a2,a3,a4,a5⟩:=one i hi
    obtain ⟨t2,o2,v2,m2,c1,c2,c3,c4,c5⟩:=one j hj
    show wpAny (model X.prog X.w) A (keyLt' _ (kv.getD i Value.none) (kv.getD j Value.none)) C _ s'
    rw [a1,c1]
    have hl:v1.length=v2.length:=by
     have q1:=a4.length
     have q2:=c4.length
     have q3:=congrArg List.length (a5.trans c5.symm)
     simp only [Qi] at q1 q2 q3
     omega
    refine kat_lt a2 a3 c2 c3 ?_
    rw [Qj (by simp [hl])]
    exact katLex_ok 0 a4 c4 (a5.trans c5.symm) hC
   rintro ⟨⟨⟩,st'⟩ s2 ⟨rfl,hf,hsz,ha⟩
   have hp:Ent its.length (pickN its.length (ordN ds')):=pickN_ent _ (by omega)
   have em:((arrOf st').map (·.2)).toList=(pickN its.length (ordN ds')).toList.map fun i=>its.getD i Value.none:=by
    rw [ha,Array.toList_map,Array.toList_map,List.map_map]
    refine List.map_congr_left fun i _=>?_
    show (kas_item (kv.toArray.zip its.toArray) i).2=_
    rw [kat_item hkl]
   refine last st' hf (by rw [Array.size_map,hsz]) ?_
   rw [em]
   unfold srt srtI
   rw [if_neg (by rw [hdl];exact h2),hdl]
   exact vals_pick rv _ fun i hi=>by rw [<- hil];exact hp i hi
theorem call_sortedKT {Q:VK} {l:Addr} (F:FnOk X.prog X.w X.K X.mg X.base CX0 k f fd ps sp) (hr:Room (k+2) X.A) (hb:Binds X.K fd ps ds) (hd:Vals dvs ds)
  (I:Inv X pins σ H s) (hq:SqL X.K H l xs) (h64:xs.length<64) (hl:ds'.length=xs.length) (hsh:∀ d∈ds',d.map isI=sh) (hne:sh≠[])
  (hk:∀ (i:Nat) (x:V) (d:List Key) (H':Hp),Same H H'->xs[i]?=some x->ds'[i]?=some d->∀ Q':VK,(∀ t H2,Same H' H2->H2 t=some (.tup (d.map kV))->Q' (.ref t) H2)->sp ([x]++dvs) H' Q' E0)
  (q:∀ p H',Same H H'->H' p=none->Q (.ref p) (upd H' p (.lst (srt ds' xs)))) :
  wpAny (model X.prog X.w) X.A (call (.builtin "sorted") [.ref l] [(Str.ofString "key",.ref f)]) (EP X pins σ Q) X.xe s:=by
 obtain ⟨its,rv,pl,hz⟩:=I.list hq
 have hil:its.length=xs.length:=rv.length.symm
 refine call_function_entry_kw kind_sorted plain_sorted entry_sorted (args_sorted_key _ _) ?_
 unfold Builtin.«sorted»
 refine Qa (m:=checkCount "sorted" 1 1 _) (Qc ?_)
 refine Qa (collect_list pl.isList ?_ (by rw [hil];exact hz))
 have I1:Inv X pins σ H { s with heap:=(s.heap.push (seqObj "list" #[] 0)).update s.heap.objs.size (Obj.mapSeq (·++its.toArray)) }:=I.kept (t':=s.toks) fun b o e=>by
  rw [QH _ _ _ _ (Qy (Qq e))]
  exact Qd _ e
 generalize (s.heap.push (seqObj "list" #[] 0)).update s.heap.objs.size (Obj.mapSeq (·++its.toArray))=h1 at I1
 refine Qa (wpAny_newList (s:={ s with heap:=h1 }) ?_ (by rw [hil];exact hz))
 have hoL:(h1.push (seqObj "list" its.toArray 0)).get? h1.objs.size=some (seqObj "list" its.toArray 0):=Qo _ rfl
 have I2:Inv X pins σ H { s with heap:=h1.push (seqObj "list" its.toArray 0) }:=I1.kept (t':=s.toks) fun b o e=>Qd _ e
 have fL:FpOk X pins H h1.objs.size:=I1.fpOk (Qf _) (I1.hok.fresh (Qf _))
 change wpAny _ _ _ _ _ { s with heap:=h1.push (seqObj "list" its.toArray 0) }
 dsimp only
 generalize h1.push (seqObj "list" its.toArray 0)=h2 at hoL I2
 generalize h1.objs.size=L at hoL fL
 have hr2:Room k X.A.in1.in1:=(Room.in1 (k:=k+1) hr).in1
 refine Qa (wpAny_holding (wpAny_call_entry_kw (s:={ s with heap:=h2 }) slot_list_sort ⟨_,hoL,rfl⟩ entry_list_sort (lsort_treeT F hr2 (fun _ _ e=>e.in1.in1) hb hd I2 fL hoL rv h64 hl hsh hne hk fun s' H' out n' sm nL I' hoa hos vy=>⟨_,rfl,?_⟩) (args_lsort_key _ _)))
 refine Qc ⟨_,rfl,.ref L,upd H' L (.lst (srt ds' xs)),I'.adopt ⟨nL,fL.2⟩ ?_,rfl,q L H' sm nL⟩
 have hyl:(srt ds' xs).length<=sizeLine:=by rw [vy.length,QD];exact hos
 exact ⟨hyl,out.toList,n',vy,by simpa using hoa⟩
end
noncomputable def tSortKT (sp:Sp) (dvs:List V) (K:PySem.W.Frag) (t:TE):TE:=fun σ H Q=>t σ H fun x H1=>∃ (l:Addr) (xs:List V) (ds':List (List Key)) (sh:List Bool),x=.ref l/\SqL K H1 l xs/\xs.length<64/\ds'.length=xs.length/\(∀ d∈ds',d.map isI=sh)/\sh≠[] /\
 (∀ (i:Nat) (x:V) (d:List Key) (H':Hp),Same H1 H'->xs[i]?=some x->ds'[i]?=some d->∀ Q':VK,(∀ t H2,Same H' H2->H2 t=some (.tup (d.map kV))->Q' (.ref t) H2)->sp ([x]++dvs) H' Q' E0)/\∀ p H',Same H1 H'->H' p=none->Q (.ref p) (upd H' p (.lst (srt ds' xs)))
theorem pe_sortKT {X:Cx} {k:Nat} {f:Addr} {fd:FuncData} {ps:List Str} {sp:Sp} {dvs:List V} {ds:List Value} {K:PySem.W.Frag} {e:Expr} {t:TE} {y:Str} {p p2 p3 pos:Pos} (hK:X.K=K) (F:FnOk X.prog X.w X.K X.mg X.base CX0 k f fd ps sp) (hr:Room (k+2) X.A) (hb:Binds X.K fd ps ds) (hd:Vals dvs ds)
  (hg:Gl X "sorted") (hm:X.mg "sorted"=none) (hgf:Gl X y) (hmf:X.mg y=some (.ref f)) (he:PE X e t) (hy:(y == ("__debug__":Str))=false:=by decide)
  (hs:starEach [e] X.env=(false,eval e X.env)::starEach [] X.env:=by rfl) :
  PE X (.Call (.Name "sorted" p) [e] [⟨some "key",.Name y p2,p3⟩] pos) (tSortKT sp dvs K t):=by
 intro pins s σ H Q I h
 subst hK
 refine wpAny_Call_Name_kw (ld_blt I hg hm (show bootBuiltins "sorted"=some (.builtin "sorted") from by decide +kernel) ?_)
 refine callWith_kw ?_ (by rw [hs];rfl) (by rw [hs];rfl)
 rw [hs]
 show wpAny _ _ (spliced ((false,eval e X.env)::backTo pos (starEach [] X.env))) _ _ s
 refine Calls.spliced_cons (thn (he pins s σ H _ I h) fun u s1 ⟨x,H1,I1,r1,q1⟩=>Calls.spliced_nil ?_)
 obtain ⟨l,xs,ds',sh,e1,hq,h64,hl,hsh,hne,hk,q⟩:=q1
 subst e1
 cases (show u=Value.ref l from r1)
 refine thn ((pk_cons (te:=fun _ H Q=>Q (.ref f) H) (fun pins s σ H Q I h=>ld_glob I hgf hmf ⟨.ref f,H,I,rfl,h⟩ hy) pk_nil) pos pins s1 σ H1 (fun zs H2=>zs=[.ref f]/\H2=H1) I1 ⟨rfl,rfl⟩) fun ws s2 hsl57=>?_
 obtain ⟨zs,H2,I2,rz,ez,eH⟩:=hsl57
 subst ez eH
 obtain ⟨u,rfl,ru⟩:=vals1 rz
 cases (show u=Value.ref f from ru)
 exact call_sortedKT F hr hb hd I2 hq h64 hl hsh hne hk q
end L2
namespace Mm
end Mm
namespace Mm
open PySem L2 PyProof.Rows
end Mm
namespace L2
open PySem PySem.Spec PyProof.Rows
noncomputable def chAt (z:Str) (i:Nat):V:=.str ⟨#[z.cps.toList.getD i 0]⟩
theorem turn_str {P:Program} {w:World} {K:PySem.W.Frag} {tg:Expr} (it:Addr) (z:Str) (t:Tok) :
  Turn P w K tg (ItN z.length (chAt z)) [it] it (fun i h=>i<=z.length/\h.IsStrIter it "str_ascii_iterator" z t i) where
 mem:=by simp
 obj:=fun i h st b hb=>by
  have e:b=it:=by simpa using hb
  subst e
  obtain ⟨_,o,e,c,d⟩:=st
  exact ⟨o,e,fun v z=>by rw [d] at z;cases z⟩
 keep:=fun i h h' st k=>⟨st.1,by obtain ⟨o,e,r⟩:=st.2;exact ⟨o,k it (by simp) o e,r⟩⟩
 item:=by
  intro X hP hw hK hc i pins s σ H E I hf st hg
  subst hP hw hK
  have hg:i<z.length:=hg
  obtain ⟨f0,f1,f2,f3,f4,f5⟩:=hf it (by simp)
  have hl:z.cps.toList.length=z.length:=by simp [Str.length]
  have hcc:z.cps[i]?=some (z.cps.toList.getD i 0):=by
   rw [Qe,Qb (by omega),<- Array.getElem?_toList,Qb (by omega)];rfl
  refine wpAny_pyNext_ascii_item st.2 hcc fun h' st' sb=>?_
  have I1:Inv X pins σ H { s with heap:=h',toks:=s.toks+1 }:=I.turned (fun b o hb e=>(sb.2 b hb).trans e) f0 f1 f3 f4 f5
  obtain ⟨o,e,c,d⟩:=id st'
  exact ⟨_,rfl,go_of (s:={ s with heap:=h',toks:=s.toks+1 }) e c d (by decide) ⟨chAt z i,H,I1,⟨s.toks,rfl⟩,⟨rfl,rfl⟩,⟨hg,st'⟩,fun b hb=>(hf b hb).1⟩⟩
 done:=by
  intro X hP hw hK hc i pins s σ H E I hf st hg
  subst hP hw hK
  have hg:z.length<=i:=hg
  obtain ⟨f0,f1,f2,f3,f4,f5⟩:=hf it (by simp)
  exact wpAny_pyNext_ascii_end (I.ok.hd hc) st.2 (Array.getElem?_eq_none (by show z.length<=i;exact hg)) fun h' eb=>⟨rfl,I.turned (t':=s.toks) (fun b o hb e=>eb b o hb e) f0 f1 f3 f4 f5⟩
 self:=fun _ _ _ _ _ st h=>wpAny_pyIter_striter_ascii st.2 h
section
variable {X:Cx} {tg:Expr}
noncomputable def iStr (te:TE):TI:=fun σ H R=>te σ H fun x H1=>∃ z:Str,x=.str z/\z.cps.all (·<128)=true/\R (ItN z.length (chAt z)) H1
theorem pi_str {e:Expr} {te:TE} (he:PE X e te):PI X tg e (iStr te):=by
 intro pins s σ H R I h
 refine thn (he pins s σ H _ I h) fun v s1 hsl58=>?_
 obtain ⟨x,H1,I1,r1,q1⟩:=hsl58
 obtain ⟨z,e,ha,q⟩:=q1
 subst e
 obtain ⟨t,rfl⟩:=r1
 refine wpAny_pyIter_ascii ha ?_
 refine ⟨s1.heap.objs.size,[s1.heap.objs.size],_,_,H1,rfl,I1.kept (t':=s1.toks) fun b o e=>Qd _ e,turn_str _ z t,⟨Qp _,_,Qo _ rfl,rfl,rfl⟩,fun b hb=>?_,q⟩
 have e:b=s1.heap.objs.size:=by simpa using hb
 subst e
 exact I1.fpOk (Qf _) (I1.hok.fresh (Qf _))
end
end L2
namespace L2
open PySem PySem.Spec PyProof.Rows
section
variable {X:Cx}
theorem op_in_seqK {K:PySem.W.Frag} (hK:X.K=K):OpR X (compareOp .In) (rIn K false):=by subst hK;exact op_in_seq
theorem op_notIn_seqK {K:PySem.W.Frag} (hK:X.K=K):OpR X (compareOp .NotIn) (rIn K true):=by subst hK;exact op_notIn_seq
end
section
variable {js:List Nat} {tt:TT} {te:TE}
theorem comp_N {n:Nat} {y:Nat->V} {σ:St} {H:Hp} {Q:VK} (Pv:Nat->List V->Hp->Prop) (h0:Pv 0 [] H)
  (hs:∀ i ys H,i<n->Pv i ys H->tt (some (y i)::pick js σ) H fun b H2=>if b=true then te (some (y i)::pick js σ) H2 fun z H3=>ys.length<sizeLine/\Pv (i+1) (ys++[z]) H3 else Pv (i+1) ys H2)
  (hd:∀ ys H,Pv n ys H->∀ p,H p=none->Q (.ref p) (upd H p (.lst ys))):tCompB (ItN n y) js tt te σ H Q:=by
 refine ⟨fun i m ys H=>i+m=n/\Pv i ys H,⟨n,by simp,h0⟩,?_⟩
 rintro i m ys H1 ⟨e,q⟩
 rcases Nat.lt_or_ge i n with hlt | hge
 ·refine .inr ⟨hlt,fun ys' H'=>Pv (i+1) ys' H',fun ys' H' q'=>⟨m-1,by omega,by omega,q'⟩,?_⟩
  rintro x H' ⟨rfl,rfl⟩
  exact hs i ys _ hlt q
 ·have:i=n:=by omega
  subst this
  exact .inl ⟨hge,hd ys H1 q⟩
end
end L2
namespace Mm
open PySem L2 PyProof.Rows
noncomputable def ops7:List Str:=["+","-","*","less","same","and","or"]
inductive Ex where
 | num (n:Int)
 | truth (z:Str)
 | name (z:Str)
 | not (e:Ex)
 | op (w:Str) (a b:Ex)
 | of (n:Str) (e:Ex)
 | many (w n:Str) (es:List Ex)
mutual
inductive ExAt (H:Hp):V->Ex->Prop where
 | num {t:Addr} {n:Int}:H t=some (.tup [.str "num",.int n])->ExAt H (.ref t) (.num n)
 | truth {t:Addr} {z:Str}:H t=some (.tup [.str "truth",.str z])->ExAt H (.ref t) (.truth z)
 | name {t:Addr} {z:Str}:H t=some (.tup [.str "name",.str z])->ExAt H (.ref t) (.name z)
 | not {t:Addr} {v:V} {e:Ex}:H t=some (.tup [.str "not",v])->ExAt H v e->ExAt H (.ref t) (.not e)
 | op {t:Addr} {z:Str} {v u:V} {a b:Ex}:H t=some (.tup [.str z,v,u])->ExAt H v a->ExAt H u b->ExAt H (.ref t) (.op z a b)
 | of {t:Addr} {n:Str} {v:V} {e:Ex}:H t=some (.tup [.str "of",.str n,v])->ExAt H v e->ExAt H (.ref t) (.of n e)
 | many {t l:Addr} {z n:Str} {vs:List V} {es:List Ex}:H t=some (.tup [.str z,.str n,.ref l])->H l=some (.tup vs)->ExsAt H vs es->ExAt H (.ref t) (.many z n es)
inductive ExsAt (H:Hp):List V->List Ex->Prop where
 | nil:ExsAt H [] []
 | cons {v:V} {vs:List V} {e:Ex} {es:List Ex}:ExAt H v e->ExsAt H vs es->ExsAt H (v::vs) (e::es)
end
noncomputable def TupS (H H':Hp):Prop:=∀ b xs,H b=some (.tup xs)->H' b=some (.tup xs)
mutual
theorem ExAt.kept {H H':Hp} (s:TupS H H'):∀ {v:V} {e:Ex},ExAt H v e->ExAt H' v e
 | _,_,.num h=>.num (s _ _ h)
 | _,_,.truth h=>.truth (s _ _ h)
 | _,_,.name h=>.name (s _ _ h)
 | _,_,.not h a=>.not (s _ _ h) (a.kept s)
 | _,_,.op h a b=>.op (s _ _ h) (a.kept s) (b.kept s)
 | _,_,.of h a=>.of (s _ _ h) (a.kept s)
 | _,_,.many h l a=>.many (s _ _ h) (s _ _ l) (a.kept s)
theorem ExsAt.kept {H H':Hp} (s:TupS H H'):∀ {vs:List V} {es:List Ex},ExsAt H vs es->ExsAt H' vs es
 | _,_,.nil=>.nil
 | _,_,.cons a b=>.cons (a.kept s) (b.kept s)
end
theorem _root_.L2.Same.tups {H H':Hp} (s:Same H H'):TupS H H':=fun _ _ h=>s _ _ h
end Mm
namespace L2
open PySem PySem.Spec PyProof.Rows PySem.W
theorem op_catTK {X:Cx} {K:PySem.W.Frag} (hK:X.K=K):OpR X (binaryOp .Add) (rCatT K):=by subst hK;exact op_catT
theorem bt_sorted:bootBuiltins "sorted"=some (.builtin "sorted"):=by decide +kernel
theorem pe_no {X:Cx} {e:Expr}:PE X e (fun _ _ _=>False):=fun _ _ _ _ _ _ h=>h.elim
theorem sz_swaps (f g:Nat->Nat):∀ (l:List Nat) (p:Array Nat),(l.foldl (fun a k=>a.swapIfInBounds (f k) (g k)) p).size=p.size
 | [],_=>rfl
 | k::l,p=>by
  show (l.foldl _ (p.swapIfInBounds (f k) (g k))).size=_
  rw [sz_swaps f g l]
  simp
noncomputable def EntS (m n:Nat) (p:Array Nat):Prop:=Ent n p/\p.size=m
theorem EntS.at {m n:Nat} {p:Array Nat} (h0:0<n) (h:EntS m n p) (k:Nat):p.getD k 0<n:=h.1.at h0 k
theorem EntS.rev {m n:Nat} {p:Array Nat} (h:EntS m n p) (i j:Nat):EntS m n (kas_rev p i j):=⟨h.1.rev i j,(kas_rev_size i j).trans h.2⟩
theorem EntS.bubble {m n:Nat} {p:Array Nat} (h:EntS m n p) (i d:Nat):EntS m n (bubble p i d):=⟨h.1.bubble i d,by
 have:(PyProof.Rows.bubble p i d).size=p.size:=by unfold PyProof.Rows.bubble;exact sz_swaps (fun k=>i-k) (fun k=>i-k-1) _ _
 exact this.trans h.2⟩
theorem askz_asc {zz n:Nat} (h0:0<n) {p:Array Nat} (h:EntS zz n p):∀ k i,Asks n (fun _=>True) (kas_asc p k i)
 | 0,i=>by unfold kas_asc;trivial
 | k+1,i=>by
  unfold kas_asc
  refine ⟨h.at h0 _,h.at h0 _,fun b=>?_⟩
  dsimp only
  split
  ·trivial
  ·exact askz_asc h0 h k (i+1)
theorem askz_desc {zz n:Nat} (h0:0<n):∀ k {p:Array Nat},EntS zz n p->∀ i m,Asks n (fun r:Array Nat × Nat × Nat=>EntS zz n r.1) (kas_desc k p i m)
 | 0,p,h,i,m=>by unfold kas_desc;exact h
 | k+1,p,h,i,m=>by
  unfold kas_desc
  refine ⟨h.at h0 _,h.at h0 _,fun b=>?_⟩
  dsimp only
  split
  ·split
   ·exact askz_desc h0 k (h.rev _ _) _ _
   ·exact askz_desc h0 k h _ _
  ·refine ⟨h.at h0 _,h.at h0 _,fun b=>?_⟩
   dsimp only
   split
   ·exact h
   ·exact askz_desc h0 k h _ _
theorem askz_place {zz n:Nat} (h0:0<n) {p:Array Nat} (h:EntS zz n p) (k:Nat):∀ f l r,Asks n (fun _=>True) (kas_place p k f l r)
 | 0,l,r=>by unfold kas_place;trivial
 | f+1,l,r=>by
  unfold kas_place
  split
  ·trivial
  ·refine ⟨h.at h0 _,h.at h0 _,fun b=>?_⟩
   dsimp only
   split
   ·exact askz_place h0 h k f _ _
   ·exact askz_place h0 h k f _ _
theorem askz_bin {zz n:Nat} (h0:0<n):∀ k {p:Array Nat},EntS zz n p->∀ i,Asks n (EntS zz n) (kas_bin k p i)
 | 0,p,h,i=>by unfold kas_bin;exact h
 | k+1,p,h,i=>by
  unfold kas_bin
  exact Asks.bind ((askz_place h0 h i i 0 i).mono fun l _=>askz_bin h0 k (h.bubble _ _) (i+1))
theorem askz_tail {zz n:Nat} (h0:0<n) {p:Array Nat} (h:EntS zz n p) (i j:Nat):Asks n (fun r:Nat × Array Nat=>EntS zz n r.2) (kas_tail3 i j p):=by
 unfold kas_tail3
 exact Asks.bind ((askz_asc h0 (h.rev _ _) _ _).mono fun m _=>h.rev _ _)
theorem askz_descP {zz n:Nat} (h0:0<n) {p:Array Nat} (h:EntS zz n p) (i j:Nat):Asks n (fun r:Nat × Array Nat=>EntS zz n r.2) (kas_descPart i j p):=by
 unfold kas_descPart
 refine Asks.bind ((askz_desc h0 _ h _ _).mono fun r hr=>?_)
 try dsimp only
 split
 ·exact askz_tail h0 (hr.rev _ _) _ _
 ·exact askz_tail h0 hr _ _
theorem askz_count {zz n:Nat} (h0:0<n) {p:Array Nat} (h:EntS zz n p) (j:Nat):Asks n (fun r:Nat × Array Nat=>EntS zz n r.2) (kas_count j p):=by
 unfold kas_count
 refine Asks.bind ((askz_asc h0 h _ _).mono fun i _=>?_)
 try dsimp only
 split
 ·exact h
 ·split
  ·refine ⟨h.at h0 _,h.at h0 _,fun b=>?_⟩
   dsimp only
   split
   ·exact h
   ·exact askz_descP h0 (h.rev _ _) _ _
  ·exact askz_descP h0 h _ _
theorem askz_sort {n:Nat} (h0:0<n):Asks n (EntS n n) (kas_sort n):=by
 have h:EntS n n (List.range n).toArray:=⟨fun x hx=>by simpa using hx,by simp⟩
 unfold kas_sort
 refine Asks.bind ((askz_count h0 h n).mono fun r hr=>?_)
 try dsimp only
 split
 ·exact askz_bin h0 _ hr _
 ·exact hr
theorem srtI_len (ds:List (List Key)):(srtI ds).length=ds.length:=by
 unfold srtI
 split
 ·simp
 ·rw [QD]
  unfold pickN
  exact (asks_run (P:=EntS ds.length ds.length) (ordN ds) _ (askz_sort (by omega))).2
theorem runT_bind {α β:Type} (lt:Nat->Nat->Bool) (f:α->KasT β):∀ t:KasT α,runT lt (t.bind f)=runT lt (f (runT lt t))
 | .ret a=>rfl
 | .ask i j k=>runT_bind lt f (k (lt i j))
theorem range_at {n i:Nat} (h:i<n):(List.toArray (List.range n)).getD i 0=i:=by simp [Array.getD,h]
theorem runT_asc {lt:Nat->Nat->Bool} {n:Nat} (h:∀ i,i+1<n->lt (i+1) i=false):∀ f i,1<=i->i+f=n->runT lt (kas_asc (List.toArray (List.range n)) f i)=n
 | 0,i,h1,h2=>by unfold kas_asc;exact h2
 | f+1,i,h1,h2=>by
  unfold kas_asc
  have e:lt ((List.toArray (List.range n)).getD i 0) ((List.toArray (List.range n)).getD (i-1) 0)=false:=by
   rw [range_at (by omega),range_at (by omega)]
   have:=h (i-1) (by omega)
   rw [Nat.sub_add_cancel h1] at this
   exact this
  show runT lt (if lt _ _=true then _ else _)=n
  rw [e,if_neg (by decide)]
  exact runT_asc h f (i+1) (by omega) (by omega)
theorem runT_sorted {lt:Nat->Nat->Bool} {n:Nat} (hn:1<=n) (h:∀ i,i+1<n->lt (i+1) i=false):runT lt (kas_sort n)=List.toArray (List.range n):=by
 unfold kas_sort kas_count
 rw [runT_bind,runT_bind,runT_asc h (n-1) 1 (Qf _) (by omega)]
 simp only [beq_self_eq_true,if_true,runT,Nat.lt_irrefl,if_false]
theorem srt_asc {ds:List (List Key)} {xs:List V} (h64:ds.length<64) (hl:ds.length=xs.length) (h:∀ i,i+1<ds.length->ltT (ds.getD (i+1) []) (ds.getD i [])=false):srt ds xs=xs:=by
 unfold srt srtI
 split
 ·rw [hl,range_pick]
 ·unfold pickN
  rw [runT_sorted (by omega) (lt:=ordN ds) h]
  show (List.range ds.length).map _=_
  rw [hl,range_pick]
end L2
namespace Mm
open PySem L2 PyProof.Rows
inductive Tr where
 | set (r:Nat) (n:Str) (e:Ex)
 | tell (r:Nat) (e:Ex)
 | iff (r:Nat) (e:Ex) (b o:List Tr)
 | whl (r:Nat) (e:Ex) (b:List Tr)
noncomputable def Tr.row:Tr->Nat
 | .set r _ _=>r
 | .tell r _=>r
 | .iff r _ _ _=>r
 | .whl r _ _=>r
mutual
noncomputable def Tr.deep:Tr->Nat
 | .set _ _ _=>0
 | .tell _ _=>0
 | .iff _ _ b o=>max (deeps b) (deeps o)
 | .whl _ _ b=>deeps b
noncomputable def deeps:List Tr->Nat
 | []=>0
 | t::ts=>max (t.deep+1) (deeps ts)
end
inductive Part where
 | s (z:Str)
 | i (n:Nat)
 | e (x:Ex)
 | b (ts:List Tr)
noncomputable def Tr.parts:Tr->List Part
 | .set r n e=>[.s "set",.i r,.s n,.e e]
 | .tell r e=>[.s "tell",.i r,.e e]
 | .iff r e b o=>[.s "if",.i r,.e e,.b b,.b o]
 | .whl r e b=>[.s "while",.i r,.e e,.b b]
theorem Tr.parts_len (t:Tr):t.parts.length<=5:=by cases t<;>simp [Tr.parts]
mutual
inductive SAt (H:Hp) (sh:Bool):V->Tr->Prop where
 | mk {t:Addr} {vs:List V} {x:Tr}:H t=some (.tup vs)->PsAt H sh vs x.parts->SAt H sh (.ref t) x
inductive PsAt (H:Hp) (sh:Bool):List V->List Part->Prop where
 | nil:PsAt H sh [] []
 | cons {v:V} {vs:List V} {p:Part} {ps:List Part}:PAt H sh v p->PsAt H sh vs ps->PsAt H sh (v::vs) (p::ps)
inductive PAt (H:Hp) (sh:Bool):V->Part->Prop where
 | s (z:Str):PAt H sh (.str z) (.s z)
 | i (n:Nat):PAt H sh (.int (n:Int)) (.i n)
 | e {v:V} {x:Ex}:ExAt H v x->PAt H sh v (.e x)
 | b {l:Addr} {xs:List V} {ts:List Tr}:H l=some (.lst xs)->LAt H sh xs ts->PAt H sh (.ref l) (.b ts)
inductive LAt (H:Hp) (sh:Bool):List V->List Tr->Prop where
 | nil:LAt H sh [] []
 | cons {v:V} {vs:List V} {t:Tr} {ts:List Tr}:OAt H sh v t->LAt H sh vs ts->LAt H sh (v::vs) (t::ts)
inductive OAt (H:Hp) (sh:Bool):V->Tr->Prop where
 | plain {v:V} {t:Tr}:sh=false->SAt H sh v t->OAt H sh v t
 | shared {p:Addr} {v:V} {t:Tr}:sh=true->H p=some (.tup [.int 1,v])->SAt H sh v t->OAt H sh (.ref p) t
end
structure LsS (H H':Hp):Prop where
 t:∀ b xs,H b=some (.tup xs)->H' b=some (.tup xs)
 l:∀ b xs,H b=some (.lst xs)->H' b=some (.lst xs)
 z:∀ b o x,H b=some (.frz o x)->H' b=some (.frz o x)
theorem LsS.refl (H:Hp):LsS H H:=⟨fun _ _ h=>h,fun _ _ h=>h,fun _ _ _ h=>h⟩
theorem LsS.trans {H H1 H2:Hp} (a:LsS H H1) (b:LsS H1 H2):LsS H H2:=⟨fun _ _ h=>b.1 _ _ (a.1 _ _ h),fun _ _ h=>b.2 _ _ (a.2 _ _ h),fun _ _ _ h=>b.z _ _ _ (a.z _ _ _ h)⟩
theorem LsS.seq {K:PySem.W.Frag} {H H':Hp} (s:LsS H H') {a:Addr} {xs:List V} (h:SqL K H a xs):SqL K H' a xs:=by
 rcases h with (h | ⟨o,h⟩) | h
 ·exact .inl (.inl (s.2 _ _ h))
 ·exact .inl (.inr ⟨o,s.z _ _ _ h⟩)
 ·exact .inr h
theorem _root_.L2.Same.ls {H H':Hp} (s:Same H H'):LsS H H':=⟨fun _ _ h=>s _ _ h,fun _ _ h=>s _ _ h,fun _ _ _ h=>s _ _ h⟩
mutual
theorem SAt.kept {H H':Hp} {sh:Bool} (s:LsS H H'):∀ {v:V} {t:Tr},SAt H sh v t->SAt H' sh v t
 | _,_,.mk h a=>.mk (s.1 _ _ h) (a.kept s)
theorem PsAt.kept {H H':Hp} {sh:Bool} (s:LsS H H'):∀ {vs:List V} {ps:List Part},PsAt H sh vs ps->PsAt H' sh vs ps
 | _,_,.nil=>.nil
 | _,_,.cons a b=>.cons (a.kept s) (b.kept s)
theorem PAt.kept {H H':Hp} {sh:Bool} (s:LsS H H'):∀ {v:V} {p:Part},PAt H sh v p->PAt H' sh v p
 | _,_,.s z=>.s z
 | _,_,.i n=>.i n
 | _,_,.e a=>.e (a.kept s.1)
 | _,_,.b l a=>.b (s.2 _ _ l) (a.kept s)
theorem LAt.kept {H H':Hp} {sh:Bool} (s:LsS H H'):∀ {vs:List V} {ts:List Tr},LAt H sh vs ts->LAt H' sh vs ts
 | _,_,.nil=>.nil
 | _,_,.cons a b=>.cons (a.kept s) (b.kept s)
theorem OAt.kept {H H':Hp} {sh:Bool} (s:LsS H H'):∀ {v:V} {t:Tr},OAt H sh v t->OAt H' sh v t
 | _,_,.plain e a=>.plain e (a.kept s)
 | _,_,.shared e h a=>.shared e (s.1 _ _ h) (a.kept s)
end
theorem PsAt.length {H:Hp} {sh:Bool}:∀ {vs:List V} {ps:List Part},PsAt H sh vs ps->vs.length=ps.length
 | _,_,.nil=>rfl
 | _,_,.cons _ b=>by simp [b.length]
theorem PsAt.get {H:Hp} {sh:Bool}:∀ {vs:List V} {ps:List Part},PsAt H sh vs ps->∀ {i:Nat} {v:V},vs[i]?=some v->∃ p,ps[i]?=some p/\PAt H sh v p
 | _,_,.nil,i,v,h=>by simp at h
 | _,_,.cons a b,0,v,h=>by
  cases (show some _=some v from h)
  exact ⟨_,rfl,a⟩
 | _,_,.cons a b,i+1,v,h=>b.get h
theorem PsAt.snoc {H:Hp} {sh:Bool}:∀ {vs:List V} {ps:List Part} {v:V} {p:Part},PsAt H sh vs ps->PAt H sh v p->PsAt H sh (vs++[v]) (ps++[p])
 | _,_,_,_,.nil,h=>.cons h .nil
 | _,_,_,_,.cons a b,h=>.cons a (b.snoc h)
theorem PAt.other {H:Hp} {sh sh':Bool} {v:V} {p:Part} (h:PAt H sh v p) (n:∀ ts,p≠.b ts):PAt H sh' v p:=by
 cases h with
 | s z=>exact .s z
 | i m=>exact .i m
 | e a=>exact .e a
 | b _ _=>exact absurd rfl (n _)
theorem ExAt.tup {H:Hp} {v:V} {e:Ex} (h:ExAt H v e):∃ t xs,v=.ref t/\H t=some (.tup xs):=by
 cases h with
 | num h=>exact ⟨_,_,rfl,h⟩
 | truth h=>exact ⟨_,_,rfl,h⟩
 | name h=>exact ⟨_,_,rfl,h⟩
 | not h _=>exact ⟨_,_,rfl,h⟩
 | op h _ _=>exact ⟨_,_,rfl,h⟩
 | of h _=>exact ⟨_,_,rfl,h⟩
 | many h _ _=>exact ⟨_,_,rfl,h⟩
theorem kit_il (K:PySem.W.Frag):PySem.W.kitOne K (.type "int") (.type "list")=some false:=by rfl
theorem kit_sl (K:PySem.W.Frag):PySem.W.kitOne K (.type "str") (.type "list")=some false:=by rfl
theorem kit_tl (K:PySem.W.Frag):PySem.W.kitOne K (.type "tuple") (.type "list")=some false:=by rfl
theorem PAt.isL {K:PySem.W.Frag} {H:Hp} {sh:Bool} {v:V} {p:Part} (h:PAt H sh v p):(∃ ts l xs,p=.b ts/\v=.ref l/\H l=some (.lst xs)/\LAt H sh xs ts/\TyOf K H v (.type "list")/\PySem.W.kitOne K (.type "list") (.type "list")=some true) ∨
  (∀ ts,p≠.b ts)/\∃ t,TyOf K H v t/\PySem.W.kitOne K t (.type "list")=some false:=by
 cases h with
 | s z=>exact .inr ⟨fun _ h=>(nomatch h),_,.str z,kit_sl K⟩
 | i n=>exact .inr ⟨fun _ h=>(nomatch h),_,.int _,kit_il K⟩
 | e a =>
  obtain ⟨t,xs,rfl,ht⟩:=ExAt.tup a
  exact .inr ⟨fun _ h=>(nomatch h),_,.tup ht,kit_tl K⟩
 | b h a=>exact .inl ⟨_,_,_,rfl,rfl,h,a,.lst h,by rfl⟩
theorem LAt.length {H:Hp} {sh:Bool}:∀ {vs:List V} {ts:List Tr},LAt H sh vs ts->vs.length=ts.length
 | _,_,.nil=>rfl
 | _,_,.cons _ b=>by simp [b.length]
theorem LAt.get {H:Hp} {sh:Bool}:∀ {vs:List V} {ts:List Tr},LAt H sh vs ts->∀ {i:Nat} {v:V},vs[i]?=some v->∃ t,ts[i]?=some t/\OAt H sh v t
 | _,_,.nil,i,v,h=>by simp at h
 | _,_,.cons a b,0,v,h=>by
  cases (show some _=some v from h)
  exact ⟨_,rfl,a⟩
 | _,_,.cons a b,i+1,v,h=>b.get h
theorem LAt.snoc {H:Hp} {sh:Bool}:∀ {vs:List V} {ts:List Tr} {v:V} {t:Tr},LAt H sh vs ts->OAt H sh v t->LAt H sh (vs++[v]) (ts++[t])
 | _,_,_,_,.nil,h=>.cons h .nil
 | _,_,_,_,.cons a b,h=>.cons a (b.snoc h)
mutual
noncomputable def Tr.flat:Tr->List (Nat × Ex × Option Str)
 | .set r n e=>[(r,e,some n)]
 | .tell r e=>[(r,e,none)]
 | .iff r e b o=>(r,e,none)::(flats b++flats o)
 | .whl r e b=>(r,e,none)::flats b
noncomputable def flats:List Tr->List (Nat × Ex × Option Str)
 | []=>[]
 | t::ts=>t.flat++flats ts
end
theorem flats_app:∀ (a b:List Tr),flats (a++b)=flats a++flats b
 | [],b=>rfl
 | t::a,b=>by simp [flats,flats_app a b]
mutual
noncomputable def Ex.reads:Ex->List Str
 | .num _=>[]
 | .truth _=>[]
 | .name z=>[z]
 | .not e=>e.reads
 | .op _ a b=>a.reads++b.reads
 | .of _ e=>e.reads
 | .many _ _ es=>readsL es
noncomputable def readsL:List Ex->List Str
 | []=>[]
 | e::es=>e.reads++readsL es
end
noncomputable def Ex.plain:Ex->Prop
 | .num _=>True
 | .truth _=>True
 | .name _=>True
 | .not e=>e.plain
 | .op w a b=>w∈ops7/\a.plain/\b.plain
 | .of _ _=>False
 | .many _ _ _=>False
noncomputable def Ex.deep:Ex->Nat
 | .num _=>0
 | .truth _=>0
 | .name _=>0
 | .not e=>e.deep+1
 | .op _ a b=>max a.deep b.deep+1
 | .of _ _=>0
 | .many _ _ _=>0
mutual
noncomputable def Tr.asc:Tr->Prop
 | .set _ _ e=>e.plain
 | .tell _ e=>e.plain
 | .iff _ e b o=>e.plain/\(b.length<=20/\ascs b)/\o.length<=20/\ascs o
 | .whl _ e b=>e.plain/\b.length<=20/\ascs b
noncomputable def ascs:List Tr->Prop
 | []=>True
 | t::ts=>t.asc/\(∀ u∈ts,t.row<u.row)/\ascs ts
end
theorem ExsAt.get {H:Hp}:∀ {vs:List V} {es:List Ex},ExsAt H vs es->∀ {i:Nat} {v:V},vs[i]?=some v->∃ e,es[i]?=some e/\ExAt H v e
 | _,_,.nil,i,v,h=>by simp at h
 | _,_,.cons a b,0,v,h=>by
  cases (show some _=some v from h)
  exact ⟨_,rfl,a⟩
 | _,_,.cons a b,i+1,v,h=>ExsAt.get b h
theorem ExsAt.len {H:Hp}:∀ {vs:List V} {es:List Ex},ExsAt H vs es->vs.length=es.length
 | _,_,.nil=>rfl
 | _,_,.cons a b=>by simp [ExsAt.len b]
theorem deep_part {t:Tr} {ts:List Tr} (h:Part.b ts∈t.parts):deeps ts<=t.deep:=by
 cases t with
 | set r n e=>simp [Tr.parts] at h
 | tell r e=>simp [Tr.parts] at h
 | iff r e b o =>
  simp [Tr.parts] at h
  rcases h with h | h<;>subst h<;>simp [Tr.deep]<;>omega
 | whl r e b=>simp [Tr.parts] at h;subst h;simp [Tr.deep]
theorem asc_part {t:Tr} {ts:List Tr} (a:t.asc) (h:Part.b ts∈t.parts):ts.length<=20/\ascs ts:=by
 cases t with
 | set r n e=>simp [Tr.parts] at h
 | tell r e=>simp [Tr.parts] at h
 | iff r e b o =>
  simp [Tr.parts] at h
  rcases h with h | h<;>subst h
  ·exact a.2.1
  ·exact a.2.2
 | whl r e b=>simp [Tr.parts] at h;subst h;exact a.2
theorem deeps_mem:∀ {ts:List Tr} {t:Tr},t∈ts->t.deep+1<=deeps ts
 | u::ts,t,h=>by
  rcases Qn h with z | z
  ·subst z;simp [deeps];omega
  ·have:=deeps_mem z;simp [deeps];omega
theorem ascs_mem:∀ {ts:List Tr} {t:Tr},ascs ts->t∈ts->t.asc
 | u::ts,t,a,h=>by
  rcases Qn h with z | z
  ·subst z;exact a.1
  ·exact ascs_mem a.2.2 z
end Mm
namespace L2
open PySem PySem.Spec PyProof.Rows
section
variable {prog:Program} {w:World} {A:Around} {E:Value->Shared->Prop} {s:Shared} {it d:Addr} {i ep:Nat} {es:Array DictEntry} {od:Obj}
theorem dkey_next {Q:Option Value->Shared->Prop} (hit:s.heap.IsKeyIter it d i es.size ep) (hod:s.heap.get? d=some od) (hdd:od.data=.dict es ep) (hlt:i<es.size)
  (hQ:∀ h',h'.IsKeyIter it d (i+1) es.size ep->Heap.SameBut it s.heap h'->Q (some es[i].key) { s with heap:=h' }):wpAny (model prog w) A (pyNext (.ref it)) Q E s:=by
 have hT:=hit.typeIs
 obtain ⟨o,ho,hc,hd⟩:=hit
 unfold pyNext
 refine Qa (wpAny_attempt (wpAny_callSpecial?_slot (name:=Str.ofString "__next__") hT F.slot_dict_keyiterator_next (wpAny_call_entry F.slot_dict_keyiterator_next hT F.entry_dict_keyiterator_next ?_ (F.args_dict_keyiterator_next_1 _))))
 refine Qa (Qc (Qa (Qa ?_)))
 first | refine Qa (wpAny_typeNameOfWhole_keyiter hT (Qc (Qa (wpAny_fieldsOf ho hd ?_)))) | refine Qa (wpAny_typeNameOf_keyiter hT (Qc (Qa (wpAny_fieldsOf ho hd ?_))))
 simp only [show Builtin.Dict_items.ownsTuple "dict_keyiterator"=false by decide,Bool.false_eq_true,if_false]
 show wpAny _ _ (if (Value.ref d == Value.none)=true then _ else _) _ _ _
 rw [if_neg (show ¬ (Value.ref d == Value.none)=true from fun z=>by cases z)]
 refine Qa (Qc (Qa (wpAny_dictEntries hod hdd ?_)))
 rw [if_neg (by simp)]
 refine Qa (Qc (Qa (wpAny_dictEpoch hod hdd ?_)))
 rw [if_neg (by simp)]
 refine Qc ?_
 simp only [show ¬ ((i:Int)<0) by omega,if_false,Int.toNat_natCast,Array.getElem?_eq_getElem hlt]
 refine Qa ?_
 first | refine Qa (wpAny_typeNameOfWhole_keyiter hT (Qc (Qa (wpAny_isOneOf_keyiter hT ?_)))) | refine Qa (wpAny_typeNameOf_keyiter hT (Qc (Qa (wpAny_isOneOf_keyiter hT ?_))))
 show wpAny _ _ (setField (.ref it) 1 (rawInt ((i:Int)+1)) >>= _) _ _ _
 refine Qa (wpAny_setField ho hd (by simp) (Qa (wpAny_holding ?_)))
 have hi2:(s.heap.update it (Obj.mapFields (·.setIfInBounds 1 (rawInt ((i:Int)+1))))).IsKeyIter it d (i+1) es.size ep:=by
  refine ⟨_,Heap.get?_update_self _ ho (Obj.isFreed_of_fields (Obj.data_mapFields hd _)),(Obj.cls_mapFields ..).trans hc,?_⟩
  rw [Obj.data_mapFields hd]
  simp [rawInt]
 refine Qa (wpAny_isOneOf_keyiter (s:={ s with heap:=s.heap.update it (Obj.mapFields (·.setIfInBounds 1 (rawInt ((i:Int)+1)))) }) hi2.typeIs ?_)
 show wpAny _ _ (pure es[i].key) _ _ _
 exact Qc (Qc ⟨_,rfl,Qc (hQ _ hi2 (Heap.SameBut.update ..))⟩)
theorem dkey_end {Q:Option Value->Shared->Prop} (hh:A.handled=none) (hit:s.heap.IsKeyIter it d i es.size ep) (hod:s.heap.get? d=some od) (hdd:od.data=.dict es ep) (hge:es.size<=i)
  (hQ:∀ h',Heap.ExtBut it s.heap h'->Q none { s with heap:=h' }):wpAny (model prog w) A (pyNext (.ref it)) Q E s:=by
 have hT:=hit.typeIs
 obtain ⟨o,ho,hc,hd⟩:=hit
 unfold pyNext
 refine Qa (wpAny_attempt (wpAny_callSpecial?_slot (name:=Str.ofString "__next__") hT F.slot_dict_keyiterator_next (wpAny_call_entry F.slot_dict_keyiterator_next hT F.entry_dict_keyiterator_next ?_ (F.args_dict_keyiterator_next_1 _))))
 refine Qa (Qc (Qa (Qa ?_)))
 first | refine Qa (wpAny_typeNameOfWhole_keyiter hT (Qc (Qa (wpAny_fieldsOf ho hd ?_)))) | refine Qa (wpAny_typeNameOf_keyiter hT (Qc (Qa (wpAny_fieldsOf ho hd ?_))))
 simp only [show Builtin.Dict_items.ownsTuple "dict_keyiterator"=false by decide,Bool.false_eq_true,if_false]
 show wpAny _ _ (if (Value.ref d == Value.none)=true then _ else _) _ _ _
 rw [if_neg (show ¬ (Value.ref d == Value.none)=true from fun z=>by cases z)]
 refine Qa (Qc (Qa (wpAny_dictEntries hod hdd ?_)))
 rw [if_neg (by simp)]
 refine Qa (Qc (Qa (wpAny_dictEpoch hod hdd ?_)))
 rw [if_neg (by simp)]
 refine Qc ?_
 simp only [show ¬ ((i:Int)<0) by omega,if_false,Int.toNat_natCast,Array.getElem?_eq_none hge]
 refine Qa ?_
 first | refine Qa (wpAny_typeNameOfWhole_keyiter hT (Qc ?_)) | refine Qa (wpAny_typeNameOf_keyiter hT (Qc ?_))
 show wpAny _ _ (setField (.ref it) 0 .none >>= _) _ _ _
 refine Qa (wpAny_setField ho hd (by simp) ?_)
 show wpAny _ _ (newExc (.type "StopIteration") [] >>= _) _ _ _
 refine Qa ?_
 simp only [newExc,newTuple]
 refine Qa (wpAny_newObj_type (Qa (m:=firstArgMember _ _) (wpAny_of_eq (a:=Value.none) (by first | rfl | (simp only [firstArgMember];rfl)) (wpAny_newObj_type ?_ (by size_fits)))) (by size_fits))
 simp only [raiseNew]
 refine Qa (wpAny_handled ?_)
 rw [show A.in1.handled=none from hh]
 refine (Qa (Qc (wpAny_throw ?_)))
 refine (Qa (wpAny_isInstance (T:="StopIteration") (b:=true) ⟨_,Qo _ rfl,rfl⟩ isSubtype_stop (Qc (hQ _ ?_))))
 exact ((Heap.SameBut.update ..).extBut.push _).push _
theorem dkey_iter {Q:Value->Shared->Prop} (hT:s.TypeIs (.ref d) "dict") (hd:(d == sysModules)=false) (hod:s.heap.get? d=some od) (hdd:od.data=.dict es ep)
  (hQ:Q (.ref s.heap.objs.size) { s with heap:=s.heap.push { cls:=.type "dict_keyiterator",data:=.fields #[.ref d,.int 0 0,.int es.size 0,.int ep 0] } }):wpAny (model prog w) A (pyIter (.ref d)) Q E s:=by
 refine wpAny_pyIter_slot hT F.slot_dict_iter (wpAny_call_entry F.slot_dict_iter hT F.entry_dict_iter ?_ (F.args_dict_iter_1 _))
 unfold Builtin.«dict.__iter__» Builtin.Dict.dictSlotNone
 refine Qa (Qa (wpAny_notOrdered_dict hT ?_))
 show wpAny _ _ (pure (Value.ref d)) _ _ _
 refine Qc ?_
 show wpAny _ _ (Builtin.Dict.showsAll d >>= _) _ _ _
 unfold Builtin.Dict.showsAll
 rw [if_neg (show ¬ (d == sysModules)=true by rw [hd];decide)]
 refine Qa (Qc (Qa (wpAny_dictEntries hod hdd (Qa (wpAny_dictEpoch hod hdd ?_)))))
 refine Qa (wpAny_newObj_type (Qc ⟨_,rfl,"dict_keyiterator",_,⟨_,Qo _ rfl,rfl⟩,F.slot_dict_keyiterator_next.lookup,?_⟩))
 simpa [rawInt] using hQ
end
theorem dt_frz {P:Program} {w:World} {H:Hp} {h:Heap} {d:Addr} {od:Obj} {kvs:List (List Key × V)} {es:Array DictEntry} {ep:Nat} (ok:HOk P w H h) (e:H d=some (.frz od (.dT kvs))) (hdd:od.data=.dict es ep) :
  h.get? d=some od/\es.size=kvs.length/\∀ (i:Nat) (hi:i<es.size) kv,kvs[i]?=some kv->∃ b,es[i].key=.ref b/\H b=some (.tup (kv.1.map kV)):=by
 obtain ⟨hod,_,_,xs,r,o,es',ep',h1,_,h3,h4,_⟩:=(show ObjOk P w H h d (.frz od (.dT kvs)) from ok d _ e)
 rw [hod] at h1
 cases h1
 rw [hdd] at h3
 cases h3
 have hl:es.size=xs.length:=by rw [<- QD,h4,Qi]
 refine ⟨hod,by rw [hl];exact (Paired.length r).symm,fun i hi kv hk=>?_⟩
 have hix:i<xs.length:=by omega
 have ek:es[i]=entryOfKey (tupleKind (mixKind P w)) xs[i]:=by
  have:=congrArg (fun l=>l[i]?) h4
  simp only [Ql,Qb hix] at this
  rw [Array.getElem?_toList,Array.getElem?_eq_getElem hi] at this
  exact Qr this
 have pr:∀ {l:List (List Key × V)} {m:List (List Key × Addr × Value)},Paired (fun (p:List Key × V) (q:List Key × Addr × Value)=>p.1=q.1/\H q.2.1=some (.tup (p.1.map kV))/\RelV p.2 q.2.2) l m->∀ (i:Nat) p q,l[i]?=some p->m[i]?=some q->H q.2.1=some (.tup (p.1.map kV)):=by
  intro l m pq
  induction pq with
  | nil=>intro i p q h;simp at h
  | cons hq _ ih =>
   intro i p q h1 h2
   cases i with
   | zero =>
    simp only [List.getElem?_cons_zero,Option.some.injEq] at h1 h2
    subst h1 h2
    exact hq.2.1
   | succ j =>
    simp only [List.getElem?_cons_succ] at h1 h2
    exact ih j p q h1 h2
 exact ⟨xs[i].2.1,by rw [ek];rfl,pr r i kv xs[i] hk (Qb hix)⟩
section
variable {X:Cx} {tg:Expr}
theorem Inv.freeze {pins:List (Addr × Obj)} {σ:St} {H:Hp} {s:Shared} {d:Addr} {kvs:List (List Key × V)} {od:Obj} (I:Inv X pins σ H s) (e:H d=some (.dT kvs)) (ho:s.heap.get? d=some od):Inv X pins σ (upd H d (.frz od (.dT kvs))) s:=by
 have h0:∀ {t:Nat},Inv X pins σ (upd H d (.frz od (.dT kvs))) { s with heap:=s.heap,toks:=t }:=by
  intro t
  refine I.write (x:=d) (e:=d) (by rw [e];trivial) (.inl rfl) (fun b q hb z=>z) ⟨_,ho⟩ ⟨ho,?_⟩
  have q:=I.hok d _ e
  exact q.stay (fun _ _ _ z=>z) (fun c z=>by rw [upd_ne (fun y=>by rw [y,e] at z;cases z)];exact z) fun c xs z=>by rw [upd_ne (fun y=>by rw [y,e] at z;cases z)];exact z
 exact h0 (t:=s.toks)
end
end L2
namespace L2
open PySem PySem.Spec PyProof.Rows PySem.W
theorem kdl_raw {prog:Program} {w:World} {d:Addr} {od:Obj} {es:Array DictEntry} {ep:Nat} (hc:od.cls=.type "dict") (hdd:od.data=.dict es ep) (hs:(d == sysModules)=false) :
  KdlSrc prog w "dict" d d es.size (fun i v=>∃ h:i<es.size,v=es[i].key) (fun h=>h.get? d=some od) where
 type:=fun s h=>⟨od,h,hc⟩
 there:=fun h e=>⟨Qq e,Qq e⟩
 keep:=fun h h' e k=>k d (.inl rfl) _ e
 notList:=by decide
 notTuple:=by decide
 hint:=fun A E s Q h q=>kdl_hint_dict ⟨od,h,hc⟩ q
 iter:=fun A s hh h=>by
  refine ⟨_,fun i h'=>h'.IsKeyIter s.heap.objs.size d i es.size ep/\h'.get? d=some od,fun E Q q=>dkey_iter ⟨od,h,hc⟩ hs h hdd q,?_,?_⟩
  ·have hne:d≠s.heap.objs.size:=Qy (Qq h)
   refine ⟨fun b hb=>List.mem_cons.mpr (.inl (by simpa using hb)),fun i h1 h2 st k=>⟨st.1.at fun o e=>k _ (by simp) o e,k d (by simp) _ st.2⟩,?_,?_,?_⟩
   ·intro i s1 Q E hi st q
    refine dkey_next st.1 st.2 hdd hi fun h' st' sb=>?_
    exact q _ h' s1.toks ⟨hi,rfl⟩ ⟨st',(sb.2 d hne).trans st.2⟩ fun b o hb e=>(sb.2 b (by simpa using hb)).trans e
   ·intro s1 Q E st q
    refine dkey_end hh st.1 st.2 hdd (Qf _) fun h' eb=>?_
    exact q h' s1.toks fun b o hb e=>eb b o (by simpa using hb) e
   ·intro i s1 Q E st q
    exact wpAny_pyIter_keyiter st.1 q
  ·exact ⟨⟨_,Qo _ rfl,rfl,rfl⟩,Qd _ h⟩
section
variable {X:Cx}
theorem call_sortedD (hc:X.calm=true):CallR X (.builtin "sorted") (fun as H Q=>∃ (d:Addr) (kvs:List (List Key × V)) (sh:List Bool),as=[.ref d]/\H d=some (.dT kvs)/\kvs.length<64/\(∀ kv∈kvs,kv.1.map isI=sh)/\sh≠[] /\
  ∀ p xs,H p=none->TupsAt H xs (kvs.map (·.1))->Q (.ref p) (upd H p (.lst (srt (kvs.map (·.1)) xs)))):=by
 intro pins s σ H as us Q I r h
 obtain ⟨d,kvs,sh,rfl,hd,h64,hsh,hne,q⟩:=h
 obtain ⟨u,rfl,ru⟩:=vals1 r
 cases (show u=Value.ref d from ru)
 obtain ⟨z,hs,ys,rel,dd⟩:=dt_of I.hok hd
 have hT:=dd.typeIs
 obtain ⟨od,es,ep,ho,hcl,hdat,_⟩:=dd
 have hcl:od.cls=.type "dict":=by
  obtain ⟨o,e,c⟩:=hT
  rw [ho] at e
  cases e
  exact c
 have If:=I.freeze hd ho
 obtain ⟨_,hsz,hat⟩:=dt_frz If.hok upd_same hdat
 refine Calls.call_function_entry kind_sorted plain_sorted entry_sorted (args_sorted1 _) ?_
 unfold Builtin.«sorted»
 refine Qa (m:=checkCount "sorted" 1 1 _) (Qc ?_)
 refine Qa (kdu_collect (kdl_raw hcl hdat hs) (I.ok.hd hc) ho (by rw [hsz,sizeLine_eq];omega) fun h1 tk acc hk hacc=>?_)
 obtain ⟨hal,hav⟩:=hacc
 have I1:Inv X pins σ H { s with heap:=h1,toks:=tk }:=I.kept (t':=tk) hk
 have each:∀ (i:Nat) (v:Value),acc.toList[i]?=some v->∃ b kv,v=.ref b/\kvs[i]?=some kv/\H b=some (.tup (kv.1.map kV)):=fun i v hv=>by
  rw [Array.getElem?_toList] at hv
  obtain ⟨hi,rfl⟩:=hav i v hv
  have hik:i<kvs.length:=by rw [<- hsz];exact hi
  obtain ⟨b,e1,e2⟩:=hat i hi kvs[i] (Qb hik)
  have hbd:b≠d:=fun z=>by rw [z,upd_same] at e2;cases e2
  rw [upd_ne hbd] at e2
  exact ⟨b,kvs[i],e1,Qb hik,e2⟩
 obtain ⟨xs,rv,hxt⟩:∃ xs:List V,Vals xs acc.toList/\∀ (i:Nat) (x:V),xs[i]?=some x->∃ b kv,x=.ref b/\kvs[i]?=some kv/\H b=some (.tup (kv.1.map kV)):=by
  have go:∀ (vs:List Value) (f:Nat->Option (List Key × V)),(∀ (i:Nat) (v:Value),vs[i]?=some v->∃ b kv,v=.ref b/\f i=some kv/\H b=some (.tup (kv.1.map kV)))->∃ xs:List V,Vals xs vs/\∀ (i:Nat) (x:V),xs[i]?=some x->∃ b kv,x=.ref b/\f i=some kv/\H b=some (.tup (kv.1.map kV)):=by
   intro vs
   induction vs with
   | nil=>intro f _;exact ⟨[],.nil,fun i x h=>by simp at h⟩
   | cons v vs ih =>
    intro f h
    obtain ⟨b,kv,rfl,e2,e3⟩:=h 0 v rfl
    obtain ⟨xs,r1,r2⟩:=ih (fun i=>f (i+1)) fun i v hv=>h (i+1) v hv
    refine ⟨.ref b::xs,.cons rfl r1,fun i x hx=>?_⟩
    cases i with
    | zero =>
     have:V.ref b=x:=by simpa using hx
     subst this
     exact ⟨b,kv,rfl,e2,e3⟩
    | succ i=>exact r2 i x hx
  exact go acc.toList (fun i=>kvs[i]?) each
 have hxl:xs.length=kvs.length:=by rw [rv.length,QD,hal,hsz]
 have ht:TupsAt H xs (kvs.map (·.1)):=⟨by rw [hxl,Qi],fun i x k hx hk=>by
  obtain ⟨b,kv,e1,e2,e3⟩:=hxt i x hx
  rw [Ql,e2] at hk
  have:kv.1=k:=by simpa using hk
  exact ⟨b,e1,by rw [<- this];exact e3⟩⟩
 have hsh2:∀ k∈kvs.map (·.1),k.map isI=sh:=fun k hk=>by
  obtain ⟨kv,h1,rfl⟩:=QF hk
  exact hsh kv h1
 have h64x:xs.length<64:=by rw [hxl];exact h64
 generalize acc.toList=its at rv
 have hil:its.length=xs.length:=rv.length.symm
 have hz:its.length<=sizeLine:=by rw [sizeLine_eq];omega
 refine Qa (wpAny_newList (s:={ s with heap:=h1,toks:=tk }) ?_ hz)
 have hoL:(h1.push (seqObj "list" its.toArray 0)).get? h1.objs.size=some (seqObj "list" its.toArray 0):=Qo _ rfl
 have I2:Inv X pins σ H { s with heap:=h1.push (seqObj "list" its.toArray 0),toks:=tk }:=I1.kept (t':=tk) fun b o e=>Qd _ e
 have fL:FpOk X pins H h1.objs.size:=I1.fpOk (Qf _) (I1.hok.fresh (Qf _))
 change wpAny _ _ _ _ _ { s with heap:=h1.push (seqObj "list" its.toArray 0),toks:=tk }
 dsimp only
 generalize h1.push (seqObj "list" its.toArray 0)=h2 at hoL I2
 generalize h1.objs.size=L at hoL fL
 refine Qa (wpAny_holding (wpAny_call_entry (s:={ s with heap:=h2,toks:=tk }) slot_list_sort ⟨_,hoL,rfl⟩ entry_list_sort (lsortT I2 fL hoL rv (by rw [<- hil];exact hz) h64x ht hsh2 hne fun s' out n' I' hoa hos vy=>⟨_,rfl,?_⟩) (args_list_sort _)))
 refine Qc ⟨_,rfl,.ref L,upd H L (.lst (srt (kvs.map (·.1)) xs)),I'.adopt fL ?_,rfl,q L xs fL.1 ht⟩
 have hyl:(srt (kvs.map (·.1)) xs).length<=sizeLine:=by rw [vy.length,QD];exact hos
 exact ⟨hyl,out.toList,n',vy,by simpa using hoa⟩
end
end L2
namespace L2
open PySem PySem.Spec PyProof.Rows
theorem call_isinstK {X:Cx} {K:PySem.W.Frag} {n:String} (hK:X.K=K):CallR X (.builtin "isinstance") (fun xs H Q=>∃ x t b,xs=[x,.ty n]/\TyOf K H x t/\PySem.W.kitOne K t (.type n)=some b/\Q (.bl b) H):=by subst hK;exact call_isinst
end L2
namespace L2
theorem len1 {α:Type}:∀ {us:List α},us.length=1->∃ a,us=[a]
 | [a],_=>⟨a,rfl⟩
theorem lenS {α:Type} {n:Nat}:∀ {us:List α},us.length=n+1->∃ a r,us=a::r/\r.length=n
 | a::r,h=>⟨a,r,rfl,Nat.succ.inj h⟩
theorem len2 {α:Type} {us:List α} (h:us.length=2):∃ a b,us=[a,b]:=by
 obtain ⟨a,r,rfl,k⟩:=lenS h
 obtain ⟨b,rfl⟩:=len1 k
 exact ⟨a,b,rfl⟩
theorem len3 {α:Type} {us:List α} (h:us.length=3):∃ a b c,us=[a,b,c]:=by
 obtain ⟨a,r,rfl,k⟩:=lenS h
 obtain ⟨b,c,rfl⟩:=len2 k
 exact ⟨a,b,c,rfl⟩
theorem len4 {α:Type} {us:List α} (h:us.length=4):∃ a b c d,us=[a,b,c,d]:=by
 obtain ⟨a,r,rfl,k⟩:=lenS h
 obtain ⟨b,c,d,rfl⟩:=len3 k
 exact ⟨a,b,c,d,rfl⟩
theorem len5 {α:Type} {us:List α} (h:us.length=5):∃ a b c d e,us=[a,b,c,d,e]:=by
 obtain ⟨a,r,rfl,k⟩:=lenS h
 obtain ⟨b,c,d,e,rfl⟩:=len4 k
 exact ⟨a,b,c,d,e,rfl⟩
end L2
namespace Mm
theorem len6 {α:Type} {us:List α} (h:us.length=6):∃ a b c d e f,us=[a,b,c,d,e,f]:=by
 match us,h with
 | [a,b,c,d,e,f],_=>exact ⟨a,b,c,d,e,f,rfl⟩
end Mm
namespace L2
open PySem PySem.Spec PyProof.Rows
end L2
namespace Mm
open PySem L2 PyProof.Rows
inductive Kd where
 | top
 | ifB
 | ifO (bs:List Tr)
 | whl
structure AF where
 ts:List Tr
 r:Nat
 e:Ex
 k:Kd
structure CF where
 q:Addr
 l:Addr
 s:Addr
 o:Addr
 xs:List V
 vb:List V
 ve:V
noncomputable def AF.tr (F:AF):Tr:=match F.k with
 | .top=>.whl F.r F.e F.ts
 | .ifB=>.iff F.r F.e F.ts []
 | .ifO bs=>.iff F.r F.e bs F.ts
 | .whl=>.whl F.r F.e F.ts
noncomputable def ops1 (F:AF) (c:CF):List Addr:=match F.k with
 | .ifB=>[c.l,c.o]
 | _=>[c.l]
noncomputable def opens:List AF->List CF->List Addr
 | F::Z,c::C=>ops1 F c++opens Z C
 | _,_=>[]
noncomputable def mask (H:Hp) (M:List Addr):Hp:=fun b=>if b∈M then none else H b
theorem mask_no {H:Hp} {M:List Addr} {b:Addr} (h:b∉M):mask H M b=H b:=if_neg h
theorem mask_some {H:Hp} {M:List Addr} {b:Addr} {o:HO} (h:mask H M b=some o):b∉M/\H b=some o:=by
 unfold mask at h
 split at h
 ·cases h
 ·exact ⟨by assumption,h⟩
theorem mask_le {H H':Hp} {M M':List Addr} (h1:∀ b∈M',b∈M∨H b=none) (h2:∀ b o,b∉M->H b=some o->H' b=some o):Same (mask H M) (mask H' M'):=by
 intro b o hb
 obtain ⟨hn,ho⟩:=mask_some hb
 rw [mask_no fun z=>by
  rcases h1 b z with q | q
  ·exact hn q
  ·rw [q] at ho;cases ho]
 exact h2 b o hn ho
theorem mask_in (H:Hp) (M:List Addr):Same (mask H M) H:=fun b o h=>(mask_some h).2
noncomputable def mO:(List V) ⊕ (List (Key × V))->HO
 | .inl xs=>.lst xs
 | .inr kv=>.dK kv
theorem mO_tup {x:(List V) ⊕ (List (Key × V))} {ys:List V} {p:Prop} (h:some (mO x)=some (HO.tup ys)):p:=by
 cases x<;>cases h
theorem mask_tup {H:Hp} {M:List Addr} (h:∀ b∈M,∃ xs,H b=some (mO xs)):TupS H (mask H M):=fun b xs hb=>by
 rw [mask_no fun z=>by obtain ⟨ys,hy⟩:=h b z;rw [hy] at hb;exact mO_tup hb]
 exact hb
noncomputable def KAt (Hm H:Hp) (F:AF) (c:CF):Prop:=ExAt Hm c.ve F.e/\match F.k with
 | .top=>False
 | .ifB=>Hm c.s=some (.tup [.str "if",.int ((F.r:Nat):Int),c.ve,.ref c.l,.ref c.o])/\H c.o=some (.lst [])
 | .ifO bs=>Hm c.s=some (.tup [.str "if",.int ((F.r:Nat):Int),c.ve,.ref c.o,.ref c.l])/\Hm c.o=some (.lst c.vb)/\LAt Hm false c.vb bs
 | .whl=>Hm c.s=some (.tup [.str "while",.int ((F.r:Nat):Int),c.ve,.ref c.l])
noncomputable def ZAt (H:Hp) (M:List Addr):List AF->List CF->List V->Prop
 | [F],[c],inn=>F.k=.top/\H c.l=some (.lst (c.xs++inn))/\LAt (mask H M) false c.xs F.ts
 | F::G::Z,c::d::C,inn=>H c.l=some (.lst (c.xs++inn))/\LAt (mask H M) false c.xs F.ts/\KAt (mask H M) H F c/\ZAt H M (G::Z) (d::C) [.ref c.s]
 | _,_,_=>False
theorem KAt.kept {Hm Hm' H H':Hp} {F:AF} {c:CF} (s:Same Hm Hm') (h:∀ b∈ops1 F c,H' b=H b) (k:KAt Hm H F c):KAt Hm' H' F c:=by
 unfold KAt at k ⊢
 unfold ops1 at h
 refine ⟨k.1.kept s.ls.1,?_⟩
 have k2:=k.2
 cases hk:F.k with
 | top=>rw [hk] at k2;exact k2
 | ifB =>
  rw [hk] at k2 h
  exact ⟨s _ _ k2.1,by rw [h c.o (by simp)];exact k2.2⟩
 | ifO bs=>rw [hk] at k2;exact ⟨s _ _ k2.1,s _ _ k2.2.1,k2.2.2.kept s.ls⟩
 | whl=>rw [hk] at k2;exact s _ _ k2
theorem ops1_l (F:AF) (c:CF):c.l∈ops1 F c:=by
 unfold ops1
 split<;>simp
theorem ZAt.kept {H H':Hp} {M M':List Addr} (s:Same (mask H M) (mask H' M')):∀ {Z:List AF} {C:List CF} {inn:List V},(∀ b∈opens Z C,H' b=H b)->ZAt H M Z C inn->ZAt H' M' Z C inn
 | [],_,_,_,h=>by simp [ZAt] at h
 | [F],[],_,_,h=>by simp [ZAt] at h
 | [F],[c],inn,ho,h=>⟨h.1,by rw [ho c.l (by simp [opens,ops1_l])];exact h.2.1,h.2.2.kept s.ls⟩
 | [F],_::_::_,_,_,h=>by simp [ZAt] at h
 | F::G::Z,[],_,_,h=>by simp [ZAt] at h
 | F::G::Z,[c],_,_,h=>by simp [ZAt] at h
 | F::G::Z,c::d::C,inn,ho,h=>by
  have h1:∀ b∈ops1 F c,H' b=H b:=fun b hb=>ho b (by unfold opens;exact List.mem_append_left _ hb)
  have h2:∀ b∈opens (G::Z) (d::C),H' b=H b:=fun b hb=>ho b (by unfold opens;exact List.mem_append_right _ hb)
  exact ⟨by rw [h1 _ (ops1_l F c)];exact h.1,h.2.1.kept s.ls,h.2.2.1.kept s h1,ZAt.kept s h2 h.2.2.2⟩
noncomputable def ovOf (F:AF) (c:CF):V:=match F.k with
 | .ifB=>.ref c.s
 | .whl=>.ref c.s
 | _=>.non
noncomputable def QAt (H:Hp):List AF->List CF->Prop
 | F::Z,c::C=>H c.q=some (.tup [.ref c.l,ovOf F c])/\QAt H Z C
 | _,_=>True
theorem QAt.kept {H H':Hp} (s:TupS H H'):∀ {Z:List AF} {C:List CF},QAt H Z C->QAt H' Z C
 | [],_,_=>by simp [QAt]
 | _::_,[],_=>by simp [QAt]
 | F::Z,c::C,h=>⟨s _ _ h.1,QAt.kept s h.2⟩
structure ZS (H:Hp) (X:List Addr) (st:Addr) (Z:List AF) (C:List CF):Prop where
 z:ZAt H (X++st::opens Z C) Z C []
 nd:(X++st::opens Z C).Nodup
 ls:∀ b∈X++st::opens Z C,∃ xs,H b=some (mO xs)
 stk:H st=some (.lst ((C.map CF.q).reverse.map V.ref))
 qs:QAt H Z C
theorem ZAt.len {H:Hp} {M:List Addr}:∀ {Z:List AF} {C:List CF} {inn:List V},ZAt H M Z C inn->Z.length=C.length
 | [],_,_,h=>by simp [ZAt] at h
 | [F],[],_,h=>by simp [ZAt] at h
 | [F],[c],_,_=>rfl
 | [F],_::_::_,_,h=>by simp [ZAt] at h
 | F::G::Z,[],_,h=>by simp [ZAt] at h
 | F::G::Z,[c],_,h=>by simp [ZAt] at h
 | F::G::Z,c::d::C,_,h=>by
  have:=ZAt.len h.2.2.2
  simp at this ⊢
  exact this
theorem ZS.same {H H':Hp} {X:List Addr} {st:Addr} {Z:List AF} {C:List CF} (h:ZS H X st Z C) (s:Same H H'):ZS H' X st Z C where
 z:=h.z.kept (mask_le (fun b hb=>.inl hb) fun b o _ hb=>s _ _ hb) fun b hb=>by
  obtain ⟨xs,hx⟩:=h.ls b (List.mem_append_right _ (Qg _ hb))
  rw [hx,s _ _ hx]
 nd:=h.nd
 ls:=fun b hb=>by
  obtain ⟨xs,hx⟩:=h.ls b hb
  exact ⟨xs,s _ _ hx⟩
 stk:=s _ _ h.stk
 qs:=h.qs.kept s.ls.1
noncomputable def Out (st:Addr) (L:List Addr) (H H':Hp):Prop:=∀ b o,b∉st::L->H b=some o->H' b=some o
theorem ZAt.head {H:Hp} {M:List Addr} {F:AF} {c:CF}:∀ {Z:List AF} {C:List CF} {inn:List V},ZAt H M (F::Z) (c::C) inn->H c.l=some (.lst (c.xs++inn))/\LAt (mask H M) false c.xs F.ts
 | [],[],_,h=>⟨h.2.1,h.2.2⟩
 | [],_::_,_,h=>by simp [ZAt] at h
 | _::_,[],_,h=>by simp [ZAt] at h
 | _::_,_::_,_,h=>⟨h.1,h.2.1⟩
theorem ZAt.more {H H':Hp} {M M':List Addr} {F:AF} {c:CF} (s:Same (mask H M) (mask H' M')) (inn:List V) (hl:H' c.l=some (.lst (c.xs++inn))):∀ {Z:List AF} {C:List CF},ZAt H M (F::Z) (c::C) []->(F.k=.ifB->H' c.o=H c.o)->(∀ b∈opens Z C,H' b=H b)->ZAt H' M' (F::Z) (c::C) inn
 | [],[],h,_,_=>⟨h.1,hl,h.2.2.kept s.ls⟩
 | [],_::_,h,_,_=>by simp [ZAt] at h
 | _::_,[],h,_,_=>by simp [ZAt] at h
 | G::Z,d::C,h,ho,hr=>by
  refine ⟨hl,h.2.1.kept s.ls,?_,ZAt.kept s hr h.2.2.2⟩
  have k:=h.2.2.1
  unfold KAt at k ⊢
  refine ⟨k.1.kept s.ls.1,?_⟩
  have k2:=k.2
  cases hk:F.k with
  | top=>rw [hk] at k2;exact k2
  | ifB=>rw [hk] at k2;exact ⟨s _ _ k2.1,by rw [ho hk];exact k2.2⟩
  | ifO bs=>rw [hk] at k2;exact ⟨s _ _ k2.1,s _ _ k2.2.1,k2.2.2.kept s.ls⟩
  | whl=>rw [hk] at k2;exact s _ _ k2
theorem ZAt.shut {H:Hp} {M:List Addr} {F:AF} {c:CF} {v:V} {t:Tr} (ho:OAt (mask H M) false v t):∀ {Z:List AF} {C:List CF},ZAt H M (F::Z) (c::C) [v]->ZAt H M ({ F with ts:=F.ts++[t] }::Z) ({ c with xs:=c.xs++[v] }::C) []
 | [],[],h=>⟨h.1,by rw [List.append_nil];exact h.2.1,h.2.2.snoc ho⟩
 | [],_::_,h=>by simp [ZAt] at h
 | _::_,[],h=>by simp [ZAt] at h
 | G::Z,d::C,h=>⟨by rw [List.append_nil];exact h.1,h.2.1.snoc ho,h.2.2.1,h.2.2.2⟩
theorem ZS.put {H H':Hp} {X:List Addr} {st:Addr} {F:AF} {c:CF} {Z:List AF} {C:List CF} {v:V} {t:Tr} (h:ZS H X st (F::Z) (c::C)) (ch:∀ b o,H b=some o->b≠c.l->H' b=some o) (hl:H' c.l=some (.lst (c.xs++[v]))) (ho:SAt (mask H' (X++st::opens (F::Z) (c::C))) false v t) :
  ZS H' X st ({ F with ts:=F.ts++[t] }::Z) ({ c with xs:=c.xs++[v] }::C):=by
 have nd:=h.nd
 have hst:st≠c.l:=fun z=>by
  have:=(List.nodup_cons.mp (List.nodup_append.mp nd).2.1).1
  exact this (by rw [z];unfold opens;exact List.mem_append_left _ (ops1_l F c))
 have nd2:(ops1 F c++opens Z C).Nodup:=(List.nodup_cons.mp (List.nodup_append.mp nd).2.1).2
 have lst:∀ b∈X++st::opens (F::Z) (c::C),b≠c.l->H' b=H b:=fun b hb hn=>by
  obtain ⟨xs,hx⟩:=h.ls b hb
  rw [hx,ch _ _ hx hn]
 have hl0:=h.z.head.1
 have sm:Same (mask H (X++st::opens (F::Z) (c::C))) (mask H' (X++st::opens (F::Z) (c::C))):=mask_le (fun b hb=>.inl hb) fun b o hb hx=>ch _ _ hx fun z=>hb (by rw [z];exact List.mem_append_right _ (Qg _ (by unfold opens;exact List.mem_append_left _ (ops1_l F c))))
 have inM:∀ b,b∈ops1 F c++opens Z C->b∈X++st::opens (F::Z) (c::C):=fun b hb=>List.mem_append_right _ (Qg _ hb)
 refine ⟨ZAt.shut (.plain rfl ho) (ZAt.more sm [v] hl h.z (fun hk=>?_) fun b hb=>?_),h.nd,fun b hb=>?_,ch _ _ h.stk hst,?_⟩
 ·refine lst _ (inM _ (List.mem_append_left _ (by unfold ops1;rw [hk];simp))) fun z=>?_
  unfold ops1 at nd2
  rw [hk,z] at nd2
  simp at nd2
 ·refine lst _ (inM _ (List.mem_append_right _ hb)) fun z=>?_
  exact (List.nodup_append.mp nd2).2.2 _ (ops1_l F c) _ hb z.symm
 ·by_cases hb2:b=c.l
  ·exact ⟨.inl _,by rw [hb2];exact hl⟩
  ·obtain ⟨xs,hx⟩:=h.ls b hb
   exact ⟨xs,ch _ _ hx hb2⟩
 ·exact h.qs.kept fun b xs hb=>ch _ _ hb fun z=>by rw [z,hl0] at hb;cases hb
theorem ZS.push {H H':Hp} {X:List Addr} {st:Addr} {F N:AF} {c n:CF} {Z:List AF} {C:List CF} (h:ZS H X st (F::Z) (c::C)) (ch:∀ b o,H b=some o->b≠c.l->b≠st->H' b=some o) (hl:H' c.l=some (.lst (c.xs++[.ref n.s])))
  (hst:H' st=some (.lst (((c::C).map CF.q).reverse.map V.ref++[.ref n.q]))) (hf:∀ b∈ops1 N n,H b=none/\H' b=some (.lst [])) (hnd:(ops1 N n).Nodup) (hq:H' n.q=some (.tup [.ref n.l,ovOf N n])) (hE:ExAt H' n.ve N.e) (hts:N.ts=[]) (hxs:n.xs=[])
  (hs:(N.k=.ifB/\H' n.s=some (.tup [.str "if",.int ((N.r:Nat):Int),n.ve,.ref n.l,.ref n.o]))∨(N.k=.whl/\H' n.s=some (.tup [.str "while",.int ((N.r:Nat):Int),n.ve,.ref n.l]))) :
  ZS H' X st (N::F::Z) (n::c::C):=by
 have nd:=h.nd
 have nd1:=List.nodup_append.mp nd
 have nd2:=List.nodup_cons.mp nd1.2.1
 have nd3:(ops1 F c++opens Z C).Nodup:=nd2.2
 have inM:∀ b,b∈opens (F::Z) (c::C)->b∈X++st::opens (F::Z) (c::C):=fun b hb=>List.mem_append_right _ (Qg _ hb)
 have fr:∀ b∈ops1 N n,b∉X++st::opens (F::Z) (c::C):=fun b hb hm=>by
  obtain ⟨xs,hx⟩:=h.ls b hm
  rw [(hf b hb).1] at hx
  cases hx
 have eM:∀ b,b∈X++st::opens (N::F::Z) (n::c::C)↔b∈ops1 N n∨b∈X++st::opens (F::Z) (c::C):=fun b=>by
  show b∈X++st::(ops1 N n++opens (F::Z) (c::C))↔_
  simp only [List.mem_append,List.mem_cons]
  constructor
  ·rintro (q | q | q | q)
   ·exact .inr (.inl q)
   ·exact .inr (.inr (.inl q))
   ·exact .inl q
   ·exact .inr (.inr (.inr q))
  ·rintro (q | q | q | q)
   ·exact .inr (.inr (.inl q))
   ·exact .inl q
   ·exact .inr (.inl q)
   ·exact .inr (.inr (.inr q))
 have hcl:c.l∈opens (F::Z) (c::C):=by unfold opens;exact List.mem_append_left _ (ops1_l F c)
 have ls':∀ b∈X++st::opens (N::F::Z) (n::c::C),∃ xs,H' b=some (mO xs):=fun b hb=>by
  rcases (eM b).mp hb with q | q
  ·exact ⟨.inl _,(hf b q).2⟩
  ·by_cases h1:b=c.l
   ·exact ⟨.inl _,by rw [h1];exact hl⟩
   ·by_cases h2:b=st
    ·exact ⟨.inl _,by rw [h2];exact hst⟩
    ·obtain ⟨xs,hx⟩:=h.ls b q
     exact ⟨xs,ch _ _ hx h1 h2⟩
 have sm:Same (mask H (X++st::opens (F::Z) (c::C))) (mask H' (X++st::opens (N::F::Z) (n::c::C))):=mask_le (fun b hb=>by
  rcases (eM b).mp hb with q | q
  ·exact .inr (hf b q).1
  ·exact .inl q) fun b o hb hx=>ch _ _ hx (fun z=>hb (by rw [z];exact inM _ hcl)) (fun z=>hb (by rw [z];exact List.mem_append_right _ (Qk ..)))
 have keep:∀ b∈opens (F::Z) (c::C),b≠c.l->H' b=H b:=fun b hb hn=>by
  obtain ⟨xs,hx⟩:=h.ls b (inM b hb)
  rw [hx,ch _ _ hx hn fun z=>nd2.1 (by rw [<- z];exact hb)]
 have tp:=mask_tup ls'
 have z1:=ZAt.more sm [.ref n.s] hl h.z (fun hk=>keep _ (by unfold opens ops1;rw [hk];simp) fun z=>by
  unfold ops1 at nd3
  rw [hk,z] at nd3
  simp at nd3) fun b hb=>keep _ (by unfold opens;exact List.mem_append_right _ hb) fun z=>(List.nodup_append.mp nd3).2.2 _ (ops1_l F c) _ hb z.symm
 refine ⟨⟨by rw [hxs];exact (hf _ (ops1_l N n)).2,by rw [hxs,hts];exact .nil,⟨hE.kept tp,?_⟩,z1⟩,?_,ls',?_,hq,h.qs.kept fun b xs hb=>ch _ _ hb (fun z=>by rw [z,h.z.head.1] at hb;cases hb) (fun z=>by rw [z,h.stk] at hb;cases hb)⟩
 ·rcases hs with ⟨hk,hs⟩ | ⟨hk,hs⟩
  ·rw [hk]
   exact ⟨tp _ _ hs,(hf _ (by unfold ops1;rw [hk];simp)).2⟩
  ·rw [hk]
   exact tp _ _ hs
 ·show (X++st::(ops1 N n++opens (F::Z) (c::C))).Nodup
  refine List.nodup_append.mpr ⟨nd1.1,List.nodup_cons.mpr ⟨fun hm=>?_,List.nodup_append.mpr ⟨hnd,nd2.2,fun a ha b hb z=>?_⟩⟩,fun a ha b hb z=>?_⟩
  ·rcases Qt hm with q | q
   ·exact fr _ q (List.mem_append_right _ (Qk ..))
   ·exact nd2.1 q
  ·exact fr _ ha (by rw [z];exact inM _ hb)
  ·rcases Qn hb with q | q
   ·exact nd1.2.2 _ ha _ (Qk ..) (z.trans q)
   ·rcases Qt q with q | q
    ·exact fr _ q (by rw [<- z];exact List.mem_append_left _ ha)
    ·exact nd1.2.2 _ ha _ (Qg _ q) z
 ·rw [hst]
  simp
theorem ZS.pop {H H':Hp} {X:List Addr} {st:Addr} {F G:AF} {c d:CF} {Z:List AF} {C:List CF} (h:ZS H X st (F::G::Z) (c::d::C)) (ch:∀ b o,H b=some o->b≠st->H' b=some o) (hst:H' st=some (.lst (((d::C).map CF.q).reverse.map V.ref))) :
  ZS H' X st ({ G with ts:=G.ts++[F.tr] }::Z) ({ d with xs:=d.xs++[.ref c.s] }::C):=by
 have nd:=h.nd
 have nd1:=List.nodup_append.mp nd
 have nd2:=List.nodup_cons.mp nd1.2.1
 have nd3:(ops1 F c++opens (G::Z) (d::C)).Nodup:=nd2.2
 have nd4:=List.nodup_append.mp nd3
 have sub:∀ b,b∈X++st::opens (G::Z) (d::C)->b∈X++st::opens (F::G::Z) (c::d::C):=fun b hb=>by
  show b∈X++st::(ops1 F c++opens (G::Z) (d::C))
  simp only [List.mem_append,List.mem_cons] at hb ⊢
  rcases hb with q | q | q
  ·exact .inl q
  ·exact .inr (.inl q)
  ·exact .inr (.inr (.inr q))
 have out:∀ b∈ops1 F c,b∉X++st::opens (G::Z) (d::C)/\H' b=H b:=fun b hb=>by
  have hb2:b∈opens (F::G::Z) (c::d::C):=List.mem_append_left _ hb
  have hns:b≠st:=fun z=>nd2.1 (by rw [<- z];exact hb2)
  refine ⟨fun hm=>?_,?_⟩
  ·rcases Qt hm with q | q
   ·exact nd1.2.2 _ q _ (Qg _ hb2) rfl
   ·rcases Qn q with q | q
    ·exact hns q
    ·exact nd4.2.2 _ hb _ q rfl
  ·obtain ⟨xs,hx⟩:=h.ls b (List.mem_append_right _ (Qg _ hb2))
   rw [hx,ch _ _ hx hns]
 have sm:Same (mask H (X++st::opens (F::G::Z) (c::d::C))) (mask H' (X++st::opens (G::Z) (d::C))):=mask_le (fun b hb=>.inl (sub b hb)) fun b o hb hx=>ch _ _ hx fun z=>hb (by rw [z];exact List.mem_append_right _ (Qk ..))
 have ls':∀ b∈X++st::opens (G::Z) (d::C),∃ xs,H' b=some (mO xs):=fun b hb=>by
  by_cases h2:b=st
  ·exact ⟨.inl _,by rw [h2];exact hst⟩
  ·obtain ⟨xs,hx⟩:=h.ls b (sub b hb)
   exact ⟨xs,ch _ _ hx h2⟩
 obtain ⟨hL,hT,hK,hz⟩:=h.z
 rw [List.append_nil] at hL
 have hz':=ZAt.kept sm (fun b hb=>by
  have hb2:b∈opens (F::G::Z) (c::d::C):=List.mem_append_right _ hb
  obtain ⟨xs,hx⟩:=h.ls b (List.mem_append_right _ (Qg _ hb2))
  rw [hx,ch _ _ hx fun z=>nd2.1 (by rw [<- z];exact hb2)]) hz
 have hm:mask H' (X++st::opens (G::Z) (d::C)) c.l=some (.lst c.xs):=by
  rw [mask_no (out _ (ops1_l F c)).1,(out _ (ops1_l F c)).2]
  exact hL
 have sat:SAt (mask H' (X++st::opens (G::Z) (d::C))) false (.ref c.s) F.tr:=by
  obtain ⟨hE,hk⟩:=hK
  have hE':=hE.kept sm.ls.1
  have hT':=hT.kept sm.ls
  unfold AF.tr
  cases hkk:F.k with
  | top=>rw [hkk] at hk;exact hk.elim
  | ifB =>
   rw [hkk] at hk
   have ho:c.o∈ops1 F c:=by unfold ops1;rw [hkk];simp
   exact .mk (sm _ _ hk.1) (.cons (.s _) (.cons (.i _) (.cons (.e hE') (.cons (.b hm hT') (.cons (.b (by rw [mask_no (out _ ho).1,(out _ ho).2];exact hk.2) .nil) .nil)))))
  | ifO bs =>
   rw [hkk] at hk
   exact .mk (sm _ _ hk.1) (.cons (.s _) (.cons (.i _) (.cons (.e hE') (.cons (.b (sm _ _ hk.2.1) (hk.2.2.kept sm.ls)) (.cons (.b hm hT') .nil)))))
  | whl =>
   rw [hkk] at hk
   exact .mk (sm _ _ hk) (.cons (.s _) (.cons (.i _) (.cons (.e hE') (.cons (.b hm hT') .nil))))
 refine ⟨ZAt.shut (.plain rfl sat) hz',?_,ls',hst,h.qs.2.kept fun b xs hb=>ch _ _ hb fun z=>by rw [z,h.stk] at hb;cases hb⟩
 refine List.nodup_append.mpr ⟨nd1.1,List.nodup_cons.mpr ⟨fun hm=>nd2.1 (List.mem_append_right _ hm),nd4.2.1⟩,fun a ha b hb z=>?_⟩
 rcases Qn hb with q | q
 ·exact nd1.2.2 _ ha _ (Qk ..) (z.trans q)
 ·exact nd1.2.2 _ ha _ (Qg _ (List.mem_append_right _ q)) z
theorem ZS.alt {H H':Hp} {X:List Addr} {st q':Addr} {F G:AF} {c d:CF} {Z:List AF} {C:List CF} (h:ZS H X st (F::G::Z) (c::d::C)) (hkk:F.k=.ifB) (ch:∀ b o,H b=some o->b≠st->H' b=some o) (hst:H' st=some (.lst (((d::C).map CF.q).reverse.map V.ref++[.ref q']))) (hq:H' q'=some (.tup [.ref c.o,.non])) :
  ZS H' X st (⟨[],F.r,F.e,.ifO F.ts⟩::G::Z) (⟨q',c.o,c.s,c.l,[],c.xs,c.ve⟩::d::C):=by
 have nd:=h.nd
 have nd1:=List.nodup_append.mp nd
 have nd2:=List.nodup_cons.mp nd1.2.1
 have nd3:(ops1 F c++opens (G::Z) (d::C)).Nodup:=nd2.2
 have e1:ops1 F c=[c.l,c.o]:=by unfold ops1;rw [hkk]
 have nd3:(c.l::c.o::opens (G::Z) (d::C)).Nodup:=by rw [e1] at nd3;exact nd3
 have e0:opens (F::G::Z) (c::d::C)=c.l::c.o::opens (G::Z) (d::C):=by
  show ops1 F c++_=_
  rw [e1];rfl
 have eO:opens (⟨[],F.r,F.e,.ifO F.ts⟩::G::Z) (⟨q',c.o,c.s,c.l,[],c.xs,c.ve⟩::d::C)=c.o::opens (G::Z) (d::C):=rfl
 have sub:∀ b,b∈X++st::(c.o::opens (G::Z) (d::C))->b∈X++st::opens (F::G::Z) (c::d::C):=fun b hb=>by
  rw [e0]
  simp only [List.mem_append,List.mem_cons] at hb ⊢
  rcases hb with q | q | q | q
  ·exact .inl q
  ·exact .inr (.inl q)
  ·exact .inr (.inr (.inr (.inl q)))
  ·exact .inr (.inr (.inr (.inr q)))
 have hns:c.l≠st:=fun z=>nd2.1 (by rw [e0,<- z];simp)
 have hln:c.l∉X++st::(c.o::opens (G::Z) (d::C)):=fun hm=>by
  rcases Qt hm with q | q
  ·exact nd1.2.2 _ q _ (Qg _ (by rw [e0];simp)) rfl
  ·rcases Qn q with q | q
   ·exact hns q
   ·exact (List.nodup_cons.mp nd3).1 q
 have sm:Same (mask H (X++st::opens (F::G::Z) (c::d::C))) (mask H' (X++st::(c.o::opens (G::Z) (d::C)))):=mask_le (fun b hb=>.inl (sub b hb)) fun b o hb hx=>ch _ _ hx fun z=>hb (by rw [z];exact List.mem_append_right _ (Qk ..))
 have keep:∀ b∈opens (F::G::Z) (c::d::C),H' b=H b:=fun b hb=>by
  obtain ⟨xs,hx⟩:=h.ls b (List.mem_append_right _ (Qg _ hb))
  rw [hx,ch _ _ hx fun z=>nd2.1 (by rw [<- z];exact hb)]
 obtain ⟨hL,hT,⟨hE,hk⟩,hz⟩:=h.z
 rw [List.append_nil] at hL
 rw [hkk] at hk
 refine ⟨?_,?_,fun b hb=>?_,?_,hq,h.qs.2.kept fun b xs hb=>ch _ _ hb fun z=>by rw [z,h.stk] at hb;cases hb⟩
 ·rw [eO]
  refine ⟨by show H' c.o=some (.lst []);rw [keep _ (by rw [e0];simp)];exact hk.2,.nil,⟨hE.kept sm.ls.1,sm _ _ hk.1,?_,hT.kept sm.ls⟩,ZAt.kept sm (fun b hb=>keep _ (by rw [e0];simp [hb])) hz⟩
  show mask H' _ c.l=_
  rw [mask_no hln,keep _ (by rw [e0];simp)]
  exact hL
 ·rw [eO]
  rw [e0] at nd1
  refine List.nodup_append.mpr ⟨nd1.1,List.nodup_cons.mpr ⟨fun hm=>nd2.1 (by rw [e0];exact Qg _ hm),(List.nodup_cons.mp nd3).2⟩,fun a ha b hb z=>?_⟩
  rcases Qn hb with q | q
  ·exact nd1.2.2 _ ha _ (Qk ..) (z.trans q)
  ·exact nd1.2.2 _ ha _ (Qg _ (Qg _ q)) z
 ·rw [eO] at hb
  by_cases h2:b=st
  ·exact ⟨.inl _,by rw [h2];exact hst⟩
  ·obtain ⟨xs,hx⟩:=h.ls b (sub b hb)
   exact ⟨xs,ch _ _ hx h2⟩
 ·rw [hst]
  simp
theorem ZS.sne {H:Hp} {X:List Addr} {st:Addr} {F:AF} {c:CF} {Z:List AF} {C:List CF} (h:ZS H X st (F::Z) (c::C)):st≠c.l:=fun z=>by
 have:=(List.nodup_cons.mp (List.nodup_append.mp h.nd).2.1).1
 exact this (by rw [z];unfold opens;exact List.mem_append_left _ (ops1_l F c))
theorem ZS.top {H:Hp} {X:List Addr} {st:Addr} {F:AF} {c:CF} {Z:List AF} {C:List CF} (h:ZS H X st (F::Z) (c::C)):H c.l=some (.lst c.xs):=by
 have:=h.z.head.1
 rw [List.append_nil] at this
 exact this
theorem ZS.stk2 {H:Hp} {X:List Addr} {st:Addr} {F:AF} {c:CF} {Z:List AF} {C:List CF} (h:ZS H X st (F::Z) (c::C)):H st=some (.lst ((C.map CF.q).reverse.map V.ref++[.ref c.q])):=by
 rw [h.stk]
 simp
theorem some_ne {H:Hp} {a b:Addr} {o:HO} (h:H a=some o) (hb:H b=none):a≠b:=fun z=>by rw [z,hb] at h;cases h
theorem ZS.tupOut {H H':Hp} {X:List Addr} {st:Addr} {Z:List AF} {C:List CF} (h:ZS H X st Z C) (o:Out st (opens Z C) H H'):TupS H H':=fun b xs hb=>o b _ (fun z=>by
 obtain ⟨ys,hy⟩:=h.ls b (List.mem_append_right _ z)
 rw [hy] at hb
 exact mO_tup hb) hb
theorem ZS.xOut {H H':Hp} {X:List Addr} {st:Addr} {Z:List AF} {C:List CF} (h:ZS H X st Z C) (o:Out st (opens Z C) H H') {b:Addr} {x:HO} (hb:b∈X) (hx:H b=some x):H' b=some x :=
 o b x (fun z=>(List.nodup_append.mp h.nd).2.2 _ hb _ z rfl) hx
theorem ZS.putT {H:Hp} {X:List Addr} {st:Addr} {F:AF} {c:CF} {Z:List AF} {C:List CF} {t:Addr} {vs:List V} {x:Tr} (h:ZS H X st (F::Z) (c::C)) (ht:H t=some (.tup vs)) (hp:∀ Hm,TupS H Hm->PsAt Hm false vs x.parts) :
  ZS (upd H c.l (.lst (c.xs++[.ref t]))) X st ({ F with ts:=F.ts++[x] }::Z) ({ c with xs:=c.xs++[.ref t] }::C)/\Out st (opens (F::Z) (c::C)) H (upd H c.l (.lst (c.xs++[.ref t]))):=by
 have ch:∀ b o,H b=some o->b≠c.l->upd H c.l (.lst (c.xs++[.ref t])) b=some o:=fun b o hb hn=>by rw [upd_ne hn];exact hb
 have t1:TupS H (upd H c.l (.lst (c.xs++[.ref t]))):=fun b xs hb=>ch _ _ hb fun z=>by rw [z,h.top] at hb;cases hb
 have t2:TupS (upd H c.l (.lst (c.xs++[.ref t]))) (mask (upd H c.l (.lst (c.xs++[.ref t]))) (X++st::opens (F::Z) (c::C))):=mask_tup fun b hb=>by
  by_cases hb2:b=c.l
  ·exact ⟨.inl _,by rw [hb2];exact upd_same⟩
  ·obtain ⟨xs,hx⟩:=h.ls b hb
   exact ⟨xs,ch _ _ hx hb2⟩
 exact ⟨h.put ch upd_same (.mk (t2 _ _ (t1 _ _ ht)) (hp _ fun b xs hb=>t2 _ _ (t1 _ _ hb))),fun b o hb hx=>ch _ _ hx fun z=>hb (by rw [z];exact Qg _ (by unfold opens;exact List.mem_append_left _ (ops1_l F c)))⟩
theorem ZS.lenC {H:Hp} {X:List Addr} {st:Addr} {F:AF} {c:CF} {Z:List AF} {C:List CF} (h:ZS H X st (F::Z) (c::C)):C.length=Z.length/\c.xs.length=F.ts.length:=by
 have:=h.z.len
 exact ⟨by simpa using this.symm,h.z.head.2.length⟩
noncomputable def lastL:List CF->Addr
 | []=>0
 | [c]=>c.l
 | _::d::C=>lastL (d::C)
theorem lastL_l {c c':CF} (h:c'.l=c.l):∀ {C:List CF},lastL (c'::C)=lastL (c::C)
 | []=>h
 | _::_=>rfl
theorem ZS.popped {H:Hp} {X:List Addr} {st:Addr} {F G:AF} {c:CF} {Z:List AF} {C:List CF} (h:ZS H X st (F::G::Z) (c::C)):∃ C',ZS (upd H st (.lst ((C.map CF.q).reverse.map V.ref))) X st ({ G with ts:=G.ts++[F.tr] }::Z) C'/\(lastL C'=lastL (c::C)/\∀ b∈opens ({ G with ts:=G.ts++[F.tr] }::Z) C',b∈opens (F::G::Z) (c::C))/\Out st (opens (F::G::Z) (c::C)) H (upd H st (.lst ((C.map CF.q).reverse.map V.ref))):=by
 cases C with
 | nil=>have:=h.lenC.1;simp at this
 | cons d C=>exact ⟨_,h.pop (fun b o hb hn=>by rw [upd_ne hn];exact hb) upd_same,⟨lastL_l (c:=d) (c':={ d with xs:=d.xs++[.ref c.s] }) rfl,fun b hb=>List.mem_append_right (ops1 F c) (show b∈opens (G::Z) (d::C) from hb)⟩,fun b o hb hx=>by rw [upd_ne fun z=>hb (by rw [z];exact Qk ..)];exact hx⟩
theorem ZS.altd {H:Hp} {X:List Addr} {st q:Addr} {F G:AF} {c:CF} {Z:List AF} {C:List CF} (h:ZS H X st (F::G::Z) (c::C)) (hk:F.k=.ifB) (hq:upd H st (.lst ((C.map CF.q).reverse.map V.ref)) q=none) :
  ∃ C',ZS (upd (upd (upd H st (.lst ((C.map CF.q).reverse.map V.ref))) q (.tup [.ref c.o,.non])) st (.lst ((C.map CF.q).reverse.map V.ref++[.ref q]))) X st (⟨[],F.r,F.e,.ifO F.ts⟩::G::Z) C'/\(lastL C'=lastL (c::C)/\∀ b∈opens (⟨[],F.r,F.e,.ifO F.ts⟩::G::Z) C',b∈opens (F::G::Z) (c::C)) /\
   Out st (opens (F::G::Z) (c::C)) H (upd (upd (upd H st (.lst ((C.map CF.q).reverse.map V.ref))) q (.tup [.ref c.o,.non])) st (.lst ((C.map CF.q).reverse.map V.ref++[.ref q]))):=by
 have ch:∀ b o,H b=some o->b≠st->upd (upd (upd H st (.lst ((C.map CF.q).reverse.map V.ref))) q (.tup [.ref c.o,.non])) st (.lst ((C.map CF.q).reverse.map V.ref++[.ref q])) b=some o:=fun b o hb hn=>by
  rw [upd_ne hn,upd_ne (some_ne (by rw [upd_ne hn];exact hb) hq),upd_ne hn]
  exact hb
 have hqs:q≠st:=fun z=>by rw [z,upd_same] at hq;cases hq
 cases C with
 | nil=>have:=h.lenC.1;simp at this
 | cons d C=>exact ⟨_,h.alt hk ch upd_same (by rw [upd_ne hqs];exact upd_same),⟨rfl,fun b hb=>by
   show b∈ops1 F c++opens (G::Z) (d::C)
   unfold ops1
   rw [hk]
   rcases Qn (show b∈c.o::opens (G::Z) (d::C) from hb) with q | q
   ·rw [q];simp
   ·simp [q]⟩,fun b o hb hx=>ch b o hx fun z=>hb (by rw [z];exact Qk ..)⟩
noncomputable def up:AF->List AF->List Tr
 | F,[]=>F.ts
 | F,G::Z=>up { G with ts:=G.ts++[F.tr] } Z
theorem tr_flat (F:AF) (us:List Tr):({ F with ts:=F.ts++us }:AF).tr.flat=F.tr.flat++flats us:=by
 unfold AF.tr
 cases hk:F.k with
 | top=>simp [Tr.flat,flats_app]
 | ifB=>simp [Tr.flat,flats_app,flats]
 | ifO bs=>simp [Tr.flat,flats_app]
 | whl=>simp [Tr.flat,flats_app]
theorem flats_one (t:Tr):flats [t]=t.flat:=by simp [flats]
theorem up_flat:∀ (Z:List AF) (F:AF) (us:List Tr),flats (up { F with ts:=F.ts++us } Z)=flats (up F Z)++flats us
 | [],F,us=>flats_app _ _
 | G::Z,F,us=>by
  show flats (up { G with ts:=G.ts++[({ F with ts:=F.ts++us }:AF).tr] } Z)=flats (up { G with ts:=G.ts++[F.tr] } Z)++flats us
  rw [up_flat Z G,up_flat Z G,flats_one,flats_one,tr_flat,List.append_assoc]
theorem ascs_snoc:∀ {ts:List Tr} {t:Tr},ascs ts->(∀ u∈ts,u.row<t.row)->t.asc->ascs (ts++[t])
 | [],t,_,_,h=>⟨h,by simp,trivial⟩
 | u::ts,t,h,hr,ht=>⟨h.1,fun v hv=>by
   rcases Qt hv with q | q
   ·exact h.2.1 v q
   ·rw [List.mem_singleton.mp q];exact hr u (by simp),ascs_snoc h.2.2 (fun v hv=>hr v (by simp [hv])) ht⟩
theorem deeps_snoc:∀ (ts:List Tr) (t:Tr),deeps (ts++[t])=max (deeps ts) (t.deep+1)
 | [],t=>by simp [deeps]
 | u::ts,t=>by
  have:=deeps_snoc ts t
  simp only [List.cons_append,deeps,this]
  omega
noncomputable def bsOk (k:Kd) (n:Nat):Prop:=match k with
 | .ifO bs=>bs.length<=20/\ascs bs/\deeps bs+n<=5
 | _=>True
noncomputable def ZOk:Nat->List AF->Prop
 | _,[]=>False
 | b,F::Z=>F.ts.length<=b/\b<=20/\ascs F.ts/\(∀ u∈F.ts,u.row<b)/\deeps F.ts+Z.length<=5/\Z.length<=4/\((Z=[]/\F.k=.top)∨(F.e.plain/\F.r<b/\bsOk F.k Z.length/\ZOk F.r Z))
theorem ZOk.mono {b b':Nat} (hb:b<=b') (h20:b'<=20):∀ {Z:List AF},ZOk b Z->ZOk b' Z
 | [],h=>h.elim
 | F::Z,h=>⟨QE h.1 hb,h20,h.2.2.1,fun u hu=>Nat.lt_of_lt_of_le (h.2.2.2.1 u hu) hb,h.2.2.2.2.1,h.2.2.2.2.2.1,h.2.2.2.2.2.2.imp id fun q=>⟨q.1,Nat.lt_of_lt_of_le q.2.1 hb,q.2.2⟩⟩
theorem ZOk.put {b:Nat} {F:AF} {Z:List AF} {t:Tr} (h:ZOk b (F::Z)) (hb:b<20) (hr:t.row=b) (ha:t.asc) (hd:t.deep=0):ZOk (b+1) ({ F with ts:=F.ts++[t] }::Z):=by
 obtain ⟨h1,h2,h3,h4,h5,h6,h7⟩:=h
 refine ⟨by simp;exact h1,hb,ascs_snoc h3 (fun u hu=>by rw [hr];exact h4 u hu) ha,fun u hu=>?_,?_,h6,h7.imp id fun q=>⟨q.1,Nat.lt_succ_of_lt q.2.1,q.2.2⟩⟩
 ·rcases Qt hu with q | q
  ·exact Nat.lt_succ_of_lt (h4 u q)
  ·rw [List.mem_singleton.mp q,hr];exact Nat.lt_succ_self b
 ·show deeps (F.ts++[t])+Z.length<=5
  rw [deeps_snoc,hd]
  omega
theorem tr_row (F:AF):F.tr.row=F.r:=by
 unfold AF.tr
 cases F.k<;>rfl
theorem ZOk.end {b:Nat} {F G:AF} {Z:List AF} (h:ZOk b (F::G::Z)):ZOk b ({ G with ts:=G.ts++[F.tr] }::Z):=by
 obtain ⟨h1,h2,h3,h4,h5,h6,h7⟩:=h
 rcases h7 with h7 | ⟨hp,hr,hbs,g1,g2,g3,g4,g5,g6,g7⟩
 ·cases h7.1
 have hl:(G::Z).length=Z.length+1:=rfl
 rw [hl] at h5 h6 hbs
 have hdp:F.tr.deep+Z.length+1<=5/\F.tr.asc:=by
  unfold AF.tr
  unfold bsOk at hbs
  cases hk:F.k with
  | top=>exact ⟨by show deeps F.ts+Z.length+1<=5;omega,hp,by omega,h3⟩
  | ifB=>exact ⟨by show max (deeps F.ts) (deeps [])+Z.length+1<=5;simp only [deeps];omega,hp,⟨by omega,h3⟩,by simp,trivial⟩
  | ifO bs =>
   rw [hk] at hbs
   exact ⟨by show max (deeps bs) (deeps F.ts)+Z.length+1<=5;have:=hbs.2.2;omega,hp,⟨hbs.1,hbs.2.1⟩,by omega,h3⟩
  | whl=>exact ⟨by show deeps F.ts+Z.length+1<=5;omega,hp,by omega,h3⟩
 refine ⟨by simp;omega,h2,ascs_snoc g3 (fun u hu=>by rw [tr_row];exact g4 u hu) hdp.2,fun u hu=>?_,?_,g6,g7.imp id fun q=>⟨q.1,Nat.lt_trans q.2.1 hr,q.2.2⟩⟩
 ·rcases Qt hu with q | q
  ·exact Nat.lt_trans (g4 u q) hr
  ·rw [List.mem_singleton.mp q,tr_row];exact hr
 ·show deeps (G.ts++[F.tr])+Z.length<=5
  rw [deeps_snoc]
  have:=hdp.1
  omega
theorem ZOk.up {b:Nat}:∀ {Z:List AF} {F:AF},ZOk b (F::Z)->(Mm.up F Z).length<=20/\ascs (Mm.up F Z)/\deeps (Mm.up F Z)<=5
 | [],F,h=>⟨QE h.1 h.2.1,h.2.2.1,h.2.2.2.2.1⟩
 | G::Z,F,h=>ZOk.up (Z:=Z) h.end
theorem LAt.app {H:Hp} {sh:Bool}:∀ {vs us:List V} {ts rs:List Tr},LAt H sh vs ts->LAt H sh us rs->LAt H sh (vs++us) (ts++rs)
 | _,_,_,_,.nil,h=>h
 | _,_,_,_,.cons a b,h=>.cons a (b.app h)
theorem ZAt.up {H:Hp} {M:List Addr}:∀ {Z:List AF} {F:AF} {C:List CF} {c:CF} {inn:List V} {us:List Tr},ZAt H M (F::Z) (c::C) inn->LAt H false inn us->∃ xs:List V,H (lastL (c::C))=some (.lst xs)/\LAt H false xs (Mm.up { F with ts:=F.ts++us } Z)
 | [],F,[],c,inn,us,h,hi=>⟨c.xs++inn,h.2.1,(h.2.2.kept (mask_in H M).ls).app hi⟩
 | [],F,_::_,c,inn,us,h,_=>by simp [ZAt] at h
 | _::_,F,[],c,inn,us,h,_=>by simp [ZAt] at h
 | G::Z,F,d::C,c,inn,us,h,hi=>by
  obtain ⟨h1,h2,h3,h4⟩:=h
  have sm:=mask_in H M
  have hT:=(h2.kept sm.ls).app hi
  have sat:SAt H false (.ref c.s) ({ F with ts:=F.ts++us }:AF).tr:=by
   obtain ⟨hE,hk⟩:=h3
   have hE':=hE.kept sm.ls.1
   unfold AF.tr
   cases hkk:F.k with
   | top=>rw [hkk] at hk;exact hk.elim
   | ifB=>rw [hkk] at hk;exact .mk (sm _ _ hk.1) (.cons (.s _) (.cons (.i _) (.cons (.e hE') (.cons (.b h1 hT) (.cons (.b hk.2 .nil) .nil)))))
   | ifO bs=>rw [hkk] at hk;exact .mk (sm _ _ hk.1) (.cons (.s _) (.cons (.i _) (.cons (.e hE') (.cons (.b (sm _ _ hk.2.1) (hk.2.2.kept sm.ls)) (.cons (.b h1 hT) .nil)))))
   | whl=>rw [hkk] at hk;exact .mk (sm _ _ hk) (.cons (.s _) (.cons (.i _) (.cons (.e hE') (.cons (.b h1 hT) .nil))))
  have q:=ZAt.up (us:=[({ F with ts:=F.ts++us }:AF).tr]) h4 (.cons (.plain rfl sat) .nil)
  exact q
end Mm
namespace L2
open PySem PySem.Spec PyProof.Rows
theorem for_enum {K:PySem.W.Frag} {a:Addr} {xs:List V} {g:TG} {tb:TS} {D:Ends} {σ:St} {H:Hp} (Pv:Nat->St->Hp->Prop) (h0:Pv 0 σ H) (hl:∀ i σ H,i<=xs.length->Pv i σ H->SqL K H a xs)
  (hs:∀ i x σ H t,xs[i]?=some x->Pv i σ H->H t=none->g (.ref t) σ (upd H t (.tup [.int ((i:Nat):Int),x])) fun σ2 H2=>tb { D with nx:=Pv (i+1),ct:=Pv (i+1),bk:=D.nx } σ2 H2) (hd:∀ σ H,Pv xs.length σ H->D.nx σ H) :
  ∃ W:Nat->Nat->St->Hp->Prop,(∃ m,W 0 m σ H)/\∀ i m σ H,W i m σ H ->
   ((Ite K a).stop i H/\D.nx σ H)∨((Ite K a).go i H/\∃ N:St->Hp->Prop,(∀ σ' H',N σ' H'->∃ m',m'<m/\W (i+1) m' σ' H')/\∀ x H',(Ite K a).yld i H x H'->g x σ H' fun σ2 H2=>tb { D with nx:=N,ct:=N,bk:=D.nx } σ2 H2):=by
 refine ⟨fun i m σ H=>m=xs.length-i/\i<=xs.length/\Pv i σ H,⟨xs.length,by simp,Qp _,h0⟩,?_⟩
 rintro i m σ H ⟨rfl,hi,p⟩
 have q:=hl i σ H hi p
 by_cases hlt:i<xs.length
 ·refine .inr ⟨⟨xs,xs[i],q,by simp [hlt]⟩,Pv (i+1),fun σ' H' p'=>⟨xs.length-(i+1),by omega,rfl,hlt,p'⟩,fun x H' y=>?_⟩
  obtain ⟨t,y,hy,hn,rfl,rfl⟩:=y
  exact hs i y σ _ t (hy xs q) p hn
 ·have e:i=xs.length:=by omega
  subst e
  exact .inl ⟨⟨xs,q,Qf _⟩,hd σ H p⟩
end L2
namespace L2
open PySem PySem.Spec PyProof.Rows
section
variable {M:Model} {A:Around} {E:Value->Shared->Prop} {s:Shared}
end
end L2
namespace L2
open PySem PySem.Spec PyProof.Rows
section
variable {prog:Program} {w:World} {A:Around} {E:Value->Shared->Prop} {s:Shared} {K:PySem.W.Frag} {x C:Addr} {name:Str} {v:Value}
end
section
variable {prog:Program} {w:World} {A:Around} {E:Value->Shared->Prop} {h:Heap} {g:Array GenState} {d:Drawn} {t:Nat} {os:OsState}
variable {nm q:Str} {C N:Addr} {bs bm bmB:List Value} {hdct:Bool} {sn:List Str} {sub:List Value} {ab:Bool} {col:Option Bool} {dd:Option Addr} {k0 k1 k2 k3 k5:Option Value} {B newId initId:String}
end
section
variable {M:Model} {A:Around} {E:Value->Shared->Prop} {env:Env}
variable {nm q:Str} {C N:Addr} {bs bm:List Value} {hdct:Bool} {sn:List Str} {sub:List Value} {ab:Bool} {col:Option Bool} {dd:Option Addr} {k0 k1 k2 k3 k5:Option Value} {newId:String}
end
end L2
namespace L2
open PySem PySem.Spec PyProof.Rows
section
variable {prog:Program} {w:World} {A:Around} {E:Value->Shared->Prop} {s:Shared} {env:Env}
variable {nm q:Str} {C N:Addr} {bs bm bmB:List Value} {hdct:Bool} {sn:List Str} {sub:List Value} {ab:Bool} {col:Option Bool} {dd:Option Addr} {k0 k1 k2 k3 k5:Option Value} {B newId initId:String}
end
section
variable {X:Cx} {pins:List (Addr × Obj)} {σ:St} {H H':Hp} {s s':Shared} {B h'':Heap}
end
section
variable {P:Program} {w:World} {K:PySem.W.Frag} {mg:Str->Option Value} {base:Heap} {N:List Str} {qual:Str} {scope:Scope} {f:Addr} {cd:Value} {A:Around} {outer:List Env} {s₀:Shared} {H₀:Hp} {E:XK}
end
section
variable {X:Cx} {pins:List (Addr × Obj)} {σ:St} {H:Hp} {s:Shared} {a C t dx:Addr} {fs:List (Str × V)} {f:Str} {A:Around} {E:Value->Shared->Prop}
end
section
variable {X:Cx} {o e value:Expr} {f:Str} {pos pos' tpos:Pos} {ta tv:TE}
end
section
variable {X:Cx}
end
end L2
namespace L2
open PySem PySem.Spec PyProof.Rows
section
variable {P:Program} {w:World} {K:PySem.W.Frag} {mg:Str->Option Value} {base:Heap} {N:List Str} {qual:Str} {scope:Scope} {f:Addr} {cd:Value} {A:Around} {outer:List Env} {s₀:Shared} {H₀:Hp} {E:XK}
end
section
variable {X:Cx}
end
end L2
namespace L2
open PySem PySem.Spec PyProof.Rows
section
variable {P:Program} {w:World} {K:PySem.W.Frag} {mg:Str->Option Value} {base:Heap}
end
section
variable {X:Cx}
end
section
variable {X:Cx}
end
end L2
namespace L2
open PySem PySem.Spec PyProof.Rows PySem.W
section
variable {X:Cx}
theorem paired_get {α β:Type} {R:α->β->Prop}:∀ {as:List α} {bs:List β},Paired R as bs->∀ (i:Nat) (b:β),bs[i]?=some b->∃ a,as[i]?=some a/\R a b
 | _,_,.nil,i,b,h=>by simp at h
 | _,_,.cons r rs,0,b,h=>by
  have:=Qr h
  subst this
  exact ⟨_,rfl,r⟩
 | _,_,.cons r rs,i+1,b,h=>paired_get rs i b (by simpa using h)
theorem call_listDK (hc:X.calm=true):CallR X (.type "list") (fun as H Q=>∃ (d:Addr) (kvs:List (Key × V)),as=[.ref d]/\H d=some (.dK kvs)/\∀ q,H q=none->Q (.ref q) (upd H q (.lst (kvs.map fun kv=>kV kv.1)))):=by
 intro pins s σ H as us Q I r h
 obtain ⟨d,kvs,rfl,hd,q⟩:=h
 obtain ⟨u,rfl,ru⟩:=vals1 r
 cases (show u=Value.ref d from ru)
 obtain ⟨hz,hs,vs,rel,dd⟩:=I.hok d _ hd
 obtain ⟨ep,hat⟩:=dd.dictAt
 have hlv:kvs.length=vs.length:=Paired.length rel
 refine kdl_call (kdl_dict (kvs:=vs) (ep:=ep) hs) (I.ok.hd hc) hat (by rw [<- hlv];exact hz) fun h' tk acc' c' hk hS hacc=>?_
 refine ⟨.ref s.heap.objs.size,_,I.laid (t':=tk) (o:=.lst (kvs.map fun kv=>kV kv.1)) hk (Qf _) ⟨by rw [Qi];exact hz,acc'.toList,c',?_,by simpa using hS⟩,rfl,q _ I.fresh⟩
 have go:∀ (kvs:List (Key × V)) (l:List Value),l.length=kvs.length->(∀ (i:Nat) (v:Value) (kv:Key × V),l[i]?=some v->kvs[i]?=some kv->RelV (kV kv.1) v)->Vals (kvs.map fun kv=>kV kv.1) l:=by
  intro kvs
  induction kvs with
  | nil=>intro l hl _;rw [List.eq_nil_of_length_eq_zero hl];exact .nil
  | cons kv kvs ih =>
   intro l hl h
   match l,hl with
   | v::l,hl=>exact .cons (h 0 v kv rfl rfl) (ih l (by simpa using hl) fun i v kv a b=>h (i+1) v kv a b)
 refine go kvs acc'.toList (by rw [QD,hacc.1,hlv]) fun i v kv hv hkv=>?_
 rw [Array.getElem?_toList] at hv
 obtain ⟨k,x,e1,e2⟩:=hacc.2 i v hv
 obtain ⟨kv',e3,e4,_⟩:=paired_get rel i _ e1
 rw [hkv] at e3
 have e3:=Qr e3
 subst e3
 rw [e4]
 rcases keyIs_shape e2 with ⟨j,t,ek,rfl⟩ | ⟨z,t,ek,rfl⟩
 ·have ek:k=Sum.inl j:=ek
  rw [ek];exact ⟨t,rfl⟩
 ·have ek:k=Sum.inr z:=ek
  rw [ek];exact ⟨t,rfl⟩
end
end L2
namespace HT
open PySem PyProof.Rows
open PySem.SeqAt
open PySem.AutoSeq1 (wpAny_loadPart')
open PySem.MeetsSeq PySem.MeetsSeq2 PySem.MeetsSeq3
section
variable {prog:Program} {w:World} {A:Around} {E:Value->Shared->Prop} {s:Shared}
theorem getItem_tuple_all {t sl:Addr} {items:Array Value} {vl vu:Value} {lo hi:Option Int} {Q:Value->Shared->Prop} (ht:IsTup s.heap t items) (hs:s.heap.IsSliceOf sl vl vu .none) (pl:IsPart vl lo) (pu:IsPart vu hi)
  (h0:sIx items.size 0 lo=0) (h1:sIx items.size items.size hi=items.size) (h:Q (.ref t) s):wpAny (model prog w) A (getItem (.ref t) (.ref sl)) Q E s:=by
 obtain ⟨os,hos,hcs,hds⟩:=id hs
 have hTs:s.TypeIs (.ref sl) "slice":=⟨os,hos,hcs⟩
 unfold getItem
 try with_reducible refine wpAny_holding ?_
 first | refine Qa (Qc ?_) | skip
 refine Qa (wpAny_sequenceKey ht.typeIs (by decide) ?_)
 refine Qa (wpAny_callSpecial?_slot (name:=Str.ofString "__getitem__") ht.typeIs PyProof.Rows.slot_tuple_getitem
  (wpAny_call_entry PyProof.Rows.slot_tuple_getitem ht.typeIs entry_tuple_getitem ?_ (args_tuple_getitem _ _)))
 show wpAny _ _ (Builtin.Tuple.tupleItemsOf (.ref t) >>= _) _ _ s
 refine Qa (tupleItemsOf_ ht ?_)
 refine Qa (wpAny_typeOf hTs ?_)
 rw [if_pos (by decide)]
 refine Qa (sliceApplied_gen hs pl pu ?_)
 have hy:((((sIx items.size 0 lo:Nat):Int) == 0&&(1:Int) == 1&&(sIx items.size items.size hi-sIx items.size 0 lo) == items.size)=true):=by
  rw [h0,h1];simp
 show wpAny _ _ (if (((sIx items.size 0 lo:Nat):Int) == 0&&(1:Int) == 1&&(sIx items.size items.size hi-sIx items.size 0 lo) == items.size)=true then _ else _) _ _ s
 rw [if_pos hy]
 unfold Builtin.Tuple.tupleIsExact
 refine Qa (Qa (wpAny_typeOf ht.typeIs ?_))
 refine Qc ?_
 rw [if_pos (by decide)]
 first
  | exact Qa (wpAny_rule (Qc ⟨_,rfl,Qc h⟩))
  | exact Qa (wpAny_rule (wpAny_ret ⟨_,rfl,Qc h⟩))
  | exact Qa (Qc (Qc ⟨_,rfl,Qc h⟩))
end
end HT
namespace L2
open PySem PySem.Spec PyProof.Rows
section
variable {X:Cx}
noncomputable def rSlA (K:PySem.W.Frag):V->Option Int->Option Int->Hp->VK->Prop:=fun x lo hi H Q=>∃ a xs,x=.ref a/\SqT K H a xs/\HT.sIx xs.length 0 lo=0/\HT.sIx xs.length xs.length hi=xs.length/\Q (.ref a) H
theorem sl_all:SlR X (rSlA X.K):=by
 intro pins s σ H x v vl vu lo hi sl Q I rx hs pl pu h
 obtain ⟨a,xs,rfl,hx,h0,h1,q⟩:=h
 cases rx
 obtain ⟨its,r,ht,hz⟩:=I.tuple hx
 have hlen:its.toArray.size=xs.length:=by rw [Qm];exact r.length.symm
 refine ⟨"tuple",_,PyProof.Rows.slot_tuple_getitem.lookup,ht.typeIs,?_⟩
 exact HT.getItem_tuple_all ht hs pl pu (by rw [hlen];exact h0) (by rw [hlen];exact h1) ⟨.ref a,H,I,rfl,q⟩
theorem sl_tupA:SlR X (fun x lo hi H Q=>rSlT X.K x lo hi H Q∨rSlA X.K x lo hi H Q):=SlR.or sl_tup sl_all
end
end L2
namespace L2
open PySem PySem.SetTable
section
variable {α:Type}
noncomputable def Rise (xs:Array Nat):Prop:=∀ a b,a<b->b<xs.size->xs.getD a 0<xs.getD b 0
theorem getD_any {xs:Array Nat} {k:Nat} (d d':Nat) (h:k<xs.size):xs.getD k d=xs.getD k d':=by simp [Array.getD,h]
theorem below_go (xs:Array Nat) (j:Nat) (hr:Rise xs):∀ fuel lo hi,hi<=xs.size->lo<=hi->hi-lo<=fuel->(∀ k,k<lo->xs.getD k 0<j)->(∀ k,hi<=k->k<xs.size->j<=xs.getD k 0) ->
  below.go xs j fuel lo hi<=xs.size/\(∀ k,k<below.go xs j fuel lo hi->xs.getD k 0<j)/\∀ k,below.go xs j fuel lo hi<=k->k<xs.size->j<=xs.getD k 0
 | 0,lo,hi,h1,h2,h3,h4,h5=>by
  have e:lo=hi:=by omega
  subst e
  unfold below.go
  exact ⟨h1,h4,h5⟩
 | fuel+1,lo,hi,h1,h2,h3,h4,h5=>by
  unfold below.go
  by_cases hlt:lo<hi
  ·rw [if_pos hlt]
   dsimp only
   have hm:(lo+hi) / 2<xs.size:=by omega
   rw [getD_any j 0 hm]
   by_cases hc:xs.getD ((lo+hi) / 2) 0<j
   ·rw [if_pos hc]
    refine below_go xs j hr fuel _ hi h1 (by omega) (by omega) (fun k hk=>?_) h5
    by_cases e:k=(lo+hi) / 2
    ·rw [e];exact hc
    ·have:=hr k ((lo+hi) / 2) (by omega) hm;omega
   ·rw [if_neg hc]
    refine below_go xs j hr fuel lo _ (by omega) (by omega) (by omega) h4 fun k h6 h7=>?_
    by_cases e:k=(lo+hi) / 2
    ·rw [e];omega
    ·have:=hr ((lo+hi) / 2) k (by omega) h7;omega
  ·rw [if_neg hlt]
   have e:lo=hi:=by omega
   subst e
   exact ⟨h1,h4,h5⟩
theorem below_ok (xs:Array Nat) (j:Nat) (hr:Rise xs):below xs j<=xs.size/\(∀ k,k<below xs j->xs.getD k 0<j)/\∀ k,below xs j<=k->k<xs.size->j<=xs.getD k 0 :=
 below_go xs j hr xs.size 0 xs.size (Qf _) (Qp _) (by omega) (fun k hk=>absurd hk (Nat.not_lt_zero _)) (fun k h1 h2=>by omega)
structure Tbl (t:SetTable) (es:Array α) (L:List (Nat × α)):Prop where
 pl:t.place.toList=L.map (·.1)
 el:es.toList=L.map (·.2)
 up:(L.map (·.1)).Pairwise (·<·)
 du:t.dummies=#[]
 le:∀ p∈L,p.1<=t.mask
 fl:L.length<=t.mask
variable {t:SetTable} {es:Array α} {L:List (Nat × α)}
theorem getD_list {xs:Array Nat} {l:List Nat} (h:xs.toList=l) (k:Nat):xs.getD k 0=l.getD k 0:=by
 subst h
 rw [Array.getD_eq_getD_getElem?,Qe,Array.getElem?_toList]
theorem rise_of {xs:Array Nat} {l:List Nat} (h:xs.toList=l) (u:l.Pairwise (·<·)):Rise xs:=fun a b hab hb=>by
 have hl:xs.size=l.length:=by rw [<- h];simp
 rw [getD_list h,getD_list h,Qe,Qe,Qb (by omega:a<l.length),Qb (by omega:b<l.length)]
 exact (List.pairwise_iff_getElem.mp u) a b (by omega) (by omega) hab
theorem Tbl.rise (T:Tbl t es L):Rise t.place:=rise_of T.pl T.up
theorem Tbl.size (T:Tbl t es L):t.place.size=L.length/\es.size=L.length:=by
 have h1:=congrArg List.length T.pl
 have h2:=congrArg List.length T.el
 simp at h1 h2
 exact ⟨h1,h2⟩
theorem Tbl.place (T:Tbl t es L) (i:Nat):t.place[i]?=(L[i]?).map (·.1):=by rw [<- Array.getElem?_toList,T.pl,Ql]
theorem Tbl.entry (T:Tbl t es L) (i:Nat):es[i]?=(L[i]?).map (·.2):=by rw [<- Array.getElem?_toList,T.el,Ql]
theorem Tbl.live (T:Tbl t es L) {i:Nat} {p:Nat × α} (h:L[i]?=some p):t.slot p.1=.live i:=by
 obtain ⟨hb,h1,h2⟩:=below_ok t.place p.1 T.rise
 have hi:i<L.length:=(Qh h).1
 have hs:=T.size.1
 have hp:t.place.getD i 0=p.1:=by rw [Array.getD_eq_getD_getElem?,T.place,h];rfl
 have e:below t.place p.1=i:=by
  rcases Nat.lt_trichotomy (below t.place p.1) i with z | z | z
  ·have a:=h2 (below t.place p.1) (Qf _) (by omega)
   have b:=T.rise (below t.place p.1) i z (by omega)
   omega
  ·exact z
  ·have:=h1 i z;omega
 unfold SetTable.slot
 dsimp only
 rw [e,T.place,h]
 simp
theorem Tbl.empty (T:Tbl t es L) {j:Nat} (h:∀ p∈L,p.1≠j):t.slot j=.empty:=by
 unfold SetTable.slot
 dsimp only
 rw [if_neg,if_neg]
 ·rw [T.du]
  unfold SetTable.has
  simp
 ·intro z
  have z:t.place[below t.place j]?=some j:=by simpa using z
  rw [T.place] at z
  obtain ⟨p,h1,h2⟩:=Option.map_eq_some_iff.mp z
  exact h p (Qs h1) h2
theorem insertAt_list {β:Type} (xs:Array β) (p:Nat) (x:β):(insertAt xs p x).toList=xs.toList.take p++x::xs.toList.drop p:=by
 simp [insertAt,QA]
theorem pair_ins {L:List Nat} {p j:Nat} (u:L.Pairwise (·<·)) (h1:∀ k,k<p->∀ x,L[k]?=some x->x<j) (h2:∀ k,p<=k->∀ x,L[k]?=some x->j<x):(L.take p++j::L.drop p).Pairwise (·<·):=by
 rw [List.pairwise_append]
 refine ⟨u.sublist (List.take_sublist _ _),List.pairwise_cons.mpr ⟨fun x hx=>?_,u.sublist (List.drop_sublist _ _)⟩,fun a ha b hb=>?_⟩
 ·obtain ⟨k,hk⟩:=List.mem_iff_getElem?.mp hx
  rw [List.getElem?_drop] at hk
  exact h2 (p+k) (by omega) x hk
 ·obtain ⟨k,hk⟩:=List.mem_iff_getElem?.mp ha
  have hkp:k<p:=by
   rcases Nat.lt_or_ge k p with z | z
   ·exact z
   ·rw [List.getElem?_eq_none (by rw [Qv];omega)] at hk;cases hk
  rw [List.getElem?_take_of_lt hkp] at hk
  have ha':=h1 k hkp a hk
  rcases Qn hb with e | hb
  ·rw [e];exact ha'
  ·obtain ⟨q,hq⟩:=List.mem_iff_getElem?.mp hb
   rw [List.getElem?_drop] at hq
   have:=h2 (p+q) (by omega) b hq
   omega
theorem Tbl.put (T:Tbl t es L) {j:Nat} {e:α} (h:∀ p∈L,p.1≠j) (hj:j<=t.mask) (hl:L.length+1<=t.mask) :
  ∃ L',Tbl (t.put j).1 (insertAt es (t.put j).2 e) L'/\L'.Perm ((j,e)::L)/\(t.put j).1.mask=t.mask/\(t.put j).1.plain=t.plain/\(t.put j).1.led=t.led/\(t.put j).1.moves=t.moves:=by
 obtain ⟨hb,h1,h2⟩:=below_ok t.place j T.rise
 have hd:(SetTable.has t.dummies j)=false:=by rw [T.du];unfold SetTable.has;simp
 refine ⟨L.take (below t.place j)++(j,e)::L.drop (below t.place j),⟨?_,?_,?_,?_,?_,?_⟩,?_,rfl,rfl,rfl,rfl⟩
 ·show (insertAt t.place (below t.place j) j).toList=_
  rw [insertAt_list,T.pl]
  simp
 ·show (insertAt es (below t.place j) e).toList=_
  rw [insertAt_list,T.el]
  simp
 ·simp only [QI,List.map_cons,List.map_take,List.map_drop]
  refine pair_ins T.up (fun k hk x hx=>?_) fun k hk x hx=>?_
  ·have:=h1 k hk
   rw [getD_list T.pl,Qe,hx] at this
   exact this
  ·have hkl:k<(L.map (·.1)).length:=(Qh hx).1
   have:=h2 k hk (by rw [T.size.1];simpa using hkl)
   rw [getD_list T.pl,Qe,hx] at this
   have hne:x≠j:=by
    obtain ⟨p,hp,rfl⟩:=QF (Qs hx)
    exact h p hp
   simp at this
   omega
 ·show (if SetTable.has t.dummies j then _ else t.dummies)=#[]
  rw [hd,if_neg (by decide)]
  exact T.du
 ·intro p hp
  show p.1<=t.mask
  rcases Qt hp with q | q
  ·exact T.le p (List.mem_of_mem_take q)
  ·rcases Qn q with q | q
   ·rw [q];exact hj
   ·exact T.le p (List.mem_of_mem_drop q)
 ·show _<=t.mask
  simp
  omega
 ·refine List.perm_middle.trans ?_
  rw [List.take_append_drop]
end
noncomputable def adv (m:Nat) (p:Probe):Probe :=
 if p.more>0 then { p with j:=p.j+1,more:=p.more-1 } else
 { p with j:=(leap m p.i p.perturb).1,more:=runEnd m (leap m p.i p.perturb).1-(leap m p.i p.perturb).1,i:=(leap m p.i p.perturb).1,perturb:=(leap m p.i p.perturb).2 }
theorem adv_eq (t:SetTable) (p:Probe):t.advance p=adv t.mask p:=rfl
noncomputable def runAt (m i pt:Nat):Probe:={ j:=i,more:=runEnd m i-i,i,perturb:=pt,dummy:=none }
noncomputable def path (m:Nat) (h:Int):Nat->Probe
 | 0=>runAt m (bits h % (m+1)) (bits h)
 | k+1=>adv m (path m h k)
noncomputable def run (m:Nat) (h:Int):Nat->Nat × Nat
 | 0=>(bits h % (m+1),bits h)
 | r+1=>leap m (run m h r).1 (run m h r).2
theorem runEnd_le (m i:Nat) (hi:i<=m):i<=runEnd m i/\runEnd m i<=m/\runEnd m i<=i+9:=by
 unfold runEnd
 split<;>omega
theorem run_le (m:Nat) (h:Int):∀ r,(run m h r).1<=m
 | 0=>Nat.le_of_lt_succ (Nat.mod_lt _ (Nat.succ_pos _))
 | r+1=>Nat.le_of_lt_succ (Nat.mod_lt _ (Nat.succ_pos _))
theorem path_none (m:Nat) (h:Int):∀ k,(path m h k).dummy=none
 | 0=>rfl
 | k+1=>by
  show (adv m (path m h k)).dummy=none
  unfold adv
  split<;>exact path_none m h k
theorem path_in (m:Nat) (h:Int) {k r:Nat} (e:path m h k=runAt m (run m h r).1 (run m h r).2):∀ d,d<=runEnd m (run m h r).1-(run m h r).1 ->
  path m h (k+d)={ j:=(run m h r).1+d,more:=runEnd m (run m h r).1-(run m h r).1-d,i:=(run m h r).1,perturb:=(run m h r).2,dummy:=none }
 | 0,_=>e
 | d+1,hd=>by
  show adv m (path m h (k+d))=_
  rw [path_in m h e d (by omega)]
  unfold adv
  rw [if_pos (by show _>0;dsimp only;omega)]
  dsimp only
  congr 1
theorem path_run (m:Nat) (h:Int):∀ r,∃ k,k<=10*r/\path m h k=runAt m (run m h r).1 (run m h r).2
 | 0=>⟨0,Qf _,rfl⟩
 | r+1=>by
  obtain ⟨k,hk,e⟩:=path_run m h r
  have hr:=runEnd_le m _ (run_le m h r)
  refine ⟨k+(runEnd m (run m h r).1-(run m h r).1)+1,by omega,?_⟩
  show adv m (path m h _)=_
  rw [path_in m h e _ (Qf _)]
  unfold adv
  rw [if_neg (by dsimp only;omega)]
  rfl
theorem bits_lt (h:Int):bits h<2 ^ 64:=by
 unfold bits
 have h1:=Int.emod_nonneg h (show (2 ^ 64:Int)≠0 by decide)
 have h2:=Int.emod_lt_of_pos h (show (0:Int)<2 ^ 64 by decide)
 omega
theorem run_pt (m:Nat) (h:Int):∀ r,(run m h r).2=bits h / 32 ^ r
 | 0=>by simp [run]
 | r+1=>by
  show (run m h r).2 / 32=_
  rw [run_pt m h r,Nat.div_div_eq_div_mul,Nat.pow_succ]
noncomputable def lcg (m:Nat):Nat->Nat->Nat
 | 0,i=>i
 | q+1,i=>((lcg m q i)*5+1) % (m+1)
theorem run_lcg (m:Nat) (h:Int):∀ q,(run m h (12+q)).1=lcg m q (run m h 12).1
 | 0=>rfl
 | q+1=>by
  show (leap m (run m h (12+q)).1 (run m h (12+q)).2).1=_
  unfold leap
  dsimp only
  rw [run_lcg m h q,run_pt,Nat.div_div_eq_div_mul]
  have:bits h / (32 ^ (12+q)*32)=0:=by
   refine Nat.div_eq_of_lt ?_
   have h1:=bits_lt h
   have h2:32 ^ 13<=32 ^ (12+q)*32:=by
    rw [<- Nat.pow_succ]
    exact Nat.pow_le_pow_right (by decide) (by omega)
   have h3:(2:Nat) ^ 64<=32 ^ 13:=by decide
   omega
  rw [this]
  rfl
noncomputable def Round (m:Nat):Prop:=(∀ j,j<=m->∃ q,q<=m/\lcg m q 0=j)/\lcg m (m+1) 0=0
theorem lcg_add (m:Nat) (i:Nat):∀ a b,lcg m (a+b) i=lcg m b (lcg m a i)
 | a,0=>rfl
 | a,b+1=>by
  show (lcg m (a+b) i*5+1) % (m+1)=_
  rw [lcg_add m i a b]
  rfl
theorem Round.all {m:Nat} (R:Round m) {i j:Nat} (hi:i<=m) (hj:j<=m):∃ q,q<=m/\lcg m q i=j:=by
 obtain ⟨a,ha,ea⟩:=R.1 i hi
 obtain ⟨b,hb,eb⟩:=R.1 j hj
 by_cases hab:a<=b
 ·refine ⟨b-a,by omega,?_⟩
  rw [<- ea,<- lcg_add,show a+(b-a)=b by omega,eb]
 ·refine ⟨b+(m+1)-a,by omega,?_⟩
  rw [<- ea,<- lcg_add,show a+(b+(m+1)-a)=(m+1)+b by omega,lcg_add,R.2,eb]
noncomputable def roundB (m:Nat):Bool:=go (m+1) 0 (List.range (m+1)) where
 go:Nat->Nat->List Nat->Bool
  | 0,i,l=>i == 0&&l.isEmpty
  | f+1,i,l=>go f ((i*5+1) % (m+1)) (l.filter (· != i))
theorem roundB_go (m:Nat):∀ f q l,roundB.go m f (lcg m q 0) l=true->lcg m (q+f) 0=0/\∀ j∈l,∃ r,q<=r/\r<q+f/\lcg m r 0=j
 | 0,q,l,h=>by
  unfold roundB.go at h
  simp at h
  exact ⟨h.1,fun j hj=>by rw [h.2] at hj;cases hj⟩
 | f+1,q,l,h=>by
  unfold roundB.go at h
  obtain ⟨h1,h2⟩:=roundB_go m f (q+1) _ h
  refine ⟨by rw [<- h1];congr 1;omega,fun j hj=>?_⟩
  by_cases e:j=lcg m q 0
  ·exact ⟨q,Qf _,by omega,e.symm⟩
  ·obtain ⟨r,a,b,c⟩:=h2 j (List.mem_filter.mpr ⟨hj,by simpa using e⟩)
   exact ⟨r,by omega,by omega,c⟩
theorem round_of {m:Nat} (h:roundB m=true):Round m:=by
 obtain ⟨h1,h2⟩:=roundB_go m (m+1) 0 _ h
 refine ⟨fun j hj=>?_,by simpa using h1⟩
 obtain ⟨r,_,b,c⟩:=h2 j (List.mem_range.mpr (by omega))
 exact ⟨r,by omega,c⟩
theorem round7:Round 7:=round_of (by decide +kernel)
theorem round31:Round 31:=round_of (by decide +kernel)
theorem round127:Round 127:=round_of (by decide +kernel)
theorem run_all {m:Nat} (R:Round m) (h:Int) {j:Nat} (hj:j<=m):∃ r,r<=12+m/\(run m h r).1=j:=by
 obtain ⟨q,hq,e⟩:=R.all (run_le m h 12) hj
 exact ⟨12+q,by omega,by rw [run_lcg,e]⟩
theorem path_all {m:Nat} (R:Round m) (h:Int) {j:Nat} (hj:j<=m):∃ k,k<=10*(12+m)/\(path m h k).j=j:=by
 obtain ⟨r,hr,e⟩:=run_all R h hj
 obtain ⟨k,hk,ek⟩:=path_run m h r
 exact ⟨k,by omega,by rw [ek];exact e⟩
end L2
namespace L2
open PySem PySem.SetTable
theorem some_free:∀ (n:Nat) (l:List Nat),l.length<n->∃ j,j<n/\j∉l
 | 0,l,h=>absurd h (Nat.not_lt_zero _)
 | n+1,l,h=>by
  by_cases hn:n∈l
  ·have hp:0<l.length:=List.length_pos_of_mem hn
   obtain ⟨j,h1,h2⟩:=some_free n (l.erase n) (by rw [List.length_erase_of_mem hn];omega)
   exact ⟨j,by omega,fun z=>h2 ((List.mem_erase_of_ne (by omega)).mpr z)⟩
  ·exact ⟨n,by omega,hn⟩
theorem first_of {P:Nat->Prop}:∀ n,P n->∃ k,k<=n/\P k/\∀ k',k'<k->¬ P k':=by
 intro n
 induction n using Nat.strongRecOn with
 | ind n ih =>
  intro h
  by_cases hx:∃ k,k<n/\P k
  ·obtain ⟨k,h1,h2⟩:=hx
   obtain ⟨q,a,b,c⟩:=ih k h1 h2
   exact ⟨q,by omega,b,c⟩
  ·exact ⟨n,Qf _,h,fun k' hk hp=>hx ⟨k',hk,hp⟩⟩
section
variable {β:Type}
noncomputable def Occ (L:List (Nat × β)) (j:Nat):Prop:=∃ p∈L,p.1=j
theorem Occ.mono {L L':List (Nat × β)} {j:Nat} (h:Occ L j) (k:∀ p∈L,p∈L'):Occ L' j:=by obtain ⟨p,a,b⟩:=h;exact ⟨p,k p a,b⟩
theorem first_empty {m:Nat} (R:Round m) {L:List (Nat × β)} (hl:L.length<=m) (h:Int):∃ K,K<=10*(12+m)/\¬ Occ L (path m h K).j/\∀ k,k<K->Occ L (path m h k).j:=by
 obtain ⟨j,h1,h2⟩:=some_free (m+1) (L.map (·.1)) (by simp;omega)
 obtain ⟨k,hk,ek⟩:=path_all R h (by omega:j<=m)
 obtain ⟨K,a,b,c⟩:=first_of (P:=fun k=>¬ Occ L (path m h k).j) k fun hsl59=>by obtain ⟨p,hp,e⟩:=hsl59;exact h2 (by rw [<- ek,<- e];exact List.mem_map_of_mem hp)
 exact ⟨K,by omega,b,fun k' hk'=>Classical.byContradiction (c k' hk')⟩
theorem path_le (m:Nat) (h:Int) (k:Nat):(path m h k).j+(path m h k).more<=m/\(path m h k).i<=m:=by
 induction k with
 | zero =>
  have:=runEnd_le m _ (run_le m h 0)
  show (run m h 0).1+(runEnd m (run m h 0).1-(run m h 0).1)<=m/\(run m h 0).1<=m
  exact ⟨by omega,run_le m h 0⟩
 | succ k ih =>
  show (adv m (path m h k)).j+(adv m (path m h k)).more<=m/\(adv m (path m h k)).i<=m
  unfold adv
  split
  ·dsimp only;exact ⟨by omega,ih.2⟩
  ·dsimp only
   have hl:(leap m (path m h k).i (path m h k).perturb).1<=m:=Nat.le_of_lt_succ (Nat.mod_lt _ (Nat.succ_pos _))
   have:=runEnd_le m _ hl
   exact ⟨by omega,hl⟩
end
section
variable {α:Type} {t:SetTable} {es:Array (Int × α)} {L:List (Nat × (Int × α))}
noncomputable def Reach (m:Nat) (L:List (Nat × (Int × α))):Prop:=∀ p∈L,∃ k,(path m p.2.1 k).j=p.1/\∀ k',k'<k->Occ L (path m p.2.1 k').j
theorem Reach.ahead {m:Nat} (R:Reach m L) {h:Int} {K:Nat} (hK:¬ Occ L (path m h K).j) {p:Nat × (Int × α)} (hp:p∈L) (e:p.2.1=h):∃ k,k<K/\(path m h k).j=p.1:=by
 obtain ⟨k,h1,h2⟩:=R p hp
 rw [e] at h1 h2
 refine ⟨k,?_,h1⟩
 rcases Nat.lt_trichotomy k K with z | z | z
 ·exact z
 ·exact absurd ⟨p,hp,by rw [<- h1,z]⟩ hK
 ·exact absurd (h2 K z) hK
theorem Reach.cons {m:Nat} (R:Reach m L) {h:Int} {x:α} {K:Nat} {L':List (Nat × (Int × α))} (hp:L'.Perm (((path m h K).j,(h,x))::L)) (hb:∀ k,k<K->Occ L (path m h k).j):Reach m L':=fun p hp'=>by
 have sub:∀ q∈L,q∈L':=fun q hq=>hp.mem_iff.mpr (Qg _ hq)
 rcases Qn (hp.mem_iff.mp hp') with e | hq
 ·rw [e]
  exact ⟨K,rfl,fun k' hk=>(hb k' hk).mono sub⟩
 ·obtain ⟨k,a,b⟩:=R p hq
  exact ⟨k,a,fun k' hk=>(b k' hk).mono sub⟩
theorem probe_ok (T:Tbl t es L) {hashAt:Nat->Int} (hh:∀ i p,L[i]?=some p->hashAt i=p.2.1) {h:Int} {K:Nat} (hK:¬ Occ L (path t.mask h K).j) (hb:∀ k,k<K->Occ L (path t.mask h k).j):∀ fuel k,k<=K->K-k<fuel ->
  (∃ k1 i p,k<=k1/\k1<K/\SetTable.probe.go t hashAt h fuel (path t.mask h k)=some (.candidate (path t.mask h k1).j i (path t.mask h (k1+1)))/\L[i]?=some p/\p.1=(path t.mask h k1).j/\p.2.1=h/\∀ k',k<=k'->k'<k1->∀ q∈L,q.1=(path t.mask h k').j->q.2.1≠h) ∨
  (SetTable.probe.go t hashAt h fuel (path t.mask h k)=some (.empty (path t.mask h K).j none)/\∀ k',k<=k'->k'<K->∀ q∈L,q.1=(path t.mask h k').j->q.2.1≠h)
 | 0,k,hk,hf=>absurd hf (Nat.not_lt_zero _)
 | fuel+1,k,hk,hf=>by
  unfold SetTable.probe.go
  by_cases e:k=K
  ·subst e
   right
   rw [T.empty fun p hp z=>hK ⟨p,hp,z⟩,path_none]
   exact ⟨rfl,fun k' h1 h2=>by omega⟩
  ·obtain ⟨p,hp,ep⟩:=hb k (by omega)
   obtain ⟨i,hi⟩:=List.mem_iff_getElem?.mp hp
   rw [<- ep,T.live hi]
   dsimp only
   rw [hh i p hi]
   by_cases hq:p.2.1=h
   ·left
    rw [if_pos (by simpa using hq)]
    refine ⟨k,i,p,Qf _,by omega,?_,hi,ep,hq,fun k' h1 h2=>by omega⟩
    rw [adv_eq,ep]
    rfl
   ·rw [if_neg (by simpa using hq),adv_eq]
    have one:∀ q∈L,q.1=(path t.mask h k).j->q.2.1≠h:=fun q hqm eq=>by
     obtain ⟨i',hi'⟩:=List.mem_iff_getElem?.mp hqm
     have h1:=T.live hi
     have h2:=T.live hi'
     rw [eq,<- ep,h1] at h2
     cases h2
     rw [hi] at hi'
     cases hi'
     exact hq
    rcases probe_ok T hh hK hb fuel (k+1) (by omega) (by omega) with ⟨k1,i',p',a1,a2,a3,a4,a5,a6,a7⟩ | ⟨a1,a2⟩
    ·left
     refine ⟨k1,i',p',by omega,a2,a3,a4,a5,a6,fun k' h1 h2=>?_⟩
     by_cases z:k'=k
     ·rw [z];exact one
     ·exact a7 k' (by omega) h2
    ·right
     refine ⟨a1,fun k' h1 h2=>?_⟩
     by_cases z:k'=k
     ·rw [z];exact one
     ·exact a2 k' (by omega) h2
end
theorem free_ok {m:Nat} {h:Int} {owner:Array (Option Nat)}:∀ fuel r k,path m h k=runAt m (run m h r).1 (run m h r).2->(∃ r',r<=r'/\r'<r+fuel/\(owner.getD (run m h r').1 (some 0)).isNone=true) ->
  ∃ k1,k<=k1/\layClean.free m owner fuel (run m h r).1 (run m h r).2=some (path m h k1).j/\(owner.getD (path m h k1).j (some 0)).isNone=true/\∀ k',k<=k'->k'<k1->(owner.getD (path m h k').j (some 0)).isNone=false
 | 0,r,k,e,⟨r',h1,h2,_⟩=>by omega
 | fuel+1,r,k,e,⟨r',h1,h2,h3⟩=>by
  have hr:=runEnd_le m _ (run_le m h r)
  unfold layClean.free
  cases hf:(List.range (runEnd m (run m h r).1+1-(run m h r).1)).find? fun k=>(owner.getD ((run m h r).1+k) (some 0)).isNone with
  | some d =>
   obtain ⟨a,b,c⟩:=List.find?_range_eq_some.mp hf
   have hd:d<=runEnd m (run m h r).1-(run m h r).1:=by have:=List.mem_range.mp b;omega
   refine ⟨k+d,by omega,?_,?_,fun k' g1 g2=>?_⟩
   ·rw [path_in m h e d hd]
   ·rw [path_in m h e d hd];exact a
   ·have:=path_in m h e (k'-k) (by omega)
    rw [show k+(k'-k)=k' by omega] at this
    rw [this]
    simpa using c (k'-k) (by omega)
  | none =>
   have c:=List.find?_range_eq_none.mp hf
   dsimp only
   have en:path m h (k+(runEnd m (run m h r).1-(run m h r).1)+1)=runAt m (run m h (r+1)).1 (run m h (r+1)).2:=by
    show adv m (path m h _)=_
    rw [path_in m h e _ (Qf _)]
    unfold adv
    rw [if_neg (by dsimp only;omega)]
    rfl
   have hne:r'≠r:=fun z=>by
    subst z
    have:=c 0 (by omega)
    rw [Nat.add_zero,h3] at this
    cases this
   obtain ⟨k1,g1,g2,g3,g4⟩:=free_ok fuel (r+1) _ en ⟨r',by omega,by omega,h3⟩
   refine ⟨k1,by omega,g2,g3,fun k' q1 q2=>?_⟩
   by_cases hk:k'<=k+(runEnd m (run m h r).1-(run m h r).1)
   ·have:=path_in m h e (k'-k) (by omega)
    rw [show k+(k'-k)=k' by omega] at this
    rw [this]
    simpa using c (k'-k) (by omega)
   ·exact g4 k' (by omega) q2
structure LayOk (m:Nat) (hs:List Int) (owner:Array (Option Nat)) (L:List (Nat × Nat)):Prop where
 sz:owner.size=m+1
 own:∀ j q,owner[j]?=some (some q)↔(j,q)∈L
 ix:L.map (·.2)=List.range hs.length
 le:∀ p∈L,p.1<=m
 nd:(L.map (·.1)).Nodup
 rc:∀ p∈L,∀ h,hs[p.2]?=some h->∃ k,(path m h k).j=p.1/\∀ k',k'<k->Occ L (path m h k').j
noncomputable def layStep (m:Nat) (acc:Option (Array (Option Nat) × Nat)) (h:Int):Option (Array (Option Nat) × Nat):=do
 let (owner,k) <- acc
 let j <- layClean.free m owner (turns m) (bits h % (m+1)) (bits h)
 pure (owner.setIfInBounds j (some k),k+1)
theorem lay_one {m:Nat} (R:Round m) {hs:List Int} {owner:Array (Option Nat)} {L:List (Nat × Nat)} (T:LayOk m hs owner L) (h:Int) (hl:hs.length<m+1) :
  ∃ owner' L',layStep m (some (owner,hs.length)) h=some (owner',hs.length+1)/\LayOk m (hs++[h]) owner' L':=by
 have hL:L.length=hs.length:=by have:=congrArg List.length T.ix;simpa using this
 have free_iff:∀ j,j<=m->((owner.getD j (some 0)).isNone=true↔¬ Occ L j):=fun j hj=>by
  have e:owner[j]?=some (owner[j]'(by rw [T.sz];omega)):=Array.getElem?_eq_getElem _
  rw [Array.getD_eq_getD_getElem?,e]
  show (owner[j]'(by rw [T.sz];omega)).isNone=true↔_
  constructor
  ·rintro hn ⟨p,hp,ep⟩
   have:=(T.own p.1 p.2).mpr hp
   rw [ep,e] at this
   have:=Qr this
   rw [this] at hn
   cases hn
  ·intro ho
   cases hc:owner[j]'(by rw [T.sz];omega) with
   | none=>rfl
   | some q=>exact absurd ⟨(j,q),(T.own j q).mp (by rw [e,hc]),rfl⟩ ho
 obtain ⟨j,h1,h2⟩:=some_free (m+1) (L.map (·.1)) (by simp;omega)
 obtain ⟨r,hr,er⟩:=run_all R h (by omega:j<=m)
 have hfr:(owner.getD (run m h r).1 (some 0)).isNone=true:=(free_iff _ (run_le m h r)).mpr fun hsl60=>by obtain ⟨p,hp,e⟩:=hsl60;exact h2 (by rw [<- er,<- e];exact List.mem_map_of_mem hp)
 obtain ⟨k1,_,g2,g3,g4⟩:=free_ok (m:=m) (h:=h) (owner:=owner) (turns m) 0 0 rfl ⟨r,Qp _,by unfold turns;omega,hfr⟩
 have hj:(path m h k1).j<=m:=by have:=(path_le m h k1).1;omega
 have hno:¬ Occ L (path m h k1).j:=(free_iff _ hj).mp g3
 refine ⟨owner.setIfInBounds (path m h k1).j (some hs.length),L++[((path m h k1).j,hs.length)],?_,⟨?_,?_,?_,?_,?_,?_⟩⟩
 ·unfold layStep
  show (layClean.free m owner (turns m) (run m h 0).1 (run m h 0).2 >>= _)=_
  rw [g2]
  rfl
 ·simp [T.sz]
 ·intro j q
  rw [Array.getElem?_setIfInBounds]
  by_cases e:(path m h k1).j=j
  ·rw [if_pos e]
   rw [if_pos (by rw [T.sz];omega)]
   constructor
   ·intro z
    cases z
    rw [<- e]
    simp
   ·intro z
    rcases Qt z with z | z
    ·exact absurd ⟨_,z,e.symm⟩ hno
    ·simp at z
     rw [z.2]
  ·rw [if_neg e,T.own]
   constructor
   ·exact fun z=>List.mem_append.mpr (.inl z)
   ·intro z
    rcases Qt z with z | z
    ·exact z
    ·simp at z
     exact absurd z.1.symm e
 ·rw [QI,T.ix]
  simp [List.range_succ]
 ·intro p hp
  rcases Qt hp with z | z
  ·exact T.le p z
  ·simp at z
   rw [z];exact hj
 ·rw [QI,List.nodup_append]
  refine ⟨T.nd,by simp,fun a ha b hb=>?_⟩
  simp at hb
  intro z
  obtain ⟨p,hp,ep⟩:=QF ha
  exact hno ⟨p,hp,by rw [ep,z,hb]⟩
 ·intro p hp h' hh
  rcases Qt hp with z | z
  ·have hq:p.2<hs.length:=by
    have:p.2∈L.map (·.2):=List.mem_map_of_mem z
    rw [T.ix] at this
    exact List.mem_range.mp this
   rw [Qz hq] at hh
   obtain ⟨k,a,b⟩:=T.rc p z h' hh
   exact ⟨k,a,fun k' hk=>(b k' hk).mono fun q hq=>List.mem_append.mpr (.inl hq)⟩
  ·simp at z
   subst z
   rw [Qx (Qf _)] at hh
   simp at hh
   subst hh
   refine ⟨k1,rfl,fun k' hk=>?_⟩
   have hjk:(path m h k').j<=m:=by have:=(path_le m h k').1;omega
   have g:=g4 k' (Qp _) hk
   refine Occ.mono (Classical.byContradiction fun z=>?_) fun q hq=>List.mem_append.mpr (.inl hq)
   have:=(free_iff _ hjk).mpr z
   rw [g] at this
   cases this
theorem lay_fold {m:Nat} (R:Round m):∀ (rest hs:List Int) (owner:Array (Option Nat)) (L:List (Nat × Nat)),LayOk m hs owner L->hs.length+rest.length<=m+1->∃ owner' L',rest.foldl (layStep m) (some (owner,hs.length))=some (owner',hs.length+rest.length)/\LayOk m (hs++rest) owner' L'
 | [],hs,owner,L,T,_=>⟨owner,L,rfl,by simpa using T⟩
 | h::rest,hs,owner,L,T,hl=>by
  obtain ⟨o1,L1,e1,T1⟩:=lay_one R T h (by simp at hl;omega)
  obtain ⟨o2,L2,e2,T2⟩:=lay_fold R rest (hs++[h]) o1 L1 T1 (by simp at hl ⊢;omega)
  refine ⟨o2,L2,?_,by simpa using T2⟩
  rw [List.foldl_cons,e1]
  rw [QB,List.length_singleton] at e2
  rw [e2]
  simp;omega
theorem lay_ok {m:Nat} (R:Round m) (hs:Array Int) (hl:hs.size<=m+1):∃ owner L,layClean m hs=some owner/\LayOk m hs.toList owner L:=by
 have T0:LayOk m [] (Array.replicate (m+1) none) []:=by
  refine ⟨by simp,fun j q=>?_,rfl,fun p hp=>(nomatch hp),.nil,fun p hp=>(nomatch hp)⟩
  rw [Array.getElem?_replicate]
  constructor
  ·intro z
   split at z<;>cases z
  ·intro z
   cases z
 obtain ⟨o,L,e,T⟩:=lay_fold R hs.toList [] _ [] T0 (by simpa using hl)
 refine ⟨o,L,?_,by simpa using T⟩
 unfold layClean
 rw [<- Array.foldl_toList]
 show Option.map _ (hs.toList.foldl (layStep m) (some (Array.replicate (m+1) none,([]:List Int).length)))=_
 rw [e]
 rfl
section
variable {α:Type} {t:SetTable} {es:Array (Int × α)} {L:List (Nat × (Int × α))}
theorem relay_ok {m:Nat} (R:Round m) {finger moves:Nat} {led plain:Bool} (hl:es.size<=m):∃ t' order L',SetTable.laid m finger moves led plain (es.map (·.1))=some (t',order)/\Tbl t' (order.filterMap (es[·]?)) L'/\(L'.map (·.2)).Perm es.toList/\Reach m L'/\t'.mask=m/\t'.led=led/\t'.plain=plain/\t'.moves=moves:=by
 obtain ⟨owner,L,e,T⟩:=lay_ok R (es.map (·.1)) (by simp;omega)
 have hix:L.map (·.2)=List.range es.size:=by rw [T.ix];simp
 let live:=(List.range (m+1)).filterMap fun j=>(owner.getD j none).map (j,·)
 have hmem:∀ p,p∈live↔p∈L:=fun p=>by
  rw [<- T.own p.1 p.2]
  constructor
  ·intro h
   obtain ⟨j,hj,ej⟩:=List.mem_filterMap.mp h
   obtain ⟨q,eq,ep⟩:=Option.map_eq_some_iff.mp ej
   subst ep
   rw [Array.getD_eq_getD_getElem?] at eq
   show owner[j]?=some (some q)
   cases ho:owner[j]? with
   | none=>rw [ho] at eq;cases eq
   | some v=>rw [ho] at eq;rw [show v=some q from eq]
  ·intro h
   have hj:p.1<owner.size:=(Array.getElem?_eq_some_iff.mp h).1
   exact List.mem_filterMap.mpr ⟨p.1,List.mem_range.mpr (by rw [<- T.sz];exact hj),by rw [Array.getD_eq_getD_getElem?,h];rfl⟩
 have hup:live.Pairwise fun a b=>a.1<b.1:=by
  refine List.Pairwise.filterMap (R:=(·<·)) _ (fun a a' haa b hb b' hb'=>?_) List.pairwise_lt_range
  obtain ⟨_,_,e1⟩:=Option.map_eq_some_iff.mp hb
  obtain ⟨_,_,e2⟩:=Option.map_eq_some_iff.mp hb'
  rw [<- e1,<- e2]
  exact haa
 have hnd:live.Nodup:=hup.imp fun h z=>by rw [z] at h;exact Nat.lt_irrefl _ h
 have hndL:L.Nodup:=by
  have h2:L.Pairwise fun a b=>a.1≠b.1:=List.pairwise_map.mp T.nd
  exact h2.imp fun h z=>h (by rw [z])
 have hperm:live.Perm L:=(List.perm_ext_iff_of_nodup hnd hndL).mpr hmem
 have hq:∀ p∈live,p.2<es.size:=fun p hp=>by
  have:p.2∈L.map (·.2):=List.mem_map_of_mem ((hmem p).mp hp)
  rw [hix] at this
  exact List.mem_range.mp this
 by_cases hne:es.size=0
 ·have hlv:live=[]:=by
   cases hc:live with
   | nil=>rfl
   | cons p r=>have:=hq p (by rw [hc];exact Qk);omega
  have hes:es=#[]:=Array.eq_empty_of_size_eq_zero hne
  refine ⟨_,_,[],by unfold SetTable.laid;rw [e];rfl,⟨?_,?_,.nil,rfl,fun p hp=>(nomatch hp),Qp _⟩,?_,fun p hp=>(nomatch hp),rfl,rfl,rfl,rfl⟩
  ·show ((live.map (·.1)).toArray).toList=_
   rw [hlv];rfl
  ·show (Array.filterMap _ (live.map (·.2)).toArray).toList=_
   rw [hlv];simp
  ·rw [hes];exact .refl _
 have hpos:0<es.size:=by omega
 let d:=es[0]'hpos
 let f:Nat × Nat->Nat × (Int × α):=fun p=>(p.1,es.getD p.2 d)
 have hf:∀ p∈live,es[p.2]?=some (f p).2:=fun p hp=>by
  have h:=hq p hp
  show _=some (es.getD p.2 d)
  rw [Array.getD_eq_getD_getElem?,Array.getElem?_eq_getElem h]
  rfl
 refine ⟨_,_,live.map f,by unfold SetTable.laid;rw [e];rfl,⟨?_,?_,?_,rfl,fun p hp=>?_,?_⟩,?_,fun p hp=>?_,rfl,rfl,rfl,rfl⟩
 ·show ((live.map (·.1)).toArray).toList=_
  rw [List.map_map];rfl
 ·show (Array.filterMap _ (live.map (·.2)).toArray).toList=_
  rw [Array.toList_filterMap,List.filterMap_map,List.map_map]
  have:∀ l:List (Nat × Nat),(∀ p∈l,es[p.2]?=some (f p).2)->l.filterMap ((fun x=>es[x]?)∘fun x=>x.2)=l.map ((fun x=>x.2)∘f):=by
   intro l
   induction l with
   | nil=>intro _;rfl
   | cons p l ih =>
    intro h
    have e1:((fun x=>es[x]?)∘fun x:Nat × Nat=>x.2) p=some (f p).2:=h p Qk
    rw [List.filterMap_cons_some e1,ih fun q hq=>h q (Qg _ hq)]
    rfl
  exact this live hf
 ·rw [List.map_map]
  exact List.pairwise_map.mpr (hup.imp fun h=>h)
 ·obtain ⟨q,h1,rfl⟩:=QF hp
  exact T.le q ((hmem q).mp h1)
 ·show (live.map f).length<=m
  have h1:=congrArg List.length hix
  simp at h1
  rw [Qi,hperm.length_eq,h1]
  exact hl
 ·rw [List.map_map]
  refine (hperm.map _).trans ?_
  have:L.map ((fun x=>x.2)∘f)=(L.map (·.2)).map fun q=>es.getD q d:=by rw [List.map_map];rfl
  rw [this,hix]
  have:(List.range es.size).map (fun q=>es.getD q d)=es.toList:=by
   refine List.ext_getElem? fun i=>?_
   rw [Ql]
   by_cases hi:i<es.size
   ·rw [List.getElem?_range hi,Array.getElem?_toList,Array.getElem?_eq_getElem hi]
    simp [Array.getD,hi]
   ·rw [List.getElem?_eq_none (by simp;omega),List.getElem?_eq_none (by simp;omega)]
    rfl
  rw [this]
 ·obtain ⟨q,h1,rfl⟩:=QF hp
  have hqs:=hq q h1
  obtain ⟨k,a,b⟩:=T.rc q ((hmem q).mp h1) (f q).2.1 (by
   rw [Array.getElem?_toList,Array.getElem?_map,hf q h1];rfl)
  refine ⟨k,a,fun k' hk=>?_⟩
  obtain ⟨z,hz,ez⟩:=b k' hk
  exact ⟨f z,List.mem_map_of_mem ((hmem z).mpr hz),ez⟩
end
end L2
namespace L2
open PySem PySem.Spec PyProof.Rows
section
variable {prog:Program} {w:World} {A:Around} {R:Result->Shared->Prop} {I:Addr} {fp wr:List Addr} {G:Array GenState->Array GenState->Prop} {n:Nat} {P:Nat->Value->Prop} {St:Nat->Shared->Prop}
end
noncomputable abbrev newSet (led:Bool):Obj:={ cls:=.type "set",dict:=none,data:=.set #[] 0 (.fresh 0 0 led) }
section
variable {prog:Program} {w:World} {A:Around} {E:Value->Shared->Prop} {s:Shared}
end
section
variable {X:Cx}
end
end L2
namespace L2
open PySem PySem.Spec PyProof.Rows
section
variable {prog:Program} {w:World}
end
section
variable {prog:Program} {w:World} {A:Around} {R:Result->Shared->Prop} {I:Addr} {fp wr:List Addr} {G:Array GenState->Array GenState->Prop} {n:Nat} {P:Nat->Value->Prop} {St:Nat->Shared->Prop}
end
noncomputable def byTxt (w:World):Bool:=w.params.followText "set-order"
section
variable {prog:Program} {w:World} {A:Around} {E:Value->Shared->Prop} {s:Shared}
open PySem in
theorem code_set_newL (a:Value) {Q₁:Value->Shared->Prop} (h:Q₁ (.ref s.heap.objs.size) { s with heap:=s.heap.push (newSet (!byTxt w)) }) :
  codeAny (model prog w) A (.call (.builtin "set.__new__") ⟨[.type "set",a],[]⟩) (wants Q₁ E) s:=by
 refine codeAny_of_tree ?_
 show wpAny _ A.in1 (do checkBuiltinCall "set.__new__" ⟨[.type "set",a],[]⟩;again (.builtin "set.__new__" ⟨[.type "set",a],[]⟩)) _ _ s
 refine Qa (wpAny_of_eq (F.newCall_set_1 a) (Qc ⟨plainId_quiet F.plain_set_new _,codeAny_builtin F.entry_set_new ?_⟩))
 rw [Around.under_plainId F.plain_set_new _]
 unfold Builtin.«set.__new__» Builtin.Frozenset.newClass
 have hsub:=sub_set_self
 obtain ⟨hp,g,d,tk,os⟩:=s
 dsimp only
 wp_walk
 refine wpAny_askSetting (Qc ?_)
 dsimp only
 simp only [newObj]
 exact Qa (wpAny_alloc (Qc (Qc h)))
end
section
variable {prog:Program} {w:World} {A:Around} {E:Value->Shared->Prop} {s:Shared}
end
end L2
namespace L2
open PySem PySem.Spec PyProof.Rows
section
variable {X:Cx}
end
theorem erase_perm {α:Type}:∀ (xs:List α) (i:Nat) (x:α),xs[i]?=some x->List.Perm (x::xs.eraseIdx i) xs
 | [],i,x,h=>by simp at h
 | a::xs,0,x,h=>by cases h;exact .refl _
 | a::xs,i+1,x,h=>by
  have:=erase_perm xs i x (by simpa using h)
  simp only [List.eraseIdx_cons_succ]
  exact (List.Perm.swap a x _).trans (this.cons a)
section
variable {prog:Program} {w:World} {A:Around} {E:Value->Shared->Prop}
theorem choose_ok {src:Source} {n:Nat} {s:Shared} {Q:Nat->Shared->Prop} (hn:n≠0) (h:∀ i d',i<n->Q i { s with drawn:=d' }):wpAny (model prog w) A (choose src n) Q E s :=
 fun _ _ _=>⟨hn,h _ _ (Nat.mod_lt _ (Nat.pos_of_ne_zero hn))⟩
theorem draw_ok {α:Type}:∀ (n:Nat) (xs:List α) (s:Shared) (Q:List α->Shared->Prop),n=xs.length->(∀ ys d',List.Perm ys xs->Q ys { s with drawn:=d' })->wpAny (model prog w) A (drawOrder n xs) Q E s
 | 0,xs,s,Q,hn,h=>by
  have:xs=[]:=by cases xs with | nil=>rfl | cons _ _=>simp at hn
  subst this
  exact Qc (h [] s.drawn (.refl _))
 | n+1,[],s,Q,hn,h=>by simp at hn
 | n+1,a::xs,s,Q,hn,h=>by
  unfold drawOrder
  refine Qa (choose_ok (by simp) fun i d' hi=>?_)
  have e:(a::xs)[i]?=some (a::xs)[i]:=Qb hi
  rw [e]
  refine Qa (draw_ok n _ _ _ (by rw [List.length_eraseIdx_of_lt hi];simp at hn ⊢;omega) fun ys d'' hp=>Qc ?_)
  exact h _ _ ((hp.cons _).trans (erase_perm _ i _ e))
end
end L2
namespace L2
open PySem PySem.Spec PyProof.Rows
theorem slot_si_next:Slot "set_iterator" "__next__" "set_iterator.__next__" :=
 .of (owner:="set_iterator") (n:="__next__") (by rw [typeLookup_type,builtinLookup_eq_fast];kernel_rfl) (by decide +kernel) (by decide +kernel) (by decide +kernel)
  (by first | exact .inl (by decide +kernel) | exact .inr (by decide +kernel)) (by rw [isSubtype_type];kernel_rfl)
theorem slot_si_iter:Slot "set_iterator" "__iter__" "set_iterator.__iter__" :=
 .of (owner:="set_iterator") (n:="__iter__") (by rw [typeLookup_type,builtinLookup_eq_fast];kernel_rfl) (by decide +kernel) (by decide +kernel) (by decide +kernel)
  (by first | exact .inl (by decide +kernel) | exact .inr (by decide +kernel)) (by rw [isSubtype_type];kernel_rfl)
theorem entry_si_next:entryFor table "set_iterator.__next__"=some Builtin.«set_iterator.__next__»:=entryFor_of_tree (by kernel_rfl)
theorem entry_s_iter:entryFor table "set.__iter__"=some Builtin.«frozenset.__iter__» :=
 entryFor_alias (id':="frozenset.__iter__") (by kernel_rfl) rfl (by decide +kernel) (by kernel_rfl)
theorem args_si_next (a:Value):argsOk "set_iterator.__next__" ⟨[a],[]⟩:=by
 unfold argsOk
 kernel_rfl
theorem pick_go {α:Type} (next:Nat->Nat):∀ (n k:Nat) (xs:List α) (out:Array α),n=xs.length->List.Perm (pickOrder.go next n k xs out).toList (out.toList++xs)
 | 0,k,xs,out,hn=>by
  have:xs=[]:=by cases xs with | nil=>rfl | cons _ _=>simp at hn
  subst this
  simp [pickOrder.go]
 | n+1,k,xs,out,hn=>by
  have hp:0<xs.length:=by omega
  have hi:next k % xs.length<xs.length:=Nat.mod_lt _ hp
  have e:xs[next k % xs.length]?=some xs[next k % xs.length]:=Qb hi
  rw [pickOrder.go,e]
  dsimp only
  refine (pick_go next n (k+1) _ _ (by rw [List.length_eraseIdx_of_lt hi];omega)).trans ?_
  rw [Array.toList_push,List.append_assoc]
  exact (erase_perm xs _ _ e).append_left _
theorem pick_perm {α:Type} (next:Nat->Nat) (xs:Array α):List.Perm (pickOrder next xs).toList xs.toList:=by
 have:=pick_go next xs.size 0 xs.toList #[] (by simp)
 simpa [pickOrder] using this
noncomputable def tpObj (ys:List Nat):Obj:={ cls:=.type "tuple",data:=.seq (ys.map fun (i:Nat)=>Value.int (i:Int) 0).toArray }
noncomputable def siObj (first:Value) (i:Nat) (S:Addr) (n ep:Nat):Obj:={ cls:=.type "set_iterator",data:=.fields #[first,.int i 0,.ref S,.int n 0,.int ep 0] }
structure SW (w:World) (h:Heap) (S:Addr) (o:Obj) (es:Array (Int × Value)) (ep:Nat) (t:SetTable):Prop where
 ob:h.get? S=some o
 ex:o.ExactSet
 da:o.data=.set es ep t
 ft:t.fits es.size=true
 ld:t.led=!byTxt w
 pl:es.size=0∨t.plain=false
theorem SW.at {w:World} {h h':Heap} {S:Addr} {o:Obj} {es:Array (Int × Value)} {ep:Nat} {t:SetTable} (T:SW w h S o es ep t) (k:∀ o,h.get? S=some o->h'.get? S=some o):SW w h' S o es ep t:=⟨k o T.ob,T.ex,T.da,T.ft,T.ld,T.pl⟩
section
variable {prog:Program} {w:World} {A:Around} {E:Value->Shared->Prop} {s:Shared} {S:Addr} {zs:List Str} {o:Obj} {es:Array (Int × Value)} {ep:Nat} {t:SetTable}
theorem SW.typeIs (T:SW w s.heap S o es ep t):s.TypeIs (.ref S) "set":=⟨o,T.ob,T.ex.1⟩
theorem set_iter {Q:Value->Shared->Prop} (T:SW w s.heap S o es ep t) (hn:es.size<=1000)
  (h1:byTxt w=true∨es.size<=1->Q (.ref s.heap.objs.size) { s with heap:=s.heap.push (siObj (.int 0 0) 0 S es.size ep) })
  (h2:byTxt w=false->1<es.size->∀ (ys:List Nat) d',List.Perm ys (List.range es.size)->Q (.ref (s.heap.push (tpObj ys)).objs.size) { s with heap:=(s.heap.push (tpObj ys)).push (siObj (.ref s.heap.objs.size) 0 S es.size ep),drawn:=d' }) :
  wpAny (model prog w) A (pyIter (.ref S)) Q E s:=by
 refine wpAny_pyIter_slot T.typeIs PySem.F.slot_set_iter (wpAny_call_entry PySem.F.slot_set_iter T.typeIs entry_s_iter ?_ (PySem.F.args_set_iter_1 _))
 unfold Builtin.«frozenset.__iter__»
 refine Qa (wpAny_of_eq (a:=S) (by rfl) ?_)
 unfold Builtin.Frozenset.sizeOf
 refine Qa (Qa (wpAny_setEntries_of T.ob T.da T.ft (Qc ?_)))
 unfold setDrawn setsByText
 refine Qa (Qa (wpAny_setState_of T.ob T.da T.ft (Qa (Qa (wpAny_askSetting (Qc (Qc ?_)))))))
 show wpAny _ _ (if (!byTxt w&&(!t.plain&&decide (es.size>1)))=true then _ else _) _ _ _
 have fin:∀ (first:Value) (s1:Shared),s1.heap.get? S=some o->Q (.ref s1.heap.objs.size) { s1 with heap:=s1.heap.push (siObj first 0 S es.size ep) } ->
   wpAny (model prog w) A.in1 (do
    let e <- setEpoch S
    let x <- newFields "set_iterator" [first,rawInt 0,Value.ref S,rawInt (es.size:Nat),rawInt (e:Nat)]
    ret x) (fun fin s'=>∃ v,fin=.done (.ret v)/\∃ T' r,s'.TypeIs v T'/\typeLookup (.type T') "__next__"=pure (some r)/\Q v s') E s1:=fun first s1 ho q=>by
  refine Qa (wpAny_setEpoch_of ho T.da T.ft ?_)
  exact Qa (wpAny_newObj_type (Qc ⟨_,rfl,"set_iterator",_,⟨_,Qo _ rfl,rfl⟩,slot_si_next.lookup,q⟩))
 by_cases hb:byTxt w=true
 ·rw [hb]
  simp only [Bool.not_true,Bool.false_and,Bool.false_eq_true,if_false]
  refine Qa (Qc ?_)
  exact fin (rawInt 0) s T.ob (h1 (.inl hb))
 ·have hb:byTxt w=false:=by simpa using hb
  by_cases hz:es.size<=1
  ·rw [show decide (es.size>1)=false from Qj (by omega)]
   simp only [Bool.and_false,Bool.false_eq_true,if_false]
   refine Qa (Qc ?_)
   exact fin (rawInt 0) s T.ob (h1 (.inr hz))
  ·have hp:t.plain=false:=by
    rcases T.pl with h | h
    ·omega
    ·exact h
   rw [hb,hp,show decide (es.size>1)=true from Qw (by omega)]
   simp only [Bool.not_false,Bool.and_self,if_true]
   refine Qa (draw_ok es.size (List.range es.size) s _ (by simp) fun ys d' hy=>?_)
   simp only [newTuple]
   refine Qa (wpAny_newObj_type ?_ ?_)
   ·exact fin _ _ (Qd _ T.ob) (h2 hb (by omega) ys d' hy)
   ·have hl:ys.length=es.size:=by rw [hy.length_eq];simp
    show (ys.map fun (i:Nat)=>rawInt (i:Int)).toArray.size<=sizeLine
    rw [Qm,Qi,hl]
    exact Nat.le_of_lt (small1000 hn)
end
end L2
namespace L2
open PySem PySem.Spec PyProof.Rows
section
variable {prog:Program} {w:World} {A:Around} {E:Value->Shared->Prop} {s:Shared} {S I:Addr} {o:Obj} {es:Array (Int × Value)} {ep:Nat} {t:SetTable}
theorem si_type {first:Value} {i n:Nat} (hI:s.heap.get? I=some (siObj first i S n ep)):s.TypeIs (.ref I) "set_iterator":=⟨_,hI,rfl⟩
theorem sn_text {Q:Option (Value × Nat)->Shared->Prop} {slot i:Nat} (hb:byTxt w=true) (T:SW w s.heap S o es ep t) (h:Q (((pickOrder (w.params.setOrder S ep) es)[i]?).map fun e=>(e.2,slot)) s):wpAny (model prog w) A (setNext S slot i ep) Q E s:=by
 have hb':w.params.followText "set-order"=true:=hb
 unfold setNext setsByText
 refine Qa (wpAny_setState_of T.ob T.da T.ft ?_)
 dsimp only
 refine Qa (Qa (wpAny_askSetting (Qc ?_)))
 rw [if_pos (show (model prog w).w.params.followText "set-order"=true from hb')]
 rw [if_neg (by simp)]
 unfold setWalk setsByText
 refine Qa (Qa (wpAny_setState_of T.ob T.da T.ft ?_))
 dsimp only
 refine Qa (Qa (wpAny_askSetting (Qc ?_)))
 rw [if_pos (show (model prog w).w.params.followText "set-order"=true from hb')]
 exact Qa (wpAny_askSetting (Qc (Qc h)))
theorem sn_one {Q:Option (Value × Nat)->Shared->Prop} {slot i:Nat} (hb:byTxt w=false) (hz:es.size<=1) (T:SW w s.heap S o es ep t) (h:Q (match es[SetTable.below t.place slot]?,t.place[SetTable.below t.place slot]? with
  | some (_,x),some j=>some (x,j+1)
  | _,_=>none) s):wpAny (model prog w) A (setNext S slot i ep) Q E s:=by
 have hb':w.params.followText "set-order"=false:=hb
 unfold setNext setsByText
 refine Qa (wpAny_setState_of T.ob T.da T.ft ?_)
 dsimp only
 refine Qa (Qa (wpAny_askSetting (Qc ?_)))
 rw [if_neg (show ¬ (model prog w).w.params.followText "set-order"=true by show ¬ w.params.followText "set-order"=true;rw [hb'];decide)]
 show wpAny _ _ (if (!t.plain&&decide (es.size>1))=true then _ else _) _ _ _
 rw [show decide (es.size>1)=false from Qj (by omega),Bool.and_false,if_neg (by decide)]
 show wpAny _ _ ((if (!t.led&&!es.isEmpty)=true then unsupported _ else pure PUnit.unit) >>= _) _ _ _
 rw [T.ld,hb]
 exact Qa (Qc (Qc h))
theorem si_item {Q:Option Value->Shared->Prop} {slot i nx:Nat} {x:Value} (hI:s.heap.get? I=some (siObj (.int slot 0) i S es.size ep)) (T:SW w s.heap S o es ep t)
  (hsn:∀ (A:Around) (E:Value->Shared->Prop) (Q:Option (Value × Nat)->Shared->Prop),Q (some (x,nx)) s->wpAny (model prog w) A (setNext S slot i ep) Q E s)
  (hQ:∀ h',h'.get? I=some (siObj (.int nx 0) (i+1) S es.size ep)->Heap.SameBut I s.heap h'->Q (some x) { s with heap:=h' }):wpAny (model prog w) A (pyNext (.ref I)) Q E s:=by
 have hT:=si_type hI
 unfold pyNext
 refine Qa (wpAny_attempt (wpAny_callSpecial?_slot (name:=Str.ofString "__next__") hT slot_si_next (wpAny_call_entry slot_si_next hT entry_si_next ?_ (args_si_next _))))
 unfold Builtin.«set_iterator.__next__»
 refine Qa (Qc (Qa (wpAny_fieldsOf hI rfl ?_)))
 show wpAny _ _ (setEntries S >>= _) _ _ _
 refine Qa (wpAny_setEntries_of T.ob T.da T.ft ?_)
 rw [if_neg (by simp)]
 show wpAny _ _ (setNext S (slot:Int).toNat (i:Int).toNat (ep:Int).toNat >>= _) _ _ _
 simp only [Int.toNat_natCast]
 refine Qa (hsn _ _ _ ?_)
 dsimp only
 refine Qa (wpAny_setField hI rfl (by simp) ?_)
 have h1:(s.heap.update I (Obj.mapFields (·.setIfInBounds 0 (rawInt (nx:Nat))))).get? I=some (siObj (.int nx 0) i S es.size ep):=Heap.get?_update_self _ hI rfl
 refine Qa (wpAny_setField (s:={ s with heap:=s.heap.update I (Obj.mapFields (·.setIfInBounds 0 (rawInt (nx:Nat)))) }) h1 rfl (by simp) ?_)
 refine Qc ⟨_,rfl,Qc (hQ _ (Heap.get?_update_self _ h1 rfl) ?_)⟩
 exact (Heap.SameBut.update ..).trans (Heap.SameBut.update ..)
theorem si_end {Q:Option Value->Shared->Prop} {slot i:Nat} (hh:A.handled=none) (hI:s.heap.get? I=some (siObj (.int slot 0) i S es.size ep)) (T:SW w s.heap S o es ep t)
  (hsn:∀ (A:Around) (E:Value->Shared->Prop) (Q:Option (Value × Nat)->Shared->Prop),Q none s->wpAny (model prog w) A (setNext S slot i ep) Q E s)
  (hQ:∀ h',Heap.ExtBut I s.heap h'->Q none { s with heap:=h' }):wpAny (model prog w) A (pyNext (.ref I)) Q E s:=by
 have hT:=si_type hI
 unfold pyNext
 refine Qa (wpAny_attempt (wpAny_callSpecial?_slot (name:=Str.ofString "__next__") hT slot_si_next (wpAny_call_entry slot_si_next hT entry_si_next ?_ (args_si_next _))))
 unfold Builtin.«set_iterator.__next__»
 refine Qa (Qc (Qa (wpAny_fieldsOf hI rfl ?_)))
 show wpAny _ _ (setEntries S >>= _) _ _ _
 refine Qa (wpAny_setEntries_of T.ob T.da T.ft ?_)
 rw [if_neg (by simp)]
 show wpAny _ _ (setNext S (slot:Int).toNat (i:Int).toNat (ep:Int).toNat >>= _) _ _ _
 simp only [Int.toNat_natCast]
 refine Qa (hsn _ _ _ ?_)
 dsimp only
 refine Qa (wpAny_setField hI rfl (by simp) ?_)
 refine Qa ?_
 simp only [newExc,newTuple]
 refine Qa (wpAny_newObj_type (Qa (m:=firstArgMember _ _) (wpAny_of_eq (a:=Value.none) (by first | rfl | (simp only [firstArgMember];rfl)) (wpAny_newObj_type ?_ (by size_fits)))) (by size_fits))
 simp only [raiseNew]
 refine Qa (wpAny_handled ?_)
 rw [show A.in1.handled=none from hh]
 refine (Qa (Qc (wpAny_throw ?_)))
 refine (Qa (wpAny_isInstance (T:="StopIteration") (b:=true) ⟨_,Qo _ rfl,rfl⟩ isSubtype_stop (Qc (hQ _ ?_))))
 exact ((Heap.SameBut.update ..).extBut.push _).push _
theorem sd_item {Q:Option Value->Shared->Prop} {i:Nat} {P:Addr} {ys:List Nat} {y:Nat} {e:Int × Value} (hI:s.heap.get? I=some (siObj (.ref P) i S es.size ep)) (hP:s.heap.get? P=some (tpObj ys)) (T:SW w s.heap S o es ep t) (hy:ys[i]?=some y) (he:es[y]?=some e)
  (hQ:∀ h',h'.get? I=some (siObj (.ref P) (i+1) S es.size ep)->Heap.SameBut I s.heap h'->Q (some e.2) { s with heap:=h' }):wpAny (model prog w) A (pyNext (.ref I)) Q E s:=by
 have hT:=si_type hI
 unfold pyNext
 refine Qa (wpAny_attempt (wpAny_callSpecial?_slot (name:=Str.ofString "__next__") hT slot_si_next (wpAny_call_entry slot_si_next hT entry_si_next ?_ (args_si_next _))))
 unfold Builtin.«set_iterator.__next__»
 refine Qa (Qc (Qa (wpAny_fieldsOf hI rfl ?_)))
 show wpAny _ _ (setEntries S >>= _) _ _ _
 refine Qa (wpAny_setEntries_of T.ob T.da T.ft ?_)
 rw [if_neg (by simp)]
 show wpAny _ _ (seqItems? (Value.ref P) >>= _) _ _ _
 unfold seqItems?
 refine Qa (Qa (wpAny_load hP ?_))
 show wpAny _ _ (pure (some (ys.map fun (i:Nat)=>Value.int (i:Int) 0).toArray)) _ _ _
 refine Qc ?_
 dsimp only
 rw [show ((ys.map fun (i:Nat)=>Value.int (i:Int) 0).toArray)[(i:Int).toNat]?=some (Value.int (y:Int) 0) by rw [Int.toNat_natCast,List.getElem?_toArray,Ql,hy];rfl]
 dsimp only
 unfold setNextDrawn
 refine Qa (Qa (wpAny_setState_of T.ob T.da T.ft ?_))
 dsimp only
 simp only [Int.toNat_natCast]
 rw [if_neg (by simp)]
 rw [he]
 dsimp only
 refine Qc ?_
 refine Qa (wpAny_setField hI rfl (by simp) ?_)
 exact Qc ⟨_,rfl,Qc (hQ _ (Heap.get?_update_self _ hI rfl) (Heap.SameBut.update ..))⟩
theorem sd_end {Q:Option Value->Shared->Prop} {i:Nat} {P:Addr} {ys:List Nat} (hh:A.handled=none) (hI:s.heap.get? I=some (siObj (.ref P) i S es.size ep)) (hP:s.heap.get? P=some (tpObj ys)) (T:SW w s.heap S o es ep t) (hy:ys[i]?=none)
  (hQ:∀ h',Heap.ExtBut I s.heap h'->Q none { s with heap:=h' }):wpAny (model prog w) A (pyNext (.ref I)) Q E s:=by
 have hT:=si_type hI
 unfold pyNext
 refine Qa (wpAny_attempt (wpAny_callSpecial?_slot (name:=Str.ofString "__next__") hT slot_si_next (wpAny_call_entry slot_si_next hT entry_si_next ?_ (args_si_next _))))
 unfold Builtin.«set_iterator.__next__»
 refine Qa (Qc (Qa (wpAny_fieldsOf hI rfl ?_)))
 show wpAny _ _ (setEntries S >>= _) _ _ _
 refine Qa (wpAny_setEntries_of T.ob T.da T.ft ?_)
 rw [if_neg (by simp)]
 show wpAny _ _ (seqItems? (Value.ref P) >>= _) _ _ _
 unfold seqItems?
 refine Qa (Qa (wpAny_load hP ?_))
 show wpAny _ _ (pure (some (ys.map fun (i:Nat)=>Value.int (i:Int) 0).toArray)) _ _ _
 refine Qc ?_
 dsimp only
 rw [show ((ys.map fun (i:Nat)=>Value.int (i:Int) 0).toArray)[(i:Int).toNat]?=none by rw [Int.toNat_natCast,List.getElem?_toArray,Ql,hy];rfl]
 dsimp only
 refine Qa (wpAny_setField hI rfl (by simp) ?_)
 have h1:(s.heap.update I (Obj.mapFields (·.setIfInBounds 0 (rawInt 0)))).get? I=some (siObj (.int 0 0) i S es.size ep):=Heap.get?_update_self _ hI rfl
 refine Qa (wpAny_setField (s:={ s with heap:=s.heap.update I (Obj.mapFields (·.setIfInBounds 0 (rawInt 0))) }) h1 rfl (by simp) ?_)
 refine Qa ?_
 simp only [newExc,newTuple]
 refine Qa (wpAny_newObj_type (Qa (m:=firstArgMember _ _) (wpAny_of_eq (a:=Value.none) (by first | rfl | (simp only [firstArgMember];rfl)) (wpAny_newObj_type ?_ (by size_fits)))) (by size_fits))
 simp only [raiseNew]
 refine Qa (wpAny_handled ?_)
 rw [show A.in1.handled=none from hh]
 refine (Qa (Qc (wpAny_throw ?_)))
 refine (Qa (wpAny_isInstance (T:="StopIteration") (b:=true) ⟨_,Qo _ rfl,rfl⟩ isSubtype_stop (Qc (hQ _ ?_))))
 exact (((Heap.SameBut.update ..).trans (Heap.SameBut.update ..)).extBut.push _).push _
end
end L2
namespace L2
open PySem PySem.Spec PyProof.Rows
section
variable {prog:Program} {w:World} {A:Around} {E:Value->Shared->Prop} {s:Shared}
noncomputable abbrev IsTk (prog:Program) (w:World) (h:Heap) (z:List Key) (b:Addr):Prop:=IsTupleKey (mixKind prog w) h z b
noncomputable def tkh (prog:Program) (w:World) (z:List Key):Int:=tupleKeyHash (mixKind prog w) z
theorem IsTupleKey.at' {h h':Heap} {z:List Key} {b:Addr} (x:IsTk prog w h z b) (k:∀ o,h.get? b=some o->h'.get? b=some o):IsTk prog w h' z b:=by
 obtain ⟨o,its,n,h1,h2,h3,h4⟩:=x
 exact ⟨o,its,n,k o h1,h2,h3,h4⟩
theorem oac_tup {z:List Key} {b:Addr} {Q:Bool->Shared->Prop} (hk:IsTk prog w s.heap z b) (q:Q false s):wpAny (model prog w) A (ofAClassStatement 8 (.ref b)) Q E s:=by
 have hT:=hk.typeIs
 obtain ⟨o,items,n,ho,hc,hd,hi⟩:=hk
 unfold ofAClassStatement
 refine Qa (wpAny_typeOf hT ?_)
 dsimp only
 rw [if_pos (by rfl)]
 refine Qa (Qc ?_)
 rw [if_neg (by decide)]
 refine Qa (wpAny_seqItems ho hd ?_)
 dsimp only
 refine Qa ?_
 rw [<- Array.forIn_toList]
 refine wpAny_forIn_list _ (fun rest r s'=>r.1=none/\s'=s/\∀ v∈rest,carriedByValue v=true) _ ?_ ?_ _ _ ⟨rfl,rfl,hi.byValue⟩
 ·rintro v rest r s' ⟨hr,rfl,hall⟩
  have e:ofAClassStatement 7 v=pure false:=by
   have:=hall v Qk
   cases v<;>first | rfl | cases this
  rw [e]
  refine Qa (Qc ?_)
  rw [if_neg (by decide)]
  exact Qc ⟨rfl,rfl,fun u hu'=>hall u (Qg _ hu')⟩
 ·rintro ⟨r1,r2⟩ s' ⟨hr,rfl,_⟩
  simp only at hr
  subst hr
  exact Qc q
theorem scbs_tup {z:List Key} {b:Addr} {Q:Bool->Shared->Prop} (hk:IsTk prog w s.heap z b) (stored:List Value) (hs:∀ v∈stored,∃ y c,v=.ref c/\IsTk prog w s.heap y c) (q:Q false s):wpAny (model prog w) A (searchCouldBeSeen (.ref b) stored) Q E s:=by
 unfold searchCouldBeSeen
 refine Qa (wpAny_forIn_list _ (fun rest r s'=>r.1=none/\s'=s/\∀ v∈rest,∃ y c,v=.ref c/\IsTk prog w s.heap y c) _ ?_ ?_ _ _ ⟨rfl,rfl,hs⟩)
 ·rintro v rest r s' ⟨hr,rfl,hall⟩
  obtain ⟨y,c,rfl,hy⟩:=hall v Qk
  have hrest:=fun u hu'=>hall u (Qg _ hu')
  dsimp only
  refine wpAny_ite_split (fun _=>Qc ⟨rfl,rfl,hrest⟩) fun _=>?_
  refine Qa (wpAny_eqIsQuiet_tuple hk ?_)
  rw [if_neg (by decide)]
  refine Qa (wpAny_eqIsQuiet_tuple hy ?_)
  rw [if_neg (by decide)]
  refine Qa (oac_tup hk ?_)
  rw [if_neg (by decide)]
  refine Qa (oac_tup hy ?_)
  rw [if_neg (by decide)]
  exact Qc ⟨rfl,rfl,hrest⟩
 ·rintro ⟨r1,r2⟩ s' ⟨hr,rfl,_⟩
  simp only at hr
  subst hr
  exact Qc q
noncomputable def hasTxt (z:List Key):Prop:=∃ x:Str,Sum.inr x∈z
theorem hbv_tup {z:List Key} {b:Addr} {Q:Bool->Shared->Prop} (hk:IsTk prog w s.heap z b) (ht:hasTxt z) (q:Q false s):wpAny (model prog w) A (hashByValue 8 (.ref b)) Q E s:=by
 have hT:=hk.typeIs
 obtain ⟨o,items,n,ho,hc,hd,hi⟩:=hk
 unfold hashByValue
 refine Qa (wpAny_specialOf hT PySem.F.slot_tuple_hash.lookup ?_)
 dsimp only
 refine Qa (wpAny_seqItems ho hd ?_)
 show wpAny _ _ (forIn items _ _ >>= _) _ _ _
 refine Qa ?_
 rw [<- Array.forIn_toList]
 refine wpAny_forIn_list _ (fun rest r s'=>r.1=none/\s'=s/\∃ left,ItemsAre (mixKind prog w) left rest/\hasTxt left) _ ?_ ?_ _ _ ⟨rfl,rfl,z,hi,ht⟩
 ·rintro v rest r s' ⟨hr,rfl,left,hl,x,hx⟩
  cases hl with
  | @cons k v ks vs h1 h2 =>
   rcases keyIs_shape h1 with ⟨i,t,rfl,rfl⟩ | ⟨y,t,rfl,rfl⟩
   ·refine Qa (Qc ?_)
    rw [if_neg (by decide)]
    refine Qc ⟨rfl,rfl,ks,h2,x,?_⟩
    rcases Qn hx with e | e
    ·cases e
    ·exact e
   ·refine Qa (Qc ?_)
    rw [if_pos (by decide)]
    exact Qc (Qc q)
 ·rintro ⟨r1,r2⟩ s' ⟨hr,rfl,left,hl,x,hx⟩
  cases hl
  cases hx
structure TpS (prog:Program) (w:World) (kz:Value->List Key) (N:Addr->Prop) (h:Heap) (a:Addr) (zs:List (List Key)) (led:Bool) (o:Obj) (es:Array (Int × Value)) (ep:Nat) (t:SetTable) (L:List (Nat × (Int × Value))):Prop where
 ob:h.get? a=some o
 ex:o.ExactSet
 da:o.data=.set es ep t
 tb:Tbl t es L
 rc:Reach t.mask L
 mk7:t.mask=7∨t.mask=31∨t.mask=127
 fu:L.length*5<t.mask*3
 el:∀ p∈L,p.2.1=tkh prog w (kz p.2.2)/\∃ b,p.2.2=.ref b/\IsTk prog w h (kz p.2.2) b/\N b
 pm:(L.map fun p=>kz p.2.2).Perm zs
 ld:t.led=led
 pl:L.length=0∨t.plain=false
variable {kz:Value->List Key} {N:Addr->Prop} {a:Addr} {zs:List (List Key)} {led:Bool} {o:Obj} {es:Array (Int × Value)} {ep:Nat} {t:SetTable} {L:List (Nat × (Int × Value))}
theorem tbl_fits {α:Type} {t:SetTable} {es:Array α} {L:List (Nat × α)} (T:Tbl t es L):t.fits es.size=true:=by
 unfold SetTable.fits SetTable.fill
 have h1:=T.size
 have h2:=T.fl
 rw [T.du]
 simp
 omega
theorem TpS.round (T:TpS prog w kz N s.heap a zs led o es ep t L):Round t.mask:=by
 rcases T.mk7 with e | e | e<;>rw [e]
 ·exact round7
 ·exact round31
 ·exact round127
theorem TpS.ne {h:Heap} (T:TpS prog w kz N h a zs led o es ep t L) {z:List Key} {b:Addr} (hk:IsTk prog w h z b):b≠a:=fun e=>by
 obtain ⟨o',its,n,h1,h2,h3,_⟩:=hk
 rw [e,T.ob] at h1
 cases h1
 rw [T.da] at h3
 cases h3
theorem TpS.mem {h:Heap} (T:TpS prog w kz N h a zs led o es ep t L) {z:List Key}:z∈zs↔∃ p∈L,kz p.2.2=z:=by
 rw [<- T.pm.mem_iff,List.mem_map]
noncomputable def hAt (es:Array (Int × Value)) (i:Nat):Int:=(es[i]?.map (·.1)).getD 0
theorem search_ok (T:TpS prog w kz N s.heap a zs led o es ep t L) {x:Value} {z:List Key} {b:Addr} (hx:x=.ref b) (hk:IsTk prog w s.heap z b) (hu:A.units<cLine) {K:Nat} (hK:¬ Occ L (path t.mask (tkh prog w z) K).j) (hb:∀ k,k<K->Occ L (path t.mask (tkh prog w z) k).j) (hKb:K<10*SetTable.turns t.mask)
  {Q:SetFound->Shared->Prop} (q1:z∈zs->Q (.there none) s) (q2:z∉zs->Q (.free (path t.mask (tkh prog w z) K).j false) s) :
  ∀ fuel k (stand:Option SetTable.Probe),stand.getD (t.probeStart (tkh prog w z))=path t.mask (tkh prog w z) k->k<=K->K-k<fuel->(∀ k',k'<k->∀ q∈L,q.1=(path t.mask (tkh prog w z) k').j->kz q.2.2≠z)->wpAny (model prog w) A (setSearchFrom a x (tkh prog w z) true fuel stand) Q E s
 | 0,k,stand,_,_,h,_=>absurd h (Nat.not_lt_zero _)
 | fuel+1,k,stand,hst,hk1,hf,hno=>by
  unfold setSearchFrom
  refine Qa (wpAny_setState_of T.ob T.da (tbl_fits T.tb) ?_)
  dsimp only
  rw [if_neg (show ¬ t.gaveWay=true by unfold SetTable.gaveWay;rcases T.mk7 with e | e | e<;>rw [e]<;>decide),hst]
  have hh:∀ (i:Nat) (p:Nat × (Int × Value)),L[i]?=some p->hAt es i=p.2.1:=fun i p hp=>by
   unfold hAt
   rw [T.tb.entry,hp]
   rfl
  have hpr:=probe_ok T.tb hh hK hb (10*SetTable.turns t.mask) k hk1 (by omega)
  have tail:∀ met,SetTable.probe.go t (hAt es) (tkh prog w z) (10*SetTable.turns t.mask) (path t.mask (tkh prog w z) k)=some met->t.probe (hAt es) (tkh prog w z) (path t.mask (tkh prog w z) k)=some met:=fun met e=>e
  rcases hpr with ⟨k1,i,p,a1,a2,a3,a4,a5,a6,a7⟩ | ⟨a1,a2⟩
  ·have a3:=tail _ a3
   show wpAny _ _ (match t.probe (hAt es) (tkh prog w z) (path t.mask (tkh prog w z) k) with | some met=>_ | x=>_) _ _ _
   rw [a3]
   dsimp only
   have hp:=Qs a4
   obtain ⟨e1,c,e2,hc,_⟩:=T.el p hp
   have hes:es[i]?=some p.2:=by rw [T.tb.entry,a4];rfl
   have rest:wpAny (model prog w) A (do
     let some (_,y):=es[i]? | unsupported "internal:set-entry"
     let equal <- holding [y] (eqBool y x)
     let (es',_,t') <- setState a
     if true&&equal then return .there none
     let some same:=t'.sameMemory t.moves t.mask | unsupported "set.changed-during-lookup:is-the-new-block-at-the-old-address"
     let still <- match (if same then t'.slot (path t.mask (tkh prog w z) k1).j else .empty) with
      | .live i'=>match es'[i']? with
       | some (_,y')=>do pure (if <- isSame y' y then some i' else none)
       | none=>pure none
      | _=>pure none
     match still with
     | none=>rule "set.search.anew";setSearchFrom a x (tkh prog w z) true fuel none
     | some i'=>if equal then return .there (some i') else setSearchFrom a x (tkh prog w z) true fuel (some (path t.mask (tkh prog w z) (k1+1)))) Q E s:=by
    rw [hes]
    dsimp only
    rw [e2]
    rw [hx]
    refine Qa (wpAny_holding (wpAny_eqBool_tuple hu hc hk ?_))
    refine Qa (wpAny_setState_of T.ob T.da (tbl_fits T.tb) ?_)
    dsimp only
    by_cases hq:kz (.ref c)=z
    ·have hq':kz p.2.2=z:=by rw [e2];exact hq
     rw [show decide (kz p.2.2=z)=true from Qw hq',if_pos (by decide)]
     exact Qc (q1 (T.mem.mpr ⟨p,hp,hq'⟩))
    ·have hq':kz p.2.2≠z:=by rw [e2];exact hq
     rw [show decide (kz p.2.2=z)=false from Qj hq',if_neg (by decide)]
     rw [show t.sameMemory t.moves t.mask=some true by unfold SetTable.sameMemory;simp]
     dsimp only
     rw [if_pos rfl,<- a5,T.tb.live a4]
     dsimp only
     rw [hes]
     dsimp only
     rw [e2]
     refine Qa ?_
     unfold isSame
     dsimp only
     rw [if_pos (by simp)]
     refine Qc (Qa (Qc ?_))
     rw [if_pos rfl]
     dsimp only
     rw [if_neg (by decide),<- hx]
     refine search_ok T hx hk hu hK hb hKb q1 q2 fuel (k1+1) _ rfl (by omega) (by omega) fun k' hk' q hqm eq=>?_
     by_cases z1:k'<k
     ·exact hno k' z1 q hqm eq
     ·by_cases z2:k'<k1
      ·intro z3
       have:=a7 k' (by omega) z2 q hqm eq
       exact this (by rw [(T.el q hqm).1,z3])
      ·have z3:k'=k1:=by omega
       subst z3
       rw [<- a5] at eq
       obtain ⟨i',hi'⟩:=List.mem_iff_getElem?.mp hqm
       have l1:=T.tb.live a4
       have l2:=T.tb.live hi'
       rw [eq,l1] at l2
       cases l2
       rw [a4] at hi'
       cases hi'
       exact hq'
   by_cases hl:t.led=true
   ·rw [if_neg (by rw [hl];decide)]
    exact rest
   ·rw [if_pos (by simpa using hl)]
    rw [hx] at rest ⊢
    refine Qa (scbs_tup hk _ (fun v hv=>?_) ?_)
    ·obtain ⟨e,he,rfl⟩:=QF hv
     have he2:e∈es.toList:=by
      have:=Array.mem_toList_iff.mp he
      exact Array.mem_toList_iff.mpr (Array.mem_filter.mp this).1
     rw [T.tb.el] at he2
     obtain ⟨q,hq,rfl⟩:=QF he2
     obtain ⟨_,d,e3,hd,_⟩:=T.el q hq
     exact ⟨_,d,e3,hd⟩
    ·rw [if_neg (by decide)]
     exact rest
  ·have a1:=tail _ a1
   show wpAny _ _ (match t.probe (hAt es) (tkh prog w z) (path t.mask (tkh prog w z) k) with | some met=>_ | x=>_) _ _ _
   rw [a1]
   refine Qc (q2 fun hz=>?_)
   obtain ⟨p,hp,ep⟩:=T.mem.mp hz
   have eh:p.2.1=tkh prog w z:=by rw [(T.el p hp).1,ep]
   obtain ⟨k0,g1,g2⟩:=T.rc.ahead hK hp eh
   by_cases z1:k0<k
   ·exact hno k0 z1 p hp g2.symm ep
   ·exact a2 k0 (by omega) g1 p hp g2.symm eh
end
end L2
namespace L2
open PySem PySem.Spec PyProof.Rows
open Classical in
noncomputable def dstepT (σ:List (List Key)) (v:List Key):List (List Key):=if v∈σ then σ else σ++[v]
section
variable {prog:Program} {w:World} {A:Around} {E:Value->Shared->Prop} {s:Shared}
variable {kz:Value->List Key} {N:Addr->Prop} {a:Addr} {zs zs':List (List Key)} {led:Bool} {o:Obj} {es es':Array (Int × Value)} {ep:Nat} {t t':SetTable} {L L':List (Nat × (Int × Value))}
theorem put_get {h:Heap} {a:Addr} {o:Obj} {es:Array (Int × Value)} {ep:Nat} {t:SetTable} (ob:h.get? a=some o) (da:o.data=.set es ep t) (es':Array (Int × Value)) (t':SetTable):(h.update a (Obj.putSet es' t')).get? a=some { o with data:=.set es' (ep+1) t' }:=by
 have:=Heap.get?_update_self (Obj.putSet es' t') ob (by rw [putSet_of es' t' da];rfl)
 rw [putSet_of es' t' da] at this
 exact this
theorem tup_add {x:Value} {z:List Key} {b:Addr} (hx:x=.ref b) (hkz:kz x=z) (hN:N b) (ht:hasTxt z) (hu:A.units<cLine) {Q:Bool->Shared->Prop} (hk:IsTk prog w s.heap z b)
  (hS:∃ o es ep t L,TpS prog w kz N s.heap a zs led o es ep t L) (hroom:zs.length+1<=76)
  (k:∀ r h',Heap.SameBut a s.heap h'->(∃ o es ep t L,TpS prog w kz N h' a (dstepT zs z) led o es ep t L)->Q r { s with heap:=h' }):wpAny (model prog w) A (setAddHashed a x (tkh prog w z)) Q E s:=by
 obtain ⟨o,es,ep,t,L,T⟩:=hS
 have hLz:L.length=zs.length:=by have:=T.pm.length_eq;simpa using this
 have hne:b≠a:=T.ne hk
 obtain ⟨K,hK1,hK2,hK3⟩:=first_empty T.round (L:=L) T.tb.fl (tkh prog w z)
 unfold setAddHashed setAddHashedIn
 refine wpAny_holding (Qa (wpAny_setState_of T.ob T.da (tbl_fits T.tb) ?_))
 dsimp only
 rw [hx,if_neg (show ¬ byScan (.ref b) es=true by unfold byScan;rw [show (Value.ref b).scannable=false from rfl];simp),<- hx]
 unfold setSearch
 refine Qa (search_ok (k:=0) (fuel:=100000) (stand:=none) T hx hk hu hK2 hK3 (by unfold SetTable.turns;omega) (fun hz=>?_) (fun hz=>?_) rfl (Qp _) ?_ fun k' h=>absurd h (Nat.not_lt_zero _))
 ·refine Qc ?_
  have e:s={ s with heap:=s.heap }:=rfl
  rw [e]
  refine k false s.heap ⟨rfl,fun _ _=>rfl⟩ ⟨o,es,ep,t,L,?_⟩
  unfold dstepT
  rw [if_pos hz]
  exact T
 ·
  refine Qa (wpAny_setState_of T.ob T.da (tbl_fits T.tb) ?_)
  dsimp only
  have hj:(path t.mask (tkh prog w z) K).j<=t.mask:=by have:=(path_le t.mask (tkh prog w z) K).1;omega
  have hfu:=T.fu
  have hl1:L.length+1<=t.mask:=by rcases T.mk7 with e | e | e<;>rw [e] at hfu ⊢<;>omega
  obtain ⟨L',T',hp',e1,e2,e3,e4⟩:=T.tb.put (e:=(tkh prog w z,x)) (fun p hp z=>hK2 ⟨p,hp,z⟩) hj hl1
  generalize hpt:t.put (path t.mask (tkh prog w z) K).j=tp at T' e1 e2 e3 e4
  obtain ⟨t1,p1⟩:=tp
  dsimp only at T' e1 e2 e3 e4 ⊢
  have hrc:Reach t1.mask L':=by rw [e1];exact T.rc.cons hp' hK3
  have hlen:L'.length=L.length+1:=by rw [hp'.length_eq];rfl
  have hel:∀ p∈L',p.2.1=tkh prog w (kz p.2.2)/\∃ b,p.2.2=.ref b/\IsTk prog w s.heap (kz p.2.2) b/\N b:=fun p hp=>by
   rcases Qn (hp'.mem_iff.mp hp) with e | hp
   ·rw [e]
    exact ⟨by rw [hkz],b,hx,by rw [hkz];exact hk,hN⟩
   ·exact T.el p hp
  have hpm:(L'.map fun p=>kz p.2.2).Perm (dstepT zs z):=by
   unfold dstepT
   rw [if_neg hz]
   refine (hp'.map _).trans ?_
   rw [List.map_cons]
   show List.Perm (kz x::_) _
   rw [hkz]
   exact (T.pm.cons z).trans (List.perm_append_singleton z zs).symm
  have main:∀ t2:SetTable,t2.place=t1.place->t2.dummies=t1.dummies->t2.mask=t1.mask->t2.led=led->t2.plain=false->wpAny (model prog w) A (do
    storeSet a (SetTable.insertAt es p1 (tkh prog w z,x)) t2
    if !false&&t2.tooFull then setRelay a (SetTable.grown (es.size+1))
    return true) Q E s:=by
   intro t2 f1 f2 f3 f4 f5
   have T2:Tbl t2 (SetTable.insertAt es p1 (tkh prog w z,x)) L':=⟨by rw [f1];exact T'.pl,T'.el,T'.up,by rw [f2];exact T'.du,by rw [f3];exact T'.le,by rw [f3];exact T'.fl⟩
   have hs2:=T2.size.2
   refine Qa (wpAny_storeSet_of T.ob T.da ?_ (by rw [hs2,hlen,hLz];exact Nat.le_of_lt (small1000 (by omega))))
   have ob1:=put_get T.ob T.da (SetTable.insertAt es p1 (tkh prog w z,x)) t2
   have sb:=Heap.SameBut.update s.heap a (Obj.putSet (SetTable.insertAt es p1 (tkh prog w z,x)) t2)
   generalize s.heap.update a (Obj.putSet (SetTable.insertAt es p1 (tkh prog w z,x)) t2)=h1 at ob1 sb
   generalize SetTable.insertAt es p1 (tkh prog w z,x)=es1 at ob1 T2 hs2
   have kp:∀ h',Heap.SameBut a s.heap h'->∀ p:Nat × (Int × Value),(p.2.1=tkh prog w (kz p.2.2)/\∃ b,p.2.2=.ref b/\IsTk prog w s.heap (kz p.2.2) b/\N b)->(p.2.1=tkh prog w (kz p.2.2)/\∃ b,p.2.2=.ref b/\IsTk prog w h' (kz p.2.2) b/\N b):=fun h' sb p hsl61=>by obtain ⟨g1,d,g2,g3,g4⟩:=hsl61;exact ⟨g1,d,g2,IsTupleKey.at' g3 (fun o e=>(sb.2 d (T.ne g3)).trans e),g4⟩
   have tf:t2.tooFull=decide (t.mask*3<=(L.length+1)*5):=by
    unfold SetTable.tooFull SetTable.fill
    rw [f1,f2,f3,T'.du,T'.size.1,hlen,e1]
    simp
   by_cases hc:t.mask*3<=(L.length+1)*5
   ·rw [tf,if_pos (by simpa using hc)]
    have hm:(t.mask=7/\L.length+1=5)∨(t.mask=31/\L.length+1=19):=by
     rcases T.mk7 with e | e | e<;>rw [e] at hfu hc
     ·exact .inl ⟨e,by omega⟩
     ·exact .inr ⟨e,by omega⟩
     ·omega
    have hes:es.size=L.length:=T.tb.size.2
    obtain ⟨m,em,hm1,hm2,hm3,hm4⟩:∃ m,SetTable.sizeAbove (SetTable.grown (es.size+1))-1=m/\(m=31∨m=127)/\L.length+1<=m/\(L.length+1)*5<m*3/\SetTable.sizeAbove (SetTable.grown (es.size+1))<=sizeLine:=by
     rcases hm with ⟨_,e⟩ | ⟨_,e⟩<;>rw [hes,e]
     ·exact ⟨31,by decide +kernel,.inl rfl,by omega,by omega,by decide +kernel⟩
     ·exact ⟨127,by decide +kernel,.inr rfl,by omega,by omega,by decide +kernel⟩
    have R:Round m:=by
     rcases hm1 with e | e<;>rw [e]
     ·exact round31
     ·exact round127
    unfold setRelay
    refine Qa (Qa (wpAny_setState_of (s:={ s with heap:=h1 }) ob1 rfl (tbl_fits T2) ?_))
    dsimp only
    rw [if_neg (by omega)]
    unfold SetTable.relaid
    rw [em]
    obtain ⟨t3,order,L3,g1,g2,g3,g4,g5,g6,g7,g8⟩:=relay_ok (es:=es1) R (finger:=t2.finger) (moves:=t2.movedTo m) (led:=t2.led) (plain:=t2.plain) (by rw [hs2,hlen];exact hm2)
    rw [g1]
    have hl3:L3.length=L'.length:=by
     have:=g3.length_eq
     have h2:es1.toList.length=es1.size:=QD
     have h3:(L3.map (·.2)).length=L3.length:=Qi _
     omega
    have hs3:(order.filterMap (es1[·]?)).size=es1.size:=by rw [g2.size.2,hl3,hs2]
    refine Qa ?_
    show wpAny _ _ (if ((order.filterMap (es1[·]?)).size != es1.size)=true then _ else pure (order.filterMap (es1[·]?),t3)) _ _ _
    rw [if_neg (by simp [hs3])]
    refine Qc ?_
    dsimp only
    refine wpAny_storeSet_of (s:={ s with heap:=h1 }) ob1 rfl ?_ (by rw [hs3,hs2,hlen,hLz];exact Nat.le_of_lt (small1000 (by omega)))
    have ob2:=put_get ob1 rfl (order.filterMap (es1[·]?)) t3
    have sb2:=sb.trans (Heap.SameBut.update h1 a (Obj.putSet (order.filterMap (es1[·]?)) t3))
    refine Qc (k true _ sb2 ⟨_,_,_,t3,L3,ob2,T.ex,rfl,g2,by rw [g5];exact g4,by rw [g5];exact .inr hm1,by rw [g5,hl3,hlen];exact hm3,fun p hp=>?_,?_,g6.trans f4,.inr (g7.trans f5)⟩)
    ·refine kp _ sb2 p ?_
     have:p.2∈L'.map (·.2):=by
      rw [<- T2.el]
      exact g3.mem_iff.mp (List.mem_map_of_mem hp)
     obtain ⟨q,hq,eq⟩:=QF this
     rw [<- eq]
     exact hel q hq
    ·refine List.Perm.trans ?_ hpm
     rw [show (L3.map fun p=>kz p.2.2)=(L3.map (·.2)).map fun e=>kz e.2 by rw [List.map_map];rfl,show (L'.map fun p=>kz p.2.2)=(L'.map (·.2)).map fun e=>kz e.2 by rw [List.map_map];rfl,<- T2.el]
     exact g3.map _
   ·rw [tf,if_neg (by simpa using hc)]
    refine Qa (Qc (Qc (k true h1 sb ⟨_,_,_,t2,L',ob1,T.ex,rfl,T2,by rw [f3];exact hrc,by rw [f3,e1];exact T.mk7,by rw [f3,e1,hlen];omega,fun p hp=>kp _ sb p (hel p hp),hpm,f4,.inr f5⟩)))
  by_cases hpl:t1.plain=true
  ·rw [if_pos hpl,hx]
   refine Qa (hbv_tup hk ht ?_)
   rw [if_neg (by decide),<- hx]
   exact main { t1 with plain:=false } rfl rfl rfl (e3.trans T.ld) rfl
  ·rw [if_neg hpl]
   refine Qa (Qc ?_)
   rw [if_pos rfl]
   exact main t1 rfl rfl rfl (e3.trans T.ld) (by simpa using hpl)
 ·rcases T.mk7 with e | e | e<;>rw [e] at hK1<;>omega
end
end L2
namespace L2
open PySem PySem.Spec PyProof.Rows
noncomputable def metT (val:Nat->List Key) (i:Nat):List (List Key):=((List.range i).map val).foldl dstepT []
theorem metT_succ (val:Nat->List Key) (i:Nat):metT val (i+1)=dstepT (metT val i) (val i):=by
 unfold metT;rw [List.range_succ,QI,List.foldl_append];rfl
theorem dstepT_mem (σ:List (List Key)) (v u:List Key):u∈dstepT σ v↔u∈σ∨u=v:=by
 unfold dstepT
 split
 ·rename_i h
  exact ⟨.inl,fun z=>z.elim id fun e=>by rw [e];exact h⟩
 ·simp
theorem dstepT_nodup {σ:List (List Key)} (h:σ.Nodup) (v:List Key):(dstepT σ v).Nodup:=by
 unfold dstepT
 split
 ·exact h
 ·rename_i hv
  rw [List.nodup_append]
  exact ⟨h,by simp,fun a ha b hb e=>hv (by have:b=v:=by simpa using hb
                                           rw [<- this,<- e];exact ha)⟩
theorem metT_nodup (val:Nat->List Key):∀ i,(metT val i).Nodup
 | 0=>.nil
 | i+1=>by rw [metT_succ];exact dstepT_nodup (metT_nodup val i) _
theorem metT_mem (val:Nat->List Key) (u:List Key):∀ i,u∈metT val i↔∃ j,j<i/\val j=u
 | 0=>⟨fun h=>(nomatch h),fun ⟨j,h,_⟩=>absurd h (Nat.not_lt_zero _)⟩
 | i+1=>by
  rw [metT_succ,dstepT_mem,metT_mem val u i]
  constructor
  ·rintro (⟨j,h1,h2⟩ | rfl)
   ·exact ⟨j,by omega,h2⟩
   ·exact ⟨i,by omega,rfl⟩
  ·rintro ⟨j,h1,h2⟩
   by_cases e:j=i
   ·exact .inr (by rw [<- h2,e])
   ·exact .inl ⟨j,by omega,h2⟩
theorem metT_le (val:Nat->List Key):∀ i,(metT val i).length<=i
 | 0=>Qf _
 | i+1=>by
  have ih:=metT_le val i
  rw [metT_succ]
  unfold dstepT
  split
  ·omega
  ·rw [QB,List.length_singleton];omega
section
variable {prog:Program} {w:World} {A:Around} {R:Result->Shared->Prop} {I:Addr} {fp wr:List Addr} {G:Array GenState->Array GenState->Prop} {n:Nat} {P:Nat->Value->Prop} {St:Nat->Shared->Prop} {kz:Value->List Key} {N:Addr->Prop}
theorem set_loopTp {led:Bool} (W:WalksS prog w A.in1 I fp wr G n P St) (S:Addr) (hSf:S∉fp) (val:Nat->List Key) (hu:A.in1.units<cLine) (hb:∀ i,i<n->(metT val i).length+1<=76) (hN:∀ b,N b->b∉wr/\b≠S) :
  ∀ (k i:Nat) (s:Shared),n-i=k->i<=n->St i s->(∀ i v,i<n->P i v->∃ b,v=.ref b/\kz v=val i/\hasTxt (val i)/\N b/\IsTk prog w s.heap (val i) b)->(∃ o es ep t L,TpS prog w kz N s.heap S (metT val i) led o es ep t L) ->
   (∀ s',Moved (S::wr) G s s'->(∃ o es ep t L,TpS prog w kz N s'.heap S (metT val n) led o es ep t L)->R (.ok (.ret .none)) s') ->
   codeAny (model prog w) A (.builtin "set.update.loop" ⟨[.ref S,.ref I],[]⟩) R s:=by
 have hSw:S∉wr:=fun h=>hSf (W.sub _ h)
 have hsub:∀ b∈wr,b∈S::wr:=fun b hb=>Qg _ hb
 have hmv:∀ {s s':Shared} {i:Nat},Moved wr G s s'->(∃ o es ep t L,TpS prog w kz N s.heap S (metT val i) led o es ep t L)->∃ o es ep t L,TpS prog w kz N s'.heap S (metT val i) led o es ep t L:=fun {s s' i} hm hS=>by
  obtain ⟨o,es,ep,t,L,T⟩:=hS
  exact ⟨o,es,ep,t,L,hm.heap S _ hSw T.ob,T.ex,T.da,T.tb,T.rc,T.mk7,T.fu,fun p hp=>by obtain ⟨e,b,e2,hb,hn⟩:=T.el p hp;exact ⟨e,b,e2,IsTupleKey.at' hb (fun o e=>hm.heap b o (hN b hn).1 e),hn⟩,T.pm,T.ld,T.pl⟩
 intro k
 induction k with
 | zero =>
  intro i s hk hi hst hval hS hR
  have hin:i=n:=by omega
  subst hin
  refine codeAny_builtin F.entry_set_update_loop ?_
  rw [Around.under_plainId F.plain_set_update_loop _]
  show wpAny _ A.in1 (pyNext (.ref I) >>= _) _ _ s
  refine Qa (W.done s _ _ hst fun s' hm=>?_)
  exact Qc (hR s' (hm.mono hsub) (hmv hm hS))
 | succ k ih =>
  intro i s hk hi hst hval hS hR
  have hlt:i<n:=by omega
  refine codeAny_builtin F.entry_set_update_loop ?_
  rw [Around.under_plainId F.plain_set_update_loop _]
  show wpAny _ A.in1 (pyNext (.ref I) >>= _) _ _ s
  refine Qa (W.item i s _ _ hlt hst fun v s' hP hst' hm=>?_)
  have hval':∀ i v,i<n->P i v->∃ b,v=.ref b/\kz v=val i/\hasTxt (val i)/\N b/\IsTk prog w s'.heap (val i) b:=fun i v hi hp=>by
   obtain ⟨b,e1,e2,e3,e4,e6⟩:=hval i v hi hp
   exact ⟨b,e1,e2,e3,e4,IsTupleKey.at' e6 fun o e=>hm.heap b o (hN b e4).1 e⟩
  obtain ⟨b,hv,hkz,htx,hbn,htk⟩:=hval' i v hlt hP
  have hS1:=hmv hm hS
  show wpAny _ A.in1 (holding [v] (setAdd S v) >>= _) _ _ s'
  refine Qa (wpAny_holding ?_)
  unfold setAdd
  refine wpAny_holding ?_
  refine Qa ?_
  rw [hv]
  refine wpAny_pyHash_tuple hu htk ?_
  rw [<- hv]
  refine tup_add (s:={ s' with toks:=s'.toks+((val i).length+1) }) hv hkz hbn htx hu htk hS1 (hb i hlt) fun _ h' hsb hS2=>?_
  have hSi:∃ o es ep t L,TpS prog w kz N h' S (metT val (i+1)) led o es ep t L:=by
   rw [metT_succ];exact hS2
  refine Qc ⟨plainId_quiet F.plain_set_update_loop _,ih (i+1) _ (by omega) hlt (W.frame _ s' _ _ hst' (Nat.le_add_right _ _) fun b hb o e=>?_) (fun i v hi hp=>?_) hSi fun s2 hm2 hS3=>?_⟩
  ·rw [hsb.2 b (fun h:b=S=>hSf (by rw [<- h];exact hb))];exact e
  ·obtain ⟨b,e1,e2,e3,e4,e6⟩:=hval' i v hi hp
   exact ⟨b,e1,e2,e3,e4,IsTupleKey.at' e6 fun o e=>(hsb.2 b (hN b e4).2).trans e⟩
  ·refine hR s2 (Moved.trans W.gtrans ((hm.mono hsub).then_heap (Nat.le_add_right _ _) fun b o hb e=>?_) hm2) hS3
   rw [hsb.2 b (fun h:b=S=>hb (by rw [h];exact Qk))];exact e
end
section
variable {prog:Program} {w:World} {A:Around} {E:Value->Shared->Prop} {s:Shared}
open PySem in
theorem set_listTp {kz:Value->List Key} {M:Addr->Prop} {l:Addr} {items:Array Value} {val:Nat->List Key} {Q:Value->Shared->Prop} (hh:A.handled=none) (hu:A.units+1+1+1<cLine) (hl:s.heap.IsList l items) (hval:∀ i v,i<items.size->items[i]?=some v->∃ b,v=.ref b/\kz v=val i/\hasTxt (val i)/\IsTk prog w s.heap (val i) b/\M b) (hb:∀ i,i<items.size->(metT val i).length+1<=76)
  (h:∀ (h':Heap) (tk:Nat),(∃ o es ep t L,TpS prog w kz (fun b=>b<s.heap.objs.size/\M b) h' s.heap.objs.size (metT val items.size) (!byTxt w) o es ep t L) ->
   (∀ b o,b<s.heap.objs.size->s.heap.get? b=some o->h'.get? b=some o)->Q (.ref s.heap.objs.size) { s with heap:=h',toks:=tk }):wpAny (model prog w) A (call (.type "set") [.ref l]) Q E s:=by
 obtain ⟨c,tl,hmro⟩:=F.called_set.mro
 have hmade:=F.called_set.made
 have hsub:=F.called_set.sub
 refine wpAny_call (codeAny_of_tree ?_)
 show wpAny _ _ (callAny (.type "set") _) _ _ _
 refine Qc ⟨Code.quiet_builtin _ (by decide +kernel),codeAny_builtin F.entry_type_call ?_⟩
 rw [Around.under_plain (weight_type_call_type "set" [.ref l] []) rfl]
 have h1:=F.called_set.notType
 have h2:=F.called_set.canCreate
 have hct:=F.typeCall_set_1 (.ref l)
 repeat (any_goals (first | assumption | wp_step))
 refine codeAny_mono (code_set_newL (.ref l) (E:=E) (Q₁:=fun obj s1=>∃ led:Bool,led=(!byTxt w)/\obj=.ref s.heap.objs.size/\s1={ s with heap:=s.heap.push (newSet led) }) ⟨_,rfl,rfl,rfl⟩) fun r s1 hr=>?_
 cases r with
 | error e=>exact hr
 | ok fl =>
  cases fl with
  | ret obj =>
   obtain ⟨led,eled,rfl,rfl⟩:=hr
   have hS:(s.heap.push (newSet led)).get? s.heap.objs.size=some (newSet led):=Qo _ rfl
   have hT:Shared.TypeIs { s with heap:=s.heap.push (newSet led) } (.ref s.heap.objs.size) "set":=⟨_,hS,rfl⟩
   have hli:=F.called_set.init.lookup
   have hbi:=F.called_set.init.bind (.ref s.heap.objs.size)
   repeat (any_goals (first | assumption | wp_step))
   refine codeAny_mono (codeAny_call_builtin (R:=wants (fun r s2=>r=.none/\∃ h' tk,s2={ s with heap:=h',toks:=tk }/\(∃ o es ep t L,TpS prog w kz (fun b=>b<s.heap.objs.size/\M b) h' s.heap.objs.size (metT val items.size) (!byTxt w) o es ep t L) /\
     (∀ b o,b<s.heap.objs.size->s.heap.get? b=some o->h'.get? b=some o)) E) F.called_set.init.plain F.entry_set_init (check_set_init_1 hT ?_)) fun r2 s2 hr2=>?_
   ·obtain ⟨ol,hol,hcl,nl,hdl⟩:=hl
    obtain ⟨ocls,odict,odata,oslots⟩:=ol
    simp only at hcl hdl
    subst hcl;subst hdl
    have hol':(s.heap.push (newSet led)).get? l=some { cls:=.type "list",dict:=odict,data:=.seq items nl,slots:=oslots }:=Qd _ hol
    have hsls:=F.sub_list_set
    have hslf:=F.sub_list_frozenset
    have hne:(Value.type "list" == Value.type "dict")=false:=by decide
    have hl1:(s.heap.push (newSet led)).IsList l items:=⟨_,hol',rfl,nl,rfl⟩
    unfold Builtin.«set.__init__» noKeywords Builtin.Frozenset.updateFrom
    generalize hPI:pyIter=PI
    wp_walk
    subst hPI
    refine wpAny_pyIter_list hl1 (Qa (wpAny_runValue ?_))
    have hlS:l<s.heap.objs.size:=Qq hol
    have hh3:A.in1.in1.in1.handled=none:=by simp [hh]
    have hneI:l≠(s.heap.push (newSet led)).objs.size:=by
     rw [Heap.size_push];exact Qy (Nat.lt_succ_of_lt hlS)
    have hSf:s.heap.objs.size∉[(s.heap.push (newSet led)).objs.size,l]:=by
     rw [Heap.size_push];simp only [List.mem_cons,List.mem_singleton,List.not_mem_nil,or_false,not_or]
     exact ⟨Qy (Nat.lt_succ_self _),Nat.ne_of_gt hlS⟩
    have hu3:A.in1.in1.in1.units<cLine:=by simpa using hu
    refine set_loopTp (kz:=kz) (N:=fun b=>b<s.heap.objs.size/\M b) (led:=!byTxt w) ((Walks.list hh3 _ l hneI items).toS) s.heap.objs.size hSf val hu3 hb (fun b hb=>⟨fun z=>?_,Qy hb.1⟩) (items.size-0) 0 _ (by omega) (Qp _) ⟨⟨_,Qo _ rfl,rfl,rfl⟩,(hl1.push _)⟩ (fun i v hi hv=>?_) ?hS0 ?hR
    ·have z:=List.mem_singleton.mp z
     have hb:=hb.1
     rw [z,Heap.size_push] at hb
     exact absurd hb (Nat.not_lt.mpr (Nat.le_succ _))
    ·obtain ⟨b,e1,e2,e3,e4,e5⟩:=hval i v hi hv
     have hbl:b<s.heap.objs.size:=by obtain ⟨o,_,_,e,_⟩:=e4;exact Qq e
     exact ⟨b,e1,e2,e3,⟨hbl,e5⟩,IsTupleKey.at' e4 fun o e=>Qd _ (Qd _ e)⟩
    case hS0 =>
     have hget:=Qd { cls:=.type "list_iterator",data:=.fields #[.ref l,.int 0 0] } hS
     exact ⟨_,#[],0,_,[],hget,⟨rfl,rfl,rfl⟩,rfl,⟨rfl,rfl,.nil,rfl,fun p hp=>(nomatch hp),Qp _⟩,fun p hp=>(nomatch hp),.inl rfl,(by show 0<7*3;decide),fun p hp=>(nomatch hp),List.Perm.refl _,eled,.inl rfl⟩
    case hR =>
     intro s' hm hS'
     obtain ⟨h',g',d',tk',os'⟩:=s'
     have eg:g'=s.gens:=hm.gens
     have ed:d'=s.drawn:=hm.drawn
     have eo:os'=s.os:=hm.os
     subst eg;subst ed;subst eo
     refine Qc (Qc ⟨rfl,h',tk',rfl,hS',fun b o hb e=>?_⟩)
     have hb1:b≠s.heap.objs.size:=Qy hb
     have hb2:b≠(s.heap.push (newSet led)).objs.size:=by
      rw [Heap.size_push];exact Qy (Nat.lt_succ_of_lt hb)
     exact hm.heap b o (by simp only [List.mem_cons,List.mem_singleton,List.not_mem_nil,or_false,not_or];exact ⟨hb1,hb2⟩) (Qd _ (Qd _ e))
   ·cases r2 with
    | error e=>exact hr2
    | ok fl2 =>
     cases fl2 with
     | ret r =>
      obtain ⟨rfl,h',tk,rfl,hS',hk'⟩:=hr2
      repeat (any_goals (first | assumption | wp_step))
      exact h _ _ hS' hk'
     | _=>exact hr2.elim
  | _=>exact hr.elim
end
end L2
namespace L2
open PySem PySem.Spec PyProof.Rows PySem.W
theorem entry_si_iter:entryFor table "set_iterator.__iter__"=some Builtin.«dict_keyiterator.__iter__» :=
 entryFor_alias (id':="dict_keyiterator.__iter__") (by kernel_rfl) (by first | rfl | decide +kernel | (unfold String.splitOn;simp +decide [String.splitOnAux])) (by decide +kernel) (by kernel_rfl)
theorem args_si_iter (a:Value):argsOk "set_iterator.__iter__" ⟨[a],[]⟩:=by
 unfold argsOk
 kernel_rfl
section
variable {prog:Program} {w:World} {A:Around} {E:Value->Shared->Prop} {s:Shared} {S I:Addr} {o:Obj} {es:Array (Int × Value)} {ep:Nat} {t:SetTable}
theorem si_self {Q:Value->Shared->Prop} {first:Value} {i n:Nat} (hI:s.heap.get? I=some (siObj first i S n ep)) (h:Q (.ref I) s):wpAny (model prog w) A (pyIter (.ref I)) Q E s:=by
 refine wpAny_pyIter_slot (si_type hI) slot_si_iter (wpAny_call_entry slot_si_iter (si_type hI) entry_si_iter ?_ (args_si_iter _))
 show wpAny _ _ (ret (.ref I)) _ _ s
 exact Qc ⟨_,rfl,"set_iterator",_,si_type hI,slot_si_next.lookup,h⟩
theorem wk_text (hh:A.handled=none) (hne:S≠I) (hb:byTxt w=true):Walks prog w A I [I,S] [I] es.size (fun i v=>((pickOrder (w.params.setOrder S ep) es).toList.map (·.2))[i]?=some v) (fun i h=>h.get? I=some (siObj (.int 0 0) i S es.size ep)/\SW w h S o es ep t) where
 sub:=fun b hb=>by simp at hb;simp [hb]
 frame:=fun i h h' st k=>⟨k I (by simp) _ st.1,st.2.at fun o e=>k S (by simp) o e⟩
 item:=fun i s Q E hi st hQ=>by
  have hl:(pickOrder (w.params.setOrder S ep) es).size=es.size:=by simpa using (pick_perm (w.params.setOrder S ep) es).length_eq
  have e:(pickOrder (w.params.setOrder S ep) es)[i]?=some (pickOrder (w.params.setOrder S ep) es)[i]:=Array.getElem?_eq_getElem (by omega)
  refine si_item (nx:=0) (x:=(pickOrder (w.params.setOrder S ep) es)[i].2) st.1 st.2 (fun A E Q q=>sn_text hb st.2 (by rw [e];exact q)) fun h' h1 sb=>?_
  refine hQ _ h' s.toks ?_ ⟨h1,st.2.at fun o e=>(sb.2 S hne).trans e⟩ fun b o hb e=>(sb.2 b (by simpa using hb)).trans e
  rw [Ql,Array.getElem?_toList,e]
  rfl
 done:=fun s Q E st hQ=>by
  have hl:(pickOrder (w.params.setOrder S ep) es).size=es.size:=by simpa using (pick_perm (w.params.setOrder S ep) es).length_eq
  refine si_end hh st.1 st.2 (fun A E Q q=>sn_text hb st.2 (by rw [Array.getElem?_eq_none (by omega)];exact q)) fun h' eb=>?_
  exact hQ h' s.toks fun b o hb e=>eb b o (by simpa using hb) e
 self:=fun i s Q E st q=>si_self st.1 q
theorem below_one {j:Nat} {p:Array Nat} (hp:p=#[j]):SetTable.below p 0=0/\SetTable.below p (j+1)=1:=by
 subst hp
 constructor
 ·simp [SetTable.below,SetTable.below.go]
 ·simp [SetTable.below,SetTable.below.go]
theorem wk_one (hh:A.handled=none) (hne:S≠I) (hb:byTxt w=false) (hz:es.size<=1):Walks prog w A I [I,S] [I] es.size (fun i v=>(es.toList.map (·.2))[i]?=some v) (fun i h=>∃ slot:Nat,(i=0->slot=0)/\(0<i->∀ j:Nat,t.place[0]?=some j->slot=j+1)/\h.get? I=some (siObj (.int slot 0) i S es.size ep)/\SW w h S o es ep t) where
 sub:=fun b hb=>by simp at hb;simp [hb]
 frame:=fun i h h' hsl62 k=>by obtain ⟨sl,a,b,c,d⟩:=hsl62;exact ⟨sl,a,b,k I (by simp) _ c,d.at fun o e=>k S (by simp) o e⟩
 item:=fun i s Q E hi ⟨sl,a,b,c,d⟩ hQ=>by
  have hi0:i=0:=by omega
  subst hi0
  have hsl:=a rfl
  subst hsl
  have hf:t.place.size=es.size:=by have:=d.ft;unfold SetTable.fits at this;simp at this;exact this.1
  have hn:es.size=1:=by omega
  obtain ⟨j,hj⟩:∃ j,t.place=#[j]:=by
   refine ⟨t.place[0]'(by omega),?_⟩
   refine Array.ext (by simp;omega) fun k h1 h2=>?_
   have:k=0:=by omega
   subst this
   rfl
  have e:es[0]?=some es[0]:=Array.getElem?_eq_getElem (by omega)
  refine si_item (nx:=j+1) (x:=es[0].2) c d (fun A E Q q=>sn_one hb hz d (by rw [(below_one hj).1,e,hj];exact q)) fun h' h1 sb=>?_
  refine hQ _ h' s.toks (by rw [Ql,Array.getElem?_toList,e];rfl) ⟨j+1,fun z=>absurd z (by omega),fun _ j' h=>by rw [hj] at h;simp at h;omega,h1,d.at fun o e=>(sb.2 S hne).trans e⟩ fun b o hb e=>(sb.2 b (by simpa using hb)).trans e
 done:=fun s Q E ⟨sl,a,b,c,d⟩ hQ=>by
  have hf:t.place.size=es.size:=by have:=d.ft;unfold SetTable.fits at this;simp at this;exact this.1
  refine si_end hh c d (fun A E Q q=>sn_one hb hz d ?_) fun h' eb=>hQ h' s.toks fun b o hb e=>eb b o (by simpa using hb) e
  have e:es[SetTable.below t.place sl]?=none:=by
   by_cases h0:es.size=0
   ·exact Array.getElem?_eq_none (by omega)
   ·obtain ⟨j,hj⟩:∃ j,t.place=#[j]:=by
     refine ⟨t.place[0]'(by omega),?_⟩
     refine Array.ext (by simp;omega) fun k h1 h2=>?_
     have:k=0:=by omega
     subst this
     rfl
    rw [b (by omega) j (by rw [hj];rfl),(below_one hj).2]
    exact Array.getElem?_eq_none (by omega)
  rw [e]
  exact q
 self:=fun i s Q E hsl63 q=>by obtain ⟨sl,a,b,c,d⟩:=hsl63;exact si_self c q
theorem wk_drawn (hh:A.handled=none) (hne:S≠I) {P:Addr} (hnp:P≠I) {ys:List Nat} (hy:ys.Perm (List.range es.size)):Walks prog w A I [I,S,P] [I] es.size (fun i v=>(ys.map fun y=>(es.toList.map (·.2)).getD y .none)[i]?=some v)
  (fun i h=>h.get? I=some (siObj (.ref P) i S es.size ep)/\SW w h S o es ep t/\h.get? P=some (tpObj ys)) where
 sub:=fun b hb=>by simp at hb;simp [hb]
 frame:=fun i h h' st k=>⟨k I (by simp) _ st.1,st.2.1.at fun o e=>k S (by simp) o e,k P (by simp) _ st.2.2⟩
 item:=fun i s Q E hi st hQ=>by
  have hl:ys.length=es.size:=by simpa using hy.length_eq
  have e:ys[i]?=some ys[i]:=Qb (by omega)
  have hm:ys[i]<es.size:=List.mem_range.mp (hy.mem_iff.mp (QC _))
  have e2:es[ys[i]]?=some es[ys[i]]:=Array.getElem?_eq_getElem hm
  refine sd_item st.1 st.2.2 st.2.1 e e2 fun h' h1 sb=>?_
  refine hQ _ h' s.toks ?_ ⟨h1,st.2.1.at fun o e=>(sb.2 S hne).trans e,(sb.2 P hnp).trans st.2.2⟩ fun b o hb e=>(sb.2 b (by simpa using hb)).trans e
  rw [Ql,e]
  simp [hm]
 done:=fun s Q E st hQ=>by
  have hl:ys.length=es.size:=by simpa using hy.length_eq
  refine sd_end hh st.1 st.2.2 st.2.1 (List.getElem?_eq_none (by omega)) fun h' eb=>?_
  exact hQ h' s.toks fun b o hb e=>eb b o (by simpa using hb) e
 self:=fun i s Q E st q=>si_self st.1 q
theorem set_iterW {Q:Value->Shared->Prop} (hh:A.handled=none) (T:SW w s.heap S o es ep t) (hn:es.size<=1000)
  (k:∀ (I:Addr) (fp:List Addr) (h':Heap) (d':Drawn) (vs:List Value) (St:Nat->Heap->Prop),vs.Perm (es.toList.map (·.2))->s.heap.objs.size<=I->(∀ b∈fp,b=S∨s.heap.objs.size<=b)->(∀ b u,s.heap.get? b=some u->h'.get? b=some u) ->
   Walks prog w A I fp [I] es.size (fun i v=>vs[i]?=some v) St->St 0 h'->Q (.ref I) { s with heap:=h',drawn:=d' }):wpAny (model prog w) A (pyIter (.ref S)) Q E s:=by
 have hS:=Qq T.ob
 refine set_iter T hn (fun hc=>?_) fun hb hz ys d' hy=>?_
 ·have hne:S≠s.heap.objs.size:=Qy hS
  have fp:∀ b∈[s.heap.objs.size,S],b=S∨s.heap.objs.size<=b:=fun b hb=>by
   rcases (show b=s.heap.objs.size∨b=S by simpa using hb) with z | z
   ·exact .inr (Nat.le_of_eq z.symm)
   ·exact .inl z
  by_cases hb:byTxt w=true
  ·exact k _ _ _ s.drawn _ _ ((pick_perm (w.params.setOrder S ep) es).map _) (Qf _) fp (fun b u e=>Qd _ e) (wk_text (o:=o) (t:=t) hh hne hb) ⟨Qo _ rfl,T.at fun o e=>Qd _ e⟩
  ·have hb':byTxt w=false:=by simpa using hb
   have hz:es.size<=1:=hc.resolve_left hb
   exact k _ _ _ s.drawn _ _ (.refl _) (Qf _) fp (fun b u e=>Qd _ e) (wk_one (o:=o) (t:=t) hh hne hb' hz) ⟨0,fun _=>rfl,fun z=>absurd z (by omega),Qo _ rfl,T.at fun o e=>Qd _ e⟩
 ·have hsz:(s.heap.push (tpObj ys)).objs.size=s.heap.objs.size+1:=Heap.size_push _ _
  refine k _ [(s.heap.push (tpObj ys)).objs.size,S,s.heap.objs.size] _ d' (ys.map fun y=>(es.toList.map (·.2)).getD y .none) _ ?_ (by rw [hsz];exact Nat.le_succ _) (fun b hb=>?_) (fun b u e=>Qd _ (Qd _ e)) (wk_drawn (o:=o) (t:=t) (P:=s.heap.objs.size) hh (fun z=>by rw [hsz] at z;rw [z] at hS;exact absurd hS (Nat.not_lt.mpr (Nat.le_succ _))) (fun z=>by rw [hsz] at z;exact absurd z (Qy (Nat.lt_succ_self _))) hy) ⟨Qo _ rfl,T.at fun o e=>Qd _ (Qd _ e),Qd _ (Qo _ rfl)⟩
  ·refine (hy.map _).trans ?_
   have:=range_pick Value.none (es.toList.map (·.2))
   rw [Qi,QD] at this
   rw [this]
  ·rcases (show b=(s.heap.push (tpObj ys)).objs.size∨b=S∨b=s.heap.objs.size by simpa using hb) with z | z | z
   ·exact .inr (by rw [z,hsz];exact Nat.le_succ _)
   ·exact .inl z
   ·exact .inr (Nat.le_of_eq z.symm)
theorem set_hint {Q:Bool->Shared->Prop} (hT:s.TypeIs (.ref S) "set") (h:Q false s):wpAny (model prog w) A (Builtin.List.listLengthHint (.ref S)) Q E s:=by
 unfold Builtin.List.listLengthHint
 refine Qa (wpAny_specialOf hT PySem.F.slot_set_len.lookup ?_)
 generalize hid:("set.__len__":String)=id0
 wp_delta
 rw [show splitId id0=some ("set","__len__") from by subst hid;decide +kernel]
 subst hid
 refine Qa (wpAny_isInstance (T:="set") (b:=true) hT (by rw [isSubtype_type];kernel_rfl) ?_)
 refine wpAny_ite_split (fun hab=>absurd hab (by decide)) (fun _=>?_)
 refine wpAny_ite_split (fun _=>?_) (fun hab=>absurd (by decide +kernel) hab)
 refine Qa (wpAny_typeOf hT ?_)
 exact Qc h
theorem set_extend {R:Result->Shared->Prop} (hh:A.handled=none) (T:SW w s.heap S o es ep t) (hn:es.size<=1000) (L:Addr) (hLS:L≠S) (res:Value) (c₀:Nat) (hL:s.heap.get? L=some { cls:=.type "list",data:=.seq #[] c₀ })
  (hR:∀ h' tk d' (vs:List Value) c',(∀ b u,b≠L->s.heap.get? b=some u->h'.get? b=some u)->h'.get? L=some { cls:=.type "list",dict:=none,data:=.seq vs.toArray c',slots:=#[] }->vs.Perm (es.toList.map (·.2))->R (.ok (.ret res)) { s with heap:=h',toks:=tk,drawn:=d' }) :
  wpAny (model prog w) A.in1 (Builtin.List.listExtendWith (.ref L) (.ref S) res)
   (fun fin s'=>match fin with | .done f=>R (.ok f) s' | .again c'=>c'.quiet=true/\codeAny (model prog w) A c' R s') (fun e s'=>R (.error e) s') s:=by
 unfold Builtin.List.listExtendWith
 refine Qa (wpAny_typeOf (T:="set") T.typeIs ?_)
 have h1:Builtin.List.listSameRef (.ref L) (.ref S)=false:=by simp [Builtin.List.listSameRef,hLS]
 have h2:(Value.type "set" == Value.type "list")=false:=by decide
 have h3:(Value.type "set" == Value.type "tuple")=false:=by decide
 simp only [h1,h2,h3,Bool.or_false,Bool.false_eq_true,if_false]
 refine Qa (set_iterW (A:=A.in1) hh T hn fun I fp h1 d' vs St hp hI hfp k W st=>?_)
 have hLl:=Qq hL
 have hLf:L∉fp:=fun hm=>by
  rcases hfp L hm with z | z
  ·exact hLS z
  ·exact absurd hLl (Nat.not_lt.mpr z)
 refine Qa (wpAny_holding (set_hint ⟨o,k _ _ T.ob,T.ex.1⟩ ?_))
 have key:∀ (h:Heap) (c₁:Nat),St 0 h->(∀ b u,b≠L->s.heap.get? b=some u->h.get? b=some u)->h.get? L=some { cls:=.type "list",data:=.seq #[] c₁ } ->
   codeAny (model prog w) A (.builtin "list.extend.loop" ⟨[.ref L,.ref I,res],[]⟩) R { s with heap:=h,drawn:=d' }:=by
  intro h c₁ st k hL1
  refine codeAny_extend_loopS W.toS (Nat.le_of_lt (small1000 hn)) L hLf res es.size 0 _ #[] c₁ rfl (Qp _) st hL1 (ItemsOf.nil _) fun s' acc' c' hm hS' hacc=>?_
  rw [Moved.eq_with hm]
  have hlv:vs.length=es.size:=by simpa using hp.length_eq
  have ea:acc'=vs.toArray:=by
   refine Array.ext_getElem? fun i=>?_
   by_cases hi:i<es.size
   ·have h1:acc'[i]?=some (acc'[i]'(by rw [hacc.1];exact hi)):=Array.getElem?_eq_getElem _
    rw [h1,List.getElem?_toArray,hacc.2 i _ h1]
   ·rw [Array.getElem?_eq_none (by rw [hacc.1];omega),Array.getElem?_eq_none (by simp;omega)]
  subst ea
  refine hR s'.heap s'.toks d' vs c' (fun b u hb e=>hm.heap b u (fun hmem=>?_) (k b u hb e)) hS' hp
  rcases Qn hmem with e' | hmem
  ·exact hb e'
  ·have:=Qq e
   rw [List.mem_singleton.mp hmem] at this
   exact absurd this (Nat.not_lt.mpr hI)
 have hL1:=k _ _ hL
 refine wpAny_ite_split (fun _=>?_) (fun _=>Qc ⟨plainId_quiet PySem.F.plain_extend_loop _,key _ c₀ st (fun b u _ e=>k b u e) hL1⟩)
 refine Qa (wpAny_rule ?_)
 refine Qa ?_
 show wpAny _ _ (updateSeq L (·.push .none) >>= fun _=>updateSeq L (·.pop)) _ _ _
 refine Qa (wpAny_updateSeq hL1 rfl ?_)
 have hL2:=Heap.get?_update_self (Obj.mapSeq (·.push Value.none)) hL1 rfl
 refine wpAny_updateSeq (hz:=by seq_fits) hL2 rfl ?_
 have hL3:=Heap.get?_update_self (Obj.mapSeq (·.pop)) hL2 rfl
 refine Qc ⟨plainId_quiet PySem.F.plain_extend_loop _,key _ _ ?_ (fun b u hb e=>?_) hL3⟩
 ·refine W.frame 0 _ _ st fun b hb u e=>?_
  have hbS:b≠L:=fun h=>hLf (h ▸ hb)
  exact (Heap.get?_update_other _ _ (Ne.symm hbS)).trans ((Heap.get?_update_other _ _ (Ne.symm hbS)).trans e)
 ·exact (Heap.get?_update_other _ _ (Ne.symm hb)).trans ((Heap.get?_update_other _ _ (Ne.symm hb)).trans (k b u e))
theorem set_collect {R:List Value->Shared->Prop} (hh:A.handled=none) (T:SW w s.heap S o es ep t) (hn:es.size<=1000)
  (h:∀ h' tk d' (vs:List Value),(∀ b u,s.heap.get? b=some u->h'.get? b=some u)->vs.Perm (es.toList.map (·.2))->R vs { s with heap:=h',toks:=tk,drawn:=d' }) :
  wpAny (model prog w) A (collect (.ref S)) R E s:=by
 have hlt:=Qq T.ob
 unfold collect
 refine Qa (wpAny_runValue (codeAny_builtin entry_proto_collect' ?_))
 rw [Around.under_plainId PySem.F.plain_proto_collect _]
 show wpAny _ A.in1 (newList [] >>= fun l=>again (.builtin "list.__iadd__" ⟨[l,.ref S],[]⟩)) _ _ s
 refine Qa (wpAny_newObj_type ?_)
 refine Qc ⟨plainId_quiet PySem.F.plain_list_iadd _,codeAny_builtin entry_list_iadd' ?_⟩
 rw [Around.under_plainId PySem.F.plain_list_iadd _]
 have hS₁:(s.heap.push { cls:=.type "list",data:=.seq ([]:List Value).toArray }).get? s.heap.objs.size=some { cls:=.type "list",data:=.seq #[] }:=Qo _ rfl
 show wpAny _ A.in1 (Builtin.List.listExtendWith (.ref s.heap.objs.size) (.ref S) (.ref s.heap.objs.size)) _ _ _
 have key:=set_extend (prog:=prog) (A:=A) (s:={ s with heap:=s.heap.push { cls:=.type "list",data:=.seq ([]:List Value).toArray } })
  (R:=fun (q:Result) (s':Shared)=>∃ (h':Heap) (tk:Nat) (d':Drawn) (vs:List Value) (c':Nat),q=.ok (.ret (.ref s.heap.objs.size))/\s'={ s with heap:=h',toks:=tk,drawn:=d' } /\
   (∀ b o,s.heap.get? b=some o->h'.get? b=some o)/\h'.get? s.heap.objs.size=some { cls:=.type "list",dict:=none,data:=.seq vs.toArray c',slots:=#[] }/\vs.Perm (es.toList.map (·.2)))
  hh (T.at fun o e=>Qd _ e) hn s.heap.objs.size (Nat.ne_of_gt hlt) (.ref s.heap.objs.size) 0 hS₁
  (fun h' tk d' vs c' hk hS' hp=>⟨h',tk,d',vs,c',rfl,rfl,fun b o e=>hk b o (Qy (Qq e)) (Qd _ e),hS',hp⟩)
 refine QJ key (fun fin s' x=>?_) fun e s' x=>?_
 ·cases fin with
  | done f =>
   obtain ⟨h',tk,d',vs,c',e,rfl,hk,hS',hp⟩:=x
   cases e
   show wpAny _ A (load s.heap.objs.size >>= _) _ _ _
   refine Qa (wpAny_load hS' ?_)
   exact Qc (h h' tk d' vs hk hp)
  | again c₁ =>
   refine ⟨x.1,codeAny_mono x.2 fun q s₂ y=>?_⟩
   obtain ⟨h',tk,d',vs,c',rfl,rfl,hk,hS',hp⟩:=y
   show wpAny _ A (load s.heap.objs.size >>= _) _ _ _
   refine Qa (wpAny_load hS' ?_)
   exact Qc (h h' tk d' vs hk hp)
 ·obtain ⟨_,_,_,_,_,e',_⟩:=x
  cases e'
end
end L2
namespace L2
open PySem PySem.Spec PyProof.Rows PySem.W
structure Tot (n:Nat) (lt:Nat->Nat->Bool):Prop where
 tr:∀ i j k,i<n->j<n->k<n->lt i j=true->lt j k=true->lt i k=true
 as:∀ i j,i<n->j<n->lt i j=true->lt j i=false
 un:∀ i j,i<n->j<n->i≠j->lt i j=false->lt j i=true
structure PA' (n:Nat) (p:Array Nat):Prop where
 sz:p.size=n
 lt:∀ i,i<n->p.getD i 0<n
 ne:∀ i j,i<n->j<n->p.getD i 0=p.getD j 0->i=j
theorem getD_get {p:Array Nat} {i:Nat} (h:i<p.size):p.getD i 0=p[i]:=by simp [Array.getD,h]
theorem getD_of {p q:Array Nat} {i j:Nat} (h:p[i]?=q[j]?):p.getD i 0=q.getD j 0:=by
 rw [Array.getD_eq_getD_getElem?,Array.getD_eq_getD_getElem?,h]
theorem PA'.range (n:Nat):PA' n (List.range n).toArray:=⟨by simp,fun i h=>by rw [range_at h];exact h,fun i j hi hj e=>by rwa [range_at hi,range_at hj] at e⟩
noncomputable def Up (lt:Nat->Nat->Bool) (p:Array Nat) (m:Nat):Prop:=∀ i j,i<j->j<m->lt (p.getD i 0) (p.getD j 0)=true
noncomputable def Dn (lt:Nat->Nat->Bool) (p:Array Nat) (m:Nat):Prop:=∀ i j,i<j->j<m->lt (p.getD j 0) (p.getD i 0)=true
section
variable {n:Nat} {lt:Nat->Nat->Bool} {p:Array Nat}
theorem Up.snoc (T:Tot n lt) (h:PA' n p) {m:Nat} (hm:m+1<=n) (u:Up lt p m) (hl:0<m->lt (p.getD (m-1) 0) (p.getD m 0)=true):Up lt p (m+1):=fun i j hij hj=>by
 by_cases hjm:j<m
 ·exact u i j hij hjm
 ·have e:j=m:=by omega
  subst e
  by_cases hi:i=j-1
  ·rw [hi];exact hl (by omega)
  ·exact T.tr _ _ _ (h.lt i (by omega)) (h.lt (j-1) (by omega)) (h.lt j (by omega)) (u i (j-1) (by omega) (by omega)) (hl (by omega))
theorem Dn.snoc (T:Tot n lt) (h:PA' n p) {m:Nat} (hm:m+1<=n) (u:Dn lt p m) (hl:0<m->lt (p.getD m 0) (p.getD (m-1) 0)=true):Dn lt p (m+1):=fun i j hij hj=>by
 by_cases hjm:j<m
 ·exact u i j hij hjm
 ·have e:j=m:=by omega
  subst e
  by_cases hi:i=j-1
  ·rw [hi];exact hl (by omega)
  ·exact T.tr _ _ _ (h.lt j (by omega)) (h.lt (j-1) (by omega)) (h.lt i (by omega)) (hl (by omega)) (u i (j-1) (by omega) (by omega))
theorem asc_up (T:Tot n lt) (h:PA' n p):∀ f m,1<=m->m+f<=n->Up lt p m->∃ r,runT lt (kas_asc p f m)=r/\m<=r/\r<=m+f/\Up lt p r/\(r<m+f->lt (p.getD r 0) (p.getD (r-1) 0)=true)
 | 0,m,h1,h2,u=>⟨m,by unfold kas_asc;rfl,Qf _,Qf _,u,fun q=>absurd q (Nat.lt_irrefl _)⟩
 | f+1,m,h1,h2,u=>by
  unfold kas_asc
  show ∃ r,runT lt (if lt (p.getD m 0) (p.getD (m-1) 0)=true then _ else _)=r/\_
  cases hc:lt (p.getD m 0) (p.getD (m-1) 0) with
  | true=>exact ⟨m,by rw [if_pos rfl];rfl,Qf _,by omega,u,fun _=>hc⟩
  | false =>
   rw [if_neg (by decide)]
   have hne:p.getD m 0≠p.getD (m-1) 0:=fun e=>by have:=h.ne m (m-1) (by omega) (by omega) e;omega
   obtain ⟨r,e,a,b,c,d⟩:=asc_up T h f (m+1) (by omega) (by omega) (u.snoc T h (by omega) fun _=>T.un _ _ (h.lt m (by omega)) (h.lt (m-1) (by omega)) hne hc)
   exact ⟨r,e,by omega,by omega,c,fun q=>d (by omega)⟩
theorem desc_dn (T:Tot n lt) (h:PA' n p):∀ f m,1<=m->m+f<=n->Dn lt p m->∃ r,runT lt (kas_desc f p m 0)=(p,r,0)/\m<=r/\r<=m+f/\Dn lt p r
 | 0,m,h1,h2,u=>⟨m,by unfold kas_desc;rfl,Qf _,Qf _,u⟩
 | f+1,m,h1,h2,u=>by
  unfold kas_desc
  show ∃ r,runT lt (if lt (p.getD m 0) (p.getD (m-1) 0)=true then _ else _)=_/\_
  cases hc:lt (p.getD m 0) (p.getD (m-1) 0) with
  | true =>
   rw [if_pos rfl,if_neg (by omega)]
   obtain ⟨r,e,a,b,c⟩:=desc_dn T h f (m+1) (by omega) (by omega) (u.snoc T h (by omega) fun _=>hc)
   exact ⟨r,e,by omega,by omega,c⟩
  | false =>
   rw [if_neg (by decide)]
   have hne:p.getD m 0≠p.getD (m-1) 0:=fun e=>by have:=h.ne m (m-1) (by omega) (by omega) e;omega
   have hd:=T.un _ _ (h.lt m (by omega)) (h.lt (m-1) (by omega)) hne hc
   refine ⟨m,?_,Qf _,by omega,u⟩
   show runT lt (if lt (p.getD (m-1) 0) (p.getD m 0)=true then _ else _)=_
   rw [hd,if_pos rfl]
   rfl
theorem rev_at (hp:p.size=n) {m k:Nat} (hm:m<=n):(kas_rev p 0 m).getD k 0=if k<m then p.getD (m-1-k) 0 else p.getD k 0:=by
 have e:=getElem?_mirror (xs:=p) (i:=0) (j:=m) (by omega) ((m-0) / 2) (by omega) k
 unfold kas_rev
 by_cases h:k<m
 ·rw [if_pos h]
  by_cases h2:(0<=k/\k<0+(m-0) / 2)∨(m-(m-0) / 2<=k/\k<m)
  ·rw [if_pos h2] at e
   rw [getD_of e]
   congr 1;omega
  ·rw [if_neg h2] at e
   rw [getD_of e]
   congr 1;omega
 ·rw [if_neg h]
  rw [if_neg (by omega)] at e
  exact getD_of e
theorem PA'.rev (h:PA' n p) {m:Nat} (hm:m<=n):PA' n (kas_rev p 0 m):=by
 refine ⟨(kas_rev_size 0 m).trans h.sz,fun i hi=>?_,fun i j hi hj e=>?_⟩
 ·rw [rev_at h.sz hm]
  split
  ·exact h.lt _ (by omega)
  ·exact h.lt i hi
 ·rw [rev_at h.sz hm,rev_at h.sz hm] at e
  split at e<;>split at e
  ·have:=h.ne _ _ (by omega) (by omega) e;omega
  ·have:=h.ne _ _ (by omega) (by omega) e;omega
  ·have:=h.ne _ _ (by omega) (by omega) e;omega
  ·exact h.ne _ _ hi hj e
theorem Dn.rev (hp:p.size=n) {m:Nat} (hm:m<=n) (u:Dn lt p m):Up lt (kas_rev p 0 m) m:=fun i j hij hj=>by
 rw [rev_at hp hm,rev_at hp hm,if_pos (by omega),if_pos hj]
 exact u _ _ (by omega) (by omega)
theorem count_up (T:Tot n lt) (h:PA' n p) (h1:1<=n):∃ r q,runT lt (kas_count n p)=(r,q)/\PA' n q/\Up lt q r/\1<=r/\r<=n:=by
 obtain ⟨m,e,a,b,c,d⟩:=asc_up T h (n-1) 1 (Qf _) (by omega) (fun i j hij hj=>by omega)
 unfold kas_count
 rw [runT_bind,e]
 by_cases hm:m=n
 ·exact ⟨m,p,by rw [if_pos (by simpa using hm)];rfl,h,c,a,by omega⟩
 ·rw [if_neg (by simpa using hm)]
  by_cases hm1:m>1
  ·rw [if_pos hm1]
   refine ⟨m,p,?_,h,c,a,by omega⟩
   show runT lt (if lt (p.getD 0 0) (p.getD (m-1) 0)=true then _ else _)=_
   rw [c 0 (m-1) (by omega) (by omega),if_pos rfl]
   rfl
  ·rw [if_neg hm1]
   have em:m=1:=by omega
   subst em
   have hd:=d (by omega)
   unfold kas_descPart
   rw [runT_bind]
   obtain ⟨r,e2,a2,b2,c2⟩:=desc_dn T h (n-(1+1)) (1+1) (by omega) (by omega) (fun i j hij hj=>by
    have:i=0:=by omega
    have:j=1:=by omega
    subst_vars;exact hd)
   rw [e2]
   dsimp only
   rw [if_neg (by omega)]
   unfold kas_tail3
   rw [runT_bind]
   have hq:=h.rev (m:=r) (by omega)
   obtain ⟨s,e3,a3,b3,c3,_⟩:=asc_up T hq (n-r) r (by omega) (by omega) (c2.rev h.sz (by omega))
   rw [e3]
   exact ⟨s,_,rfl,hq,c3,by omega,by omega⟩
theorem place_at (T:Tot n lt) (h:PA' n p) {k:Nat} (hk:k<n) (u:Up lt p k):∀ f l r,l<=r->r<=k->r-l<=f->(∀ i,i<l->lt (p.getD i 0) (p.getD k 0)=true)->(∀ i,r<=i->i<k->lt (p.getD k 0) (p.getD i 0)=true) ->
  ∃ x,runT lt (kas_place p k f l r)=x/\x<=k/\(∀ i,i<x->lt (p.getD i 0) (p.getD k 0)=true)/\(∀ i,x<=i->i<k->lt (p.getD k 0) (p.getD i 0)=true)
 | 0,l,r,h1,h2,h3,h4,h5=>⟨l,by unfold kas_place;rfl,by omega,h4,fun i a b=>h5 i (by omega) b⟩
 | f+1,l,r,h1,h2,h3,h4,h5=>by
  unfold kas_place
  by_cases hlr:l ≥ r
  ·exact ⟨l,by rw [if_pos hlr];rfl,by omega,h4,fun i a b=>h5 i (by omega) b⟩
  ·rw [if_neg hlr]
   show ∃ x,runT lt (if lt (p.getD k 0) (p.getD ((l+r) / 2) 0)=true then _ else _)=x/\_
   have hmid:(l+r) / 2<k:=by omega
   cases hc:lt (p.getD k 0) (p.getD ((l+r) / 2) 0) with
   | true =>
    rw [if_pos rfl]
    refine place_at T h hk u f l ((l+r) / 2) (by omega) (by omega) (by omega) h4 fun i a b=>?_
    by_cases e:i=(l+r) / 2
    ·rw [e];exact hc
    ·exact T.tr _ _ _ (h.lt k hk) (h.lt _ (by omega)) (h.lt i (by omega)) hc (u _ i (by omega) b)
   | false =>
    rw [if_neg (by decide)]
    have hne:p.getD k 0≠p.getD ((l+r) / 2) 0:=fun e=>by have:=h.ne k _ hk (by omega) e;omega
    have hd:=T.un _ _ (h.lt k hk) (h.lt _ (by omega)) hne hc
    refine place_at T h hk u f ((l+r) / 2+1) r (by omega) h2 (by omega) (fun i a=>?_) h5
    by_cases e:i=(l+r) / 2
    ·rw [e];exact hd
    ·exact T.tr _ _ _ (h.lt i (by omega)) (h.lt _ (by omega)) (h.lt k hk) (u i _ (by omega) hmid) hd
theorem bub_at (hp:p.size=n) {k d:Nat} (hk:k<n) (hd:d<=k) (j:Nat):(bubble p k d).getD j 0=if j=k-d then p.getD k 0 else if k-d<j/\j<=k then p.getD (j-1) 0 else p.getD j 0:=by
 have e:=getElem?_bubble (xs:=p) (src:=k) (by omega) d hd j
 split at e
 ·rw [if_pos (by assumption)];exact getD_of e
 ·rw [if_neg (by assumption)]
  split at e
  ·rw [if_pos (by assumption)];exact getD_of e
  ·rw [if_neg (by assumption)];exact getD_of e
theorem PA'.bub (h:PA' n p) {k d:Nat} (hk:k<n) (hd:d<=k):PA' n (bubble p k d):=by
 refine ⟨(bubble_size p k d).trans h.sz,fun i hi=>?_,fun i j hi hj e=>?_⟩
 ·rw [bub_at h.sz hk hd]
  split
  ·exact h.lt k hk
  ·split
   ·exact h.lt _ (by omega)
   ·exact h.lt i hi
 ·rw [bub_at h.sz hk hd,bub_at h.sz hk hd] at e
  split at e<;>split at e<;>(try split at e)<;>(try split at e)<;>first | omega | (have:=h.ne _ _ (by omega) (by omega) e;omega)
theorem bin_up (T:Tot n lt):∀ f {p:Array Nat} (k:Nat),PA' n p->k+f=n->1<=k->Up lt p k->∃ q,runT lt (kas_bin f p k)=q/\PA' n q/\Up lt q n
 | 0,p,k,h,e,_,u=>by
  have hkn:k=n:=by omega
  subst hkn
  exact ⟨p,by unfold kas_bin;rfl,h,u⟩
 | f+1,p,k,h,e,h1,u=>by
  have hk:k<n:=by omega
  obtain ⟨x,ex,a,b,c⟩:=place_at T h hk u k 0 k (Qp _) (Qf _) (by omega) (fun i q=>absurd q (Nat.not_lt_zero _)) (fun i q1 q2=>by omega)
  unfold kas_bin
  rw [runT_bind,ex]
  refine bin_up T f (k+1) (h.bub hk (by omega)) (by omega) (by omega) fun i j hij hj=>?_
  rw [bub_at h.sz hk (by omega),bub_at h.sz hk (by omega)]
  have e1:k-(k-x)=x:=by omega
  rw [e1]
  by_cases hi:i=x
  ·rw [if_pos hi,if_neg (by omega),if_pos (by omega)]
   exact c _ (by omega) (by omega)
  ·rw [if_neg hi]
   by_cases hj':j=x
   ·rw [if_pos hj',if_neg (by omega)]
    exact b i (by omega)
   ·rw [if_neg hj']
    by_cases hix:x<i/\i<=k
    ·rw [if_pos hix,if_pos (by omega)]
     exact u _ _ (by omega) (by omega)
    ·rw [if_neg hix]
     by_cases hjx:x<j/\j<=k
     ·rw [if_pos hjx]
      by_cases e2:i=j-1
      ·omega
      ·exact u _ _ (by omega) (by omega)
     ·rw [if_neg hjx]
      exact u _ _ hij (by omega)
theorem sort_up (T:Tot n lt) (h1:1<=n):∃ q,runT lt (kas_sort n)=q/\PA' n q/\Up lt q n:=by
 obtain ⟨r,q,e,a,b,c,d⟩:=count_up T (PA'.range n) h1
 unfold kas_sort
 rw [runT_bind,e]
 dsimp only
 by_cases hr:r<n
 ·rw [if_pos hr,show max r 1=r by omega]
  exact bin_up T (n-r) r a (by omega) c b
 ·rw [if_neg hr]
  have:r=n:=by omega
  subst this
  exact ⟨q,rfl,a,b⟩
end
end L2
namespace L2
open PySem PySem.Spec PyProof.Rows PySem.W
theorem str_of_cps {a c:Str} (h:a.cps.toList=c.cps.toList):a=c:=by
 obtain ⟨x⟩:=a
 obtain ⟨y⟩:=c
 have:x=y:=Array.toList_inj.mp h
 rw [this]
theorem ltK_tr {a b c:Key} (h:ltK a b=true) (g:ltK b c=true):ltK a c=true:=by
 cases a<;>cases b<;>cases c<;>simp only [ltK,decide_eq_true_eq] at*<;>first | omega | exact List.lt_trans h g | cases h | cases g
theorem ltK_as {a b:Key} (h:ltK a b=true):ltK b a=false:=by
 cases a<;>cases b<;>simp only [ltK,decide_eq_true_eq,decide_eq_false_iff_not] at*<;>first | omega | exact List.lt_asymm h | cases h
theorem ltK_un {a b:Key} (hs:isI a=isI b) (hn:a≠b) (h:ltK a b=false):ltK b a=true:=by
 cases a<;>cases b<;>simp only [ltK,decide_eq_true_eq,decide_eq_false_iff_not] at *
 ·rename_i i j
  have:i≠j:=fun e=>hn (by rw [e])
  omega
 ·cases hs
 ·cases hs
 ·rename_i x y
  refine Classical.byContradiction fun g=>hn ?_
  rw [str_of_cps (List.le_antisymm (List.not_lt.mp g) (List.not_lt.mp h))]
theorem ltT_tr:∀ {a b c:List Key},ltT a b=true->ltT b c=true->ltT a c=true
 | a::r,b::q,c::p,h,g=>by
  unfold ltT at h g ⊢
  by_cases e1:a=b
  ·subst e1
   rw [if_pos rfl] at h
   by_cases e2:a=c
   ·subst e2
    rw [if_pos rfl] at g ⊢
    exact ltT_tr h g
   ·rw [if_neg e2] at g ⊢
    exact g
  ·rw [if_neg e1] at h
   by_cases e2:b=c
   ·subst e2
    rw [if_neg e1]
    exact h
   ·rw [if_neg e2] at g
    have e3:a≠c:=fun z=>by
     subst z
     rw [ltK_as h] at g
     cases g
    rw [if_neg e3]
    exact ltK_tr h g
 | [],_,_,h,_=>by unfold ltT at h;cases h
 | _::_,[],_,h,_=>by unfold ltT at h;cases h
 | _::_,_::_,[],_,g=>by unfold ltT at g;cases g
theorem ltT_as:∀ {a b:List Key},ltT a b=true->ltT b a=false
 | a::r,b::q,h=>by
  unfold ltT at h ⊢
  by_cases e1:a=b
  ·subst e1
   rw [if_pos rfl] at h ⊢
   exact ltT_as h
  ·rw [if_neg e1] at h
   rw [if_neg (Ne.symm e1)]
   exact ltK_as h
 | [],_,h=>by unfold ltT at h;cases h
 | _::_,[],h=>by unfold ltT at h;cases h
theorem ltT_un:∀ {a b:List Key},a.map isI=b.map isI->a≠b->ltT a b=false->ltT b a=true
 | a::r,b::q,hs,hn,h=>by
  unfold ltT at h ⊢
  have hs':=List.cons.inj hs
  by_cases e1:a=b
  ·subst e1
   rw [if_pos rfl] at h ⊢
   exact ltT_un hs'.2 (fun z=>hn (by rw [z])) h
  ·rw [if_neg e1] at h
   rw [if_neg (Ne.symm e1)]
   exact ltK_un hs'.1 e1 h
 | [],[],_,hn,_=>absurd rfl hn
 | [],_::_,hs,_,_=>by cases hs
 | _::_,[],hs,_,_=>by cases hs
theorem asc_one:∀ {a b:List (List Key)},a.Pairwise (fun x y=>ltT x y=true)->b.Pairwise (fun x y=>ltT x y=true)->(∀ d,d∈a↔d∈b)->a=b
 | [],[],_,_,_=>rfl
 | [],y::b,_,_,h=>nomatch (h y).mpr Qk
 | x::a,[],_,_,h=>nomatch (h x).mp Qk
 | x::a,y::b,ha,hb,h=>by
  have ha':=List.pairwise_cons.mp ha
  have hb':=List.pairwise_cons.mp hb
  have e:x=y:=by
   rcases Qn ((h x).mp Qk) with e | h1
   ·exact e
   ·rcases Qn ((h y).mpr Qk) with e | h2
    ·exact e.symm
    ·have g1:=hb'.1 x h1
     have g2:=ha'.1 y h2
     rw [ltT_as g1] at g2
     cases g2
  subst e
  have nx:∀ {l:List (List Key)},(∀ z∈l,ltT x z=true)->x∉l:=fun hl hm=>by
   have:=hl x hm
   have g:=ltT_as this
   rw [this] at g
   cases g
  rw [asc_one ha'.2 hb'.2 fun d=>?_]
  constructor
  ·intro hd
   rcases Qn ((h d).mp (Qg _ hd)) with e | g
   ·subst e;exact absurd hd (nx ha'.1)
   ·exact g
  ·intro hd
   rcases Qn ((h d).mpr (Qg _ hd)) with e | g
   ·subst e;exact absurd hd (nx hb'.1)
   ·exact g
theorem small_len:∀ (n:Nat) (l:List Nat),l.Nodup->(∀ i∈l,i<n)->l.length<=n
 | 0,l,_,h=>by
  cases l with
  | nil=>exact Qf _
  | cons a r=>exact absurd (h a Qk) (Nat.not_lt_zero _)
 | n+1,l,nd,h=>by
  have:=small_len n (l.erase n) (nd.sublist List.erase_sublist) fun i hi=>by
   have h1:=h i (List.mem_of_mem_erase hi)
   have h2:i≠n:=fun e=>by
    subst e
    exact (List.Nodup.not_mem_erase nd) hi
   omega
  have h3:=List.length_erase (a:=n) (l:=l)
  split at h3<;>omega
theorem srt_un {ds:List (List Key)} {sh:List Bool} (hsh:∀ d∈ds,d.map isI=sh) (nd:ds.Nodup) :
  ((srtI ds).map fun i=>ds.getD i []).Pairwise (fun x y=>ltT x y=true)/\(∀ i∈srtI ds,i<ds.length)/\∀ j,j<ds.length->j∈srtI ds:=by
 unfold srtI
 by_cases h2:ds.length<2
 ·rw [if_pos h2]
  refine ⟨?_,fun i hi=>List.mem_range.mp hi,fun j hj=>List.mem_range.mpr hj⟩
  match ds,h2 with
  | [],_=>exact .nil
  | [a],_=>exact List.pairwise_singleton ..
 ·rw [if_neg h2]
  have gd:∀ i,i<ds.length->ds.getD i []∈ds:=fun i hi=>by
   rw [Qe,Qb hi]
   exact QC hi
  have T:Tot ds.length (ordN ds):=⟨fun i j k hi hj hk a b=>ltT_tr a b,fun i j hi hj a=>ltT_as a,fun i j hi hj hn a=>by
   refine ltT_un ((hsh _ (gd i hi)).trans (hsh _ (gd j hj)).symm) (fun e=>hn ?_) a
   rw [Qe,Qe,Qb hi,Qb hj] at e
   have pw:=List.pairwise_iff_getElem.mp nd
   rcases Nat.lt_trichotomy i j with g | g | g
   ·exact absurd e (pw i j hi hj g)
   ·exact g
   ·exact absurd e.symm (pw j i hj hi g)⟩
  obtain ⟨q,eq,pa,up⟩:=sort_up T (by omega)
  have eq:pickN ds.length (ordN ds)=q:=eq
  rw [eq]
  have hq:∀ i (h:i<q.toList.length),q.toList[i]=q.getD i 0:=fun i h=>by
   rw [QD] at h
   rw [getD_get h]
   exact Array.getElem_toList ..
  have hl:q.toList.length=ds.length:=by rw [QD];exact pa.sz
  have lt:∀ i∈q.toList,i<ds.length:=fun i hi=>by
   obtain ⟨k,hk,rfl⟩:=List.mem_iff_getElem.mp hi
   rw [hq k hk]
   exact pa.lt k (by omega)
  have ndq:q.toList.Nodup:=by
   refine List.pairwise_iff_getElem.mpr fun i j hi hj hij e=>?_
   rw [hq i hi,hq j hj] at e
   have:=pa.ne i j (by omega) (by omega) e
   omega
  refine ⟨?_,lt,fun j hj=>Classical.byContradiction fun hn=>?_⟩
  ·rw [List.pairwise_map]
   refine List.pairwise_iff_getElem.mpr fun i j hi hj hij=>?_
   rw [hq i hi,hq j hj]
   exact up i j hij (by omega)
  ·have:=small_len ds.length (j::q.toList) (List.nodup_cons.mpr ⟨hn,ndq⟩) fun i hi=>by
    rcases Qn hi with e | h
    ·omega
    ·exact lt i h
   rw [List.length_cons] at this
   omega
end L2
namespace L2
open PySem PySem.Spec PyProof.Rows PySem.W
noncomputable def kzOf (bs:List Addr) (ds:List (List Key)):Value->List Key
 | .ref b=>((bs.zip ds).lookup b).getD []
 | _=>[]
noncomputable def valD (ds:List (List Key)) (i:Nat):List Key:=ds.getD i []
noncomputable def SetTp (w:World) (q:Addr) (bs:List Addr) (ds:List (List Key)):HO:=.ext fun h=>∃ o es ep t,SW w h q o es ep t/\(∀ e∈es.toList,∃ b∈bs,e.2=.ref b)/\(es.toList.map fun e=>kzOf bs ds e.2).Perm (metT (valD ds) ds.length)
theorem lookup_zip {H:Hp}:∀ {bs:List Addr} {ds:List (List Key)},TupsAt H (bs.map V.ref) ds->∀ (i:Nat) (b:Addr) (d:List Key),bs[i]?=some b->ds[i]?=some d->(bs.zip ds).lookup b=some d
 | [],_,_,i,b,d,h,_=>by simp at h
 | c::bs,[],_,i,b,d,_,h=>by simp at h
 | c::bs,e::ds,T,i,b,d,h1,h2=>by
  show (match b == c with | true=>some e | false=>(bs.zip ds).lookup b)=some d
  have T':TupsAt H (bs.map V.ref) ds:=⟨by have:=T.1;simpa using this,fun i x k hx hk=>T.2 (i+1) x k hx hk⟩
  by_cases hc:b=c
  ·subst hc
   simp only [BEq.rfl]
   obtain ⟨t0,g0,g1⟩:=T.2 0 (.ref b) e rfl rfl
   cases g0
   obtain ⟨t1,g2,g3⟩:=T.2 i (.ref b) d (by rw [Ql,h1];rfl) h2
   cases g2
   rw [g1] at g3
   injection g3 with g3
   injection g3 with g3
   rw [kVs_inj g3]
  ·rw [show (b == c)=false from beq_eq_false_iff_ne.mpr hc]
   cases i with
   | zero=>simp at h1;exact absurd h1.symm hc
   | succ i=>exact lookup_zip T' i b d (by simpa using h1) (by simpa using h2)
section
variable {X:Cx}
theorem isTk_of {X:Cx} {pins:List (Addr × Obj)} {σ:St} {H:Hp} {s:Shared} (I:Inv X pins σ H s) {t:Addr} {d:List Key} (h:H t=some (.tup (d.map kV))):IsTk X.prog X.w s.heap d t:=by
 obtain ⟨o,vs,n,ho,hc,hd,rv⟩:=tups_heap I h
 refine ⟨o,vs.toArray,n,ho,hc,hd,?_⟩
 have go:∀ {d:List Key} {vs:List Value},Vals (d.map kV) vs->ItemsAre (mixKind X.prog X.w) d vs:=by
  intro d
  induction d with
  | nil=>intro vs r;cases r;exact .nil
  | cons k d ih =>
   intro vs r
   cases r with
   | cons r1 r2 =>
    refine .cons ?_ (ih r2)
    cases k with
    | inl i=>obtain ⟨t,rfl⟩:=(show ∃ t,_=Value.int i t from r1);exact mixKind_int ..
    | inr x=>obtain ⟨t,rfl⟩:=(show ∃ t,_=Value.str x t from r1);exact mixKind_str ..
 exact go (by simpa using rv)
theorem vals_ref:∀ {bs:List Addr} {vs:List Value},Vals (bs.map V.ref) vs->vs=bs.map Value.ref
 | [],vs,h=>by cases h;rfl
 | b::bs,vs,h=>by
  cases h with
  | cons r1 r2 =>
   have:_=Value.ref b:=r1
   rw [this,vals_ref r2]
   rfl
theorem vals_of_ref:∀ (bs:List Addr),Vals (bs.map V.ref) (bs.map Value.ref)
 | []=>.nil
 | b::bs=>.cons rfl (vals_of_ref bs)
theorem call_setTp {K:PySem.W.Frag} (hK:X.K=K) (hc:X.calm=true) (hu:X.A.units+1+1+1<cLine):CallR X (.type "set") (fun as H Q=>∃ (p:Addr) (bs:List Addr) (ds:List (List Key)),as=[.ref p]/\SqL K H p (bs.map V.ref)/\TupsAt H (bs.map V.ref) ds/\(∀ d∈ds,hasTxt d)/\bs.length<=75/\∀ q,H q=none->Q (.ref q) (upd H q (SetTp X.w q bs ds))):=by
 intro pins s σ H as us Q I r h
 subst hK
 obtain ⟨p,bs,ds,rfl,hq,ht,htx,hl,q⟩:=h
 obtain ⟨u,rfl,ru⟩:=vals1 r
 cases (show u=Value.ref p from ru)
 obtain ⟨its,rv,pl,hz⟩:=I.list hq
 have eits:=vals_ref rv
 subst eits
 have hbd:bs.length=ds.length:=by have:=ht.1;simpa using this
 have hsz:(bs.map Value.ref).toArray.size=bs.length:=by simp
 refine set_listTp (kz:=kzOf bs ds) (M:=fun b=>b∈bs) (val:=valD ds) (I.ok.hd hc) hu pl.isList (fun i v hi hv=>?_) (fun i hi=>?_) fun h' tk hS hk=>?_
 ·rw [hsz] at hi
  have hb:=Qb hi
  have hd:=Qb (show i<ds.length by omega)
  have ev:v=.ref bs[i]:=by
   rw [List.getElem?_toArray,Ql,hb] at hv
   exact (Qr hv).symm
  have ed:valD ds i=ds[i]:=by unfold valD;rw [Qe,hd];rfl
  refine ⟨bs[i],ev,?_,?_,?_⟩
  ·rw [ev,ed]
   unfold kzOf
   dsimp only
   rw [lookup_zip ht i _ _ hb hd]
   rfl
  ·rw [ed];exact htx _ (QC _)
  ·rw [ed]
   obtain ⟨t,e1,e2⟩:=ht.2 i (.ref bs[i]) ds[i] (by rw [Ql,hb];rfl) hd
   cases e1
   exact ⟨isTk_of I e2,QC _⟩
 ·rw [hsz] at hi
  have:=metT_le (valD ds) i
  omega
 ·rw [hsz,hbd] at hS
  have k2:∀ b u,s.heap.get? b=some u->h'.get? b=some u:=fun b u e=>hk b u (Qq e) e
  obtain ⟨o,es,ep,t,L,T⟩:=hS
  have hes:=T.tb.size.2
  have sw:SW X.w h' s.heap.objs.size o es ep t:=⟨T.ob,T.ex,T.da,tbl_fits T.tb,T.ld,T.pl.imp (fun z=>by rw [hes];exact z) id⟩
  refine ⟨.ref s.heap.objs.size,_,I.laid (t':=tk) (o:=SetTp X.w s.heap.objs.size bs ds) k2 (Qf _) ⟨⟨o,es,ep,t,sw,fun e he=>?_,?_⟩,⟨o,T.ob⟩,fun h1 h2 hsl64 kk=>by obtain ⟨o,es,ep,t,S,a,b⟩:=hsl64;exact ⟨o,es,ep,t,S.at kk,a,b⟩⟩,rfl,q _ I.fresh⟩
  ·rw [T.tb.el] at he
   obtain ⟨p,hp,rfl⟩:=QF he
   obtain ⟨_,b,e2,_,_,hb⟩:=T.el p hp
   exact ⟨b,hb,e2⟩
  ·rw [T.tb.el,List.map_map]
   exact T.pm
theorem call_sortedTp (hc:X.calm=true):CallR X (.builtin "sorted") (fun as H Q=>∃ (q0:Addr) (bs:List Addr) (ds:List (List Key)) (sh:List Bool),as=[.ref q0]/\H q0=some (SetTp X.w q0 bs ds)/\TupsAt H (bs.map V.ref) ds/\(∀ d∈ds,d.map isI=sh)/\sh≠[]/\bs.length<64 /\
  ∀ (p:Addr) (cs:List Addr) (es:List (List Key)),H p=none->TupsAt H (cs.map V.ref) es->es.Pairwise (fun x y=>ltT x y=true)->(∀ d,d∈es↔d∈ds)->Q (.ref p) (upd H p (.lst (cs.map V.ref)))):=by
 intro pins s σ H as us Q I r h
 obtain ⟨q0,bs,ds,sh,rfl,hq0,ht,hsh,hne,h64,q⟩:=h
 obtain ⟨u,rfl,ru⟩:=vals1 r
 cases (show u=Value.ref q0 from ru)
 obtain ⟨⟨o,es,ep,t,S,hin,hpm⟩,_,_⟩:=I.hok q0 _ hq0
 have hbd:bs.length=ds.length:=by have:=ht.1;simpa using this
 have hml:=metT_le (valD ds) ds.length
 have hel:es.size<=1000:=by
  have:=hpm.length_eq
  simp at this
  omega
 refine Calls.call_function_entry kind_sorted plain_sorted entry_sorted (args_sorted1 _) ?_
 unfold Builtin.«sorted»
 refine Qa (m:=checkCount "sorted" 1 1 _) (Qc ?_)
 refine Qa (set_collect (I.ok.hd hc) S hel fun h1 tk d' vs hk hp=>?_)
 have I1:Inv X pins σ H { s with heap:=h1,toks:=tk,drawn:=d' }:=let J:=I.kept (t':=tk) hk;⟨J.ok,J.os,J.bare,J.base,J.loc,J.cell,J.free,J.freeC,J.pin,J.hok,J.len⟩
 obtain ⟨bs',ebs,hbs'⟩:∃ bs':List Addr,vs=bs'.map Value.ref/\∀ b∈bs',b∈bs:=by
  have hv:∀ v∈vs,∃ b∈bs,v=.ref b:=fun v hv=>by
   obtain ⟨e,he,rfl⟩:=QF (hp.mem_iff.mp hv)
   exact hin e he
  have go:∀ vs:List Value,(∀ v∈vs,∃ b∈bs,v=.ref b)->∃ bs':List Addr,vs=bs'.map Value.ref/\∀ b∈bs',b∈bs:=by
   intro vs
   induction vs with
   | nil=>intro _;exact ⟨[],rfl,fun b hb=>(nomatch hb)⟩
   | cons v vs ih =>
    intro h
    obtain ⟨b,hb,rfl⟩:=h v Qk
    obtain ⟨bs',e,hall⟩:=ih fun u hu=>h u (Qg _ hu)
    exact ⟨b::bs',by rw [e];rfl,fun c hc=>(Qn hc).elim (fun z=>by rw [z];exact hb) (hall c)⟩
  exact go vs hv
 have hkey:∀ b∈bs,∃ d∈ds,kzOf bs ds (.ref b)=d/\H b=some (.tup (d.map kV)):=fun b hb=>by
  obtain ⟨i,hi⟩:=List.mem_iff_getElem?.mp hb
  have hil:=(Qh hi).1
  have hd:=Qb (show i<ds.length by omega)
  obtain ⟨t,e1,e2⟩:=ht.2 i (.ref b) ds[i] (by rw [Ql,hi];rfl) hd
  cases e1
  refine ⟨ds[i],QC _,?_,e2⟩
  unfold kzOf
  dsimp only
  rw [lookup_zip ht i _ _ hi hd]
  rfl
 have edp:(bs'.map fun b=>kzOf bs ds (.ref b)).Perm (metT (valD ds) ds.length):=by
  have h2:(vs.map (kzOf bs ds)).Perm ((es.toList.map (·.2)).map (kzOf bs ds)):=hp.map _
  rw [ebs,List.map_map,List.map_map] at h2
  exact h2.trans hpm
 have hmem:∀ d,d∈(bs'.map fun b=>kzOf bs ds (.ref b))↔d∈ds:=fun d=>by
  rw [edp.mem_iff,metT_mem]
  constructor
  ·rintro ⟨j,hj,rfl⟩
   unfold valD
   rw [Qe,Qb hj]
   exact QC hj
  ·intro hd
   obtain ⟨j,hj,rfl⟩:=List.mem_iff_getElem.mp hd
   exact ⟨j,hj,by unfold valD;rw [Qe,Qb hj];rfl⟩
 have ndp:(bs'.map fun b=>kzOf bs ds (.ref b)).Nodup:=edp.nodup_iff.mpr (metT_nodup _ _)
 have ht':TupsAt H (bs'.map V.ref) (bs'.map fun b=>kzOf bs ds (.ref b)):=⟨by simp,fun i x k hx hk=>by
  rw [Ql] at hx hk
  obtain ⟨b,hb,rfl⟩:=Option.map_eq_some_iff.mp hx
  rw [hb] at hk
  obtain ⟨d,_,e1,e2⟩:=hkey b (hbs' b (Qs hb))
  have:kzOf bs ds (.ref b)=k:=Qr hk
  exact ⟨b,rfl,by rw [<- this,e1];exact e2⟩⟩
 have hl':bs'.length<64:=by
  have:=edp.length_eq
  rw [Qi] at this
  omega
 generalize hds':(bs'.map fun b=>kzOf bs ds (.ref b))=ds' at edp hmem ndp ht'
 have hdl:bs'.length=ds'.length:=by rw [<- hds'];simp
 have hsh':∀ d∈ds',d.map isI=sh:=fun d hd=>hsh d ((hmem d).mp hd)
 obtain ⟨u1,u2,u3⟩:=srt_un hsh' ndp
 subst ebs
 have rv:Vals (bs'.map V.ref) (bs'.map Value.ref):=vals_of_ref bs'
 have hz:(bs'.map Value.ref).length<=sizeLine:=by rw [Qi];exact Nat.le_of_lt (small1000 (by omega))
 refine Qa (wpAny_newList (s:={ s with heap:=h1,toks:=tk,drawn:=d' }) ?_ hz)
 have hoL:(h1.push (seqObj "list" (bs'.map Value.ref).toArray 0)).get? h1.objs.size=some (seqObj "list" (bs'.map Value.ref).toArray 0):=Qo _ rfl
 have I2:Inv X pins σ H { s with heap:=h1.push (seqObj "list" (bs'.map Value.ref).toArray 0),toks:=tk,drawn:=d' }:=I1.kept (t':=tk) fun b o e=>Qd _ e
 have fL:FpOk X pins H h1.objs.size:=I1.fpOk (Qf _) (I1.hok.fresh (Qf _))
 change wpAny _ _ _ _ _ { s with heap:=h1.push (seqObj "list" (bs'.map Value.ref).toArray 0),toks:=tk,drawn:=d' }
 dsimp only
 generalize h1.push (seqObj "list" (bs'.map Value.ref).toArray 0)=h2 at hoL I2
 generalize h1.objs.size=LL at hoL fL
 refine Qa (wpAny_holding (wpAny_call_entry (s:={ s with heap:=h2,toks:=tk,drawn:=d' }) slot_list_sort ⟨_,hoL,rfl⟩ entry_list_sort (lsortT I2 fL hoL rv (by rw [Qi];exact Nat.le_of_lt (small1000 (by omega))) (by rw [Qi];exact hl') ht' hsh' hne fun s' out n' I' hoa hos vy=>⟨_,rfl,?_⟩) (args_list_sort _)))
 have esr:srt ds' (bs'.map V.ref)=((srtI ds').map fun i=>bs'.getD i 0).map V.ref:=by
  unfold srt
  rw [List.map_map]
  refine List.map_congr_left fun i hi=>?_
  have hib:i<bs'.length:=by rw [hdl];exact u2 i hi
  show (bs'.map V.ref).getD i .non=V.ref (bs'.getD i 0)
  rw [Qe,Qe,Ql,Qb hib]
  rfl
 have hmE:∀ d,d∈((srtI ds').map fun i=>ds'.getD i [])↔d∈ds:=fun d=>by
  rw [<- hmem d,List.mem_map]
  constructor
  ·rintro ⟨i,hi,rfl⟩
   rw [Qe,Qb (u2 i hi)]
   exact QC _
  ·intro hd
   obtain ⟨j,hj,rfl⟩:=List.mem_iff_getElem.mp hd
   exact ⟨j,u3 j hj,by rw [Qe,Qb hj];rfl⟩
 have htE:TupsAt H (((srtI ds').map fun i=>bs'.getD i 0).map V.ref) ((srtI ds').map fun i=>ds'.getD i []):=⟨by simp,fun i x k hx hk=>by
  rw [Ql,Ql] at hx
  rw [Ql] at hk
  cases hj:(srtI ds')[i]? with
  | none=>rw [hj] at hk;cases hk
  | some j =>
   rw [hj] at hx hk
   have hjl:=u2 j (Qs hj)
   have e1:=Qb (show j<bs'.length by omega)
   have e2:=Qb hjl
   have ex:V.ref bs'[j]=x:=by
    have:=Qr hx
    rw [<- this]
    show V.ref bs'[j]=V.ref (bs'.getD j 0)
    rw [Qe,e1];rfl
   have ek:ds'[j]=k:=by
    have:=Qr hk
    rw [<- this]
    show ds'[j]=ds'.getD j []
    rw [Qe,e2];rfl
   exact ht'.2 j x k (by rw [Ql,e1,<- ex];rfl) (by rw [e2,ek])⟩
 rw [esr] at vy
 refine Qc ⟨_,rfl,.ref LL,upd H LL (.lst (((srtI ds').map fun i=>bs'.getD i 0).map V.ref)),I'.adopt fL ?_,rfl,q LL _ _ fL.1 htE u1 hmE⟩
 have hyl:(((srtI ds').map fun i=>bs'.getD i 0).map V.ref).length<=sizeLine:=by rw [vy.length,QD];exact hos
 exact ⟨hyl,out.toList,n',vy,by simpa using hoa⟩
end
end L2
namespace K42
open PySem L2 Mm
noncomputable def top (i:Nat):Stmt:=PySem.Challenge.pw_manymakes_k42_kinds_of_names.main.body.getD i (.Pass ⟨0,0,0,0⟩)
noncomputable abbrev st_ZM:Stmt:=top 1
noncomputable abbrev st_ZG:Stmt:=top 2
noncomputable abbrev st_ZJ:Stmt:=top 3
noncomputable abbrev st_Zq:Stmt:=top 4
noncomputable abbrev st_ZK:Stmt:=top 5
noncomputable abbrev st_Zr:Stmt:=top 6
noncomputable abbrev st_Zt:Stmt:=top 8
noncomputable abbrev st_Zi:Stmt:=top 9
noncomputable abbrev st_Zj:Stmt:=top 10
noncomputable abbrev st_Zu:Stmt:=top 11
noncomputable abbrev st_Zh:Stmt:=top 12
noncomputable abbrev st_Zv:Stmt:=top 13
noncomputable abbrev st_Zs:Stmt:=top 16
noncomputable abbrev st_ZC:Stmt:=top 17
noncomputable abbrev st_ZH:Stmt:=top 18
noncomputable abbrev st_ZD:Stmt:=top 19
noncomputable abbrev st_ZN:Stmt:=top 24
noncomputable abbrev st_Zw:Stmt:=top 25
noncomputable abbrev st_ZL:Stmt:=top 26
noncomputable abbrev st_Zm:Stmt:=top 27
noncomputable abbrev st_Zo:Stmt:=top 28
noncomputable abbrev st_Zp:Stmt:=top 30
noncomputable abbrev st_Zx:Stmt:=top 31
noncomputable abbrev st_Zy:Stmt:=top 32
noncomputable abbrev st_ZE:Stmt:=top 33
noncomputable abbrev st_ZF:Stmt:=top 34
noncomputable abbrev st_Zz:Stmt:=top 35
noncomputable abbrev st_ZI:Stmt:=top 36
noncomputable abbrev st_ZA:Stmt:=top 37
noncomputable abbrev st_ZB:Stmt:=top 38
noncomputable abbrev st_Zk:Stmt:=inClass (top 23) 0
noncomputable abbrev st_Zl:Stmt:=inClass (top 23) 1
noncomputable abbrev st_Zb:Stmt:=inClass (top 23) 2
noncomputable abbrev st_Zd:Stmt:=inClass (top 23) 3
noncomputable abbrev st_Ze:Stmt:=inClass (top 23) 4
noncomputable abbrev st_Zf:Stmt:=inClass (top 23) 5
noncomputable abbrev st_Zn:Stmt:=inClass (top 23) 6
noncomputable abbrev st_Zg:Stmt:=inClass (top 23) 7
noncomputable abbrev st_Zc:Stmt:=inClass (top 23) 8
noncomputable abbrev st_Za:Stmt:=inClass (top 23) 9
noncomputable abbrev st_law:Stmt:=top 39
structure Adr where
 ZM:Addr
 ZG:Addr
 ZJ:Addr
 Zq:Addr
 ZK:Addr
 Zr:Addr
 Zt:Addr
 Zi:Addr
 Zj:Addr
 Zu:Addr
 Zh:Addr
 Zv:Addr
 Zs:Addr
 ZC:Addr
 ZH:Addr
 ZD:Addr
 ZN:Addr
 Zw:Addr
 ZL:Addr
 Zm:Addr
 Zo:Addr
 Zp:Addr
 Zx:Addr
 Zy:Addr
 ZE:Addr
 ZF:Addr
 Zz:Addr
 ZI:Addr
 ZA:Addr
 ZB:Addr
 Zk:Addr
 Zl:Addr
 Zb:Addr
 Zd:Addr
 Ze:Addr
 Zf:Addr
 Zn:Addr
 Zg:Addr
 Zc:Addr
 Za:Addr
 c_KindLook:Addr
 d_MAKES:Addr
 d_ASKS:Addr
 q_PLAIN_KINDS:Addr
structure Fds where
 ZM:FuncData
 ZG:FuncData
 ZJ:FuncData
 Zq:FuncData
 ZK:FuncData
 Zr:FuncData
 Zt:FuncData
 Zi:FuncData
 Zj:FuncData
 Zu:FuncData
 Zh:FuncData
 Zv:FuncData
 Zs:FuncData
 ZC:FuncData
 ZH:FuncData
 ZD:FuncData
 ZN:FuncData
 Zw:FuncData
 ZL:FuncData
 Zm:FuncData
 Zo:FuncData
 Zp:FuncData
 Zx:FuncData
 Zy:FuncData
 ZE:FuncData
 ZF:FuncData
 Zz:FuncData
 ZI:FuncData
 ZA:FuncData
 ZB:FuncData
 Zk:FuncData
 Zl:FuncData
 Zb:FuncData
 Zd:FuncData
 Ze:FuncData
 Zf:FuncData
 Zn:FuncData
 Zg:FuncData
 Zc:FuncData
 Za:FuncData
structure All (P:Program) (w:World) (K:W.Frag) (mg:Str->Option Value) (A:Adr) (D:Fds):Prop where
 m_ZM:mg "least"=some (.ref A.ZM)
 k_ZM:W.keepIn K (.ref A.ZM)=true
 F_ZM:Fun K "least" "least" st_ZM A.ZM D.ZM
 b_ZM:Binds K D.ZM ["mask"] []
 m_ZG:mg "without"=some (.ref A.ZG)
 k_ZG:W.keepIn K (.ref A.ZG)=true
 F_ZG:Fun K "without" "without" st_ZG A.ZG D.ZG
 b_ZG:Binds K D.ZG ["mask","other"] []
 m_ZJ:mg "all_of"=some (.ref A.ZJ)
 k_ZJ:W.keepIn K (.ref A.ZJ)=true
 F_ZJ:Fun K "all_of" "all_of" st_ZJ A.ZJ D.ZJ
 b_ZJ:Binds K D.ZJ ["pairs"] []
 m_Zq:mg "kept_pairs"=some (.ref A.Zq)
 k_Zq:W.keepIn K (.ref A.Zq)=true
 F_Zq:Fun K "kept_pairs" "kept_pairs" st_Zq A.Zq D.Zq
 b_Zq:Binds K D.Zq ["pairs","mask"] []
 m_ZK:mg "add_to"=some (.ref A.ZK)
 k_ZK:W.keepIn K (.ref A.ZK)=true
 F_ZK:Fun K "add_to" "add_to" st_ZK A.ZK D.ZK
 b_ZK:Binds K D.ZK ["found","key","mask"] []
 m_Zr:mg "with_masks"=some (.ref A.Zr)
 k_Zr:W.keepIn K (.ref A.Zr)=true
 F_Zr:Fun K "with_masks" "with_masks" st_Zr A.Zr D.Zr
 b_Zr:Binds K D.Zr ["found"] []
 m_Zt:mg "kept_tree"=some (.ref A.Zt)
 k_Zt:W.keepIn K (.ref A.Zt)=true
 F_Zt:Fun K "kept_tree" "kept_tree" st_Zt A.Zt D.Zt
 b_Zt:Binds K D.Zt ["tree","mask"] []
 m_Zi:mg "kept_statement"=some (.ref A.Zi)
 k_Zi:W.keepIn K (.ref A.Zi)=true
 F_Zi:Fun K "kept_statement" "kept_statement" st_Zi A.Zi D.Zi
 b_Zi:Binds K D.Zi ["one","mask"] []
 m_Zj:mg "row_and_least"=some (.ref A.Zj)
 k_Zj:W.keepIn K (.ref A.Zj)=true
 F_Zj:Fun K "row_and_least" "row_and_least" st_Zj A.Zj D.Zj
 b_Zj:Binds K D.Zj ["pair"] []
 m_Zu:mg "shared_of"=some (.ref A.Zu)
 k_Zu:W.keepIn K (.ref A.Zu)=true
 F_Zu:Fun K "shared_of" "shared_of" st_Zu A.Zu D.Zu
 b_Zu:Binds K D.Zu ["tree"] []
 m_Zh:mg "shared_statement"=some (.ref A.Zh)
 k_Zh:W.keepIn K (.ref A.Zh)=true
 F_Zh:Fun K "shared_statement" "shared_statement" st_Zh A.Zh D.Zh
 b_Zh:Binds K D.Zh ["one"] []
 m_Zv:mg "blocks_of"=some (.ref A.Zv)
 k_Zv:W.keepIn K (.ref A.Zv)=true
 F_Zv:Fun K "blocks_of" "blocks_of" st_Zv A.Zv D.Zv
 b_Zv:Binds K D.Zv ["one"] []
 m_Zs:mg "first_rows"=some (.ref A.Zs)
 k_Zs:W.keepIn K (.ref A.Zs)=true
 F_Zs:Fun K "first_rows" "first_rows" st_Zs A.Zs D.Zs
 b_Zs:Binds K D.Zs ["tree"] []
 m_ZC:mg "pairs_of"=some (.ref A.ZC)
 k_ZC:W.keepIn K (.ref A.ZC)=true
 F_ZC:Fun K "pairs_of" "pairs_of" st_ZC A.ZC D.ZC
 b_ZC:Binds K D.ZC ["one"] []
 m_ZH:mg "expr_of"=some (.ref A.ZH)
 k_ZH:W.keepIn K (.ref A.ZH)=true
 F_ZH:Fun K "expr_of" "expr_of" st_ZH A.ZH D.ZH
 b_ZH:Binds K D.ZH ["one"] []
 m_ZD:mg "exprs_in"=some (.ref A.ZD)
 k_ZD:W.keepIn K (.ref A.ZD)=true
 F_ZD:Fun K "exprs_in" "exprs_in" st_ZD A.ZD D.ZD
 b_ZD:Binds K D.ZD ["e"] []
 m_ZN:mg "unfit"=some (.ref A.ZN)
 k_ZN:W.keepIn K (.ref A.ZN)=true
 F_ZN:Fun K "unfit" "unfit" st_ZN A.ZN D.ZN
 b_ZN:Binds K D.ZN ["kinds","due"] []
 m_Zw:mg "is_record"=some (.ref A.Zw)
 k_Zw:W.keepIn K (.ref A.Zw)=true
 F_Zw:Fun K "is_record" "is_record" st_Zw A.Zw D.Zw
 b_Zw:Binds K D.Zw ["kind"] []
 m_ZL:mg "giving"=some (.ref A.ZL)
 k_ZL:W.keepIn K (.ref A.ZL)=true
 F_ZL:Fun K "giving" "giving" st_ZL A.ZL D.ZL
 b_ZL:Binds K D.ZL ["body"] []
 m_Zm:mg "shared_kinds"=some (.ref A.Zm)
 k_Zm:W.keepIn K (.ref A.Zm)=true
 F_Zm:Fun K "shared_kinds" "shared_kinds" st_Zm A.Zm D.Zm
 b_Zm:Binds K D.Zm ["tree","mask"] []
 m_Zo:mg "plain_kinds"=some (.ref A.Zo)
 k_Zo:W.keepIn K (.ref A.Zo)=true
 F_Zo:Fun K "plain_kinds" "plain_kinds" st_Zo A.Zo D.Zo
 b_Zo:Binds K D.Zo ["tree"] []
 m_Zp:mg "_law_cell_at"=some (.ref A.Zp)
 k_Zp:W.keepIn K (.ref A.Zp)=true
 F_Zp:Fun K "_law_cell_at" "_law_cell_at" st_Zp A.Zp D.Zp
 b_Zp:Binds K D.Zp ["_law_script","_law_k"] []
 m_Zx:mg "_law_mixed"=some (.ref A.Zx)
 k_Zx:W.keepIn K (.ref A.Zx)=true
 F_Zx:Fun K "_law_mixed" "_law_mixed" st_Zx A.Zx D.Zx
 b_Zx:Binds K D.Zx ["_law_cell","_law_k"] []
 m_Zy:mg "_law_names"=some (.ref A.Zy)
 k_Zy:W.keepIn K (.ref A.Zy)=true
 F_Zy:Fun K "_law_names" "_law_names" st_Zy A.Zy D.Zy
 b_Zy:Binds K D.Zy ["_law_number"] []
 m_ZE:mg "_law_expr"=some (.ref A.ZE)
 k_ZE:W.keepIn K (.ref A.ZE)=true
 F_ZE:Fun K "_law_expr" "_law_expr" st_ZE A.ZE D.ZE
 b_ZE:Binds K D.ZE ["_law_number","_law_known","_law_deep"] []
 m_ZF:mg "_law_kind"=some (.ref A.ZF)
 k_ZF:W.keepIn K (.ref A.ZF)=true
 F_ZF:Fun K "_law_kind" "_law_kind" st_ZF A.ZF D.ZF
 b_ZF:Binds K D.ZF ["_law_e","_law_known"] []
 m_Zz:mg "_law_wrong"=some (.ref A.Zz)
 k_Zz:W.keepIn K (.ref A.Zz)=true
 F_Zz:Fun K "_law_wrong" "_law_wrong" st_Zz A.Zz D.Zz
 b_Zz:Binds K D.Zz ["_law_e","_law_known"] []
 m_ZI:mg "_law_row"=some (.ref A.ZI)
 k_ZI:W.keepIn K (.ref A.ZI)=true
 F_ZI:Fun K "_law_row" "_law_row" st_ZI A.ZI D.ZI
 b_ZI:Binds K D.ZI ["_law_number","_law_at","_law_names_here","_law_known","_law_stack"] []
 m_ZA:mg "_law_noted"=some (.ref A.ZA)
 k_ZA:W.keepIn K (.ref A.ZA)=true
 F_ZA:Fun K "_law_noted" "_law_noted" st_ZA A.ZA D.ZA
 b_ZA:Binds K D.ZA ["_law_row_here","_law_known","_law_due"] []
 m_ZB:mg "_law_built"=some (.ref A.ZB)
 k_ZB:W.keepIn K (.ref A.ZB)=true
 F_ZB:Fun K "_law_built" "_law_built" st_ZB A.ZB D.ZB
 b_ZB:Binds K D.ZB ["_law_script"] []
 M_KindLook:Mk K A.c_KindLook A.Zk
 k_Zk:W.keepIn K (.ref A.Zk)=true
 F_Zk:Fun K "__init__" "KindLook.__init__" st_Zk A.Zk D.Zk
 b_Zk:Binds K D.Zk ["self","tree"] []
 M_Zl:Meth K A.c_KindLook "note" A.Zl
 k_Zl:W.keepIn K (.ref A.Zl)=true
 F_Zl:Fun K "note" "KindLook.note" st_Zl A.Zl D.Zl
 b_Zl:Binds K D.Zl ["self","mask","at","what"] []
 M_Zb:Meth K A.c_KindLook "look_body" A.Zb
 k_Zb:W.keepIn K (.ref A.Zb)=true
 F_Zb:Fun K "look_body" "KindLook.look_body" st_Zb A.Zb D.Zb
 b_Zb:Binds K D.Zb ["self","statements","names","due"] []
 M_Zd:Meth K A.c_KindLook "look_def" A.Zd
 k_Zd:W.keepIn K (.ref A.Zd)=true
 F_Zd:Fun K "look_def" "KindLook.look_def" st_Zd A.Zd D.Zd
 b_Zd:Binds K D.Zd ["self","mask","one"] []
 M_Ze:Meth K A.c_KindLook "look_row" A.Ze
 k_Ze:W.keepIn K (.ref A.Ze)=true
 F_Ze:Fun K "look_row" "KindLook.look_row" st_Ze A.Ze D.Ze
 b_Ze:Binds K D.Ze ["self","one","kinds","names","due"] []
 M_Zf:Meth K A.c_KindLook "look_set" A.Zf
 k_Zf:W.keepIn K (.ref A.Zf)=true
 F_Zf:Fun K "look_set" "KindLook.look_set" st_Zf A.Zf D.Zf
 b_Zf:Binds K D.Zf ["self","one","kinds","names"] []
 M_Zn:Meth K A.c_KindLook "ask" A.Zn
 k_Zn:W.keepIn K (.ref A.Zn)=true
 F_Zn:Fun K "ask" "KindLook.ask" st_Zn A.Zn D.Zn
 b_Zn:Binds K D.Zn ["self","mask","e","due","at","names"] []
 M_Zg:Meth K A.c_KindLook "kinds_of" A.Zg
 k_Zg:W.keepIn K (.ref A.Zg)=true
 F_Zg:Fun K "kinds_of" "KindLook.kinds_of" st_Zg A.Zg D.Zg
 b_Zg:Binds K D.Zg ["self","mask","e","at","names"] []
 M_Zc:Meth K A.c_KindLook "used_rows" A.Zc
 k_Zc:W.keepIn K (.ref A.Zc)=true
 F_Zc:Fun K "used_rows" "KindLook.used_rows" st_Zc A.Zc D.Zc
 b_Zc:Binds K D.Zc ["self","mask","e","word","at","names"] []
 M_Za:Meth K A.c_KindLook "field_kinds" A.Za
 k_Za:W.keepIn K (.ref A.Za)=true
 F_Za:Fun K "field_kinds" "KindLook.field_kinds" st_Za A.Za D.Za
 b_Za:Binds K D.Za ["self","mask","kind","field","at"] []
 m_KindLook:mg "KindLook"=some (.ref A.c_KindLook)
 cl_KindLook:Cls K A.c_KindLook
 na_KindLook_faults:NoAttr K A.c_KindLook "faults"
 na_KindLook_firsts:NoAttr K A.c_KindLook "firsts"
 ty_KindLook:∀ (H:Hp) (a dx:Addr) (fs:List (Str × V)),H a=some (.ins A.c_KindLook dx fs)->TyOf K H (.ref a) (.ref A.c_KindLook)
 is_KindLook:W.kitOne K (.ref A.c_KindLook) (.ref A.c_KindLook)=some true
 m_MAKES:mg "MAKES"=some (.ref A.d_MAKES)
 D_MAKES:KDictT P w K A.d_MAKES [("num","num"),("truth","truth"),("+","num"),("-","num"),("*","num"),("less","truth"),("same","truth"),("and","truth"),("or","truth"),("not","truth")]
 m_ASKS:mg "ASKS"=some (.ref A.d_ASKS)
 D_ASKS:KDictT P w K A.d_ASKS [("+","num"),("-","num"),("*","num"),("less","num"),("same","num"),("and","truth"),("or","truth"),("not","truth")]
 m_PLAIN_KINDS:mg "PLAIN_KINDS"=some (.ref A.q_PLAIN_KINDS)
 Q_PLAIN_KINDS:∀ H,SqT K H A.q_PLAIN_KINDS [.str "num",.str "truth"]
 n_len:mg "len"=none
 n_range:mg "range"=none
 n_list:mg "list"=none
 n_dict:mg "dict"=none
 n_tuple:mg "tuple"=none
 n_sorted:mg "sorted"=none
 n_enumerate:mg "enumerate"=none
 n_isinstance:mg "isinstance"=none
 n_zip:mg "zip"=none
 n_set:mg "set"=none
theorem same_upd {H:Hp} {p:Addr} {o:HO} (h:H p=none):Same H (upd H p o):=fun b u e=>by rw [upd_ne (ne_of_none e h)];exact e
section
variable {P:Program} {w:World} {K:W.Frag} {mg:Str->Option Value} {base:Heap} {AA:Adr} {DD:Fds}
theorem small1000' {n:Nat} (h:n<1000):n<sizeLine:=by rw [sizeLine_eq];omega
noncomputable def spShOf (k:Nat):Sp:=fun vs H Q _=>∃ (l:Addr) (xs:List V) (ts:List Tr),vs=[.ref l]/\H l=some (.lst xs)/\LAt H false xs ts/\deeps ts<k/\ts.length<=20/\ascs ts/\∀ p ys H',Same H H'->H' p=some (.lst ys)->LAt H' true ys ts->Q (.ref p) H'
noncomputable def spShSt (k:Nat):Sp:=fun vs H Q _=>∃ (v:V) (t:Tr),vs=[v]/\SAt H false v t/\t.deep<k/\t.asc/\∀ v' H',Same H H'->SAt H' true v' t->Q v' H'
noncomputable abbrev N_Zh:List Str:=["one"]
theorem sc_Zh:FnScope N_Zh ["one"] (defScope st_Zh):=⟨rfl,rfl,rfl,by decide +kernel,rfl,by decide +kernel,by decide +kernel⟩
theorem ok_shst (T:All P w K mg AA DD) (k:Nat) (GF:FnOk P w K mg base CX0 (2*k+1) AA.Zu DD.Zu ["tree"] (spShOf k)):FnOk P w K mg base CX0 (2*k+2) AA.Zh DD.Zh ["one"] (spShSt k):=by
 refine T.F_Zh.ok sc_Zh (fun vs H Q E h=>?_) (fun cdv A outer s H vs Q E hr h=>?_)
 ·obtain ⟨v,t,rfl,_⟩:=h
  rfl
 ·obtain ⟨v,t,rfl,hS,hd,ha,kq⟩:=h
  have nd:=sc_Zh.nd
  have hrF:Room (2*k+1) _:=hr
  refine ⟨_,(@pss_one _ _ _ (@ps_ret _ _ _ _ (pe_callTy call_tuple_of rfl T.n_tuple bt_tuple (@pa_cons _ _ _ _ _ (pe_comp (defScope st_Zh) N_Zh [] [] rfl (by exact ⟨rfl,rfl,by decide +kernel,rfl,by decide +kernel,by decide +kernel,by decide +kernel,rfl,by decide +kernel⟩) rfl rfl (pi_tup (pv 0)) (fun _ _ _ _=>pif_nil) (fun _ _ _ _=>(pe_ifExp (pt_val (pe_callB (call_isinstK (K:=K) (n:="list") rfl) rfl T.n_isinstance bt_isi (@pa_cons _ _ _ _ _ (pv 0) (@pa_cons _ _ _ _ _ (pe_bltn (v:=.ty "list") rfl T.n_list bt_list rfl) pa_nil (by rfl)) (by rfl)))) (pe_call GF hrF rfl T.m_Zu T.k_Zu T.b_Zu .nil pass0 (@pa_cons _ _ _ _ _ (pv 0) pa_nil (by rfl))) (pv 0)))) pa_nil (by rfl))))),?_⟩
  cases hS with
  | @mk t0 xs _ ht hps =>
  refine ⟨_,rfl,t0,rfl,⟨_,SqT.of ht⟩,?_⟩
  have hpl:=t.parts_len
  have hxl:=hps.length
  refine comp_tup (K:=K) (a:=t0) (xs:=xs) (fun i ys H'=>Same H H'/\i<=xs.length/\PsAt H' true ys (t.parts.take i)) ⟨Same.refl _,Qp _,by simpa using PsAt.nil⟩ (fun i ys H' _ h=>SqT.of (h.1 _ _ ht)) ?_ ?_
  ·rintro i x ys H1 hx ⟨sm,hi,hys⟩
   obtain ⟨p,hp,hP⟩:=hps.get hx
   have hP1:=hP.kept sm.ls
   have hilt:=(Qh hx).1
   have hyl:=hys.length
   rw [Qv] at hyl
   have hil:i<t.parts.length:=by omega
   have htk:t.parts.take (i+1)=t.parts.take i++[p]:=by
    rw [Qu hil]
    rw [Qb hil] at hp
    rw [Qr hp]
   refine tYes_ok ?_
   rw [if_pos rfl]
   rcases hP1.isL (K:=K) with ⟨bs,l,zs,e1,e2,hl,hL,ty,kb⟩ | ⟨nb,ty0,ty,kb⟩
   ·subst e1 e2
    have hm:Part.b bs∈t.parts:=Qs hp
    refine ⟨_,rfl,_,_,true,rfl,ty,kb,_,rfl,iteT ?_⟩
    refine ⟨_,rfl,l,zs,bs,rfl,hl,hL,QG (deep_part hm) hd,(asc_part ha hm).1,(asc_part ha hm).2,fun q us H2 s2 hq hL2=>?_⟩
    refine ⟨small1000' (by omega),sm.trans s2,by omega,?_⟩
    rw [htk]
    exact (hys.kept s2.ls).snoc (.b hq hL2)
   ·refine ⟨_,rfl,_,_,false,rfl,ty,kb,_,rfl,iteF ?_⟩
    refine ⟨_,rfl,small1000' (by omega),sm,by omega,?_⟩
    rw [htk]
    exact hys.snoc (hP1.other nb)
  ·rintro ys H1 ⟨sm,hi,hys⟩ p hp
   have s1:=same_upd (o:=.lst ys) hp
   refine ⟨p,ys,rfl,.inl ⟨SqL.of upd_same,fun l hl=>?_⟩⟩
   have s2:=same_upd (o:=.tup ys) hl
   refine kq _ _ ((sm.trans s1).trans s2) (.mk upd_same ?_)
   rw [QA (by omega)] at hys
   exact hys.kept (s1.trans s2).ls
noncomputable abbrev N_Zu:List Str:=["tree"]
theorem sc_Zu:FnScope N_Zu ["tree"] (defScope st_Zu):=⟨rfl,rfl,rfl,by decide +kernel,rfl,by decide +kernel,by decide +kernel⟩
theorem ok_shofS (T:All P w K mg AA DD) (k:Nat) (GS:FnOk P w K mg base CX0 (2*k+2) AA.Zh DD.Zh ["one"] (spShSt k)):FnOk P w K mg base CX0 (2*(k+1)+1) AA.Zu DD.Zu ["tree"] (spShOf (k+1)):=by
 refine T.F_Zu.ok sc_Zu (fun vs H Q E h=>?_) (fun cdv A outer s H vs Q E hr h=>?_)
 ·obtain ⟨l,xs,ts,rfl,_⟩:=h
  rfl
 ·obtain ⟨l,xs,ts,rfl,hl,hL,hd,h20,ha,kq⟩:=h
  have nd:=sc_Zu.nd
  have hrS:Room (2*k+2) _:=hr
  refine ⟨_,(@pss_one _ _ _ (@ps_ret _ _ _ _ (pe_comp (defScope st_Zu) N_Zu [] [] rfl (by exact ⟨rfl,rfl,by decide +kernel,rfl,by decide +kernel,by decide +kernel,by decide +kernel,rfl,by decide +kernel⟩) rfl rfl (pi_list (pv 0)) (fun _ _ _ _=>pif_nil) (fun _ _ _ _=>(@pe_tup _ _ _ _ _ (@pa_cons _ _ _ _ _ pe_int (@pa_cons _ _ _ _ _ (pe_call GS hrS rfl T.m_Zh T.k_Zh T.b_Zh .nil pass0 (@pa_cons _ _ _ _ _ (pv 0) pa_nil (by rfl))) pa_nil (by rfl)) (by rfl))))))),?_⟩
  refine ⟨_,rfl,l,rfl,⟨_,SqL.of hl⟩,?_⟩
  have hxl:=hL.length
  refine comp_list (K:=K) (a:=l) (xs:=xs) (fun i ys H'=>Same H H'/\i<=xs.length/\LAt H' true ys (ts.take i)) ⟨Same.refl _,Qp _,by simpa using LAt.nil⟩ (fun i ys H' _ h=>SqL.of (h.1 _ _ hl)) ?_ ?_
  ·rintro i x ys H1 hx ⟨sm,hi,hys⟩
   obtain ⟨t,ht,hO⟩:=hL.get hx
   have hilt:=(Qh hx).1
   have hyl:=hys.length
   rw [Qv] at hyl
   have hil:i<ts.length:=by omega
   have htk:ts.take (i+1)=ts.take i++[t]:=by
    rw [Qu hil]
    rw [Qb hil] at ht
    rw [Qr ht]
   have hm:t∈ts:=Qs ht
   have hS:SAt H1 false x t:=by
    cases hO with
    | plain _ a=>exact a.kept sm.ls
    | shared e _ _=>cases e
   refine tYes_ok ?_
   rw [if_pos rfl]
   refine ⟨_,rfl,x,t,rfl,hS,by have:=deeps_mem hm;omega,ascs_mem ha hm,fun v' H2 s2 hS2=>?_⟩
   refine ⟨(by show 2<=sizeLine;decide),fun q hq=>?_⟩
   have s3:=same_upd (o:=.tup [.int 1,v']) hq
   refine ⟨small1000' (by omega),(sm.trans s2).trans s3,by omega,?_⟩
   rw [htk]
   exact (hys.kept (s2.trans s3).ls).snoc (.shared rfl upd_same (hS2.kept s3.ls))
  ·rintro ys H1 ⟨sm,hi,hys⟩ p hp
   have s1:=same_upd (o:=.lst ys) hp
   rw [QA (by omega)] at hys
   exact kq p ys _ (sm.trans s1) upd_same (hys.kept s1.ls)
theorem ok_shof0 (T:All P w K mg AA DD):FnOk P w K mg base CX0 1 AA.Zu DD.Zu ["tree"] (spShOf 0):=by
 have no:∀ vs H Q E,¬ spShOf 0 vs H Q E:=fun vs H Q E h=>by
  obtain ⟨l,xs,ts,_,_,_,z,_⟩:=h
  omega
 exact T.F_Zu.ok sc_Zu (fun vs H Q E h=>(no _ _ _ _ h).elim) (fun cdv A outer s H vs Q E hr h=>(no _ _ _ _ h).elim)
theorem ok_shof (T:All P w K mg AA DD):∀ k:Nat,FnOk P w K mg base CX0 (2*k+1) AA.Zu DD.Zu ["tree"] (spShOf k)
 | 0=>ok_shof0 T
 | k+1=>ok_shofS T k (ok_shst T k (ok_shof T k))
end
section
variable {P:Program} {w:World} {K:W.Frag} {mg:Str->Option Value} {base:Heap} {AA:Adr} {DD:Fds}
theorem iteFb {c:Bool} {a b:Prop} (h:c=false) (k:b):if c=true then a else b:=by rw [h];exact k
theorem iteTb {c:Bool} {a b:Prop} (h:c=true) (k:a):if c=true then a else b:=by rw [h];exact k
noncomputable def spLeast1:Sp:=fun vs H Q _=>vs=[.int 1]/\Q (.int 0) H
theorem xor10:Builtin.bitXor (1:Int) (1-1)=1:=by decide +kernel
noncomputable abbrev N_ZM:List Str:=["mask"]
theorem sc_ZM:FnScope N_ZM ["mask"] (defScope st_ZM):=⟨rfl,rfl,rfl,by decide +kernel,rfl,by decide +kernel,by decide +kernel⟩
theorem ok_least1 (T:All P w K mg AA DD):FnOk P w K mg base CX0 1 AA.ZM DD.ZM ["mask"] spLeast1:=by
 refine T.F_ZM.ok sc_ZM (fun vs H Q E h=>?_) (fun cdv A outer s H vs Q E hr h=>?_)
 ·obtain ⟨rfl,_⟩:=h
  rfl
 ·obtain ⟨rfl,k⟩:=h
  have nd:=sc_ZM.nd
  refine ⟨_,(@pss_cons _ _ _ _ _ (@ps_if _ _ _ _ _ _ _ _ (@pt_cmpR _ _ _ _ _ _ _ _ op_eq (pv 0) pe_int (nomark _)) (@pss_one _ _ _ (@ps_ret _ _ _ _ pe_non)) pss_nil) (@pss_one _ _ _ (@ps_ret _ _ _ _ (@pe_op _ _ _ _ _ _ _ _ op_sub (pe_bm0 PySem.F.plainAttrs_int PySem.F.slot_int_bit_length PySem.F.type_int_bit_length mt_bitlen (@pe_op _ _ _ _ _ _ _ _ op_xor (pv 0) (@pe_op _ _ _ _ _ _ _ _ op_sub (pv 0) pe_int))) pe_int)))),?_⟩
  refine ⟨_,rfl,rfl,_,rfl,iteF ?_⟩
  refine ⟨_,rfl,_,rfl,_,_,rfl,rfl,_,_,rfl,rfl,rfl,_,rfl,rfl,_,_,rfl,rfl,?_⟩
  rw [xor10]
  exact k
noncomputable def rowK (t:Tr):List Key:=[.inl ((t.row:Nat):Int),.inl 0]
noncomputable def spRL:Sp:=fun vs H Q _=>∃ (v:V) (t:Tr),vs=[v]/\OAt H true v t/\∀ q H',Same H H'->H' q=some (.tup ((rowK t).map kV))->Q (.ref q) H'
theorem part1 {H:Hp} {vs:List V} {t:Tr} (h:PsAt H true vs t.parts):∃ (a:V) (r:List V),vs=a::.int ((t.row:Nat):Int)::r:=by
 cases t with
 | set r n e=>cases h with | cons a b=>cases b with | cons c d=>cases c;exact ⟨_,_,rfl⟩
 | tell r e=>cases h with | cons a b=>cases b with | cons c d=>cases c;exact ⟨_,_,rfl⟩
 | iff r e b o=>cases h with | cons a b=>cases b with | cons c d=>cases c;exact ⟨_,_,rfl⟩
 | whl r e b=>cases h with | cons a b=>cases b with | cons c d=>cases c;exact ⟨_,_,rfl⟩
noncomputable abbrev N_Zj:List Str:=["pair"]
theorem sc_Zj:FnScope N_Zj ["pair"] (defScope st_Zj):=⟨rfl,rfl,rfl,by decide +kernel,rfl,by decide +kernel,by decide +kernel⟩
theorem ok_rl (T:All P w K mg AA DD):FnOk P w K mg base CX0 2 AA.Zj DD.Zj ["pair"] spRL:=by
 have GL:=ok_least1 (base:=base) T
 refine T.F_Zj.ok sc_Zj (fun vs H Q E h=>?_) (fun cdv A outer s H vs Q E hr h=>?_)
 ·obtain ⟨v,t,rfl,_⟩:=h
  rfl
 ·obtain ⟨v,t,rfl,hO,k⟩:=h
  have nd:=sc_Zj.nd
  have hr1:Room 1 _:=hr
  refine ⟨_,(@pss_one _ _ _ (@ps_ret _ _ _ _ (@pe_tup _ _ _ _ _ (@pa_cons _ _ _ _ _ (@pe_ix _ _ _ _ _ _ _ (ix_tupK (K:=K) rfl) (@pe_ix _ _ _ _ _ _ _ (ix_tupK (K:=K) rfl) (pv 0) pe_int (fun _ _=>rfl)) pe_int (fun _ _=>rfl)) (@pa_cons _ _ _ _ _ (pe_call GL hr1 rfl T.m_ZM T.k_ZM T.b_ZM .nil pass0 (@pa_cons _ _ _ _ _ (@pe_ix _ _ _ _ _ _ _ (ix_tupK (K:=K) rfl) (pv 0) pe_int (fun _ _=>rfl)) pa_nil (by rfl))) pa_nil (by rfl)) (by rfl))))),?_⟩
  cases hO with
  | plain e _=>cases e
  | @shared p x _ _ hp hS =>
  cases hS with
  | @mk t0 vs _ ht hps =>
  obtain ⟨a,r,rfl⟩:=part1 hps
  refine ⟨_,rfl,p,_,_,_,rfl,rfl,SqT.of hp,rfl,?_⟩
  refine ⟨t0,_,_,_,rfl,rfl,SqT.of ht,atI_nat (j:=1) rfl,?_⟩
  refine ⟨_,rfl,p,_,_,_,rfl,rfl,SqT.of hp,rfl,?_⟩
  refine ⟨rfl,(by show 2<=sizeLine;decide),fun q hq=>?_⟩
  exact k q _ (same_upd hq) upd_same
noncomputable def spKT (k:Nat):Sp:=fun vs H Q _=>∃ (l:Addr) (xs:List V) (ts:List Tr),vs=[.ref l,.int 1]/\H l=some (.lst xs)/\LAt H true xs ts/\deeps ts<k/\ts.length<=20/\ascs ts/\∀ p ys H',Same H H'->H' p=some (.lst ys)->LAt H' true ys ts->Q (.ref p) H'
noncomputable def spKS (k:Nat):Sp:=fun vs H Q _=>∃ (v:V) (t:Tr),vs=[v,.int 1]/\SAt H true v t/\t.deep<k/\t.asc/\∀ v' H',Same H H'->SAt H' true v' t->Q v' H'
noncomputable abbrev N_Zi:List Str:=["one","mask"]
theorem sc_Zi:FnScope N_Zi ["one","mask"] (defScope st_Zi):=⟨rfl,rfl,rfl,by decide +kernel,rfl,by decide +kernel,by decide +kernel⟩
theorem ok_kstS (T:All P w K mg AA DD) (k:Nat) (GF:FnOk P w K mg base CX0 (2*k+5) AA.Zt DD.Zt ["tree","mask"] (spKT k)):FnOk P w K mg base CX0 (2*k+6) AA.Zi DD.Zi ["one","mask"] (spKS k):=by
 refine T.F_Zi.ok sc_Zi (fun vs H Q E h=>?_) (fun cdv A outer s H vs Q E hr h=>?_)
 ·obtain ⟨v,t,rfl,_⟩:=h
  rfl
 ·obtain ⟨v,t,rfl,hS,hd,ha,kq⟩:=h
  have nd:=sc_Zi.nd
  have hrF:Room (2*k+5) _:=hr
  refine ⟨_,(@pss_one _ _ _ (@ps_ret _ _ _ _ (pe_callTy call_tuple_of rfl T.n_tuple bt_tuple (@pa_cons _ _ _ _ _ (pe_comp (defScope st_Zi) N_Zi ["mask"] [1] rfl (by exact ⟨rfl,rfl,by decide +kernel,rfl,by decide +kernel,by decide +kernel,by decide +kernel,rfl,by decide +kernel⟩) rfl rfl (pi_tup (pv 0)) (fun _ _ _ _=>pif_nil) (fun _ _ _ _=>(pe_ifExp (pt_val (pe_callB (call_isinstK (K:=K) (n:="list") rfl) rfl T.n_isinstance bt_isi (@pa_cons _ _ _ _ _ (pv 0) (@pa_cons _ _ _ _ _ (pe_bltn (v:=.ty "list") rfl T.n_list bt_list rfl) pa_nil (by rfl)) (by rfl)))) (pe_call GF hrF rfl T.m_Zt T.k_Zt T.b_Zt .nil pass0 (@pa_cons _ _ _ _ _ (pv 0) (@pa_cons _ _ _ _ _ (pv 1) pa_nil (by rfl)) (by rfl))) (pv 0)))) pa_nil (by rfl))))),?_⟩
  cases hS with
  | @mk t0 xs _ ht hps =>
  refine ⟨_,rfl,t0,rfl,⟨_,SqT.of ht⟩,?_⟩
  have hpl:=t.parts_len
  have hxl:=hps.length
  refine comp_tup (K:=K) (a:=t0) (xs:=xs) (fun i ys H'=>Same H H'/\i<=xs.length/\PsAt H' true ys (t.parts.take i)) ⟨Same.refl _,Qp _,by simpa using PsAt.nil⟩ (fun i ys H' _ h=>SqT.of (h.1 _ _ ht)) ?_ ?_
  ·rintro i x ys H1 hx ⟨sm,hi,hys⟩
   obtain ⟨p,hp,hP⟩:=hps.get hx
   have hP1:=hP.kept sm.ls
   have hilt:=(Qh hx).1
   have hyl:=hys.length
   rw [Qv] at hyl
   have hil:i<t.parts.length:=by omega
   have htk:t.parts.take (i+1)=t.parts.take i++[p]:=by
    rw [Qu hil]
    rw [Qb hil] at hp
    rw [Qr hp]
   refine tYes_ok ?_
   rw [if_pos rfl]
   rcases hP1.isL (K:=K) with ⟨bs,l,zs,e1,e2,hl,hL,ty,kb⟩ | ⟨nb,ty0,ty,kb⟩
   ·subst e1 e2
    have hm:Part.b bs∈t.parts:=Qs hp
    refine ⟨_,rfl,_,_,true,rfl,ty,kb,_,rfl,iteT ?_⟩
    refine ⟨_,rfl,_,rfl,l,zs,bs,rfl,hl,hL,QG (deep_part hm) hd,(asc_part ha hm).1,(asc_part ha hm).2,fun q us H2 s2 hq hL2=>?_⟩
    refine ⟨small1000' (by omega),sm.trans s2,by omega,?_⟩
    rw [htk]
    exact (hys.kept s2.ls).snoc (.b hq hL2)
   ·refine ⟨_,rfl,_,_,false,rfl,ty,kb,_,rfl,iteF ?_⟩
    refine ⟨_,rfl,small1000' (by omega),sm,by omega,?_⟩
    rw [htk]
    exact hys.snoc hP1
  ·rintro ys H1 ⟨sm,hi,hys⟩ p hp
   have s1:=same_upd (o:=.lst ys) hp
   refine ⟨p,ys,rfl,.inl ⟨SqL.of upd_same,fun l hl=>?_⟩⟩
   have s2:=same_upd (o:=.tup ys) hl
   refine kq _ _ ((sm.trans s1).trans s2) (.mk upd_same ?_)
   rw [QA (by omega)] at hys
   exact hys.kept (s1.trans s2).ls
theorem and11:Builtin.bitAnd (1:Int) 1=1:=by decide +kernel
theorem ascs_rows:∀ {ts:List Tr},ascs ts->∀ {i:Nat} {a b:Tr},ts[i]?=some a->ts[i+1]?=some b->a.row<b.row
 | t::ts,h,0,a,b,h1,h2=>by
  cases (show some t=some a from h1)
  exact h.2.1 b (Qs (show ts[0]?=some b from h2))
 | t::ts,h,i+1,a,b,h1,h2=>ascs_rows h.2.2 (show ts[i]?=some a from h1) (show ts[i+1]?=some b from h2)
theorem rows_srt {ts:List Tr} {ys:List V} (h64:ts.length<=20) (h:ascs ts) (hl:ys.length=ts.length):srt (ts.map rowK) ys=ys:=by
 refine srt_asc (by rw [Qi];omega) (by simp [hl]) fun i hi=>?_
 rw [Qi] at hi
 have hi':i<ts.length:=by omega
 have e1:(ts.map rowK).getD (i+1) []=rowK ts[i+1]:=by simp [Qe,hi]
 have e2:(ts.map rowK).getD i []=rowK ts[i]:=by simp [Qe,hi']
 have hr:=ascs_rows h (Qb hi') (Qb hi)
 rw [e1,e2]
 show (if (Sum.inl ((ts[i+1].row:Nat):Int):Key)=Sum.inl ((ts[i].row:Nat):Int) then _ else ltK (Sum.inl ((ts[i+1].row:Nat):Int)) (Sum.inl ((ts[i].row:Nat):Int)))=false
 rw [if_neg (fun z=>by injection z with z;omega)]
 show decide (((ts[i+1].row:Nat):Int)<((ts[i].row:Nat):Int))=false
 exact Qj (by omega)
noncomputable abbrev N_Zt:List Str:=["tree","mask","kept"]
theorem sc_Zt:FnScope N_Zt ["tree","mask"] (defScope st_Zt):=⟨rfl,rfl,rfl,by decide +kernel,rfl,by decide +kernel,by decide +kernel⟩
theorem ok_ktS (T:All P w K mg AA DD) (k:Nat) (GS:FnOk P w K mg base CX0 (2*k+6) AA.Zi DD.Zi ["one","mask"] (spKS k)):FnOk P w K mg base CX0 (2*(k+1)+5) AA.Zt DD.Zt ["tree","mask"] (spKT (k+1)):=by
 have GR:=ok_rl (base:=base) T
 refine T.F_Zt.ok sc_Zt (fun vs H Q E h=>?_) (fun cdv A outer s H vs Q E hr h=>?_)
 ·obtain ⟨l,xs,ts,rfl,_⟩:=h
  rfl
 ·obtain ⟨l,xs,ts,rfl,hl,hL,hd,h20,ha,kq⟩:=h
  have nd:=sc_Zt.nd
  have hrS:Room (2*k+6) _:=hr
  have hr4:Room 4 _:=hrS.mono (by omega)
  refine ⟨_,(@pss_cons _ _ _ _ _ (ps_setcomp2 (i:=2) (xs:=["there","one"]) (defScope st_Zt) N_Zt ["mask"] [1] rfl (by exact ⟨rfl,rfl,by decide +kernel,by decide +kernel,by decide +kernel,by decide +kernel,by decide +kernel,rfl,by decide +kernel⟩) rfl rfl (pi_list (pv 0)) (fun _ _ _ _=>(pg_tupK (K:=K) (n:=2) rfl rfl (pgs_cons (pg_name (i:=0) (show (["there","one","mask"]:List Str).Nodup by decide +kernel) rfl (Or.inl rfl)) (pgs_cons (pg_name (i:=1) (show (["there","one","mask"]:List Str).Nodup by decide +kernel) rfl (Or.inl rfl)) pgs_nil)))) (fun _ _ _ _=>pif_one (pt_cmpR op_ne (pe_op op_and (pv 0) (pv 2)) pe_int (nomark _))) (fun _ _ _ _=>(@pe_tup _ _ _ _ _ (@pa_cons _ _ _ _ _ (@pe_op _ _ _ _ _ _ _ _ op_and (pv 0) (pv 2)) (@pa_cons _ _ _ _ _ (pe_call GS hrS rfl T.m_Zi T.k_Zi T.b_Zi .nil pass0 (@pa_cons _ _ _ _ _ (pv 1) (@pa_cons _ _ _ _ _ (pv 2) pa_nil (by rfl)) (by rfl))) pa_nil (by rfl)) (by rfl)))) nd rfl rfl rfl) (@pss_one _ _ _ (@ps_ret _ _ _ _ (pe_sortKT (K:=K) rfl GR hr4 T.b_Zj .nil rfl T.n_sorted rfl T.m_Zj (pv 2))))),?_⟩
  refine ⟨_,rfl,l,rfl,⟨_,SqL.of hl⟩,?_⟩
  have hxl:=hL.length
  refine comp2_list (K:=K) (a:=l) (xs:=xs) (fun i ys H'=>Same H H'/\i<=xs.length/\LAt H' true ys (ts.take i)) ⟨Same.refl _,Qp _,by simpa using LAt.nil⟩ (fun i ys H' _ h=>SqL.of (h.1 _ _ hl)) ?_ ?_
  ·rintro i x ys H1 hx ⟨sm,hi,hys⟩
   obtain ⟨t,ht,hO⟩:=hL.get hx
   have hO:=hO.kept sm.ls
   have hilt:=(Qh hx).1
   have hyl:=hys.length
   rw [Qv] at hyl
   have hil:i<ts.length:=by omega
   have htk:ts.take (i+1)=ts.take i++[t]:=by
    rw [Qu hil]
    rw [Qb hil] at ht
    rw [Qr ht]
   have hm:t∈ts:=Qs ht
   cases hO with
   | plain e _=>cases e
   | @shared q y _ _ hq hS =>
   intro os hos
   obtain ⟨a,b,rfl⟩:∃ a b,os=[a,b]:=by
    match os,hos with
    | [a,b],_=>exact ⟨a,b,rfl⟩
   refine ⟨q,_,rfl,SqT.of hq,rfl,_,_,rfl,_,_,rfl,rfl,⟨[_,_],rfl,rfl⟩,?_⟩
   refine ⟨_,rfl,_,rfl,_,_,rfl,rfl,rfl,_,rfl,?_⟩
   refine iteTb (by
     show (!decide (V.int (Builtin.bitAnd 1 1)=V.int 0))=true
     rw [and11];rfl) ?_
   refine ⟨_,rfl,_,rfl,_,_,rfl,rfl,_,rfl,_,rfl,y,t,rfl,hS,by have:=deeps_mem hm;omega,ascs_mem ha hm,fun v' H2 s2 hS2=>?_⟩
   refine ⟨(by show 2<=sizeLine;decide),fun q2 hq2=>?_⟩
   dsimp only
   rw [and11]
   have s3:=same_upd (o:=.tup [.int 1,v']) hq2
   refine ⟨small1000' (by omega),(sm.trans s2).trans s3,by omega,?_⟩
   rw [htk]
   exact (hys.kept (s2.trans s3).ls).snoc (.shared rfl upd_same (hS2.kept s3.ls))
  ·rintro ys H1 ⟨sm,hi,hys⟩ p hp
   have s1:=same_upd (o:=.lst ys) hp
   rw [QA (by omega)] at hys
   have hyl:=hys.length
   have hys1:=hys.kept s1.ls
   refine ⟨_,rfl,p,ys,ts.map rowK,[true,true],rfl,SqL.of upd_same,by omega,by simp [hyl],fun d hd=>?_,by simp,fun i x d H' s2 hx hd Q' kQ=>?_,fun q H' s2 hq=>?_⟩
   ·obtain ⟨t,_,rfl⟩:=QF hd
    rfl
   ·obtain ⟨t,ht,hO⟩:=hys1.get hx
    rw [Ql,ht] at hd
    cases (show some (rowK t)=some d from hd)
    exact ⟨x,t,rfl,hO.kept s2.ls,fun q H2 s3 hq=>kQ q H2 s3 hq⟩
   ·rw [rows_srt (by omega) ha hyl]
    have s3:=same_upd (o:=.lst ys) hq
    exact kq q ys _ (((sm.trans s1).trans s2).trans s3) upd_same (hys1.kept (s2.trans s3).ls)
theorem ok_kt0 (T:All P w K mg AA DD):FnOk P w K mg base CX0 5 AA.Zt DD.Zt ["tree","mask"] (spKT 0):=by
 have no:∀ vs H Q E,¬ spKT 0 vs H Q E:=fun vs H Q E h=>by
  obtain ⟨l,xs,ts,_,_,_,z,_⟩:=h
  omega
 exact T.F_Zt.ok sc_Zt (fun vs H Q E h=>(no _ _ _ _ h).elim) (fun cdv A outer s H vs Q E hr h=>(no _ _ _ _ h).elim)
theorem ok_kt (T:All P w K mg AA DD):∀ k:Nat,FnOk P w K mg base CX0 (2*k+5) AA.Zt DD.Zt ["tree","mask"] (spKT k)
 | 0=>ok_kt0 T
 | k+1=>ok_ktS T k (ok_kstS T k (ok_kt T k))
end
section
variable {P:Program} {w:World} {K:W.Frag} {mg:Str->Option Value} {base:Heap} {AA:Adr} {DD:Fds}
theorem ls_upd {H:Hp} {d:Addr} {ob ob':HO} (h:H d=some ob) (n1:∀ xs,ob≠.tup xs) (n2:∀ xs,ob≠.lst xs) (n3:∀ o x,ob≠.frz o x):LsS H (upd H d ob') :=
 ⟨fun b xs e=>(by rw [upd_ne (fun z=>by rw [z,h] at e;exact n1 _ (Qr e))];exact e),fun b xs e=>(by rw [upd_ne (fun z=>by rw [z,h] at e;exact n2 _ (Qr e))];exact e),fun b o xs e=>by rw [upd_ne (fun z=>by rw [z,h] at e;exact n3 _ _ (Qr e))];exact e⟩
noncomputable def ones (fs:List (List Key)):List (List Key × V):=fs.map fun k=>(k,.int 1)
noncomputable def addF (fs:List (List Key)) (k:List Key):List (List Key):=if (fs.any fun d=>decide (d=k))=true then fs else fs++[k]
theorem ones_any (fs:List (List Key)) (k:List Key):((ones fs).any fun kv=>decide (kv.1=k))=fs.any fun d=>decide (d=k):=by
 unfold ones
 rw [List.any_map]
 rfl
theorem ones_put (fs:List (List Key)) (k:List Key):putK (ones fs) k (.int 1)=ones (addF fs k):=by
 unfold putK addF
 rw [ones_any]
 split
 ·unfold ones
  rw [List.map_map]
  refine List.map_congr_left fun d _=>?_
  show (if d=k then (d,V.int 1) else (d,V.int 1))=_
  split<;>rfl
 ·unfold ones
  rw [QI]
  rfl
theorem ones_val (fs:List (List Key)) (k:List Key):valV (ones fs) k=if (fs.any fun d=>decide (d=k))=true then some (.int 1) else none:=by
 have h:=valV_any k (ones fs)
 rw [ones_any] at h
 cases e:valV (ones fs) k with
 | none=>rw [e] at h;rw [h];rfl
 | some v =>
  rw [e] at h
  rw [h]
  have hm:∃ d,(d,v)∈ones fs:=by
   unfold valV at e
   obtain ⟨q,hq,rfl⟩:=Option.map_eq_some_iff.mp e
   exact ⟨q.1,List.mem_of_find?_eq_some hq⟩
  obtain ⟨d,hd⟩:=hm
  obtain ⟨y,_,hy⟩:=QF hd
  have:v=.int 1:=(Prod.mk.inj hy).2.symm
  rw [this]
  rfl
noncomputable def spWithout:Sp:=fun vs H Q _=>∃ m o:Nat,vs=[.int m,.int o]/\Q (.int ((m ^^^ (m &&& o):Nat):Int)) H
noncomputable abbrev N_ZG:List Str:=["mask","other"]
theorem sc_ZG:FnScope N_ZG ["mask","other"] (defScope st_ZG):=⟨rfl,rfl,rfl,by decide +kernel,rfl,by decide +kernel,by decide +kernel⟩
theorem ok_ZG (T:All P w K mg AA DD):FnOk P w K mg base CX0 1 AA.ZG DD.ZG ["mask","other"] spWithout:=by
 refine T.F_ZG.ok sc_ZG (fun vs H Q E h=>?_) (fun cdv A outer s H vs Q E hr h=>?_)
 ·obtain ⟨m,o,rfl,_⟩:=h
  rfl
 ·obtain ⟨m,o,rfl,k⟩:=h
  have nd:=sc_ZG.nd
  refine ⟨_,(@pss_one _ _ _ (@ps_ret _ _ _ _ (@pe_op _ _ _ _ _ _ _ _ op_xor (pv 0) (@pe_op _ _ _ _ _ _ _ _ op_and (pv 0) (pv 1))))),?_⟩
  refine ⟨_,rfl,_,rfl,_,rfl,_,_,rfl,rfl,_,_,rfl,rfl,?_⟩
  dsimp only
  rw [bitAnd_nat,bitXor_nat]
  exact k
noncomputable def spAdd:Sp:=fun vs H Q _=>∃ (d:Addr) (y:V) (m:Nat),vs=[.ref d,y,.int ((m:Nat):Int)]/\IsD H d/\((m=0/\Q .non H)∨(m=1/\∃ o H',DGet H d y o/\(o=none∨o=some (.int 1))/\DPut H d y (.int 1) H'/\Q .non H'))
theorem or01:Builtin.bitOr (0:Int) 1=1:=by decide +kernel
noncomputable abbrev N_ZK:List Str:=["found","key","mask"]
theorem sc_ZK:FnScope N_ZK ["found","key","mask"] (defScope st_ZK):=⟨rfl,rfl,rfl,by decide +kernel,rfl,by decide +kernel,by decide +kernel⟩
theorem ok_add (T:All P w K mg AA DD):FnOk P w K mg base CX0 1 AA.ZK DD.ZK ["found","key","mask"] spAdd:=by
 refine T.F_ZK.ok sc_ZK (fun vs H Q E h=>?_) (fun cdv A outer s H vs Q E hr h=>?_)
 ·obtain ⟨d,y,m,rfl,_⟩:=h
  rfl
 ·obtain ⟨d,y,m,rfl,hI,h⟩:=h
  have nd:=sc_ZK.nd
  have hu:_+1<cLine:=QG (Nat.add_le_add_left (show 1<=16*0+200 by decide) _) (by have:=hr.un;omega)
  refine ⟨_,(@pss_one _ _ _ (@ps_if _ _ _ _ _ _ _ _ (@pt_cmpR _ _ _ _ _ _ _ _ op_ne (pv 2) pe_int (nomark _)) (@pss_one _ _ _ (ps_dput hu (pv 0) (pv 1) (@pe_op _ _ _ _ _ _ _ _ op_or (pe_dget2 hu (pv 0) (pv 1) pe_int ⟨by rfl,by rfl,by rfl,by rfl⟩) (pv 2)) rfl)) pss_nil)),?_⟩
  refine ⟨_,rfl,rfl,_,rfl,?_⟩
  rcases h with ⟨rfl,k⟩ | ⟨rfl,o,H',g,ho,hp,k⟩
  ·exact iteF k
  ·refine iteT ?_
   refine ⟨_,rfl,d,rfl,hI,_,rfl,o,g,?_⟩
   have e:o.getD (V.int 0)=.int 0∨o.getD (V.int 0)=.int 1:=by
    rcases ho with z | z<;>rw [z]
    ·exact .inl rfl
    ·exact .inr rfl
   rcases e with e | e<;>rw [e]
   ·refine ⟨_,rfl,_,_,rfl,rfl,?_⟩
    show ∃ _,_
    refine ⟨_,rfl,_,rfl,d,H',rfl,?_,k⟩
    have:=or01
    exact hp
   ·refine ⟨_,rfl,_,_,rfl,rfl,?_⟩
    refine ⟨_,rfl,_,rfl,d,H',rfl,?_,k⟩
    exact hp
end
section
variable {P:Program} {w:World} {K:W.Frag} {mg:Str->Option Value} {base:Heap} {AA:Adr} {DD:Fds}
noncomputable def _root_.Mm.Ex.kids:Ex->List Ex
 | .not e=>[e]
 | .op _ a b=>[a,b]
 | _=>[]
noncomputable def spEI:Sp:=fun vs H Q _=>∃ (v:V) (e:Ex),vs=[v]/\ExAt H v e/\e.plain/\∀ t ys H',Same H H'->H' t=some (.tup ys)->ExsAt H' ys e.kids->Q (.ref t) H'
noncomputable def leafs:List Str:=["num","truth","name"]
noncomputable def uses:List Str:=["do","new"]
theorem ops_not:∀ z∈ops7,z∉leafs/\z∉uses/\z≠"of"/\z≠"name"/\z≠"do"/\z≠"new":=by decide +kernel
theorem not_not:("not":Str)∉leafs/\("not":Str)∉uses/\("not":Str)≠"of"/\("not":Str)≠"name"/\("not":Str)≠"do"/\("not":Str)≠"new":=by decide +kernel
theorem ex_head {H:Hp} {v:V} {e:Ex} (h:ExAt H v e) (hp:e.plain):∃ (t:Addr) (z:Str) (ys:List V),v=.ref t/\H t=some (.tup (.str z::ys))/\((z∈leafs/\e.kids=[]) ∨
  (z∉leafs/\z∉uses/\z≠"of"/\z≠"name"/\z≠"do"/\z≠"new")/\ExsAt H ys e.kids/\ys.length<=2/\ys≠[]):=by
 cases h with
 | num h=>exact ⟨_,_,_,rfl,h,.inl ⟨by decide,rfl⟩⟩
 | truth h=>exact ⟨_,_,_,rfl,h,.inl ⟨by decide,rfl⟩⟩
 | name h=>exact ⟨_,_,_,rfl,h,.inl ⟨by decide,rfl⟩⟩
 | not h a=>exact ⟨_,_,_,rfl,h,.inr ⟨not_not,.cons a .nil,by simp,by simp⟩⟩
 | op h a b=>exact ⟨_,_,_,rfl,h,.inr ⟨ops_not _ hp.1,.cons a (.cons b .nil),by simp,by simp⟩⟩
 | of h a=>exact hp.elim
 | many h l a=>exact hp.elim
theorem cut_tail (a:V) (ys:List V):cutV (a::ys) (some 1) none=ys:=by
 unfold cutV
 have h1:HT.sIx (a::ys).length 0 (some 1)=1:=by simp [HT.sIx]
 have h2:HT.sIx (a::ys).length (a::ys).length none=ys.length+1:=by simp [HT.sIx]
 rw [h1,h2]
 simp
theorem inV_strs (z:Str) (l:List Str):inV (.str z) (l.map V.str)=decide (z∈l):=by
 induction l with
 | nil=>rfl
 | cons a r ih =>
  show ((a == z)||inV (.str z) (r.map V.str))=_
  rw [ih]
  by_cases h:a=z
  ·subst h;simp
  ·have:¬ z=a:=fun e=>h e.symm
   simp [h,this]
theorem in_strs {z:Str} {zs:List Str} {b:Bool} (h:decide (z∈zs)=b):(if false=true then !inV (V.str z) (zs.map V.str) else inV (V.str z) (zs.map V.str))=b:=by
 rw [<- h]
 exact inV_strs _ _
noncomputable abbrev N_ZD:List Str:=["e"]
theorem sc_ZD:FnScope N_ZD ["e"] (defScope st_ZD):=⟨rfl,rfl,rfl,by decide +kernel,rfl,by decide +kernel,by decide +kernel⟩
theorem ok_ei (T:All P w K mg AA DD):FnOk P w K mg base CX0 1 AA.ZD DD.ZD ["e"] spEI:=by
 refine T.F_ZD.ok sc_ZD (fun vs H Q E h=>?_) (fun cdv A outer s H vs Q E hr h=>?_)
 ·obtain ⟨v,e,rfl,_⟩:=h
  rfl
 ·obtain ⟨v,e,rfl,hE,hpl,k⟩:=h
  have nd:=sc_ZD.nd
  refine ⟨_,(@pss_cons _ _ _ _ _ (@ps_if _ _ _ _ _ _ _ _ (@pt_cmpR _ _ _ _ _ _ _ _ (op_in_seqK (K:=K) rfl) (@pe_ix _ _ _ _ _ _ _ (ix_tupK (K:=K) rfl) (pv 0) pe_int (fun _ _=>rfl)) (@pe_tup _ _ _ _ _ (@pa_cons _ _ _ _ _ pe_str (@pa_cons _ _ _ _ _ pe_str (@pa_cons _ _ _ _ _ pe_str pa_nil (by rfl)) (by rfl)) (by rfl))) rfl) (@pss_one _ _ _ (@ps_ret _ _ _ _ (@pe_tup _ _ _ _ _ pa_nil))) pss_nil) (@pss_cons _ _ _ _ _ (@ps_if _ _ _ _ _ _ _ _ (@pt_cmpR _ _ _ _ _ _ _ _ (op_in_seqK (K:=K) rfl) (@pe_ix _ _ _ _ _ _ _ (ix_tupK (K:=K) rfl) (pv 0) pe_int (fun _ _=>rfl)) (@pe_tup _ _ _ _ _ (@pa_cons _ _ _ _ _ pe_str (@pa_cons _ _ _ _ _ pe_str pa_nil (by rfl)) (by rfl))) rfl) (@pss_one _ _ _ (@ps_ret _ _ _ _ (@pe_ix _ _ _ _ _ _ _ (ix_tupK (K:=K) rfl) (pv 0) pe_int (fun _ _=>rfl)))) pss_nil) (@pss_cons _ _ _ _ _ (@ps_if _ _ _ _ _ _ _ _ (@pt_cmpR _ _ _ _ _ _ _ _ op_eq (@pe_ix _ _ _ _ _ _ _ (ix_tupK (K:=K) rfl) (pv 0) pe_int (fun _ _=>rfl)) pe_str (nomark _)) (@pss_one _ _ _ (@ps_ret _ _ _ _ (@pe_tup _ _ _ _ _ (@pa_cons _ _ _ _ _ (@pe_ix _ _ _ _ _ _ _ (ix_tupK (K:=K) rfl) (pv 0) pe_int (fun _ _=>rfl)) pa_nil (by rfl))))) pss_nil) (@pss_one _ _ _ (@ps_ret _ _ _ _ (pe_slice sl_tup (pv 0) (po_some pe_int) po_none)))))),?_⟩
  obtain ⟨t,z,ys,rfl,ht,hc⟩:=ex_head hE hpl
  refine ⟨_,rfl,t,_,_,_,rfl,rfl,SqT.of ht,atI_nat (j:=0) rfl,(by show 3<=sizeLine;decide),fun pt hpt=>⟨pt,leafs.map V.str,rfl,.inr (SqT.of upd_same),rfl,rfl,_,rfl,?_⟩⟩
  have s1:=same_upd (o:=.tup (leafs.map V.str)) hpt
  have ht1:=s1 _ _ ht
  change if _=true then _ else _
  generalize hH1:upd H pt _=H1
  have s1:Same H H1:=by rw [<- hH1];exact same_upd hpt
  have ht1:=s1 _ _ ht
  rcases hc with ⟨hz,hk⟩ | ⟨⟨n1,n2,n3,_⟩,hk,hl,hn⟩
  ·rw [in_strs (Qw hz)]
   refine iteT ?_
   refine ⟨(by show 0<=sizeLine;decide),fun p hp=>?_⟩
   exact k p _ _ (s1.trans (same_upd hp)) upd_same (by rw [hk];exact .nil)
  ·rw [in_strs (Qj n1)]
   refine iteF ?_
   refine ⟨_,rfl,t,_,_,_,rfl,rfl,SqT.of ht1,atI_nat (j:=0) rfl,(by show 2<=sizeLine;decide),fun pu hpu=>⟨pu,uses.map V.str,rfl,.inr (SqT.of upd_same),rfl,rfl,_,rfl,?_⟩⟩
   change if _=true then _ else _
   generalize hH2:upd H1 pu _=H2
   have s2:Same H1 H2:=by rw [<- hH2];exact same_upd hpu
   have ht2:=s2 _ _ ht1
   rw [in_strs (Qj n2)]
   refine iteF ?_
   refine ⟨_,rfl,t,_,_,_,rfl,rfl,SqT.of ht2,atI_nat (j:=0) rfl,rfl,_,rfl,?_⟩
   refine iteFb (Qj fun q=>n3 (by injection q)) ?_
   refine ⟨_,rfl,_,rfl,t,_,rfl,SqT.of ht2,?_,fun p hp=>?_⟩
   ·rintro ⟨q,_⟩
    simp [HT.sIx] at q
   rw [cut_tail]
   exact k p _ _ ((s1.trans s2).trans (same_upd hp)) upd_same ((hk.kept ((s1.trans s2).trans (same_upd hp)).tups))
end
section
variable {P:Program} {w:World} {K:W.Frag} {mg:Str->Option Value} {base:Heap} {AA:Adr} {DD:Fds}
noncomputable def _root_.Mm.Tr.kw:Tr->Str
 | .set _ _ _=>"set"
 | .tell _ _=>"tell"
 | .iff _ _ _ _=>"if"
 | .whl _ _ _=>"while"
noncomputable def _root_.Mm.Tr.ex:Tr->Ex
 | .set _ _ e=>e
 | .tell _ e=>e
 | .iff _ e _ _=>e
 | .whl _ e _=>e
noncomputable def _root_.Mm.Tr.nm:Tr->Option Str
 | .set _ n _=>some n
 | _=>none
noncomputable def _root_.Mm.Tr.blocks:Tr->List (List Tr)
 | .iff _ _ b o=>[b,o]
 | .whl _ _ b=>[b]
 | _=>[]
noncomputable def isB:Part->Bool
 | .b _=>true
 | _=>false
theorem parts_b (t:Tr):t.parts.filter isB=t.blocks.map Part.b:=by cases t<;>rfl
theorem flat_b (t:Tr):t.flat=(t.row,t.ex,t.nm)::(t.blocks.map flats).flatten:=by
 cases t<;>simp [Tr.flat,Tr.row,Tr.ex,Tr.nm,Tr.blocks]
theorem kw_not (t:Tr):t.kw≠"def"/\t.kw≠"kind":=by cases t<;>simp only [Tr.kw]<;>decide +kernel
theorem st_head {H:Hp} {sh:Bool} {vs:List V} {t:Tr} (h:PsAt H sh vs t.parts):∃ (r:List V),vs=.str t.kw::.int ((t.row:Nat):Int)::r:=by
 cases t with
 | set r n e=>cases h with | cons a b=>cases a;cases b with | cons c d=>cases c;exact ⟨_,rfl⟩
 | tell r e=>cases h with | cons a b=>cases a;cases b with | cons c d=>cases c;exact ⟨_,rfl⟩
 | iff r e b o=>cases h with | cons a b=>cases a;cases b with | cons c d=>cases c;exact ⟨_,rfl⟩
 | whl r e b=>cases h with | cons a b=>cases a;cases b with | cons c d=>cases c;exact ⟨_,rfl⟩
noncomputable def spEO:Sp:=fun vs H Q _=>∃ (v:V) (t:Tr),vs=[v]/\SAt H true v t/\∀ x,ExAt H x t.ex->Q x H
noncomputable abbrev N_ZH:List Str:=["one"]
theorem sc_ZH:FnScope N_ZH ["one"] (defScope st_ZH):=⟨rfl,rfl,rfl,by decide +kernel,rfl,by decide +kernel,by decide +kernel⟩
theorem ok_eo (T:All P w K mg AA DD):FnOk P w K mg base CX0 1 AA.ZH DD.ZH ["one"] spEO:=by
 refine T.F_ZH.ok sc_ZH (fun vs H Q E h=>?_) (fun cdv A outer s H vs Q E hr h=>?_)
 ·obtain ⟨v,t,rfl,_⟩:=h
  rfl
 ·obtain ⟨v,t,rfl,hS,k⟩:=h
  have nd:=sc_ZH.nd
  refine ⟨_,(@pss_one _ _ _ (@ps_ret _ _ _ _ (pe_ifExp (@pt_cmpR _ _ _ _ _ _ _ _ op_eq (@pe_ix _ _ _ _ _ _ _ (ix_tupK (K:=K) rfl) (pv 0) pe_int (fun _ _=>rfl)) pe_str (nomark _)) (@pe_ix _ _ _ _ _ _ _ (ix_tupK (K:=K) rfl) (pv 0) pe_int (fun _ _=>rfl)) (@pe_ix _ _ _ _ _ _ _ (ix_tupK (K:=K) rfl) (pv 0) pe_int (fun _ _=>rfl))))),?_⟩
  cases hS with
  | @mk t0 vs _ ht hps =>
  cases t with
  | set r n e =>
   cases hps with | cons a b=>cases a;cases b with | cons c d=>cases c;cases d with | cons a b=>cases a;cases b with | cons c d=>cases c with | e hx =>
   refine ⟨_,rfl,t0,_,_,_,rfl,rfl,SqT.of ht,atI_nat (j:=0) rfl,rfl,_,rfl,iteT ?_⟩
   exact ⟨_,rfl,t0,_,_,_,rfl,rfl,SqT.of ht,atI_nat (j:=3) rfl,k _ hx⟩
  | tell r e =>
   cases hps with | cons a b=>cases a;cases b with | cons c d=>cases c;cases d with | cons a b=>cases a with | e hx =>
   refine ⟨_,rfl,t0,_,_,_,rfl,rfl,SqT.of ht,atI_nat (j:=0) rfl,rfl,_,rfl,iteF ?_⟩
   exact ⟨_,rfl,t0,_,_,_,rfl,rfl,SqT.of ht,atI_nat (j:=2) rfl,k _ hx⟩
  | iff r e b o =>
   cases hps with | cons a b=>cases a;cases b with | cons c d=>cases c;cases d with | cons a b=>cases a with | e hx =>
   refine ⟨_,rfl,t0,_,_,_,rfl,rfl,SqT.of ht,atI_nat (j:=0) rfl,rfl,_,rfl,iteF ?_⟩
   exact ⟨_,rfl,t0,_,_,_,rfl,rfl,SqT.of ht,atI_nat (j:=2) rfl,k _ hx⟩
  | whl r e b =>
   cases hps with | cons a b=>cases a;cases b with | cons c d=>cases c;cases d with | cons a b=>cases a with | e hx =>
   refine ⟨_,rfl,t0,_,_,_,rfl,rfl,SqT.of ht,atI_nat (j:=0) rfl,rfl,_,rfl,iteF ?_⟩
   exact ⟨_,rfl,t0,_,_,_,rfl,rfl,SqT.of ht,atI_nat (j:=2) rfl,k _ hx⟩
noncomputable def spBO:Sp:=fun vs H Q _=>∃ (v:V) (t:Tr),vs=[v]/\SAt H true v t/\∀ p ys H',Same H H'->H' p=some (.lst ys)->PsAt H' true ys (t.blocks.map Part.b)->Q (.ref p) H'
noncomputable abbrev N_Zv:List Str:=["one"]
theorem sc_Zv:FnScope N_Zv ["one"] (defScope st_Zv):=⟨rfl,rfl,rfl,by decide +kernel,rfl,by decide +kernel,by decide +kernel⟩
theorem ok_bo (T:All P w K mg AA DD):FnOk P w K mg base CX0 1 AA.Zv DD.Zv ["one"] spBO:=by
 refine T.F_Zv.ok sc_Zv (fun vs H Q E h=>?_) (fun cdv A outer s H vs Q E hr h=>?_)
 ·obtain ⟨v,t,rfl,_⟩:=h
  rfl
 ·obtain ⟨v,t,rfl,hS,k⟩:=h
  have nd:=sc_Zv.nd
  refine ⟨_,(@pss_one _ _ _ (@ps_ret _ _ _ _ (pe_comp (defScope st_Zv) N_Zv [] [] rfl (by exact ⟨rfl,rfl,by decide +kernel,rfl,by decide +kernel,by decide +kernel,by decide +kernel,rfl,by decide +kernel⟩) rfl rfl (pi_tup (pv 0)) (fun _ _ _ _=>pif_one (pt_val (pe_callB (call_isinstK (K:=K) (n:="list") rfl) rfl T.n_isinstance bt_isi (pa_cons (pv 0) (pa_cons (pe_bltn (v:=.ty "list") rfl T.n_list bt_list rfl) pa_nil))))) (fun _ _ _ _=>(pv 0))))),?_⟩
  cases hS with
  | @mk t0 xs _ ht hps =>
  refine ⟨_,rfl,t0,rfl,⟨_,SqT.of ht⟩,?_⟩
  have hpl:=t.parts_len
  have hxl:=hps.length
  refine comp_tup (K:=K) (a:=t0) (xs:=xs) (fun i ys H'=>H'=H/\i<=xs.length/\ys.length<=i/\PsAt H true ys ((t.parts.take i).filter isB)) ⟨rfl,Qp _,Qp _,by simpa using PsAt.nil⟩ (fun i ys H' _ h=>by rw [h.1];exact SqT.of ht) ?_ ?_
  ·rintro i x ys H1 hx ⟨rfl,hi,hy,hys⟩
   obtain ⟨p,hp,hP⟩:=hps.get hx
   have hilt:=(Qh hx).1
   have hil:i<t.parts.length:=by omega
   have htk:(t.parts.take (i+1)).filter isB=(t.parts.take i).filter isB++[p].filter isB:=by
    rw [Qu hil,List.filter_append]
    rw [Qb hil] at hp
    rw [Qr hp]
   rcases hP.isL (K:=K) with ⟨bs,l,zs,e1,e2,hl,hL,ty,kb⟩ | ⟨nb,ty0,ty,kb⟩
   ·subst e1 e2
    refine ⟨_,rfl,_,_,true,rfl,ty,kb,_,rfl,iteT ?_⟩
    refine ⟨_,rfl,small1000' (by omega),rfl,by omega,by simp;omega,?_⟩
    rw [htk]
    exact hys.snoc hP
   ·refine ⟨_,rfl,_,_,false,rfl,ty,kb,_,rfl,iteF ?_⟩
    refine ⟨rfl,by omega,by omega,?_⟩
    rw [htk]
    have:[p].filter isB=[]:=by
     cases p with
     | b ts=>exact absurd rfl (nb ts)
     | s z=>rfl
     | i n=>rfl
     | e x=>rfl
    rw [this,List.append_nil]
    exact hys
  ·rintro ys H1 ⟨rfl,hi,hy,hys⟩ p hp
   rw [QA (by omega),parts_b] at hys
   have s1:=same_upd (o:=.lst ys) hp
   exact k p ys _ s1 upd_same (hys.kept s1.ls)
end
section
variable {P:Program} {w:World} {K:W.Frag} {mg:Str->Option Value} {base:Heap} {AA:Adr} {DD:Fds}
noncomputable def heads:List Str:=["def","kind"]
noncomputable def spFR:Sp:=fun vs H Q _=>∃ (l:Addr) (xs:List V) (ts:List Tr),vs=[.ref l]/\H l=some (.lst xs)/\LAt H true xs ts/\∀ d H',Same H H'->Q (.ref d) H'
noncomputable abbrev N_Zs:List Str:=["tree","found","mask","one","key","rows"]
theorem sc_Zs:FnScope N_Zs ["tree"] (defScope st_Zs):=⟨rfl,rfl,rfl,by decide +kernel,rfl,by decide +kernel,by decide +kernel⟩
theorem ok_fr (T:All P w K mg AA DD):FnOk P w K mg base CX0 1 AA.Zs DD.Zs ["tree"] spFR:=by
 refine T.F_Zs.ok sc_Zs (fun vs H Q E h=>?_) (fun cdv A outer s H vs Q E hr h=>?_)
 ·obtain ⟨l,xs,ts,rfl,_⟩:=h
  rfl
 ·obtain ⟨l,xs,ts,rfl,hl,hL,kq⟩:=h
  have nd:=sc_Zs.nd
  have hu:=QG (Nat.add_le_add_left (show 1<=64 by decide) _) hr.units
  refine ⟨_,(@pss_cons _ _ _ _ _ (@ps_set _ _ 1 _ _ _ _ nd rfl (Or.inl rfl) (pe_dnewT) (by rfl) (by first | exact .inl rfl | exact .inr rfl | assumption)) (@pss_cons _ _ _ _ _ (@ps_for _ _ _ _ _ _ _ _ PassesOwn.never rfl (pi_list (pv 0)) (pg_tup rfl (pgs_cons (pg_name (i:=2) nd rfl (Or.inl rfl)) (pgs_cons (pg_name (i:=3) nd rfl (Or.inl rfl)) pgs_nil))) (@pss_one _ _ _ (@ps_if _ _ _ _ _ _ _ _ (@pt_cmpR _ _ _ _ _ _ _ _ (op_in_seqK (K:=K) rfl) (@pe_ix _ _ _ _ _ _ _ (ix_tupK (K:=K) rfl) (pv 3) pe_int (fun _ _=>rfl)) (@pe_tup _ _ _ _ _ (@pa_cons _ _ _ _ _ pe_str (@pa_cons _ _ _ _ _ pe_str pa_nil (by rfl)) (by rfl))) rfl) (@pss_cons _ _ _ _ _ (@ps_set _ _ 4 _ _ _ _ nd rfl (Or.inl rfl) (pe_no) (by rfl) (by first | exact .inl rfl | exact .inr rfl | assumption)) (@pss_cons _ _ _ _ _ (@ps_set _ _ 5 _ _ _ _ nd rfl (Or.inl rfl) (pe_no) (by rfl) (by first | exact .inl rfl | exact .inr rfl | assumption)) (@pss_one _ _ _ (ps_dput hu (pv 1) (pv 4) (pe_no) rfl)))) pss_nil)) (by intro _;rfl)) (@pss_one _ _ _ (@ps_ret _ _ _ _ (pv 1))))),?_⟩
  refine fun d hd=>?_
  have s1:=same_upd (o:=.dT []) hd
  dsimp only [gName]
  refine cut_for (fun σ' H'=>Same H H'/\∃ x2 x3 x4 x5,σ'=[some (.ref l),some (.ref d),x2,x3,x4,x5]) (fun R hR=>?_) ?_
  ·refine ⟨_,rfl,l,rfl,⟨_,SqL.of (s1 _ _ hl)⟩,?_⟩
   refine for_list (K:=K) (a:=l) (xs:=xs) (fun i σ' H'=>Same H H'/\∃ x2 x3 x4 x5,σ'=[some (.ref l),some (.ref d),x2,x3,x4,x5]) ⟨s1,_,_,_,_,rfl⟩ (fun i σ' H' _ h=>SqL.of (h.1 _ _ hl)) ?_ ?_
   ·rintro i x σ' H1 hx ⟨sm,x2,x3,x4,x5,rfl⟩
    obtain ⟨t,ht,hO⟩:=hL.get hx
    have hO1:=hO.kept sm.ls
    cases hO1 with
    | plain e _=>cases e
    | @shared p y _ _ hp hS =>
    cases hS with
    | @mk t0 vs _ ht0 hps =>
    obtain ⟨vr,rfl⟩:=st_head hps
    refine ⟨p,_,rfl,SqT.of hp,rfl,_,_,rfl,_,_,rfl,rfl,?_⟩
    refine ⟨_,rfl,t0,_,_,_,rfl,rfl,SqT.of ht0,atI_nat (j:=0) rfl,(by show 2<=sizeLine;decide),fun pt hpt=>⟨pt,heads.map V.str,rfl,.inr (SqT.of upd_same),rfl,rfl,_,rfl,?_⟩⟩
    have hh:t.kw∉heads:=by cases t<;>simp only [Tr.kw]<;>decide +kernel
    refine iteFb (in_strs (Qj hh)) ?_
    exact ⟨sm.trans (same_upd hpt),_,_,_,_,rfl⟩
   ·rintro σ' H1 ⟨sm,x2,x3,x4,x5,rfl⟩
    exact hR _ _ ⟨sm,_,_,_,_,rfl⟩
  ·rintro σ' H1 ⟨sm,x2,x3,x4,x5,rfl⟩
   exact ⟨_,rfl,kq d _ sm⟩
end
section
variable {P:Program} {w:World} {K:W.Frag} {mg:Str->Option Value} {base:Heap} {AA:Adr} {DD:Fds}
noncomputable def srtK (fs:List (List Key)):List (List Key):=(srtI fs).map fun i=>fs.getD i []
theorem srtI_lt {fs:List (List Key)}:∀ i∈srtI fs,i<fs.length:=by
 unfold srtI
 split
 ·intro i hi
  simpa using hi
 ·intro i hi
  exact pickN_ent (ordN fs) (by omega) i hi
theorem srt_tups {H:Hp} {xs:List V} {fs:List (List Key)} (h:TupsAt H xs fs):TupsAt H (srt fs xs) (srtK fs):=by
 refine ⟨by simp [srt,srtK],fun j x d hx hd=>?_⟩
 unfold srt at hx
 unfold srtK at hd
 rw [Ql] at hx hd
 obtain ⟨i,hi,rfl⟩:=Option.map_eq_some_iff.mp hx
 rw [hi] at hd
 have hd:fs.getD i []=d:=by simpa using hd
 have hlt:=srtI_lt i (Qs hi)
 have hlx:i<xs.length:=by rw [h.1];exact hlt
 refine h.2 i _ d ?_ ?_
 ·rw [Qb hlx,Qe,Qb hlx];rfl
 ·rw [<- hd,Qb hlt,Qe,Qb hlt];rfl
noncomputable def spWM:Sp:=fun vs H Q _=>∃ (d:Addr) (fs:List (List Key)) (sh:List Bool),vs=[.ref d]/\H d=some (.dT (ones fs))/\fs.length<64/\(∀ k∈fs,k.map isI=sh)/\sh≠[]/\sh.length<100/\∀ p ys H',Same H H'->H' p=some (.lst ys)->TupsAt H' ys ((srtK fs).map fun k=>.inl 1::k)->Q (.ref p) H'
noncomputable abbrev N_Zr:List Str:=["found"]
theorem sc_Zr:FnScope N_Zr ["found"] (defScope st_Zr):=⟨rfl,rfl,rfl,by decide +kernel,rfl,by decide +kernel,by decide +kernel⟩
theorem ok_wm (T:All P w K mg AA DD):FnOk P w K mg base CX0 1 AA.Zr DD.Zr ["found"] spWM:=by
 refine T.F_Zr.ok sc_Zr (fun vs H Q E h=>?_) (fun cdv A outer s H vs Q E hr h=>?_)
 ·obtain ⟨d,fs,sh,rfl,_⟩:=h
  rfl
 ·obtain ⟨d,fs,sh,rfl,hd,h64,hsh,hne,hshl,kq⟩:=h
  have nd:=sc_Zr.nd
  have hu:=QG (Nat.add_le_add_left (show 1<=64 by decide) _) hr.units
  refine ⟨_,(@pss_one _ _ _ (@ps_ret _ _ _ _ (pe_comp (defScope st_Zr) N_Zr ["found"] [0] rfl (by exact ⟨rfl,rfl,by decide +kernel,rfl,by decide +kernel,by decide +kernel,by decide +kernel,rfl,by decide +kernel⟩) rfl rfl (pi_list (pe_callB (call_sortedD rfl) rfl T.n_sorted bt_sorted (@pa_cons _ _ _ _ _ (pv 0) pa_nil (by rfl)))) (fun _ _ _ _=>pif_nil) (fun _ _ _ _=>(@pe_op _ _ _ _ _ _ _ _ (op_catTK (K:=K) rfl) (@pe_tup _ _ _ _ _ (@pa_cons _ _ _ _ _ (pe_dget hu (pv 1) (pv 0) (fun _ _=>rfl)) pa_nil (by rfl))) (pv 0)))))),?_⟩
  have hmp:(ones fs).map (·.1)=fs:=by
   unfold ones
   rw [List.map_map]
   show fs.map id=fs
   rw [List.map_id]
  refine ⟨_,rfl,d,ones fs,sh,rfl,hd,(by unfold ones;rw [Qi];omega),fun kv hkv=>?_,hne,fun p xs hp hT=>?_⟩
  ·unfold ones at hkv
   obtain ⟨k,hk,rfl⟩:=QF hkv
   exact hsh k hk
  rw [hmp] at hT ⊢
  have s1:=same_upd (o:=.lst (srt fs xs)) hp
  have hS:=srt_tups hT
  refine ⟨p,rfl,⟨_,SqL.of upd_same⟩,?_⟩
  refine comp_list (K:=K) (a:=p) (xs:=srt fs xs) (fun i ys H'=>Same (upd H p (.lst (srt fs xs))) H'/\i<=(srt fs xs).length/\TupsAt H' ys (((srtK fs).take i).map fun k=>.inl 1::k)) ⟨Same.refl _,Qp _,by simp,fun j x d h=>by simp at h⟩ (fun i ys H' _ h=>SqL.of (h.1 _ _ upd_same)) ?_ ?_
  ·rintro i x ys H1 hx ⟨sm,hi,hys⟩
   have hilt:=(Qh hx).1
   have hik:i<(srtK fs).length:=by rw [<- hS.1];exact hilt
   obtain ⟨t,rfl,ht⟩:=hS.2 i x (srtK fs)[i] hx (Qb hik)
   have hyl:=hys.1
   rw [Qi,Qv] at hyl
   have hmem:(srtK fs)[i]∈fs:=by
    obtain ⟨j,hj,e⟩:=QF (QC hik)
    rw [<- e,Qe,Qb (srtI_lt j hj)]
    exact QC _
   have hnn:(srtK fs)[i]≠[]:=fun z=>hne (by rw [<- hsh _ hmem,z];rfl)
   have hkl:(srtK fs)[i].length<100:=by
    have:=congrArg List.length (hsh _ hmem)
    rw [Qi] at this
    omega
   have h64s:(srtK fs).length<=200:=by
    unfold srtK
    rw [Qi,srtI_len]
    omega
   have ht1:=sm _ _ (s1 _ _ ht)
   have hd1:=sm _ _ (s1 _ _ hd)
   generalize hk:(srtK fs)[i]=k at *
   have hval:valV (ones fs) k=some (.int 1):=by
    rw [ones_val,if_pos (by rw [List.any_eq_true];exact ⟨k,hmem,Qw rfl⟩)]
   refine tYes_ok ?_
   rw [if_pos rfl]
   refine ⟨_,rfl,_,rfl,d,.int 1,rfl,by rw [<- hval];exact DGet.t hd1 ht1,(by show 1<=sizeLine;decide),fun q hq=>?_⟩
   have s2:=same_upd (o:=.tup [.int 1]) hq
   refine ⟨_,rfl,q,t,[.int 1],k.map kV,rfl,rfl,SqT.of upd_same,SqT.of (s2 _ _ ht1),by simp,?_,fun z=>absurd (by simpa using z) hnn,fun _ q2 hq2=>?_⟩
   ·rw [Qi]
    exact Nat.le_of_lt (small1000' (by simp only [List.length_cons,List.length_nil];omega))
   have s3:=same_upd (o:=.tup ([.int 1]++k.map kV)) hq2
   refine ⟨small1000' (by omega),(sm.trans s2).trans s3,by omega,?_⟩
   rw [Qu hik,QI,hk]
   refine ⟨by simp [hys.1],fun j y e hy he=>?_⟩
   by_cases hj:j<ys.length
   ·rw [Qz hj] at hy
    rw [Qz (by rw [Qi,Qv];omega)] at he
    obtain ⟨t',a1,a2⟩:=hys.2 j y e hy he
    exact ⟨t',a1,s3 _ _ (s2 _ _ a2)⟩
   ·rw [Qx (by omega)] at hy
    rw [Qx (by rw [Qi,Qv];omega),Qi,Qv,<- hyl] at he
    have hj2:=(Qh hy).1
    have hj0:j-ys.length=0:=by simpa using hj2
    rw [hj0] at hy he
    have y1:V.ref q2=y:=by simpa using hy
    have e1:(.inl 1::k:List Key)=e:=by simpa using he
    exact ⟨q2,y1.symm,by rw [<- e1];exact upd_same⟩
  ·rintro ys H1 ⟨sm,hi,hys⟩ q hq
   have s2:=same_upd (o:=.lst ys) hq
   rw [QA (by rw [hS.1];exact Qf _)] at hys
   exact kq q ys _ ((s1.trans sm).trans s2) upd_same ⟨hys.1,fun j x k a b=>by obtain ⟨t,e,h⟩:=hys.2 j x k a b;exact ⟨t,e,s2 _ _ h⟩⟩
end
section
variable {P:Program} {w:World} {K:W.Frag} {mg:Str->Option Value} {base:Heap} {AA:Adr} {DD:Fds}
noncomputable def P1s (H:Hp) (xs:List V):Prop:=∀ x∈xs,∃ (t:Addr) (y:V),x=.ref t/\H t=some (.tup [.int 1,y])
noncomputable def spAll1:Sp:=fun vs H Q _=>∃ (l:Addr) (xs:List V),vs=[.ref l]/\H l=some (.lst xs)/\P1s H xs/\Q (.int (if xs=[] then 0 else 1)) H
noncomputable abbrev N_ZJ:List Str:=["pairs","found","mask","value"]
theorem sc_ZJ:FnScope N_ZJ ["pairs"] (defScope st_ZJ):=⟨rfl,rfl,rfl,by decide +kernel,rfl,by decide +kernel,by decide +kernel⟩
theorem ok_all1 (T:All P w K mg AA DD):FnOk P w K mg base CX0 1 AA.ZJ DD.ZJ ["pairs"] spAll1:=by
 refine T.F_ZJ.ok sc_ZJ (fun vs H Q E h=>?_) (fun cdv A outer s H vs Q E hr h=>?_)
 ·obtain ⟨l,xs,rfl,_⟩:=h
  rfl
 ·obtain ⟨l,xs,rfl,hl,hP,k⟩:=h
  have nd:=sc_ZJ.nd
  refine ⟨_,(@pss_cons _ _ _ _ _ (@ps_set _ _ 1 _ _ _ _ nd rfl (Or.inl rfl) pe_int (by rfl) (by first | exact .inl rfl | exact .inr rfl | assumption)) (@pss_cons _ _ _ _ _ (@ps_for _ _ _ _ _ _ _ _ PassesOwn.never rfl (pi_list (pv 0)) (pg_tup rfl (pgs_cons (pg_name (i:=2) nd rfl (Or.inl rfl)) (pgs_cons (pg_name (i:=3) nd rfl (Or.inl rfl)) pgs_nil))) (@pss_one _ _ _ (@ps_set _ _ 1 _ _ _ _ nd rfl (Or.inl rfl) (@pe_op _ _ _ _ _ _ _ _ op_or (pv 1) (pv 2)) (by rfl) (by first | exact .inl rfl | exact .inr rfl | assumption))) (by intro _;rfl)) (@pss_one _ _ _ (@ps_ret _ _ _ _ (pv 1))))),?_⟩
  refine seq_c ?_
  dsimp only [gName]
  refine cut_for (fun σ' H'=>H'=H/\∃ s2 s3:Option V,σ'=[some (.ref l),some (.int (if xs=[] then 0 else 1)),s2,s3]) (fun R hRR=>?_) ?_
  ·refine ⟨_,rfl,l,rfl,⟨_,SqL.of hl⟩,?_⟩
   refine for_list (K:=K) (a:=l) (xs:=xs) (fun i σ' H'=>H'=H/\∃ s2 s3:Option V,σ'=[some (.ref l),some (.int (if i=0 then 0 else 1)),s2,s3]) ⟨rfl,none,none,rfl⟩ (fun i σ' H' _ hsl65=>by obtain ⟨e,_⟩:=hsl65;rw [e];exact SqL.of hl) ?_ ?_
   ·rintro i x σ' H1 hx ⟨rfl,s2,s3,rfl⟩
    obtain ⟨t,y,rfl,ht⟩:=hP x (Qs hx)
    refine ⟨t,_,rfl,SqT.of ht,rfl,_,_,rfl,_,_,rfl,rfl,?_⟩
    refine ⟨_,rfl,_,rfl,_,_,rfl,rfl,rfl,some (.int 1),some y,?_⟩
    by_cases h0:i=0
    ·subst h0;rfl
    ·rw [if_neg h0,if_neg (by omega)];rfl
   ·rintro σ' H1 ⟨rfl,s2,s3,rfl⟩
    refine hRR _ _ ⟨rfl,s2,s3,?_⟩
    cases xs<;>rfl
  ·rintro σ' H1 ⟨rfl,s2,s3,rfl⟩
   exact ⟨_,rfl,k⟩
noncomputable def KL (H:Hp) (p:Addr) (ks:List Str):Prop:=∃ ts:List Addr,H p=some (.lst (ts.map V.ref))/\ts.length=ks.length/\∀ (i:Nat) (t:Addr) (k:Str),ts[i]?=some t->ks[i]?=some k->H t=some (.tup [.int 1,.str k])
theorem KL.kept {H H':Hp} {p:Addr} {ks:List Str} (h:KL H p ks) (s:LsS H H'):KL H' p ks:=by obtain ⟨ts,a,b,c⟩:=h;exact ⟨ts,s.2 _ _ a,b,fun i t k x y=>s.1 _ _ (c i t k x y)⟩
theorem KL.same {H H':Hp} {p:Addr} {ks:List Str} (h:KL H p ks) (s:Same H H'):KL H' p ks:=h.kept s.ls
theorem KL.p1 {H:Hp} {p:Addr} {ks:List Str} (h:KL H p ks):∃ xs,H p=some (.lst xs)/\P1s H xs/\(xs=[]↔ks=[]):=by
 obtain ⟨ts,a,b,c⟩:=h
 refine ⟨_,a,fun x hx=>?_,?_⟩
 ·obtain ⟨t,ht,rfl⟩:=QF hx
  obtain ⟨i,hi,e⟩:=List.mem_iff_getElem.mp ht
  exact ⟨t,.str (ks[i]'(by omega)),rfl,c i t _ (by rw [<- e];exact Qb hi) (Qb (by omega))⟩
 ·rw [List.map_eq_nil_iff,<- List.length_eq_zero_iff,b,List.length_eq_zero_iff]
noncomputable def unfN (ks:List Str) (due:Str):Nat:=if ks.all (fun k=>decide (k=due)) then 0 else 1
noncomputable def spUnfit:Sp:=fun vs H Q _=>∃ (p:Addr) (ks:List Str) (due:Str),vs=[.ref p,.str due]/\KL H p ks/\ks.length<=50/\∀ H',Same H H'->Q (.int ((unfN ks due:Nat):Int)) H'
noncomputable abbrev N_ZN:List Str:=["kinds","due"]
theorem sc_ZN:FnScope N_ZN ["kinds","due"] (defScope st_ZN):=⟨rfl,rfl,rfl,by decide +kernel,rfl,by decide +kernel,by decide +kernel⟩
theorem ok_ZN (T:All P w K mg AA DD):FnOk P w K mg base CX0 2 AA.ZN DD.ZN ["kinds","due"] spUnfit:=by
 have GA:=ok_all1 (base:=base) T
 refine T.F_ZN.ok sc_ZN (fun vs H Q E h=>?_) (fun cdv A outer s H vs Q E hr h=>?_)
 ·obtain ⟨p,ks,due,rfl,_⟩:=h
  rfl
 ·obtain ⟨p,ks,due,rfl,⟨ts,hp,htl,hat⟩,hkl,k⟩:=h
  have nd:=sc_ZN.nd
  have hr1:Room 1 _:=hr
  refine ⟨_,(@pss_one _ _ _ (@ps_ret _ _ _ _ (pe_call GA hr1 rfl T.m_ZJ T.k_ZJ T.b_ZJ .nil pass0 (@pa_cons _ _ _ _ _ (pe_comp2 (xs:=["mask","kind"]) (defScope st_ZN) N_ZN ["due"] [1] rfl (by exact ⟨rfl,rfl,by decide +kernel,by decide +kernel,by decide +kernel,by decide +kernel,by decide +kernel,rfl,by decide +kernel⟩) rfl rfl (pi_list (pv 0)) (fun _ _ _ _=>(pg_tupK (K:=K) (n:=2) rfl rfl (pgs_cons (pg_name (i:=0) (show (["mask","kind","due"]:List Str).Nodup by decide +kernel) rfl (Or.inl rfl)) (pgs_cons (pg_name (i:=1) (show (["mask","kind","due"]:List Str).Nodup by decide +kernel) rfl (Or.inl rfl)) pgs_nil)))) (fun _ _ _ _=>pif_one (PW.pt (pw_and (pt_cmp (pc_notN (pv 1))) (pw_and1 (pt_cmpR op_ne (pv 1) (pv 2) (nomark _)))))) (fun _ _ _ _=>(@pe_tup _ _ _ _ _ (@pa_cons _ _ _ _ _ (pv 0) (@pa_cons _ _ _ _ _ (pv 1) pa_nil (by rfl)) (by rfl))))) pa_nil (by rfl))))),?_⟩
  refine ⟨_,rfl,p,rfl,⟨_,SqL.of hp⟩,?_⟩
  refine comp2_list (K:=K) (a:=p) (xs:=ts.map V.ref) (fun i ys H'=>Same H H'/\P1s H' ys/\(ys=[]↔(ks.take i).all (fun k=>decide (k=due))=true)/\ys.length<=i/\i<=50)
   ⟨Same.refl _,(by intro x hx;cases hx),(by simp),Qf _,(by decide)⟩ (fun i ys H' _ hsl66=>by obtain ⟨e,_⟩:=hsl66;exact SqL.of (e _ _ hp)) ?_ ?_
  ·rintro i x ys H1 hx ⟨sm,hP,hy,hyl,_⟩
   have hi:i<ts.length:=by
    have:=(Qh hx).1
    rw [Qi] at this;exact this
   have hik:i<ks.length:=by omega
   have ex:x=V.ref ts[i]:=by rw [Ql,Qb hi] at hx;exact (Qr hx).symm
   subst ex
   have hT1:=sm _ _ (hat i ts[i] ks[i] (Qb hi) (Qb hik))
   have hall:(ks.take (i+1)).all (fun k=>decide (k=due))=((ks.take i).all (fun k=>decide (k=due))&&decide (ks[i]=due)):=by
    rw [Qu hik,List.all_append];simp
   intro os hos
   obtain ⟨a,b,rfl⟩:∃ a b,os=[a,b]:=by
    match os,hos with
    | [a,b],_=>exact ⟨a,b,rfl⟩
   refine ⟨ts[i],_,rfl,SqT.of hT1,rfl,_,_,rfl,_,_,rfl,rfl,⟨[_,_],rfl,rfl⟩,?_⟩
   refine ⟨_,rfl,_,rfl,iteTb (by rw [Qj (fun z=>by cases z)];rfl) ?_⟩
   refine ⟨_,rfl,_,rfl,rfl,_,rfl,?_⟩
   by_cases hkd:ks[i]=due
   ·refine iteFb (by
     show (!decide (V.str ks[i]=V.str due))=false
     rw [Qw (by rw [hkd])];rfl) ?_
    refine ⟨sm,hP,?_,by omega,by omega⟩
    rw [hall,Qw hkd,Bool.and_true];exact hy
   ·refine iteTb (by
     show (!decide (V.str ks[i]=V.str due))=true
     rw [Qj (fun z=>hkd (by injection z))];rfl) ?_
    refine ⟨_,rfl,_,rfl,(by show 2<=sizeLine;decide),fun t2 ht2=>?_⟩
    have s5:=same_upd (o:=.tup [.int 1,.str ks[i]]) ht2
    refine ⟨small1000' (by omega),sm.trans s5,?_,?_,by simp;omega,by omega⟩
    ·intro x hx
     rcases Qt hx with hx | hx
     ·obtain ⟨t',y,e1,e2⟩:=hP x hx
      exact ⟨t',y,e1,s5 _ _ e2⟩
     ·have ex:x=V.ref t2:=by simpa using hx
      exact ⟨t2,.str ks[i],ex,upd_same⟩
    ·rw [hall,Qj hkd,Bool.and_false];simp
  ·rintro ys H1 ⟨sm,hP,hy,_,_⟩ q hq
   have sq:=same_upd (o:=.lst ys) hq
   refine ⟨q,ys,rfl,upd_same,fun x hx=>by obtain ⟨t',y,e1,e2⟩:=hP x hx;exact ⟨t',y,e1,sq _ _ e2⟩,?_⟩
   rw [Qi,htl,List.take_length] at hy
   have kk:=k _ (sm.trans sq)
   unfold unfN at kk
   by_cases hkd:ks.all (fun k=>decide (k=due))=true
   ·rw [if_pos (hy.mpr hkd)]
    rw [if_pos hkd] at kk;exact kk
   ·rw [if_neg (fun z=>hkd (hy.mp z))]
    rw [if_neg hkd] at kk;exact kk
noncomputable def spKP:Sp:=fun vs H Q _=>∃ (p:Addr) (ks:List Str) (m:Nat),vs=[.ref p,.int ((m:Nat):Int)]/\m<=1/\KL H p ks/\ks.length<=50/\∀ q H',Same H H'->KL H' q (if m=0 then [] else ks)->Q (.ref q) H'
noncomputable abbrev N_Zq:List Str:=["pairs","mask"]
theorem sc_Zq:FnScope N_Zq ["pairs","mask"] (defScope st_Zq):=⟨rfl,rfl,rfl,by decide +kernel,rfl,by decide +kernel,by decide +kernel⟩
theorem ok_kp (T:All P w K mg AA DD):FnOk P w K mg base CX0 1 AA.Zq DD.Zq ["pairs","mask"] spKP:=by
 refine T.F_Zq.ok sc_Zq (fun vs H Q E h=>?_) (fun cdv A outer s H vs Q E hr h=>?_)
 ·obtain ⟨p,ks,m,rfl,_⟩:=h
  rfl
 ·obtain ⟨p,ks,m,rfl,hm,⟨ts,hp,htl,hat⟩,hkl,k⟩:=h
  have nd:=sc_Zq.nd
  refine ⟨_,(@pss_one _ _ _ (@ps_ret _ _ _ _ (pe_comp2 (xs:=["there","value"]) (defScope st_Zq) N_Zq ["mask"] [1] rfl (by exact ⟨rfl,rfl,by decide +kernel,by decide +kernel,by decide +kernel,by decide +kernel,by decide +kernel,rfl,by decide +kernel⟩) rfl rfl (pi_list (pv 0)) (fun _ _ _ _=>(pg_tupK (K:=K) (n:=2) rfl rfl (pgs_cons (pg_name (i:=0) (show (["there","value","mask"]:List Str).Nodup by decide +kernel) rfl (Or.inl rfl)) (pgs_cons (pg_name (i:=1) (show (["there","value","mask"]:List Str).Nodup by decide +kernel) rfl (Or.inl rfl)) pgs_nil)))) (fun _ _ _ _=>pif_one (pt_cmpR op_ne (pe_op op_and (pv 0) (pv 2)) pe_int (nomark _))) (fun _ _ _ _=>(@pe_tup _ _ _ _ _ (@pa_cons _ _ _ _ _ (@pe_op _ _ _ _ _ _ _ _ op_and (pv 0) (pv 2)) (@pa_cons _ _ _ _ _ (pv 1) pa_nil (by rfl)) (by rfl))))))),?_⟩
  refine ⟨_,rfl,p,rfl,⟨_,SqL.of hp⟩,?_⟩
  refine comp2_list (K:=K) (a:=p) (xs:=ts.map V.ref) (fun i ys H'=>Same H H'/\i<=50/\∃ us:List Addr,ys=us.map V.ref/\us.length=(if m=0 then [] else ks.take i).length/\∀ (j:Nat) (t:Addr) (q:Str),us[j]?=some t->(if m=0 then [] else ks.take i)[j]?=some q->H' t=some (.tup [.int 1,.str q]))
   ⟨Same.refl _,Qp _,[],rfl,(by split<;>simp),fun j t q h=>by simp at h⟩ (fun i ys H' _ hsl67=>by obtain ⟨e,_⟩:=hsl67;exact SqL.of (e _ _ hp)) ?_ ?_
  ·rintro i x ys H1 hx ⟨sm,_,us,rfl,hul,hus⟩
   have hi:i<ts.length:=by
    have:=(Qh hx).1
    rw [Qi] at this;exact this
   have hik:i<ks.length:=by omega
   have ex:x=V.ref ts[i]:=by rw [Ql,Qb hi] at hx;exact (Qr hx).symm
   subst ex
   have hT1:=sm _ _ (hat i ts[i] ks[i] (Qb hi) (Qb hik))
   intro os hos
   obtain ⟨a,b,rfl⟩:∃ a b,os=[a,b]:=by
    match os,hos with
    | [a,b],_=>exact ⟨a,b,rfl⟩
   refine ⟨ts[i],_,rfl,SqT.of hT1,rfl,_,_,rfl,_,_,rfl,rfl,⟨[_,_],rfl,rfl⟩,?_⟩
   refine ⟨_,rfl,_,rfl,_,_,rfl,rfl,rfl,_,rfl,?_⟩
   have hb:Builtin.bitAnd (1:Int) ((m:Nat):Int)=((1 &&& m:Nat):Int):=bitAnd_nat 1 m
   by_cases h0:m=0
   ·subst h0
    refine iteFb (by
     show (!decide (V.int (Builtin.bitAnd (1:Int) ((0:Nat):Int))=V.int 0))=false
     rw [hb];rfl) ?_
    exact ⟨sm,by omega,us,rfl,hul,hus⟩
   ·have h1:m=1:=by omega
    subst h1
    refine iteTb (by
     show (!decide (V.int (Builtin.bitAnd (1:Int) ((1:Nat):Int))=V.int 0))=true
     rw [hb];rfl) ?_
    rw [if_neg h0] at hul hus
    refine ⟨_,rfl,_,rfl,_,_,rfl,rfl,_,rfl,(by show 2<=sizeLine;decide),fun t2 ht2=>?_⟩
    dsimp only
    rw [hb]
    have s5:=same_upd (o:=.tup [V.int ((1 &&& 1:Nat):Int),.str ks[i]]) ht2
    rw [Qv] at hul
    refine ⟨by rw [Qi];exact small1000' (by omega),sm.trans s5,by omega,us++[t2],by simp,by simp;omega,fun j t' q e1 e2=>?_⟩
    rw [if_neg h0,Qu hik] at e2
    by_cases hj:j<us.length
    ·rw [Qz hj] at e1
     rw [Qz (by rw [Qv];omega)] at e2
     exact s5 _ _ (hus j t' q e1 e2)
    ·have hjl:=(Qh e1).1
     rw [QB,List.length_singleton] at hjl
     have ej:j=us.length:=by omega
     subst ej
     rw [Qx (Qf _),Nat.sub_self] at e1
     rw [Qx (by rw [Qv];omega),Qv] at e2
     have e0:us.length-min i ks.length=0:=by omega
     rw [e0] at e2
     have q1:t2=t':=by simpa using e1
     have q2:ks[i]=q:=by simpa using e2
     subst q1 q2
     exact upd_same
  ·rintro ys H1 ⟨sm,_,us,rfl,hul,hus⟩ q hq
   have sq:=same_upd (o:=.lst (us.map V.ref)) hq
   rw [Qi,htl,List.take_length] at hul hus
   exact k q _ (sm.trans sq) ⟨us,upd_same,hul,fun i t k' x y=>sq _ _ (hus i t k' x y)⟩
noncomputable def plainK (kd:Str):Prop:=kd="num"∨kd="truth"
noncomputable def spIsRec:Sp:=fun vs H Q _=>∃ kd:Str,vs=[.str kd]/\plainK kd/\Q (.bl false) H
noncomputable abbrev N_Zw:List Str:=["kind"]
theorem sc_Zw:FnScope N_Zw ["kind"] (defScope st_Zw):=⟨rfl,rfl,rfl,by decide +kernel,rfl,by decide +kernel,by decide +kernel⟩
theorem ok_isrec (T:All P w K mg AA DD):FnOk P w K mg base CX0 1 AA.Zw DD.Zw ["kind"] spIsRec:=by
 refine T.F_Zw.ok sc_Zw (fun vs H Q E h=>?_) (fun cdv A outer s H vs Q E hr h=>?_)
 ·obtain ⟨kd,rfl,_⟩:=h
  rfl
 ·obtain ⟨kd,rfl,hk,k⟩:=h
  have nd:=sc_Zw.nd
  refine ⟨_,(@pss_one _ _ _ (@ps_ret _ _ _ _ (pe_and (pe_cmp (pc_notN (pv 0))) (pe_one (@pe_cmpR _ _ _ _ _ _ _ _ (op_notIn_seqK (K:=K) rfl) (pv 0) (pe_glob (v:=.ref AA.q_PLAIN_KINDS) rfl T.m_PLAIN_KINDS rfl) rfl))))),?_⟩
  refine ⟨_,rfl,_,rfl,iteTb (by rw [Qj (fun z=>by cases z)];rfl) ?_⟩
  refine ⟨_,rfl,AA.q_PLAIN_KINDS,[.str "num",.str "truth"],rfl,.inr (T.Q_PLAIN_KINDS H),rfl,rfl,?_⟩
  have e1:inV (V.str "num") [V.str "num",V.str "truth"]=true:=by decide +kernel
  have e2:inV (V.str "truth") [V.str "num",V.str "truth"]=true:=by decide +kernel
  rcases hk with rfl | rfl
  ·show Q (V.bl (!inV (V.str "num") [V.str "num",V.str "truth"])) H
   rw [e1];exact k
  ·show Q (V.bl (!inV (V.str "truth") [V.str "num",V.str "truth"])) H
   rw [e2];exact k
structure LsK (H H':Hp):Prop where
 ls:LsS H H'
 dk:∀ a kv,H a=some (.dK kv)->H' a=some (.dK kv)
theorem LsK.refl (H:Hp):LsK H H:=⟨LsS.refl _,fun _ _ h=>h⟩
theorem LsK.trans {H H1 H2:Hp} (a:LsK H H1) (b:LsK H1 H2):LsK H H2:=⟨a.ls.trans b.ls,fun _ _ h=>b.dk _ _ (a.dk _ _ h)⟩
theorem lkS {H H':Hp} (s:Same H H'):LsK H H':=⟨s.ls,fun _ _ h=>s _ _ h⟩
structure KkAt (H:Hp) (C o dx d2:Addr) (fs:List (List Key)):Prop where
 ins:∃ d1,H o=some (.ins C dx [("firsts",.ref d1),("faults",.ref d2)])
 flt:H d2=some (.dT (ones fs))
theorem KkAt.same {H H':Hp} {C o dx d2:Addr} {fs:List (List Key)} (h:KkAt H C o dx d2 fs) (s:Same H H'):KkAt H' C o dx d2 fs:=by
 obtain ⟨⟨d1,h1⟩,h2⟩:=h
 exact ⟨⟨d1,s _ _ h1⟩,s _ _ h2⟩
theorem KkAt.fault {H:Hp} {C o dx d2:Addr} {fs fs':List (List Key)} (h:KkAt H C o dx d2 fs):KkAt (upd H d2 (.dT (ones fs'))) C o dx d2 fs'/\LsK H (upd H d2 (.dT (ones fs'))):=by
 obtain ⟨⟨d1,h1⟩,h2⟩:=h
 refine ⟨⟨⟨d1,?_⟩,upd_same⟩,⟨ls_upd h2 (fun _ z=>nomatch z) (fun _ z=>nomatch z) (fun _ _ z=>nomatch z),fun a kv e=>by rw [upd_ne (fun z=>by rw [z,h2] at e;cases e)];exact e⟩⟩
 rw [upd_ne (fun z=>by rw [z,h2] at h1;cases h1)];exact h1
noncomputable def kk (r:Nat) (what:Str):List Key:=[.inl ((r:Nat):Int),.inr what]
noncomputable def spKNote (C:Addr):Sp:=fun vs H Q _=>∃ (o dx d2:Addr) (fs:List (List Key)) (m r:Nat) (z:Str),vs=[.ref o,.int ((m:Nat):Int),.int ((r:Nat):Int),.str z]/\KkAt H C o dx d2 fs/\fs.length<1000 /\
 ((m=0/\∀ H',LsK H H'->KkAt H' C o dx d2 fs->Q .non H')∨(m=1/\∀ H',LsK H H'->KkAt H' C o dx d2 (addF fs (kk r z))->Q .non H'))
noncomputable abbrev N_Zl:List Str:=["self","mask","at","what"]
theorem sc_Zl:FnScope N_Zl ["self","mask","at","what"] (defScope st_Zl):=⟨rfl,rfl,rfl,by decide +kernel,rfl,by decide +kernel,by decide +kernel⟩
theorem ok_knote (T:All P w K mg AA DD):FnOk P w K mg base CX0 2 AA.Zl DD.Zl ["self","mask","at","what"] (spKNote AA.c_KindLook):=by
 have GD:=ok_add (base:=base) T
 refine T.F_Zl.ok sc_Zl (fun vs H Q E h=>?_) (fun cdv A outer s H vs Q E hr h=>?_)
 ·obtain ⟨o,dx,d2,fs,m,r,z,rfl,_⟩:=h
  rfl
 ·obtain ⟨o,dx,d2,fs,m,r,z,rfl,hk,hf,h⟩:=h
  have nd:=sc_Zl.nd
  have hr1:Room 1 _:=hr
  refine ⟨_,(@pss_one _ _ _ (@ps_expr _ _ _ _ (pe_call GD hr1 rfl T.m_ZK T.k_ZK T.b_ZK .nil pass0 (@pa_cons _ _ _ _ _ (pe_fld (pv 0) rfl) (@pa_cons _ _ _ _ _ (@pe_tup _ _ _ _ _ (@pa_cons _ _ _ _ _ (pv 2) (@pa_cons _ _ _ _ _ (pv 3) pa_nil (by rfl)) (by rfl))) (@pa_cons _ _ _ _ _ (pv 1) pa_nil (by rfl)) (by rfl)) (by rfl))) (by rfl))),?_⟩
  obtain ⟨d1,hi⟩:=hk.ins
  refine ⟨_,rfl,o,AA.c_KindLook,dx,_,_,rfl,hi,T.cl_KindLook,T.na_KindLook_faults,rfl,?_⟩
  refine ⟨_,rfl,_,rfl,(by show 2<=sizeLine;decide),fun t ht=>?_⟩
  have s1:=same_upd (o:=.tup [.int ((r:Nat):Int),.str z]) ht
  have hk1:=hk.same s1
  have e1:upd H t (.tup [.int ((r:Nat):Int),.str z]) t=some (.tup ((kk r z).map kV)):=upd_same
  generalize upd H t (.tup [.int ((r:Nat):Int),.str z])=H1 at s1 hk1 e1 ⊢
  refine ⟨_,rfl,d2,.ref t,m,rfl,.inr ⟨_,.inl hk1.flt⟩,?_⟩
  rcases h with ⟨e,k⟩ | ⟨e,k⟩
  ·exact .inl ⟨e,k _ (lkS s1) hk1⟩
  ·obtain ⟨a,b⟩:=hk1.fault (fs':=addF fs (kk r z))
   refine .inr ⟨e,_,_,DGet.t hk1.flt e1,?_,DPut.t hk1.flt e1 ?_,?_⟩
   ·rw [ones_val]
    split
    ·exact .inr rfl
    ·exact .inl rfl
   ·unfold ones
    rw [Qi]
    exact small1000' hf
   ·rw [ones_put]
    exact k _ ((lkS s1).trans b) a
end
section
variable {P:Program} {w:World} {K:W.Frag} {mg:Str->Option Value} {base:Heap} {AA:Adr} {DD:Fds}
theorem kids_ok {e:Ex} (hp:e.plain):∀ x∈e.kids,x.plain/\x.deep<e.deep:=by
 cases e with
 | num n=>intro x h;simp [Ex.kids] at h
 | truth z=>intro x h;simp [Ex.kids] at h
 | name z=>intro x h;simp [Ex.kids] at h
 | not e=>intro x h;simp [Ex.kids] at h;subst h;exact ⟨hp,by simp [Ex.deep]⟩
 | op w a b =>
  intro x h
  simp [Ex.kids] at h
  rcases h with h | h<;>subst h
  ·exact ⟨hp.2.1,by simp [Ex.deep];omega⟩
  ·exact ⟨hp.2.2,by simp [Ex.deep];omega⟩
 | of n e=>exact hp.elim
 | many w n es=>exact hp.elim
noncomputable def mk10:List (Str × Str):=[("num","num"),("truth","truth"),("+","num"),("-","num"),("*","num"),("less","truth"),("same","truth"),("and","truth"),("or","truth"),("not","truth")]
noncomputable def ak8:List (Str × Str):=[("+","num"),("-","num"),("*","num"),("less","num"),("same","num"),("and","truth"),("or","truth"),("not","truth")]
noncomputable def hdE:Ex->Str
 | .num _=>"num"
 | .truth _=>"truth"
 | .not _=>"not"
 | .op w _ _=>w
 | _=>"num"
noncomputable def kdE (e:Ex):Str:=(mk10.lookup (hdE e)).getD "num"
noncomputable def askE (e:Ex):Str:=(ak8.lookup (hdE e)).getD "truth"
theorem ops_mk:∀ z∈ops7,(mk10.lookup z).isSome=true/\(ak8.lookup z).isSome=true/\z≠"name"/\z≠"do"/\z≠"new"/\z≠"of":=by decide +kernel
theorem hd_mk:∀ z∈(["num","truth","not"]:List Str),(mk10.lookup z).isSome=true/\z≠"name"/\z≠"do"/\z≠"new"/\z≠"of":=by decide +kernel
theorem ak_not:ak8.lookup ("not":Str)=some "truth":=by decide +kernel
theorem mk_plain:∀ p∈mk10,p.2="num"∨p.2="truth":=by decide +kernel
theorem kdE_plain (e:Ex):plainK (kdE e):=by
 unfold kdE
 cases h:mk10.lookup (hdE e) with
 | none=>exact .inl rfl
 | some v=>exact mk_plain _ (PySem.mem_of_lookup h)
theorem kd_head {H:Hp} {v:V} {e:Ex} (h:ExAt H v e) (hp:e.plain) (hn:∀ z,e≠.name z):∃ (t:Addr) (ys:List V),v=.ref t/\H t=some (.tup (.str (hdE e)::ys))/\hdE e≠"name"/\hdE e≠"do"/\hdE e≠"new"/\hdE e≠"of"/\mk10.lookup (hdE e)=some (kdE e)/\(e.kids≠[]->ak8.lookup (hdE e)=some (askE e)):=by
 have g:∀ {l:List (Str × Str)} {z d:Str},(l.lookup z).isSome=true->l.lookup z=some ((l.lookup z).getD d):=fun {l z d} hs=>by
  cases h:l.lookup z with
  | none=>rw [h] at hs;cases hs
  | some x=>rfl
 cases h with
 | num h =>
  obtain ⟨m1,n1,n2,n3,n4⟩:=hd_mk "num" (by simp)
  exact ⟨_,_,rfl,h,n1,n2,n3,n4,g m1,fun z=>absurd rfl z⟩
 | truth h =>
  obtain ⟨m1,n1,n2,n3,n4⟩:=hd_mk "truth" (by simp)
  exact ⟨_,_,rfl,h,n1,n2,n3,n4,g m1,fun z=>absurd rfl z⟩
 | name h=>exact (hn _ rfl).elim
 | not h a =>
  obtain ⟨m1,n1,n2,n3,n4⟩:=hd_mk "not" (by simp)
  exact ⟨_,_,rfl,h,n1,n2,n3,n4,g m1,fun _=>g (by show (ak8.lookup ("not":Str)).isSome=true;rw [ak_not];rfl)⟩
 | op h a b =>
  obtain ⟨m1,m2,n1,n2,n3,n4⟩:=ops_mk _ hp.1
  exact ⟨_,_,rfl,h,n1,n2,n3,n4,g m1,fun _=>g m2⟩
 | of h a=>exact hp.elim
 | many h l a=>exact hp.elim
noncomputable abbrev Env:=Str->Option Str
noncomputable def kdN (ρ:Env):Ex->Option Str
 | .name z=>ρ z
 | e=>some (kdE e)
theorem kdN_not {ρ:Env} {e:Ex} (hn:∀ z,e≠.name z):kdN ρ e=some (kdE e):=by
 cases e<;>first | rfl | exact (hn _ rfl).elim
structure NmAt (H:Hp) (d:Addr) (ρ:Env) (n:Nat):Prop where
 ex:∃ kvs:List (Key × V),H d=some (.dK kvs)/\kvs.length<=n/\∀ z:Str,(valV kvs (.inr z)=none/\ρ z=none)∨∃ p,valV kvs (.inr z)=some (.ref p)/\KL H p (ρ z).toList
 pl:∀ z kd,ρ z=some kd->plainK kd
theorem NmAt.kept {H H':Hp} {d:Addr} {ρ:Env} {n:Nat} (h:NmAt H d ρ n) (s:LsK H H'):NmAt H' d ρ n:=by
 obtain ⟨⟨kvs,a,b,c⟩,e⟩:=h
 refine ⟨⟨kvs,s.dk _ _ a,b,fun z=>?_⟩,e⟩
 rcases c z with h | ⟨p,h1,h2⟩
 ·exact .inl h
 ·exact .inr ⟨p,h1,h2.kept s.ls⟩
theorem kdN_plain {ρ:Env} (h:∀ z kd,ρ z=some kd->plainK kd) {e:Ex} {kd:Str} (q:kdN ρ e=some kd):plainK kd:=by
 cases e with
 | name z=>exact h z kd q
 | _=>cases q;exact kdE_plain _
theorem opt50 (o:Option Str):o.toList.length<=50:=by cases o<;>simp
noncomputable def askF (r:Nat) (k:Option Str) (due:Str) (fs:List (List Key)):List (List Key):=if unfN k.toList due=0 then fs else addF fs (kk r "kind")
noncomputable def kfE (ρ:Env) (r:Nat):Ex->List (List Key)->List (List Key)
 | .not e,fs=>askF r (kdN ρ e) "truth" (kfE ρ r e fs)
 | .op w a b,fs=>askF r (kdN ρ b) (askE (.op w a b)) (kfE ρ r b (askF r (kdN ρ a) (askE (.op w a b)) (kfE ρ r a fs)))
 | _,fs=>fs
noncomputable def kfK (ρ:Env) (r:Nat) (due:Str) (fs:List (List Key)) (c:Ex):List (List Key):=askF r (kdN ρ c) due (kfE ρ r c fs)
theorem kfE_kids (ρ:Env) (r:Nat) (e:Ex) (fs:List (List Key)):kfE ρ r e fs=e.kids.foldl (kfK ρ r (askE e)) fs:=by
 cases e<;>simp [kfE,Ex.kids,kfK]<;>rfl
theorem addF_len (fs:List (List Key)) (k:List Key):(addF fs k).length<=fs.length+1:=by
 unfold addF
 split
 ·omega
 ·simp
theorem addF_le (fs:List (List Key)) (k:List Key):fs.length<=(addF fs k).length:=by
 unfold addF
 split
 ·omega
 ·simp
theorem addF_has (fs:List (List Key)) (k:List Key):k∈addF fs k:=by
 unfold addF
 split
 ·rename_i h
  obtain ⟨x,hx,e⟩:=List.any_eq_true.mp h
  have e:x=k:=of_decide_eq_true e
  exact e ▸ hx
 ·simp
theorem addF_in {fs:List (List Key)} {k:List Key} (h:k∈fs):addF fs k=fs:=by
 unfold addF
 rw [if_pos (List.any_eq_true.mpr ⟨k,h,Qw rfl⟩)]
theorem askF_or {r:Nat} (kd:Option Str) (due:Str) {fs gs:List (List Key)} (h:gs=fs∨gs=addF fs (kk r "kind")):askF r kd due gs=fs∨askF r kd due gs=addF fs (kk r "kind"):=by
 unfold askF
 split
 ·exact h
 ·rcases h with rfl | rfl
  ·exact .inr rfl
  ·exact .inr (addF_in (addF_has _ _))
theorem or_tr {r:Nat} {fs gs hs:List (List Key)} (h1:gs=fs∨gs=addF fs (kk r "kind")) (h2:hs=gs∨hs=addF gs (kk r "kind")):hs=fs∨hs=addF fs (kk r "kind"):=by
 rcases h2 with rfl | rfl
 ·exact h1
 ·rcases h1 with rfl | rfl
  ·exact .inr rfl
  ·exact .inr (addF_in (addF_has _ _))
theorem kfE_cases (ρ:Env) (r:Nat):∀ (e:Ex) (fs:List (List Key)),kfE ρ r e fs=fs∨kfE ρ r e fs=addF fs (kk r "kind")
 | .not e,fs=>by rw [kfE];exact askF_or _ _ (kfE_cases ρ r e fs)
 | .op w a b,fs=>by rw [kfE];exact askF_or _ _ (or_tr (askF_or _ _ (kfE_cases ρ r a fs)) (kfE_cases ρ r b _))
 | .num _,fs=>.inl rfl
 | .truth _,fs=>.inl rfl
 | .name _,fs=>.inl rfl
 | .of _ _,fs=>.inl rfl
 | .many _ _ _,fs=>.inl rfl
theorem kfE_len (ρ:Env) (r:Nat) (e:Ex) (fs:List (List Key)):(kfE ρ r e fs).length<=fs.length+1:=by
 rcases kfE_cases ρ r e fs with h | h<;>rw [h]
 ·omega
 ·exact addF_len _ _
noncomputable def spKO (C:Addr) (k:Nat):Sp:=fun vs H Q _=>∃ (o dx d2:Addr) (fs:List (List Key)) (v:V) (d3:Addr) (ρ:Env) (n:Nat) (e:Ex) (r:Nat),vs=[.ref o,.int 1,v,.int ((r:Nat):Int),.ref d3]/\ExAt H v e/\e.plain/\NmAt H d3 ρ n/\e.deep<k/\KkAt H C o dx d2 fs/\(addF fs (kk r "kind")).length<900 /\
 ∀ p H',LsK H H'->KkAt H' C o dx d2 (kfE ρ r e fs)->KL H' p (kdN ρ e).toList->Q (.ref p) H'
noncomputable def spAk (C:Addr) (k:Nat):Sp:=fun vs H Q _=>∃ (o dx d2:Addr) (fs:List (List Key)) (v:V) (d3:Addr) (ρ:Env) (n:Nat) (e:Ex) (r:Nat) (due:Str),vs=[.ref o,.int 1,v,.str due,.int ((r:Nat):Int),.ref d3]/\ExAt H v e/\e.plain/\NmAt H d3 ρ n/\e.deep<k/\KkAt H C o dx d2 fs/\(addF fs (kk r "kind")).length<900 /\
 ∀ H',LsK H H'->KkAt H' C o dx d2 (kfK ρ r due fs e)->Q .non H'
noncomputable abbrev N_Zn:List Str:=["self","mask","e","due","at","names"]
theorem sc_Zn:FnScope N_Zn ["self","mask","e","due","at","names"] (defScope st_Zn):=⟨rfl,rfl,rfl,by decide +kernel,rfl,by decide +kernel,by decide +kernel⟩
theorem ok_akS (T:All P w K mg AA DD) (k:Nat) (GKO:FnOk P w K mg base CX0 (2*k+3) AA.Zg DD.Zg ["self","mask","e","at","names"] (spKO AA.c_KindLook k)) :
  FnOk P w K mg base CX0 (2*k+4) AA.Zn DD.Zn ["self","mask","e","due","at","names"] (spAk AA.c_KindLook k):=by
 have GU:=ok_ZN (base:=base) T
 have GO:=ok_knote (base:=base) T
 refine T.F_Zn.ok sc_Zn (fun vs H Q E h=>?_) (fun cdv A outer s H vs Q E hr h=>?_)
 ·obtain ⟨o,dx,d2,fs,v,d3,ρ,n,e,r,due,rfl,_⟩:=h
  rfl
 ·obtain ⟨o,dx,d2,fs,v,d3,ρ,n,e,r,due,rfl,hE,hp,hn,hd,hk,hf,k'⟩:=h
  have nd:=sc_Zn.nd
  have hrK:Room (2*k+3) _:=hr
  have hr2:Room 2 _:=hrK.mono (by omega)
  refine ⟨_,(@pss_one _ _ _ (@ps_expr _ _ _ _ (pe_meth (pv 0) T.cl_KindLook T.M_Zl GO hr2 T.b_Zl .nil pass0 (@pa_cons _ _ _ _ _ (pe_call GU hr2 rfl T.m_ZN T.k_ZN T.b_ZN .nil pass0 (@pa_cons _ _ _ _ _ (pe_meth (pv 0) T.cl_KindLook T.M_Zg GKO hrK T.b_Zg .nil pass0 (@pa_cons _ _ _ _ _ (pv 1) (@pa_cons _ _ _ _ _ (pv 2) (@pa_cons _ _ _ _ _ (pv 4) (@pa_cons _ _ _ _ _ (pv 5) pa_nil (by rfl)) (by rfl)) (by rfl)) (by rfl))) (@pa_cons _ _ _ _ _ (pv 3) pa_nil (by rfl)) (by rfl))) (@pa_cons _ _ _ _ _ (pv 4) (@pa_cons _ _ _ _ _ pe_str pa_nil (by rfl)) (by rfl)) (by rfl))) (by rfl))),?_⟩
  obtain ⟨d1,hi⟩:=hk.ins
  refine ⟨_,rfl,o,dx,_,rfl,hi,rfl,_,rfl,o,dx,_,rfl,hi,rfl,?_⟩
  refine ⟨_,rfl,_,rfl,_,rfl,_,rfl,o,dx,d2,fs,v,d3,ρ,n,e,r,rfl,hE,hp,hn,hd,hk,hf,fun p H1 ls1 hk1 hK1=>?_⟩
  refine ⟨_,rfl,p,_,due,rfl,hK1,opt50 _,fun H2 s2=>⟨_,rfl,?_⟩⟩
  have hl:(kfE ρ r e fs).length<900:=by
   rcases kfE_cases ρ r e fs with h | h<;>rw [h]
   ·exact QG (addF_le _ _) hf
   ·exact hf
  by_cases hkd:unfN (kdN ρ e).toList due=0
  ·rw [hkd]
   refine ⟨o,dx,d2,kfE ρ r e fs,0,r,"kind",rfl,hk1.same s2,by omega,.inl ⟨rfl,fun H3 ls3 hk3=>k' _ ((ls1.trans (lkS s2)).trans ls3) ?_⟩⟩
   unfold kfK askF
   rw [if_pos hkd];exact hk3
  ·have h1:unfN (kdN ρ e).toList due=1:=by
    unfold unfN at hkd ⊢
    split at hkd
    ·exact absurd rfl hkd
    ·rename_i q;rw [if_neg q]
   rw [h1]
   refine ⟨o,dx,d2,kfE ρ r e fs,1,r,"kind",rfl,hk1.same s2,by omega,.inr ⟨rfl,fun H3 ls3 hk3=>k' _ ((ls1.trans (lkS s2)).trans ls3) ?_⟩⟩
   unfold kfK askF
   rw [if_neg hkd];exact hk3
noncomputable abbrev N_Zg:List Str:=["self","mask","e","at","names","rows","found","here","kind","inner"]
theorem sc_Zg:FnScope N_Zg ["self","mask","e","at","names"] (defScope st_Zg):=⟨rfl,rfl,rfl,by decide +kernel,rfl,by decide +kernel,by decide +kernel⟩
theorem ok_koS (T:All P w K mg AA DD) (k:Nat) (GAK:FnOk P w K mg base CX0 (2*k+4) AA.Zn DD.Zn ["self","mask","e","due","at","names"] (spAk AA.c_KindLook k)) :
  FnOk P w K mg base CX0 (2*(k+1)+3) AA.Zg DD.Zg ["self","mask","e","at","names"] (spKO AA.c_KindLook (k+1)):=by
 have GI:=ok_ei (base:=base) T
 have GB:=ok_kp (base:=base) T
 refine T.F_Zg.ok sc_Zg (fun vs H Q E h=>?_) (fun cdv A outer s H vs Q E hr h=>?_)
 ·obtain ⟨o,dx,d2,fs,v,d3,ρ,n,e,r,rfl,_⟩:=h
  rfl
 ·obtain ⟨o,dx,d2,fs,v,d3,ρ,n,e,r,rfl,hE,hp,hn,hd,hk,hf,k'⟩:=h
  have nd:=sc_Zg.nd
  have hrA:Room (2*k+4) _:=hr
  have hr1:Room 1 _:=hrA.mono (by omega)
  have hu:=QG (Nat.add_le_add_left (show 1<=64 by decide) _) hr.units
  refine ⟨_,(@pss_cons _ _ _ _ _ (@ps_if _ _ _ _ _ _ _ _ (@pt_cmpR _ _ _ _ _ _ _ _ op_eq (@pe_ix _ _ _ _ _ _ _ (ix_tupK (K:=K) rfl) (pv 2) pe_int (fun _ _=>rfl)) pe_str (nomark _)) (@pss_one _ _ _ (@ps_ret _ _ _ _ (pe_call GB hr1 rfl T.m_Zq T.k_Zq T.b_Zq .nil pass0 (@pa_cons _ _ _ _ _ (pe_dget2 hu (pv 4) (@pe_ix _ _ _ _ _ _ _ (ix_tupK (K:=K) rfl) (pv 2) pe_int (fun _ _=>rfl)) (@pe_lst _ _ _ _ pa_nil) ⟨by rfl,by rfl,by rfl,by rfl⟩) (@pa_cons _ _ _ _ _ (pv 1) pa_nil (by rfl)) (by rfl))))) pss_nil) (@pss_cons _ _ _ _ _ (@ps_if _ _ _ _ _ _ _ _ (@pt_cmpR _ _ _ _ _ _ _ _ op_eq (@pe_ix _ _ _ _ _ _ _ (ix_tupK (K:=K) rfl) (pv 2) pe_int (fun _ _=>rfl)) pe_str (nomark _)) pss_never pss_nil) (@pss_cons _ _ _ _ _ (@ps_if _ _ _ _ _ _ _ _ (@pt_cmpR _ _ _ _ _ _ _ _ op_eq (@pe_ix _ _ _ _ _ _ _ (ix_tupK (K:=K) rfl) (pv 2) pe_int (fun _ _=>rfl)) pe_str (nomark _)) pss_never pss_nil) (@pss_cons _ _ _ _ _ (@ps_if _ _ _ _ _ _ _ _ (@pt_cmpR _ _ _ _ _ _ _ _ op_eq (@pe_ix _ _ _ _ _ _ _ (ix_tupK (K:=K) rfl) (pv 2) pe_int (fun _ _=>rfl)) pe_str (nomark _)) pss_never pss_nil) (@pss_cons _ _ _ _ _ (@ps_for _ _ _ _ _ _ _ _ PassesOwn.never rfl (pi_tup (pe_call GI hr1 rfl T.m_ZD T.k_ZD T.b_ZD .nil pass0 (@pa_cons _ _ _ _ _ (pv 2) pa_nil (by rfl)))) (pg_name (i:=9) nd rfl (Or.inl rfl)) (@pss_one _ _ _ (@ps_expr _ _ _ _ (pe_meth (pv 0) T.cl_KindLook T.M_Zn GAK hrA T.b_Zn .nil pass0 (@pa_cons _ _ _ _ _ (pv 1) (@pa_cons _ _ _ _ _ (pv 9) (@pa_cons _ _ _ _ _ (pe_kixT T.D_ASKS rfl T.m_ASKS (@pe_ix _ _ _ _ _ _ _ (ix_tupK (K:=K) rfl) (pv 2) pe_int (fun _ _=>rfl)) (fun _ _=>rfl)) (@pa_cons _ _ _ _ _ (pv 3) (@pa_cons _ _ _ _ _ (pv 4) pa_nil (by rfl)) (by rfl)) (by rfl)) (by rfl)) (by rfl))) (by rfl))) (by intro _;rfl)) (@pss_one _ _ _ (@ps_ret _ _ _ _ (@pe_lst _ _ _ _ (@pa_cons _ _ _ _ _ (@pe_tup _ _ _ _ _ (@pa_cons _ _ _ _ _ (pv 1) (@pa_cons _ _ _ _ _ (pe_kixT T.D_MAKES rfl T.m_MAKES (@pe_ix _ _ _ _ _ _ _ (ix_tupK (K:=K) rfl) (pv 2) pe_int (fun _ _=>rfl)) (fun _ _=>rfl)) pa_nil (by rfl)) (by rfl))) pa_nil (by rfl)))))))))),?_⟩
  by_cases hnm:∃ z,e=.name z
  ·obtain ⟨z,rfl⟩:=hnm
   cases hE with
   | @name t _ ht =>
   refine ⟨_,rfl,t,_,_,_,rfl,rfl,SqT.of ht,atI_nat (j:=0) rfl,rfl,_,rfl,?_⟩
   refine iteTb (Qw rfl) ?_
   obtain ⟨kvs,hd3,hkn,hz⟩:=hn.ex
   refine ⟨_,rfl,d3,rfl,.inl ⟨kvs,.inl hd3⟩,_,rfl,t,_,_,_,rfl,rfl,SqT.of ht,atI_nat (j:=1) rfl,?_⟩
   refine ⟨(by show 0<=sizeLine;decide),fun q hq=>?_⟩
   have s1:=same_upd (o:=.lst []) hq
   refine ⟨_,DGet.k (k:=.inr z) (s1 _ _ hd3),_,rfl,?_⟩
   rcases hz z with ⟨h1,h2⟩ | ⟨p,h1,h2⟩
   ·rw [h1]
    refine ⟨q,[],1,rfl,Qf _,⟨[],upd_same,rfl,fun i t k x=>by simp at x⟩,by simp,fun q' H' s' hK=>?_⟩
    refine k' q' H' (lkS (s1.trans s')) (hk.same (s1.trans s')) ?_
    show KL H' q' (ρ z).toList
    rw [h2];exact hK
   ·rw [h1]
    refine ⟨p,_,1,rfl,Qf _,h2.same s1,opt50 _,fun q' H' s' hK=>?_⟩
    exact k' q' H' (lkS (s1.trans s')) (hk.same (s1.trans s')) hK
  have hnm:∀ z,e≠.name z:=fun z q=>hnm ⟨z,q⟩
  obtain ⟨t,ys,rfl,ht,n1,n2,n3,n4,lm,la⟩:=kd_head hE hp hnm
  rw [kdN_not hnm] at k'
  refine ⟨_,rfl,t,_,_,_,rfl,rfl,SqT.of ht,atI_nat (j:=0) rfl,rfl,_,rfl,?_⟩
  refine iteFb (Qj fun q=>n1 (by injection q)) ?_
  refine ⟨_,rfl,t,_,_,_,rfl,rfl,SqT.of ht,atI_nat (j:=0) rfl,rfl,_,rfl,?_⟩
  refine iteFb (Qj fun q=>n2 (by injection q)) ?_
  refine ⟨_,rfl,t,_,_,_,rfl,rfl,SqT.of ht,atI_nat (j:=0) rfl,rfl,_,rfl,?_⟩
  refine iteFb (Qj fun q=>n3 (by injection q)) ?_
  refine ⟨_,rfl,t,_,_,_,rfl,rfl,SqT.of ht,atI_nat (j:=0) rfl,rfl,_,rfl,?_⟩
  refine iteFb (Qj fun q=>n4 (by injection q)) ?_
  refine ⟨_,rfl,_,e,rfl,hE,hp,fun tk zs H2 s2 htk hys=>⟨tk,rfl,⟨_,SqT.of htk⟩,?_⟩⟩
  have hkl:=hys.len
  have hk2:=hk.same s2
  have ht2:=s2 _ _ ht
  have kfl:∀ i,(((e.kids.take i).foldl (kfK ρ r (askE e)) fs)=fs∨((e.kids.take i).foldl (kfK ρ r (askE e)) fs)=addF fs (kk r "kind")):=by
   intro i
   generalize e.kids.take i=cs
   have go:∀ (cs:List Ex) (gs:List (List Key)),(gs=fs∨gs=addF fs (kk r "kind"))->(cs.foldl (kfK ρ r (askE e)) gs=fs∨cs.foldl (kfK ρ r (askE e)) gs=addF fs (kk r "kind")):=by
    intro cs
    induction cs with
    | nil=>exact fun gs h=>h
    | cons c cs ih=>exact fun gs h=>ih _ (askF_or _ _ (or_tr h (kfE_cases ρ r c gs)))
   exact go cs fs (.inl rfl)
  have kll:∀ i,(addF ((e.kids.take i).foldl (kfK ρ r (askE e)) fs) (kk r "kind")).length<900:=fun i=>by
   rcases kfl i with h | h<;>rw [h]
   ·exact hf
   ·rw [addF_in (addF_has _ _)];exact hf
  refine for_tup (K:=K) (a:=tk) (xs:=zs) (fun i σ' H'=>LsK H H'/\LsK H2 H'/\(∃ x5 x6 x7 x8 x9,σ'=[some (.ref o),some (.int 1),some (.ref t),some (.int ((r:Nat):Int)),some (.ref d3),x5,x6,x7,x8,x9])/\KkAt H' AA.c_KindLook o dx d2 ((e.kids.take i).foldl (kfK ρ r (askE e)) fs)) ⟨lkS s2,LsK.refl _,⟨_,_,_,_,_,rfl⟩,by simpa using hk2⟩ (fun i σ' H' _ h=>SqT.of (h.2.1.ls.1 _ _ htk)) ?_ ?_
  ·rintro i x σ' H3 hx ⟨l3,l23,⟨x5,x6,x7,x8,x9,rfl⟩,hk3⟩
   obtain ⟨c,hc,hcx⟩:=hys.get hx
   have hcm:=kids_ok hp c (Qs hc)
   obtain ⟨d1,hi3⟩:=hk3.ins
   have la':=la (fun z=>by rw [z] at hc;simp at hc)
   have hll:=kll i
   refine ⟨_,rfl,o,dx,_,rfl,hi3,rfl,_,rfl,_,rfl,_,rfl,t,_,_,_,rfl,rfl,SqT.of (l23.ls.1 _ _ ht2),atI_nat (j:=0) rfl,hdE e,askE e,rfl,la',_,rfl,_,rfl,o,dx,d2,_,x,d3,ρ,n,c,r,askE e,rfl,hcx.kept l23.ls.1,hcm.1,hn.kept l3,by omega,hk3,hll,fun H' ls hk'=>?_⟩
   refine ⟨l3.trans ls,l23.trans ls,⟨_,_,_,_,_,rfl⟩,?_⟩
   obtain ⟨hi,ec⟩:=Qh hc
   rw [Qu hi,ec,List.foldl_append]
   exact hk'
  ·rintro σ' H3 ⟨l3,l23,⟨x5,x6,x7,x8,x9,rfl⟩,hk3⟩
   rw [QA (by omega),<- kfE_kids] at hk3
   dsimp only
   refine ⟨_,rfl,_,rfl,t,_,_,_,rfl,rfl,SqT.of (l23.ls.1 _ _ ht2),atI_nat (j:=0) rfl,hdE e,kdE e,rfl,lm,(by show 2<=sizeLine;decide),fun t3 ht3=>⟨(by show 1<=sizeLine;decide),fun p hp3=>?_⟩⟩
   have s3:=same_upd (o:=.tup [.int 1,.str (kdE e)]) ht3
   have s4:=same_upd (o:=.lst [.ref t3]) hp3
   refine k' p _ (l3.trans (lkS (s3.trans s4))) (hk3.same (s3.trans s4)) ⟨[t3],upd_same,rfl,fun i t k x y=>?_⟩
   match i with
   | 0=>cases (show some t3=some t from x);cases (show some (kdE e)=some k from y);exact s4 _ _ upd_same
   | i+1=>simp at x
theorem ok_ko0 (T:All P w K mg AA DD):FnOk P w K mg base CX0 3 AA.Zg DD.Zg ["self","mask","e","at","names"] (spKO AA.c_KindLook 0):=by
 have no:∀ vs H Q E,¬ spKO AA.c_KindLook 0 vs H Q E:=fun vs H Q E h=>by
  obtain ⟨o,dx,d2,fs,v,d3,ρ,n,e,r,_,_,_,_,z,_⟩:=h
  omega
 exact T.F_Zg.ok sc_Zg (fun vs H Q E h=>(no _ _ _ _ h).elim) (fun cdv A outer s H vs Q E hr h=>(no _ _ _ _ h).elim)
theorem ok_ko (T:All P w K mg AA DD):∀ k:Nat,FnOk P w K mg base CX0 (2*k+3) AA.Zg DD.Zg ["self","mask","e","at","names"] (spKO AA.c_KindLook k)
 | 0=>ok_ko0 T
 | k+1=>ok_koS T k (ok_akS T k (ok_ko T k))
end
section
variable {P:Program} {w:World} {K:W.Frag} {mg:Str->Option Value} {base:Heap} {AA:Adr} {DD:Fds}
noncomputable def setE (ρ:Env) (z:Str) (k:Option Str):Env:=fun x=>if x=z then (match ρ z with | some k0=>some k0 | none=>k) else ρ x
noncomputable def setF (r:Nat) (ρ:Env) (z:Str) (k:Option Str) (fs:List (List Key)):List (List Key):=match k with
 | none=>fs
 | some kd=>askF r (ρ z) kd fs
theorem unfN_01 (ks:List Str) (due:Str):unfN ks due=0∨unfN ks due=1:=by
 unfold unfN
 split
 ·exact .inl rfl
 ·exact .inr rfl
theorem setO_at {H:Hp} {v:V} {r:Nat} {z:Str} {e:Ex} (h:SAt H true v (.set r z e)):∃ t0 x,v=.ref t0/\H t0=some (.tup [.str "set",.int ((r:Nat):Int),.str z,x]):=by
 cases h with
 | @mk t0 vs _ ht0 hps =>
 cases hps with | cons a b=>cases a;cases b with | cons c d=>cases c;cases d with | cons e f=>cases e;cases f with | cons g h=>cases h;exact ⟨t0,_,rfl,ht0⟩
theorem setE_plain {ρ:Env} {z:Str} {k:Option Str} (h:∀ z kd,ρ z=some kd->plainK kd) (hk:∀ kd,k=some kd->plainK kd):∀ x kd,setE ρ z k x=some kd->plainK kd:=fun x kd q=>by
 unfold setE at q
 split at q
 ·split at q
  ·rename_i e;cases q;exact h _ _ e
  ·exact hk _ q
 ·exact h _ _ q
theorem KL.cat {H:Hp} {p q:Addr} {a b:List Str} (ha:KL H p a) (hb:KL H q b):∃ xs ys,H p=some (.lst xs)/\H q=some (.lst ys)/\xs.length=a.length/\ys.length=b.length/\∀ l,H l=none->KL (upd H l (.lst (xs++ys))) l (a++b):=by
 obtain ⟨ts,a1,a2,a3⟩:=ha
 obtain ⟨us,b1,b2,b3⟩:=hb
 refine ⟨_,_,a1,b1,by simpa using a2,by simpa using b2,fun l hl=>⟨ts++us,by rw [upd_same,QI],by simp [a2,b2],fun i t k x y=>?_⟩⟩
 have s:=same_upd (o:=.lst (ts.map V.ref++us.map V.ref)) hl
 by_cases hi:i<ts.length
 ·rw [Qz hi] at x
  rw [Qz (by omega)] at y
  exact s _ _ (a3 i t k x y)
 ·rw [Qx (by omega)] at x
  rw [Qx (by omega),<- a2] at y
  exact s _ _ (b3 _ t k x y)
theorem NmAt.put {H:Hp} {d:Addr} {ρ:Env} {n:Nat} (h:NmAt H d ρ n) {z:Str} {k:Option Str} (hk:∀ kd,k=some kd->plainK kd) {l:Addr} {ks:List Str} (hl:KL H l ks) (e:ks=(setE ρ z k z).toList) (hn:n<900) :
  ∃ H',DPut H d (.str z) (.ref l) H'/\LsS H H'/\NmAt H' d (setE ρ z k) (n+1)/\(∀ a,a≠d->H' a=H a)/\∃ kv,H d=some (.dK kv):=by
 obtain ⟨⟨kvs,a,b,c⟩,pl⟩:=h
 have lsd:∀ ob',LsS H (upd H d ob'):=fun ob'=>ls_upd a (fun _ z=>nomatch z) (fun _ z=>nomatch z) fun _ _ z=>nomatch z
 refine ⟨_,DPut.k (k:=.inr z) a (small1000' (by omega)),lsd _,⟨⟨_,upd_same,?_,fun x=>?_⟩,setE_plain pl hk⟩,fun a ha=>upd_ne ha,kvs,a⟩
 ·exact QE (length_putK _ _ _) (by omega)
 ·rw [valV_put]
  by_cases hx:x=z
  ·subst hx
   rw [if_pos rfl]
   exact .inr ⟨l,rfl,by rw [<- e];exact hl.kept (lsd _)⟩
  ·rw [if_neg (fun q=>hx (by injection q))]
   have ex:setE ρ z k x=ρ x:=by unfold setE;rw [if_neg hx]
   rw [ex]
   rcases c x with q | ⟨p,q1,q2⟩
   ·exact .inl q
   ·exact .inr ⟨p,q1,q2.kept (lsd _)⟩
noncomputable def spLSet (C:Addr):Sp:=fun vs H Q _=>∃ (o dx d2 d3 p:Addr) (fs:List (List Key)) (ρ:Env) (n r:Nat) (v:V) (z:Str) (e:Ex) (k:Option Str),vs=[.ref o,v,.ref p,.ref d3]/\SAt H true v (.set r z e)/\KL H p k.toList/\(∀ kd,k=some kd->plainK kd)/\KkAt H C o dx d2 fs/\NmAt H d3 ρ n/\fs.length<900/\n<900 /\
 ∀ H',LsS H H'->KkAt H' C o dx d2 (setF r ρ z k fs)->NmAt H' d3 (setE ρ z k) (n+1)->Q .non H'
noncomputable abbrev N_Zf:List Str:=["self","one","kinds","names","known","mask","kind"]
theorem sc_Zf:FnScope N_Zf ["self","one","kinds","names"] (defScope st_Zf):=⟨rfl,rfl,rfl,by decide +kernel,rfl,by decide +kernel,by decide +kernel⟩
theorem ok_lset (T:All P w K mg AA DD):FnOk P w K mg base CX0 3 AA.Zf DD.Zf ["self","one","kinds","names"] (spLSet AA.c_KindLook):=by
 have GU:=ok_ZN (base:=base) T
 have GO:=ok_knote (base:=base) T
 have GA:=ok_all1 (base:=base) T
 have GB:=ok_kp (base:=base) T
 have GN:=ok_ZG (base:=base) T
 refine T.F_Zf.ok sc_Zf (fun vs H Q E h=>?_) (fun cdv A outer s H vs Q E hr h=>?_)
 ·obtain ⟨o,dx,d2,d3,p,fs,ρ,n,r,v,z,e,k,rfl,_⟩:=h
  rfl
 ·obtain ⟨o,dx,d2,d3,p,fs,ρ,n,r,v,z,e,k,rfl,hS,hK,hpl,hk,hn,hf,hn9,kq⟩:=h
  have nd:=sc_Zf.nd
  have hr2:Room 2 _:=hr
  have hr1:Room 1 _:=hr2.mono (by decide)
  have hu:=QG (Nat.add_le_add_left (show 1<=64 by decide) _) hr.units
  refine ⟨_,(@pss_cons _ _ _ _ _ (@ps_set _ _ 4 _ _ _ _ nd rfl (Or.inl rfl) (pe_dget2 hu (pv 3) (@pe_ix _ _ _ _ _ _ _ (ix_tupK (K:=K) rfl) (pv 1) pe_int (fun _ _=>rfl)) (@pe_lst _ _ _ _ pa_nil) ⟨by rfl,by rfl,by rfl,by rfl⟩) (by rfl) (by first | exact .inl rfl | exact .inr rfl | assumption)) (@pss_cons _ _ _ _ _ (@ps_for _ _ _ _ _ _ _ _ PassesOwn.never rfl (pi_list (pv 2)) (pg_tup rfl (pgs_cons (pg_name (i:=5) nd rfl (Or.inl rfl)) (pgs_cons (pg_name (i:=6) nd rfl (Or.inl rfl)) pgs_nil))) (@pss_one _ _ _ (@ps_if _ _ _ _ _ _ _ _ (pt_cmp (pc_notN (pv 6))) (@pss_one _ _ _ (@ps_expr _ _ _ _ (pe_meth (pv 0) T.cl_KindLook T.M_Zl GO hr2 T.b_Zl .nil pass0 (@pa_cons _ _ _ _ _ (pe_call GU hr2 rfl T.m_ZN T.k_ZN T.b_ZN .nil pass0 (@pa_cons _ _ _ _ _ (pe_call GB hr1 rfl T.m_Zq T.k_Zq T.b_Zq .nil pass0 (@pa_cons _ _ _ _ _ (pv 4) (@pa_cons _ _ _ _ _ (pv 5) pa_nil (by rfl)) (by rfl))) (@pa_cons _ _ _ _ _ (pv 6) pa_nil (by rfl)) (by rfl))) (@pa_cons _ _ _ _ _ (@pe_ix _ _ _ _ _ _ _ (ix_tupK (K:=K) rfl) (pv 1) pe_int (fun _ _=>rfl)) (@pa_cons _ _ _ _ _ pe_str pa_nil (by rfl)) (by rfl)) (by rfl))) (by rfl))) pss_nil)) (by intro _;rfl)) (@pss_one _ _ _ (ps_dput hu (pv 3) (@pe_ix _ _ _ _ _ _ _ (ix_tupK (K:=K) rfl) (pv 1) pe_int (fun _ _=>rfl)) (@pe_op _ _ _ _ _ _ _ _ op_cat (pv 4) (pe_call GB hr1 rfl T.m_Zq T.k_Zq T.b_Zq .nil pass0 (@pa_cons _ _ _ _ _ (pv 2) (@pa_cons _ _ _ _ _ (pe_call GN hr1 rfl T.m_ZG T.k_ZG T.b_ZG .nil pass0 (@pa_cons _ _ _ _ _ (pe_call GA hr1 rfl T.m_ZJ T.k_ZJ T.b_ZJ .nil pass0 (@pa_cons _ _ _ _ _ (pv 2) pa_nil (by rfl))) (@pa_cons _ _ _ _ _ (pe_call GA hr1 rfl T.m_ZJ T.k_ZJ T.b_ZJ .nil pass0 (@pa_cons _ _ _ _ _ (pv 4) pa_nil (by rfl))) pa_nil (by rfl)) (by rfl))) pa_nil (by rfl)) (by rfl)))) rfl)))),?_⟩
  obtain ⟨t0,x0,rfl,ht0⟩:=setO_at hS
  obtain ⟨kvs,hd3,hkn,hz⟩:=hn.ex
  refine ⟨_,rfl,d3,rfl,.inl ⟨kvs,.inl hd3⟩,_,rfl,t0,_,_,_,rfl,rfl,SqT.of ht0,atI_nat (j:=2) rfl,?_⟩
  refine ⟨(by show 0<=sizeLine;decide),fun q hq=>?_⟩
  have s1:=same_upd (o:=.lst []) hq
  refine ⟨_,DGet.k (k:=.inr z) (s1 _ _ hd3),?_⟩
  have hkn1:∃ l,(valV kvs (Sum.inr z)).getD (V.ref q)=.ref l/\KL (upd H q (.lst [])) l (ρ z).toList:=by
   rcases hz z with ⟨h1,h2⟩ | ⟨l,h1,h2⟩
   ·refine ⟨q,by rw [h1];rfl,?_⟩
    rw [h2]
    exact ⟨[],upd_same,rfl,fun i t k x=>by simp at x⟩
   ·exact ⟨l,by rw [h1];rfl,h2.same s1⟩
  obtain ⟨l,el,hKl⟩:=hkn1
  rw [el]
  have hk1:=hk.same s1
  have hn1:=hn.kept (lkS s1)
  have hK1:=hK.same s1
  have ht1:=s1 _ _ ht0
  have ls1:=s1.ls
  generalize upd H q (.lst [])=H1 at hKl hk1 hn1 hK1 ht1 ls1 ⊢
  dsimp only [gName]
  refine cut_for (fun σ' H'=>LsK H1 H'/\KkAt H' AA.c_KindLook o dx d2 (setF r ρ z k fs)/\∃ s5 s6:Option V,σ'=[some (.ref o),some (.ref t0),some (.ref p),some (.ref d3),some (.ref l),s5,s6]) (fun R hRR=>?_) ?_
  ·obtain ⟨ts,hp,htl,hat⟩:=hK1
   refine ⟨_,rfl,p,rfl,⟨_,SqL.of hp⟩,?_⟩
   have hle:ts.length<=1:=by rw [htl];cases k<;>simp
   refine for_list (K:=K) (a:=p) (xs:=ts.map V.ref) (fun i σ' H'=>LsK H1 H'/\KkAt H' AA.c_KindLook o dx d2 (if i=0 then fs else setF r ρ z k fs)/\∃ s5 s6:Option V,σ'=[some (.ref o),some (.ref t0),some (.ref p),some (.ref d3),some (.ref l),s5,s6]) ⟨LsK.refl _,hk1,none,none,rfl⟩ (fun i σ' H' _ hsl68=>by obtain ⟨e,_⟩:=hsl68;exact SqL.of (e.ls.2 _ _ hp)) ?_ ?_
   ·rintro i x σ' H2 hx ⟨l2,hk2,s5,s6,rfl⟩
    have hi:i<ts.length:=by
     have:=(Qh hx).1
     rw [Qi] at this;exact this
    have hi0:i=0:=by omega
    subst hi0
    rw [if_pos rfl] at hk2
    have ex:x=V.ref ts[0]:=by rw [Ql,Qb hi] at hx;exact (Qr hx).symm
    subst ex
    cases k with
    | none=>have e0:ts.length=0:=htl
            omega
    | some kd =>
    have hT:=l2.ls.1 _ _ (hat 0 ts[0] kd (Qb hi) rfl)
    refine ⟨ts[0],_,rfl,SqT.of hT,rfl,_,_,rfl,_,_,rfl,rfl,?_⟩
    refine ⟨_,rfl,_,rfl,iteTb (by rw [Qj (fun z=>by cases z)];rfl) ?_⟩
    obtain ⟨d1,hi2⟩:=hk2.ins
    refine ⟨_,rfl,o,dx,_,rfl,hi2,rfl,_,rfl,_,rfl,l,(ρ z).toList,1,rfl,Qf _,hKl.kept l2.ls,opt50 _,fun l3 H3 s3 hK3=>?_⟩
    refine ⟨_,rfl,l3,(ρ z).toList,kd,rfl,hK3,opt50 _,fun H4 s4=>?_⟩
    have s34:=s3.trans s4
    refine ⟨_,rfl,t0,_,_,_,rfl,rfl,SqT.of (s34 _ _ (l2.ls.1 _ _ ht1)),atI_nat (j:=1) rfl,?_⟩
    refine ⟨o,dx,d2,fs,unfN (ρ z).toList kd,r,"kind",rfl,hk2.same s34,by omega,?_⟩
    rcases unfN_01 (ρ z).toList kd with hq | hq
    ·refine .inl ⟨hq,fun H5 l5 hk5=>⟨l2.trans ((lkS s34).trans l5),?_,_,_,rfl⟩⟩
     rw [if_neg (by omega)]
     show KkAt H5 AA.c_KindLook o dx d2 (askF r (ρ z) kd fs)
     unfold askF
     rw [if_pos hq];exact hk5
    ·refine .inr ⟨hq,fun H5 l5 hk5=>⟨l2.trans ((lkS s34).trans l5),?_,_,_,rfl⟩⟩
     rw [if_neg (by omega)]
     show KkAt H5 AA.c_KindLook o dx d2 (askF r (ρ z) kd fs)
     unfold askF
     rw [if_neg (by omega)];exact hk5
   ·rintro σ' H2 ⟨l2,hk2,s5,s6,rfl⟩
    refine hRR _ _ ⟨l2,?_,s5,s6,rfl⟩
    cases k with
    | none =>
     have e0:ts.length=0:=by simpa using htl
     rw [Qi,if_pos e0] at hk2
     exact hk2
    | some kd =>
     have e0:ts.length=1:=by simpa using htl
     rw [Qi,if_neg (by omega)] at hk2
     exact hk2
  ·rintro σ' H2 ⟨l2,hk2,s5,s6,rfl⟩
   have hK2:=hK1.kept l2.ls
   have hKl2:=hKl.kept l2.ls
   obtain ⟨xs,hx,hP,hxe⟩:=hK2.p1
   obtain ⟨ys,hy,hP2,hye⟩:=hKl2.p1
   refine ⟨_,rfl,_,rfl,_,rfl,p,xs,rfl,hx,hP,_,rfl,l,ys,rfl,hy,hP2,?_⟩
   refine ⟨(if xs=[] then 0 else 1),(if ys=[] then 0 else 1),?_,?_⟩
   ·split<;>split<;>rfl
   generalize hm:((if xs=[] then 0 else 1) ^^^ ((if xs=[] then 0 else 1) &&& (if ys=[] then 0 else 1)):Nat)=m
   have hm1:m<=1/\((ρ z).toList++(if m=0 then [] else k.toList))=(setE ρ z k z).toList:=by
    unfold setE
    rw [if_pos rfl]
    cases k with
    | none =>
     rw [if_pos (hxe.mpr rfl)] at hm
     subst hm
     cases ρ z<;>simp
    | some kd =>
     rw [if_neg (fun q=>by have:=hxe.mp q;simp at this)] at hm
     cases hρ:ρ z with
     | none =>
      rw [hρ] at hye
      rw [if_pos (hye.mpr rfl)] at hm
      subst hm
      exact ⟨by decide,by simp⟩
     | some k0 =>
      rw [hρ] at hye
      rw [if_neg (fun q=>by have:=hye.mp q;simp at this)] at hm
      subst hm
      exact ⟨by decide,by simp⟩
   refine ⟨p,k.toList,m,rfl,hm1.1,hK2,opt50 _,fun p3 H3 s3 hK3=>?_⟩
   obtain ⟨xs1,ys1,h1,h2,h3,h4,h5⟩:=(hKl2.same s3).cat hK3
   refine ⟨l,p3,xs1,ys1,rfl,rfl,h1,h2,?_,fun l4 hl4=>?_⟩
   ·have e1:=opt50 (ρ z)
    have e2:(if m=0 then [] else k.toList).length<=50:=by
     split
     ·simp
     ·exact opt50 k
    have:=small1000' (n:=xs1.length+ys1.length) (by omega)
    omega
   have hK4:=h5 l4 hl4
   have s4:=same_upd (o:=.lst (xs1++ys1)) hl4
   have lk4:LsK H1 (upd H3 l4 (.lst (xs1++ys1))):=l2.trans (lkS (s3.trans s4))
   obtain ⟨H5,hput,ls5,hn5,hoth,kv,hkv⟩:=(hn1.kept lk4).put hpl hK4 hm1.2 hn9
   refine ⟨_,rfl,_,rfl,t0,_,_,_,rfl,rfl,SqT.of (lk4.ls.1 _ _ ht1),atI_nat (j:=2) rfl,d3,H5,rfl,hput,?_⟩
   refine kq H5 ((ls1.trans lk4.ls).trans ls5) ?_ hn5
   have hk4:=hk2.same (s3.trans s4)
   obtain ⟨⟨d1,i1⟩,i2⟩:=hk4
   refine ⟨⟨d1,?_⟩,?_⟩
   ·rw [hoth _ (fun q=>by rw [q,hkv] at i1;cases i1)];exact i1
   ·rw [hoth _ (fun q=>by rw [q,hkv] at i2;cases i2)];exact i2
end
section
variable {P:Program} {w:World} {K:W.Frag} {mg:Str->Option Value} {base:Heap} {AA:Adr} {DD:Fds}
theorem NmAt.mono {H:Hp} {d:Addr} {ρ:Env} {n m:Nat} (h:NmAt H d ρ n) (q:n<=m):NmAt H d ρ m:=by obtain ⟨⟨kvs,a,b,c⟩,e⟩:=h;exact ⟨⟨kvs,a,QE b q,c⟩,e⟩
noncomputable def truF (r:Nat) (k:Option Str) (fs:List (List Key)):List (List Key):=if unfN k.toList "truth"=0 then fs else addF fs (kk r "truth")
noncomputable def lrF (t:Tr) (k:Option Str) (ρ:Env) (fs:List (List Key)):List (List Key):=match t with
 | .set r z _=>setF r ρ z k fs
 | .tell _ _=>fs
 | t=>truF t.row k fs
noncomputable def lrE (t:Tr) (k:Option Str) (ρ:Env):Env:=match t with
 | .set _ z _=>setE ρ z k
 | _=>ρ
noncomputable def spLR (C:Addr):Sp:=fun vs H Q _=>∃ (o dx d2 d3 p:Addr) (fs:List (List Key)) (ρ:Env) (n:Nat) (v:V) (t:Tr) (k:Option Str),vs=[.ref o,v,.ref p,.ref d3,.non]/\SAt H true v t/\KL H p k.toList/\(∀ kd,k=some kd->plainK kd)/\KkAt H C o dx d2 fs/\NmAt H d3 ρ n/\fs.length<900/\n<900 /\
 ∀ H',LsS H H'->KkAt H' C o dx d2 (lrF t k ρ fs)->NmAt H' d3 (lrE t k ρ) (n+1)->Q .non H'
theorem kw_cases (t:Tr):(∃ r z e,t=.set r z e)∨(t.kw≠"set"/\t.kw≠"give"/\(∀ k ρ,lrE t k ρ=ρ)/\((t.kw="tell"/\∀ k ρ fs,lrF t k ρ fs=fs)∨(t.kw≠"tell"/\∀ k ρ fs,lrF t k ρ fs=truF t.row k fs))):=by
 cases t with
 | set r n e=>exact .inl ⟨r,n,e,rfl⟩
 | tell r e=>exact .inr ⟨by show ("tell":Str)≠"set";decide,by show ("tell":Str)≠"give";decide,fun _ _=>rfl,.inl ⟨rfl,fun _ _ _=>rfl⟩⟩
 | iff r e b o=>exact .inr ⟨by show ("if":Str)≠"set";decide,by show ("if":Str)≠"give";decide,fun _ _=>rfl,.inr ⟨by show ("if":Str)≠"tell";decide,fun _ _ _=>rfl⟩⟩
 | whl r e b=>exact .inr ⟨by show ("while":Str)≠"set";decide,by show ("while":Str)≠"give";decide,fun _ _=>rfl,.inr ⟨by show ("while":Str)≠"tell";decide,fun _ _ _=>rfl⟩⟩
noncomputable abbrev N_Ze:List Str:=["self","one","kinds","names","due","at"]
theorem sc_Ze:FnScope N_Ze ["self","one","kinds","names","due"] (defScope st_Ze):=⟨rfl,rfl,rfl,by decide +kernel,rfl,by decide +kernel,by decide +kernel⟩
theorem ok_lr (T:All P w K mg AA DD):FnOk P w K mg base CX0 4 AA.Ze DD.Ze ["self","one","kinds","names","due"] (spLR AA.c_KindLook):=by
 have GU:=ok_ZN (base:=base) T
 have GO:=ok_knote (base:=base) T
 have GA:=ok_all1 (base:=base) T
 have GIR:=ok_isrec (base:=base) T
 have GLS:=ok_lset (base:=base) T
 refine T.F_Ze.ok sc_Ze (fun vs H Q E h=>?_) (fun cdv A outer s H vs Q E hr h=>?_)
 ·obtain ⟨o,dx,d2,d3,p,fs,ρ,n,v,t,k,rfl,_⟩:=h
  rfl
 ·obtain ⟨o,dx,d2,d3,p,fs,ρ,n,v,t,k,rfl,hS,hK,hpl,hk,hn,hf,hn9,kq⟩:=h
  have nd:=sc_Ze.nd
  have hr3:Room 3 _:=hr
  have hr2:Room 2 _:=hr3.mono (by decide)
  have hr1:Room 1 _:=hr3.mono (by decide)
  refine ⟨_,(@pss_cons _ _ _ _ _ (@ps_set _ _ 5 _ _ _ _ nd rfl (Or.inl rfl) (@pe_ix _ _ _ _ _ _ _ (ix_tupK (K:=K) rfl) (pv 1) pe_int (fun _ _=>rfl)) (by rfl) (by first | exact .inl rfl | exact .inr rfl | assumption)) (@pss_one _ _ _ (@ps_if _ _ _ _ _ _ _ _ (@pt_cmpR _ _ _ _ _ _ _ _ op_eq (@pe_ix _ _ _ _ _ _ _ (ix_tupK (K:=K) rfl) (pv 1) pe_int (fun _ _=>rfl)) pe_str (nomark _)) (@pss_one _ _ _ (@ps_expr _ _ _ _ (pe_meth (pv 0) T.cl_KindLook T.M_Zf GLS hr3 T.b_Zf .nil pass0 (@pa_cons _ _ _ _ _ (pv 1) (@pa_cons _ _ _ _ _ (pv 2) (@pa_cons _ _ _ _ _ (pv 3) pa_nil (by rfl)) (by rfl)) (by rfl))) (by rfl))) (@pss_one _ _ _ (@ps_if _ _ _ _ _ _ _ _ (@pt_cmpR _ _ _ _ _ _ _ _ op_eq (@pe_ix _ _ _ _ _ _ _ (ix_tupK (K:=K) rfl) (pv 1) pe_int (fun _ _=>rfl)) pe_str (nomark _)) pss_never (@pss_one _ _ _ (@ps_if _ _ _ _ _ _ _ _ (@pt_cmpR _ _ _ _ _ _ _ _ op_eq (@pe_ix _ _ _ _ _ _ _ (ix_tupK (K:=K) rfl) (pv 1) pe_int (fun _ _=>rfl)) pe_str (nomark _)) (@pss_one _ _ _ (@ps_expr _ _ _ _ (pe_meth (pv 0) T.cl_KindLook T.M_Zl GO hr2 T.b_Zl .nil pass0 (@pa_cons _ _ _ _ _ (pe_call GA hr1 rfl T.m_ZJ T.k_ZJ T.b_ZJ .nil pass0 (@pa_cons _ _ _ _ _ (pe_comp (defScope st_Ze) N_Ze [] [] rfl (by exact ⟨rfl,rfl,by decide +kernel,rfl,by decide +kernel,by decide +kernel,by decide +kernel,rfl,by decide +kernel⟩) rfl rfl (pi_list (pv 2)) (fun _ _ _ _=>pif_one (pt_val (pe_call GIR hr1 rfl T.m_Zw T.k_Zw T.b_Zw .nil pass0 (pa_cons (pe_ix (ix_tupK (K:=K) rfl) (pv 0) pe_int (fun _ _=>rfl)) pa_nil)))) (fun _ _ _ _=>(pv 0))) pa_nil (by rfl))) (@pa_cons _ _ _ _ _ (pv 5) (@pa_cons _ _ _ _ _ pe_str pa_nil (by rfl)) (by rfl)) (by rfl))) (by rfl))) (@pss_one _ _ _ (@ps_expr _ _ _ _ (pe_meth (pv 0) T.cl_KindLook T.M_Zl GO hr2 T.b_Zl .nil pass0 (@pa_cons _ _ _ _ _ (pe_call GU hr2 rfl T.m_ZN T.k_ZN T.b_ZN .nil pass0 (@pa_cons _ _ _ _ _ (pv 2) (@pa_cons _ _ _ _ _ pe_str pa_nil (by rfl)) (by rfl))) (@pa_cons _ _ _ _ _ (pv 5) (@pa_cons _ _ _ _ _ pe_str pa_nil (by rfl)) (by rfl)) (by rfl))) (by rfl)))))))))),?_⟩
  have hS0:=hS
  cases hS with
  | @mk t0 vs _ ht0 hps =>
  obtain ⟨vr,rfl⟩:=st_head hps
  obtain ⟨d1,hi⟩:=hk.ins
  refine ⟨_,rfl,t0,_,_,_,rfl,rfl,SqT.of ht0,atI_nat (j:=1) rfl,?_⟩
  dsimp only [gName]
  refine ⟨_,rfl,t0,_,_,_,rfl,rfl,SqT.of ht0,atI_nat (j:=0) rfl,rfl,_,rfl,?_⟩
  rcases kw_cases t with ⟨r,z,e,rfl⟩ | ⟨n1,n2,hE,hc⟩
  ·refine iteTb (Qw rfl) ?_
   refine ⟨_,rfl,o,dx,_,rfl,hi,rfl,_,rfl,_,rfl,_,rfl,?_⟩
   exact ⟨o,dx,d2,d3,p,fs,ρ,n,r,.ref t0,z,e,k,rfl,hS0,hK,hpl,hk,hn,hf,hn9,kq⟩
  refine iteFb (Qj fun z=>n1 (by injection z)) ?_
  refine ⟨_,rfl,t0,_,_,_,rfl,rfl,SqT.of ht0,atI_nat (j:=0) rfl,rfl,_,rfl,?_⟩
  refine iteFb (Qj fun z=>n2 (by injection z)) ?_
  refine ⟨_,rfl,t0,_,_,_,rfl,rfl,SqT.of ht0,atI_nat (j:=0) rfl,rfl,_,rfl,?_⟩
  have kq':∀ H',LsK H H'->KkAt H' AA.c_KindLook o dx d2 (lrF t k ρ fs)->Q .non H':=fun H' lk h=>kq H' lk.ls h (by rw [hE];exact (hn.kept lk).mono (by omega))
  rcases hc with ⟨hw,ht⟩ | ⟨hw,ht⟩
  ·refine iteTb (Qw (by rw [hw])) ?_
   refine ⟨_,rfl,o,dx,_,rfl,hi,rfl,?_⟩
   obtain ⟨ts,hp,htl,hat⟩:=hK
   refine ⟨_,rfl,p,rfl,⟨_,SqL.of hp⟩,?_⟩
   refine comp_list (K:=K) (a:=p) (xs:=ts.map V.ref) (fun i ys H'=>H'=H/\ys=[]) ⟨rfl,rfl⟩ (fun i ys H' _ h=>by rw [h.1];exact SqL.of hp) ?_ ?_
   ·rintro i x ys H1 hx ⟨rfl,rfl⟩
    have hi:i<ts.length:=by
     have:=(Qh hx).1
     rw [Qi] at this;exact this
    have ex:x=V.ref ts[i]:=by rw [Ql,Qb hi] at hx;exact (Qr hx).symm
    subst ex
    have hik:i<k.toList.length:=by omega
    have htk:=hat i ts[i] k.toList[i] (Qb hi) (Qb hik)
    have hkp:plainK k.toList[i]:=hpl _ (by
     have:=QC hik
     rw [Option.mem_toList] at this;exact this)
    refine ⟨_,rfl,ts[i],_,_,_,rfl,rfl,SqT.of htk,atI_nat (j:=1) rfl,_,rfl,hkp,_,rfl,iteF ⟨rfl,rfl⟩⟩
   ·rintro ys H1 ⟨rfl,rfl⟩ q hq
    have sq:=same_upd (o:=.lst []) hq
    refine ⟨q,[],rfl,upd_same,(by intro x hx;cases hx),_,rfl,o,dx,d2,fs,0,t.row,"tell",rfl,hk.same sq,by omega,.inl ⟨rfl,fun H3 ls3 hk3=>?_⟩⟩
    refine kq' _ ((lkS sq).trans ls3) ?_
    rw [ht];exact hk3
  ·refine iteFb (Qj fun z=>hw (by injection z)) ?_
   refine ⟨_,rfl,o,dx,_,rfl,hi,rfl,_,rfl,p,_,"truth",rfl,hK,opt50 _,fun H2 s2=>⟨_,rfl,?_⟩⟩
   refine ⟨o,dx,d2,fs,unfN k.toList "truth",t.row,"truth",rfl,hk.same s2,by omega,?_⟩
   rcases unfN_01 k.toList "truth" with hq | hq
   ·refine .inl ⟨hq,fun H3 ls3 hk3=>kq' _ ((lkS s2).trans ls3) ?_⟩
    rw [ht];unfold truF;rw [if_pos hq];exact hk3
   ·refine .inr ⟨hq,fun H3 ls3 hk3=>kq' _ ((lkS s2).trans ls3) ?_⟩
    rw [ht];unfold truF;rw [if_neg (by omega)];exact hk3
noncomputable abbrev KSt:=Env × List (List Key)
noncomputable def rowF (t:Tr) (s:KSt):KSt:=(lrE t (kdN s.1 t.ex) s.1,lrF t (kdN s.1 t.ex) s.1 (kfE s.1 t.row t.ex s.2))
mutual
noncomputable def kfT:Tr->KSt->KSt
 | .set r n e,fs=>rowF (.set r n e) fs
 | .tell r e,fs=>rowF (.tell r e) fs
 | .iff r e b o,fs=>kfTs o (kfTs b (rowF (.iff r e b o) fs))
 | .whl r e b,fs=>kfTs b (rowF (.whl r e b) fs)
noncomputable def kfTs:List Tr->KSt->KSt
 | [],fs=>fs
 | t::ts,fs=>kfTs ts (kfT t fs)
end
theorem kfT_b (t:Tr) (fs:KSt):kfT t fs=t.blocks.foldl (fun gs b=>kfTs b gs) (rowF t fs):=by
 cases t<;>simp [kfT,Tr.blocks]
theorem kfTs_app:∀ (a b:List Tr) (fs:KSt),kfTs (a++b) fs=kfTs b (kfTs a fs)
 | [],_,_=>by simp [kfTs]
 | t::a,b,fs=>by
  show kfTs (a++b) (kfT t fs)=kfTs b (kfTs a (kfT t fs))
  exact kfTs_app a b _
theorem lrF_len (t:Tr) (k:Option Str) (ρ:Env) (fs:List (List Key)):(lrF t k ρ fs).length<=fs.length+1:=by
 have h1:=addF_len fs (kk t.row "truth")
 unfold lrF
 split
 ·rename_i r z _
  have h2:=addF_len fs (kk r "kind")
  unfold setF
  split
  ·omega
  ·unfold askF
   split<;>omega
 ·omega
 ·unfold truF
  split<;>omega
theorem rowF_len (t:Tr) (s:KSt):(rowF t s).2.length<=s.2.length+2:=by
 have h1:=kfE_len s.1 t.row t.ex s.2
 have h2:=lrF_len t (kdN s.1 t.ex) s.1 (kfE s.1 t.row t.ex s.2)
 unfold rowF
 show (lrF t (kdN s.1 t.ex) s.1 (kfE s.1 t.row t.ex s.2)).length<=_
 omega
mutual
theorem kfT_len:∀ (t:Tr) (fs:KSt),(kfT t fs).2.length<=fs.2.length+2*t.flat.length
 | .set r n e,fs=>by
  have:=rowF_len (.set r n e) fs
  simp [kfT,Tr.flat];omega
 | .tell r e,fs=>by
  have:=rowF_len (.tell r e) fs
  simp [kfT,Tr.flat];omega
 | .iff r e b o,fs=>by
  have h:=rowF_len (.iff r e b o) fs
  have h1:=kfTs_len b (rowF (.iff r e b o) fs)
  have h2:=kfTs_len o (kfTs b (rowF (.iff r e b o) fs))
  simp [kfT,Tr.flat];omega
 | .whl r e b,fs=>by
  have h:=rowF_len (.whl r e b) fs
  have h1:=kfTs_len b (rowF (.whl r e b) fs)
  simp [kfT,Tr.flat];omega
theorem kfTs_len:∀ (ts:List Tr) (fs:KSt),(kfTs ts fs).2.length<=fs.2.length+2*(flats ts).length
 | [],fs=>by simp [kfTs,flats]
 | t::ts,fs=>by
  have h1:=kfT_len t fs
  have h2:=kfTs_len ts (kfT t fs)
  simp [kfTs,flats];omega
end
theorem foldb_len:∀ (bs:List (List Tr)) (fs:KSt),(bs.foldl (fun gs b=>kfTs b gs) fs).2.length<=fs.2.length+2*(bs.map flats).flatten.length
 | [],fs=>by simp
 | b::bs,fs=>by
  have h1:=kfTs_len b fs
  have h2:=foldb_len bs (kfTs b fs)
  simp only [List.foldl_cons,List.map_cons,List.flatten_cons,QB]
  omega
theorem asc_ex {t:Tr} (h:t.asc):t.ex.plain:=by
 cases t with
 | set r n e=>exact h
 | tell r e=>exact h
 | iff r e b o=>exact h.1
 | whl r e b=>exact h.1
theorem flats_take:∀ {ts:List Tr} {i:Nat} {t:Tr},ts[i]?=some t->flats (ts.take (i+1))=flats (ts.take i)++t.flat/\∃ r,flats ts=flats (ts.take i)++(t.flat++r)
 | x::ts,0,t,h=>by
  cases (show some x=some t from h)
  exact ⟨by simp [flats],flats ts,by simp [flats]⟩
 | x::ts,i+1,t,h=>by
  obtain ⟨a,r,b⟩:=flats_take (ts:=ts) (i:=i) h
  exact ⟨by simp [flats,a],r,by simp [flats,b]⟩
theorem blocks_mem {t:Tr} {bs:List Tr} (h:bs∈t.blocks):Part.b bs∈t.parts:=by
 have:Part.b bs∈t.parts.filter isB:=by rw [parts_b];exact List.mem_map.mpr ⟨bs,h,rfl⟩
 exact (List.mem_filter.mp this).1
theorem fl_take:∀ {bs:List (List Tr)} {i:Nat} {b:List Tr},bs[i]?=some b->((bs.take (i+1)).map flats).flatten=((bs.take i).map flats).flatten++flats b/\∃ r,(bs.map flats).flatten=((bs.take i).map flats).flatten++(flats b++r)
 | x::bs,0,b,h=>by
  cases (show some x=some b from h)
  exact ⟨by simp,(bs.map flats).flatten,by simp⟩
 | x::bs,i+1,b,h=>by
  obtain ⟨a,r,c⟩:=fl_take (bs:=bs) (i:=i) h
  exact ⟨by simp only [List.take_succ_cons,List.map_cons,List.flatten_cons,a,List.append_assoc],r,by simp only [List.take_succ_cons,List.map_cons,List.flatten_cons,c,List.append_assoc]⟩
noncomputable def GoodR (x:Nat × Ex × Option Str):Prop:=x.2.1.deep<8
noncomputable def spKB (C:Addr) (k:Nat):Sp:=fun vs H Q _=>∃ (o dx d2 d3 l:Addr) (n:Nat) (xs:List V) (ts:List Tr) (fs:KSt),vs=[.ref o,.ref l,.ref d3,.non]/\H l=some (.lst xs)/\LAt H true xs ts/\deeps ts<k/\ascs ts/\(∀ x∈flats ts,GoodR x) /\
 KkAt H C o dx d2 fs.2/\NmAt H d3 fs.1 n/\fs.2.length+2*(flats ts).length<800/\n+(flats ts).length<800/\∀ H',LsS H H'->KkAt H' C o dx d2 (kfTs ts fs).2->NmAt H' d3 (kfTs ts fs).1 (n+(flats ts).length)->Q .non H'
noncomputable abbrev N_Zb:List Str:=["self","statements","names","due","mask","one","block"]
theorem sc_Zb:FnScope N_Zb ["self","statements","names","due"] (defScope st_Zb):=⟨rfl,rfl,rfl,by decide +kernel,rfl,by decide +kernel,by decide +kernel⟩
theorem ok_kbS (T:All P w K mg AA DD) (k:Nat) (GY:FnOk P w K mg base CX0 (k+20) AA.Zb DD.Zb ["self","statements","names","due"] (spKB AA.c_KindLook k)) :
  FnOk P w K mg base CX0 (k+1+20) AA.Zb DD.Zb ["self","statements","names","due"] (spKB AA.c_KindLook (k+1)):=by
 have GKO:=ok_ko (base:=base) T 8
 have GLR:=ok_lr (base:=base) T
 have GX:=ok_eo (base:=base) T
 have GK:=ok_bo (base:=base) T
 refine T.F_Zb.ok sc_Zb (fun vs H Q E h=>?_) (fun cdv A outer s H vs Q E hr h=>?_)
 ·obtain ⟨o,dx,d2,d3,l,n,xs,ts,fs,rfl,_⟩:=h
  rfl
 ·obtain ⟨o,dx,d2,d3,l,n,xs,ts,fs,rfl,hl,hL,hd,ha,hg,hk,hnm,hf,hn8,kq⟩:=h
  have nd:=sc_Zb.nd
  have hrB:Room (k+20) _:=hr
  have hrK:Room (2*8+3) _:=hrB.mono (by omega)
  have hr4:Room 4 _:=hrB.mono (by omega)
  have hr1:Room 1 _:=hrB.mono (by omega)
  refine ⟨_,(@pss_one _ _ _ (@ps_for _ _ _ _ _ _ _ _ PassesOwn.never rfl (pi_list (pv 1)) (pg_tup rfl (pgs_cons (pg_name (i:=4) nd rfl (Or.inl rfl)) (pgs_cons (pg_name (i:=5) nd rfl (Or.inl rfl)) pgs_nil))) (@pss_one _ _ _ (@ps_if _ _ _ _ _ _ _ _ (@pt_cmpR _ _ _ _ _ _ _ _ op_eq (@pe_ix _ _ _ _ _ _ _ (ix_tupK (K:=K) rfl) (pv 5) pe_int (fun _ _=>rfl)) pe_str (nomark _)) pss_never (@pss_one _ _ _ (@ps_if _ _ _ _ _ _ _ _ (@pt_cmpR _ _ _ _ _ _ _ _ op_ne (@pe_ix _ _ _ _ _ _ _ (ix_tupK (K:=K) rfl) (pv 5) pe_int (fun _ _=>rfl)) pe_str (nomark _)) (@pss_cons _ _ _ _ _ (@ps_expr _ _ _ _ (pe_meth (pv 0) T.cl_KindLook T.M_Ze GLR hr4 T.b_Ze .nil pass0 (@pa_cons _ _ _ _ _ (pv 5) (@pa_cons _ _ _ _ _ (pe_meth (pv 0) T.cl_KindLook T.M_Zg GKO hrK T.b_Zg .nil pass0 (@pa_cons _ _ _ _ _ (pv 4) (@pa_cons _ _ _ _ _ (pe_call GX hr1 rfl T.m_ZH T.k_ZH T.b_ZH .nil pass0 (@pa_cons _ _ _ _ _ (pv 5) pa_nil (by rfl))) (@pa_cons _ _ _ _ _ (@pe_ix _ _ _ _ _ _ _ (ix_tupK (K:=K) rfl) (pv 5) pe_int (fun _ _=>rfl)) (@pa_cons _ _ _ _ _ (pv 2) pa_nil (by rfl)) (by rfl)) (by rfl)) (by rfl))) (@pa_cons _ _ _ _ _ (pv 2) (@pa_cons _ _ _ _ _ (pv 3) pa_nil (by rfl)) (by rfl)) (by rfl)) (by rfl))) (by rfl)) (@pss_one _ _ _ (@ps_for _ _ _ _ _ _ _ _ PassesOwn.never rfl (pi_list (pe_call GK hr1 rfl T.m_Zv T.k_Zv T.b_Zv .nil pass0 (@pa_cons _ _ _ _ _ (pv 5) pa_nil (by rfl)))) (pg_name (i:=6) nd rfl (Or.inl rfl)) (@pss_one _ _ _ (@ps_expr _ _ _ _ (pe_meth (pv 0) T.cl_KindLook T.M_Zb GY hrB T.b_Zb .nil pass0 (@pa_cons _ _ _ _ _ (pv 6) (@pa_cons _ _ _ _ _ (pv 2) (@pa_cons _ _ _ _ _ (pv 3) pa_nil (by rfl)) (by rfl)) (by rfl))) (by rfl))) (by intro _;rfl)))) pss_nil)))) (by intro _;rfl))),?_⟩
  refine ⟨_,rfl,l,rfl,⟨_,SqL.of hl⟩,?_⟩
  have hxl:=hL.length
  refine for_list (K:=K) (a:=l) (xs:=xs) (fun i σ' H'=>LsS H H'/\(∃ x4 x5 x6,σ'=[some (.ref o),some (.ref l),some (.ref d3),some .non,x4,x5,x6])/\KkAt H' AA.c_KindLook o dx d2 (kfTs (ts.take i) fs).2/\NmAt H' d3 (kfTs (ts.take i) fs).1 (n+(flats (ts.take i)).length)) ⟨LsS.refl _,⟨_,_,_,rfl⟩,by simpa [kfTs] using hk,by simpa [kfTs,flats] using hnm⟩ (fun i σ' H' _ h=>SqL.of (h.1.2 _ _ hl)) ?_ ?_
  ·rintro i x σ' H1 hx ⟨l1,⟨x4,x5,x6,rfl⟩,hk1,hn1⟩
   obtain ⟨t,ht,hO⟩:=hL.get hx
   have hO1:=hO.kept l1
   have hm:t∈ts:=Qs ht
   have hta:=ascs_mem ha hm
   obtain ⟨ft,rest,fr⟩:=flats_take ht
   have hnf:(flats (ts.take i)).length+(1+(t.blocks.map flats).flatten.length)+rest.length=(flats ts).length:=by
    rw [fr,flat_b]
    simp only [QB,List.length_cons]
    omega
   have hmf:∀ z∈t.flat,z∈flats ts:=fun z hz=>by rw [fr];simp [hz]
   have hdt:=hg (t.row,t.ex,t.nm) (hmf _ (by rw [flat_b];simp))
   have hq:=kfTs_len (ts.take i) fs
   obtain ⟨hi',et⟩:=Qh ht
   have etk:kfTs (ts.take (i+1)) fs=kfT t (kfTs (ts.take i) fs):=by
    rw [Qu hi',et,kfTs_app];rfl
   rw [etk,ft,flat_b]
   generalize kfTs (ts.take i) fs=gs at hk1 hq hn1
   cases hO1 with
   | plain e _=>cases e
   | @shared p y _ _ hp hS =>
   have hS0:=hS
   cases hS with
   | @mk t0 vs _ ht0 hps =>
   obtain ⟨vr,rfl⟩:=st_head hps
   obtain ⟨d1,hi⟩:=hk1.ins
   refine ⟨p,_,rfl,SqT.of hp,rfl,_,_,rfl,_,_,rfl,rfl,?_⟩
   refine ⟨_,rfl,t0,_,_,_,rfl,rfl,SqT.of ht0,atI_nat (j:=0) rfl,rfl,_,rfl,?_⟩
   refine iteFb (Qj fun z=>(kw_not t).1 (by injection z)) ?_
   refine ⟨_,rfl,t0,_,_,_,rfl,rfl,SqT.of ht0,atI_nat (j:=0) rfl,rfl,_,rfl,?_⟩
   refine iteTb (by
    show (!decide (V.str t.kw=V.str "kind"))=true
    rw [Qj fun z=>(kw_not t).2 (by injection z)];rfl) ?_
   refine ⟨_,rfl,o,dx,_,rfl,hi,rfl,_,rfl,_,rfl,o,dx,_,rfl,hi,rfl,_,rfl,?_⟩
   refine ⟨_,rfl,.ref t0,t,rfl,hS0,fun x hx=>?_⟩
   have hb1:=addF_len gs.2 (kk t.row "kind")
   have hb2:=kfE_len gs.1 t.row t.ex gs.2
   refine ⟨_,rfl,t0,_,_,_,rfl,rfl,SqT.of ht0,atI_nat (j:=1) rfl,_,rfl,o,dx,d2,gs.2,x,d3,gs.1,_,t.ex,t.row,rfl,hx,asc_ex hta,hn1,hdt,hk1,by omega,fun p2 H2 l2 hk2 hK2=>?_⟩
   refine ⟨_,rfl,_,rfl,o,dx,d2,d3,p2,kfE gs.1 t.row t.ex gs.2,gs.1,_,.ref t0,t,kdN gs.1 t.ex,rfl,hS0.kept l2.ls,hK2,fun kd q=>kdN_plain hn1.pl q,hk2,hn1.kept l2,by omega,by omega,fun H3 l3 hk3 hn3=>?_⟩
   dsimp only
   refine ⟨_,rfl,.ref t0,t,rfl,(hS0.kept l2.ls).kept l3,fun pb ys H4 s4 hpb hys=>⟨pb,rfl,⟨_,SqL.of hpb⟩,?_⟩⟩
   have hk4:KkAt H4 AA.c_KindLook o dx d2 (rowF t gs).2:=hk3.same s4
   have hn4:NmAt H4 d3 (rowF t gs).1 (n+(flats (ts.take i)).length+1):=hn3.kept (lkS s4)
   have l4:=(l1.trans l2.ls).trans (l3.trans s4.ls)
   have hyl:=hys.length
   rw [Qi] at hyl
   have hrl:=rowF_len t gs
   refine for_list (K:=K) (a:=pb) (xs:=ys) (fun j σ' H'=>LsS H4 H'/\(∃ x6,σ'=[some (.ref o),some (.ref l),some (.ref d3),some .non,some (.int 1),some (.ref t0),x6])/\KkAt H' AA.c_KindLook o dx d2 ((t.blocks.take j).foldl (fun gs b=>kfTs b gs) (rowF t gs)).2/\NmAt H' d3 ((t.blocks.take j).foldl (fun gs b=>kfTs b gs) (rowF t gs)).1 (n+(flats (ts.take i)).length+1+((t.blocks.take j).map flats).flatten.length)) ⟨LsS.refl _,⟨_,rfl⟩,by simpa using hk4,by simpa using hn4⟩ (fun j σ' H' _ h=>SqL.of (h.1.2 _ _ hpb)) ?_ ?_
   ·rintro j v σ' H5 hv ⟨l5,⟨x6',rfl⟩,hk5,hn5'⟩
    obtain ⟨pp,hpp,hPP⟩:=hys.get hv
    rw [Ql] at hpp
    obtain ⟨bs,hbs,rfl⟩:=Option.map_eq_some_iff.mp hpp
    have hbm:=Qs hbs
    obtain ⟨fb,rb,fbr⟩:=fl_take hbs
    have hPP:=hPP.kept l5
    cases hPP with
    | @b lb zs _ hlb hLb =>
    obtain ⟨d1,hi5⟩:=hk5.ins
    have hq5:=foldb_len (t.blocks.take j) (rowF t gs)
    have hn5:((t.blocks.take j).map flats).flatten.length+(flats bs).length+rb.length=(t.blocks.map flats).flatten.length:=by
     rw [fbr]
     simp only [QB]
     omega
    obtain ⟨hj',ej⟩:=Qh hbs
    rw [show (t.blocks.take (j+1)).foldl (fun gs b=>kfTs b gs) (rowF t gs)=kfTs bs ((t.blocks.take j).foldl (fun gs b=>kfTs b gs) (rowF t gs)) from (by rw [Qu hj',ej,List.foldl_append];rfl),fb]
    generalize (t.blocks.take j).foldl (fun gs b=>kfTs b gs) (rowF t gs)=q5 at hk5 hq5 hn5'
    have hpt:=blocks_mem hbm
    have hdm:=deeps_mem hm
    have hdb:=deep_part hpt
    refine ⟨_,rfl,o,dx,_,rfl,hi5,rfl,_,rfl,_,rfl,_,rfl,o,dx,d2,d3,lb,_,zs,bs,q5,rfl,hlb,hLb,by omega,(asc_part hta hpt).2,fun z hz=>hg z (hmf z ?_),hk5,hn5',by omega,by omega,fun H' ls hk' hn'=>⟨l5.trans ls,⟨_,rfl⟩,hk',hn'.mono (by simp;omega)⟩⟩
    rw [flat_b,fbr]
    simp [hz]
   ·rintro σ' H5 ⟨l5,⟨x6',rfl⟩,hk5,hn5'⟩
    rw [QA (by omega),<- kfT_b] at hk5 hn5'
    exact ⟨l4.trans l5,⟨_,_,_,rfl⟩,hk5,hn5'.mono (by simp;omega)⟩
  ·rintro σ' H1 ⟨l1,⟨x4,x5,x6,rfl⟩,hk1,hn1⟩
   rw [QA (by omega)] at hk1 hn1
   exact kq _ l1 hk1 hn1
theorem ok_kb0 (T:All P w K mg AA DD):FnOk P w K mg base CX0 20 AA.Zb DD.Zb ["self","statements","names","due"] (spKB AA.c_KindLook 0):=by
 have no:∀ vs H Q E,¬ spKB AA.c_KindLook 0 vs H Q E:=fun vs H Q E h=>by
  obtain ⟨o,dx,d2,d3,l,n,xs,ts,fs,_,_,_,z,_⟩:=h
  omega
 exact T.F_Zb.ok sc_Zb (fun vs H Q E h=>(no _ _ _ _ h).elim) (fun cdv A outer s H vs Q E hr h=>(no _ _ _ _ h).elim)
theorem ok_kb (T:All P w K mg AA DD):∀ k:Nat,FnOk P w K mg base CX0 (k+20) AA.Zb DD.Zb ["self","statements","names","due"] (spKB AA.c_KindLook k)
 | 0=>ok_kb0 T
 | k+1=>ok_kbS T k (ok_kb T k)
end
section
variable {P:Program} {w:World} {K:W.Frag} {mg:Str->Option Value} {base:Heap} {AA:Adr} {DD:Fds}
noncomputable def spNLi (C:Addr):Sp:=fun vs H Q _=>∃ (o dx l:Addr) (xs:List V) (ts:List Tr),vs=[.ref o,.ref l]/\H o=some (.ins C dx [])/\H l=some (.lst xs)/\LAt H true xs ts/\∀ d1 d2 H',LsS H H'->H' o=some (.ins C dx [("firsts",.ref d1),("faults",.ref d2)])->H' d2=some (.dT [])->Q .non H'
noncomputable abbrev N_Zk:List Str:=["self","tree"]
theorem sc_Zk:FnScope N_Zk ["self","tree"] (defScope st_Zk):=⟨rfl,rfl,rfl,by decide +kernel,rfl,by decide +kernel,by decide +kernel⟩
theorem ok_kli (T:All P w K mg AA DD):FnOk P w K mg base CX0 2 AA.Zk DD.Zk ["self","tree"] (spNLi AA.c_KindLook):=by
 have GA:=ok_fr (base:=base) T
 refine T.F_Zk.ok sc_Zk (fun vs H Q E h=>?_) (fun cdv A outer s H vs Q E hr h=>?_)
 ·obtain ⟨o,dx,l,xs,ts,rfl,_⟩:=h
  rfl
 ·obtain ⟨o,dx,l,xs,ts,rfl,ho,hl,hL,kq⟩:=h
  have nd:=sc_Zk.nd
  have hr1:Room 1 _:=hr
  refine ⟨_,(@pss_cons _ _ _ _ _ (ps_fld (pv 0) (pe_call GA hr1 rfl T.m_Zs T.k_Zs T.b_Zs .nil pass0 (@pa_cons _ _ _ _ _ (pv 1) pa_nil (by rfl))) rfl) (@pss_one _ _ _ (ps_fld (pv 0) (pe_dnewT) rfl))),?_⟩
  refine ⟨_,rfl,l,xs,ts,rfl,hl,hL,fun d1 H1 s1=>?_⟩
  have ho1:=s1 _ _ ho
  refine ⟨_,rfl,o,AA.c_KindLook,dx,_,rfl,ho1,T.cl_KindLook,T.na_KindLook_firsts,(by show 0<1000;decide),?_⟩
  refine fun d2 hd2=>?_
  have s3:=same_upd (o:=.dT []) hd2
  refine ⟨_,rfl,o,AA.c_KindLook,dx,_,rfl,s3 _ _ upd_same,T.cl_KindLook,T.na_KindLook_faults,(by show 1<1000;decide),?_⟩
  have b1:=ls_upd (ob':=.ins AA.c_KindLook dx [("firsts",.ref d1)]) ho1 (fun _ z=>nomatch z) (fun _ z=>nomatch z) fun _ _ z=>nomatch z
  have h3:=s3 _ _ (upd_same (H:=H1) (a:=o) (o:=.ins AA.c_KindLook dx [("firsts",.ref d1)]))
  have b2:=ls_upd (ob':=.ins AA.c_KindLook dx [("firsts",.ref d1),("faults",.ref d2)]) h3 (fun _ z=>nomatch z) (fun _ z=>nomatch z) fun _ _ z=>nomatch z
  refine kq d1 d2 _ (((s1.ls.trans b1).trans s3.ls).trans b2) upd_same ?_
  have hne:d2≠o:=fun z=>by rw [z,upd_same] at hd2;cases hd2
  rw [upd_ne hne,upd_same]
theorem addF_keys {fs:List (List Key)} {c k:List Key} (h:k∈addF fs c):k∈fs∨k=c:=by
 unfold addF at h
 split at h
 ·exact .inl h
 ·rcases Qt h with h | h
  ·exact .inl h
  ·exact .inr (by simpa using h)
theorem kfE_keys {ρ:Env} {r:Nat} {e:Ex} {fs:List (List Key)} {k:List Key} (h:k∈kfE ρ r e fs):k∈fs∨∃ r z,k=kk r z:=by
 rcases kfE_cases ρ r e fs with q | q<;>rw [q] at h
 ·exact .inl h
 ·rcases addF_keys h with h | h
  ·exact .inl h
  ·exact .inr ⟨_,_,h⟩
theorem lrF_keys {t:Tr} {o:Option Str} {ρ:Env} {fs:List (List Key)} {k:List Key} (h:k∈lrF t o ρ fs):k∈fs∨∃ r z,k=kk r z:=by
 have ad:∀ r z,k∈addF fs (kk r z)->k∈fs∨∃ r z,k=kk r z:=fun r z h=>(addF_keys h).imp_right fun q=>⟨_,_,q⟩
 unfold lrF at h
 split at h
 ·unfold setF at h
  split at h
  ·exact .inl h
  ·unfold askF at h
   split at h
   ·exact .inl h
   ·exact ad _ _ h
 ·exact .inl h
 ·unfold truF at h
  split at h
  ·exact .inl h
  ·exact ad _ _ h
theorem rowF_keys {t:Tr} {s:KSt} {k:List Key} (h:k∈(rowF t s).2):k∈s.2∨∃ r z,k=kk r z:=by
 rcases lrF_keys (show k∈lrF t (kdN s.1 t.ex) s.1 (kfE s.1 t.row t.ex s.2) from h) with h | h
 ·exact kfE_keys h
 ·exact .inr h
mutual
theorem kfT_keys:∀ (t:Tr) (fs:KSt) (k:List Key),k∈(kfT t fs).2->k∈fs.2∨∃ r z,k=kk r z
 | .set r n e,fs,k,h=>rowF_keys (t:=.set r n e) (by simpa [kfT] using h)
 | .tell r e,fs,k,h=>rowF_keys (t:=.tell r e) (by simpa [kfT] using h)
 | .iff r e b o,fs,k,h=>by
  rw [kfT] at h
  rcases kfTs_keys o _ k h with h | h
  ·rcases kfTs_keys b _ k h with h | h
   ·exact rowF_keys h
   ·exact .inr h
  ·exact .inr h
 | .whl r e b,fs,k,h=>by
  rw [kfT] at h
  rcases kfTs_keys b _ k h with h | h
  ·exact rowF_keys h
  ·exact .inr h
theorem kfTs_keys:∀ (ts:List Tr) (fs:KSt) (k:List Key),k∈(kfTs ts fs).2->k∈fs.2∨∃ r z,k=kk r z
 | [],fs,k,h=>.inl (by simpa [kfTs] using h)
 | t::ts,fs,k,h=>by
  rw [kfTs] at h
  rcases kfTs_keys ts _ k h with h | h
  ·exact kfT_keys t fs k h
  ·exact .inr h
end
noncomputable def env0:Env:=fun _=>none
noncomputable def fK (ts:List Tr):List (List Key):=(kfTs ts (env0,[])).2
theorem fK_kk {ts:List Tr} {k:List Key} (h:k∈fK ts):∃ r z,k=kk r z:=by
 rcases kfTs_keys ts (env0,[]) k h with z | q
 ·simp at z
 ·exact q
theorem fK_sh (ts:List Tr):∀ k∈fK ts,k.map isI=[true,false]:=fun k hk=>by
 obtain ⟨r,z,rfl⟩:=fK_kk hk
 rfl
noncomputable def KOk (ts:List Tr):Prop:=deeps ts<6/\ts.length<=20/\ascs ts/\(∀ x∈flats ts,GoodR x)/\2*(flats ts).length<800
noncomputable def spSK:Sp:=fun vs H Q _=>∃ (l:Addr) (xs:List V) (ts:List Tr),vs=[.ref l,.int 1]/\H l=some (.lst xs)/\LAt H true xs ts/\KOk ts/\(fK ts).length<64 /\
 ∀ p ys H',LsS H H'->H' p=some (.lst ys)->TupsAt H' ys ((srtK (fK ts)).map fun k=>.inl 1::k)->Q (.ref p) H'
noncomputable abbrev N_Zm:List Str:=["tree","mask","kept","look"]
theorem sc_Zm:FnScope N_Zm ["tree","mask"] (defScope st_Zm):=⟨rfl,rfl,rfl,by decide +kernel,rfl,by decide +kernel,by decide +kernel⟩
theorem ok_sk (T:All P w K mg AA DD):FnOk P w K mg base CX0 28 AA.Zm DD.Zm ["tree","mask"] spSK:=by
 have GF:=ok_kt (base:=base) T 6
 have GC:=ok_kli (base:=base) T
 have GY:=ok_kb (base:=base) T 6
 have GW:=ok_wm (base:=base) T
 refine T.F_Zm.ok sc_Zm (fun vs H Q E h=>?_) (fun cdv A outer s H vs Q E hr h=>?_)
 ·obtain ⟨l,xs,ts,rfl,_⟩:=h
  rfl
 ·obtain ⟨l,xs,ts,rfl,hl,hL,⟨hd,h20,ha,hg,hn⟩,h64,kq⟩:=h
  have nd:=sc_Zm.nd
  have hrB:Room 26 _:=hr.mono (by omega)
  have hrF:Room 17 _:=hr.mono (by omega)
  have hr3:Room 3 _:=hr.mono (by omega)
  have hr1:Room 1 _:=hr.mono (by omega)
  refine ⟨_,(@pss_cons _ _ _ _ _ (@ps_set _ _ 2 _ _ _ _ nd rfl (Or.inl rfl) (pe_call GF hrF rfl T.m_Zt T.k_Zt T.b_Zt .nil pass0 (@pa_cons _ _ _ _ _ (pv 0) (@pa_cons _ _ _ _ _ (pv 1) pa_nil (by rfl)) (by rfl))) (by rfl) (by first | exact .inl rfl | exact .inr rfl | assumption)) (@pss_cons _ _ _ _ _ (@ps_set _ _ 3 _ _ _ _ nd rfl (Or.inl rfl) (pe_make T.M_KindLook GC hr3 rfl T.m_KindLook T.b_Zk .nil pass0 (@pa_cons _ _ _ _ _ (pv 2) pa_nil (by rfl))) (by rfl) (by first | exact .inl rfl | exact .inr rfl | assumption)) (@pss_cons _ _ _ _ _ (@ps_expr _ _ _ _ (pe_meth (pv 3) T.cl_KindLook T.M_Zb GY hrB T.b_Zb .nil pass0 (@pa_cons _ _ _ _ _ (pv 2) (@pa_cons _ _ _ _ _ pe_dnewK (@pa_cons _ _ _ _ _ pe_non pa_nil (by rfl)) (by rfl)) (by rfl))) (by rfl)) (@pss_one _ _ _ (@ps_ret _ _ _ _ (pe_call GW hr1 rfl T.m_Zr T.k_Zr T.b_Zr .nil pass0 (@pa_cons _ _ _ _ _ (pe_fld (pv 3) rfl) pa_nil (by rfl)))))))),?_⟩
  refine ⟨_,rfl,_,rfl,l,xs,ts,rfl,hl,hL,hd,h20,ha,fun p ys H1 s1 hp hys=>?_⟩
  dsimp only [gName]
  refine ⟨_,rfl,fun o dx ho hdx ne=>?_⟩
  have s2:Same H1 (upd (upd H1 dx (.own o)) o (.ins AA.c_KindLook dx [])):=(same_upd (o:=.own o) hdx).trans (same_upd (by rw [upd_ne (Ne.symm ne)];exact ho))
  refine ⟨o,dx,p,ys,ts,rfl,upd_same,s2 _ _ hp,hys.kept s2.ls,fun d1 d2 H3 l3 hi3 hd2=>⟨rfl,?_⟩⟩
  have hp3:=l3.2 _ _ (s2 _ _ hp)
  have hL3:=(hys.kept s2.ls).kept l3
  dsimp only [gName]
  refine ⟨_,rfl,o,dx,_,rfl,hi3,rfl,_,rfl,fun g hg'=>?_⟩
  have s5:=same_upd (o:=.dK []) hg'
  refine ⟨o,dx,d2,g,p,0,ys,ts,(env0,[]),rfl,s5 _ _ hp3,hL3.kept s5.ls,hd,ha,hg,⟨⟨d1,s5 _ _ hi3⟩,s5 _ _ hd2⟩,⟨⟨[],upd_same,Qf _,fun z=>.inl ⟨rfl,rfl⟩⟩,fun z kd q=>by cases q⟩,by simpa using hn,by omega,fun H6 l6 hk6 _=>?_⟩
  obtain ⟨d1',hi6⟩:=hk6.ins
  refine ⟨_,rfl,o,AA.c_KindLook,dx,_,_,rfl,hi6,T.cl_KindLook,T.na_KindLook_faults,rfl,d2,fK ts,[true,false],rfl,hk6.flt,h64,fK_sh ts,by simp,by simp,fun q zs H7 s7 hq hT=>kq q zs H7 ?_ hq hT⟩
  exact ((((s1.trans s2).ls.trans l3).trans s5.ls).trans l6).trans s7.ls
noncomputable def noLs (H:Hp) (p:Addr):Prop:=(∀ xs,H p≠some (.lst xs))/\(∀ xs,H p≠some (.tup xs))/\∀ o x,H p≠some (.frz o x)
theorem noLs_of {H H':Hp} (l:LsS H H') {p:Addr} (h:H' p=none):noLs H p:=⟨fun xs z=>(by rw [l.2 _ _ z] at h;cases h),fun xs z=>(by rw [l.1 _ _ z] at h;cases h),fun o x z=>(by rw [l.z _ _ _ z] at h;cases h)⟩
noncomputable def spPK:Sp:=fun vs H Q _=>∃ (l:Addr) (xs:List V) (ts:List Tr),vs=[.ref l]/\H l=some (.lst xs)/\LAt H false xs ts/\KOk ts/\(fK ts).length<64 /\
 ∀ p ys H',LsS H H'->H' p=some (.lst ys)->TupsAt H' ys (srtK (fK ts))->noLs H p->Q (.ref p) H'
theorem srtK_mem {fs:List (List Key)} {k:List Key} (h:k∈srtK fs):k∈fs:=by
 obtain ⟨j,hj,e⟩:=QF h
 rw [<- e,Qe,Qb (srtI_lt j hj)]
 exact QC _
noncomputable abbrev N_Zo:List Str:=["tree"]
theorem sc_Zo:FnScope N_Zo ["tree"] (defScope st_Zo):=⟨rfl,rfl,rfl,by decide +kernel,rfl,by decide +kernel,by decide +kernel⟩
theorem ok_pk (T:All P w K mg AA DD):FnOk P w K mg base CX0 29 AA.Zo DD.Zo ["tree"] spPK:=by
 have GF:=ok_shof (base:=base) T 6
 have GS:=ok_sk (base:=base) T
 refine T.F_Zo.ok sc_Zo (fun vs H Q E h=>?_) (fun cdv A outer s H vs Q E hr h=>?_)
 ·obtain ⟨l,xs,ts,rfl,_⟩:=h
  rfl
 ·obtain ⟨l,xs,ts,rfl,hl,hL,hok,h64,kq⟩:=h
  have nd:=sc_Zo.nd
  have hrS:Room 28 _:=hr
  have hrF:Room 13 _:=hrS.mono (by omega)
  refine ⟨_,(@pss_one _ _ _ (@ps_ret _ _ _ _ (pe_comp2 (xs:=["mask","at","what"]) (defScope st_Zo) N_Zo [] [] rfl (by exact ⟨rfl,rfl,by decide +kernel,by decide +kernel,by decide +kernel,by decide +kernel,by decide +kernel,rfl,by decide +kernel⟩) rfl rfl (pi_list (pe_call GS hrS rfl T.m_Zm T.k_Zm T.b_Zm .nil pass0 (@pa_cons _ _ _ _ _ (pe_call GF hrF rfl T.m_Zu T.k_Zu T.b_Zu .nil pass0 (@pa_cons _ _ _ _ _ (pv 0) pa_nil (by rfl))) (@pa_cons _ _ _ _ _ pe_int pa_nil (by rfl)) (by rfl)))) (fun _ _ _ _=>(pg_tupK (K:=K) (n:=3) rfl rfl (pgs_cons (pg_name (i:=0) (show (["mask","at","what"]:List Str).Nodup by decide +kernel) rfl (Or.inl rfl)) (pgs_cons (pg_name (i:=1) (show (["mask","at","what"]:List Str).Nodup by decide +kernel) rfl (Or.inl rfl)) (pgs_cons (pg_name (i:=2) (show (["mask","at","what"]:List Str).Nodup by decide +kernel) rfl (Or.inl rfl)) pgs_nil))))) (fun _ _ _ _=>pif_nil) (fun _ _ _ _=>(@pe_tup _ _ _ _ _ (@pa_cons _ _ _ _ _ (pv 1) (@pa_cons _ _ _ _ _ (pv 2) pa_nil (by rfl)) (by rfl))))))),?_⟩
  refine ⟨_,rfl,l,xs,ts,rfl,hl,hL,hok.1,hok.2.1,hok.2.2.1,fun p ys H1 s1 hp hys=>?_⟩
  refine ⟨p,ys,ts,rfl,hp,hys,hok,h64,fun q zs H2 l2 hq hT=>?_⟩
  refine ⟨q,rfl,⟨_,SqL.of hq⟩,?_⟩
  have hzl:=hT.1
  rw [Qi] at hzl
  have hsl:(srtK (fK ts)).length<64:=by
   unfold srtK
   rw [Qi,srtI_len]
   exact h64
  refine comp2_list (K:=K) (a:=q) (xs:=zs) (fun i ys H'=>Same H2 H'/\i<=zs.length/\TupsAt H' ys ((srtK (fK ts)).take i)) ⟨Same.refl _,Qp _,by simp,fun j x d h=>by simp at h⟩ (fun i ys H' _ h=>SqL.of (h.1 _ _ hq)) ?_ ?_
  ·rintro i x us H3 hx ⟨sm,hi,hus⟩
   have hilt:=(Qh hx).1
   have hik:i<(srtK (fK ts)).length:=by omega
   obtain ⟨t,rfl,ht⟩:=hT.2 i x (.inl 1::(srtK (fK ts))[i]) hx (by rw [Ql,Qb hik];rfl)
   obtain ⟨r,z,ek⟩:=fK_kk (srtK_mem (QC hik))
   rw [ek] at ht
   have ht3:H3 t=some (.tup [.int 1,.int ((r:Nat):Int),.str z]):=sm _ _ ht
   have hul:=hus.1
   rw [Qv] at hul
   intro os hos
   obtain ⟨a,b,c,rfl⟩:∃ a b c,os=[a,b,c]:=by
    match os,hos with
    | [a,b,c],_=>exact ⟨a,b,c,rfl⟩
   refine ⟨t,_,rfl,SqT.of ht3,rfl,_,_,rfl,_,_,rfl,_,_,rfl,rfl,⟨[_,_,_],rfl,rfl⟩,?_⟩
   refine tYes_ok ?_
   rw [if_pos rfl]
   refine ⟨_,rfl,_,rfl,(by show 2<=sizeLine;decide),fun q2 hq2=>?_⟩
   have s3:=same_upd (o:=.tup [.int ((r:Nat):Int),.str z]) hq2
   refine ⟨small1000' (by omega),sm.trans s3,by omega,?_⟩
   rw [Qu hik,ek]
   refine ⟨by simp [hus.1],fun j y e hy he=>?_⟩
   by_cases hj:j<us.length
   ·rw [Qz hj] at hy
    rw [Qz (by rw [Qv];omega)] at he
    obtain ⟨t',a1,a2⟩:=hus.2 j y e hy he
    exact ⟨t',a1,s3 _ _ a2⟩
   ·rw [Qx (by omega)] at hy
    rw [Qx (by rw [Qv];omega),Qv,<- hul] at he
    have hj2:=(Qh hy).1
    have hj0:j-us.length=0:=by simpa using hj2
    rw [hj0] at hy he
    have y1:V.ref q2=y:=by simpa using hy
    have e1:kk r z=e:=by simpa using he
    exact ⟨q2,y1.symm,by rw [<- e1];exact upd_same⟩
  ·rintro us H3 ⟨sm,hi,hus⟩ q3 hq3
   have s3:=same_upd (o:=.lst us) hq3
   rw [QA (by omega)] at hus
   exact kq q3 us _ (((s1.ls.trans l2).trans sm.ls).trans s3.ls) upd_same ⟨hus.1,fun j x k a b=>by obtain ⟨t,e,h⟩:=hus.2 j x k a b;exact ⟨t,e,s3 _ _ h⟩⟩ (noLs_of ((s1.ls.trans l2).trans sm.ls) hq3)
end
theorem app_list (a b:Str):(a++b).cps.toList=a.cps.toList++b.cps.toList:=Array.toList_append ..
theorem app_len (a b:Str):(a++b).length=a.length+b.length:=Array.size_append ..
theorem one_len (c:Nat):(⟨#[c]⟩:Str).length=1:=rfl
theorem list_len (z:Str):z.cps.toList.length=z.length:=by simp [Str.length]
theorem modN {a:Int} {n:Nat} (h:0<n):∃ j:Nat,a % (n:Int)=(j:Int)/\j<n:=⟨(a % (n:Int)).toNat,by
 have:=Int.emod_nonneg a (show (n:Int)≠0 by omega)
 omega,by
 have:=Int.emod_nonneg a (show (n:Int)≠0 by omega)
 have:=Int.emod_lt_of_pos a (show (0:Int)<(n:Int) by omega)
 omega⟩
section
variable {P:Program} {w:World} {K:W.Frag} {mg:Str->Option Value} {base:Heap} {AA:Adr} {DD:Fds}
noncomputable def cellI (ns:List Int) (j:Nat):Int:=ns.getD j 0
noncomputable def spCellAt (K:W.Frag):Sp:=fun vs H Q _=>∃ (a:Addr) (ns:List Int) (j:Nat),vs=[.ref a,.int ((j:Nat):Int)]/\SqL K H a (ns.map V.int)/\Q (.int (cellI ns j)) H
noncomputable abbrev N_Zp:List Str:=["_law_script","_law_k"]
theorem sc_Zp:FnScope N_Zp ["_law_script","_law_k"] (defScope st_Zp):=⟨rfl,rfl,rfl,by decide +kernel,rfl,by decide +kernel,by decide +kernel⟩
theorem ok_cellat (T:All P w K mg AA DD):FnOk P w K mg base CX0 1 AA.Zp DD.Zp ["_law_script","_law_k"] (spCellAt K):=by
 refine T.F_Zp.ok sc_Zp (fun vs H Q E h=>?_) (fun cdv A outer s H vs Q E hr h=>?_)
 ·obtain ⟨a,ns,k,rfl,_⟩:=h
  rfl
 ·obtain ⟨a,ns,j,rfl,hS,k⟩:=h
  have nd:=sc_Zp.nd
  refine ⟨_,(@pss_cons _ _ _ _ _ (@ps_if _ _ _ _ _ _ _ _ (@pt_cmpR _ _ _ _ _ _ _ _ op_lt (pv 1) (pe_callB call_len_seq rfl T.n_len bt_len (@pa_cons _ _ _ _ _ (pv 0) pa_nil (by rfl))) (nomark _)) (@pss_one _ _ _ (@ps_ret _ _ _ _ (@pe_ix _ _ _ _ _ _ _ (ix_listK (K:=K) rfl) (pv 0) (pv 1) (fun _ _=>rfl)))) pss_nil) (@pss_one _ _ _ (@ps_ret _ _ _ _ pe_int))),?_⟩
  refine ⟨_,rfl,_,rfl,a,_,rfl,.inl hS,_,_,rfl,rfl,_,rfl,?_⟩
  rw [Qi]
  unfold cellI at k
  refine ite2 (fun h1=>?_) (fun h1=>?_)
  ·have h1:((j:Nat):Int)<(ns.length:Int):=of_decide_eq_true h1
   refine ⟨_,rfl,_,rfl,a,_,_,_,rfl,rfl,hS,atI_nat (j:=j) (by rw [Ql,Qb (by omega)];rfl),?_⟩
   rw [Qe,Qb (by omega)] at k
   exact k
  ·have h1:¬((j:Nat):Int)<(ns.length:Int):=fun z=>h1 (Qw z)
   rw [Qe,List.getElem?_eq_none (by omega)] at k
   exact k
noncomputable def mixI (c k:Int):Int:=((c+7919*k+1)*48271 % 2147483647)*((c+7919*k+1)*48271 % 2147483647 / 1009+69621) % 2147483647
theorem mixI_nn (c k:Int):0<=mixI c k:=Int.emod_nonneg _ (by decide)
noncomputable def spMixed:Sp:=fun vs H Q _=>∃ c k:Int,vs=[.int c,.int k]/\Q (.int (mixI c k)) H
noncomputable abbrev N_Zx:List Str:=["_law_cell","_law_k","_law_number"]
theorem sc_Zx:FnScope N_Zx ["_law_cell","_law_k"] (defScope st_Zx):=⟨rfl,rfl,rfl,by decide +kernel,rfl,by decide +kernel,by decide +kernel⟩
theorem ok_mixed (T:All P w K mg AA DD):FnOk P w K mg base CX0 1 AA.Zx DD.Zx ["_law_cell","_law_k"] spMixed:=by
 refine T.F_Zx.ok sc_Zx (fun vs H Q E h=>?_) (fun cdv A outer s H vs Q E hr h=>?_)
 ·obtain ⟨c,k,rfl,_⟩:=h
  rfl
 ·obtain ⟨c,j,rfl,k⟩:=h
  have nd:=sc_Zx.nd
  unfold mixI at k
  refine ⟨_,(@pss_cons _ _ _ _ _ (@ps_set _ _ 2 _ _ _ _ nd rfl (Or.inl rfl) (@pe_op _ _ _ _ _ _ _ _ op_mod (@pe_op _ _ _ _ _ _ _ _ op_mul (@pe_op _ _ _ _ _ _ _ _ op_add (@pe_op _ _ _ _ _ _ _ _ op_add (pv 0) (@pe_op _ _ _ _ _ _ _ _ op_mul pe_int (pv 1))) pe_int) pe_int) pe_int) (by rfl) (by first | exact .inl rfl | exact .inr rfl | assumption)) (@pss_one _ _ _ (@ps_ret _ _ _ _ (@pe_op _ _ _ _ _ _ _ _ op_mod (@pe_op _ _ _ _ _ _ _ _ op_mul (pv 2) (@pe_op _ _ _ _ _ _ _ _ op_add (@pe_op _ _ _ _ _ _ _ _ op_fdiv (pv 2) pe_int) pe_int)) pe_int)))),?_⟩
  refine ⟨_,rfl,_,rfl,_,_,rfl,rfl,.inl ⟨by decide,by decide⟩,_,_,rfl,rfl,_,_,rfl,rfl,_,_,rfl,rfl,.inr ⟨by decide,by decide⟩,_,_,rfl,rfl,(by show (0:Int)<2147483647;decide),?_⟩
  try dsimp only [gName]
  have b0:=Int.emod_nonneg ((c+7919*j+1)*48271) (show (2147483647:Int)≠0 by decide)
  have b1:=Int.emod_lt_of_pos ((c+7919*j+1)*48271) (show (0:Int)<2147483647 by decide)
  generalize (c+7919*j+1)*48271 % 2147483647=y at b0 b1 k ⊢
  exact ⟨_,rfl,_,rfl,_,_,rfl,rfl,⟨by decide,by decide⟩,_,_,rfl,rfl,_,_,rfl,rfl,.inl ⟨by omega,by omega⟩,_,_,rfl,rfl,(by show (0:Int)<2147483647;decide),k⟩
noncomputable abbrev wsg:Str:="xyzuvwpqabcdefghijklmnorst"
theorem wsg_len:wsg.length=26:=by decide +kernel
noncomputable def wQ (x:Int):Nat->Str
 | 0=>"q"
 | i+1=>wQ x i++⟨#[wsg.cps.toList.getD (x / (7+25*((i:Nat):Int)) % 26).toNat 0]⟩
theorem wQ_len (x:Int):∀ i,(wQ x i).length=i+1
 | 0=>by show ("q":Str).length=1;decide +kernel
 | i+1=>by
  show (wQ x i++_).length=i+1+1
  rw [app_len,one_len,wQ_len x i]
noncomputable def nmq (x:Int):Str:=wQ x (1+(x % 7).toNat)
theorem nmq_len (x:Int):2<=(nmq x).length/\(nmq x).length<=8:=by
 unfold nmq
 rw [wQ_len]
 have:=Int.emod_lt_of_pos x (show (0:Int)<7 by decide)
 have:=Int.emod_nonneg x (show (7:Int)≠0 by decide)
 omega
noncomputable def nmA (x:Int):Int:=1+x / 8 % (((nmq x).length:Nat)-1:Int)
noncomputable abbrev sg5:Str:="gkvzb"
noncomputable def nmO (x:Int) (i:Nat):Str:=cutS (nmq x) none (some (nmA x))++(⟨#[sg5.cps.toList.getD i 0]⟩:Str)++cutS (nmq x) (some (nmA x+1)) none
noncomputable def namesF (x:Int):List Str:=(List.range 5).map (nmO x)
noncomputable def spNames:Sp:=fun vs H Q _=>∃ x:Int,vs=[.int x]/\0<=x/\∀ p H',H p=none->Same H H'->H' p=some (.lst ((namesF x).map V.str))->Q (.ref p) H'
noncomputable abbrev N_Zy:List Str:=["_law_number","_law_some","_law_word","_law_k","_law_at"]
theorem sc_Zy:FnScope N_Zy ["_law_number"] (defScope st_Zy):=⟨rfl,rfl,rfl,by decide +kernel,rfl,by decide +kernel,by decide +kernel⟩
theorem ok_names (T:All P w K mg AA DD):FnOk P w K mg base CX0 1 AA.Zy DD.Zy ["_law_number"] spNames:=by
 refine T.F_Zy.ok sc_Zy (fun vs H Q E h=>?_) (fun cdv A outer s H vs Q E hr h=>?_)
 ·obtain ⟨x,rfl,_⟩:=h
  rfl
 ·obtain ⟨x,rfl,hx,k⟩:=h
  have nd:=sc_Zy.nd
  have hq:=nmq_len x
  refine ⟨_,(@pss_cons _ _ _ _ _ (@ps_set _ _ 1 _ _ _ _ nd rfl (Or.inl rfl) pe_str (by rfl) (by first | exact .inl rfl | exact .inr rfl | assumption)) (@pss_cons _ _ _ _ _ (@ps_set _ _ 2 _ _ _ _ nd rfl (Or.inr rfl) pe_str (by rfl) (by first | exact .inl rfl | exact .inr rfl | assumption)) (@pss_cons _ _ _ _ _ (@ps_for _ _ _ _ _ _ _ _ PassesOwn.never rfl (pi_range1 rfl T.n_range (@pa_cons _ _ _ _ _ (@pe_op _ _ _ _ _ _ _ _ op_add pe_int (@pe_op _ _ _ _ _ _ _ _ op_mod (pv 0) pe_int)) pa_nil (by rfl))) (pg_name (i:=3) nd rfl (Or.inl rfl)) (@pss_one _ _ _ (@ps_set _ _ 2 _ _ _ _ nd rfl (Or.inr rfl) (@pe_op _ _ _ _ _ _ _ _ op_add_str (pv 2) (@pe_ix _ _ _ _ _ _ _ ix_str (pv 1) (@pe_op _ _ _ _ _ _ _ _ op_mod (@pe_op _ _ _ _ _ _ _ _ op_fdiv (pv 0) (@pe_op _ _ _ _ _ _ _ _ op_add pe_int (@pe_op _ _ _ _ _ _ _ _ op_mul pe_int (pv 3)))) pe_int) (fun _ _=>rfl))) (by rfl) (by first | exact .inl rfl | exact .inr rfl | assumption))) (by intro _;rfl)) (@pss_cons _ _ _ _ _ (@ps_set _ _ 4 _ _ _ _ nd rfl (Or.inr rfl) (@pe_op _ _ _ _ _ _ _ _ op_add pe_int (@pe_op _ _ _ _ _ _ _ _ op_mod (@pe_op _ _ _ _ _ _ _ _ op_fdiv (pv 0) pe_int) (@pe_op _ _ _ _ _ _ _ _ op_sub (pe_callB call_len_str rfl T.n_len bt_len (@pa_cons _ _ _ _ _ (pv 2) pa_nil (by rfl))) pe_int))) (by rfl) (by first | exact .inl rfl | exact .inr rfl | assumption)) (@pss_one _ _ _ (@ps_ret _ _ _ _ (pe_comp (defScope st_Zy) N_Zy ["_law_word","_law_at"] [2,4] rfl (by exact ⟨rfl,rfl,by decide +kernel,rfl,by decide +kernel,by decide +kernel,by decide +kernel,rfl,by decide +kernel⟩) rfl rfl (pi_str pe_str) (fun _ _ _ _=>pif_nil) (fun _ _ _ _=>(@pe_op _ _ _ _ _ _ _ _ op_add_str (@pe_op _ _ _ _ _ _ _ _ op_add_str (pe_slice sl_str (pv 1) po_none (po_some (pv 2))) (pv 0)) (pe_slice sl_str (pv 1) (po_some (@pe_op _ _ _ _ _ _ _ _ op_add (pv 2) pe_int)) po_none)))))))))),?_⟩
  refine seq_c ?_
  try dsimp only [gName]
  refine seq_c ?_
  try dsimp only [gName]
  have hsz:wsg.length<=sizeLine:=by rw [wsg_len];decide
  have s9:∀ {n:Nat},n<=100->n<=sizeLine:=fun h=>Nat.le_of_lt (small1000 (by omega))
  obtain ⟨m,em,hm⟩:=modN (a:=x) (n:=7) (by decide)
  have em:x % 7=((m:Nat):Int):=em
  have ew:nmq x=wQ x (1+m):=by unfold nmq;rw [em,Int.toNat_natCast]
  refine cut_for (fun σ' H'=>H'=H/\∃ (x3:Option V),σ'=[some (.int x),some (.str wsg),some (.str (nmq x)),x3,none]) (fun R hR=>?_) ?_
  ·refine ⟨_,rfl,_,_,rfl,rfl,(by show (0:Int)<7;decide),_,_,rfl,rfl,_,rfl,?_,?_,?_⟩
   ·rw [em];omega
   ·rw [em];omega
   rw [em,show ((1:Int)+((m:Nat):Int)).toNat=1+m by omega]
   refine for_range (D:=⟨R,_,R,R⟩) (fun i σ' H'=>H'=H/\∃ (x3:Option V),σ'=[some (.int x),some (.str wsg),some (.str (wQ x i)),x3,none]) ⟨rfl,none,rfl⟩ ?_ ?_
   ·rintro i σ' H' hi ⟨rfl,x3,rfl⟩
    rw [Int.zero_add]
    obtain ⟨q,eq,hq⟩:=modN (a:=x / (7+25*((i:Nat):Int))) (n:=26) (by decide)
    have eq:x / (7+25*((i:Nat):Int)) % 26=((q:Nat):Int):=eq
    have hql:q<wsg.cps.toList.length:=by rw [list_len,wsg_len];exact hq
    refine ⟨_,rfl,_,rfl,_,rfl,_,rfl,_,_,rfl,rfl,.inl ⟨by decide,by decide⟩,_,_,rfl,rfl,_,_,rfl,rfl,⟨?_,?_⟩,_,_,rfl,rfl,(by show (0:Int)<26;decide),wsg,_,wsg.cps.toList[q],rfl,rfl,hsz,?_,_,_,rfl,rfl,?_,?_⟩
    ·show (0:Int)<7+25*((i:Nat):Int);omega
    ·show 7+25*((i:Nat):Int)<_;omega
    ·rw [eq];exact atI_nat (Qb hql)
    ·rw [one_len,wQ_len];exact Nat.le_of_lt (small1000 (by omega))
    ·refine ⟨rfl,some (.int ((i:Nat):Int)),?_⟩
     show _=[some (V.int x),some (V.str wsg),some (V.str (wQ x i++⟨#[wsg.cps.toList.getD (x / (7+25*((i:Nat):Int)) % 26).toNat 0]⟩)),_,_]
     rw [eq,Int.toNat_natCast,Qe,Qb hql]
     rfl
   ·rintro σ' H' ⟨rfl,x3,rfl⟩
    exact hR _ _ ⟨rfl,x3,by rw [ew]⟩
  rintro σ' H' ⟨rfl,x3,rfl⟩
  refine ⟨_,rfl,_,_,rfl,rfl,⟨by decide,by decide⟩,_,rfl,nmq x,rfl,s9 (by omega),_,_,rfl,rfl,_,_,rfl,rfl,(by show (0:Int)<((nmq x).length:Int)-1;omega),_,_,rfl,rfl,?_⟩
  dsimp only [gName]
  show tRet _ _ [some (.int x),some (.str wsg),some (.str (nmq x)),x3,some (.int (nmA x))] _
  refine ⟨sg5,rfl,by decide +kernel,?_⟩
  have hgl:sg5.length=5:=by decide +kernel
  rw [hgl]
  refine comp_N (fun i ys H1=>H1=H'/\i<=5/\ys=((List.range i).map (nmO x)).map V.str) ⟨rfl,by omega,rfl⟩ ?_ ?_
  ·rintro i ys H1 hi ⟨rfl,_,rfl⟩
   refine tYes_ok ?_
   rw [if_pos rfl]
   have l1:=cutS_len (nmq x) none (some (nmA x))
   have l2:=cutS_len (nmq x) (some (nmA x+1)) none
   refine ⟨_,rfl,_,rfl,nmA x,rfl,nmq x,rfl,s9 (by omega),_,rfl,_,_,rfl,rfl,s9 (by rw [one_len];omega),_,rfl,_,rfl,_,_,rfl,rfl,nmA x+1,rfl,nmq x,rfl,s9 (by omega),_,_,rfl,rfl,s9 (by rw [app_len,one_len];omega),?_⟩
   refine ⟨by rw [Qi,Qi,List.length_range];exact small1000 (by omega),rfl,by omega,?_⟩
   rw [List.range_succ,QI,QI]
   rfl
  ·rintro ys H1 ⟨rfl,_,rfl⟩ p hp
   exact k p _ hp (same_upd hp) upd_same
theorem names_len (x:Int):(namesF x).length=5:=by simp [namesF]
end
section
variable {P:Program} {w:World} {K:W.Frag} {mg:Str->Option Value} {base:Heap} {AA:Adr} {DD:Fds}
noncomputable def leafE (ns:List Str) (x:Int):Ex:=if (x % 12 % 3 == 0)=true/\ns≠[] then .name (ns.getD (x / 12 % ((ns.length:Nat):Int)).toNat "") else if (x % 12 % 3 == 1)=true then .truth ((["yes","no"]:List Str).getD (x / 12 % 2).toNat "") else .num (x / 12 % 1000000000000000000)
noncomputable def exF (ns:List Str):Nat->Int->Ex
 | 0,x=>leafE ns x
 | d+1,x=>if decide (x % 12<6)=true then leafE ns x else if (x % 12 == 6)=true then .not (exF ns d (mixI x 1)) else .op (ops7.getD (x / 12 % 7).toNat "") (exF ns d (mixI x 1)) (exF ns d (mixI x 2))
theorem two_get:∀ j,j<2->((["yes","no"]:List Str).map V.str)[j]?=some (.str ((["yes","no"]:List Str).getD j "")):=by
 intro j hj
 match j,hj with
 | 0,_=>rfl
 | 1,_=>rfl
theorem ops_get:∀ j,j<7->(ops7.map V.str)[j]?=some (.str (ops7.getD j ""))/\ops7.getD j ""∈ops7:=by
 intro j hj
 have hl:j<ops7.length:=hj
 rw [Ql,Qe,Qb hl]
 exact ⟨rfl,QC hl⟩
theorem shd_strs {zs:List Str} (h:∀ z∈zs,∀ c∈z.cps.toList,c<128):Shd 1 (.list (zs.map PyData.str)):=Shd.list fun d hd=>by
 obtain ⟨z,hz,rfl⟩:=QF hd
 exact Shd.str (h z hz)
theorem ne_nil_val (zs:List Str):(!(PyData.eqv (.list (zs.map PyData.str)) (.list [])))=decide (zs≠[]):=by
 cases zs with
 | nil=>rfl
 | cons a r=>simp [PyData.eqv,PyData.eqvAll]
noncomputable def knD (ks:List (Str × Str)):List (Key × V):=ks.map fun p=>(.inr p.1,.str p.2)
noncomputable def spEx (k:Nat):Sp:=fun vs H Q _=>∃ (x:Int) (a:Addr) (ks:List (Str × Str)) (d:Nat),vs=[.int x,.ref a,.int ((d:Nat):Int)]/\H a=some (.dK (knD ks))/\ks.length<=50/\(∀ z∈ks.map (·.1),∀ c∈z.cps.toList,c<128)/\d<k/\∀ v H',Same H H'->ExAt H' v (exF (ks.map (·.1)) d x)->Q v H'
noncomputable abbrev N_ZE:List Str:=["_law_number","_law_known","_law_deep","_law_form","_law_more","_law_names_here","_law_left","_law_word"]
theorem sc_ZE:FnScope N_ZE ["_law_number","_law_known","_law_deep"] (defScope st_ZE):=⟨rfl,rfl,rfl,by decide +kernel,rfl,by decide +kernel,by decide +kernel⟩
theorem ok_exS (T:All P w K mg AA DD) (k:Nat) (GE:FnOk P w K mg base CX0 (k+1) AA.ZE DD.ZE ["_law_number","_law_known","_law_deep"] (spEx k)) :
  FnOk P w K mg base CX0 (k+1+1) AA.ZE DD.ZE ["_law_number","_law_known","_law_deep"] (spEx (k+1)):=by
 have GX:=ok_mixed (base:=base) T
 refine T.F_ZE.ok sc_ZE (fun vs H Q E h=>?_) (fun cdv A outer s H vs Q E hr h=>?_)
 ·obtain ⟨x,a,ks,d,rfl,_⟩:=h
  rfl
 ·obtain ⟨x,a,ks,d,rfl,ha,hl,h128,hd,kq⟩:=h
  have nd:=sc_ZE.nd
  have hrE:Room (k+1) _:=hr
  have hr1:Room 1 _:=hrE.mono (by omega)
  have hu:=hr.units
  refine ⟨_,(@pss_cons _ _ _ _ _ (@ps_set _ _ 3 _ _ _ _ nd rfl (Or.inl rfl) (@pe_op _ _ _ _ _ _ _ _ op_mod (pv 0) pe_int) (by rfl) (by first | exact .inl rfl | exact .inr rfl | assumption)) (@pss_cons _ _ _ _ _ (@ps_set _ _ 4 _ _ _ _ nd rfl (Or.inl rfl) (@pe_op _ _ _ _ _ _ _ _ op_fdiv (pv 0) pe_int) (by rfl) (by first | exact .inl rfl | exact .inr rfl | assumption)) (@pss_cons _ _ _ _ _ (@ps_set _ _ 5 _ _ _ _ nd rfl (Or.inl rfl) (pe_callTy (call_listDK rfl) rfl T.n_list bt_list (@pa_cons _ _ _ _ _ (pv 1) pa_nil (by rfl))) (by rfl) (by first | exact .inl rfl | exact .inr rfl | assumption)) (@pss_cons _ _ _ _ _ (@ps_if _ _ _ _ _ _ _ _ (PW.pt (pw_or (@pt_cmpR _ _ _ _ _ _ _ _ op_eq (pv 2) pe_int (nomark _)) (pw_or1 (@pt_cmpR _ _ _ _ _ _ _ _ op_lt (pv 3) pe_int (nomark _))))) (@pss_cons _ _ _ _ _ (@ps_if _ _ _ _ _ _ _ _ (PW.pt (pw_and (@pt_cmpR _ _ _ _ _ _ _ _ op_eq (@pe_op _ _ _ _ _ _ _ _ op_mod (pv 3) pe_int) pe_int (nomark _)) (pw_and1 (@pt_cmpR _ _ _ _ _ _ _ _ (op_neD (K:=K) rfl hu) (pv 5) (@pe_lst _ _ _ _ pa_nil) (nomark _))))) (@pss_one _ _ _ (@ps_ret _ _ _ _ (@pe_tup _ _ _ _ _ (@pa_cons _ _ _ _ _ pe_str (@pa_cons _ _ _ _ _ (@pe_ix _ _ _ _ _ _ _ (ix_listK (K:=K) rfl) (pv 5) (@pe_op _ _ _ _ _ _ _ _ op_mod (pv 4) (pe_callB call_len_seq rfl T.n_len bt_len (@pa_cons _ _ _ _ _ (pv 5) pa_nil (by rfl)))) (fun _ _=>rfl)) pa_nil (by rfl)) (by rfl))))) pss_nil) (@pss_cons _ _ _ _ _ (@ps_if _ _ _ _ _ _ _ _ (@pt_cmpR _ _ _ _ _ _ _ _ op_eq (@pe_op _ _ _ _ _ _ _ _ op_mod (pv 3) pe_int) pe_int (nomark _)) (@pss_one _ _ _ (@ps_ret _ _ _ _ (@pe_tup _ _ _ _ _ (@pa_cons _ _ _ _ _ pe_str (@pa_cons _ _ _ _ _ (@pe_ix _ _ _ _ _ _ _ (ix_listK (K:=K) rfl) (@pe_lst _ _ _ _ (@pa_cons _ _ _ _ _ pe_str (@pa_cons _ _ _ _ _ pe_str pa_nil (by rfl)) (by rfl))) (@pe_op _ _ _ _ _ _ _ _ op_mod (pv 4) pe_int) (fun _ _=>rfl)) pa_nil (by rfl)) (by rfl))))) pss_nil) (@pss_one _ _ _ (@ps_ret _ _ _ _ (@pe_tup _ _ _ _ _ (@pa_cons _ _ _ _ _ pe_str (@pa_cons _ _ _ _ _ (@pe_op _ _ _ _ _ _ _ _ op_mod (pv 4) (@pe_op _ _ _ _ _ _ _ _ op_pow pe_int pe_int)) pa_nil (by rfl)) (by rfl))))))) pss_nil) (@pss_cons _ _ _ _ _ (@ps_set _ _ 6 _ _ _ _ nd rfl (Or.inl rfl) (pe_call GE hrE rfl T.m_ZE T.k_ZE T.b_ZE .nil pass0 (@pa_cons _ _ _ _ _ (pe_call GX hr1 rfl T.m_Zx T.k_Zx T.b_Zx .nil pass0 (@pa_cons _ _ _ _ _ (pv 0) (@pa_cons _ _ _ _ _ pe_int pa_nil (by rfl)) (by rfl))) (@pa_cons _ _ _ _ _ (pv 1) (@pa_cons _ _ _ _ _ (@pe_op _ _ _ _ _ _ _ _ op_sub (pv 2) pe_int) pa_nil (by rfl)) (by rfl)) (by rfl))) (by rfl) (by first | exact .inl rfl | exact .inr rfl | assumption)) (@pss_cons _ _ _ _ _ (@ps_if _ _ _ _ _ _ _ _ (@pt_cmpR _ _ _ _ _ _ _ _ op_eq (pv 3) pe_int (nomark _)) (@pss_one _ _ _ (@ps_ret _ _ _ _ (@pe_tup _ _ _ _ _ (@pa_cons _ _ _ _ _ pe_str (@pa_cons _ _ _ _ _ (pv 6) pa_nil (by rfl)) (by rfl))))) pss_nil) (@pss_cons _ _ _ _ _ (@ps_set _ _ 7 _ _ _ _ nd rfl (Or.inl rfl) (@pe_ix _ _ _ _ _ _ _ (ix_listK (K:=K) rfl) (@pe_lst _ _ _ _ (@pa_cons _ _ _ _ _ pe_str (@pa_cons _ _ _ _ _ pe_str (@pa_cons _ _ _ _ _ pe_str (@pa_cons _ _ _ _ _ pe_str (@pa_cons _ _ _ _ _ pe_str (@pa_cons _ _ _ _ _ pe_str (@pa_cons _ _ _ _ _ pe_str pa_nil (by rfl)) (by rfl)) (by rfl)) (by rfl)) (by rfl)) (by rfl)) (by rfl))) (@pe_op _ _ _ _ _ _ _ _ op_mod (pv 4) pe_int) (fun _ _=>rfl)) (by rfl) (by first | exact .inl rfl | exact .inr rfl | assumption)) (@pss_one _ _ _ (@ps_ret _ _ _ _ (@pe_tup _ _ _ _ _ (@pa_cons _ _ _ _ _ (pv 7) (@pa_cons _ _ _ _ _ (pv 6) (@pa_cons _ _ _ _ _ (pe_call GE hrE rfl T.m_ZE T.k_ZE T.b_ZE .nil pass0 (@pa_cons _ _ _ _ _ (pe_call GX hr1 rfl T.m_Zx T.k_Zx T.b_Zx .nil pass0 (@pa_cons _ _ _ _ _ (pv 0) (@pa_cons _ _ _ _ _ pe_int pa_nil (by rfl)) (by rfl))) (@pa_cons _ _ _ _ _ (pv 1) (@pa_cons _ _ _ _ _ (@pe_op _ _ _ _ _ _ _ _ op_sub (pv 2) pe_int) pa_nil (by rfl)) (by rfl)) (by rfl))) pa_nil (by rfl)) (by rfl)) (by rfl)))))))))))),?_⟩
  refine ⟨_,rfl,_,_,rfl,rfl,(by show (0:Int)<12;decide),?_⟩
  dsimp only [gName]
  refine ⟨_,rfl,_,_,rfl,rfl,⟨by decide,by decide⟩,?_⟩
  dsimp only [gName]
  refine ⟨_,rfl,a,knD ks,rfl,ha,fun l hl0=>?_⟩
  dsimp only [gName]
  have eks:(knD ks).map (fun kv=>kV kv.1)=(ks.map (·.1)).map V.str:=by
   unfold knD
   rw [List.map_map,List.map_map]
   rfl
  rw [eks]
  have s0:=same_upd (o:=.lst ((ks.map (·.1)).map V.str)) hl0
  have hL:upd H l (.lst ((ks.map (·.1)).map V.str)) l=some (.lst ((ks.map (·.1)).map V.str)):=upd_same
  have ha:=s0 _ _ ha
  have hnl:(ks.map (·.1)).length<=50:=by rw [Qi];exact hl
  generalize upd H l (.lst ((ks.map (·.1)).map V.str))=H1 at s0 hL ha ⊢
  have k128:=h128
  generalize hns:ks.map (·.1)=ns at hL hnl kq h128
  have h0s:Shd 1 (.list []):=Shd.list fun d hd=>nomatch hd
  cases d with
  | zero =>
   refine ⟨_,rfl,rfl,_,rfl,?_⟩
   refine iteTb rfl ?_
   refine iteT ?_
   unfold exF leafE at kq
   refine ⟨_,rfl,_,_,rfl,rfl,(by show (0:Int)<3;decide),rfl,_,rfl,?_⟩
   dsimp only
   rw [dec_int]
   refine ite2 (fun h1=>?_) (fun h1=>?_)
   ·refine ⟨_,rfl,Qp _,fun p0 hp0=>?_⟩
    have sp:=same_upd (o:=.lst []) hp0
    refine ⟨_,_,Rdv.strs (SqL.of (sp _ _ hL)),.lst (SqL.of upd_same) .nil,(shd_strs h128).ok (by decide),h0s.ok (by decide),_,rfl,?_⟩
    rw [ne_nil_val]
    have SS:=s0.trans sp
    have hL:=sp _ _ hL
    generalize upd H1 p0 (.lst [])=H2 at sp SS hL ⊢
    by_cases hn0:ns=[]
    ·refine iteFb (by simp [hn0]) ?_
     rw [if_neg (fun z=>z.2 hn0)] at kq
     refine ⟨_,rfl,_,_,rfl,rfl,(by show (0:Int)<3;decide),rfl,_,rfl,?_⟩
     dsimp only
     rw [dec_int]
     refine ite2 (fun h2=>?_) (fun h2=>?_)
     ·rw [if_pos h2] at kq
      obtain ⟨j,ej,hj⟩:=modN (a:=x / 12) (n:=2) (by decide)
      have ej:x / 12 % 2=((j:Nat):Int):=ej
      rw [ej,Int.toNat_natCast] at kq
      refine ⟨(by show 2<=sizeLine;decide),fun q hq=>?_⟩
      refine ⟨_,rfl,_,_,rfl,rfl,(by show (0:Int)<2;decide),q,_,_,.str ((["yes","no"]:List Str).getD j ""),rfl,rfl,SqL.of upd_same,?_,(by show 2<=sizeLine;decide),fun p hp=>?_⟩
      ·rw [ej];exact atI_nat (two_get j hj)
      exact kq _ _ (SS.trans ((same_upd hq).trans (same_upd hp))) (.truth upd_same)
     rw [if_neg h2] at kq
     refine ⟨_,rfl,_,_,rfl,rfl,⟨by decide,by decide⟩,_,_,rfl,rfl,(by show (0:Int)<10 ^ 18;decide),(by show 2<=sizeLine;decide),fun p hp=>?_⟩
     exact kq _ _ (SS.trans (same_upd hp)) (.num upd_same)
    ·refine iteTb (Qw hn0) ?_
     rw [if_pos ⟨h1,hn0⟩] at kq
     have hpos:0<ns.length:=List.length_pos_iff.mpr hn0
     have m0:=Int.emod_nonneg (x / 12) (show ((ns.length:Nat):Int)≠0 by omega)
     have m1:=Int.emod_lt_of_pos (x / 12) (show (0:Int)<((ns.length:Nat):Int) by omega)
     obtain ⟨j,ej⟩:∃ j:Nat,x / 12 % ((ns.length:Nat):Int)=((j:Nat):Int):=⟨(x / 12 % ((ns.length:Nat):Int)).toNat,by omega⟩
     have hj:j<ns.length:=by omega
     rw [ej,Int.toNat_natCast] at kq
     refine ⟨_,rfl,_,rfl,_,rfl,l,_,rfl,.inl (SqL.of hL),_,_,rfl,rfl,?_,l,_,_,.str (ns.getD j ""),rfl,rfl,SqL.of hL,?_,(by show 2<=sizeLine;decide),fun p hp=>?_⟩
     ·rw [Qi];show (0:Int)<((ns.length:Nat):Int);omega
     ·rw [Qi]
      show atI _ (x / 12 % ((ns.length:Nat):Int))=_
      rw [ej]
      exact atI_nat (by rw [Ql,Qe,Qb hj];rfl)
     exact kq _ _ (SS.trans (same_upd hp)) (.name upd_same)
   ·rw [if_neg (fun z=>h1 z.1)] at kq
    have SS:=s0
    refine ⟨_,rfl,_,_,rfl,rfl,(by show (0:Int)<3;decide),rfl,_,rfl,?_⟩
    dsimp only
    rw [dec_int]
    refine ite2 (fun h2=>?_) (fun h2=>?_)
    ·rw [if_pos h2] at kq
     obtain ⟨j,ej,hj⟩:=modN (a:=x / 12) (n:=2) (by decide)
     have ej:x / 12 % 2=((j:Nat):Int):=ej
     rw [ej,Int.toNat_natCast] at kq
     refine ⟨(by show 2<=sizeLine;decide),fun q hq=>?_⟩
     refine ⟨_,rfl,_,_,rfl,rfl,(by show (0:Int)<2;decide),q,_,_,.str ((["yes","no"]:List Str).getD j ""),rfl,rfl,SqL.of upd_same,?_,(by show 2<=sizeLine;decide),fun p hp=>?_⟩
     ·rw [ej];exact atI_nat (two_get j hj)
     exact kq _ _ (SS.trans ((same_upd hq).trans (same_upd hp))) (.truth upd_same)
    rw [if_neg h2] at kq
    refine ⟨_,rfl,_,_,rfl,rfl,⟨by decide,by decide⟩,_,_,rfl,rfl,(by show (0:Int)<10 ^ 18;decide),(by show 2<=sizeLine;decide),fun p hp=>?_⟩
    exact kq _ _ (SS.trans (same_upd hp)) (.num upd_same)
  | succ d =>
   refine ⟨_,rfl,rfl,_,rfl,?_⟩
   refine iteFb (Qj fun z=>by injection z;omega) ?_
   refine ⟨_,rfl,_,_,rfl,rfl,_,rfl,?_⟩
   unfold exF at kq
   refine ite2 (fun h0=>?_) (fun h0=>?_)
   ·rw [if_pos h0] at kq
    unfold leafE at kq
    refine ⟨_,rfl,_,_,rfl,rfl,(by show (0:Int)<3;decide),rfl,_,rfl,?_⟩
    dsimp only
    rw [dec_int]
    refine ite2 (fun h1=>?_) (fun h1=>?_)
    ·refine ⟨_,rfl,Qp _,fun p0 hp0=>?_⟩
     have sp:=same_upd (o:=.lst []) hp0
     refine ⟨_,_,Rdv.strs (SqL.of (sp _ _ hL)),.lst (SqL.of upd_same) .nil,(shd_strs h128).ok (by decide),h0s.ok (by decide),_,rfl,?_⟩
     rw [ne_nil_val]
     have SS:=s0.trans sp
     have hL:=sp _ _ hL
     generalize upd H1 p0 (.lst [])=H2 at sp SS hL ⊢
     by_cases hn0:ns=[]
     ·refine iteFb (by simp [hn0]) ?_
      rw [if_neg (fun z=>z.2 hn0)] at kq
      refine ⟨_,rfl,_,_,rfl,rfl,(by show (0:Int)<3;decide),rfl,_,rfl,?_⟩
      dsimp only
      rw [dec_int]
      refine ite2 (fun h2=>?_) (fun h2=>?_)
      ·rw [if_pos h2] at kq
       obtain ⟨j,ej,hj⟩:=modN (a:=x / 12) (n:=2) (by decide)
       have ej:x / 12 % 2=((j:Nat):Int):=ej
       rw [ej,Int.toNat_natCast] at kq
       refine ⟨(by show 2<=sizeLine;decide),fun q hq=>?_⟩
       refine ⟨_,rfl,_,_,rfl,rfl,(by show (0:Int)<2;decide),q,_,_,.str ((["yes","no"]:List Str).getD j ""),rfl,rfl,SqL.of upd_same,?_,(by show 2<=sizeLine;decide),fun p hp=>?_⟩
       ·rw [ej];exact atI_nat (two_get j hj)
       exact kq _ _ (SS.trans ((same_upd hq).trans (same_upd hp))) (.truth upd_same)
      rw [if_neg h2] at kq
      refine ⟨_,rfl,_,_,rfl,rfl,⟨by decide,by decide⟩,_,_,rfl,rfl,(by show (0:Int)<10 ^ 18;decide),(by show 2<=sizeLine;decide),fun p hp=>?_⟩
      exact kq _ _ (SS.trans (same_upd hp)) (.num upd_same)
     ·refine iteTb (Qw hn0) ?_
      rw [if_pos ⟨h1,hn0⟩] at kq
      have hpos:0<ns.length:=List.length_pos_iff.mpr hn0
      have m0:=Int.emod_nonneg (x / 12) (show ((ns.length:Nat):Int)≠0 by omega)
      have m1:=Int.emod_lt_of_pos (x / 12) (show (0:Int)<((ns.length:Nat):Int) by omega)
      obtain ⟨j,ej⟩:∃ j:Nat,x / 12 % ((ns.length:Nat):Int)=((j:Nat):Int):=⟨(x / 12 % ((ns.length:Nat):Int)).toNat,by omega⟩
      have hj:j<ns.length:=by omega
      rw [ej,Int.toNat_natCast] at kq
      refine ⟨_,rfl,_,rfl,_,rfl,l,_,rfl,.inl (SqL.of hL),_,_,rfl,rfl,?_,l,_,_,.str (ns.getD j ""),rfl,rfl,SqL.of hL,?_,(by show 2<=sizeLine;decide),fun p hp=>?_⟩
      ·rw [Qi];show (0:Int)<((ns.length:Nat):Int);omega
      ·rw [Qi]
       show atI _ (x / 12 % ((ns.length:Nat):Int))=_
       rw [ej]
       exact atI_nat (by rw [Ql,Qe,Qb hj];rfl)
      exact kq _ _ (SS.trans (same_upd hp)) (.name upd_same)
    ·rw [if_neg (fun z=>h1 z.1)] at kq
     have SS:=s0
     refine ⟨_,rfl,_,_,rfl,rfl,(by show (0:Int)<3;decide),rfl,_,rfl,?_⟩
     dsimp only
     rw [dec_int]
     refine ite2 (fun h2=>?_) (fun h2=>?_)
     ·rw [if_pos h2] at kq
      obtain ⟨j,ej,hj⟩:=modN (a:=x / 12) (n:=2) (by decide)
      have ej:x / 12 % 2=((j:Nat):Int):=ej
      rw [ej,Int.toNat_natCast] at kq
      refine ⟨(by show 2<=sizeLine;decide),fun q hq=>?_⟩
      refine ⟨_,rfl,_,_,rfl,rfl,(by show (0:Int)<2;decide),q,_,_,.str ((["yes","no"]:List Str).getD j ""),rfl,rfl,SqL.of upd_same,?_,(by show 2<=sizeLine;decide),fun p hp=>?_⟩
      ·rw [ej];exact atI_nat (two_get j hj)
      exact kq _ _ (SS.trans ((same_upd hq).trans (same_upd hp))) (.truth upd_same)
     rw [if_neg h2] at kq
     refine ⟨_,rfl,_,_,rfl,rfl,⟨by decide,by decide⟩,_,_,rfl,rfl,(by show (0:Int)<10 ^ 18;decide),(by show 2<=sizeLine;decide),fun p hp=>?_⟩
     exact kq _ _ (SS.trans (same_upd hp)) (.num upd_same)
   ·rw [if_neg h0] at kq
    have ed:(((d+1:Nat):Int)-1)=((d:Nat):Int):=by omega
    show tSeq _ _ _ _ _
    refine ⟨_,rfl,_,_,rfl,_,rfl,_,rfl,_,_,rfl,rfl,mixI x 1,a,ks,d,by rw [<- ed];rfl,ha,hl,k128,by omega,fun v H2 s2 hv=>?_⟩
    rw [hns] at hv
    dsimp only [gName]
    refine ⟨_,rfl,rfl,_,rfl,?_⟩
    dsimp only
    rw [dec_int]
    refine ite2 (fun h1=>?_) (fun h1=>?_)
    ·rw [if_pos h1] at kq
     refine ⟨_,rfl,(by show 2<=sizeLine;decide),fun p hp=>?_⟩
     exact kq _ _ ((s0.trans s2).trans (same_upd hp)) (.not upd_same (hv.kept (same_upd hp).ls.1))
    ·rw [if_neg h1] at kq
     show tSeq _ _ _ _ _
     obtain ⟨j,ej,hj⟩:=modN (a:=x / 12) (n:=7) (by decide)
     have ej:x / 12 % 7=((j:Nat):Int):=ej
     rw [ej,Int.toNat_natCast] at kq
     refine ⟨(by show 7<=sizeLine;decide),fun q hq=>?_⟩
     have s3:=same_upd (o:=.lst (ops7.map V.str)) hq
     refine ⟨_,rfl,_,_,rfl,rfl,(by show (0:Int)<7;decide),q,ops7.map V.str,_,.str (ops7.getD j ""),rfl,rfl,SqL.of upd_same,?_,?_⟩
     ·rw [ej];exact atI_nat (ops_get j hj).1
     dsimp only [gName]
     refine ⟨_,rfl,_,rfl,_,rfl,_,_,rfl,_,rfl,_,rfl,_,_,rfl,rfl,mixI x 2,a,ks,d,by rw [<- ed];rfl,s3 _ _ (s2 _ _ ha),hl,k128,by omega,fun u H4 s4 hu4=>⟨(by show 3<=sizeLine;decide),fun p hp=>?_⟩⟩
     rw [hns] at hu4
     exact kq _ _ ((((s0.trans s2).trans s3).trans s4).trans (same_upd hp)) (.op upd_same (hv.kept ((s3.trans s4).trans (same_upd hp)).ls.1) (hu4.kept (same_upd hp).ls.1))
theorem ok_ex0 (T:All P w K mg AA DD):FnOk P w K mg base CX0 1 AA.ZE DD.ZE ["_law_number","_law_known","_law_deep"] (spEx 0):=by
 have no:∀ vs H Q E,¬ spEx 0 vs H Q E:=fun vs H Q E h=>by
  obtain ⟨x,a,ns,d,_,_,_,_,z,_⟩:=h
  omega
 exact T.F_ZE.ok sc_ZE (fun vs H Q E h=>(no _ _ _ _ h).elim) (fun cdv A outer s H vs Q E hr h=>(no _ _ _ _ h).elim)
theorem ok_ex (T:All P w K mg AA DD):∀ k:Nat,FnOk P w K mg base CX0 (k+1) AA.ZE DD.ZE ["_law_number","_law_known","_law_deep"] (spEx k)
 | 0=>ok_ex0 T
 | k+1=>ok_exS T k (ok_ex T k)
end
section
variable {P:Program} {w:World} {K:W.Frag} {mg:Str->Option Value} {base:Heap} {AA:Adr} {DD:Fds}
noncomputable abbrev op3:List Str:=["+","-","*"]
noncomputable abbrev num5:List Str:=["+","-","*","less","same"]
noncomputable def partE (w:Str):Str:=if w∈num5 then "num" else "truth"
theorem or_leaf3 {c:Bool} {p q Z:Prop} (h:c=true∨(c=false/\(p->Z))) (hp:p):if c=true then (if true=true then p else q) else Z:=by
 rcases h with h | ⟨h,g⟩
 ·rw [h,if_pos rfl,if_pos rfl];exact hp
 ·rw [h,if_neg (by decide)];exact g hp
theorem mk_num:∀ p∈mk10,p.2=if p.1="num"∨p.1∈op3 then "num" else "truth":=by decide +kernel
theorem ak_num:∀ p∈ak8,p.2=partE p.1:=by decide +kernel
noncomputable def notN:Ex->Prop
 | .name _=>False
 | _=>True
theorem notN_ne {e:Ex} (h:notN e):∀ z,e≠.name z:=fun z q=>by rw [q] at h;exact h
theorem kd_lk {H:Hp} {v:V} {e:Ex} (h:ExAt H v e) (hp:e.plain) (hn:notN e):kdE e=if hdE e="num"∨hdE e∈op3 then "num" else "truth":=by
 obtain ⟨_,_,_,_,_,_,_,_,lm,_⟩:=kd_head h hp (notN_ne hn)
 exact mk_num _ (PySem.mem_of_lookup lm)
noncomputable def rhoK (ks:List (Str × Str)):Env:=fun z=>ks.lookup z
theorem val_kn (z:Str):∀ ks:List (Str × Str),valV (knD ks) (.inr z)=(rhoK ks z).map V.str
 | []=>rfl
 | p::ks=>by
  show valV ((.inr p.1,.str p.2)::knD ks) (.inr z)=((match z == p.1 with | true=>some p.2 | false=>ks.lookup z).map V.str)
  by_cases h:z=p.1
  ·subst h
   rw [valV_pos rfl,BEq.rfl];rfl
  ·rw [valV_neg (fun q=>h (Sum.inr.inj q).symm),show (z == p.1)=false from beq_eq_false_iff_ne.mpr h]
   exact val_kn z ks
noncomputable def kdZ (ks:List (Str × Str)) (e:Ex):Str:=(kdN (rhoK ks) e).getD ""
noncomputable def Knw (ks:List (Str × Str)) (e:Ex):Prop:=∀ z∈e.reads,(rhoK ks z).isSome=true
noncomputable def spLK:Sp:=fun vs H Q _=>∃ (v:V) (e:Ex) (a:Addr) (ks:List (Str × Str)),vs=[v,.ref a]/\ExAt H v e/\e.plain/\H a=some (.dK (knD ks))/\Knw ks e/\∀ H',Same H H'->Q (.str (kdZ ks e)) H'
noncomputable abbrev N_ZF:List Str:=["_law_e","_law_known"]
theorem sc_ZF:FnScope N_ZF ["_law_e","_law_known"] (defScope st_ZF):=⟨rfl,rfl,rfl,by decide +kernel,rfl,by decide +kernel,by decide +kernel⟩
theorem ok_lk (T:All P w K mg AA DD):FnOk P w K mg base CX0 1 AA.ZF DD.ZF ["_law_e","_law_known"] spLK:=by
 refine T.F_ZF.ok sc_ZF (fun vs H Q E h=>?_) (fun cdv A outer s H vs Q E hr h=>?_)
 ·obtain ⟨v,e,a,ks,rfl,_⟩:=h
  rfl
 ·obtain ⟨v,e,a,ks,rfl,hE,hp,ha,hkn,kq⟩:=h
  have nd:=sc_ZF.nd
  have hu:=QG (Nat.add_le_add_left (show 1<=64 by decide) _) hr.units
  refine ⟨_,(@pss_cons _ _ _ _ _ (@ps_if _ _ _ _ _ _ _ _ (@pt_cmpR _ _ _ _ _ _ _ _ op_eq (@pe_ix _ _ _ _ _ _ _ (ix_tupK (K:=K) rfl) (pv 0) pe_int (fun _ _=>rfl)) pe_str (nomark _)) (@pss_one _ _ _ (@ps_ret _ _ _ _ (pe_dget hu (pv 1) (@pe_ix _ _ _ _ _ _ _ (ix_tupK (K:=K) rfl) (pv 0) pe_int (fun _ _=>rfl)) (fun _ _=>rfl)))) pss_nil) (@pss_cons _ _ _ _ _ (@ps_if _ _ _ _ _ _ _ _ (PW.pt (pw_or (@pt_cmpR _ _ _ _ _ _ _ _ op_eq (@pe_ix _ _ _ _ _ _ _ (ix_tupK (K:=K) rfl) (pv 0) pe_int (fun _ _=>rfl)) pe_str (nomark _)) (pw_or1 (@pt_cmpR _ _ _ _ _ _ _ _ (op_in_seqK (K:=K) rfl) (@pe_ix _ _ _ _ _ _ _ (ix_tupK (K:=K) rfl) (pv 0) pe_int (fun _ _=>rfl)) (@pe_tup _ _ _ _ _ (@pa_cons _ _ _ _ _ pe_str (@pa_cons _ _ _ _ _ pe_str (@pa_cons _ _ _ _ _ pe_str pa_nil (by rfl)) (by rfl)) (by rfl))) rfl)))) (@pss_one _ _ _ (@ps_ret _ _ _ _ pe_str)) pss_nil) (@pss_one _ _ _ (@ps_ret _ _ _ _ pe_str)))),?_⟩
  by_cases hnm:∃ z,e=.name z
  ·obtain ⟨z,rfl⟩:=hnm
   cases hE with
   | name ht =>
    refine ⟨_,rfl,_,_,_,_,rfl,rfl,SqT.of ht,atI_nat (j:=0) rfl,rfl,_,rfl,?_⟩
    refine iteTb (Qw rfl) ?_
    obtain ⟨kd,hkd⟩:=Option.isSome_iff_exists.mp (hkn z (by simp [Ex.reads]))
    have hv:valV (knD ks) (.inr z)=some (.str kd):=by rw [val_kn,hkd];rfl
    refine ⟨_,rfl,_,rfl,_,_,_,_,rfl,rfl,SqT.of ht,atI_nat (j:=1) rfl,a,_,rfl,by rw [<- hv];exact DGet.k (k:=.inr z) ha,?_⟩
    have ez:kdZ ks (.name z)=kd:=by show (rhoK ks z).getD ""=kd;rw [hkd];rfl
    rw [ez] at kq
    exact kq _ (Same.refl _)
  ·have hn:notN e:=by cases e<;>first | trivial | exact (hnm ⟨_,rfl⟩).elim
   have ek:kdZ ks e=kdE e:=by unfold kdZ;rw [kdN_not (notN_ne hn)];rfl
   rw [ek,kd_lk hE hp hn] at kq
   obtain ⟨t,ys,rfl,ht,hne,_⟩:=kd_head hE hp (notN_ne hn)
   refine ⟨_,rfl,t,_,_,_,rfl,rfl,SqT.of ht,atI_nat (j:=0) rfl,rfl,_,rfl,?_⟩
   refine iteFb (Qj fun z=>hne (by injection z)) ?_
   refine ⟨_,rfl,t,_,_,_,rfl,rfl,SqT.of ht,atI_nat (j:=0) rfl,rfl,_,rfl,?_⟩
   by_cases h1:hdE e="num"
   ·refine iteTb (Qw (by rw [h1])) ?_
    rw [if_pos (.inl h1)] at kq
    exact iteT (kq _ (Same.refl _))
   ·refine iteFb (Qj fun z=>h1 (by injection z)) ?_
    refine ⟨_,rfl,t,_,_,_,rfl,rfl,SqT.of ht,atI_nat (j:=0) rfl,(by show 3<=sizeLine;decide),fun pt hpt=>⟨pt,op3.map V.str,rfl,.inr (SqT.of upd_same),rfl,rfl,_,rfl,?_⟩⟩
    by_cases h2:hdE e∈op3
    ·refine iteTb (in_strs (Qw h2)) ?_
     rw [if_pos (.inr h2)] at kq
     exact kq _ (same_upd hpt)
    ·refine iteFb (in_strs (Qj h2)) ?_
     rw [if_neg (fun z=>z.elim h1 h2)] at kq
     exact kq _ (same_upd hpt)
end
section
variable {P:Program} {w:World} {K:W.Frag} {mg:Str->Option Value} {base:Heap} {AA:Adr} {DD:Fds}
noncomputable def wrZ (ks:List (Str × Str)):Ex->Bool
 | .not e=>!decide (kdZ ks e=askE (.not e))||wrZ ks e
 | .op w a b=>(!decide (kdZ ks a=askE (.op w a b))||wrZ ks a)||(!decide (kdZ ks b=askE (.op w a b))||wrZ ks b)
 | _=>false
noncomputable def wrK (ks:List (Str × Str)) (due:Str) (c:Ex):Bool:=!decide (kdZ ks c=due)||wrZ ks c
theorem wrZ_kids (ks:List (Str × Str)) (e:Ex):wrZ ks e=e.kids.any (wrK ks (askE e)):=by
 cases e<;>simp [wrZ,Ex.kids,wrK]
theorem kids_reads {e c:Ex} {z:Str} (h:c∈e.kids) (hz:z∈c.reads):z∈e.reads:=by
 cases e<;>simp [Ex.kids,Ex.reads] at h ⊢
 ·rw [h] at hz;exact hz
 ·rcases h with rfl | rfl
  ·exact .inl hz
  ·exact .inr hz
noncomputable def hd3:Ex->Str
 | .name _=>"name"
 | e=>hdE e
theorem kd_kids3 {H:Hp} {v:V} {e:Ex} (h:ExAt H v e) (hp:e.plain):∃ (t:Addr) (ys:List V),v=.ref t/\H t=some (.tup (.str (hd3 e)::ys))/\(((hd3 e="num"∨hd3 e="truth"∨hd3 e="name")/\e.kids=[])∨(hd3 e≠"num"/\hd3 e≠"truth"/\hd3 e≠"name"/\ExsAt H ys e.kids/\askE e=partE (hd3 e))):=by
 have hops:∀ z∈ops7,z≠"num"/\z≠"truth"/\z≠"name":=by decide +kernel
 cases h with
 | num h=>exact ⟨_,_,rfl,h,.inl ⟨.inl rfl,rfl⟩⟩
 | truth h=>exact ⟨_,_,rfl,h,.inl ⟨.inr (.inl rfl),rfl⟩⟩
 | name h=>exact ⟨_,_,rfl,h,.inl ⟨.inr (.inr rfl),rfl⟩⟩
 | not h a =>
  obtain ⟨_,_,_,_,_,_,_,_,_,la⟩:=kd_head (.not h a) hp (fun z q=>by cases q)
  exact ⟨_,_,rfl,h,.inr ⟨by show ("not":Str)≠"num";decide,by show ("not":Str)≠"truth";decide,by show ("not":Str)≠"name";decide,.cons a .nil,ak_num _ (PySem.mem_of_lookup (la (by simp [Ex.kids])))⟩⟩
 | op h a b =>
  obtain ⟨_,_,_,_,_,_,_,_,_,la⟩:=kd_head (.op h a b) hp (fun z q=>by cases q)
  obtain ⟨z1,z2,z3⟩:=hops _ hp.1
  exact ⟨_,_,rfl,h,.inr ⟨z1,z2,z3,.cons a (.cons b .nil),ak_num _ (PySem.mem_of_lookup (la (by simp [Ex.kids])))⟩⟩
 | of h a=>exact hp.elim
 | many h l a=>exact hp.elim
noncomputable def spWr (k:Nat):Sp:=fun vs H Q _=>∃ (v:V) (e:Ex) (a:Addr) (ks:List (Str × Str)),vs=[v,.ref a]/\ExAt H v e/\e.plain/\H a=some (.dK (knD ks))/\Knw ks e/\e.deep<k/\∀ H',Same H H'->Q (.bl (wrZ ks e)) H'
noncomputable abbrev N_Zz:List Str:=["_law_e","_law_known","_law_due","_law_part"]
theorem sc_Zz:FnScope N_Zz ["_law_e","_law_known"] (defScope st_Zz):=⟨rfl,rfl,rfl,by decide +kernel,rfl,by decide +kernel,by decide +kernel⟩
theorem ok_wrS (T:All P w K mg AA DD) (k:Nat) (GWR:FnOk P w K mg base CX0 (k+1) AA.Zz DD.Zz ["_law_e","_law_known"] (spWr k)):FnOk P w K mg base CX0 (k+1+1) AA.Zz DD.Zz ["_law_e","_law_known"] (spWr (k+1)):=by
 have GKD:=ok_lk (base:=base) T
 refine T.F_Zz.ok sc_Zz (fun vs H Q E h=>?_) (fun cdv A outer s H vs Q E hr h=>?_)
 ·obtain ⟨v,e,a,ks,rfl,_⟩:=h
  rfl
 ·obtain ⟨v,e,a,ks,rfl,hE,hp,ha,hkn,hd,kq⟩:=h
  have nd:=sc_Zz.nd
  have hrW:Room (k+1) _:=hr
  have hr1:Room 1 _:=hrW.mono (by omega)
  refine ⟨_,(@pss_cons _ _ _ _ _ (@ps_if _ _ _ _ _ _ _ _ (PW.pt (pw_or (@pt_cmpR _ _ _ _ _ _ _ _ op_eq (@pe_ix _ _ _ _ _ _ _ (ix_tupK (K:=K) rfl) (pv 0) pe_int (fun _ _=>rfl)) pe_str (nomark _)) (pw_or (@pt_cmpR _ _ _ _ _ _ _ _ op_eq (@pe_ix _ _ _ _ _ _ _ (ix_tupK (K:=K) rfl) (pv 0) pe_int (fun _ _=>rfl)) pe_str (nomark _)) (pw_or1 (@pt_cmpR _ _ _ _ _ _ _ _ op_eq (@pe_ix _ _ _ _ _ _ _ (ix_tupK (K:=K) rfl) (pv 0) pe_int (fun _ _=>rfl)) pe_str (nomark _)))))) (@pss_one _ _ _ (@ps_ret _ _ _ _ pe_bl)) pss_nil) (@pss_cons _ _ _ _ _ (@ps_set _ _ 2 _ _ _ _ nd rfl (Or.inl rfl) pe_str (by rfl) (by first | exact .inl rfl | exact .inr rfl | assumption)) (@pss_cons _ _ _ _ _ (@ps_if _ _ _ _ _ _ _ _ (@pt_cmpR _ _ _ _ _ _ _ _ (op_in_seqK (K:=K) rfl) (@pe_ix _ _ _ _ _ _ _ (ix_tupK (K:=K) rfl) (pv 0) pe_int (fun _ _=>rfl)) (@pe_tup _ _ _ _ _ (@pa_cons _ _ _ _ _ pe_str (@pa_cons _ _ _ _ _ pe_str (@pa_cons _ _ _ _ _ pe_str (@pa_cons _ _ _ _ _ pe_str (@pa_cons _ _ _ _ _ pe_str pa_nil (by rfl)) (by rfl)) (by rfl)) (by rfl)) (by rfl))) rfl) (@pss_one _ _ _ (@ps_set _ _ 2 _ _ _ _ nd rfl (Or.inl rfl) pe_str (by rfl) (by first | exact .inl rfl | exact .inr rfl | assumption))) pss_nil) (@pss_cons _ _ _ _ _ (@ps_for _ _ _ _ _ _ _ _ PassesOwn.never rfl (pi_tup (pe_slice sl_tup (pv 0) (po_some pe_int) po_none)) (pg_name (i:=3) nd rfl (Or.inl rfl)) (@pss_one _ _ _ (@ps_if _ _ _ _ _ _ _ _ (PW.pt (pw_or (@pt_cmpR _ _ _ _ _ _ _ _ op_ne (pe_call GKD hr1 rfl T.m_ZF T.k_ZF T.b_ZF .nil pass0 (@pa_cons _ _ _ _ _ (pv 3) (@pa_cons _ _ _ _ _ (pv 1) pa_nil (by rfl)) (by rfl))) (pv 2) (nomark _)) (pw_or1 (pt_val (pe_call GWR hrW rfl T.m_Zz T.k_Zz T.b_Zz .nil pass0 (@pa_cons _ _ _ _ _ (pv 3) (@pa_cons _ _ _ _ _ (pv 1) pa_nil (by rfl)) (by rfl))))))) (@pss_one _ _ _ (@ps_ret _ _ _ _ pe_bl)) pss_nil)) (by intro _;rfl)) (@pss_one _ _ _ (@ps_ret _ _ _ _ pe_bl)))))),?_⟩
  obtain ⟨t,ys,rfl,ht,hc⟩:=kd_kids3 hE hp
  refine ⟨_,rfl,t,_,_,_,rfl,rfl,SqT.of ht,atI_nat (j:=0) rfl,rfl,_,rfl,?_⟩
  rcases hc with ⟨hz,hk⟩ | ⟨z1,z2,z3,hys,hask⟩
  ·have ew:wrZ ks e=false:=by rw [wrZ_kids,hk];rfl
   rw [ew] at kq
   by_cases h1:hd3 e="num"
   ·refine iteTb (Qw (by rw [h1])) ?_
    exact iteT (kq _ (Same.refl _))
   ·refine iteFb (Qj fun z=>h1 (by injection z)) ?_
    refine ⟨_,rfl,t,_,_,_,rfl,rfl,SqT.of ht,atI_nat (j:=0) rfl,rfl,_,rfl,?_⟩
    by_cases h2:hd3 e="truth"
    ·refine iteTb (Qw (by rw [h2])) ?_
     exact iteT (kq _ (Same.refl _))
    ·refine iteFb (Qj fun z=>h2 (by injection z)) ?_
     refine ⟨_,rfl,t,_,_,_,rfl,rfl,SqT.of ht,atI_nat (j:=0) rfl,rfl,_,rfl,?_⟩
     refine iteTb (Qw (by rw [(hz.resolve_left h1).resolve_left h2])) ?_
     exact kq _ (Same.refl _)
  ·refine iteFb (Qj fun z=>z1 (by injection z)) ?_
   refine ⟨_,rfl,t,_,_,_,rfl,rfl,SqT.of ht,atI_nat (j:=0) rfl,rfl,_,rfl,?_⟩
   refine iteFb (Qj fun z=>z2 (by injection z)) ?_
   refine ⟨_,rfl,t,_,_,_,rfl,rfl,SqT.of ht,atI_nat (j:=0) rfl,rfl,_,rfl,?_⟩
   refine iteFb (Qj fun z=>z3 (by injection z)) ?_
   dsimp only [tNext]
   refine seq_c ?_
   refine cut_if (fun σ' H'=>Same H H'/\∃ x2,σ'=[some (.ref t),some (.ref a),some (.str (askE e)),x2]) (fun R hR=>?_) ?_
   ·refine ⟨_,rfl,t,_,_,_,rfl,rfl,SqT.of ht,atI_nat (j:=0) rfl,(by show 5<=sizeLine;decide),fun pt hpt=>⟨pt,num5.map V.str,rfl,.inr (SqT.of upd_same),rfl,rfl,_,rfl,?_⟩⟩
    by_cases hm:hd3 e∈num5
    ·refine iteTb (in_strs (Qw hm)) ?_
     refine hR _ _ ⟨same_upd hpt,none,?_⟩
     rw [hask];unfold partE
     rw [if_pos hm];rfl
    ·refine iteFb (in_strs (Qj hm)) ?_
     refine hR _ _ ⟨same_upd hpt,none,?_⟩
     rw [hask];unfold partE
     rw [if_neg hm];rfl
   rintro σ' H1 ⟨s1,x2,rfl⟩
   have ht1:=s1 _ _ ht
   have hys1:=hys.kept s1.ls.1
   have hkl:=hys.len
   refine cut_for (fun σ' H'=>Same H H'/\wrZ ks e=false) (fun R hR=>?_) ?_
   ·refine ⟨_,rfl,_,rfl,t,_,rfl,SqT.of ht1,?_,fun q hq=>⟨q,rfl,⟨_,SqT.of upd_same⟩,?_⟩⟩
    ·rintro ⟨q,_⟩
     simp [HT.sIx] at q
    have s2:=same_upd (o:=.tup (cutV (.str (hd3 e)::ys) (some 1) none)) hq
    rw [cut_tail] at s2 ⊢
    refine for_tup (K:=K) (a:=q) (xs:=ys) (fun i σ' H'=>Same H H'/\Same H1 H'/\H' q=some (.tup ys)/\(e.kids.take i).any (wrK ks (askE e))=false/\∃ x2,σ'=[some (.ref t),some (.ref a),some (.str (askE e)),x2]) ⟨s1.trans s2,s2,upd_same,rfl,_,rfl⟩ (fun i σ' H' _ h=>SqT.of h.2.2.1) ?_ ?_
    ·rintro i x σ' H3 hx ⟨s3,s13,hq3,hno,x2,rfl⟩
     obtain ⟨c,hcc,hcx⟩:=hys1.get hx
     have hcm:=kids_ok hp c (Qs hcc)
     have hcn:Knw ks c:=fun z hz=>hkn z (kids_reads (Qs hcc) hz)
     have hcx3:=hcx.kept s13.ls.1
     obtain ⟨hil,eil⟩:=Qh hcc
     have etrue:wrK ks (askE e) c=true->wrZ ks e=true:=fun h=>by rw [wrZ_kids];exact List.any_eq_true.mpr ⟨c,Qs hcc,h⟩
     dsimp only [gName]
     refine ⟨_,rfl,_,rfl,x,c,a,ks,rfl,hcx3,hcm.1,s3 _ _ ha,hcn,fun H4 s4=>⟨_,rfl,rfl,_,rfl,?_⟩⟩
     by_cases hkd:kdZ ks c=askE e
     ·refine iteFb (by
       show (!decide (V.str (kdZ ks c)=V.str (askE e)))=false
       rw [Qw (by rw [hkd])];rfl) ?_
      refine ⟨_,rfl,_,rfl,x,c,a,ks,rfl,hcx3.kept s4.ls.1,hcm.1,s4 _ _ (s3 _ _ ha),hcn,by omega,fun H5 s5=>⟨_,rfl,?_⟩⟩
      cases hw:wrZ ks c with
      | true =>
       refine iteT ?_
       have ew:wrZ ks e=true:=etrue (by unfold wrK;rw [hw];simp)
       rw [ew] at kq
       exact kq _ ((s3.trans s4).trans s5)
      | false =>
       refine iteF ?_
       refine ⟨(s3.trans s4).trans s5,(s13.trans s4).trans s5,s5 _ _ (s4 _ _ hq3),?_,_,rfl⟩
       rw [Qu hil,eil,List.any_append,hno]
       simp [wrK,hkd,hw]
     ·refine iteTb (by
       show (!decide (V.str (kdZ ks c)=V.str (askE e)))=true
       rw [Qj (fun z=>hkd (by injection z))];rfl) ?_
      refine iteT ?_
      have ew:wrZ ks e=true:=etrue (by unfold wrK;rw [Qj hkd];rfl)
      rw [ew] at kq
      exact kq _ (s3.trans s4)
    ·rintro σ' H3 ⟨s3,s13,hq3,hno,x2,rfl⟩
     rw [QA (by omega),<- wrZ_kids] at hno
     exact hR _ _ ⟨s3,hno⟩
   ·rintro σ' H3 ⟨s3,hno⟩
    rw [hno] at kq
    exact kq _ s3
theorem ok_wr0 (T:All P w K mg AA DD):FnOk P w K mg base CX0 1 AA.Zz DD.Zz ["_law_e","_law_known"] (spWr 0):=by
 have no:∀ vs H Q E,¬ spWr 0 vs H Q E:=fun vs H Q E h=>by
  obtain ⟨v,e,a,ks,_,_,_,_,_,z,_⟩:=h
  omega
 exact T.F_Zz.ok sc_Zz (fun vs H Q E h=>(no _ _ _ _ h).elim) (fun cdv A outer s H vs Q E hr h=>(no _ _ _ _ h).elim)
theorem ok_wr (T:All P w K mg AA DD):∀ k:Nat,FnOk P w K mg base CX0 (k+1) AA.Zz DD.Zz ["_law_e","_law_known"] (spWr k)
 | 0=>ok_wr0 T
 | k+1=>ok_wrS T k (ok_wr T k)
end
section
variable {P:Program} {w:World} {K:W.Frag} {mg:Str->Option Value} {base:Heap} {AA:Adr} {DD:Fds}
inductive RwK where
 | set (z:Str) (e:Ex)
 | tell (e:Ex)
 | opn (f:Bool) (e:Ex)
 | no
noncomputable def eOf (ks:List (Str × Str)) (x:Int):Ex:=exF (ks.map (·.1)) (x / 9 % 4).toNat (mixI x 5)
noncomputable def rowR (ns:List Str) (ks:List (Str × Str)) (x:Int) (n:Nat):RwK :=
 if decide (x % 9<3)=true then .set (ns.getD (x / 36 % 5).toNat "") (eOf ks x)
 else if (x % 9 == 3)=true then .tell (eOf ks x)
 else if decide (x % 9<6)=true/\n<5 then .opn (x % 9 == 4) (eOf ks x)
 else .no
noncomputable def RwAt (H0 H:Hp) (at':Nat) (v:V):RwK->Prop
 | .set z e=>∃ t ve,v=.ref t/\H t=some (.tup [.str "set",.int ((at':Nat):Int),.str z,ve])/\ExAt H ve e
 | .tell e=>∃ t ve,v=.ref t/\H t=some (.tup [.str "tell",.int ((at':Nat):Int),ve])/\ExAt H ve e
 | .opn true e=>∃ t ve l o,v=.ref t/\H t=some (.tup [.str "if",.int ((at':Nat):Int),ve,.ref l,.ref o])/\ExAt H ve e/\H0 l=none/\H0 o=none/\H l=some (.lst [])/\H o=some (.lst [])/\l≠o
 | .opn false e=>∃ t ve l,v=.ref t/\H t=some (.tup [.str "while",.int ((at':Nat):Int),ve,.ref l])/\ExAt H ve e/\H0 l=none/\H l=some (.lst [])
 | .no=>v=.non
noncomputable def spRow:Sp:=fun vs H Q _=>∃ (x:Int) (at':Nat) (l a st:Addr) (ns:List Str) (ks:List (Str × Str)) (us:List V),vs=[.int x,.int ((at':Nat):Int),.ref l,.ref a,.ref st]/\H l=some (.lst (ns.map V.str))/\ns.length=5/\H a=some (.dK (knD ks))/\ks.length<=50/\(∀ z∈ks.map (·.1),∀ c∈z.cps.toList,c<128)/\H st=some (.lst us) /\
 ∀ v H',Same H H'->RwAt H H' at' v (rowR ns ks x us.length)->Q v H'
noncomputable abbrev N_ZI:List Str:=["_law_number","_law_at","_law_names_here","_law_known","_law_stack","_law_form","_law_e"]
theorem sc_ZI:FnScope N_ZI ["_law_number","_law_at","_law_names_here","_law_known","_law_stack"] (defScope st_ZI):=⟨rfl,rfl,rfl,by decide +kernel,rfl,by decide +kernel,by decide +kernel⟩
theorem ok_lrow (T:All P w K mg AA DD):FnOk P w K mg base CX0 6 AA.ZI DD.ZI ["_law_number","_law_at","_law_names_here","_law_known","_law_stack"] spRow:=by
 have GX:=ok_mixed (base:=base) T
 have GE:=ok_ex (base:=base) T 4
 refine T.F_ZI.ok sc_ZI (fun vs H Q E h=>?_) (fun cdv A outer s H vs Q E hr h=>?_)
 ·obtain ⟨x,at',l,a,st,ns,ks,us,rfl,_⟩:=h
  rfl
 ·obtain ⟨x,at',l,a,st,ns,ks,us,rfl,hl,hn5,ha,hkl,h128,hst,kq⟩:=h
  have nd:=sc_ZI.nd
  have hrE:Room 5 _:=hr
  have hr1:Room 1 _:=hrE.mono (by omega)
  refine ⟨_,(@pss_cons _ _ _ _ _ (@ps_set _ _ 5 _ _ _ _ nd rfl (Or.inl rfl) (@pe_op _ _ _ _ _ _ _ _ op_mod (pv 0) pe_int) (by rfl) (by first | exact .inl rfl | exact .inr rfl | assumption)) (@pss_cons _ _ _ _ _ (@ps_set _ _ 6 _ _ _ _ nd rfl (Or.inl rfl) (pe_call GE hrE rfl T.m_ZE T.k_ZE T.b_ZE .nil pass0 (@pa_cons _ _ _ _ _ (pe_call GX hr1 rfl T.m_Zx T.k_Zx T.b_Zx .nil pass0 (@pa_cons _ _ _ _ _ (pv 0) (@pa_cons _ _ _ _ _ pe_int pa_nil (by rfl)) (by rfl))) (@pa_cons _ _ _ _ _ (pv 3) (@pa_cons _ _ _ _ _ (@pe_op _ _ _ _ _ _ _ _ op_mod (@pe_op _ _ _ _ _ _ _ _ op_fdiv (pv 0) pe_int) pe_int) pa_nil (by rfl)) (by rfl)) (by rfl))) (by rfl) (by first | exact .inl rfl | exact .inr rfl | assumption)) (@pss_cons _ _ _ _ _ (@ps_if _ _ _ _ _ _ _ _ (@pt_cmpR _ _ _ _ _ _ _ _ op_lt (pv 5) pe_int (nomark _)) (@pss_one _ _ _ (@ps_ret _ _ _ _ (@pe_tup _ _ _ _ _ (@pa_cons _ _ _ _ _ pe_str (@pa_cons _ _ _ _ _ (pv 1) (@pa_cons _ _ _ _ _ (@pe_ix _ _ _ _ _ _ _ (ix_listK (K:=K) rfl) (pv 2) (@pe_op _ _ _ _ _ _ _ _ op_mod (@pe_op _ _ _ _ _ _ _ _ op_fdiv (pv 0) pe_int) pe_int) (fun _ _=>rfl)) (@pa_cons _ _ _ _ _ (pv 6) pa_nil (by rfl)) (by rfl)) (by rfl)) (by rfl))))) pss_nil) (@pss_cons _ _ _ _ _ (@ps_if _ _ _ _ _ _ _ _ (@pt_cmpR _ _ _ _ _ _ _ _ op_eq (pv 5) pe_int (nomark _)) (@pss_one _ _ _ (@ps_ret _ _ _ _ (@pe_tup _ _ _ _ _ (@pa_cons _ _ _ _ _ pe_str (@pa_cons _ _ _ _ _ (pv 1) (@pa_cons _ _ _ _ _ (pv 6) pa_nil (by rfl)) (by rfl)) (by rfl))))) pss_nil) (@pss_cons _ _ _ _ _ (@ps_if _ _ _ _ _ _ _ _ (PW.pt (pw_and (@pt_cmpR _ _ _ _ _ _ _ _ op_lt (pv 5) pe_int (nomark _)) (pw_and1 (@pt_cmpR _ _ _ _ _ _ _ _ op_lt (pe_callB call_len_seq rfl T.n_len bt_len (@pa_cons _ _ _ _ _ (pv 4) pa_nil (by rfl))) pe_int (nomark _))))) (@pss_one _ _ _ (@ps_ret _ _ _ _ (pe_slice sl_tupA (@pe_tup _ _ _ _ _ (@pa_cons _ _ _ _ _ (@pe_ix _ _ _ _ _ _ _ (ix_listK (K:=K) rfl) (@pe_lst _ _ _ _ (@pa_cons _ _ _ _ _ pe_str (@pa_cons _ _ _ _ _ pe_str pa_nil (by rfl)) (by rfl))) (@pe_op _ _ _ _ _ _ _ _ op_mod (pv 5) pe_int) (fun _ _=>rfl)) (@pa_cons _ _ _ _ _ (pv 1) (@pa_cons _ _ _ _ _ (pv 6) (@pa_cons _ _ _ _ _ (@pe_lst _ _ _ _ pa_nil) (@pa_cons _ _ _ _ _ (@pe_lst _ _ _ _ pa_nil) pa_nil (by rfl)) (by rfl)) (by rfl)) (by rfl)) (by rfl))) po_none (po_some (@pe_op _ _ _ _ _ _ _ _ op_add pe_int (@pe_op _ _ _ _ _ _ _ _ op_mod (@pe_op _ _ _ _ _ _ _ _ op_add (pv 5) pe_int) pe_int)))))) pss_nil) (@pss_one _ _ _ (@ps_ret _ _ _ _ pe_non))))))),?_⟩
  refine ⟨_,rfl,_,_,rfl,rfl,(by show (0:Int)<9;decide),?_⟩
  dsimp only [gName]
  obtain ⟨dp,edp,hdp⟩:=modN (a:=x / 9) (n:=4) (by decide)
  have edp:x / 9 % 4=((dp:Nat):Int):=edp
  have ee:eOf ks x=exF (ks.map (·.1)) dp (mixI x 5):=by unfold eOf;rw [edp,Int.toNat_natCast]
  refine ⟨_,rfl,_,_,rfl,_,rfl,_,rfl,_,_,rfl,rfl,⟨by decide,by decide⟩,_,_,rfl,rfl,(by show (0:Int)<4;decide),mixI x 5,a,ks,dp,by rw [<- edp];rfl,ha,hkl,h128,hdp,fun ve H1 s1 hE=>?_⟩
  rw [<- ee] at hE
  dsimp only [gName]
  have hl1:=s1 _ _ hl
  have hst1:=s1 _ _ hst
  unfold rowR at kq
  refine ⟨_,rfl,_,_,rfl,rfl,_,rfl,?_⟩
  refine ite2 (fun h1=>?_) (fun h1=>?_)
  ·rw [if_pos h1] at kq
   obtain ⟨j,ej,hj⟩:=modN (a:=x / 36) (n:=5) (by decide)
   have ej:x / 36 % 5=((j:Nat):Int):=ej
   rw [ej,Int.toNat_natCast] at kq
   refine ⟨_,rfl,_,rfl,_,rfl,_,_,rfl,rfl,⟨by decide,by decide⟩,_,_,rfl,rfl,(by show (0:Int)<5;decide),l,_,_,.str (ns.getD j ""),rfl,rfl,SqL.of hl1,?_,_,rfl,(by show 4<=sizeLine;decide),fun t ht=>?_⟩
   ·rw [ej]
    exact atI_nat (by rw [Ql,Qe,Qb (by omega)];rfl)
   have s2:=same_upd (o:=.tup [.str "set",.int ((at':Nat):Int),.str (ns.getD j ""),ve]) ht
   exact kq _ _ (s1.trans s2) ⟨t,ve,rfl,upd_same,hE.kept s2.ls.1⟩
  rw [if_neg h1] at kq
  refine ⟨_,rfl,rfl,_,rfl,?_⟩
  dsimp only
  rw [dec_int]
  refine ite2 (fun h2=>?_) (fun h2=>?_)
  ·rw [if_pos h2] at kq
   refine ⟨_,rfl,_,rfl,(by show 3<=sizeLine;decide),fun t ht=>?_⟩
   have s2:=same_upd (o:=.tup [.str "tell",.int ((at':Nat):Int),ve]) ht
   exact kq _ _ (s1.trans s2) ⟨t,ve,rfl,upd_same,hE.kept s2.ls.1⟩
  rw [if_neg h2] at kq
  refine ⟨_,rfl,_,_,rfl,rfl,_,rfl,?_⟩
  refine ite2 (fun h3=>?_) (fun h3=>?_)
  ·refine ⟨_,rfl,st,_,rfl,.inl (SqL.of hst1),_,_,rfl,rfl,_,rfl,?_⟩
   by_cases h4:us.length<5
   ·refine iteTb (Qw (by omega)) ?_
    rw [if_pos ⟨h3,h4⟩] at kq
    have d1:¬ x % 9<3:=fun z=>h1 (Qw z)
    have d2:¬ x % 9=3:=fun z=>h2 (by rw [z];rfl)
    have d3:x % 9<6:=of_decide_eq_true h3
    have d4:x % 9=4∨x % 9=5:=by omega
    refine ⟨(by show 2<=sizeLine;decide),fun q hq=>?_⟩
    have sq:=same_upd (o:=.lst [.str "if",.str "while"]) hq
    rcases d4 with d4 | d4
    ·have e4:(x % 9 == 4)=true:=by rw [d4];rfl
     rw [e4] at kq
     refine ⟨_,rfl,_,_,rfl,rfl,(by show (0:Int)<2;decide),q,_,_,.str "if",rfl,rfl,SqL.of upd_same,(by show atI _ (x % 9 % 2)=_;rw [d4];exact atI_nat (j:=0) rfl),?_⟩
     refine ⟨_,rfl,_,rfl,Qp _,fun l2 hl2=>⟨Qp _,fun o2 ho2=>⟨(by show 5<=sizeLine;decide),fun t ht=>?_⟩⟩⟩
     have sl:=same_upd (o:=.lst []) hl2
     have so:=same_upd (o:=.lst []) ho2
     have st5:=same_upd (o:=.tup [.str "if",.int ((at':Nat):Int),ve,.ref l2,.ref o2]) ht
     have sA:=((sq.trans sl).trans so).trans st5
     have nl:H l2=none:=s1.free (sq.free hl2)
     have no:H o2=none:=s1.free (sq.free (sl.free ho2))
     have lo:l2≠o2:=some_ne (H:=upd (upd H1 q (.lst [.str "if",.str "while"])) l2 (.lst [])) upd_same ho2
     refine ⟨_,rfl,_,_,rfl,rfl,_,_,rfl,rfl,(by show (0:Int)<2;decide),_,_,rfl,rfl,_,rfl,.inr ⟨t,_,rfl,SqT.of upd_same,rfl,(by show HT.sIx 5 5 (some (4+(x % 9+1) % 2))=5;rw [d4];decide),?_⟩⟩
     exact kq _ _ (s1.trans sA) ⟨t,ve,l2,o2,rfl,upd_same,hE.kept sA.ls.1,nl,no,st5 _ _ (so _ _ upd_same),st5 _ _ upd_same,lo⟩
    ·have e4:(x % 9 == 4)=false:=by rw [d4];rfl
     rw [e4] at kq
     refine ⟨_,rfl,_,_,rfl,rfl,(by show (0:Int)<2;decide),q,_,_,.str "while",rfl,rfl,SqL.of upd_same,(by show atI _ (x % 9 % 2)=_;rw [d4];exact atI_nat (j:=1) rfl),?_⟩
     refine ⟨_,rfl,_,rfl,Qp _,fun l2 hl2=>⟨Qp _,fun o2 ho2=>⟨(by show 5<=sizeLine;decide),fun t ht=>?_⟩⟩⟩
     have sl:=same_upd (o:=.lst []) hl2
     have so:=same_upd (o:=.lst []) ho2
     have st5:=same_upd (o:=.tup [.str "while",.int ((at':Nat):Int),ve,.ref l2,.ref o2]) ht
     have sA:=((sq.trans sl).trans so).trans st5
     have nl:H l2=none:=s1.free (sq.free hl2)
     have no:H o2=none:=s1.free (sq.free (sl.free ho2))
     have lo:l2≠o2:=some_ne (H:=upd (upd H1 q (.lst [.str "if",.str "while"])) l2 (.lst [])) upd_same ho2
     refine ⟨_,rfl,_,_,rfl,rfl,_,_,rfl,rfl,(by show (0:Int)<2;decide),_,_,rfl,rfl,_,rfl,.inl ⟨t,_,rfl,SqT.of upd_same,(by rintro ⟨_,z⟩;have z:HT.sIx 5 5 (some (4+(x % 9+1) % 2))=5:=z;rw [d4] at z;revert z;decide),fun p hp=>?_⟩⟩
     have ec:cutV [.str "while",.int ((at':Nat):Int),ve,.ref l2,.ref o2] none (some (4+(x % 9+1) % 2))=[.str "while",.int ((at':Nat):Int),ve,.ref l2]:=by rw [d4];rfl
     have sp:=same_upd (o:=.tup (cutV [.str "while",.int ((at':Nat):Int),ve,.ref l2,.ref o2] none (some (4+(x % 9+1) % 2)))) hp
     refine kq _ _ ((s1.trans sA).trans sp) ⟨p,ve,l2,rfl,?_,hE.kept (sA.trans sp).ls.1,nl,sp _ _ (st5 _ _ (so _ _ upd_same))⟩
     rw [<- ec]
     exact upd_same
   ·refine iteFb (Qj (by omega)) ?_
    rw [if_neg (fun z=>h4 z.2)] at kq
    exact kq _ _ s1 rfl
  ·rw [if_neg (fun z=>h3 z.1)] at kq
   exact kq _ _ s1 rfl
end
section
variable {P:Program} {w:World} {K:W.Frag} {mg:Str->Option Value} {base:Heap} {AA:Adr} {DD:Fds}
noncomputable def Ch2 (pa pd:Addr) (H H':Hp):Prop:=∀ b o,b≠pa->b≠pd->H b=some o->H' b=some o
structure NS (H:Hp) (pa pd:Addr) (ks:List (Str × Str)) (ds:List (List Key)):Prop where
 kn:H pa=some (.dK (knD ks))
 du:∃ xs,H pd=some (.lst xs)/\TupsAt H xs ds
theorem Ch2.trans {pa pd:Addr} {H H1 H2:Hp} (a:Ch2 pa pd H H1) (b:Ch2 pa pd H1 H2):Ch2 pa pd H H2:=fun c o x y h=>b c o x y (a c o x y h)
theorem Ch2.of {pa pd:Addr} {H H':Hp} (s:Same H H'):Ch2 pa pd H H':=fun _ _ _ _ h=>s _ _ h
theorem Ch2.tup {pa pd:Addr} {H H':Hp} {ks:List (Str × Str)} {ds:List (List Key)} (c:Ch2 pa pd H H') (n:NS H pa pd ks ds):TupS H H':=fun b xs h=>c b _ (fun z=>by rw [z,n.kn] at h;cases h) (fun z=>by obtain ⟨ys,e,_⟩:=n.du;rw [z,e] at h;cases h) h
theorem tups_k {H H':Hp} {xs:List V} {ds:List (List Key)} (s:TupS H H') (h:TupsAt H xs ds):TupsAt H' xs ds:=⟨h.1,fun i x d a b=>by obtain ⟨t,e,q⟩:=h.2 i x d a b;exact ⟨t,e,s _ _ q⟩⟩
theorem NS.same {H H':Hp} {pa pd:Addr} {ks:List (Str × Str)} {ds:List (List Key)} (n:NS H pa pd ks ds) (s:Same H H'):NS H' pa pd ks ds:=by
 obtain ⟨xs,e,t⟩:=n.du
 exact ⟨s _ _ n.kn,xs,s _ _ e,tups_k s.ls.1 t⟩
theorem NS.more {H:Hp} {pa pd:Addr} {ks:List (Str × Str)} {ds:List (List Key)} {xs:List V} {t:Addr} {d:List Key} (n:NS H pa pd ks ds) (hx:H pd=some (.lst xs)) (ht:H t=some (.tup (d.map kV))) (hp:pa≠pd):NS (upd H pd (.lst (xs++[.ref t]))) pa pd ks (ds++[d])/\Ch2 pa pd H (upd H pd (.lst (xs++[.ref t]))):=by
 obtain ⟨ys,e,T⟩:=n.du
 rw [hx] at e
 cases e
 have ts:TupS H (upd H pd (.lst (xs++[.ref t]))):=fun b zs h=>by
  rw [upd_ne fun z=>by rw [z,hx] at h;cases h]
  exact h
 refine ⟨⟨by rw [upd_ne hp];exact n.kn,_,upd_same,?_⟩,fun b o _ h1 h=>by rw [upd_ne h1];exact h⟩
 have T':=tups_k ts T
 refine ⟨by simp [T.1],fun j y e hy he=>?_⟩
 by_cases hj:j<xs.length
 ·rw [Qz hj] at hy
  rw [Qz (by rw [<- T.1];exact hj)] at he
  exact T'.2 j y e hy he
 ·rw [Qx (by omega)] at hy
  rw [Qx (by rw [<- T.1];omega),<- T.1] at he
  have hj2:=(Qh hy).1
  have hj0:j-xs.length=0:=by simpa using hj2
  rw [hj0] at hy he
  have y1:V.ref t=y:=by simpa using hy
  have e1:d=e:=by simpa using he
  exact ⟨t,y1.symm,by rw [<- e1];exact ts _ _ ht⟩
theorem NS.know {H:Hp} {pa pd:Addr} {ks:List (Str × Str)} {ds:List (List Key)} {z k:Str} (n:NS H pa pd ks ds) (hz:rhoK ks z=none) (hp:pa≠pd):NS (upd H pa (.dK (putK (knD ks) (.inr z) (.str k)))) pa pd (ks++[(z,k)]) ds/\Ch2 pa pd H (upd H pa (.dK (putK (knD ks) (.inr z) (.str k)))):=by
 have hv:valV (knD ks) (.inr z)=none:=by rw [val_kn,hz];rfl
 have ep:putK (knD ks) (.inr z) (.str k)=knD (ks++[(z,k)]):=by
  unfold putK
  rw [if_neg (by rw [valV_any,hv];simp)]
  unfold knD
  rw [QI]
  rfl
 obtain ⟨xs,e,T⟩:=n.du
 refine ⟨⟨by rw [ep];exact upd_same,xs,by rw [upd_ne (Ne.symm hp)];exact e,tups_k (fun b zs h=>by rw [upd_ne fun q=>by rw [q,n.kn] at h;cases h];exact h) T⟩,fun b o h1 _ h=>by rw [upd_ne h1];exact h⟩
noncomputable def addWr (ks:List (Str × Str)) (r:Nat) (e:Ex):List (List Key):=if wrZ ks e=true then [kk r "kind"] else []
noncomputable def addD (ks:List (Str × Str)) (r:Nat):RwK->List (List Key)
 | .set z e=>addWr ks r e++(match rhoK ks z with | none=>[] | some k=>if k=kdZ ks e then [] else [kk r "kind"])
 | .tell e=>addWr ks r e
 | .opn _ e=>(if kdZ ks e="truth" then [] else [kk r "truth"])++addWr ks r e
 | .no=>[]
noncomputable def addK (ks:List (Str × Str)):RwK->List (Str × Str)
 | .set z e=>match rhoK ks z with | none=>ks++[(z,kdZ ks e)] | some _=>ks
 | _=>ks
end
section
variable {P:Program} {w:World} {K:W.Frag} {mg:Str->Option Value} {base:Heap} {AA:Adr} {DD:Fds}
theorem opn_at {H0 H:Hp} {r:Nat} {v:V} {f:Bool} {e:Ex} (h:RwAt H0 H r v (.opn f e)):∃ t ve hd rest y,v=.ref t/\H t=some (.tup (.str hd::.int ((r:Nat):Int)::ve::rest))/\ExAt H ve e/\(hd="if"∨hd="while")/\atI (.str hd::.int ((r:Nat):Int)::ve::rest) (-1)=some y:=by
 cases f with
 | true =>
  obtain ⟨t,ve,l,o,a,b,c,_⟩:=h
  exact ⟨t,ve,_,_,_,a,b,c,.inl rfl,atI_last [.str "if",.int ((r:Nat):Int),ve,.ref l] (.ref o)⟩
 | false =>
  obtain ⟨t,ve,l,a,b,c,_⟩:=h
  exact ⟨t,ve,_,_,_,a,b,c,.inr rfl,atI_last [.str "while",.int ((r:Nat):Int),ve] (.ref l)⟩
noncomputable def spNt:Sp:=fun vs H Q _=>∃ (v:V) (pa pd:Addr) (ks:List (Str × Str)) (ds:List (List Key)) (r:Nat) (k:RwK) (H0:Hp),vs=[v,.ref pa,.ref pd]/\RwAt H0 H r v k/\k≠.no/\NS H pa pd ks ds/\pa≠pd/\ds.length<=300/\ks.length<=50 /\
 (match k with | .set _ e=>Knw ks e/\e.plain/\e.deep<4 | .tell e=>Knw ks e/\e.plain/\e.deep<4 | .opn _ e=>Knw ks e/\e.plain/\e.deep<4 | .no=>True) /\
 ∀ H',Ch2 pa pd H H'->NS H' pa pd (addK ks k) (ds++addD ks r k)->Q .non H'
noncomputable abbrev N_ZA:List Str:=["_law_row_here","_law_known","_law_due","_law_e"]
theorem sc_ZA:FnScope N_ZA ["_law_row_here","_law_known","_law_due"] (defScope st_ZA):=⟨rfl,rfl,rfl,by decide +kernel,rfl,by decide +kernel,by decide +kernel⟩
theorem ok_nt (T:All P w K mg AA DD):FnOk P w K mg base CX0 6 AA.ZA DD.ZA ["_law_row_here","_law_known","_law_due"] spNt:=by
 have GKD:=ok_lk (base:=base) T
 have GWR:=ok_wr (base:=base) T 4
 refine T.F_ZA.ok sc_ZA (fun vs H Q E h=>?_) (fun cdv A outer s H vs Q E hr h=>?_)
 ·obtain ⟨v,pa,pd,ks,ds,r,k,H0,rfl,_⟩:=h
  rfl
 ·obtain ⟨v,pa,pd,ks,ds,r,k,H0,rfl,hR,hno,hN,hne,hdl,hkl,hX,kq⟩:=h
  have nd:=sc_ZA.nd
  have hrW:Room 5 _:=hr
  have hr1:Room 1 _:=hrW.mono (by omega)
  have hu:=QG (Nat.add_le_add_left (show 1<=64 by decide) _) hr.units
  refine ⟨_,(@pss_cons _ _ _ _ _ (@ps_set _ _ 3 _ _ _ _ nd rfl (Or.inl rfl) (@pe_ix _ _ _ _ _ _ _ (ix_tupK (K:=K) rfl) (pv 0) (pe_un un_neg pe_int) (fun _ _=>rfl)) (by rfl) (by first | exact .inl rfl | exact .inr rfl | assumption)) (@pss_cons _ _ _ _ _ (@ps_if _ _ _ _ _ _ _ _ (PW.pt (pw_or (@pt_cmpR _ _ _ _ _ _ _ _ op_eq (@pe_ix _ _ _ _ _ _ _ (ix_tupK (K:=K) rfl) (pv 0) pe_int (fun _ _=>rfl)) pe_str (nomark _)) (pw_or1 (@pt_cmpR _ _ _ _ _ _ _ _ op_eq (@pe_ix _ _ _ _ _ _ _ (ix_tupK (K:=K) rfl) (pv 0) pe_int (fun _ _=>rfl)) pe_str (nomark _))))) (@pss_cons _ _ _ _ _ (@ps_set _ _ 3 _ _ _ _ nd rfl (Or.inl rfl) (@pe_ix _ _ _ _ _ _ _ (ix_tupK (K:=K) rfl) (pv 0) pe_int (fun _ _=>rfl)) (by rfl) (by first | exact .inl rfl | exact .inr rfl | assumption)) (@pss_one _ _ _ (@ps_if _ _ _ _ _ _ _ _ (@pt_cmpR _ _ _ _ _ _ _ _ op_ne (pe_call GKD hr1 rfl T.m_ZF T.k_ZF T.b_ZF .nil pass0 (@pa_cons _ _ _ _ _ (pv 3) (@pa_cons _ _ _ _ _ (pv 1) pa_nil (by rfl)) (by rfl))) pe_str (nomark _)) (@pss_one _ _ _ (@ps_expr _ _ _ _ (pe_bm PySem.F.plainAttrs_list PySem.F.slot_list_append PySem.F.type_list_append mt_append (pv 2) (@pa_cons _ _ _ _ _ (@pe_tup _ _ _ _ _ (@pa_cons _ _ _ _ _ (@pe_ix _ _ _ _ _ _ _ (ix_tupK (K:=K) rfl) (pv 0) pe_int (fun _ _=>rfl)) (@pa_cons _ _ _ _ _ pe_str pa_nil (by rfl)) (by rfl))) pa_nil (by rfl))) (by rfl))) pss_nil))) pss_nil) (@pss_cons _ _ _ _ _ (@ps_if _ _ _ _ _ _ _ _ (pt_val (pe_call GWR hrW rfl T.m_Zz T.k_Zz T.b_Zz .nil pass0 (@pa_cons _ _ _ _ _ (pv 3) (@pa_cons _ _ _ _ _ (pv 1) pa_nil (by rfl)) (by rfl)))) (@pss_one _ _ _ (@ps_expr _ _ _ _ (pe_bm PySem.F.plainAttrs_list PySem.F.slot_list_append PySem.F.type_list_append mt_append (pv 2) (@pa_cons _ _ _ _ _ (@pe_tup _ _ _ _ _ (@pa_cons _ _ _ _ _ (@pe_ix _ _ _ _ _ _ _ (ix_tupK (K:=K) rfl) (pv 0) pe_int (fun _ _=>rfl)) (@pa_cons _ _ _ _ _ pe_str pa_nil (by rfl)) (by rfl))) pa_nil (by rfl))) (by rfl))) pss_nil) (@pss_one _ _ _ (@ps_if _ _ _ _ _ _ _ _ (@pt_cmpR _ _ _ _ _ _ _ _ op_eq (@pe_ix _ _ _ _ _ _ _ (ix_tupK (K:=K) rfl) (pv 0) pe_int (fun _ _=>rfl)) pe_str (nomark _)) (@pss_one _ _ _ (@ps_if _ _ _ _ _ _ _ _ (pt_cmp (pc_dnotin hu (@pe_ix _ _ _ _ _ _ _ (ix_tupK (K:=K) rfl) (pv 0) pe_int (fun _ _=>rfl)) (pv 1))) (@pss_one _ _ _ (ps_dput hu (pv 1) (@pe_ix _ _ _ _ _ _ _ (ix_tupK (K:=K) rfl) (pv 0) pe_int (fun _ _=>rfl)) (pe_call GKD hr1 rfl T.m_ZF T.k_ZF T.b_ZF .nil pass0 (@pa_cons _ _ _ _ _ (pv 3) (@pa_cons _ _ _ _ _ (pv 1) pa_nil (by rfl)) (by rfl))) rfl)) (@pss_one _ _ _ (@ps_if _ _ _ _ _ _ _ _ (@pt_cmpR _ _ _ _ _ _ _ _ op_ne (pe_dget hu (pv 1) (@pe_ix _ _ _ _ _ _ _ (ix_tupK (K:=K) rfl) (pv 0) pe_int (fun _ _=>rfl)) (fun _ _=>rfl)) (pe_call GKD hr1 rfl T.m_ZF T.k_ZF T.b_ZF .nil pass0 (@pa_cons _ _ _ _ _ (pv 3) (@pa_cons _ _ _ _ _ (pv 1) pa_nil (by rfl)) (by rfl))) (nomark _)) (@pss_one _ _ _ (@ps_expr _ _ _ _ (pe_bm PySem.F.plainAttrs_list PySem.F.slot_list_append PySem.F.type_list_append mt_append (pv 2) (@pa_cons _ _ _ _ _ (@pe_tup _ _ _ _ _ (@pa_cons _ _ _ _ _ (@pe_ix _ _ _ _ _ _ _ (ix_tupK (K:=K) rfl) (pv 0) pe_int (fun _ _=>rfl)) (@pa_cons _ _ _ _ _ pe_str pa_nil (by rfl)) (by rfl))) pa_nil (by rfl))) (by rfl))) pss_nil)))) pss_nil))))),?_⟩
  cases k with
  | no=>exact absurd rfl hno
  | tell e =>
   obtain ⟨t,ve,rfl,ht,hE⟩:=hR
   obtain ⟨hk,hp,hd4⟩:=hX
   refine ⟨_,rfl,1,rfl,t,_,_,_,rfl,rfl,SqT.of ht,atI_last [.str "tell",.int ((r:Nat):Int)] ve,?_⟩
   dsimp only [gName]
   refine ⟨_,rfl,t,_,_,_,rfl,rfl,SqT.of ht,atI_nat (j:=0) rfl,rfl,_,rfl,?_⟩
   refine iteFb (by decide +kernel) ?_
   refine ⟨_,rfl,t,_,_,_,rfl,rfl,SqT.of ht,atI_nat (j:=0) rfl,rfl,_,rfl,?_⟩
   refine iteFb (by decide +kernel) ?_
   dsimp only [tNext]
   refine cut_if (fun σ' H'=>Ch2 pa pd H H'/\NS H' pa pd ks (ds++addWr ks r e)/\σ'=[some (.ref t),some (.ref pa),some (.ref pd),some ve]) (fun R hR=>?_) ?_
   ·refine ⟨_,rfl,_,rfl,ve,e,pa,ks,rfl,hE,hp,hN.kn,hk,hd4,fun H1 s1=>⟨_,rfl,?_⟩⟩
    have hN1:=hN.same s1
    have ht1:=s1 _ _ ht
    unfold addWr at hR
    cases hw:wrZ ks e with
    | true =>
     rw [hw,if_pos rfl] at hR
     refine iteT ?_
     obtain ⟨xs,hx,hT⟩:=hN1.du
     refine ⟨_,rfl,.inl ⟨rfl,_,SqL.of hx⟩,_,rfl,t,_,_,_,rfl,rfl,SqT.of ht1,atI_nat (j:=1) rfl,(by show 2<=sizeLine;decide),fun t9 ht9=>?_⟩
     have s9:=same_upd (o:=.tup [.int ((r:Nat):Int),.str "kind"]) ht9
     have hN9:=hN1.same s9
     have hxl:xs.length=ds.length:=hT.1
     refine ⟨pd,xs,_,rfl,rfl,s9 _ _ hx,small1000 (by omega),?_⟩
     obtain ⟨m1,m2⟩:=hN9.more (d:=kk r "kind") (s9 _ _ hx) upd_same hne
     exact hR _ _ ⟨((Ch2.of s1).trans (Ch2.of s9)).trans m2,m1,rfl⟩
    | false =>
     rw [hw,if_neg (by decide),List.append_nil] at hR
     refine iteF ?_
     exact hR _ _ ⟨Ch2.of s1,hN1,rfl⟩
   rintro σ' H2 ⟨c2,n2,rfl⟩
   have ht2:=(c2.tup hN) _ _ ht
   refine ⟨_,rfl,t,_,_,_,rfl,rfl,SqT.of ht2,atI_nat (j:=0) rfl,rfl,_,rfl,?_⟩
   refine iteFb (by decide +kernel) ?_
   exact kq _ c2 n2
  | set z e =>
   obtain ⟨t,ve,rfl,ht,hE⟩:=hR
   obtain ⟨hk,hp,hd4⟩:=hX
   refine ⟨_,rfl,1,rfl,t,_,_,_,rfl,rfl,SqT.of ht,atI_last [.str "set",.int ((r:Nat):Int),.str z] ve,?_⟩
   dsimp only [gName]
   refine ⟨_,rfl,t,_,_,_,rfl,rfl,SqT.of ht,atI_nat (j:=0) rfl,rfl,_,rfl,?_⟩
   refine iteFb (by decide +kernel) ?_
   refine ⟨_,rfl,t,_,_,_,rfl,rfl,SqT.of ht,atI_nat (j:=0) rfl,rfl,_,rfl,?_⟩
   refine iteFb (by decide +kernel) ?_
   dsimp only [tNext]
   refine cut_if (fun σ' H'=>Ch2 pa pd H H'/\NS H' pa pd ks (ds++addWr ks r e)/\σ'=[some (.ref t),some (.ref pa),some (.ref pd),some ve]) (fun R hR=>?_) ?_
   ·refine ⟨_,rfl,_,rfl,ve,e,pa,ks,rfl,hE,hp,hN.kn,hk,hd4,fun H1 s1=>⟨_,rfl,?_⟩⟩
    have hN1:=hN.same s1
    have ht1:=s1 _ _ ht
    unfold addWr at hR
    cases hw:wrZ ks e with
    | true =>
     rw [hw,if_pos rfl] at hR
     refine iteT ?_
     obtain ⟨xs,hx,hT⟩:=hN1.du
     refine ⟨_,rfl,.inl ⟨rfl,_,SqL.of hx⟩,_,rfl,t,_,_,_,rfl,rfl,SqT.of ht1,atI_nat (j:=1) rfl,(by show 2<=sizeLine;decide),fun t9 ht9=>?_⟩
     have s9:=same_upd (o:=.tup [.int ((r:Nat):Int),.str "kind"]) ht9
     have hN9:=hN1.same s9
     have hxl:xs.length=ds.length:=hT.1
     refine ⟨pd,xs,_,rfl,rfl,s9 _ _ hx,small1000 (by omega),?_⟩
     obtain ⟨m1,m2⟩:=hN9.more (d:=kk r "kind") (s9 _ _ hx) upd_same hne
     exact hR _ _ ⟨((Ch2.of s1).trans (Ch2.of s9)).trans m2,m1,rfl⟩
    | false =>
     rw [hw,if_neg (by decide),List.append_nil] at hR
     refine iteF ?_
     exact hR _ _ ⟨Ch2.of s1,hN1,rfl⟩
   rintro σ' H2 ⟨c2,n2,rfl⟩
   have ht2:=(c2.tup hN) _ _ ht
   have hE2:=hE.kept (c2.tup hN)
   refine ⟨_,rfl,t,_,_,_,rfl,rfl,SqT.of ht2,atI_nat (j:=0) rfl,rfl,_,rfl,?_⟩
   refine iteTb (by decide +kernel) ?_
   have edk:∀ o,rhoK ks z=o->valV (knD ks) (.inr z)=o.map V.str:=fun o h=>by rw [val_kn,h]
   have hwl:(addWr ks r e).length<=1:=by unfold addWr;split<;>simp
   refine ⟨_,rfl,t,_,_,_,rfl,rfl,SqT.of ht2,atI_nat (j:=2) rfl,_,rfl,pa,_,rfl,DGet.k (k:=.inr z) n2.kn,?_⟩
   cases hz:rhoK ks z with
   | none =>
    have eK:addK ks (.set z e)=ks++[(z,kdZ ks e)]:=by show (match rhoK ks z with | none=>_ | some _=>_)=_;rw [hz]
    have eD:addD ks r (.set z e)=addWr ks r e:=by show addWr ks r e++(match rhoK ks z with | none=>_ | some k=>_)=_;rw [hz,List.append_nil]
    rw [eK,eD] at kq
    rw [edk _ hz]
    refine ⟨_,rfl,iteT ?_⟩
    refine ⟨_,rfl,_,rfl,ve,e,pa,ks,rfl,hE2,hp,n2.kn,hk,fun H3 s3=>?_⟩
    have n3:=n2.same s3
    obtain ⟨m1,m2⟩:=n3.know (k:=kdZ ks e) hz hne
    refine ⟨_,rfl,_,rfl,t,_,_,_,rfl,rfl,SqT.of (s3 _ _ ht2),atI_nat (j:=2) rfl,pa,_,rfl,DPut.k (k:=.inr z) n3.kn (small1000 (by rw [knD,Qi];omega)),?_⟩
    exact kq _ ((c2.trans (Ch2.of s3)).trans m2) m1
   | some k =>
    have eK:addK ks (.set z e)=ks:=by show (match rhoK ks z with | none=>_ | some _=>_)=_;rw [hz]
    have eD:addD ks r (.set z e)=addWr ks r e++(if k=kdZ ks e then [] else [kk r "kind"]):=by show addWr ks r e++(match rhoK ks z with | none=>_ | some k=>_)=_;rw [hz]
    rw [eK,eD] at kq
    rw [edk _ hz]
    refine ⟨_,rfl,iteF ?_⟩
    refine ⟨_,rfl,_,rfl,t,_,_,_,rfl,rfl,SqT.of ht2,atI_nat (j:=2) rfl,pa,_,rfl,by rw [show some (V.str k)=valV (knD ks) (.inr z) from (edk _ hz).symm];exact DGet.k (k:=.inr z) n2.kn,?_⟩
    refine ⟨_,rfl,_,rfl,ve,e,pa,ks,rfl,hE2,hp,n2.kn,hk,fun H3 s3=>⟨rfl,_,rfl,?_⟩⟩
    have n3:=n2.same s3
    by_cases hkd:k=kdZ ks e
    ·rw [if_pos hkd,List.append_nil] at kq
     refine iteFb (by
      show (!decide (V.str k=V.str (kdZ ks e)))=false
      rw [Qw (by rw [hkd])];rfl) ?_
     exact kq _ (c2.trans (Ch2.of s3)) n3
    ·rw [if_neg hkd,<- List.append_assoc] at kq
     refine iteTb (by
      show (!decide (V.str k=V.str (kdZ ks e)))=true
      rw [Qj (fun z=>hkd (by injection z))];rfl) ?_
     obtain ⟨xs,hx,hT⟩:=n3.du
     refine ⟨_,rfl,.inl ⟨rfl,_,SqL.of hx⟩,_,rfl,t,_,_,_,rfl,rfl,SqT.of (s3 _ _ ht2),atI_nat (j:=1) rfl,(by show 2<=sizeLine;decide),fun t9 ht9=>?_⟩
     have s9:=same_upd (o:=.tup [.int ((r:Nat):Int),.str "kind"]) ht9
     have hN9:=n3.same s9
     have hxl:=hT.1;rw [QB] at hxl
     refine ⟨pd,xs,_,rfl,rfl,s9 _ _ hx,small1000 (by omega),?_⟩
     obtain ⟨m1,m2⟩:=hN9.more (d:=kk r "kind") (s9 _ _ hx) upd_same hne
     exact kq _ (((c2.trans (Ch2.of s3)).trans (Ch2.of s9)).trans m2) m1
  | opn f e =>
   obtain ⟨t,ve,hd,rest,y0,rfl,ht,hE,hhd,hy0⟩:=opn_at hR
   obtain ⟨hk,hp,hd4⟩:=hX
   have h3n:(if kdZ ks e="truth" then [] else [kk r "truth"]).length<=1:=by split<;>simp
   refine ⟨_,rfl,1,rfl,t,_,_,_,rfl,rfl,SqT.of ht,hy0,?_⟩
   dsimp only [gName]
   refine cut_if (fun σ' H'=>Ch2 pa pd H H'/\NS H' pa pd ks (ds++(if kdZ ks e="truth" then [] else [kk r "truth"]))/\σ'=[some (.ref t),some (.ref pa),some (.ref pd),some ve]) (fun R hR=>?_) ?_
   ·refine ⟨_,rfl,t,_,_,_,rfl,rfl,SqT.of ht,atI_nat (j:=0) rfl,rfl,_,rfl,?_⟩
    refine or_leaf3 ?_ ?_
    ·rcases hhd with rfl | rfl
     ·exact .inl (by decide +kernel)
     ·exact .inr ⟨by decide +kernel,fun hp=>⟨_,rfl,t,_,_,_,rfl,rfl,SqT.of ht,atI_nat (j:=0) rfl,rfl,_,rfl,iteTb (by decide +kernel) hp⟩⟩
    ·refine ⟨_,rfl,t,_,_,_,rfl,rfl,SqT.of ht,atI_nat (j:=2) rfl,?_⟩
     dsimp only [gName]
     refine ⟨_,rfl,_,rfl,ve,e,pa,ks,rfl,hE,hp,hN.kn,hk,fun H3 s3=>⟨rfl,_,rfl,?_⟩⟩
     have n3:=hN.same s3
     by_cases hkd:kdZ ks e="truth"
     ·rw [if_pos hkd,List.append_nil] at hR
      refine iteFb (by
       show (!decide (V.str (kdZ ks e)=V.str "truth"))=false
       rw [Qw (by rw [hkd])];rfl) ?_
      exact hR _ _ ⟨Ch2.of s3,n3,rfl⟩
     ·rw [if_neg hkd] at hR
      refine iteTb (by
       show (!decide (V.str (kdZ ks e)=V.str "truth"))=true
       rw [Qj (fun z=>hkd (by injection z))];rfl) ?_
      obtain ⟨xs,hx,hT⟩:=n3.du
      refine ⟨_,rfl,.inl ⟨rfl,_,SqL.of hx⟩,_,rfl,t,_,_,_,rfl,rfl,SqT.of (s3 _ _ ht),atI_nat (j:=1) rfl,(by show 2<=sizeLine;decide),fun t9 ht9=>?_⟩
      have s9:=same_upd (o:=.tup [.int ((r:Nat):Int),.str "truth"]) ht9
      have hN9:=n3.same s9
      have hxl:=hT.1
      refine ⟨pd,xs,_,rfl,rfl,s9 _ _ hx,small1000 (by omega),?_⟩
      obtain ⟨m1,m2⟩:=hN9.more (d:=kk r "truth") (s9 _ _ hx) upd_same hne
      exact hR _ _ ⟨((Ch2.of s3).trans (Ch2.of s9)).trans m2,m1,rfl⟩
   rintro σ' Ha ⟨ca,na,rfl⟩
   have hta:=(ca.tup hN) _ _ ht
   have hEa:=hE.kept (ca.tup hN)
   have eD:addD ks r (.opn f e)=(if kdZ ks e="truth" then [] else [kk r "truth"])++addWr ks r e:=rfl
   have eK:addK ks (.opn f e)=ks:=rfl
   rw [eD,eK,<- List.append_assoc] at kq
   generalize hd1:(ds++(if kdZ ks e="truth" then [] else [kk r "truth"]))=d1 at na kq
   have hd1l:d1.length<=301:=by rw [<- hd1,QB];omega
   refine cut_if (fun σ' H'=>Ch2 pa pd Ha H'/\NS H' pa pd ks (d1++addWr ks r e)/\σ'=[some (.ref t),some (.ref pa),some (.ref pd),some ve]) (fun R hR=>?_) ?_
   ·refine ⟨_,rfl,_,rfl,ve,e,pa,ks,rfl,hEa,hp,na.kn,hk,hd4,fun H1 s1=>⟨_,rfl,?_⟩⟩
    have hN1:=na.same s1
    have ht1:=s1 _ _ hta
    unfold addWr at hR
    cases hw:wrZ ks e with
    | true =>
     rw [hw,if_pos rfl] at hR
     refine iteT ?_
     obtain ⟨xs,hx,hT⟩:=hN1.du
     refine ⟨_,rfl,.inl ⟨rfl,_,SqL.of hx⟩,_,rfl,t,_,_,_,rfl,rfl,SqT.of ht1,atI_nat (j:=1) rfl,(by show 2<=sizeLine;decide),fun t9 ht9=>?_⟩
     have s9:=same_upd (o:=.tup [.int ((r:Nat):Int),.str "kind"]) ht9
     have hN9:=hN1.same s9
     have hxl:xs.length=d1.length:=hT.1
     refine ⟨pd,xs,_,rfl,rfl,s9 _ _ hx,small1000 (by omega),?_⟩
     obtain ⟨m1,m2⟩:=hN9.more (d:=kk r "kind") (s9 _ _ hx) upd_same hne
     exact hR _ _ ⟨((Ch2.of s1).trans (Ch2.of s9)).trans m2,m1,rfl⟩
    | false =>
     rw [hw,if_neg (by decide),List.append_nil] at hR
     refine iteF ?_
     exact hR _ _ ⟨Ch2.of s1,hN1,rfl⟩
   rintro σ' H2 ⟨c2,n2,rfl⟩
   have ht2:=(c2.tup na) _ _ hta
   refine ⟨_,rfl,t,_,_,_,rfl,rfl,SqT.of ht2,atI_nat (j:=0) rfl,rfl,_,rfl,?_⟩
   refine iteFb (by rcases hhd with rfl | rfl<;>decide +kernel) ?_
   exact kq _ (ca.trans c2) n2
end
section
variable {P:Program} {w:World} {K:W.Frag} {mg:Str->Option Value} {base:Heap} {AA:Adr} {DD:Fds}
noncomputable def elseZ (F:AF) (Z:List AF):List AF:=match F.k with
 | .ifB=>⟨[],F.r,F.e,.ifO F.ts⟩::Z
 | _=>F::Z
noncomputable def endZ (F:AF):List AF->List AF
 | []=>[F]
 | G::Z=>{ G with ts:=G.ts++[F.tr] }::Z
noncomputable def stepK (k:RwK) (F:AF) (Z:List AF) (x:Int) (i:Nat):List AF:=match k with
 | .set z e=>{ F with ts:=F.ts++[.set i z e] }::Z
 | .tell e=>{ F with ts:=F.ts++[.tell i e] }::Z
 | .opn f e=>⟨[],i,e,if f=true then .ifB else .whl⟩::F::Z
 | .no=>if (x % 9 == 6)=true then elseZ F Z else if decide (x % 9>6)=true then endZ F Z else F::Z
noncomputable def stepZ (k:RwK) (Z:List AF) (x:Int) (i:Nat):List AF:=match Z with
 | []=>[]
 | F::Z=>stepK k F Z x i
structure Zst where
 Z:List AF
 ks:List (Str × Str)
 ds:List (List Key)
noncomputable def zNx (ns:List Str) (q:Zst) (x:Int) (i:Nat):Zst:=⟨stepZ (rowR ns q.ks x q.Z.length) q.Z x i,addK q.ks (rowR ns q.ks x q.Z.length),q.ds++addD q.ks i (rowR ns q.ks x q.Z.length)⟩
noncomputable def zK (ns:List Str) (cs:List Int):Nat->Zst
 | 0=>⟨[⟨[],0,.num 0,.top⟩],[],[]⟩
 | i+1=>zNx ns (zK ns cs i) (mixI (cs.getD i 0) ((i:Nat):Int)) i
noncomputable def upZ:List AF->List Tr
 | []=>[]
 | F::Z=>up F Z
theorem kdN_kn {ks:List (Str × Str)} {e:Ex} (h:Knw ks e):kdN (rhoK ks) e=some (kdZ ks e):=by
 unfold kdZ
 by_cases hn:∃ z,e=.name z
 ·obtain ⟨z,rfl⟩:=hn
  obtain ⟨k,hk⟩:=Option.isSome_iff_exists.mp (h z (by simp [Ex.reads]))
  show rhoK ks z=some ((rhoK ks z).getD "")
  rw [hk];rfl
 ·rw [kdN_not (fun z q=>hn ⟨z,q⟩)];rfl
theorem unf_one (k due:Str):unfN (some k).toList due=if k=due then 0 else 1:=by
 unfold unfN
 by_cases h:k=due<;>simp [h]
theorem askF_some (r:Nat) (k due:Str) (fs:List (List Key)):askF r (some k) due fs=if k=due then fs else addF fs (kk r "kind"):=by
 unfold askF
 rw [unf_one]
 by_cases h:k=due<;>simp [h]
theorem kfE_wr {ks:List (Str × Str)} (r:Nat):∀ (e:Ex) (fs:List (List Key)),Knw ks e->kfE (rhoK ks) r e fs=if wrZ ks e=true then addF fs (kk r "kind") else fs
 | .not e,fs,h=>by
  have ea:askE (.not e)="truth":=by show (ak8.lookup ("not":Str)).getD "truth"="truth";rw [ak_not];rfl
  have h':Knw ks e:=fun z hz=>h z hz
  rw [kfE,kfE_wr r e fs h',kdN_kn h',askF_some,wrZ,ea]
  by_cases h1:kdZ ks e="truth"<;>by_cases h2:wrZ ks e=true<;>simp [h1,h2,addF_in (addF_has _ _)]
 | .op w a b,fs,h=>by
  have ha:Knw ks a:=fun z hz=>h z (List.mem_append_left _ hz)
  have hb:Knw ks b:=fun z hz=>h z (List.mem_append_right _ hz)
  rw [kfE,kfE_wr r a fs ha,kdN_kn ha,kdN_kn hb,askF_some,askF_some,kfE_wr r b _ hb,wrZ]
  by_cases h1:kdZ ks a=askE (.op w a b)<;>by_cases h2:wrZ ks a=true<;>by_cases h3:kdZ ks b=askE (.op w a b)<;>by_cases h4:wrZ ks b=true<;>simp [h1,h2,h3,h4,addF_in (addF_has _ _)]
 | .num _,fs,_=>rfl
 | .truth _,fs,_=>rfl
 | .name _,fs,_=>rfl
 | .of _ _,fs,_=>rfl
 | .many _ _ _,fs,_=>rfl
theorem mem_addF {fs:List (List Key)} {c k:List Key}:k∈addF fs c↔k∈fs∨k=c:=by
 refine ⟨addF_keys,fun h=>?_⟩
 rcases h with h | h
 ·unfold addF
  split
  ·exact h
  ·exact List.mem_append_left _ h
 ·rw [h];exact addF_has _ _
theorem mem_if {fs:List (List Key)} {c k:List Key} {p:Prop} [Decidable p]:k∈(if p then addF fs c else fs)↔k∈fs∨k∈(if p then [c] else []):=by
 split<;>simp [mem_addF]
theorem mem_if2 {fs:List (List Key)} {c k:List Key} {p:Prop} [Decidable p]:k∈(if p then fs else addF fs c)↔k∈fs∨k∈(if p then [] else [c]):=by
 split<;>simp [mem_addF]
theorem nd_addF {fs:List (List Key)} {c:List Key} (h:fs.Nodup):(addF fs c).Nodup:=by
 unfold addF
 split
 ·exact h
 ·rename_i hn
  refine List.nodup_append.mpr ⟨h,by simp,fun a ha b hb z=>?_⟩
  have hb:=List.mem_singleton.mp hb
  subst hb
  subst z
  exact hn (List.any_eq_true.mpr ⟨a,ha,Qw rfl⟩)
theorem rho_snoc {ks:List (Str × Str)} {z k:Str} (h:rhoK ks z=none):rhoK (ks++[(z,k)])=setE (rhoK ks) z (some k):=by
 funext x
 unfold setE
 rw [h]
 unfold rhoK at h ⊢
 rw [List.lookup_append]
 by_cases hx:x=z
 ·subst hx
  rw [h,if_pos rfl]
  simp
 ·rw [if_neg hx]
  have:(List.lookup x [(z,k)])=none:=by
   show (match x == z with | true=>some k | false=>none)=none
   rw [beq_eq_false_iff_ne.mpr hx]
  rw [this]
  simp
theorem setE_old {ρ:Env} {z k0:Str} {k:Option Str} (h:ρ z=some k0):setE ρ z k=ρ:=by
 funext x
 unfold setE
 rw [h]
 by_cases hx:x=z
 ·rw [if_pos hx,hx,h]
 ·rw [if_neg hx]
noncomputable def trK (i:Nat):RwK->List Tr
 | .set z e=>[.set i z e]
 | .tell e=>[.tell i e]
 | .opn true e=>[.iff i e [] []]
 | .opn false e=>[.whl i e []]
 | .no=>[]
noncomputable def RwK.e:RwK->Ex
 | .set _ e=>e
 | .tell e=>e
 | .opn _ e=>e
 | .no=>.num 0
structure Mir (ρ:Env) (fs:List (List Key)) (ks:List (Str × Str)) (ds:List (List Key)):Prop where
 en:ρ=rhoK ks
 me:∀ k,k∈fs↔k∈ds
 nd:fs.Nodup
theorem nd_if {fs:List (List Key)} {c:List Key} {p:Prop} [Decidable p] (h:fs.Nodup):(if p then addF fs c else fs).Nodup:=by
 split
 ·exact nd_addF h
 ·exact h
theorem nd_if2 {fs:List (List Key)} {c:List Key} {p:Prop} [Decidable p] (h:fs.Nodup):(if p then fs else addF fs c).Nodup:=by
 split
 ·exact h
 ·exact nd_addF h
theorem row_mir {ρ:Env} {fs:List (List Key)} {ks:List (Str × Str)} {ds:List (List Key)} (m:Mir ρ fs ks ds) (i:Nat) (k:RwK) (hk:Knw ks k.e):Mir (kfTs (trK i k) (ρ,fs)).1 (kfTs (trK i k) (ρ,fs)).2 (addK ks k) (ds++addD ks i k):=by
 obtain ⟨rfl,hm,hn⟩:=m
 have tru:∀ (e:Ex),Knw ks e->Mir (rhoK ks) (truF i (kdN (rhoK ks) e) (kfE (rhoK ks) i e fs)) ks (ds++((if kdZ ks e="truth" then [] else [kk i "truth"])++addWr ks i e)):=fun e he=>by
  rw [kdN_kn he,kfE_wr i e fs he]
  unfold truF
  rw [unf_one]
  have eif:(if (if kdZ ks e="truth" then 0 else 1)=0 then (if wrZ ks e=true then addF fs (kk i "kind") else fs) else addF (if wrZ ks e=true then addF fs (kk i "kind") else fs) (kk i "truth"))=if kdZ ks e="truth" then (if wrZ ks e=true then addF fs (kk i "kind") else fs) else addF (if wrZ ks e=true then addF fs (kk i "kind") else fs) (kk i "truth"):=by
   by_cases h:kdZ ks e="truth"<;>simp [h]
  rw [eif]
  refine ⟨rfl,fun k=>?_,nd_if2 (nd_if hn)⟩
  rw [mem_if2,mem_if,List.mem_append,List.mem_append,hm]
  show _↔_∨_∨k∈(if wrZ ks e=true then [kk i "kind"] else [])
  constructor
  ·rintro ((h | h) | h)
   ·exact .inl h
   ·exact .inr (.inr h)
   ·exact .inr (.inl h)
  ·rintro (h | h | h)
   ·exact .inl (.inl h)
   ·exact .inr h
   ·exact .inl (.inr h)
 cases k with
 | no=>exact ⟨rfl,fun k=>by show k∈fs↔k∈ds++[];rw [List.append_nil];exact hm k,hn⟩
 | tell e =>
  have hk:Knw ks e:=hk
  show Mir (rhoK ks) (kfE (rhoK ks) i e fs) ks (ds++addWr ks i e)
  rw [kfE_wr i e fs hk]
  refine ⟨rfl,fun k=>?_,nd_if hn⟩
  rw [mem_if,List.mem_append,hm];rfl
 | opn f e =>
  cases f with
  | true=>exact tru e hk
  | false=>exact tru e hk
 | set z e =>
  have hk:Knw ks e:=hk
  show Mir (setE (rhoK ks) z (kdN (rhoK ks) e)) (setF i (rhoK ks) z (kdN (rhoK ks) e) (kfE (rhoK ks) i e fs)) (addK ks (.set z e)) (ds++addD ks i (.set z e))
  rw [kdN_kn hk,kfE_wr i e fs hk]
  show Mir _ (askF i (rhoK ks z) (kdZ ks e) _) (match rhoK ks z with | none=>ks++[(z,kdZ ks e)] | some _=>ks) (ds++(addWr ks i e++(match rhoK ks z with | none=>[] | some k=>if k=kdZ ks e then [] else [kk i "kind"])))
  cases hz:rhoK ks z with
  | none =>
   refine ⟨(rho_snoc hz).symm,fun k=>?_,nd_if hn⟩
   show k∈(if wrZ ks e=true then addF fs (kk i "kind") else fs)↔k∈ds++(addWr ks i e++[])
   rw [List.append_nil,mem_if,List.mem_append,hm];rfl
  | some k0 =>
   refine ⟨setE_old hz,fun k=>?_,by rw [askF_some];exact nd_if2 (nd_if hn)⟩
   rw [askF_some,mem_if2,mem_if,List.mem_append,List.mem_append,hm,or_assoc];rfl
theorem rowF_iff (r:Nat) (e:Ex) (b o b' o':List Tr) (s:KSt):rowF (.iff r e b o) s=rowF (.iff r e b' o') s:=rfl
theorem rowF_whl (r:Nat) (e:Ex) (b b':List Tr) (s:KSt):rowF (.whl r e b) s=rowF (.whl r e b') s:=rfl
theorem tr_kf (F:AF) (us:List Tr) (s:KSt):kfT ({ F with ts:=F.ts++us }:AF).tr s=kfTs us (kfT F.tr s):=by
 unfold AF.tr
 cases hk:F.k with
 | top=>simp only [kfT];rw [kfTs_app,rowF_whl _ _ _ F.ts]
 | ifB=>simp only [kfT,kfTs];rw [kfTs_app,rowF_iff _ _ _ _ F.ts []]
 | ifO bs=>simp only [kfT];rw [kfTs_app,rowF_iff _ _ _ _ bs F.ts]
 | whl=>simp only [kfT];rw [kfTs_app,rowF_whl _ _ _ F.ts]
theorem up_kf:∀ (Z:List AF) (F:AF) (us:List Tr) (s:KSt),kfTs (up { F with ts:=F.ts++us } Z) s=kfTs us (kfTs (up F Z) s)
 | [],F,us,s=>kfTs_app _ _ _
 | G::Z,F,us,s=>by
  show kfTs (up { G with ts:=G.ts++[({ F with ts:=F.ts++us }:AF).tr] } Z) s=kfTs us (kfTs (up { G with ts:=G.ts++[F.tr] } Z) s)
  rw [up_kf Z G,up_kf Z G]
  simp only [kfTs]
  exact tr_kf F us _
theorem stepZ_kf (k:RwK) (x:Int) {i:Nat} {Z:List AF} (h:ZOk i Z) (s:KSt):kfTs (upZ (stepZ k Z x i)) s=kfTs (trK i k) (kfTs (upZ Z) s)/\flats (upZ (stepZ k Z x i))=flats (upZ Z)++flats (trK i k):=by
 cases Z with
 | nil=>exact h.elim
 | cons F Z =>
  show kfTs (upZ (stepK k F Z x i)) s=kfTs (trK i k) (kfTs (up F Z) s)/\flats (upZ (stepK k F Z x i))=flats (up F Z)++flats (trK i k)
  cases k with
  | set z e=>exact ⟨up_kf Z F _ s,up_flat Z F _⟩
  | tell e=>exact ⟨up_kf Z F _ s,up_flat Z F _⟩
  | opn f e =>
   cases f with
   | true=>exact ⟨up_kf Z F _ s,up_flat Z F _⟩
   | false=>exact ⟨up_kf Z F _ s,up_flat Z F _⟩
  | no =>
   show kfTs (upZ (if (x % 9 == 6)=true then elseZ F Z else if decide (x % 9>6)=true then endZ F Z else F::Z)) s=kfTs (up F Z) s/\flats (upZ (if (x % 9 == 6)=true then elseZ F Z else if decide (x % 9>6)=true then endZ F Z else F::Z))=flats (up F Z)++[]
   rw [List.append_nil]
   split
   ·unfold elseZ
    cases hk:F.k with
    | ifB =>
     cases Z with
     | nil =>
      rcases h.2.2.2.2.2.2 with q | q
      ·rw [hk] at q;cases q.2
      ·exact q.2.2.2.elim
     | cons G Z =>
      show kfTs (up { G with ts:=G.ts++[_] } Z) s=kfTs (up { G with ts:=G.ts++[_] } Z) s/\flats (up { G with ts:=G.ts++[_] } Z)=flats (up { G with ts:=G.ts++[_] } Z)
      rw [up_kf,up_kf,up_flat,up_flat,flats_one,flats_one]
      refine ⟨?_,by simp [AF.tr,hk,Tr.flat,flats]⟩
      simp only [AF.tr,hk,kfTs,kfT]
    | top=>exact ⟨rfl,rfl⟩
    | ifO bs=>exact ⟨rfl,rfl⟩
    | whl=>exact ⟨rfl,rfl⟩
   ·split
    ·cases Z with
     | nil=>exact ⟨rfl,rfl⟩
     | cons G Z=>exact ⟨rfl,rfl⟩
    ·exact ⟨rfl,rfl⟩
end
section
variable {P:Program} {w:World} {K:W.Frag} {mg:Str->Option Value} {base:Heap} {AA:Adr} {DD:Fds}
noncomputable def kD1:Key->PyData
 | .inl i=>.int i
 | .inr z=>.str z
noncomputable def kD (k:List Key):PyData:=.tuple (k.map kD1)
theorem kD1_eqv (a b:Key):PyData.eqv (kD1 a) (kD1 b)=decide (a=b):=by
 cases a<;>cases b<;>simp [kD1,PyData.eqv,Bool.beq_eq_decide_eq]
theorem kDs_eqv:∀ a b:List Key,PyData.eqvAll (a.map kD1) (b.map kD1)=decide (a=b)
 | [],[]=>by simp [PyData.eqvAll]
 | [],_::_=>by simp [PyData.eqvAll]
 | _::_,[]=>by simp [PyData.eqvAll]
 | x::a,y::b=>by
  have ih:=kDs_eqv a b
  simp only [List.map_cons,PyData.eqvAll,kD1_eqv,ih]
  by_cases h1:x=y<;>by_cases h2:a=b<;>simp [h1,h2]
theorem kD_eqv (a b:List Key):PyData.eqv (kD a) (kD b)=decide (a=b):=by
 unfold kD
 simp only [PyData.eqv]
 exact kDs_eqv a b
theorem rdv_keys {K:W.Frag} {H:Hp}:∀ (k:List Key),RdvA K H (k.map kV) (k.map kD1)
 | []=>.nil
 | .inl i::k=>.cons (.int i) (rdv_keys k)
 | .inr z::k=>.cons (.str z) (rdv_keys k)
theorem rdv_tups {K:W.Frag} {H:Hp}:∀ {xs:List V} {ds:List (List Key)},TupsAt H xs ds->RdvA K H xs (ds.map kD)
 | [],[],_=>.nil
 | [],_::_,h=>by simp [TupsAt] at h
 | _::_,[],h=>by simp [TupsAt] at h
 | x::xs,d::ds,h=>by
  obtain ⟨t,rfl,ht⟩:=h.2 0 x d rfl rfl
  exact .cons (.tup (SqT.of ht) (rdv_keys d)) (rdv_tups ⟨by simpa using h.1,fun i y e a b=>h.2 (i+1) y e a b⟩)
theorem eqvAll_refl:∀ ds:List (List Key),PyData.eqvAll (ds.map kD) (ds.map kD)=true
 | []=>by simp [PyData.eqvAll]
 | d::ds=>by simp [PyData.eqvAll,kD_eqv,eqvAll_refl ds]
noncomputable def Asc (z:Str):Prop:=∀ c∈z.cps.toList,c<128
theorem Asc.app {a b:Str} (h:Asc a) (h':Asc b):Asc (a++b):=fun c hc=>by
 rw [app_list] at hc
 exact (Qt hc).elim (h c) (h' c)
theorem Asc.cut {z:Str} (h:Asc z) (lo hi:Option Int):Asc (cutS z lo hi):=fun c hc=>by
 rw [cutS_list] at hc
 exact h c (List.mem_of_mem_drop (List.mem_of_mem_take hc))
theorem asc_get {z:Str} (h:Asc z) (j:Nat):Asc ⟨#[z.cps.toList.getD j 0]⟩:=fun c hc=>by
 have:c=z.cps.toList.getD j 0:=by simpa using hc
 rw [this,Qe]
 cases e:z.cps.toList[j]? with
 | none=>decide
 | some d=>exact h d (Qs e)
noncomputable def exD:Ex->PyData
 | .num n=>.tuple [.str "num",.int n]
 | .truth z=>.tuple [.str "truth",.str z]
 | .name z=>.tuple [.str "name",.str z]
 | .not e=>.tuple [.str "not",exD e]
 | .op w a b=>.tuple [.str w,exD a,exD b]
 | .of _ _=>.none
 | .many _ _ _=>.none
noncomputable def ExA:Ex->Prop
 | .num _=>True
 | .truth z=>Asc z
 | .name z=>Asc z
 | .not e=>ExA e
 | .op w a b=>Asc w/\ExA a/\ExA b
 | .of _ _=>False
 | .many _ _ _=>False
theorem ex_rdv {K:W.Frag} {H:Hp}:∀ {e:Ex} {v:V},ExA e->ExAt H v e->Rdv K H v (exD e)
 | .num n,v,_,h=>by cases h with | num h=>exact .tup (SqT.of h) (.cons (.str _) (.cons (.int _) .nil))
 | .truth z,v,_,h=>by cases h with | truth h=>exact .tup (SqT.of h) (.cons (.str _) (.cons (.str _) .nil))
 | .name z,v,_,h=>by cases h with | name h=>exact .tup (SqT.of h) (.cons (.str _) (.cons (.str _) .nil))
 | .not e,v,p,h=>by cases h with | not h a=>exact .tup (SqT.of h) (.cons (.str _) (.cons (ex_rdv p a) .nil))
 | .op w a b,v,p,h=>by cases h with | op h x y=>exact .tup (SqT.of h) (.cons (.str _) (.cons (ex_rdv p.2.1 x) (.cons (ex_rdv p.2.2 y) .nil)))
 | .of _ _,v,p,_=>p.elim
 | .many _ _ _,v,p,_=>p.elim
theorem ex_shd:∀ (e:Ex),ExA e->Shd (e.deep+1) (exD e)
 | .num n,_=>Shd.tuple (n:=0) fun d hd=>by
  simp only [List.mem_cons,List.not_mem_nil,or_false] at hd
  rcases hd with rfl | rfl
  ·exact .str (by decide +kernel)
  ·exact .int _
 | .truth z,h=>Shd.tuple (n:=0) fun d hd=>by
  simp only [List.mem_cons,List.not_mem_nil,or_false] at hd
  rcases hd with rfl | rfl
  ·exact .str (by decide +kernel)
  ·exact .str h
 | .name z,h=>Shd.tuple (n:=0) fun d hd=>by
  simp only [List.mem_cons,List.not_mem_nil,or_false] at hd
  rcases hd with rfl | rfl
  ·exact .str (by decide +kernel)
  ·exact .str h
 | .not e,h=>Shd.tuple fun d hd=>by
  simp only [List.mem_cons,List.not_mem_nil,or_false] at hd
  rcases hd with rfl | rfl
  ·exact (Shd.str (by decide +kernel)).up (Qp _)
  ·exact ex_shd e h
 | .op w a b,h=>Shd.tuple fun d hd=>by
  simp only [List.mem_cons,List.not_mem_nil,or_false] at hd
  rcases hd with rfl | rfl | rfl
  ·exact (Shd.str h.1).up (Qp _)
  ·exact (ex_shd a h.2.1).up (by show _<=max a.deep b.deep+1;omega)
  ·exact (ex_shd b h.2.2).up (by show _<=max a.deep b.deep+1;omega)
 | .of _ _,h=>h.elim
 | .many _ _ _,h=>h.elim
mutual
noncomputable def trD:Tr->PyData
 | .set r n e=>.tuple [.str "set",.int ((r:Nat):Int),.str n,exD e]
 | .tell r e=>.tuple [.str "tell",.int ((r:Nat):Int),exD e]
 | .iff r e b o=>.tuple [.str "if",.int ((r:Nat):Int),exD e,.list (trsD b),.list (trsD o)]
 | .whl r e b=>.tuple [.str "while",.int ((r:Nat):Int),exD e,.list (trsD b)]
noncomputable def trsD:List Tr->List PyData
 | []=>[]
 | t::ts=>trD t::trsD ts
end
noncomputable def RwA (x:Nat × Ex × Option Str):Prop:=ExA x.2.1/\x.2.1.deep<4/\∀ n,x.2.2=some n->Asc n
mutual
theorem tr_rdv {K:W.Frag} {H:Hp}:∀ {t:Tr} {v:V},(∀ x∈t.flat,RwA x)->SAt H false v t->Rdv K H v (trD t)
 | .set r n e,v,p,h=>by
  have pe:=(p (r,e,some n) (by simp [Tr.flat])).1
  cases h with
  | mk h a =>
  cases a with
  | cons a1 a =>
  cases a with
  | cons a2 a =>
  cases a with
  | cons a3 a =>
  cases a with
  | cons a4 a =>
  cases a
  cases a1
  cases a2
  cases a3
  cases a4 with
  | e q=>exact .tup (SqT.of h) (.cons (.str _) (.cons (.int _) (.cons (.str _) (.cons (ex_rdv pe q) .nil))))
 | .tell r e,v,p,h=>by
  have pe:=(p (r,e,none) (by simp [Tr.flat])).1
  cases h with
  | mk h a =>
  cases a with
  | cons a1 a =>
  cases a with
  | cons a2 a =>
  cases a with
  | cons a3 a =>
  cases a
  cases a1
  cases a2
  cases a3 with
  | e q=>exact .tup (SqT.of h) (.cons (.str _) (.cons (.int _) (.cons (ex_rdv pe q) .nil)))
 | .iff r e b o,v,p,h=>by
  have pe:=(p (r,e,none) (by simp [Tr.flat])).1
  cases h with
  | mk h a =>
  cases a with
  | cons a1 a =>
  cases a with
  | cons a2 a =>
  cases a with
  | cons a3 a =>
  cases a with
  | cons a4 a =>
  cases a with
  | cons a5 a =>
  cases a
  cases a1
  cases a2
  cases a3 with
  | e q =>
  cases a4 with
  | b l4 x4 =>
  cases a5 with
  | b l5 x5 =>
  exact .tup (SqT.of h) (.cons (.str _) (.cons (.int _) (.cons (ex_rdv pe q) (.cons (.lst (SqL.of l4) (trs_rdv (fun x hx=>p x (by simp [Tr.flat,hx])) x4)) (.cons (.lst (SqL.of l5) (trs_rdv (fun x hx=>p x (by simp [Tr.flat,hx])) x5)) .nil)))))
 | .whl r e b,v,p,h=>by
  have pe:=(p (r,e,none) (by simp [Tr.flat])).1
  cases h with
  | mk h a =>
  cases a with
  | cons a1 a =>
  cases a with
  | cons a2 a =>
  cases a with
  | cons a3 a =>
  cases a with
  | cons a4 a =>
  cases a
  cases a1
  cases a2
  cases a3 with
  | e q =>
  cases a4 with
  | b l4 x4 =>
  exact .tup (SqT.of h) (.cons (.str _) (.cons (.int _) (.cons (ex_rdv pe q) (.cons (.lst (SqL.of l4) (trs_rdv (fun x hx=>p x (by simp [Tr.flat,hx])) x4)) .nil))))
theorem trs_rdv {K:W.Frag} {H:Hp}:∀ {ts:List Tr} {vs:List V},(∀ x∈flats ts,RwA x)->LAt H false vs ts->RdvA K H vs (trsD ts)
 | [],_,_,h=>by cases h;exact .nil
 | t::ts,_,p,h=>by
  cases h with
  | cons a b =>
  cases a with
  | plain _ a=>exact .cons (tr_rdv (fun x hx=>p x (by simp [flats,hx])) a) (trs_rdv (fun x hx=>p x (by simp [flats,hx])) b)
  | shared e _ _=>cases e
end
mutual
theorem tr_shd:∀ (t:Tr),(∀ x∈t.flat,RwA x)->Shd (2*t.deep+6) (trD t)
 | .set r n e,p=>by
  have pe:=p (r,e,some n) (by simp [Tr.flat])
  refine Shd.tuple (n:=2*(Tr.set r n e).deep+5) fun d hd=>?_
  simp only [List.mem_cons,List.not_mem_nil,or_false] at hd
  rcases hd with rfl | rfl | rfl | rfl
  ·exact (Shd.str (by decide +kernel)).up (Qp _)
  ·exact (Shd.int _).up (Qp _)
  ·exact (Shd.str (pe.2.2 n rfl)).up (Qp _)
  ·exact (ex_shd e pe.1).up (by have:=pe.2.1;show e.deep+1<=_;have:e.deep<4:=pe.2.1;omega)
 | .tell r e,p=>by
  have pe:=p (r,e,none) (by simp [Tr.flat])
  refine Shd.tuple (n:=2*(Tr.tell r e).deep+5) fun d hd=>?_
  simp only [List.mem_cons,List.not_mem_nil,or_false] at hd
  rcases hd with rfl | rfl | rfl
  ·exact (Shd.str (by decide +kernel)).up (Qp _)
  ·exact (Shd.int _).up (Qp _)
  ·exact (ex_shd e pe.1).up (by have:e.deep<4:=pe.2.1;omega)
 | .iff r e b o,p=>by
  have pe:=p (r,e,none) (by simp [Tr.flat])
  have hb:=trs_shd b fun x hx=>p x (by simp [Tr.flat,hx])
  have ho:=trs_shd o fun x hx=>p x (by simp [Tr.flat,hx])
  have hd:(Tr.iff r e b o).deep=max (deeps b) (deeps o):=by simp [Tr.deep]
  refine Shd.tuple (n:=2*(Tr.iff r e b o).deep+5) fun d hd2=>?_
  rw [hd]
  simp only [List.mem_cons,List.not_mem_nil,or_false] at hd2
  rcases hd2 with rfl | rfl | rfl | rfl | rfl
  ·exact (Shd.str (by decide +kernel)).up (Qp _)
  ·exact (Shd.int _).up (Qp _)
  ·exact (ex_shd e pe.1).up (by have:e.deep<4:=pe.2.1;omega)
  ·exact (Shd.list hb).up (by omega)
  ·exact (Shd.list ho).up (by omega)
 | .whl r e b,p=>by
  have pe:=p (r,e,none) (by simp [Tr.flat])
  have hb:=trs_shd b fun x hx=>p x (by simp [Tr.flat,hx])
  have hd:(Tr.whl r e b).deep=deeps b:=by simp [Tr.deep]
  refine Shd.tuple (n:=2*(Tr.whl r e b).deep+5) fun d hd2=>?_
  rw [hd]
  simp only [List.mem_cons,List.not_mem_nil,or_false] at hd2
  rcases hd2 with rfl | rfl | rfl | rfl
  ·exact (Shd.str (by decide +kernel)).up (Qp _)
  ·exact (Shd.int _).up (Qp _)
  ·exact (ex_shd e pe.1).up (by have:e.deep<4:=pe.2.1;omega)
  ·exact (Shd.list hb).up (by omega)
theorem trs_shd:∀ (ts:List Tr),(∀ x∈flats ts,RwA x)->∀ d∈trsD ts,Shd (2*deeps ts+4) d
 | [],_,d,h=>by simp [trsD] at h
 | t::ts,p,d,h=>by
  have hd:deeps (t::ts)=max (t.deep+1) (deeps ts):=by simp [deeps]
  rw [hd]
  rcases Qn (show d∈trD t::trsD ts from by simpa [trsD] using h) with rfl | h
  ·exact (tr_shd t fun x hx=>p x (by simp [flats,hx])).up (by omega)
  ·exact (trs_shd ts (fun x hx=>p x (by simp [flats,hx])) d h).up (by omega)
end
theorem wQ_asc (x:Int):∀ i,Asc (wQ x i)
 | 0=>by unfold Asc wQ;decide +kernel
 | i+1=>(wQ_asc x i).app (asc_get (show Asc wsg from by unfold Asc;decide +kernel) _)
theorem names_asc (x:Int):∀ z∈namesF x,Asc z:=fun z hz=>by
 obtain ⟨j,_,rfl⟩:=QF hz
 exact (((wQ_asc x _).cut _ _).app (asc_get (by unfold Asc;decide +kernel) j)).app ((wQ_asc x _).cut _ _)
theorem getD_asc {ns:List Str} (h:∀ z∈ns,Asc z) (j:Nat):Asc (ns.getD j ""):=by
 rw [Qe]
 cases e:ns[j]? with
 | none=>show Asc (Str.ofString "");unfold Asc;decide +kernel
 | some d=>exact h d (Qs e)
structure ExG (ns:List Str) (d:Nat) (e:Ex):Prop where
 pl:e.plain
 dp:e.deep<=d
 rd:∀ z∈e.reads,z∈ns
 sg:ExA e
theorem leaf_g {ns:List Str} (h:∀ z∈ns,Asc z) (x:Int):ExG ns 0 (leafE ns x):=by
 unfold leafE
 split
 ·rename_i hc
  have hl:0<ns.length:=List.length_pos_iff.mpr hc.2
  have hj:(x / 12 % ((ns.length:Nat):Int)).toNat<ns.length:=by
   have h1:=Int.emod_lt_of_pos (x / 12) (show (0:Int)<((ns.length:Nat):Int) by omega)
   have h2:=Int.emod_nonneg (x / 12) (show ((ns.length:Nat):Int)≠0 by omega)
   omega
  refine ⟨trivial,Qf _,fun z hz=>?_,getD_asc h _⟩
  simp only [Ex.reads,List.mem_singleton] at hz
  rw [hz,Qe,Qb hj]
  exact QC hj
 ·split
  ·exact ⟨trivial,Qf _,fun z hz=>by simp [Ex.reads] at hz,getD_asc (ns:=["yes","no"]) (fun z hz=>by
    simp only [List.mem_cons,List.not_mem_nil,or_false] at hz
    rcases hz with rfl | rfl<;>(unfold Asc;decide +kernel)) _⟩
  ·exact ⟨trivial,Qf _,fun z hz=>by simp [Ex.reads] at hz,trivial⟩
theorem exF_g {ns:List Str} (h:∀ z∈ns,Asc z):∀ (d:Nat) (x:Int),ExG ns d (exF ns d x)
 | 0,x=>leaf_g h x
 | d+1,x=>by
  unfold exF
  split
  ·have q:=leaf_g h x
   exact ⟨q.pl,QE q.dp (Qp _),q.rd,q.sg⟩
  ·split
   ·have q:=exF_g h d (mixI x 1)
    exact ⟨q.pl,Nat.succ_le_succ q.dp,q.rd,q.sg⟩
   ·have q:=exF_g h d (mixI x 1)
    have r:=exF_g h d (mixI x 2)
    obtain ⟨j,ej,hj⟩:=modN (a:=x / 12) (n:=7) (by decide)
    have ej:x / 12 % 7=((j:Nat):Int):=ej
    rw [ej,Int.toNat_natCast]
    refine ⟨⟨(ops_get j hj).2,q.pl,r.pl⟩,?_,fun z hz=>?_,getD_asc (ns:=ops7) (fun z hz=>by
     simp only [ops7,List.mem_cons,List.not_mem_nil,or_false] at hz
     rcases hz with rfl | rfl | rfl | rfl | rfl | rfl | rfl<;>(unfold Asc;decide +kernel)) _,q.sg,r.sg⟩
    ·show max _ _+1<=d+1
     have:=q.dp
     have:=r.dp
     omega
    ·rcases Qt (show z∈(exF ns d (mixI x 1)).reads++(exF ns d (mixI x 2)).reads from hz) with y | y
     ·exact q.rd z y
     ·exact r.rd z y
theorem rho_in {ks:List (Str × Str)} {z:Str} (h:z∈ks.map (·.1)):(rhoK ks z).isSome=true:=by
 unfold rhoK
 induction ks with
 | nil=>simp at h
 | cons p ks ih =>
  show (match z == p.1 with | true=>some p.2 | false=>ks.lookup z).isSome=true
  cases hb:z == p.1 with
  | true=>rfl
  | false =>
   refine ih ?_
   rcases Qn (show z∈p.1::ks.map (·.1) from h) with q | q
   ·rw [q] at hb;simp at hb
   ·exact q
theorem eOf_g {ks:List (Str × Str)} (h:∀ z∈ks.map (·.1),Asc z) (x:Int):ExG (ks.map (·.1)) 3 (eOf ks x)/\Knw ks (eOf ks x):=by
 obtain ⟨dp,edp,hdp⟩:=modN (a:=x / 9) (n:=4) (by decide)
 have edp:x / 9 % 4=((dp:Nat):Int):=edp
 unfold eOf
 rw [edp,Int.toNat_natCast]
 have q:=exF_g h dp (mixI x 5)
 have hd:=q.dp
 exact ⟨⟨q.pl,by omega,q.rd,q.sg⟩,fun z hz=>rho_in (q.rd z hz)⟩
theorem row_is (ns:List Str) (ks:List (Str × Str)) (x:Int) (n:Nat):(∃ z,z=ns.getD (x / 36 % 5).toNat ""/\x % 9<3/\rowR ns ks x n=.set z (eOf ks x))∨(x % 9=3/\rowR ns ks x n=.tell (eOf ks x))∨(x % 9<6/\n<5/\∃ f,rowR ns ks x n=.opn f (eOf ks x))∨rowR ns ks x n=.no:=by
 unfold rowR
 split
 ·rename_i h;exact .inl ⟨_,rfl,of_decide_eq_true h,rfl⟩
 ·split
  ·rename_i h;exact .inr (.inl ⟨by simpa using h,rfl⟩)
  ·split
   ·rename_i h;exact .inr (.inr (.inl ⟨of_decide_eq_true h.1,h.2,_,rfl⟩))
   ·exact .inr (.inr (.inr rfl))
structure KnA (ns:List Str) (q:Zst) (i:Nat):Prop where
 zo:ZOk i q.Z
 kn:∀ z∈q.ks.map (·.1),z∈ns
 kl:q.ks.length<=i
 dl:q.ds.length<=3*i
 dk:∀ k∈q.ds,∃ r,k=kk r "kind"∨k=kk r "truth"
 fl:∀ x∈flats (upZ q.Z),RwA x
 fn:(flats (upZ q.Z)).length<=i
 mi:Mir (kfTs (upZ q.Z) (env0,[])).1 (kfTs (upZ q.Z) (env0,[])).2 q.ks q.ds
theorem rowR_g {ns:List Str} (hns:∀ z∈ns,Asc z) (h5:ns.length=5) {ks:List (Str × Str)} (hk:∀ z∈ks.map (·.1),z∈ns) (x:Int) (n i:Nat):Knw ks (rowR ns ks x n).e/\(rowR ns ks x n).e.plain/\(rowR ns ks x n).e.deep<4/\(∀ y∈flats (trK i (rowR ns ks x n)),RwA y)/\(flats (trK i (rowR ns ks x n))).length<=1/\(∀ z∈(addK ks (rowR ns ks x n)).map (·.1),z∈ns)/\(addK ks (rowR ns ks x n)).length<=ks.length+1/\(addD ks i (rowR ns ks x n)).length<=3/\∀ k∈addD ks i (rowR ns ks x n),∃ r,k=kk r "kind"∨k=kk r "truth":=by
 obtain ⟨g,gk⟩:=eOf_g (fun z hz=>hns z (hk z hz)) x
 have hd:=g.dp
 have wl:(addWr ks i (eOf ks x)).length<=1:=by unfold addWr;split<;>simp
 have wk:∀ k∈addWr ks i (eOf ks x),∃ r,k=kk r "kind"∨k=kk r "truth":=fun k h=>by
  unfold addWr at h
  split at h
  ·exact ⟨i,.inl (List.mem_singleton.mp h)⟩
  ·cases h
 rcases row_is ns ks x n with ⟨z,ez,_,e⟩ | ⟨_,e⟩ | ⟨_,_,f,e⟩ | e
 ·have hz:z∈ns:=by
   obtain ⟨j,ej,hj⟩:=modN (a:=x / 36) (n:=5) (by decide)
   have ej:x / 36 % 5=((j:Nat):Int):=ej
   rw [ez,ej,Int.toNat_natCast,Qe,Qb (by omega)]
   exact QC _
  rw [e]
  refine ⟨gk,g.pl,by show (eOf ks x).deep<4;omega,fun y hy=>?_,by show (flats [Tr.set i z (eOf ks x)]).length<=1;simp [flats,Tr.flat],?_,?_,?_,?_⟩
  ·have hy:y∈flats [Tr.set i z (eOf ks x)]:=hy
   simp [flats,Tr.flat] at hy
   rw [hy]
   exact ⟨g.sg,by show (eOf ks x).deep<4;omega,fun n hn=>by cases hn;exact hns z hz⟩
  ·show ∀ y∈(match rhoK ks z with | none=>ks++[(z,kdZ ks (eOf ks x))] | some _=>ks:List (Str × Str)).map (·.1),y∈ns
   cases rhoK ks z with
   | none =>
    intro y hy
    rw [QI] at hy
    rcases Qt hy with q | q
    ·exact hk y q
    ·rw [List.mem_singleton.mp q];exact hz
   | some k=>exact hk
  ·show (match rhoK ks z with | none=>ks++[(z,kdZ ks (eOf ks x))] | some _=>ks).length<=_
   cases rhoK ks z with
   | none=>simp
   | some k=>simp
  ·show (addWr ks i (eOf ks x)++(match rhoK ks z with | none=>[] | some k=>if k=kdZ ks (eOf ks x) then [] else [kk i "kind"])).length<=3
   rw [QB]
   have:(match rhoK ks z with | none=>[] | some k=>if k=kdZ ks (eOf ks x) then [] else [kk i "kind"]).length<=1:=by
    cases rhoK ks z with
    | none=>simp
    | some k=>simp only;split<;>simp
   omega
  ·show ∀ k∈addWr ks i (eOf ks x)++(match rhoK ks z with | none=>[] | some k=>if k=kdZ ks (eOf ks x) then [] else [kk i "kind"]),_
   intro k h
   rcases Qt h with h | h
   ·exact wk k h
   ·cases hz2:rhoK ks z with
    | none=>rw [hz2] at h;cases h
    | some k0 =>
     rw [hz2] at h
     have h:k∈(if k0=kdZ ks (eOf ks x) then [] else [kk i "kind"]):=h
     split at h
     ·cases h
     ·exact ⟨i,.inl (List.mem_singleton.mp h)⟩
 ·rw [e]
  refine ⟨gk,g.pl,by show (eOf ks x).deep<4;omega,fun y hy=>?_,by show (flats [Tr.tell i (eOf ks x)]).length<=1;simp [flats,Tr.flat],hk,Nat.le_succ _,QE wl (by omega),wk⟩
  have hy:y∈flats [Tr.tell i (eOf ks x)]:=hy
  simp [flats,Tr.flat] at hy
  rw [hy]
  exact ⟨g.sg,by show (eOf ks x).deep<4;omega,fun n hn=>by cases hn⟩
 ·have efl:flats (trK i (.opn f (eOf ks x)))=[(i,eOf ks x,none)]:=by cases f<;>simp [trK,flats,Tr.flat]
  rw [e,efl]
  refine ⟨gk,g.pl,by show (eOf ks x).deep<4;omega,fun y hy=>?_,by simp,hk,Nat.le_succ _,?_,?_⟩
  ·rw [List.mem_singleton.mp hy]
   exact ⟨g.sg,by show (eOf ks x).deep<4;omega,fun n hn=>by cases hn⟩
  ·show ((if kdZ ks (eOf ks x)="truth" then [] else [kk i "truth"])++addWr ks i (eOf ks x)).length<=3
   rw [QB]
   have:(if kdZ ks (eOf ks x)="truth" then [] else [kk i "truth"]).length<=1:=by split<;>simp
   omega
  ·show ∀ k∈(if kdZ ks (eOf ks x)="truth" then [] else [kk i "truth"])++addWr ks i (eOf ks x),_
   intro k h
   rcases Qt h with h | h
   ·split at h
    ·cases h
    ·exact ⟨i,.inr (List.mem_singleton.mp h)⟩
   ·exact wk k h
 ·rw [e]
  exact ⟨fun z hz=>by simp [RwK.e,Ex.reads] at hz,trivial,by show (0:Nat)<4;decide,fun y hy=>by simp [trK,flats] at hy,by simp [trK,flats],hk,Nat.le_succ _,by simp [addD],fun k h=>by simp [addD] at h⟩
theorem zok_step {ns:List Str} {ks:List (Str × Str)} {x:Int} {i:Nat} {Z:List AF} (h:ZOk i Z) (hi:i<20) (hp:(rowR ns ks x Z.length).e.plain):ZOk (i+1) (stepZ (rowR ns ks x Z.length) Z x i):=by
 cases Z with
 | nil=>exact h.elim
 | cons F Z =>
  have hm:=h.mono (Nat.le_succ i) (by omega)
  show ZOk (i+1) (stepK (rowR ns ks x (Z.length+1)) F Z x i)
  have hp:(rowR ns ks x (Z.length+1)).e.plain:=hp
  rcases row_is ns ks x (Z.length+1) with ⟨z,_,_,e⟩ | ⟨_,e⟩ | ⟨_,hl,f,e⟩ | e
  ·rw [e] at hp ⊢;exact h.put hi rfl hp rfl
  ·rw [e] at hp ⊢;exact h.put hi rfl hp rfl
  ·rw [e] at hp ⊢
   exact ⟨Qp _,by omega,trivial,by simp,by show 0+_<=5;simp;omega,by simp;omega,.inr ⟨hp,Nat.lt_succ_self i,by unfold bsOk;cases f<;>trivial,h⟩⟩
  ·rw [e]
   show ZOk (i+1) (if (x % 9 == 6)=true then elseZ F Z else if decide (x % 9>6)=true then endZ F Z else F::Z)
   split
   ·unfold elseZ
    cases hk:F.k with
    | ifB =>
     obtain ⟨h1,h2,h3,h4,h5,h6,h7⟩:=hm
     exact ⟨Qp _,h2,trivial,by simp,by show 0+_<=5;omega,h6,h7.imp (fun q=>by rw [hk] at q;cases q.2) fun q=>⟨q.1,q.2.1,⟨by omega,h3,h5⟩,q.2.2.2⟩⟩
    | top=>exact hm
    | ifO bs=>exact hm
    | whl=>exact hm
   ·split
    ·cases Z with
     | nil=>exact hm
     | cons G Z=>exact hm.end
    ·exact hm
theorem zK_ok {ns:List Str} (hns:∀ z∈ns,Asc z) (h5:ns.length=5) (cs:List Int):∀ i,i<=20->KnA ns (zK ns cs i) i
 | 0,_=>⟨⟨Qf _,by omega,trivial,by simp,by show 0+0<=5;omega,by simp,.inl ⟨rfl,rfl⟩⟩,(fun z hz=>by cases hz),Qf _,Qf _,(fun k hk=>by cases hk),(fun x hx=>by cases hx),Qf _,⟨rfl,fun k=>Iff.rfl,List.nodup_nil⟩⟩
 | i+1,hi=>by
  have q:=zK_ok hns h5 cs i (by omega)
  show KnA ns (zNx ns (zK ns cs i) (mixI (cs.getD i 0) ((i:Nat):Int)) i) (i+1)
  generalize zK ns cs i=s at q ⊢
  generalize mixI (cs.getD i 0) ((i:Nat):Int)=x
  obtain ⟨g1,g2,g3,g4,g5,g6,g7,g8,g9⟩:=rowR_g hns h5 q.kn x s.Z.length i
  obtain ⟨z1,z2⟩:=stepZ_kf (rowR ns s.ks x s.Z.length) x q.zo (env0,[])
  have m:=row_mir q.mi i _ g1
  refine ⟨zok_step q.zo (by omega) g2,g6,QE g7 (Nat.succ_le_succ q.kl),?_,fun k hk=>?_,fun y hy=>?_,?_,?_⟩
  ·show (s.ds++addD s.ks i (rowR ns s.ks x s.Z.length)).length<=_
   rw [QB]
   have:=q.dl
   omega
  ·rcases Qt hk with h | h
   ·exact q.dk k h
   ·exact g9 k h
  ·have hy:y∈flats (upZ (stepZ (rowR ns s.ks x s.Z.length) s.Z x i)):=hy
   rw [z2] at hy
   rcases Qt hy with h | h
   ·exact q.fl y h
   ·exact g4 y h
  ·show (flats (upZ (stepZ (rowR ns s.ks x s.Z.length) s.Z x i))).length<=_
   rw [z2,QB]
   have:=q.fn
   omega
  ·show Mir (kfTs (upZ (stepZ (rowR ns s.ks x s.Z.length) s.Z x i)) (env0,[])).1 (kfTs (upZ (stepZ (rowR ns s.ks x s.Z.length) s.Z x i)) (env0,[])).2 _ _
   rw [z1]
   exact m
noncomputable def csOf (is:List Int):List Int:=(is.drop 1).take 18
noncomputable def nsOf (is:List Int):List Str:=namesF (mixI (cellI is 0) 9)
noncomputable def endOf (is:List Int):Zst:=zK (nsOf is) (csOf is) (csOf is).length
noncomputable def treeF (is:List Int):List Tr:=upZ (endOf is).Z
theorem csOf_len (is:List Int):(csOf is).length<=18:=by unfold csOf;rw [Qv];omega
theorem end_ok (is:List Int):KnA (nsOf is) (endOf is) (csOf is).length:=zK_ok (names_asc _) (names_len _) _ _ (by have:=csOf_len is;omega)
theorem tree_ok (is:List Int):KOk (treeF is)/\(fK (treeF is)).length<64/\(endOf is).ds.length<64:=by
 have hl:=csOf_len is
 have q:=end_ok is
 have hu:(treeF is).length<=20/\ascs (treeF is)/\deeps (treeF is)<=5:=by
  unfold treeF
  have hz:=q.zo
  cases h:(endOf is).Z with
  | nil=>rw [h] at hz;exact hz.elim
  | cons F Z=>rw [h] at hz;exact hz.up
 have hf:=q.fn
 have hd:=q.dl
 have hk:(fK (treeF is)).length<=0+2*(flats (treeF is)).length:=kfTs_len (treeF is) (env0,[])
 have hf':(flats (treeF is)).length<=(csOf is).length:=hf
 exact ⟨⟨by omega,hu.1,hu.2.1,fun x hx=>Nat.lt_of_lt_of_le (q.fl x hx).2.1 (by decide),by omega⟩,by omega,by omega⟩
end
section
variable {P:Program} {w:World} {K:W.Frag} {mg:Str->Option Value} {base:Heap} {AA:Adr} {DD:Fds}
theorem cells_cut (is:List Int):cutV (is.map V.int) (some 1) (some 19)=(csOf is).map V.int:=by
 unfold cutV csOf
 have h1:HT.sIx (is.map V.int).length 0 (some 1)=min 1 is.length:=by simp [HT.sIx]
 have h2:HT.sIx (is.map V.int).length (is.map V.int).length (some 19)=min 19 is.length:=by simp [HT.sIx]
 rw [h1,h2,<- List.map_drop,<- List.map_take]
 congr 1
 by_cases h:is.length=0
 ·have:is=[]:=List.eq_nil_of_length_eq_zero h
  subst this;rfl
 ·rw [show min 1 is.length=1 by omega]
  by_cases h3:is.length<=19
  ·rw [show min 19 is.length=is.length by omega,QA (by simp),QA (by simp;omega)]
  ·rw [show min 19 is.length=19 by omega]
theorem bt_set:bootBuiltins "set"=some (.type "set"):=by decide +kernel
theorem _root_.Mm.ZS.chg {H H':Hp} {X:List Addr} {st:Addr} {Z:List AF} {C:List CF} (h:ZS H X st Z C) (hc:∀ b o,b∉X->H b=some o->H' b=some o) (hx:∀ b∈X,∃ ys,H' b=some (mO ys)):ZS H' X st Z C:=by
 have nd1:=List.nodup_append.mp h.nd
 have hn:∀ b∈st::opens Z C,b∉X:=fun b hb hX=>nd1.2.2 _ hX _ hb rfl
 have hs:st∉X:=hn _ (Qk ..)
 refine ⟨h.z.kept (mask_le (fun c hc=>.inl hc) fun c o hb ho=>hc c o (fun z=>hb (List.mem_append_left _ z)) ho) fun b hb=>?_,h.nd,fun b hb=>?_,hc _ _ hs h.stk,h.qs.kept fun c xs ho=>hc c _ (fun z=>?_) ho⟩
 ·obtain ⟨ys,hy⟩:=h.ls b (List.mem_append_right _ (Qg _ hb))
  rw [hy,hc _ _ (hn b (Qg _ hb)) hy]
 ·rcases Qt hb with q | q
  ·exact hx b q
  ·obtain ⟨ys,hy⟩:=h.ls b hb
   exact ⟨ys,hc _ _ (hn b q) hy⟩
 ·obtain ⟨ys,hy⟩:=h.ls c (List.mem_append_left _ z)
  rw [hy] at ho
  exact mO_tup ho
theorem _root_.Mm.ZS.kat {H:Hp} {X:List Addr} {st:Addr} {F:AF} {c:CF} {Z:List AF} {C:List CF} (h:ZS H X st (F::Z) (c::C)) (hk:F.k=.ifB∨F.k=.whl):∃ G Z',Z=G::Z'/\((F.k=.ifB/\H c.s=some (.tup [.str "if",.int ((F.r:Nat):Int),c.ve,.ref c.l,.ref c.o]))∨(F.k=.whl/\H c.s=some (.tup [.str "while",.int ((F.r:Nat):Int),c.ve,.ref c.l]))):=by
 have hz:=h.z
 cases Z with
 | nil =>
  cases C with
  | nil=>rw [hz.1] at hk;rcases hk with hk | hk<;>cases hk
  | cons d C=>simp [ZAt] at hz
 | cons G Z =>
  cases C with
  | nil=>simp [ZAt] at hz
  | cons d C =>
   refine ⟨G,Z,rfl,?_⟩
   have k:=hz.2.2.1.2
   rcases hk with hk | hk
   ·rw [hk] at k;exact .inl ⟨hk,mask_in _ _ _ _ k.1⟩
   ·rw [hk] at k;exact .inr ⟨hk,mask_in _ _ _ _ k⟩
structure BJ (H0:Hp) (nl:List Str) (cl:List Int) (pn pt st pd pa ps:Addr) (q:Zst) (H:Hp):Prop where
 sm:Same H0 H
 zs:∃ C,ZS H [pn,pa,pd,ps] st q.Z C/\lastL C=pt/\∀ b∈[pn,pa,pd,ps]++st::opens q.Z C,H0 b=none
 hn:H pn=some (.lst (nl.map V.str))
 ns:NS H pa pd q.ks q.ds
 hs:H ps=some (.lst (cl.map V.int))
section
variable {H0 H H':Hp} {nl:List Str} {cl:List Int} {pn pt st pd pa ps:Addr} {q:Zst}
theorem BJ.same (h:BJ H0 nl cl pn pt st pd pa ps q H) (s:Same H H'):BJ H0 nl cl pn pt st pd pa ps q H':=by
 obtain ⟨C,h1,h2,h3⟩:=h.zs
 exact ⟨h.sm.trans s,⟨C,h1.same s,h2,h3⟩,s _ _ h.hn,h.ns.same s,s _ _ h.hs⟩
theorem BJ.row {Z':List AF} {C C':List CF} (h:BJ H0 nl cl pn pt st pd pa ps q H) (hz:ZS H [pn,pa,pd,ps] st q.Z C) (hl:lastL C=pt) (hf:∀ b∈[pn,pa,pd,ps]++st::opens q.Z C,H0 b=none) (hz':ZS H' [pn,pa,pd,ps] st Z' C') (hl':lastL C'=lastL C) (ho:∀ b∈opens Z' C',b∈opens q.Z C∨H0 b=none) (o:Out st (opens q.Z C) H H'):BJ H0 nl cl pn pt st pd pa ps ⟨Z',q.ks,q.ds⟩ H':=by
 obtain ⟨ds,d1,d2⟩:=h.ns.du
 refine ⟨fun b x hb=>o b x (fun z=>?_) (h.sm _ _ hb),⟨C',hz',hl'.trans hl,fun b hb=>?_⟩,hz.xOut o (by simp) h.hn,⟨hz.xOut o (by simp) h.ns.kn,ds,hz.xOut o (by simp) d1,tups_k (hz.tupOut o) d2⟩,hz.xOut o (by simp) h.hs⟩
 ·rw [hf b (List.mem_append_right _ z)] at hb
  cases hb
 ·rcases Qt hb with q | q
  ·exact hf b (List.mem_append_left _ q)
  ·rcases Qn q with q | q
   ·exact hf b (List.mem_append_right _ (by rw [q];exact Qk ..))
   ·rcases ho b q with q | q
    ·exact hf b (List.mem_append_right _ (Qg _ q))
    ·exact q
theorem BJ.nes (h:BJ H0 nl cl pn pt st pd pa ps q H):pn≠pa/\pn≠pd/\pn≠ps/\pa≠pd/\pa≠ps/\pd≠ps/\H0 pa=none/\H0 pd=none:=by
 obtain ⟨C,h1,h2,h3⟩:=h.zs
 have nd:=(List.nodup_append.mp h1.nd).1
 simp at nd
 exact ⟨nd.1.1,nd.1.2.1,nd.1.2.2,nd.2.1.1,nd.2.1.2,nd.2.2,h3 _ (by simp),h3 _ (by simp)⟩
theorem BJ.noted {ks:List (Str × Str)} {ds:List (List Key)} (h:BJ H0 nl cl pn pt st pd pa ps q H) (c:Ch2 pa pd H H') (n:NS H' pa pd ks ds):BJ H0 nl cl pn pt st pd pa ps ⟨q.Z,ks,ds⟩ H':=by
 obtain ⟨n1,n2,n3,n4,n5,n6,n7,n8⟩:=h.nes
 obtain ⟨C,h1,h2,h3⟩:=h.zs
 have hn:=c _ _ n1 n2 h.hn
 have hs:=c _ _ (Ne.symm n5) (Ne.symm n6) h.hs
 obtain ⟨xs,d1,_⟩:=n.du
 refine ⟨fun b o hb=>c b o (fun z=>by rw [z,n7] at hb;cases hb) (fun z=>by rw [z,n8] at hb;cases hb) (h.sm _ _ hb),⟨C,h1.chg (fun b o hb ho=>c b o (fun z=>hb (by simp [z])) (fun z=>hb (by simp [z])) ho) fun b hb=>?_,h2,h3⟩,hn,n,hs⟩
 simp at hb
 rcases hb with rfl | rfl | rfl | rfl
 ·exact ⟨.inl _,hn⟩
 ·exact ⟨.inr _,n.kn⟩
 ·exact ⟨.inl _,d1⟩
 ·exact ⟨.inl _,hs⟩
theorem BJ.opened {H5 H7:Hp} {F:AF} {Z:List AF} {c:CF} {C:List CF} {ks ks':List (Str × Str)} {ds ds':List (List Key)} {t l o qa:Addr} {ve:V} {e:Ex} {i:Nat} {kd:Kd} {tp:List V}
  (h:BJ H0 nl cl pn pt st pd pa ps ⟨F::Z,ks,ds⟩ H) (hz:ZS H [pn,pa,pd,ps] st (F::Z) (c::C)) (hl:lastL (c::C)=pt) (hf:∀ b∈[pn,pa,pd,ps]++st::opens (F::Z) (c::C),H0 b=none) (s:Same H H5) (ht:H5 t=some (.tup tp)) (hE:ExAt H5 ve e)
  (hs:(kd=.ifB/\tp=[.str "if",.int ((i:Nat):Int),ve,.ref l,.ref o]/\H l=none/\H o=none/\H5 l=some (.lst [])/\H5 o=some (.lst [])/\l≠o)∨(kd=.whl/\tp=[.str "while",.int ((i:Nat):Int),ve,.ref l]/\H l=none/\H5 l=some (.lst [])))
  (c7:Ch2 pa pd (upd H5 c.l (.lst (c.xs++[.ref t]))) H7) (n7:NS H7 pa pd ks' ds') (hq:H7 qa=none) :
  BJ H0 nl cl pn pt st pd pa ps ⟨⟨[],i,e,kd⟩::F::Z,ks',ds'⟩ (upd (upd H7 qa (.tup [.ref l,.ref t])) st (.lst ((C.map CF.q).reverse.map V.ref++[.ref c.q]++[.ref qa]))):=by
 obtain ⟨n1,n2,n3,n4,n5,n6,n7',n8⟩:=h.nes
 have nd1:=List.nodup_append.mp hz.nd
 have hcl:c.l∈st::opens (F::Z) (c::C):=Qg _ (by unfold opens;exact List.mem_append_left _ (ops1_l F c))
 have hXc:∀ b∈[pn,pa,pd,ps],b≠c.l:=fun b hb z=>nd1.2.2 _ hb _ hcl z
 have hXs:∀ b∈[pn,pa,pd,ps],b≠st:=fun b hb z=>nd1.2.2 _ hb _ (Qk ..) z
 have hsc:=hz.sne
 have k6:∀ b x,H b=some x->b≠c.l->upd H5 c.l (.lst (c.xs++[.ref t])) b=some x:=fun b x hb hc=>by rw [upd_ne hc];exact s _ _ hb
 have k7:∀ b x,H b=some x->b≠c.l->b≠pa->b≠pd->H7 b=some x:=fun b x hb hc h1 h2=>c7 b x h1 h2 (k6 b x hb hc)
 have kf:∀ b x,H7 b=some x->b≠st->upd (upd H7 qa (.tup [.ref l,.ref t])) st (.lst ((C.map CF.q).reverse.map V.ref++[.ref c.q]++[.ref qa])) b=some x:=fun b x hb h2=>by
  rw [upd_ne h2,upd_ne (some_ne hb hq)];exact hb
 have hcl7:H7 c.l=some (.lst (c.xs++[.ref t])):=c7 _ _ (Ne.symm (hXc pa (by simp))) (Ne.symm (hXc pd (by simp))) upd_same
 have hst7:H7 st=some (.lst ((C.map CF.q).reverse.map V.ref++[.ref c.q])):=k7 _ _ hz.stk2 hsc (Ne.symm (hXs pa (by simp))) (Ne.symm (hXs pd (by simp)))
 have hqs:qa≠st:=(some_ne hst7 hq).symm
 have tu:TupS H5 (upd (upd H7 qa (.tup [.ref l,.ref t])) st (.lst ((C.map CF.q).reverse.map V.ref++[.ref c.q]++[.ref qa]))):=fun b ys hb=>by
  have q1:b≠c.l:=fun z=>by rw [z,s _ _ hz.top] at hb;cases hb
  have q2:b≠pa:=fun z=>by rw [z,s _ _ h.ns.kn] at hb;cases hb
  have q3:b≠pd:=fun z=>by obtain ⟨xs,d1,_⟩:=h.ns.du;rw [z,s _ _ d1] at hb;cases hb
  have q4:b≠st:=fun z=>by rw [z,s _ _ hz.stk2] at hb;cases hb
  exact kf b _ (c7 b _ q2 q3 (by rw [upd_ne q1];exact hb)) q4
 have nw:∀ b,H b=none->H5 b=some (.lst [])->upd (upd H7 qa (.tup [.ref l,.ref t])) st (.lst ((C.map CF.q).reverse.map V.ref++[.ref c.q]++[.ref qa])) b=some (.lst []):=fun b hb h5=>by
  have q1:b≠c.l:=(some_ne hz.top hb).symm
  have q2:b≠pa:=(some_ne h.ns.kn hb).symm
  have q3:b≠pd:=by obtain ⟨xs,d1,_⟩:=h.ns.du;exact (some_ne d1 hb).symm
  have q4:b≠st:=(some_ne hz.stk2 hb).symm
  exact kf b _ (c7 b _ q2 q3 (by rw [upd_ne q1];exact h5)) q4
 obtain ⟨xs7,d7,_⟩:=n7.du
 let HB:Hp:=fun b=>if b=pa then H7 pa else if b=pd then H7 pd else H b
 have hb0:∀ b,b≠pa->b≠pd->HB b=H b:=fun b h1 h2=>by show (if b=pa then _ else if b=pd then _ else _)=_;rw [if_neg h1,if_neg h2]
 have hb1:HB pa=H7 pa:=if_pos rfl
 have hb2:HB pd=H7 pd:=by show (if pd=pa then _ else if pd=pd then _ else _)=_;rw [if_neg (Ne.symm n4),if_pos rfl]
 have zB:ZS HB [pn,pa,pd,ps] st (F::Z) (c::C):=hz.chg (fun b o hb ho=>by rw [hb0 b (fun z=>hb (by simp [z])) (fun z=>hb (by simp [z]))];exact ho) fun b hb=>by
  simp at hb
  rcases hb with rfl | rfl | rfl | rfl
  ·exact ⟨.inl _,by rw [hb0 _ n1 n2];exact h.hn⟩
  ·exact ⟨.inr _,by rw [hb1];exact n7.kn⟩
  ·exact ⟨.inl _,by rw [hb2];exact d7⟩
  ·exact ⟨.inl _,by rw [hb0 _ (Ne.symm n5) (Ne.symm n6)];exact h.hs⟩
 have fB:∀ b,H b=none->HB b=none:=fun b hb=>by rw [hb0 b (some_ne h.ns.kn hb).symm (by obtain ⟨xs,d1,_⟩:=h.ns.du;exact (some_ne d1 hb).symm)];exact hb
 have hop:∀ b∈ops1 ⟨[],i,e,kd⟩ ⟨qa,l,t,o,[],[],ve⟩,H b=none/\H5 b=some (.lst []):=fun b hb=>by
  rcases hs with ⟨rfl,_,a1,a2,a3,a4,_⟩ | ⟨rfl,_,a1,a2⟩
  ·rcases Qn (show b∈[l,o] from hb) with z | z
   ·rw [z];exact ⟨a1,a3⟩
   ·rw [List.mem_singleton.mp z];exact ⟨a2,a4⟩
  ·rw [List.mem_singleton.mp (show b∈[l] from hb)];exact ⟨a1,a2⟩
 have ov:ovOf ⟨[],i,e,kd⟩ ⟨qa,l,t,o,[],[],ve⟩=.ref t:=by rcases hs with ⟨rfl,_⟩ | ⟨rfl,_⟩<;>rfl
 have zz:=zB.push (N:=⟨[],i,e,kd⟩) (n:=⟨qa,l,t,o,[],[],ve⟩) (H':=upd (upd H7 qa (.tup [.ref l,.ref t])) st (.lst ((C.map CF.q).reverse.map V.ref++[.ref c.q]++[.ref qa]))) (fun b x hb hc1 hs1=>by
   by_cases e1:b=pa
   ·subst e1;rw [hb1] at hb;exact kf _ _ hb hs1
   ·by_cases e2:b=pd
    ·subst e2;rw [hb2] at hb;exact kf _ _ hb hs1
    ·rw [hb0 b e1 e2] at hb;exact kf _ _ (k7 b x hb hc1 e1 e2) hs1)
  (kf _ _ hcl7 (Ne.symm hsc)) (by rw [upd_same];simp) (fun b hb=>⟨fB b (hop b hb).1,nw b (hop b hb).1 (hop b hb).2⟩)
  (by rcases hs with ⟨rfl,_,_,_,_,_,hlo⟩ | ⟨rfl,_⟩
      ·show [l,o].Nodup;simp [hlo]
      ·show [l].Nodup;simp)
  (by rw [upd_ne hqs,upd_same,ov]) (hE.kept tu) rfl rfl
  (by rcases hs with ⟨rfl,rfl,_⟩ | ⟨rfl,rfl,_⟩
      ·exact .inl ⟨rfl,tu _ _ ht⟩
      ·exact .inr ⟨rfl,tu _ _ ht⟩)
 refine ⟨fun b x hb=>?_,⟨_,zz,hl,fun b hb=>?_⟩,kf _ _ (k7 _ _ h.hn (hXc pn (by simp)) n1 n2) (hXs pn (by simp)),⟨kf _ _ n7.kn (hXs pa (by simp)),xs7,kf _ _ d7 (hXs pd (by simp)),?_⟩,kf _ _ (k7 _ _ h.hs (hXc ps (by simp)) (Ne.symm n5) (Ne.symm n6)) (hXs ps (by simp))⟩
 ·have nb:∀ b',H0 b'=none->b≠b':=fun b' h' z=>by rw [z,h'] at hb;cases hb
  exact kf b x (k7 b x (h.sm _ _ hb) (nb _ (hf _ (List.mem_append_right _ hcl))) (nb _ n7') (nb _ n8)) (nb _ (hf _ (List.mem_append_right _ (Qk ..))))
 ·rcases Qt hb with z | z
  ·exact hf b (List.mem_append_left _ z)
  ·rcases Qn z with z | z
   ·exact hf b (List.mem_append_right _ (by rw [z];exact Qk ..))
   ·rcases Qt (show b∈ops1 ⟨[],i,e,kd⟩ ⟨qa,l,t,o,[],[],ve⟩++opens (F::Z) (c::C) from z) with z | z
    ·exact h.sm.free (hop b z).1
    ·exact hf b (List.mem_append_right _ (Qg _ z))
 ·obtain ⟨ys,dy,T7⟩:=n7.du
  rw [d7] at dy
  cases dy
  exact tups_k (fun b zs hb=>kf b _ hb fun z=>by rw [z,hst7] at hb;cases hb) T7
theorem BJ.putR {H5 H7:Hp} {F:AF} {Z:List AF} {c:CF} {C:List CF} {ks ks':List (Str × Str)} {ds ds':List (List Key)} {t:Addr} {tp:List V} {x:Tr}
  (h:BJ H0 nl cl pn pt st pd pa ps ⟨F::Z,ks,ds⟩ H5) (hz:ZS H5 [pn,pa,pd,ps] st (F::Z) (c::C)) (hl:lastL (c::C)=pt) (hf:∀ b∈[pn,pa,pd,ps]++st::opens (F::Z) (c::C),H0 b=none) (ht:H5 t=some (.tup tp)) (hp:∀ Hm,TupS H5 Hm->PsAt Hm false tp x.parts)
  (c7:Ch2 pa pd (upd H5 c.l (.lst (c.xs++[.ref t]))) H7) (n7:NS H7 pa pd ks' ds'):BJ H0 nl cl pn pt st pd pa ps ⟨{ F with ts:=F.ts++[x] }::Z,ks',ds'⟩ H7:=by
 obtain ⟨z3,o3⟩:=hz.putT ht hp
 exact (h.row hz hl hf z3 (lastL_l (c:=c) (c':={ c with xs:=c.xs++[.ref t] }) rfl) (fun b hb=>.inl hb) o3).noted c7 n7
end
theorem tups_refs {H:Hp}:∀ {xs:List V} {ds:List (List Key)},TupsAt H xs ds->∃ bs:List Addr,xs=bs.map V.ref
 | [],_,_=>⟨[],rfl⟩
 | _::_,[],h=>by simp [TupsAt] at h
 | x::xs,d::ds,h=>by
  obtain ⟨t,rfl,ht⟩:=h.2 0 x d rfl rfl
  obtain ⟨bs,e⟩:=tups_refs (xs:=xs) (ds:=ds) ⟨by simpa using h.1,fun i y e a b=>h.2 (i+1) y e a b⟩
  exact ⟨t::bs,by rw [e];rfl⟩
theorem RwAt.kept {H0 H H':Hp} {r:Nat} {v:V} {k:RwK} (h:RwAt H0 H r v k) (s:TupS H H') (hl:∀ l,H0 l=none->H l=some (.lst [])->H' l=some (.lst [])):RwAt H0 H' r v k:=by
 cases k with
 | set z e=>obtain ⟨t,ve,a,b,c⟩:=h;exact ⟨t,ve,a,s _ _ b,c.kept s⟩
 | tell e=>obtain ⟨t,ve,a,b,c⟩:=h;exact ⟨t,ve,a,s _ _ b,c.kept s⟩
 | opn f e =>
  cases f with
  | true=>obtain ⟨t,ve,l,o,a,b,c,d1,d2,d3,d4,d5⟩:=h;exact ⟨t,ve,l,o,a,s _ _ b,c.kept s,d1,d2,hl l d1 d3,hl o d2 d4,d5⟩
  | false=>obtain ⟨t,ve,l,a,b,c,d1,d3⟩:=h;exact ⟨t,ve,l,a,s _ _ b,c.kept s,d1,hl l d1 d3⟩
 | no=>exact h
noncomputable def spBuilt (K:W.Frag):Sp:=fun vs H Q _=>∃ (a:Addr) (is:List Int),vs=[.ref a]/\SqL K H a (is.map V.int)/\is.length<=63/\∀ t l d xs ys H' es,Same H H'->H' t=some (.tup [.ref l,.ref d])->H' l=some (.lst xs)->LAt H' false xs (treeF is)->H' d=some (.lst ys)->TupsAt H' ys es->es.Pairwise (fun x y=>ltT x y=true)->(∀ k,k∈es↔k∈(endOf is).ds)->Q (.ref t) H'
noncomputable abbrev N_ZB:List Str:=["_law_script","_law_names_here","_law_top","_law_stack","_law_known","_law_due","_law_at","_law_cell","_law_number","_law_row_here","_law_opener"]
theorem sc_ZB:FnScope N_ZB ["_law_script"] (defScope st_ZB):=⟨rfl,rfl,rfl,by decide +kernel,rfl,by decide +kernel,by decide +kernel⟩
theorem ok_built (T:All P w K mg AA DD):FnOk P w K mg base CX0 7 AA.ZB DD.ZB ["_law_script"] (spBuilt K):=by
 have GC:=ok_cellat (base:=base) T
 have GX:=ok_mixed (base:=base) T
 have GN:=ok_names (base:=base) T
 have GRW:=ok_lrow (base:=base) T
 have GNT:=ok_nt (base:=base) T
 refine T.F_ZB.ok sc_ZB (fun vs H Q E h=>?_) (fun cdv A outer s H vs Q E hr h=>?_)
 ·obtain ⟨a,is,rfl,_⟩:=h
  rfl
 ·obtain ⟨a,is,rfl,hS,h63,kq⟩:=h
  have nd:=sc_ZB.nd
  have hu:=QG (Nat.add_le_add_left (show 1<=64 by decide) _) hr.units
  have hu3:=QG (Nat.add_le_add_left (show 1+1+1<=64 by decide) _) hr.units
  have hr6:Room 6 _:=hr
  have hr1:Room 1 _:=hr6.mono (by omega)
  refine ⟨_,(@pss_cons _ _ _ _ _ (@ps_set _ _ 1 _ _ _ _ nd rfl (Or.inl rfl) (pe_call GN hr1 rfl T.m_Zy T.k_Zy T.b_Zy .nil pass0 (@pa_cons _ _ _ _ _ (pe_call GX hr1 rfl T.m_Zx T.k_Zx T.b_Zx .nil pass0 (@pa_cons _ _ _ _ _ (pe_call GC hr1 rfl T.m_Zp T.k_Zp T.b_Zp .nil pass0 (@pa_cons _ _ _ _ _ (pv 0) (@pa_cons _ _ _ _ _ pe_int pa_nil (by rfl)) (by rfl))) (@pa_cons _ _ _ _ _ pe_int pa_nil (by rfl)) (by rfl))) pa_nil (by rfl))) (by rfl) (by first | exact .inl rfl | exact .inr rfl | assumption)) (@pss_cons _ _ _ _ _ (@ps_set _ _ 2 _ _ _ _ nd rfl (Or.inl rfl) (@pe_lst _ _ _ _ pa_nil) (by rfl) (by first | exact .inl rfl | exact .inr rfl | assumption)) (@pss_cons _ _ _ _ _ (@ps_set _ _ 3 _ _ _ _ nd rfl (Or.inl rfl) (@pe_lst _ _ _ _ (@pa_cons _ _ _ _ _ (@pe_tup _ _ _ _ _ (@pa_cons _ _ _ _ _ (pv 2) (@pa_cons _ _ _ _ _ pe_non pa_nil (by rfl)) (by rfl))) pa_nil (by rfl))) (by rfl) (by first | exact .inl rfl | exact .inr rfl | assumption)) (@pss_cons _ _ _ _ _ (@ps_set _ _ 4 _ _ _ _ nd rfl (Or.inl rfl) pe_dnewK (by rfl) (by first | exact .inl rfl | exact .inr rfl | assumption)) (@pss_cons _ _ _ _ _ (@ps_set _ _ 5 _ _ _ _ nd rfl (Or.inl rfl) (@pe_lst _ _ _ _ pa_nil) (by rfl) (by first | exact .inl rfl | exact .inr rfl | assumption)) (@pss_cons _ _ _ _ _ (@ps_for _ _ _ _ _ _ _ _ PassesOwn.never rfl (pi_enum rfl T.n_enumerate (@pa_cons _ _ _ _ _ (pe_slice sl_list (pv 0) (po_some pe_int) (po_some pe_int)) pa_nil (by rfl))) (pg_tup rfl (pgs_cons (pg_name (i:=6) nd rfl (Or.inl rfl)) (pgs_cons (pg_name (i:=7) nd rfl (Or.inl rfl)) pgs_nil))) (@pss_cons _ _ _ _ _ (@ps_set _ _ 8 _ _ _ _ nd rfl (Or.inl rfl) (pe_call GX hr1 rfl T.m_Zx T.k_Zx T.b_Zx .nil pass0 (@pa_cons _ _ _ _ _ (pv 7) (@pa_cons _ _ _ _ _ (pv 6) pa_nil (by rfl)) (by rfl))) (by rfl) (by first | exact .inl rfl | exact .inr rfl | assumption)) (@pss_cons _ _ _ _ _ (@ps_set _ _ 9 _ _ _ _ nd rfl (Or.inl rfl) (pe_call GRW hr6 rfl T.m_ZI T.k_ZI T.b_ZI .nil pass0 (@pa_cons _ _ _ _ _ (pv 8) (@pa_cons _ _ _ _ _ (pv 6) (@pa_cons _ _ _ _ _ (pv 1) (@pa_cons _ _ _ _ _ (pv 4) (@pa_cons _ _ _ _ _ (pv 3) pa_nil (by rfl)) (by rfl)) (by rfl)) (by rfl)) (by rfl))) (by rfl) (by first | exact .inl rfl | exact .inr rfl | assumption)) (@pss_cons _ _ _ _ _ (@ps_if _ _ _ _ _ _ _ _ (pt_cmp (pc_notN (pv 9))) (@pss_cons _ _ _ _ _ (@ps_expr _ _ _ _ (pe_bm PySem.F.plainAttrs_list PySem.F.slot_list_append PySem.F.type_list_append mt_append (@pe_ix _ _ _ _ _ _ _ (ix_tupK (K:=K) rfl) (@pe_ix _ _ _ _ _ _ _ (ix_listK (K:=K) rfl) (pv 3) (pe_un un_neg pe_int) (fun _ _=>rfl)) pe_int (fun _ _=>rfl)) (@pa_cons _ _ _ _ _ (pv 9) pa_nil (by rfl))) (by rfl)) (@pss_one _ _ _ (@ps_expr _ _ _ _ (pe_call GNT hr6 rfl T.m_ZA T.k_ZA T.b_ZA .nil pass0 (@pa_cons _ _ _ _ _ (pv 9) (@pa_cons _ _ _ _ _ (pv 4) (@pa_cons _ _ _ _ _ (pv 5) pa_nil (by rfl)) (by rfl)) (by rfl))) (by rfl)))) pss_nil) (@pss_one _ _ _ (@ps_if _ _ _ _ _ _ _ _ (PW.pt (pw_and (pt_cmp (pc_notN (pv 9))) (pw_and1 (PW.pt (pw_or (@pt_cmpR _ _ _ _ _ _ _ _ op_eq (@pe_ix _ _ _ _ _ _ _ (ix_tupK (K:=K) rfl) (pv 9) pe_int (fun _ _=>rfl)) pe_str (nomark _)) (pw_or1 (@pt_cmpR _ _ _ _ _ _ _ _ op_eq (@pe_ix _ _ _ _ _ _ _ (ix_tupK (K:=K) rfl) (pv 9) pe_int (fun _ _=>rfl)) pe_str (nomark _)))))))) (@pss_one _ _ _ (@ps_expr _ _ _ _ (pe_bm PySem.F.plainAttrs_list PySem.F.slot_list_append PySem.F.type_list_append mt_append (pv 3) (@pa_cons _ _ _ _ _ (@pe_tup _ _ _ _ _ (@pa_cons _ _ _ _ _ (@pe_ix _ _ _ _ _ _ _ (ix_tupK (K:=K) rfl) (pv 9) pe_int (fun _ _=>rfl)) (@pa_cons _ _ _ _ _ (pv 9) pa_nil (by rfl)) (by rfl))) pa_nil (by rfl))) (by rfl))) (@pss_one _ _ _ (@ps_if _ _ _ _ _ _ _ _ (PW.pt (pw_and (@pt_cmpR _ _ _ _ _ _ _ _ op_eq (@pe_op _ _ _ _ _ _ _ _ op_mod (pv 8) pe_int) pe_int (nomark _)) (pw_and (pt_cmp (pc_notN (@pe_ix _ _ _ _ _ _ _ (ix_tupK (K:=K) rfl) (@pe_ix _ _ _ _ _ _ _ (ix_listK (K:=K) rfl) (pv 3) (pe_un un_neg pe_int) (fun _ _=>rfl)) pe_int (fun _ _=>rfl)))) (pw_and1 (@pt_cmpR _ _ _ _ _ _ _ _ op_eq (pe_callB call_len_seq rfl T.n_len bt_len (@pa_cons _ _ _ _ _ (@pe_ix _ _ _ _ _ _ _ (ix_tupK (K:=K) rfl) (@pe_ix _ _ _ _ _ _ _ (ix_listK (K:=K) rfl) (pv 3) (pe_un un_neg pe_int) (fun _ _=>rfl)) pe_int (fun _ _=>rfl)) pa_nil (by rfl))) pe_int (nomark _)))))) (@pss_cons _ _ _ _ _ (@ps_set _ _ 10 _ _ _ _ nd rfl (Or.inl rfl) (@pe_ix _ _ _ _ _ _ _ (ix_tupK (K:=K) rfl) (pe_bm0 PySem.F.plainAttrs_list PySem.F.slot_list_pop PySem.F.type_list_pop mt_pop (pv 3)) pe_int (fun _ _=>rfl)) (by rfl) (by first | exact .inl rfl | exact .inr rfl | assumption)) (@pss_one _ _ _ (@ps_expr _ _ _ _ (pe_bm PySem.F.plainAttrs_list PySem.F.slot_list_append PySem.F.type_list_append mt_append (pv 3) (@pa_cons _ _ _ _ _ (@pe_tup _ _ _ _ _ (@pa_cons _ _ _ _ _ (@pe_ix _ _ _ _ _ _ _ (ix_tupK (K:=K) rfl) (pv 10) pe_int (fun _ _=>rfl)) (@pa_cons _ _ _ _ _ pe_non pa_nil (by rfl)) (by rfl))) pa_nil (by rfl))) (by rfl)))) (@pss_one _ _ _ (@ps_if _ _ _ _ _ _ _ _ (PW.pt (pw_and (@pt_cmpR _ _ _ _ _ _ _ _ op_gt (@pe_op _ _ _ _ _ _ _ _ op_mod (pv 8) pe_int) pe_int (nomark _)) (pw_and1 (@pt_cmpR _ _ _ _ _ _ _ _ op_gt (pe_callB call_len_seq rfl T.n_len bt_len (@pa_cons _ _ _ _ _ (pv 3) pa_nil (by rfl))) pe_int (nomark _))))) (@pss_one _ _ _ (@ps_expr _ _ _ _ (pe_bm0 PySem.F.plainAttrs_list PySem.F.slot_list_pop PySem.F.type_list_pop mt_pop (pv 3)) (by rfl))) pss_nil))))))))) (by intro _;rfl)) (@pss_one _ _ _ (@ps_ret _ _ _ _ (@pe_tup _ _ _ _ _ (@pa_cons _ _ _ _ _ (pv 2) (@pa_cons _ _ _ _ _ (pe_callB (call_sortedTp rfl) rfl T.n_sorted bt_sorted (@pa_cons _ _ _ _ _ (pe_callTy (call_setTp (K:=K) rfl rfl hu3) rfl T.n_set bt_set (@pa_cons _ _ _ _ _ (pv 5) pa_nil (by rfl))) pa_nil (by rfl))) pa_nil (by rfl)) (by rfl))))))))))),?_⟩
  refine ⟨_,rfl,a,is,0,rfl,hS,_,_,rfl,mixI (cellI is 0) 9,rfl,mixI_nn _ _,fun pn H1 hpn0 s1 hpn=>?_⟩
  dsimp only [gName]
  refine ⟨(by show 0<=sizeLine;decide),fun pt hpt=>?_⟩
  dsimp only [gName]
  refine ⟨_,rfl,(by show 2<=sizeLine;decide),fun pq hpq=>⟨(by show 1<=sizeLine;decide),fun st hst=>?_⟩⟩
  dsimp only [gName]
  refine fun pa hpa=>?_
  dsimp only [gName]
  refine ⟨(by show 0<=sizeLine;decide),fun pd hpd=>?_⟩
  dsimp only [gName]
  have sA:=same_upd (o:=.lst []) hpt
  have sB:=same_upd (o:=.tup [.ref pt,.non]) hpq
  have sC:=same_upd (o:=.lst [.ref pq]) hst
  have sD:=same_upd (o:=.dK []) hpa
  have sE:=same_upd (o:=.lst []) hpd
  have fA:=upd_same (H:=H1) (a:=pt) (o:=.lst [])
  have fB:=upd_same (H:=upd H1 pt (.lst [])) (a:=pq) (o:=.tup [.ref pt,.non])
  have fC:=upd_same (H:=upd (upd H1 pt (.lst [])) pq (.tup [.ref pt,.non])) (a:=st) (o:=.lst [.ref pq])
  have fD:=upd_same (H:=upd (upd (upd H1 pt (.lst [])) pq (.tup [.ref pt,.non])) st (.lst [.ref pq])) (a:=pa) (o:=.dK [])
  have fE:=upd_same (H:=upd (upd (upd (upd H1 pt (.lst [])) pq (.tup [.ref pt,.non])) st (.lst [.ref pq])) pa (.dK [])) (a:=pd) (o:=.lst [])
  have gT:=sE _ _ (sD _ _ (sC _ _ (sB _ _ fA)))
  have gQ:=sE _ _ (sD _ _ (sC _ _ fB))
  have gS:=sE _ _ (sD _ _ fC)
  have gD:=sE _ _ fD
  have gN:=sE _ _ (sD _ _ (sC _ _ (sB _ _ (sA _ _ hpn))))
  have nST:H st=none:=s1.free (sA.free (sB.free hst))
  have nPA:H pa=none:=s1.free (sA.free (sB.free (sC.free hpa)))
  have nPD:H pd=none:=s1.free (sA.free (sB.free (sC.free (sD.free hpd))))
  have nPT:H pt=none:=s1.free hpt
  have e1:pn≠pt:=some_ne hpn hpt
  have e2:pn≠st:=some_ne (sB _ _ (sA _ _ hpn)) hst
  have e3:pn≠pa:=some_ne (sC _ _ (sB _ _ (sA _ _ hpn))) hpa
  have e4:pn≠pd:=some_ne (sD _ _ (sC _ _ (sB _ _ (sA _ _ hpn)))) hpd
  have e5:pt≠st:=some_ne (sB _ _ fA) hst
  have e6:pt≠pa:=some_ne (sC _ _ (sB _ _ fA)) hpa
  have e7:pt≠pd:=some_ne (sD _ _ (sC _ _ (sB _ _ fA))) hpd
  have e8:st≠pa:=some_ne fC hpa
  have e9:st≠pd:=some_ne (sD _ _ fC) hpd
  have e10:pa≠pd:=some_ne fD hpd
  have sAll:Same H _:=(((((s1.trans sA).trans sB).trans sC).trans sD).trans sE)
  generalize upd (upd (upd (upd (upd H1 pt (.lst [])) pq (.tup [.ref pt,.non])) st (.lst [.ref pq])) pa (.dK [])) pd (.lst [])=H2 at fE gT gQ gS gD gN sAll ⊢
  clear sE sD sC sB sA fD fC fB fA hpd hpa hst hpq
  have hS2:=sAll.seq hS
  refine cut_for (fun σ' H'=>∃ ps x6 x7 x8 x9 x10,σ'=[some (.ref a),some (.ref pn),some (.ref pt),some (.ref st),some (.ref pa),some (.ref pd),x6,x7,x8,x9,x10]/\BJ H (nsOf is) (csOf is) pn pt st pd pa ps (endOf is) H') (fun R hR=>?_) ?_
  ·refine ⟨_,rfl,1,rfl,19,rfl,a,_,rfl,hS2,fun ps hps=>?_⟩
   rw [cells_cut]
   have sF:=same_upd (o:=.lst ((csOf is).map V.int)) hps
   refine ⟨ps,_,rfl,SqL.of upd_same,?_⟩
   have f1:pn≠ps:=some_ne gN hps
   have f2:pt≠ps:=some_ne gT hps
   have f3:st≠ps:=some_ne gS hps
   have f4:pa≠ps:=some_ne gD hps
   have f5:pd≠ps:=some_ne fE hps
   have b0:BJ H (nsOf is) (csOf is) pn pt st pd pa ps (zK (nsOf is) (csOf is) 0) (upd H2 ps (.lst ((csOf is).map V.int))):=by
    have allN:∀ b∈[pn,pa,pd,ps]++st::[pt],H b=none:=by
     intro b hb
     simp at hb
     rcases hb with rfl | rfl | rfl | rfl | rfl | rfl
     ·exact hpn0
     ·exact nPA
     ·exact nPD
     ·exact sAll.free hps
     ·exact nST
     ·exact nPT
    refine ⟨sAll.trans sF,⟨[⟨pq,pt,0,0,[],[],.non⟩],⟨⟨rfl,sF _ _ gT,.nil⟩,?_,?_,sF _ _ gS,sF _ _ gQ,trivial⟩,rfl,allN⟩,sF _ _ gN,⟨sF _ _ gD,[],sF _ _ fE,rfl,fun i x d h=>by simp at h⟩,upd_same⟩
    ·show ([pn,pa,pd,ps]++st::[pt]).Nodup
     simp [e1,e2,e3,e4,f1,e10,f4,Ne.symm e8,Ne.symm e6,f5,Ne.symm e9,Ne.symm e7,Ne.symm f3,Ne.symm f2,Ne.symm e5]
    ·intro b hb
     have hb:b∈[pn,pa,pd,ps]++st::[pt]:=hb
     simp at hb
     rcases hb with rfl | rfl | rfl | rfl | rfl | rfl
     ·exact ⟨.inl _,sF _ _ gN⟩
     ·exact ⟨.inr _,sF _ _ gD⟩
     ·exact ⟨.inl _,sF _ _ fE⟩
     ·exact ⟨.inl _,upd_same⟩
     ·exact ⟨.inl _,sF _ _ gS⟩
     ·exact ⟨.inl _,sF _ _ gT⟩
   refine for_enum (K:=K) (a:=ps) (xs:=(csOf is).map V.int) (fun i σ' H'=>∃ x6 x7 x8 x9 x10,σ'=[some (.ref a),some (.ref pn),some (.ref pt),some (.ref st),some (.ref pa),some (.ref pd),x6,x7,x8,x9,x10]/\BJ H (nsOf is) (csOf is) pn pt st pd pa ps (zK (nsOf is) (csOf is) i) H') ⟨_,_,_,_,_,rfl,b0⟩ (fun i σ' H' _ h=>by obtain ⟨x6,x7,x8,x9,x10,_,h⟩:=h;exact SqL.of h.hs) ?_ ?_
   ·rintro i x σ' H3 t0 hx ⟨x6,x7,x8,x9,x10,rfl,hB⟩ ht0
    have hil:=(Qh hx).1
    rw [Qi] at hil
    have hcl:=csOf_len is
    have ex:x=.int ((csOf is).getD i 0):=by
     rw [Ql,Qb hil] at hx
     rw [Qe,Qb hil]
     exact (Qr hx).symm
    subst ex
    have hB4:=hB.same (same_upd (o:=.tup [.int ((i:Nat):Int),.int ((csOf is).getD i 0)]) ht0)
    refine ⟨t0,_,rfl,SqT.of upd_same,rfl,_,_,rfl,_,_,rfl,rfl,?_⟩
    generalize upd H3 t0 (.tup [.int ((i:Nat):Int),.int ((csOf is).getD i 0)])=H4 at hB4 ⊢
    have hkn:KnA (nsOf is) (zK (nsOf is) (csOf is) i) i:=zK_ok (names_asc _) (names_len _) _ i (by omega)
    have E1:zK (nsOf is) (csOf is) (i+1)=zNx (nsOf is) (zK (nsOf is) (csOf is) i) (mixI ((csOf is).getD i 0) ((i:Nat):Int)) i:=rfl
    rw [E1]
    clear E1 hB b0
    have hns5:(nsOf is).length=5:=names_len _
    have hnsA:∀ z∈nsOf is,Asc z:=names_asc _
    generalize zK (nsOf is) (csOf is) i=q at hB4 hkn ⊢
    obtain ⟨C,h1,h2,h3⟩:=hB4.zs
    obtain ⟨Z0,ks,ds⟩:=q
    cases Z0 with
    | nil=>exact hkn.zo.elim
    | cons F Z =>
    cases C with
    | nil=>have:=h1.z;cases Z<;>simp [ZAt] at this
    | cons c C =>
    have lc:=h1.lenC
    have o1:=hkn.zo.1
    have o2:=hkn.zo.2.2.2.2.2.1
    have okl:ks.length<=i:=hkn.kl
    have odl:ds.length<=3*i:=hkn.dl
    have okn:∀ z∈ks.map (·.1),z∈nsOf is:=hkn.kn
    refine ⟨_,rfl,_,rfl,_,_,rfl,?_⟩
    generalize mixI ((csOf is).getD i 0) ((i:Nat):Int)=x
    dsimp only [gName]
    have eus:((C.map CF.q).reverse.map V.ref++[V.ref c.q]).length=(F::Z).length:=by simp [lc.1]
    refine ⟨_,rfl,_,rfl,_,rfl,_,rfl,_,rfl,x,i,pn,pa,st,nsOf is,ks,_,rfl,hB4.hn,hns5,hB4.ns.kn,by omega,fun z hz=>hnsA z (okn z hz),h1.stk2,fun v H5 s5 hR5=>?_⟩
    rw [eus] at hR5
    obtain ⟨g1,g2,g3,g4,g5,g6,g7,g8,g9⟩:=rowR_g hnsA hns5 okn x (F::Z).length i
    have hri:=row_is (nsOf is) ks x (F::Z).length
    have ezx:zNx (nsOf is) ⟨F::Z,ks,ds⟩ x i=⟨stepK (rowR (nsOf is) ks x (F::Z).length) F Z x i,addK ks (rowR (nsOf is) ks x (F::Z).length),ds++addD ks i (rowR (nsOf is) ks x (F::Z).length)⟩:=rfl
    rw [ezx]
    clear ezx
    dsimp only [gName]
    generalize rowR (nsOf is) ks x (F::Z).length=k at hR5 g1 g2 g3 hri ⊢
    clear g4 g5 g6 g7 g8 g9
    have hB5:=hB4.same s5
    have hz5:=h1.same s5
    have hne:=hB4.nes.2.2.2.1
    have hsc:=h1.sne
    cases k with
    | set z e =>
     have hR5':=hR5
     obtain ⟨t,ve,rfl,ht5,hE5⟩:=hR5'
     have t6:TupS H5 (upd H5 c.l (.lst (c.xs++[.ref t]))):=fun b zs hb=>by
      rw [upd_ne fun z=>by rw [z,hz5.top] at hb;cases hb]
      exact hb
     have l6:∀ l,H4 l=none->H5 l=some (.lst [])->upd H5 c.l (.lst (c.xs++[.ref t])) l=some (.lst []):=fun l h4 h5=>by
      rw [upd_ne (some_ne h1.top h4).symm]
      exact h5
     have hR6:=RwAt.kept hR5 t6 l6
     have n6:NS (upd H5 c.l (.lst (c.xs++[.ref t]))) pa pd ks ds:=by
      have nd1:=List.nodup_append.mp hz5.nd
      have hcl:c.l∈st::opens (F::Z) (c::C):=Qg _ (by unfold opens;exact List.mem_append_left _ (ops1_l F c))
      obtain ⟨ys,d1,d2⟩:=hB5.ns.du
      exact ⟨by rw [upd_ne fun z=>nd1.2.2 _ (by simp) _ hcl z];exact hB5.ns.kn,ys,by rw [upd_ne fun z=>nd1.2.2 _ (by simp) _ hcl z];exact d1,tups_k t6 d2⟩
     have hx9:x % 9<4:=by
      rcases hri with ⟨z',_,h,q⟩ | ⟨h,q⟩ | ⟨_,_,f,q⟩ | q
      ·omega
      ·omega
      ·cases q
      ·cases q
     refine cut_if (fun σ' H'=>(∃ x10,σ'=[some (.ref a),some (.ref pn),some (.ref pt),some (.ref st),some (.ref pa),some (.ref pd),some (.int ((i:Nat):Int)),some (.int ((csOf is).getD i 0)),some (.int x),some (.ref t),x10])/\BJ H (nsOf is) (csOf is) pn pt st pd pa ps ⟨stepK (.set z e) F Z x i,addK ks (.set z e),ds++addD ks i (.set z e)⟩ H'/\H' t=some (.tup [.str "set",.int ((i:Nat):Int),.str z,ve])) (fun R hR=>?_) ?_
     ·refine ⟨_,rfl,_,rfl,iteT ?_⟩
      refine ⟨_,rfl,1,rfl,st,_,_,_,rfl,rfl,SqL.of hz5.stk2,atI_last _ _,c.q,_,_,_,rfl,rfl,SqT.of hz5.qs.1,atI_nat (j:=0) rfl,.inl ⟨rfl,_,SqL.of hz5.top⟩,_,rfl,c.l,c.xs,_,rfl,rfl,hz5.top,small1000 (by omega),?_⟩
      refine ⟨_,rfl,_,rfl,_,rfl,.ref t,pa,pd,ks,ds,i,.set z e,H4,rfl,hR6,by simp,n6,hne,by omega,by omega,⟨g1,g2,g3⟩,fun H7 c7 n7=>?_⟩
      exact hR _ _ ⟨⟨_,rfl⟩,hB5.putR (x:=.set i z e) hz5 h2 h3 ht5 (fun Hm tm=>.cons (.s _) (.cons (.i _) (.cons (.s _) (.cons (.e (hE5.kept tm)) .nil)))) c7 n7,c7.tup n6 _ _ (t6 _ _ ht5)⟩
     rintro σ' H7 ⟨⟨x10,rfl⟩,hB7,ht7⟩
     refine ⟨_,rfl,_,rfl,iteT ?_⟩
     refine ⟨_,rfl,t,_,_,_,rfl,rfl,SqT.of ht7,atI_nat (j:=0) rfl,rfl,_,rfl,iteFb (by decide +kernel) ?_⟩
     refine ⟨_,rfl,t,_,_,_,rfl,rfl,SqT.of ht7,atI_nat (j:=0) rfl,rfl,_,rfl,iteFb (by decide +kernel) ?_⟩
     refine ⟨_,rfl,_,_,rfl,rfl,(by show (0:Int)<9;decide),rfl,_,rfl,?_⟩
     dsimp only
     rw [dec_int]
     refine iteFb (by show (x % 9 == 6)=false;simp;omega) (iteF ?_)
     refine ⟨_,rfl,_,_,rfl,rfl,(by show (0:Int)<9;decide),_,_,rfl,rfl,_,rfl,iteFb (Qj (by show ¬ (6:Int)<x % 9;omega)) (iteF ?_)⟩
     exact ⟨_,_,_,_,_,rfl,hB7⟩
    | tell e =>
     have hR5':=hR5
     obtain ⟨t,ve,rfl,ht5,hE5⟩:=hR5'
     have t6:TupS H5 (upd H5 c.l (.lst (c.xs++[.ref t]))):=fun b zs hb=>by
      rw [upd_ne fun z=>by rw [z,hz5.top] at hb;cases hb]
      exact hb
     have l6:∀ l,H4 l=none->H5 l=some (.lst [])->upd H5 c.l (.lst (c.xs++[.ref t])) l=some (.lst []):=fun l h4 h5=>by
      rw [upd_ne (some_ne h1.top h4).symm]
      exact h5
     have hR6:=RwAt.kept hR5 t6 l6
     have n6:NS (upd H5 c.l (.lst (c.xs++[.ref t]))) pa pd ks ds:=by
      have nd1:=List.nodup_append.mp hz5.nd
      have hcl:c.l∈st::opens (F::Z) (c::C):=Qg _ (by unfold opens;exact List.mem_append_left _ (ops1_l F c))
      obtain ⟨ys,d1,d2⟩:=hB5.ns.du
      exact ⟨by rw [upd_ne fun z=>nd1.2.2 _ (by simp) _ hcl z];exact hB5.ns.kn,ys,by rw [upd_ne fun z=>nd1.2.2 _ (by simp) _ hcl z];exact d1,tups_k t6 d2⟩
     have hx9:x % 9<4:=by
      rcases hri with ⟨z',_,h,q⟩ | ⟨h,q⟩ | ⟨_,_,f,q⟩ | q
      ·omega
      ·omega
      ·cases q
      ·cases q
     refine cut_if (fun σ' H'=>(∃ x10,σ'=[some (.ref a),some (.ref pn),some (.ref pt),some (.ref st),some (.ref pa),some (.ref pd),some (.int ((i:Nat):Int)),some (.int ((csOf is).getD i 0)),some (.int x),some (.ref t),x10])/\BJ H (nsOf is) (csOf is) pn pt st pd pa ps ⟨stepK (.tell e) F Z x i,addK ks (.tell e),ds++addD ks i (.tell e)⟩ H'/\H' t=some (.tup [.str "tell",.int ((i:Nat):Int),ve])) (fun R hR=>?_) ?_
     ·refine ⟨_,rfl,_,rfl,iteT ?_⟩
      refine ⟨_,rfl,1,rfl,st,_,_,_,rfl,rfl,SqL.of hz5.stk2,atI_last _ _,c.q,_,_,_,rfl,rfl,SqT.of hz5.qs.1,atI_nat (j:=0) rfl,.inl ⟨rfl,_,SqL.of hz5.top⟩,_,rfl,c.l,c.xs,_,rfl,rfl,hz5.top,small1000 (by omega),?_⟩
      refine ⟨_,rfl,_,rfl,_,rfl,.ref t,pa,pd,ks,ds,i,.tell e,H4,rfl,hR6,by simp,n6,hne,by omega,by omega,⟨g1,g2,g3⟩,fun H7 c7 n7=>?_⟩
      exact hR _ _ ⟨⟨_,rfl⟩,hB5.putR (x:=.tell i e) hz5 h2 h3 ht5 (fun Hm tm=>.cons (.s _) (.cons (.i _) (.cons (.e (hE5.kept tm)) .nil))) c7 n7,c7.tup n6 _ _ (t6 _ _ ht5)⟩
     rintro σ' H7 ⟨⟨x10,rfl⟩,hB7,ht7⟩
     refine ⟨_,rfl,_,rfl,iteT ?_⟩
     refine ⟨_,rfl,t,_,_,_,rfl,rfl,SqT.of ht7,atI_nat (j:=0) rfl,rfl,_,rfl,iteFb (by decide +kernel) ?_⟩
     refine ⟨_,rfl,t,_,_,_,rfl,rfl,SqT.of ht7,atI_nat (j:=0) rfl,rfl,_,rfl,iteFb (by decide +kernel) ?_⟩
     refine ⟨_,rfl,_,_,rfl,rfl,(by show (0:Int)<9;decide),rfl,_,rfl,?_⟩
     dsimp only
     rw [dec_int]
     refine iteFb (by show (x % 9 == 6)=false;simp;omega) (iteF ?_)
     refine ⟨_,rfl,_,_,rfl,rfl,(by show (0:Int)<9;decide),_,_,rfl,rfl,_,rfl,iteFb (Qj (by show ¬ (6:Int)<x % 9;omega)) (iteF ?_)⟩
     exact ⟨_,_,_,_,_,rfl,hB7⟩
    | opn f e =>
     obtain ⟨t,ve,l,o,tp,rfl,ht5,hE5,hs⟩:∃ t ve l o tp,v=.ref t/\H5 t=some (.tup tp)/\ExAt H5 ve e/\(((if f=true then Kd.ifB else .whl)=.ifB/\tp=[.str "if",.int ((i:Nat):Int),ve,.ref l,.ref o]/\H4 l=none/\H4 o=none/\H5 l=some (.lst [])/\H5 o=some (.lst [])/\l≠o)∨((if f=true then Kd.ifB else .whl)=.whl/\tp=[.str "while",.int ((i:Nat):Int),ve,.ref l]/\H4 l=none/\H5 l=some (.lst []))):=by
      cases f with
      | true =>
       obtain ⟨t,ve,l,o,a1,a2,a3,a4,a5,a6,a7,a8⟩:=hR5
       exact ⟨t,ve,l,o,_,a1,a2,a3,.inl ⟨rfl,rfl,a4,a5,a6,a7,a8⟩⟩
      | false =>
       obtain ⟨t,ve,l,a1,a2,a3,a4,a6⟩:=hR5
       exact ⟨t,ve,l,0,_,a1,a2,a3,.inr ⟨rfl,rfl,a4,a6⟩⟩
     have t6:TupS H5 (upd H5 c.l (.lst (c.xs++[.ref t]))):=fun b zs hb=>by
      rw [upd_ne fun z=>by rw [z,hz5.top] at hb;cases hb]
      exact hb
     have l6:∀ l,H4 l=none->H5 l=some (.lst [])->upd H5 c.l (.lst (c.xs++[.ref t])) l=some (.lst []):=fun l h4 h5=>by
      rw [upd_ne (some_ne h1.top h4).symm]
      exact h5
     have hR6:=RwAt.kept hR5 t6 l6
     have n6:NS (upd H5 c.l (.lst (c.xs++[.ref t]))) pa pd ks ds:=by
      have nd1:=List.nodup_append.mp hz5.nd
      have hcl:c.l∈st::opens (F::Z) (c::C):=Qg _ (by unfold opens;exact List.mem_append_left _ (ops1_l F c))
      obtain ⟨ys,d1,d2⟩:=hB5.ns.du
      exact ⟨by rw [upd_ne fun z=>nd1.2.2 _ (by simp) _ hcl z];exact hB5.ns.kn,ys,by rw [upd_ne fun z=>nd1.2.2 _ (by simp) _ hcl z];exact d1,tups_k t6 d2⟩
     have htp:∃ hd rest,tp=.str hd::.int ((i:Nat):Int)::ve::.ref l::rest/\(hd="if"∨hd="while"):=by
      rcases hs with ⟨_,q,_⟩ | ⟨_,q,_⟩
      ·exact ⟨_,_,q,.inl rfl⟩
      ·exact ⟨_,_,q,.inr rfl⟩
     refine cut_if (fun σ' H'=>(∃ x10,σ'=[some (.ref a),some (.ref pn),some (.ref pt),some (.ref st),some (.ref pa),some (.ref pd),some (.int ((i:Nat):Int)),some (.int ((csOf is).getD i 0)),some (.int x),some (.ref t),x10])/\Ch2 pa pd (upd H5 c.l (.lst (c.xs++[.ref t]))) H'/\NS H' pa pd (addK ks (.opn f e)) (ds++addD ks i (.opn f e))) (fun R hR=>?_) ?_
     ·refine ⟨_,rfl,_,rfl,iteT ?_⟩
      refine ⟨_,rfl,1,rfl,st,_,_,_,rfl,rfl,SqL.of hz5.stk2,atI_last _ _,c.q,_,_,_,rfl,rfl,SqT.of hz5.qs.1,atI_nat (j:=0) rfl,.inl ⟨rfl,_,SqL.of hz5.top⟩,_,rfl,c.l,c.xs,_,rfl,rfl,hz5.top,small1000 (by omega),?_⟩
      refine ⟨_,rfl,_,rfl,_,rfl,.ref t,pa,pd,ks,ds,i,.opn f e,H4,rfl,hR6,by simp,n6,hne,by omega,by omega,⟨g1,g2,g3⟩,fun H7 c7 n7=>?_⟩
      exact hR _ _ ⟨⟨_,rfl⟩,c7,n7⟩
     rintro σ' H7 ⟨⟨x10,rfl⟩,c7,n7⟩
     have ht7:=c7.tup n6 _ _ (t6 _ _ ht5)
     have hst7:H7 st=some (.lst ((C.map CF.q).reverse.map V.ref++[.ref c.q])):=by
      have nd1:=List.nodup_append.mp hz5.nd
      exact c7 _ _ (fun z=>nd1.2.2 pa (by simp) _ (Qk ..) z.symm) (fun z=>nd1.2.2 pd (by simp) _ (Qk ..) z.symm) (by rw [upd_ne hsc];exact hz5.stk2)
     have hBo:∀ qa,H7 qa=none->_:=fun qa hqa=>hB4.opened h1 h2 h3 s5 ht5 hE5 hs c7 n7 hqa
     obtain ⟨hd,rest,rfl,hhd⟩:=htp
     refine ⟨_,rfl,_,rfl,iteT ?_⟩
     refine ⟨_,rfl,t,_,_,_,rfl,rfl,SqT.of ht7,atI_nat (j:=0) rfl,rfl,_,rfl,?_⟩
     refine or_leaf3 ?_ ?_
     ·rcases hhd with rfl | rfl
      ·exact .inl (by decide +kernel)
      ·exact .inr ⟨by decide +kernel,fun hp=>⟨_,rfl,t,_,_,_,rfl,rfl,SqT.of ht7,atI_nat (j:=0) rfl,rfl,_,rfl,iteTb (by decide +kernel) hp⟩⟩
     refine ⟨_,rfl,.inl ⟨rfl,_,SqL.of hst7⟩,_,rfl,t,_,_,_,rfl,rfl,SqT.of ht7,atI_nat (j:=3) rfl,_,rfl,(by show 2<=sizeLine;decide),fun qa hqa=>⟨st,_,_,rfl,rfl,(upd_ne (some_ne hst7 hqa)).trans hst7,small1000 (by simp;omega),?_⟩⟩
     exact ⟨_,_,_,_,_,rfl,hBo qa hqa⟩
    | no =>
     have hv:v=.non:=hR5
     subst hv
     rw [show addK ks .no=ks from rfl,show ds++addD ks i .no=ds from List.append_nil ds]
     have fin:∀ Z' C' H6,ZS H6 [pn,pa,pd,ps] st Z' C'->(lastL C'=lastL (c::C)/\∀ b∈opens Z' C',b∈opens (F::Z) (c::C))->Out st (opens (F::Z) (c::C)) H5 H6->BJ H (nsOf is) (csOf is) pn pt st pd pa ps ⟨Z',ks,ds⟩ H6:=fun Z' C' H6 z l o=>hB5.row hz5 h2 h3 z l.1 (fun b hb=>.inl (l.2 b hb)) o
     have stay:BJ H (nsOf is) (csOf is) pn pt st pd pa ps ⟨F::Z,ks,ds⟩ H5:=hB5
     have hqs:c.q≠st:=fun z=>by
      have:=hz5.qs.1
      rw [z,hz5.stk2] at this
      cases this
     have hpop:((C.map CF.q).reverse.map V.ref++[V.ref c.q])[((C.map CF.q).reverse.map V.ref++[V.ref c.q]).length-1]?=some (.ref c.q):=by simp
     refine ⟨_,rfl,_,rfl,iteF ?_⟩
     refine ⟨_,rfl,_,rfl,iteF ?_⟩
     refine ⟨_,rfl,_,_,rfl,rfl,(by show (0:Int)<9;decide),rfl,_,rfl,?_⟩
     dsimp only
     rw [dec_int]
     refine ite2 (fun h6=>?_) (fun h6=>?_)
     ·have h6':x % 9=6:=by simpa using h6
      have es:stepK .no F Z x i=elseZ F Z:=if_pos h6
      rw [es]
      refine ⟨_,rfl,1,rfl,st,_,_,_,rfl,rfl,SqL.of hz5.stk2,atI_last _ _,c.q,_,_,_,rfl,rfl,SqT.of hz5.qs.1,atI_nat (j:=1) rfl,_,rfl,?_⟩
      cases hk:F.k with
      | top =>
       have e2:ovOf F c=.non:=by unfold ovOf;rw [hk]
       have e3:elseZ F Z=F::Z:=by unfold elseZ;rw [hk]
       rw [e2,e3]
       refine iteFb rfl (iteF ?_)
       refine ⟨_,rfl,_,_,rfl,rfl,(by show (0:Int)<9;decide),_,_,rfl,rfl,_,rfl,iteFb (Qj (by show ¬ (6:Int)<x % 9;omega)) (iteF ?_)⟩
       exact ⟨_,_,_,_,_,rfl,stay⟩
      | ifO bs =>
       have e2:ovOf F c=.non:=by unfold ovOf;rw [hk]
       have e3:elseZ F Z=F::Z:=by unfold elseZ;rw [hk]
       rw [e2,e3]
       refine iteFb rfl (iteF ?_)
       refine ⟨_,rfl,_,_,rfl,rfl,(by show (0:Int)<9;decide),_,_,rfl,rfl,_,rfl,iteFb (Qj (by show ¬ (6:Int)<x % 9;omega)) (iteF ?_)⟩
       exact ⟨_,_,_,_,_,rfl,stay⟩
      | whl =>
       have e2:ovOf F c=.ref c.s:=by unfold ovOf;rw [hk]
       have e3:elseZ F Z=F::Z:=by unfold elseZ;rw [hk]
       have hq1:=hz5.qs.1
       obtain ⟨G,Z',eZ,hh⟩:=hz5.kat (.inr hk)
       have hcs:H5 c.s=some (.tup [.str "while",.int ((F.r:Nat):Int),c.ve,.ref c.l]):=by
        rcases hh with ⟨q,_⟩ | ⟨_,q⟩
        ·rw [hk] at q;cases q
        ·exact q
       rw [e2] at hq1
       rw [e2,e3]
       refine iteTb rfl ?_
       refine ⟨_,rfl,1,rfl,st,_,_,_,rfl,rfl,SqL.of hz5.stk2,atI_last _ _,c.q,_,_,_,rfl,rfl,SqT.of hq1,atI_nat (j:=1) rfl,c.s,_,rfl,.inr (SqT.of hcs),rfl,_,rfl,iteFb (by show decide (V.int 4=V.int 5)=false;decide +kernel) ?_⟩
       refine ⟨_,rfl,_,_,rfl,rfl,(by show (0:Int)<9;decide),_,_,rfl,rfl,_,rfl,iteFb (Qj (by show ¬ (6:Int)<x % 9;omega)) (iteF ?_)⟩
       exact ⟨_,_,_,_,_,rfl,stay⟩
      | ifB =>
       have e2:ovOf F c=.ref c.s:=by unfold ovOf;rw [hk]
       have e3:elseZ F Z=⟨[],F.r,F.e,.ifO F.ts⟩::Z:=by unfold elseZ;rw [hk]
       have hq1:=hz5.qs.1
       obtain ⟨G,Z',rfl,hh⟩:=hz5.kat (.inl hk)
       have hcs:H5 c.s=some (.tup [.str "if",.int ((F.r:Nat):Int),c.ve,.ref c.l,.ref c.o]):=by
        rcases hh with ⟨_,q⟩ | ⟨q,_⟩
        ·exact q
        ·rw [hk] at q;cases q
       have hcst:c.s≠st:=fun z=>by rw [z,hz5.stk2] at hcs;cases hcs
       rw [e2] at hq1
       rw [e2,e3]
       refine iteTb rfl ?_
       refine ⟨_,rfl,1,rfl,st,_,_,_,rfl,rfl,SqL.of hz5.stk2,atI_last _ _,c.q,_,_,_,rfl,rfl,SqT.of hq1,atI_nat (j:=1) rfl,c.s,_,rfl,.inr (SqT.of hcs),rfl,_,rfl,iteTb (by show decide (V.int 5=V.int 5)=true;decide +kernel) ?_⟩
       refine ⟨_,rfl,.inl ⟨rfl,_,SqL.of hz5.stk2⟩,st,_,.ref c.q,rfl,rfl,hz5.stk2,hpop,?_⟩
       rw [List.dropLast_concat]
       refine ⟨c.q,_,_,_,rfl,rfl,SqT.of (by rw [upd_ne hqs];exact hq1),atI_nat (j:=1) rfl,?_⟩
       dsimp only [gName]
       refine ⟨_,rfl,.inl ⟨rfl,_,SqL.of upd_same⟩,_,rfl,c.s,_,_,_,rfl,rfl,SqT.of (by rw [upd_ne hcst];exact hcs),atI_nat (j:=4) rfl,(by show 2<=sizeLine;decide),fun q hq=>?_⟩
       refine ⟨st,(C.map CF.q).reverse.map V.ref,_,rfl,rfl,?_,small1000 (by simp;omega),?_⟩
       ·rw [upd_ne (some_ne upd_same hq)];exact upd_same
       obtain ⟨C',z2,l2,o2⟩:=hz5.altd hk hq
       exact ⟨_,_,_,_,_,rfl,fin _ _ _ z2 l2 o2⟩
     ·have es:stepK .no F Z x i=if decide (x % 9>6)=true then endZ F Z else F::Z:=if_neg h6
      rw [es]
      refine iteF ?_
      refine ⟨_,rfl,_,_,rfl,rfl,(by show (0:Int)<9;decide),_,_,rfl,rfl,_,rfl,?_⟩
      refine ite2 (fun h7=>?_) (fun h7=>?_)
      ·rw [if_pos (show decide (x % 9>6)=true from h7)]
       refine ⟨_,rfl,st,_,rfl,.inl (SqL.of hz5.stk2),_,_,rfl,rfl,_,rfl,?_⟩
       rw [eus]
       cases Z with
       | nil =>
        refine iteFb (Qj (by show ¬ (1:Int)<((0+1:Nat):Int);omega)) ?_
        exact ⟨_,_,_,_,_,rfl,stay⟩
       | cons G Z' =>
        refine iteTb (Qw (by show (1:Int)<((Z'.length+1+1:Nat):Int);omega)) ?_
        refine ⟨_,rfl,.inl ⟨rfl,_,SqL.of hz5.stk2⟩,st,_,.ref c.q,rfl,rfl,hz5.stk2,hpop,?_⟩
        rw [List.dropLast_concat]
        obtain ⟨C',z2,l2,o2⟩:=hz5.popped
        exact ⟨_,_,_,_,_,rfl,fin _ _ _ z2 l2 o2⟩
      ·rw [if_neg (show ¬ decide (x % 9>6)=true from h7)]
       refine iteF ?_
       exact ⟨_,_,_,_,_,rfl,stay⟩
   ·rintro σ' H3 ⟨x6,x7,x8,x9,x10,rfl,hB⟩
    rw [Qi] at hB
    exact hR _ _ ⟨ps,x6,x7,x8,x9,x10,rfl,hB⟩
  rintro σ' H3 ⟨ps,x6,x7,x8,x9,x10,rfl,hB⟩
  obtain ⟨C,h1,h2,h3⟩:=hB.zs
  obtain ⟨ys,d1,d2⟩:=hB.ns.du
  obtain ⟨bs,rfl⟩:=tups_refs d2
  obtain ⟨g1,g2,g3⟩:=tree_ok is
  have hdk:=(end_ok is).dk
  have hbl:bs.length=(endOf is).ds.length:=by have:=d2.1;simpa using this
  refine ⟨_,rfl,_,rfl,pd,bs,(endOf is).ds,rfl,SqL.of d1,d2,fun d hd=>?_,by omega,fun q hq=>?_⟩
  ·obtain ⟨r,h | h⟩:=hdk d hd
   ·exact ⟨"kind",by rw [h];simp [kk]⟩
   ·exact ⟨"truth",by rw [h];simp [kk]⟩
  have sq:=same_upd (o:=SetTp w q bs (endOf is).ds) hq
  refine ⟨q,bs,(endOf is).ds,[true,false],rfl,upd_same,tups_k sq.ls.1 d2,fun d hd=>?_,by simp,by omega,fun p cs es hp hT hso hme=>?_⟩
  ·obtain ⟨r,h | h⟩:=hdk d hd<;>rw [h]<;>rfl
  have sp:=same_upd (o:=.lst (cs.map V.ref)) hp
  refine ⟨(by show 2<=sizeLine;decide),fun t ht=>?_⟩
  have st5:=same_upd (o:=.tup [.ref pt,.ref p]) ht
  have fin:∃ xs,H3 pt=some (.lst xs)/\LAt H3 false xs (treeF is):=by
   unfold treeF
   have hz:=h1.z
   cases hZ:(endOf is).Z with
   | nil=>rw [hZ] at hz;simp [ZAt] at hz
   | cons F Z =>
    rw [hZ] at hz
    cases C with
    | nil=>cases Z<;>simp [ZAt] at hz
    | cons c C =>
     obtain ⟨xs,q1,q2⟩:=ZAt.up hz .nil
     rw [h2] at q1
     refine ⟨xs,q1,?_⟩
     simp only [List.append_nil] at q2
     exact q2
  obtain ⟨xs,q1,q2⟩:=fin
  have sA:=(sq.trans sp).trans st5
  exact kq t pt p xs _ _ es (hB.sm.trans sA) upd_same (sA _ _ q1) (q2.kept sA.ls) (st5 _ _ upd_same) (tups_k (sp.trans st5).ls.1 hT) hso hme
end
section
variable {P:Program} {w:World} {K:W.Frag} {mg:Str->Option Value} {base:Heap} {AA:Adr} {DD:Fds}
theorem srtK_all {fs:List (List Key)} (hj:∀ j,j<fs.length->j∈srtI fs) {k:List Key} (h:k∈fs):k∈srtK fs:=by
 obtain ⟨j,hl,e⟩:=List.getElem_of_mem h
 unfold srtK
 refine List.mem_map.mpr ⟨j,hj j hl,?_⟩
 rw [Qe,Qb hl]
 exact e
theorem found_is (is:List Int) {es:List (List Key)} (hso:es.Pairwise (fun x y=>ltT x y=true)) (hme:∀ k,k∈es↔k∈(endOf is).ds):srtK (fK (treeF is))=es:=by
 have m:=(end_ok is).mi
 have hn:(fK (treeF is)).Nodup:=m.nd
 have hmm:∀ k,k∈fK (treeF is)↔k∈(endOf is).ds:=m.me
 obtain ⟨u1,u2,u3⟩:=srt_un (fK_sh (treeF is)) hn
 exact asc_one u1 hso fun d=>⟨fun h=>(hme d).mpr ((hmm d).mp (srtK_mem h)),fun h=>srtK_all u3 ((hmm d).mpr ((hme d).mp h))⟩
noncomputable def spLaw (K:W.Frag):Sp:=fun vs H Q _=>∃ (a:Addr) (ns:List Int),vs=[.ref a]/\SqL K H a (ns.map V.int)/\ns.length<=63/\∀ H',Q (.bl true) H'
noncomputable abbrev N_law:List Str:=["_law_script","_law_tree","_law_due","_law_found"]
theorem sc_law:FnScope N_law ["_law_script"] (defScope st_law):=⟨rfl,rfl,rfl,by decide +kernel,rfl,by decide +kernel,by decide +kernel⟩
theorem ok_law (T:All P w K mg AA DD) {f:Addr} {fd:FuncData} (F:Fun K "law" "law" st_law f fd):FnOk P w K mg base CX0 40 f fd ["_law_script"] (spLaw K):=by
 have GB:=ok_built (base:=base) T
 have GPK:=ok_pk (base:=base) T
 refine F.ok sc_law (fun vs H Q E h=>?_) (fun cdv A outer s H vs Q E hr h=>?_)
 ·obtain ⟨a,ns,rfl,_⟩:=h
  rfl
 ·obtain ⟨a,is,rfl,hS,hlen,kq⟩:=h
  have nd:=sc_law.nd
  have hu:=hr.units
  have hrP:Room 29 _:=hr.mono (by decide)
  have hr7:Room 7 _:=hr.mono (by decide)
  refine ⟨_,(@pss_cons _ _ _ _ _ (ps_asg (pe_call GB hr7 rfl T.m_ZB T.k_ZB T.b_ZB .nil pass0 (@pa_cons _ _ _ _ _ (pv 0) pa_nil (by rfl))) (pg_tup rfl (pgs_cons (pg_name (i:=1) nd rfl (Or.inl rfl)) (pgs_cons (pg_name (i:=2) nd rfl (Or.inl rfl)) pgs_nil)))) (@pss_cons _ _ _ _ _ (@ps_set _ _ 3 _ _ _ _ nd rfl (Or.inl rfl) (pe_call GPK hrP rfl T.m_Zo T.k_Zo T.b_Zo .nil pass0 (@pa_cons _ _ _ _ _ (pv 1) pa_nil (by rfl))) (by rfl) (by first | exact .inl rfl | exact .inr rfl | assumption)) (@pss_one _ _ _ (@ps_ret _ _ _ _ (pe_and (pe_callB (call_isinstK (K:=K) (n:="list") rfl) rfl T.n_isinstance bt_isi (@pa_cons _ _ _ _ _ (pv 3) (@pa_cons _ _ _ _ _ (pe_bltn (v:=.ty "list") rfl T.n_list bt_list rfl) pa_nil (by rfl)) (by rfl))) (pe_and (@pe_cmpR _ _ _ _ _ _ _ _ (op_eqD (K:=K) rfl hu) (pv 3) (pv 2) (nomark _)) (pe_one (@pe_cmpR _ _ _ _ _ _ _ _ (op_eqD (K:=K) rfl hu) (pv 1) (@pe_ix _ _ _ _ _ _ _ (ix_tupK (K:=K) rfl) (pe_call GB hr7 rfl T.m_ZB T.k_ZB T.b_ZB .nil pass0 (@pa_cons _ _ _ _ _ (pv 0) pa_nil (by rfl))) pe_int (fun _ _=>rfl)) (nomark _))))))))),?_⟩
  obtain ⟨tok,tlen,_⟩:=tree_ok is
  have hrw:∀ x∈flats (treeF is),RwA x:=(end_ok is).fl
  have hshd:Shd 15 (.list (trsD (treeF is))):=(Shd.list (trs_shd _ hrw)).up (by have:=tok.1;omega)
  refine ⟨_,rfl,a,is,rfl,hS,hlen,fun t l d xs ds H1 es s1 ht hl hL hd hD hso hme=>?_⟩
  have efk:=found_is is hso hme
  refine ⟨t,_,rfl,SqT.of ht,rfl,_,_,rfl,_,_,rfl,rfl,?_⟩
  refine ⟨_,rfl,l,xs,treeF is,rfl,hl,hL,tok,tlen,fun p ys H2 l2 hp hT hno=>?_⟩
  rw [efk] at hT
  dsimp only [gName]
  have hkd:∀ k∈es,Shd 1 (kD k):=fun k hk=>by
   have hz:∀ r (z:Str),Asc z->Shd 1 (kD (kk r z)):=fun r z hz=>Shd.tuple fun d hd=>by
    simp only [kk,List.map_cons,List.map_nil,List.mem_cons,List.not_mem_nil,or_false] at hd
    rcases hd with rfl | rfl
    ·exact .int _
    ·exact .str hz
   obtain ⟨r,h | h⟩:=(end_ok is).dk k ((hme k).mp hk)
   ·rw [h];exact hz r _ (by unfold Asc;decide +kernel)
   ·rw [h];exact hz r _ (by unfold Asc;decide +kernel)
  have shl:SeqAt.shaped (.list (es.map kD))=true:=(Shd.list (n:=1) fun d hd=>by obtain ⟨k,hk,rfl⟩:=QF hd;exact hkd k hk).ok (by decide)
  have er:PyData.eqv (.list (es.map kD)) (.list (es.map kD))=true:=by simp only [PyData.eqv];exact eqvAll_refl _
  have hS2:=l2.seq (s1.seq hS)
  refine ⟨_,rfl,.ref p,_,true,rfl,.lst hp,by rfl,?_⟩
  refine ⟨_,rfl,iteT ?_⟩
  refine ⟨_,rfl,_,rfl,.list (es.map kD),.list (es.map kD),.lst (SqL.of hp) (rdv_tups hT),.lst (SqL.of (l2.2 _ _ hd)) (rdv_tups (tups_k l2.1 hD)),shl,shl,_,rfl,?_⟩
  rw [er]
  refine iteT ?_
  refine ⟨_,rfl,_,rfl,a,is,rfl,hS2,hlen,fun t' l' d' xs' ds' H3 es' s3 ht' hl' hL' _ _ _ _=>?_⟩
  have l3:=l2.trans s3.ls
  refine ⟨t',_,_,_,rfl,rfl,SqT.of ht',atI_nat (j:=0) rfl,.list (trsD (treeF is)),.list (trsD (treeF is)),.lst (SqL.of (l3.2 _ _ hl)) (trs_rdv hrw (hL.kept l3)),.lst (SqL.of hl') (trs_rdv hrw hL'),hshd.ok (by decide),hshd.ok (by decide),?_⟩
  rw [hshd.refl]
  exact kq _
end
theorem all_mk {l:W.OpenLaw} {w:World} {K:W.Frag} {h:Heap} {mg:Str->Option Value} {fa f_ZM f_ZG f_ZJ f_Zq f_ZK f_Zr f_Zt f_Zi f_Zj f_Zu f_Zh f_Zv f_Zs f_ZC f_ZH f_ZD f_ZN f_Zw f_ZL f_Zm f_Zo f_Zp f_Zx f_Zy f_ZE f_ZF f_Zz f_ZI f_ZA f_ZB f_Zk f_Zl f_Zb f_Zd f_Ze f_Zf f_Zn f_Zg f_Zc f_Za f_law c_KindLook d_MAKES d_ASKS q_PLAIN_KINDS:Addr} (X:K.In h) (G:h.Ns mainGlobals mg) (hfa:mg "law"=some (.ref fa))
  {od_ZM an_ZM od_ZG an_ZG od_ZJ an_ZJ od_Zq an_Zq od_ZK an_ZK od_Zr an_Zr od_Zt an_Zt od_Zi an_Zi od_Zj an_Zj od_Zu an_Zu od_Zh an_Zh od_Zv an_Zv od_Zs an_Zs od_ZC an_ZC od_ZH an_ZH od_ZD an_ZD od_ZN an_ZN od_Zw an_Zw od_ZL an_ZL od_Zm an_Zm od_Zo an_Zo od_Zp an_Zp od_Zx an_Zx od_Zy an_Zy od_ZE an_ZE od_ZF an_ZF od_Zz an_Zz od_ZI an_ZI od_ZA an_ZA od_ZB an_ZB od_Zk an_Zk od_Zl an_Zl od_Zb an_Zb od_Zd an_Zd od_Ze an_Ze od_Zf an_Zf od_Zn an_Zn od_Zg an_Zg od_Zc an_Zc od_Za an_Za od_law an_law:Option Addr} {sl_ZM sl_ZG sl_ZJ sl_Zq sl_ZK sl_Zr sl_Zt sl_Zi sl_Zj sl_Zu sl_Zh sl_Zv sl_Zs sl_ZC sl_ZH sl_ZD sl_ZN sl_Zw sl_ZL sl_Zm sl_Zo sl_Zp sl_Zx sl_Zy sl_ZE sl_ZF sl_Zz sl_ZI sl_ZA sl_ZB sl_Zk sl_Zl sl_Zb sl_Zd sl_Ze sl_Zf sl_Zn sl_Zg sl_Zc sl_Za sl_law:Array (Option Value)} {oc_ZM kV_ZM dc_ZM pm_ZM cd_ZM ct_ZM oc_ZG kV_ZG dc_ZG pm_ZG cd_ZG ct_ZG oc_ZJ kV_ZJ dc_ZJ pm_ZJ cd_ZJ ct_ZJ oc_Zq kV_Zq dc_Zq pm_Zq cd_Zq ct_Zq oc_ZK kV_ZK dc_ZK pm_ZK cd_ZK ct_ZK oc_Zr kV_Zr dc_Zr pm_Zr cd_Zr ct_Zr oc_Zt kV_Zt dc_Zt pm_Zt cd_Zt ct_Zt oc_Zi kV_Zi dc_Zi pm_Zi cd_Zi ct_Zi oc_Zj kV_Zj dc_Zj pm_Zj cd_Zj ct_Zj oc_Zu kV_Zu dc_Zu pm_Zu cd_Zu ct_Zu oc_Zh kV_Zh dc_Zh pm_Zh cd_Zh ct_Zh oc_Zv kV_Zv dc_Zv pm_Zv cd_Zv ct_Zv oc_Zs kV_Zs dc_Zs pm_Zs cd_Zs ct_Zs oc_ZC kV_ZC dc_ZC pm_ZC cd_ZC ct_ZC oc_ZH kV_ZH dc_ZH pm_ZH cd_ZH ct_ZH oc_ZD kV_ZD dc_ZD pm_ZD cd_ZD ct_ZD oc_ZN kV_ZN dc_ZN pm_ZN cd_ZN ct_ZN oc_Zw kV_Zw dc_Zw pm_Zw cd_Zw ct_Zw oc_ZL kV_ZL dc_ZL pm_ZL cd_ZL ct_ZL oc_Zm kV_Zm dc_Zm pm_Zm cd_Zm ct_Zm oc_Zo kV_Zo dc_Zo pm_Zo cd_Zo ct_Zo oc_Zp kV_Zp dc_Zp pm_Zp cd_Zp ct_Zp oc_Zx kV_Zx dc_Zx pm_Zx cd_Zx ct_Zx oc_Zy kV_Zy dc_Zy pm_Zy cd_Zy ct_Zy oc_ZE kV_ZE dc_ZE pm_ZE cd_ZE ct_ZE oc_ZF kV_ZF dc_ZF pm_ZF cd_ZF ct_ZF oc_Zz kV_Zz dc_Zz pm_Zz cd_Zz ct_Zz oc_ZI kV_ZI dc_ZI pm_ZI cd_ZI ct_ZI oc_ZA kV_ZA dc_ZA pm_ZA cd_ZA ct_ZA oc_ZB kV_ZB dc_ZB pm_ZB cd_ZB ct_ZB oc_Zk kV_Zk dc_Zk pm_Zk cd_Zk ct_Zk oc_Zl kV_Zl dc_Zl pm_Zl cd_Zl ct_Zl oc_Zb kV_Zb dc_Zb pm_Zb cd_Zb ct_Zb oc_Zd kV_Zd dc_Zd pm_Zd cd_Zd ct_Zd oc_Ze kV_Ze dc_Ze pm_Ze cd_Ze ct_Ze oc_Zf kV_Zf dc_Zf pm_Zf cd_Zf ct_Zf oc_Zn kV_Zn dc_Zn pm_Zn cd_Zn ct_Zn oc_Zg kV_Zg dc_Zg pm_Zg cd_Zg ct_Zg oc_Zc kV_Zc dc_Zc pm_Zc cd_Zc ct_Zc oc_Za kV_Za dc_Za pm_Za cd_Za ct_Za oc_law kV_law dc_law pm_law cd_law ct_law:Value}
  {h_MAKES_0 h_MAKES_1 h_MAKES_2 h_MAKES_3 h_MAKES_4 h_MAKES_5 h_MAKES_6 h_MAKES_7 h_MAKES_8 h_MAKES_9:Int} {t_MAKES_0 u_MAKES_0 t_MAKES_1 u_MAKES_1 t_MAKES_2 u_MAKES_2 t_MAKES_3 u_MAKES_3 t_MAKES_4 u_MAKES_4 t_MAKES_5 u_MAKES_5 t_MAKES_6 u_MAKES_6 t_MAKES_7 u_MAKES_7 t_MAKES_8 u_MAKES_8 t_MAKES_9 u_MAKES_9:Tok} {ep_MAKES:Nat}
  {h_ASKS_0 h_ASKS_1 h_ASKS_2 h_ASKS_3 h_ASKS_4 h_ASKS_5 h_ASKS_6 h_ASKS_7:Int} {t_ASKS_0 u_ASKS_0 t_ASKS_1 u_ASKS_1 t_ASKS_2 u_ASKS_2 t_ASKS_3 u_ASKS_3 t_ASKS_4 u_ASKS_4 t_ASKS_5 u_ASKS_5 t_ASKS_6 u_ASKS_6 t_ASKS_7 u_ASKS_7:Tok} {ep_ASKS:Nat}
  {t_PLAIN_KINDS_0 t_PLAIN_KINDS_1:Tok} {od_PLAIN_KINDS:Option Addr} {n_PLAIN_KINDS:Nat} {sl_PLAIN_KINDS:Array (Option Value)}
  (aC_KindLook:W.nsIn K mainGlobals "KindLook"=some (some (.ref c_KindLook)))
  (a_ZM:W.nsIn K mainGlobals "least"=some (some (.ref f_ZM)))
  (l_ZM:K.lookup f_ZM=some ⟨oc_ZM,od_ZM,.func (W.fnOf "least" "least" (defArgs st_ZM) (defBody st_ZM) (defScope st_ZM) .none kV_ZM dc_ZM pm_ZM an_ZM cd_ZM ct_ZM),sl_ZM⟩)
  (c_ZM':W.codeIn K cd_ZM "least"=true)
  (k_ZM:W.keepIn K (.ref f_ZM)=true)
  (a_ZG:W.nsIn K mainGlobals "without"=some (some (.ref f_ZG)))
  (l_ZG:K.lookup f_ZG=some ⟨oc_ZG,od_ZG,.func (W.fnOf "without" "without" (defArgs st_ZG) (defBody st_ZG) (defScope st_ZG) .none kV_ZG dc_ZG pm_ZG an_ZG cd_ZG ct_ZG),sl_ZG⟩)
  (c_ZG':W.codeIn K cd_ZG "without"=true)
  (k_ZG:W.keepIn K (.ref f_ZG)=true)
  (a_ZJ:W.nsIn K mainGlobals "all_of"=some (some (.ref f_ZJ)))
  (l_ZJ:K.lookup f_ZJ=some ⟨oc_ZJ,od_ZJ,.func (W.fnOf "all_of" "all_of" (defArgs st_ZJ) (defBody st_ZJ) (defScope st_ZJ) .none kV_ZJ dc_ZJ pm_ZJ an_ZJ cd_ZJ ct_ZJ),sl_ZJ⟩)
  (c_ZJ':W.codeIn K cd_ZJ "all_of"=true)
  (k_ZJ:W.keepIn K (.ref f_ZJ)=true)
  (a_Zq:W.nsIn K mainGlobals "kept_pairs"=some (some (.ref f_Zq)))
  (l_Zq:K.lookup f_Zq=some ⟨oc_Zq,od_Zq,.func (W.fnOf "kept_pairs" "kept_pairs" (defArgs st_Zq) (defBody st_Zq) (defScope st_Zq) .none kV_Zq dc_Zq pm_Zq an_Zq cd_Zq ct_Zq),sl_Zq⟩)
  (c_Zq':W.codeIn K cd_Zq "kept_pairs"=true)
  (k_Zq:W.keepIn K (.ref f_Zq)=true)
  (a_ZK:W.nsIn K mainGlobals "add_to"=some (some (.ref f_ZK)))
  (l_ZK:K.lookup f_ZK=some ⟨oc_ZK,od_ZK,.func (W.fnOf "add_to" "add_to" (defArgs st_ZK) (defBody st_ZK) (defScope st_ZK) .none kV_ZK dc_ZK pm_ZK an_ZK cd_ZK ct_ZK),sl_ZK⟩)
  (c_ZK':W.codeIn K cd_ZK "add_to"=true)
  (k_ZK:W.keepIn K (.ref f_ZK)=true)
  (a_Zr:W.nsIn K mainGlobals "with_masks"=some (some (.ref f_Zr)))
  (l_Zr:K.lookup f_Zr=some ⟨oc_Zr,od_Zr,.func (W.fnOf "with_masks" "with_masks" (defArgs st_Zr) (defBody st_Zr) (defScope st_Zr) .none kV_Zr dc_Zr pm_Zr an_Zr cd_Zr ct_Zr),sl_Zr⟩)
  (c_Zr':W.codeIn K cd_Zr "with_masks"=true)
  (k_Zr:W.keepIn K (.ref f_Zr)=true)
  (a_Zt:W.nsIn K mainGlobals "kept_tree"=some (some (.ref f_Zt)))
  (l_Zt:K.lookup f_Zt=some ⟨oc_Zt,od_Zt,.func (W.fnOf "kept_tree" "kept_tree" (defArgs st_Zt) (defBody st_Zt) (defScope st_Zt) .none kV_Zt dc_Zt pm_Zt an_Zt cd_Zt ct_Zt),sl_Zt⟩)
  (c_Zt':W.codeIn K cd_Zt "kept_tree"=true)
  (k_Zt:W.keepIn K (.ref f_Zt)=true)
  (a_Zi:W.nsIn K mainGlobals "kept_statement"=some (some (.ref f_Zi)))
  (l_Zi:K.lookup f_Zi=some ⟨oc_Zi,od_Zi,.func (W.fnOf "kept_statement" "kept_statement" (defArgs st_Zi) (defBody st_Zi) (defScope st_Zi) .none kV_Zi dc_Zi pm_Zi an_Zi cd_Zi ct_Zi),sl_Zi⟩)
  (c_Zi':W.codeIn K cd_Zi "kept_statement"=true)
  (k_Zi:W.keepIn K (.ref f_Zi)=true)
  (a_Zj:W.nsIn K mainGlobals "row_and_least"=some (some (.ref f_Zj)))
  (l_Zj:K.lookup f_Zj=some ⟨oc_Zj,od_Zj,.func (W.fnOf "row_and_least" "row_and_least" (defArgs st_Zj) (defBody st_Zj) (defScope st_Zj) .none kV_Zj dc_Zj pm_Zj an_Zj cd_Zj ct_Zj),sl_Zj⟩)
  (c_Zj':W.codeIn K cd_Zj "row_and_least"=true)
  (k_Zj:W.keepIn K (.ref f_Zj)=true)
  (a_Zu:W.nsIn K mainGlobals "shared_of"=some (some (.ref f_Zu)))
  (l_Zu:K.lookup f_Zu=some ⟨oc_Zu,od_Zu,.func (W.fnOf "shared_of" "shared_of" (defArgs st_Zu) (defBody st_Zu) (defScope st_Zu) .none kV_Zu dc_Zu pm_Zu an_Zu cd_Zu ct_Zu),sl_Zu⟩)
  (c_Zu':W.codeIn K cd_Zu "shared_of"=true)
  (k_Zu:W.keepIn K (.ref f_Zu)=true)
  (a_Zh:W.nsIn K mainGlobals "shared_statement"=some (some (.ref f_Zh)))
  (l_Zh:K.lookup f_Zh=some ⟨oc_Zh,od_Zh,.func (W.fnOf "shared_statement" "shared_statement" (defArgs st_Zh) (defBody st_Zh) (defScope st_Zh) .none kV_Zh dc_Zh pm_Zh an_Zh cd_Zh ct_Zh),sl_Zh⟩)
  (c_Zh':W.codeIn K cd_Zh "shared_statement"=true)
  (k_Zh:W.keepIn K (.ref f_Zh)=true)
  (a_Zv:W.nsIn K mainGlobals "blocks_of"=some (some (.ref f_Zv)))
  (l_Zv:K.lookup f_Zv=some ⟨oc_Zv,od_Zv,.func (W.fnOf "blocks_of" "blocks_of" (defArgs st_Zv) (defBody st_Zv) (defScope st_Zv) .none kV_Zv dc_Zv pm_Zv an_Zv cd_Zv ct_Zv),sl_Zv⟩)
  (c_Zv':W.codeIn K cd_Zv "blocks_of"=true)
  (k_Zv:W.keepIn K (.ref f_Zv)=true)
  (a_Zs:W.nsIn K mainGlobals "first_rows"=some (some (.ref f_Zs)))
  (l_Zs:K.lookup f_Zs=some ⟨oc_Zs,od_Zs,.func (W.fnOf "first_rows" "first_rows" (defArgs st_Zs) (defBody st_Zs) (defScope st_Zs) .none kV_Zs dc_Zs pm_Zs an_Zs cd_Zs ct_Zs),sl_Zs⟩)
  (c_Zs':W.codeIn K cd_Zs "first_rows"=true)
  (k_Zs:W.keepIn K (.ref f_Zs)=true)
  (a_ZC:W.nsIn K mainGlobals "pairs_of"=some (some (.ref f_ZC)))
  (l_ZC:K.lookup f_ZC=some ⟨oc_ZC,od_ZC,.func (W.fnOf "pairs_of" "pairs_of" (defArgs st_ZC) (defBody st_ZC) (defScope st_ZC) .none kV_ZC dc_ZC pm_ZC an_ZC cd_ZC ct_ZC),sl_ZC⟩)
  (c_ZC':W.codeIn K cd_ZC "pairs_of"=true)
  (k_ZC:W.keepIn K (.ref f_ZC)=true)
  (a_ZH:W.nsIn K mainGlobals "expr_of"=some (some (.ref f_ZH)))
  (l_ZH:K.lookup f_ZH=some ⟨oc_ZH,od_ZH,.func (W.fnOf "expr_of" "expr_of" (defArgs st_ZH) (defBody st_ZH) (defScope st_ZH) .none kV_ZH dc_ZH pm_ZH an_ZH cd_ZH ct_ZH),sl_ZH⟩)
  (c_ZH':W.codeIn K cd_ZH "expr_of"=true)
  (k_ZH:W.keepIn K (.ref f_ZH)=true)
  (a_ZD:W.nsIn K mainGlobals "exprs_in"=some (some (.ref f_ZD)))
  (l_ZD:K.lookup f_ZD=some ⟨oc_ZD,od_ZD,.func (W.fnOf "exprs_in" "exprs_in" (defArgs st_ZD) (defBody st_ZD) (defScope st_ZD) .none kV_ZD dc_ZD pm_ZD an_ZD cd_ZD ct_ZD),sl_ZD⟩)
  (c_ZD':W.codeIn K cd_ZD "exprs_in"=true)
  (k_ZD:W.keepIn K (.ref f_ZD)=true)
  (a_ZN:W.nsIn K mainGlobals "unfit"=some (some (.ref f_ZN)))
  (l_ZN:K.lookup f_ZN=some ⟨oc_ZN,od_ZN,.func (W.fnOf "unfit" "unfit" (defArgs st_ZN) (defBody st_ZN) (defScope st_ZN) .none kV_ZN dc_ZN pm_ZN an_ZN cd_ZN ct_ZN),sl_ZN⟩)
  (c_ZN':W.codeIn K cd_ZN "unfit"=true)
  (k_ZN:W.keepIn K (.ref f_ZN)=true)
  (a_Zw:W.nsIn K mainGlobals "is_record"=some (some (.ref f_Zw)))
  (l_Zw:K.lookup f_Zw=some ⟨oc_Zw,od_Zw,.func (W.fnOf "is_record" "is_record" (defArgs st_Zw) (defBody st_Zw) (defScope st_Zw) .none kV_Zw dc_Zw pm_Zw an_Zw cd_Zw ct_Zw),sl_Zw⟩)
  (c_Zw':W.codeIn K cd_Zw "is_record"=true)
  (k_Zw:W.keepIn K (.ref f_Zw)=true)
  (a_ZL:W.nsIn K mainGlobals "giving"=some (some (.ref f_ZL)))
  (l_ZL:K.lookup f_ZL=some ⟨oc_ZL,od_ZL,.func (W.fnOf "giving" "giving" (defArgs st_ZL) (defBody st_ZL) (defScope st_ZL) .none kV_ZL dc_ZL pm_ZL an_ZL cd_ZL ct_ZL),sl_ZL⟩)
  (c_ZL':W.codeIn K cd_ZL "giving"=true)
  (k_ZL:W.keepIn K (.ref f_ZL)=true)
  (a_Zm:W.nsIn K mainGlobals "shared_kinds"=some (some (.ref f_Zm)))
  (l_Zm:K.lookup f_Zm=some ⟨oc_Zm,od_Zm,.func (W.fnOf "shared_kinds" "shared_kinds" (defArgs st_Zm) (defBody st_Zm) (defScope st_Zm) .none kV_Zm dc_Zm pm_Zm an_Zm cd_Zm ct_Zm),sl_Zm⟩)
  (c_Zm':W.codeIn K cd_Zm "shared_kinds"=true)
  (k_Zm:W.keepIn K (.ref f_Zm)=true)
  (a_Zo:W.nsIn K mainGlobals "plain_kinds"=some (some (.ref f_Zo)))
  (l_Zo:K.lookup f_Zo=some ⟨oc_Zo,od_Zo,.func (W.fnOf "plain_kinds" "plain_kinds" (defArgs st_Zo) (defBody st_Zo) (defScope st_Zo) .none kV_Zo dc_Zo pm_Zo an_Zo cd_Zo ct_Zo),sl_Zo⟩)
  (c_Zo':W.codeIn K cd_Zo "plain_kinds"=true)
  (k_Zo:W.keepIn K (.ref f_Zo)=true)
  (a_Zp:W.nsIn K mainGlobals "_law_cell_at"=some (some (.ref f_Zp)))
  (l_Zp:K.lookup f_Zp=some ⟨oc_Zp,od_Zp,.func (W.fnOf "_law_cell_at" "_law_cell_at" (defArgs st_Zp) (defBody st_Zp) (defScope st_Zp) .none kV_Zp dc_Zp pm_Zp an_Zp cd_Zp ct_Zp),sl_Zp⟩)
  (c_Zp':W.codeIn K cd_Zp "_law_cell_at"=true)
  (k_Zp:W.keepIn K (.ref f_Zp)=true)
  (a_Zx:W.nsIn K mainGlobals "_law_mixed"=some (some (.ref f_Zx)))
  (l_Zx:K.lookup f_Zx=some ⟨oc_Zx,od_Zx,.func (W.fnOf "_law_mixed" "_law_mixed" (defArgs st_Zx) (defBody st_Zx) (defScope st_Zx) .none kV_Zx dc_Zx pm_Zx an_Zx cd_Zx ct_Zx),sl_Zx⟩)
  (c_Zx':W.codeIn K cd_Zx "_law_mixed"=true)
  (k_Zx:W.keepIn K (.ref f_Zx)=true)
  (a_Zy:W.nsIn K mainGlobals "_law_names"=some (some (.ref f_Zy)))
  (l_Zy:K.lookup f_Zy=some ⟨oc_Zy,od_Zy,.func (W.fnOf "_law_names" "_law_names" (defArgs st_Zy) (defBody st_Zy) (defScope st_Zy) .none kV_Zy dc_Zy pm_Zy an_Zy cd_Zy ct_Zy),sl_Zy⟩)
  (c_Zy':W.codeIn K cd_Zy "_law_names"=true)
  (k_Zy:W.keepIn K (.ref f_Zy)=true)
  (a_ZE:W.nsIn K mainGlobals "_law_expr"=some (some (.ref f_ZE)))
  (l_ZE:K.lookup f_ZE=some ⟨oc_ZE,od_ZE,.func (W.fnOf "_law_expr" "_law_expr" (defArgs st_ZE) (defBody st_ZE) (defScope st_ZE) .none kV_ZE dc_ZE pm_ZE an_ZE cd_ZE ct_ZE),sl_ZE⟩)
  (c_ZE':W.codeIn K cd_ZE "_law_expr"=true)
  (k_ZE:W.keepIn K (.ref f_ZE)=true)
  (a_ZF:W.nsIn K mainGlobals "_law_kind"=some (some (.ref f_ZF)))
  (l_ZF:K.lookup f_ZF=some ⟨oc_ZF,od_ZF,.func (W.fnOf "_law_kind" "_law_kind" (defArgs st_ZF) (defBody st_ZF) (defScope st_ZF) .none kV_ZF dc_ZF pm_ZF an_ZF cd_ZF ct_ZF),sl_ZF⟩)
  (c_ZF':W.codeIn K cd_ZF "_law_kind"=true)
  (k_ZF:W.keepIn K (.ref f_ZF)=true)
  (a_Zz:W.nsIn K mainGlobals "_law_wrong"=some (some (.ref f_Zz)))
  (l_Zz:K.lookup f_Zz=some ⟨oc_Zz,od_Zz,.func (W.fnOf "_law_wrong" "_law_wrong" (defArgs st_Zz) (defBody st_Zz) (defScope st_Zz) .none kV_Zz dc_Zz pm_Zz an_Zz cd_Zz ct_Zz),sl_Zz⟩)
  (c_Zz':W.codeIn K cd_Zz "_law_wrong"=true)
  (k_Zz:W.keepIn K (.ref f_Zz)=true)
  (a_ZI:W.nsIn K mainGlobals "_law_row"=some (some (.ref f_ZI)))
  (l_ZI:K.lookup f_ZI=some ⟨oc_ZI,od_ZI,.func (W.fnOf "_law_row" "_law_row" (defArgs st_ZI) (defBody st_ZI) (defScope st_ZI) .none kV_ZI dc_ZI pm_ZI an_ZI cd_ZI ct_ZI),sl_ZI⟩)
  (c_ZI':W.codeIn K cd_ZI "_law_row"=true)
  (k_ZI:W.keepIn K (.ref f_ZI)=true)
  (a_ZA:W.nsIn K mainGlobals "_law_noted"=some (some (.ref f_ZA)))
  (l_ZA:K.lookup f_ZA=some ⟨oc_ZA,od_ZA,.func (W.fnOf "_law_noted" "_law_noted" (defArgs st_ZA) (defBody st_ZA) (defScope st_ZA) .none kV_ZA dc_ZA pm_ZA an_ZA cd_ZA ct_ZA),sl_ZA⟩)
  (c_ZA':W.codeIn K cd_ZA "_law_noted"=true)
  (k_ZA:W.keepIn K (.ref f_ZA)=true)
  (a_ZB:W.nsIn K mainGlobals "_law_built"=some (some (.ref f_ZB)))
  (l_ZB:K.lookup f_ZB=some ⟨oc_ZB,od_ZB,.func (W.fnOf "_law_built" "_law_built" (defArgs st_ZB) (defBody st_ZB) (defScope st_ZB) .none kV_ZB dc_ZB pm_ZB an_ZB cd_ZB ct_ZB),sl_ZB⟩)
  (c_ZB':W.codeIn K cd_ZB "_law_built"=true)
  (k_ZB:W.keepIn K (.ref f_ZB)=true)
  (a_Zk:W.findIn K (.ref c_KindLook) "__init__"=some (some (.ref f_Zk)))
  (i_Zk:W.isFn K (.ref f_Zk)=true)
  (l_Zk:K.lookup f_Zk=some ⟨oc_Zk,od_Zk,.func (W.fnOf "__init__" "KindLook.__init__" (defArgs st_Zk) (defBody st_Zk) (defScope st_Zk) .none kV_Zk dc_Zk pm_Zk an_Zk cd_Zk ct_Zk),sl_Zk⟩)
  (c_Zk':W.codeIn K cd_Zk "KindLook.__init__"=true)
  (k_Zk:W.keepIn K (.ref f_Zk)=true)
  (a_Zl:W.findIn K (.ref c_KindLook) "note"=some (some (.ref f_Zl)))
  (i_Zl:W.isFn K (.ref f_Zl)=true)
  (l_Zl:K.lookup f_Zl=some ⟨oc_Zl,od_Zl,.func (W.fnOf "note" "KindLook.note" (defArgs st_Zl) (defBody st_Zl) (defScope st_Zl) .none kV_Zl dc_Zl pm_Zl an_Zl cd_Zl ct_Zl),sl_Zl⟩)
  (c_Zl':W.codeIn K cd_Zl "KindLook.note"=true)
  (k_Zl:W.keepIn K (.ref f_Zl)=true)
  (a_Zb:W.findIn K (.ref c_KindLook) "look_body"=some (some (.ref f_Zb)))
  (i_Zb:W.isFn K (.ref f_Zb)=true)
  (l_Zb:K.lookup f_Zb=some ⟨oc_Zb,od_Zb,.func (W.fnOf "look_body" "KindLook.look_body" (defArgs st_Zb) (defBody st_Zb) (defScope st_Zb) .none kV_Zb dc_Zb pm_Zb an_Zb cd_Zb ct_Zb),sl_Zb⟩)
  (c_Zb':W.codeIn K cd_Zb "KindLook.look_body"=true)
  (k_Zb:W.keepIn K (.ref f_Zb)=true)
  (a_Zd:W.findIn K (.ref c_KindLook) "look_def"=some (some (.ref f_Zd)))
  (i_Zd:W.isFn K (.ref f_Zd)=true)
  (l_Zd:K.lookup f_Zd=some ⟨oc_Zd,od_Zd,.func (W.fnOf "look_def" "KindLook.look_def" (defArgs st_Zd) (defBody st_Zd) (defScope st_Zd) .none kV_Zd dc_Zd pm_Zd an_Zd cd_Zd ct_Zd),sl_Zd⟩)
  (c_Zd':W.codeIn K cd_Zd "KindLook.look_def"=true)
  (k_Zd:W.keepIn K (.ref f_Zd)=true)
  (a_Ze:W.findIn K (.ref c_KindLook) "look_row"=some (some (.ref f_Ze)))
  (i_Ze:W.isFn K (.ref f_Ze)=true)
  (l_Ze:K.lookup f_Ze=some ⟨oc_Ze,od_Ze,.func (W.fnOf "look_row" "KindLook.look_row" (defArgs st_Ze) (defBody st_Ze) (defScope st_Ze) .none kV_Ze dc_Ze pm_Ze an_Ze cd_Ze ct_Ze),sl_Ze⟩)
  (c_Ze':W.codeIn K cd_Ze "KindLook.look_row"=true)
  (k_Ze:W.keepIn K (.ref f_Ze)=true)
  (a_Zf:W.findIn K (.ref c_KindLook) "look_set"=some (some (.ref f_Zf)))
  (i_Zf:W.isFn K (.ref f_Zf)=true)
  (l_Zf:K.lookup f_Zf=some ⟨oc_Zf,od_Zf,.func (W.fnOf "look_set" "KindLook.look_set" (defArgs st_Zf) (defBody st_Zf) (defScope st_Zf) .none kV_Zf dc_Zf pm_Zf an_Zf cd_Zf ct_Zf),sl_Zf⟩)
  (c_Zf':W.codeIn K cd_Zf "KindLook.look_set"=true)
  (k_Zf:W.keepIn K (.ref f_Zf)=true)
  (a_Zn:W.findIn K (.ref c_KindLook) "ask"=some (some (.ref f_Zn)))
  (i_Zn:W.isFn K (.ref f_Zn)=true)
  (l_Zn:K.lookup f_Zn=some ⟨oc_Zn,od_Zn,.func (W.fnOf "ask" "KindLook.ask" (defArgs st_Zn) (defBody st_Zn) (defScope st_Zn) .none kV_Zn dc_Zn pm_Zn an_Zn cd_Zn ct_Zn),sl_Zn⟩)
  (c_Zn':W.codeIn K cd_Zn "KindLook.ask"=true)
  (k_Zn:W.keepIn K (.ref f_Zn)=true)
  (a_Zg:W.findIn K (.ref c_KindLook) "kinds_of"=some (some (.ref f_Zg)))
  (i_Zg:W.isFn K (.ref f_Zg)=true)
  (l_Zg:K.lookup f_Zg=some ⟨oc_Zg,od_Zg,.func (W.fnOf "kinds_of" "KindLook.kinds_of" (defArgs st_Zg) (defBody st_Zg) (defScope st_Zg) .none kV_Zg dc_Zg pm_Zg an_Zg cd_Zg ct_Zg),sl_Zg⟩)
  (c_Zg':W.codeIn K cd_Zg "KindLook.kinds_of"=true)
  (k_Zg:W.keepIn K (.ref f_Zg)=true)
  (a_Zc:W.findIn K (.ref c_KindLook) "used_rows"=some (some (.ref f_Zc)))
  (i_Zc:W.isFn K (.ref f_Zc)=true)
  (l_Zc:K.lookup f_Zc=some ⟨oc_Zc,od_Zc,.func (W.fnOf "used_rows" "KindLook.used_rows" (defArgs st_Zc) (defBody st_Zc) (defScope st_Zc) .none kV_Zc dc_Zc pm_Zc an_Zc cd_Zc ct_Zc),sl_Zc⟩)
  (c_Zc':W.codeIn K cd_Zc "KindLook.used_rows"=true)
  (k_Zc:W.keepIn K (.ref f_Zc)=true)
  (a_Za:W.findIn K (.ref c_KindLook) "field_kinds"=some (some (.ref f_Za)))
  (i_Za:W.isFn K (.ref f_Za)=true)
  (l_Za:K.lookup f_Za=some ⟨oc_Za,od_Za,.func (W.fnOf "field_kinds" "KindLook.field_kinds" (defArgs st_Za) (defBody st_Za) (defScope st_Za) .none kV_Za dc_Za pm_Za an_Za cd_Za ct_Za),sl_Za⟩)
  (c_Za':W.codeIn K cd_Za "KindLook.field_kinds"=true)
  (k_Za:W.keepIn K (.ref f_Za)=true)
  (a_law:W.nsIn K mainGlobals "law"=some (some (.ref f_law)))
  (l_law:K.lookup f_law=some ⟨oc_law,od_law,.func (W.fnOf "law" "law" (defArgs st_law) (defBody st_law) (defScope st_law) .none kV_law dc_law pm_law an_law cd_law ct_law),sl_law⟩)
  (c_law':W.codeIn K cd_law "law"=true)
  (k_law:W.keepIn K (.ref f_law)=true)
  (pg_KindLook:W.plainGet K c_KindLook Str.empty=true)
  (hd_KindLook:W.hasDictIn K c_KindLook=true)
  (po_KindLook:W.plainOver K c_KindLook=true)
  (sa_KindLook:W.findIn K (.ref c_KindLook) "__setattr__"=some (some (.builtin "object.__setattr__")))
  (mk_KindLook:W.makesIn K c_KindLook=true)
  (kc_KindLook:W.keepIn K (.ref c_KindLook)=true)
  (na_KindLook_faults:W.findIn K (.ref c_KindLook) "faults"=some none)
  (na_KindLook_firsts:W.findIn K (.ref c_KindLook) "firsts"=some none)
  (t1_KindLook:W.findIn K (.ref c_KindLook) "__class__"=some (some (.builtin "object.__class__")))
  (t2_KindLook:W.specialIn K (.builtin "object.__class__") "__get__"=some (some (.builtin "getset_descriptor.__get__")))
  (t3_KindLook:W.takesIn K (.builtin "object.__class__")=some true)
  (t4_KindLook:W.mroIn K c_KindLook (.type "object")=some true)
  (a_MAKES:W.nsIn K mainGlobals "MAKES"=some (some (.ref d_MAKES)))
  (l_MAKES:K.lookup d_MAKES=some ⟨.type "dict",none,.dict #[⟨h_MAKES_0,.str "num" t_MAKES_0,.str "num" u_MAKES_0⟩,⟨h_MAKES_1,.str "truth" t_MAKES_1,.str "truth" u_MAKES_1⟩,⟨h_MAKES_2,.str "+" t_MAKES_2,.str "num" u_MAKES_2⟩,⟨h_MAKES_3,.str "-" t_MAKES_3,.str "num" u_MAKES_3⟩,⟨h_MAKES_4,.str "*" t_MAKES_4,.str "num" u_MAKES_4⟩,⟨h_MAKES_5,.str "less" t_MAKES_5,.str "truth" u_MAKES_5⟩,⟨h_MAKES_6,.str "same" t_MAKES_6,.str "truth" u_MAKES_6⟩,⟨h_MAKES_7,.str "and" t_MAKES_7,.str "truth" u_MAKES_7⟩,⟨h_MAKES_8,.str "or" t_MAKES_8,.str "truth" u_MAKES_8⟩,⟨h_MAKES_9,.str "not" t_MAKES_9,.str "truth" u_MAKES_9⟩] ep_MAKES,#[]⟩)
  (s_MAKES:(d_MAKES == sysModules)=false)
  (e_MAKES_0:h_MAKES_0=hashStr w "num")
  (e_MAKES_1:h_MAKES_1=hashStr w "truth")
  (e_MAKES_2:h_MAKES_2=hashStr w "+")
  (e_MAKES_3:h_MAKES_3=hashStr w "-")
  (e_MAKES_4:h_MAKES_4=hashStr w "*")
  (e_MAKES_5:h_MAKES_5=hashStr w "less")
  (e_MAKES_6:h_MAKES_6=hashStr w "same")
  (e_MAKES_7:h_MAKES_7=hashStr w "and")
  (e_MAKES_8:h_MAKES_8=hashStr w "or")
  (e_MAKES_9:h_MAKES_9=hashStr w "not")
  (a_ASKS:W.nsIn K mainGlobals "ASKS"=some (some (.ref d_ASKS)))
  (l_ASKS:K.lookup d_ASKS=some ⟨.type "dict",none,.dict #[⟨h_ASKS_0,.str "+" t_ASKS_0,.str "num" u_ASKS_0⟩,⟨h_ASKS_1,.str "-" t_ASKS_1,.str "num" u_ASKS_1⟩,⟨h_ASKS_2,.str "*" t_ASKS_2,.str "num" u_ASKS_2⟩,⟨h_ASKS_3,.str "less" t_ASKS_3,.str "num" u_ASKS_3⟩,⟨h_ASKS_4,.str "same" t_ASKS_4,.str "num" u_ASKS_4⟩,⟨h_ASKS_5,.str "and" t_ASKS_5,.str "truth" u_ASKS_5⟩,⟨h_ASKS_6,.str "or" t_ASKS_6,.str "truth" u_ASKS_6⟩,⟨h_ASKS_7,.str "not" t_ASKS_7,.str "truth" u_ASKS_7⟩] ep_ASKS,#[]⟩)
  (s_ASKS:(d_ASKS == sysModules)=false)
  (e_ASKS_0:h_ASKS_0=hashStr w "+")
  (e_ASKS_1:h_ASKS_1=hashStr w "-")
  (e_ASKS_2:h_ASKS_2=hashStr w "*")
  (e_ASKS_3:h_ASKS_3=hashStr w "less")
  (e_ASKS_4:h_ASKS_4=hashStr w "same")
  (e_ASKS_5:h_ASKS_5=hashStr w "and")
  (e_ASKS_6:h_ASKS_6=hashStr w "or")
  (e_ASKS_7:h_ASKS_7=hashStr w "not")
  (a_PLAIN_KINDS:W.nsIn K mainGlobals "PLAIN_KINDS"=some (some (.ref q_PLAIN_KINDS)))
  (l_PLAIN_KINDS:K.lookup q_PLAIN_KINDS=some ⟨.type "tuple",od_PLAIN_KINDS,.seq #[.str "num" t_PLAIN_KINDS_0,.str "truth" t_PLAIN_KINDS_1] n_PLAIN_KINDS,sl_PLAIN_KINDS⟩)
  (z_len:W.nsIn K mainGlobals "len"=some none)
  (z_range:W.nsIn K mainGlobals "range"=some none)
  (z_list:W.nsIn K mainGlobals "list"=some none)
  (z_dict:W.nsIn K mainGlobals "dict"=some none)
  (z_tuple:W.nsIn K mainGlobals "tuple"=some none)
  (z_sorted:W.nsIn K mainGlobals "sorted"=some none)
  (z_enumerate:W.nsIn K mainGlobals "enumerate"=some none)
  (z_isinstance:W.nsIn K mainGlobals "isinstance"=some none)
  (z_zip:W.nsIn K mainGlobals "zip"=some none)
  (z_set:W.nsIn K mainGlobals "set"=some none)
  :
  ∃ fd:FuncData,(∀ (s:Shared) (v:Value),BindsTo s fd ⟨[v],[]⟩ [("_law_script",v)])/\∀ base:Heap,K.In base->base.Ns mainGlobals mg->FnOk l.prog w K mg base CX0 40 fa fd ["_law_script"] (spLaw K):=by
 have e:=hfa.symm.trans (W.mg_of X G a_law)
 cases e
 have F_ZM:=fun_mk (st:=st_ZM) l_ZM c_ZM' k_ZM
 have F_ZG:=fun_mk (st:=st_ZG) l_ZG c_ZG' k_ZG
 have F_ZJ:=fun_mk (st:=st_ZJ) l_ZJ c_ZJ' k_ZJ
 have F_Zq:=fun_mk (st:=st_Zq) l_Zq c_Zq' k_Zq
 have F_ZK:=fun_mk (st:=st_ZK) l_ZK c_ZK' k_ZK
 have F_Zr:=fun_mk (st:=st_Zr) l_Zr c_Zr' k_Zr
 have F_Zt:=fun_mk (st:=st_Zt) l_Zt c_Zt' k_Zt
 have F_Zi:=fun_mk (st:=st_Zi) l_Zi c_Zi' k_Zi
 have F_Zj:=fun_mk (st:=st_Zj) l_Zj c_Zj' k_Zj
 have F_Zu:=fun_mk (st:=st_Zu) l_Zu c_Zu' k_Zu
 have F_Zh:=fun_mk (st:=st_Zh) l_Zh c_Zh' k_Zh
 have F_Zv:=fun_mk (st:=st_Zv) l_Zv c_Zv' k_Zv
 have F_Zs:=fun_mk (st:=st_Zs) l_Zs c_Zs' k_Zs
 have F_ZC:=fun_mk (st:=st_ZC) l_ZC c_ZC' k_ZC
 have F_ZH:=fun_mk (st:=st_ZH) l_ZH c_ZH' k_ZH
 have F_ZD:=fun_mk (st:=st_ZD) l_ZD c_ZD' k_ZD
 have F_ZN:=fun_mk (st:=st_ZN) l_ZN c_ZN' k_ZN
 have F_Zw:=fun_mk (st:=st_Zw) l_Zw c_Zw' k_Zw
 have F_ZL:=fun_mk (st:=st_ZL) l_ZL c_ZL' k_ZL
 have F_Zm:=fun_mk (st:=st_Zm) l_Zm c_Zm' k_Zm
 have F_Zo:=fun_mk (st:=st_Zo) l_Zo c_Zo' k_Zo
 have F_Zp:=fun_mk (st:=st_Zp) l_Zp c_Zp' k_Zp
 have F_Zx:=fun_mk (st:=st_Zx) l_Zx c_Zx' k_Zx
 have F_Zy:=fun_mk (st:=st_Zy) l_Zy c_Zy' k_Zy
 have F_ZE:=fun_mk (st:=st_ZE) l_ZE c_ZE' k_ZE
 have F_ZF:=fun_mk (st:=st_ZF) l_ZF c_ZF' k_ZF
 have F_Zz:=fun_mk (st:=st_Zz) l_Zz c_Zz' k_Zz
 have F_ZI:=fun_mk (st:=st_ZI) l_ZI c_ZI' k_ZI
 have F_ZA:=fun_mk (st:=st_ZA) l_ZA c_ZA' k_ZA
 have F_ZB:=fun_mk (st:=st_ZB) l_ZB c_ZB' k_ZB
 have F_Zk:=fun_mk (st:=st_Zk) l_Zk c_Zk' k_Zk
 have F_Zl:=fun_mk (st:=st_Zl) l_Zl c_Zl' k_Zl
 have F_Zb:=fun_mk (st:=st_Zb) l_Zb c_Zb' k_Zb
 have F_Zd:=fun_mk (st:=st_Zd) l_Zd c_Zd' k_Zd
 have F_Ze:=fun_mk (st:=st_Ze) l_Ze c_Ze' k_Ze
 have F_Zf:=fun_mk (st:=st_Zf) l_Zf c_Zf' k_Zf
 have F_Zn:=fun_mk (st:=st_Zn) l_Zn c_Zn' k_Zn
 have F_Zg:=fun_mk (st:=st_Zg) l_Zg c_Zg' k_Zg
 have F_Zc:=fun_mk (st:=st_Zc) l_Zc c_Zc' k_Zc
 have F_Za:=fun_mk (st:=st_Za) l_Za c_Za' k_Za
 have F_law:=fun_mk (st:=st_law) l_law c_law' k_law
 have b_ZM:=F_ZM.binds (ps:=["mask"]) fun _ _ _ _ _ _ us hl=>by obtain ⟨_,rfl⟩:=len1 hl;rfl
 have b_ZG:=F_ZG.binds (ps:=["mask","other"]) fun _ _ _ _ _ _ us hl=>by obtain ⟨_,_,rfl⟩:=len2 hl;rfl
 have b_ZJ:=F_ZJ.binds (ps:=["pairs"]) fun _ _ _ _ _ _ us hl=>by obtain ⟨_,rfl⟩:=len1 hl;rfl
 have b_Zq:=F_Zq.binds (ps:=["pairs","mask"]) fun _ _ _ _ _ _ us hl=>by obtain ⟨_,_,rfl⟩:=len2 hl;rfl
 have b_ZK:=F_ZK.binds (ps:=["found","key","mask"]) fun _ _ _ _ _ _ us hl=>by obtain ⟨_,_,_,rfl⟩:=len3 hl;rfl
 have b_Zr:=F_Zr.binds (ps:=["found"]) fun _ _ _ _ _ _ us hl=>by obtain ⟨_,rfl⟩:=len1 hl;rfl
 have b_Zt:=F_Zt.binds (ps:=["tree","mask"]) fun _ _ _ _ _ _ us hl=>by obtain ⟨_,_,rfl⟩:=len2 hl;rfl
 have b_Zi:=F_Zi.binds (ps:=["one","mask"]) fun _ _ _ _ _ _ us hl=>by obtain ⟨_,_,rfl⟩:=len2 hl;rfl
 have b_Zj:=F_Zj.binds (ps:=["pair"]) fun _ _ _ _ _ _ us hl=>by obtain ⟨_,rfl⟩:=len1 hl;rfl
 have b_Zu:=F_Zu.binds (ps:=["tree"]) fun _ _ _ _ _ _ us hl=>by obtain ⟨_,rfl⟩:=len1 hl;rfl
 have b_Zh:=F_Zh.binds (ps:=["one"]) fun _ _ _ _ _ _ us hl=>by obtain ⟨_,rfl⟩:=len1 hl;rfl
 have b_Zv:=F_Zv.binds (ps:=["one"]) fun _ _ _ _ _ _ us hl=>by obtain ⟨_,rfl⟩:=len1 hl;rfl
 have b_Zs:=F_Zs.binds (ps:=["tree"]) fun _ _ _ _ _ _ us hl=>by obtain ⟨_,rfl⟩:=len1 hl;rfl
 have b_ZC:=F_ZC.binds (ps:=["one"]) fun _ _ _ _ _ _ us hl=>by obtain ⟨_,rfl⟩:=len1 hl;rfl
 have b_ZH:=F_ZH.binds (ps:=["one"]) fun _ _ _ _ _ _ us hl=>by obtain ⟨_,rfl⟩:=len1 hl;rfl
 have b_ZD:=F_ZD.binds (ps:=["e"]) fun _ _ _ _ _ _ us hl=>by obtain ⟨_,rfl⟩:=len1 hl;rfl
 have b_ZN:=F_ZN.binds (ps:=["kinds","due"]) fun _ _ _ _ _ _ us hl=>by obtain ⟨_,_,rfl⟩:=len2 hl;rfl
 have b_Zw:=F_Zw.binds (ps:=["kind"]) fun _ _ _ _ _ _ us hl=>by obtain ⟨_,rfl⟩:=len1 hl;rfl
 have b_ZL:=F_ZL.binds (ps:=["body"]) fun _ _ _ _ _ _ us hl=>by obtain ⟨_,rfl⟩:=len1 hl;rfl
 have b_Zm:=F_Zm.binds (ps:=["tree","mask"]) fun _ _ _ _ _ _ us hl=>by obtain ⟨_,_,rfl⟩:=len2 hl;rfl
 have b_Zo:=F_Zo.binds (ps:=["tree"]) fun _ _ _ _ _ _ us hl=>by obtain ⟨_,rfl⟩:=len1 hl;rfl
 have b_Zp:=F_Zp.binds (ps:=["_law_script","_law_k"]) fun _ _ _ _ _ _ us hl=>by obtain ⟨_,_,rfl⟩:=len2 hl;rfl
 have b_Zx:=F_Zx.binds (ps:=["_law_cell","_law_k"]) fun _ _ _ _ _ _ us hl=>by obtain ⟨_,_,rfl⟩:=len2 hl;rfl
 have b_Zy:=F_Zy.binds (ps:=["_law_number"]) fun _ _ _ _ _ _ us hl=>by obtain ⟨_,rfl⟩:=len1 hl;rfl
 have b_ZE:=F_ZE.binds (ps:=["_law_number","_law_known","_law_deep"]) fun _ _ _ _ _ _ us hl=>by obtain ⟨_,_,_,rfl⟩:=len3 hl;rfl
 have b_ZF:=F_ZF.binds (ps:=["_law_e","_law_known"]) fun _ _ _ _ _ _ us hl=>by obtain ⟨_,_,rfl⟩:=len2 hl;rfl
 have b_Zz:=F_Zz.binds (ps:=["_law_e","_law_known"]) fun _ _ _ _ _ _ us hl=>by obtain ⟨_,_,rfl⟩:=len2 hl;rfl
 have b_ZI:=F_ZI.binds (ps:=["_law_number","_law_at","_law_names_here","_law_known","_law_stack"]) fun _ _ _ _ _ _ us hl=>by obtain ⟨_,_,_,_,_,rfl⟩:=len5 hl;rfl
 have b_ZA:=F_ZA.binds (ps:=["_law_row_here","_law_known","_law_due"]) fun _ _ _ _ _ _ us hl=>by obtain ⟨_,_,_,rfl⟩:=len3 hl;rfl
 have b_ZB:=F_ZB.binds (ps:=["_law_script"]) fun _ _ _ _ _ _ us hl=>by obtain ⟨_,rfl⟩:=len1 hl;rfl
 have b_Zk:=F_Zk.binds (ps:=["self","tree"]) fun _ _ _ _ _ _ us hl=>by obtain ⟨_,_,rfl⟩:=len2 hl;rfl
 have b_Zl:=F_Zl.binds (ps:=["self","mask","at","what"]) fun _ _ _ _ _ _ us hl=>by obtain ⟨_,_,_,_,rfl⟩:=len4 hl;rfl
 have b_Zb:=F_Zb.binds (ps:=["self","statements","names","due"]) fun _ _ _ _ _ _ us hl=>by obtain ⟨_,_,_,_,rfl⟩:=len4 hl;rfl
 have b_Zd:=F_Zd.binds (ps:=["self","mask","one"]) fun _ _ _ _ _ _ us hl=>by obtain ⟨_,_,_,rfl⟩:=len3 hl;rfl
 have b_Ze:=F_Ze.binds (ps:=["self","one","kinds","names","due"]) fun _ _ _ _ _ _ us hl=>by obtain ⟨_,_,_,_,_,rfl⟩:=len5 hl;rfl
 have b_Zf:=F_Zf.binds (ps:=["self","one","kinds","names"]) fun _ _ _ _ _ _ us hl=>by obtain ⟨_,_,_,_,rfl⟩:=len4 hl;rfl
 have b_Zn:=F_Zn.binds (ps:=["self","mask","e","due","at","names"]) fun _ _ _ _ _ _ us hl=>by obtain ⟨_,_,_,_,_,_,rfl⟩:=len6 hl;rfl
 have b_Zg:=F_Zg.binds (ps:=["self","mask","e","at","names"]) fun _ _ _ _ _ _ us hl=>by obtain ⟨_,_,_,_,_,rfl⟩:=len5 hl;rfl
 have b_Zc:=F_Zc.binds (ps:=["self","mask","e","word","at","names"]) fun _ _ _ _ _ _ us hl=>by obtain ⟨_,_,_,_,_,_,rfl⟩:=len6 hl;rfl
 have b_Za:=F_Za.binds (ps:=["self","mask","kind","field","at"]) fun _ _ _ _ _ _ us hl=>by obtain ⟨_,_,_,_,_,rfl⟩:=len5 hl;rfl
 have T:All l.prog w K mg ⟨f_ZM,f_ZG,f_ZJ,f_Zq,f_ZK,f_Zr,f_Zt,f_Zi,f_Zj,f_Zu,f_Zh,f_Zv,f_Zs,f_ZC,f_ZH,f_ZD,f_ZN,f_Zw,f_ZL,f_Zm,f_Zo,f_Zp,f_Zx,f_Zy,f_ZE,f_ZF,f_Zz,f_ZI,f_ZA,f_ZB,f_Zk,f_Zl,f_Zb,f_Zd,f_Ze,f_Zf,f_Zn,f_Zg,f_Zc,f_Za,c_KindLook,d_MAKES,d_ASKS,q_PLAIN_KINDS⟩ ⟨_,_,_,_,_,_,_,_,_,_,_,_,_,_,_,_,_,_,_,_,_,_,_,_,_,_,_,_,_,_,_,_,_,_,_,_,_,_,_,_⟩:={
  m_ZM:=W.mg_of X G a_ZM
  k_ZM:=k_ZM
  F_ZM:=F_ZM
  b_ZM:=b_ZM
  m_ZG:=W.mg_of X G a_ZG
  k_ZG:=k_ZG
  F_ZG:=F_ZG
  b_ZG:=b_ZG
  m_ZJ:=W.mg_of X G a_ZJ
  k_ZJ:=k_ZJ
  F_ZJ:=F_ZJ
  b_ZJ:=b_ZJ
  m_Zq:=W.mg_of X G a_Zq
  k_Zq:=k_Zq
  F_Zq:=F_Zq
  b_Zq:=b_Zq
  m_ZK:=W.mg_of X G a_ZK
  k_ZK:=k_ZK
  F_ZK:=F_ZK
  b_ZK:=b_ZK
  m_Zr:=W.mg_of X G a_Zr
  k_Zr:=k_Zr
  F_Zr:=F_Zr
  b_Zr:=b_Zr
  m_Zt:=W.mg_of X G a_Zt
  k_Zt:=k_Zt
  F_Zt:=F_Zt
  b_Zt:=b_Zt
  m_Zi:=W.mg_of X G a_Zi
  k_Zi:=k_Zi
  F_Zi:=F_Zi
  b_Zi:=b_Zi
  m_Zj:=W.mg_of X G a_Zj
  k_Zj:=k_Zj
  F_Zj:=F_Zj
  b_Zj:=b_Zj
  m_Zu:=W.mg_of X G a_Zu
  k_Zu:=k_Zu
  F_Zu:=F_Zu
  b_Zu:=b_Zu
  m_Zh:=W.mg_of X G a_Zh
  k_Zh:=k_Zh
  F_Zh:=F_Zh
  b_Zh:=b_Zh
  m_Zv:=W.mg_of X G a_Zv
  k_Zv:=k_Zv
  F_Zv:=F_Zv
  b_Zv:=b_Zv
  m_Zs:=W.mg_of X G a_Zs
  k_Zs:=k_Zs
  F_Zs:=F_Zs
  b_Zs:=b_Zs
  m_ZC:=W.mg_of X G a_ZC
  k_ZC:=k_ZC
  F_ZC:=F_ZC
  b_ZC:=b_ZC
  m_ZH:=W.mg_of X G a_ZH
  k_ZH:=k_ZH
  F_ZH:=F_ZH
  b_ZH:=b_ZH
  m_ZD:=W.mg_of X G a_ZD
  k_ZD:=k_ZD
  F_ZD:=F_ZD
  b_ZD:=b_ZD
  m_ZN:=W.mg_of X G a_ZN
  k_ZN:=k_ZN
  F_ZN:=F_ZN
  b_ZN:=b_ZN
  m_Zw:=W.mg_of X G a_Zw
  k_Zw:=k_Zw
  F_Zw:=F_Zw
  b_Zw:=b_Zw
  m_ZL:=W.mg_of X G a_ZL
  k_ZL:=k_ZL
  F_ZL:=F_ZL
  b_ZL:=b_ZL
  m_Zm:=W.mg_of X G a_Zm
  k_Zm:=k_Zm
  F_Zm:=F_Zm
  b_Zm:=b_Zm
  m_Zo:=W.mg_of X G a_Zo
  k_Zo:=k_Zo
  F_Zo:=F_Zo
  b_Zo:=b_Zo
  m_Zp:=W.mg_of X G a_Zp
  k_Zp:=k_Zp
  F_Zp:=F_Zp
  b_Zp:=b_Zp
  m_Zx:=W.mg_of X G a_Zx
  k_Zx:=k_Zx
  F_Zx:=F_Zx
  b_Zx:=b_Zx
  m_Zy:=W.mg_of X G a_Zy
  k_Zy:=k_Zy
  F_Zy:=F_Zy
  b_Zy:=b_Zy
  m_ZE:=W.mg_of X G a_ZE
  k_ZE:=k_ZE
  F_ZE:=F_ZE
  b_ZE:=b_ZE
  m_ZF:=W.mg_of X G a_ZF
  k_ZF:=k_ZF
  F_ZF:=F_ZF
  b_ZF:=b_ZF
  m_Zz:=W.mg_of X G a_Zz
  k_Zz:=k_Zz
  F_Zz:=F_Zz
  b_Zz:=b_Zz
  m_ZI:=W.mg_of X G a_ZI
  k_ZI:=k_ZI
  F_ZI:=F_ZI
  b_ZI:=b_ZI
  m_ZA:=W.mg_of X G a_ZA
  k_ZA:=k_ZA
  F_ZA:=F_ZA
  b_ZA:=b_ZA
  m_ZB:=W.mg_of X G a_ZB
  k_ZB:=k_ZB
  F_ZB:=F_ZB
  b_ZB:=b_ZB
  M_KindLook:=⟨mk_KindLook,a_Zk,i_Zk,kc_KindLook⟩
  k_Zk:=k_Zk
  F_Zk:=F_Zk
  b_Zk:=b_Zk
  M_Zl:=⟨a_Zl,i_Zl,k_Zl⟩
  k_Zl:=k_Zl
  F_Zl:=F_Zl
  b_Zl:=b_Zl
  M_Zb:=⟨a_Zb,i_Zb,k_Zb⟩
  k_Zb:=k_Zb
  F_Zb:=F_Zb
  b_Zb:=b_Zb
  M_Zd:=⟨a_Zd,i_Zd,k_Zd⟩
  k_Zd:=k_Zd
  F_Zd:=F_Zd
  b_Zd:=b_Zd
  M_Ze:=⟨a_Ze,i_Ze,k_Ze⟩
  k_Ze:=k_Ze
  F_Ze:=F_Ze
  b_Ze:=b_Ze
  M_Zf:=⟨a_Zf,i_Zf,k_Zf⟩
  k_Zf:=k_Zf
  F_Zf:=F_Zf
  b_Zf:=b_Zf
  M_Zn:=⟨a_Zn,i_Zn,k_Zn⟩
  k_Zn:=k_Zn
  F_Zn:=F_Zn
  b_Zn:=b_Zn
  M_Zg:=⟨a_Zg,i_Zg,k_Zg⟩
  k_Zg:=k_Zg
  F_Zg:=F_Zg
  b_Zg:=b_Zg
  M_Zc:=⟨a_Zc,i_Zc,k_Zc⟩
  k_Zc:=k_Zc
  F_Zc:=F_Zc
  b_Zc:=b_Zc
  M_Za:=⟨a_Za,i_Za,k_Za⟩
  k_Za:=k_Za
  F_Za:=F_Za
  b_Za:=b_Za
  m_KindLook:=W.mg_of X G aC_KindLook
  cl_KindLook:=⟨pg_KindLook,hd_KindLook,po_KindLook,sa_KindLook⟩
  na_KindLook_faults:=na_KindLook_faults
  na_KindLook_firsts:=na_KindLook_firsts
  ty_KindLook:=fun H a dx fs e=>.ins e ⟨pg_KindLook,hd_KindLook,po_KindLook,sa_KindLook⟩ t1_KindLook t2_KindLook t3_KindLook t4_KindLook
  is_KindLook:=kit_same _ _
  m_MAKES:=W.mg_of X G a_MAKES
  D_MAKES:=by
   subst e_MAKES_0 e_MAKES_1 e_MAKES_2 e_MAKES_3 e_MAKES_4 e_MAKES_5 e_MAKES_6 e_MAKES_7 e_MAKES_8 e_MAKES_9
   exact kdictT_mk (es:=[("num",t_MAKES_0,"num",u_MAKES_0),("truth",t_MAKES_1,"truth",u_MAKES_1),("+",t_MAKES_2,"num",u_MAKES_2),("-",t_MAKES_3,"num",u_MAKES_3),("*",t_MAKES_4,"num",u_MAKES_4),("less",t_MAKES_5,"truth",u_MAKES_5),("same",t_MAKES_6,"truth",u_MAKES_6),("and",t_MAKES_7,"truth",u_MAKES_7),("or",t_MAKES_8,"truth",u_MAKES_8),("not",t_MAKES_9,"truth",u_MAKES_9)]) s_MAKES l_MAKES (show (["num","truth","+","-","*","less","same","and","or","not"]:List Str).Nodup by decide +kernel)
  m_ASKS:=W.mg_of X G a_ASKS
  D_ASKS:=by
   subst e_ASKS_0 e_ASKS_1 e_ASKS_2 e_ASKS_3 e_ASKS_4 e_ASKS_5 e_ASKS_6 e_ASKS_7
   exact kdictT_mk (es:=[("+",t_ASKS_0,"num",u_ASKS_0),("-",t_ASKS_1,"num",u_ASKS_1),("*",t_ASKS_2,"num",u_ASKS_2),("less",t_ASKS_3,"num",u_ASKS_3),("same",t_ASKS_4,"num",u_ASKS_4),("and",t_ASKS_5,"truth",u_ASKS_5),("or",t_ASKS_6,"truth",u_ASKS_6),("not",t_ASKS_7,"truth",u_ASKS_7)]) s_ASKS l_ASKS (show (["+","-","*","less","same","and","or","not"]:List Str).Nodup by decide +kernel)
  m_PLAIN_KINDS:=W.mg_of X G a_PLAIN_KINDS
  Q_PLAIN_KINDS:=fun H=>.inr ⟨_,_,_,l_PLAIN_KINDS,rfl,rfl,(by show 2<=sizeLine;decide),.cons ⟨_,rfl⟩ (.cons ⟨_,rfl⟩ (.nil))⟩
  n_len:=W.mg_none_of X G z_len
  n_range:=W.mg_none_of X G z_range
  n_list:=W.mg_none_of X G z_list
  n_dict:=W.mg_none_of X G z_dict
  n_tuple:=W.mg_none_of X G z_tuple
  n_sorted:=W.mg_none_of X G z_sorted
  n_enumerate:=W.mg_none_of X G z_enumerate
  n_isinstance:=W.mg_none_of X G z_isinstance
  n_zip:=W.mg_none_of X G z_zip
  n_set:=W.mg_none_of X G z_set
 }
 exact ⟨W.fnOf "law" "law" (defArgs st_law) (defBody st_law) (defScope st_law) .none kV_law dc_law pm_law an_law cd_law ct_law,fun s v=>.of_eq rfl,fun base _ _=>ok_law T F_law⟩
theorem walk {l:W.OpenLaw} {q:Program} {loose:List Str} {XP:(Str->Option Value)->Heap->Prop} {YP:World->Heap->Prop} {d:DefRec} {K:Params->W.Frag} (hn:l.most=some 63) (hdf:d.params.defaults=[])
  (hY:∀ (w:World) (h:Heap),YP w h->(K w.params).In h)
  (F:∀ (w:World) (mg:Str->Option Value) (fa:Addr) (h:Heap),(K w.params).In h->h.Ns mainGlobals mg->mg d.name=some (.ref fa) ->
   ∃ fd:FuncData,(∀ (s:Shared) (u:Value),BindsTo s fd ⟨[u],[]⟩ [("_law_script",u)])/\∀ base:Heap,(K w.params).In base->base.Ns mainGlobals mg->FnOk l.prog w (K w.params) mg base CX0 40 fa fd ["_law_script"] (spLaw (K w.params))) :
  W.WalkO q loose XP YP l.row.toRowW d [] (fun f vs=>PySem.call f vs) :=
 L2.walk_of (n:=63) (k:=40) (x:="_law_script") (CX:=fun _=>CX0) (sp:=fun w=>spLaw (K w.params)) hn (by decide) hdf ⟨rfl,by decide,by decide⟩ hY F (fun _ _ a ns hl _ hS=>⟨a,ns,rfl,hS,hl,fun _=>rfl⟩) fun _ _ _ _ _ z=>z
end K42
open PySem PySem.W PyProof.Rows
set_option maxRecDepth 100000 in
set_option maxHeartbeats 0 in
theorem PySem.Challenge.cw_manymakes_k42_kinds_of_names_holds : PySem.Challenge.rw_manymakes_k42_kinds_of_names.Holds := by
 w_on;o_law
 refine PySem.W.holds_open (r:=OpenLaw.row PySem.Challenge.rw_manymakes_k42_kinds_of_names) (q:=K42.vw) (loose:=["MAKES","ASKS"]) (Xt:=K42.xt) (XP:=XL K42.vw [])
  (Yf:=(kHook K42.pre.heap_1 K42.as K42.ase).obs) (Ya:=(kHook K42.pre.heap_1 K42.as K42.ase).val) (YP:=(kHook K42.pre.heap_1 K42.as K42.ase).says)
  (N:=3704) K42.left
  ((kHook K42.pre.heap_1 K42.as K42.ase).of) ((kHook K42.pre.heap_1 K42.as K42.ase).keeps) (fun s e=>xl_of s (Mm.both_true e).1)
  (XL.keeps) (by rfl) (by rfl) (by rfl) (fun s e=>recFacts_of (Mm.both_true e).2)
  (by rfl) (by assumption) (by decide +kernel)
  ⟨rfl,rfl,rfl,rfl,rfl,by decide +kernel⟩ ?hw ?hc
 (case hw=>w_witness2)
 k_fill
 refine K42.walk (l:=PySem.Challenge.rw_manymakes_k42_kinds_of_names) rfl rfl (fun w h Y=>PySem.W.kIn_of Y) ?F
 case F =>
  intro w mg fa h KX G hmg
  refine' K42.all_mk KX G hmg ?aC_KindLook ?a_ZM ?l_ZM ?c_ZM' ?k_ZM ?a_ZG ?l_ZG ?c_ZG' ?k_ZG ?a_ZJ ?l_ZJ ?c_ZJ' ?k_ZJ ?a_Zq ?l_Zq ?c_Zq' ?k_Zq ?a_ZK ?l_ZK ?c_ZK' ?k_ZK ?a_Zr ?l_Zr ?c_Zr' ?k_Zr ?a_Zt ?l_Zt ?c_Zt' ?k_Zt ?a_Zi ?l_Zi ?c_Zi' ?k_Zi ?a_Zj ?l_Zj ?c_Zj' ?k_Zj ?a_Zu ?l_Zu ?c_Zu' ?k_Zu ?a_Zh ?l_Zh ?c_Zh' ?k_Zh ?a_Zv ?l_Zv ?c_Zv' ?k_Zv ?a_Zs ?l_Zs ?c_Zs' ?k_Zs ?a_ZC ?l_ZC ?c_ZC' ?k_ZC ?a_ZH ?l_ZH ?c_ZH' ?k_ZH ?a_ZD ?l_ZD ?c_ZD' ?k_ZD ?a_ZN ?l_ZN ?c_ZN' ?k_ZN ?a_Zw ?l_Zw ?c_Zw' ?k_Zw ?a_ZL ?l_ZL ?c_ZL' ?k_ZL ?a_Zm ?l_Zm ?c_Zm' ?k_Zm ?a_Zo ?l_Zo ?c_Zo' ?k_Zo ?a_Zp ?l_Zp ?c_Zp' ?k_Zp ?a_Zx ?l_Zx ?c_Zx' ?k_Zx ?a_Zy ?l_Zy ?c_Zy' ?k_Zy ?a_ZE ?l_ZE ?c_ZE' ?k_ZE ?a_ZF ?l_ZF ?c_ZF' ?k_ZF ?a_Zz ?l_Zz ?c_Zz' ?k_Zz ?a_ZI ?l_ZI ?c_ZI' ?k_ZI ?a_ZA ?l_ZA ?c_ZA' ?k_ZA ?a_ZB ?l_ZB ?c_ZB' ?k_ZB ?a_Zk ?i_Zk ?l_Zk ?c_Zk' ?k_Zk ?a_Zl ?i_Zl ?l_Zl ?c_Zl' ?k_Zl ?a_Zb ?i_Zb ?l_Zb ?c_Zb' ?k_Zb ?a_Zd ?i_Zd ?l_Zd ?c_Zd' ?k_Zd ?a_Ze ?i_Ze ?l_Ze ?c_Ze' ?k_Ze ?a_Zf ?i_Zf ?l_Zf ?c_Zf' ?k_Zf ?a_Zn ?i_Zn ?l_Zn ?c_Zn' ?k_Zn ?a_Zg ?i_Zg ?l_Zg ?c_Zg' ?k_Zg ?a_Zc ?i_Zc ?l_Zc ?c_Zc' ?k_Zc ?a_Za ?i_Za ?l_Za ?c_Za' ?k_Za ?a_law ?l_law ?c_law' ?k_law ?pg_KindLook ?hd_KindLook ?po_KindLook ?sa_KindLook ?mk_KindLook ?kc_KindLook ?na_KindLook_faults ?na_KindLook_firsts ?t1_KindLook ?t2_KindLook ?t3_KindLook ?t4_KindLook ?a_MAKES ?l_MAKES ?s_MAKES ?e_MAKES_0 ?e_MAKES_1 ?e_MAKES_2 ?e_MAKES_3 ?e_MAKES_4 ?e_MAKES_5 ?e_MAKES_6 ?e_MAKES_7 ?e_MAKES_8 ?e_MAKES_9 ?a_ASKS ?l_ASKS ?s_ASKS ?e_ASKS_0 ?e_ASKS_1 ?e_ASKS_2 ?e_ASKS_3 ?e_ASKS_4 ?e_ASKS_5 ?e_ASKS_6 ?e_ASKS_7 ?a_PLAIN_KINDS ?l_PLAIN_KINDS ?z_len ?z_range ?z_list ?z_dict ?z_tuple ?z_sorted ?z_enumerate ?z_isinstance ?z_zip ?z_set
  (case aC_KindLook=>k_is)
  (case a_ZM=>k_is)
  (case l_ZM=>k_is)
  (case c_ZM'=>k_is)
  (case k_ZM=>k_is)
  (case a_ZG=>k_is)
  (case l_ZG=>k_is)
  (case c_ZG'=>k_is)
  (case k_ZG=>k_is)
  (case a_ZJ=>k_is)
  (case l_ZJ=>k_is)
  (case c_ZJ'=>k_is)
  (case k_ZJ=>k_is)
  (case a_Zq=>k_is)
  (case l_Zq=>k_is)
  (case c_Zq'=>k_is)
  (case k_Zq=>k_is)
  (case a_ZK=>k_is)
  (case l_ZK=>k_is)
  (case c_ZK'=>k_is)
  (case k_ZK=>k_is)
  (case a_Zr=>k_is)
  (case l_Zr=>k_is)
  (case c_Zr'=>k_is)
  (case k_Zr=>k_is)
  (case a_Zt=>k_is)
  (case l_Zt=>k_is)
  (case c_Zt'=>k_is)
  (case k_Zt=>k_is)
  (case a_Zi=>k_is)
  (case l_Zi=>k_is)
  (case c_Zi'=>k_is)
  (case k_Zi=>k_is)
  (case a_Zj=>k_is)
  (case l_Zj=>k_is)
  (case c_Zj'=>k_is)
  (case k_Zj=>k_is)
  (case a_Zu=>k_is)
  (case l_Zu=>k_is)
  (case c_Zu'=>k_is)
  (case k_Zu=>k_is)
  (case a_Zh=>k_is)
  (case l_Zh=>k_is)
  (case c_Zh'=>k_is)
  (case k_Zh=>k_is)
  (case a_Zv=>k_is)
  (case l_Zv=>k_is)
  (case c_Zv'=>k_is)
  (case k_Zv=>k_is)
  (case a_Zs=>k_is)
  (case l_Zs=>k_is)
  (case c_Zs'=>k_is)
  (case k_Zs=>k_is)
  (case a_ZC=>k_is)
  (case l_ZC=>k_is)
  (case c_ZC'=>k_is)
  (case k_ZC=>k_is)
  (case a_ZH=>k_is)
  (case l_ZH=>k_is)
  (case c_ZH'=>k_is)
  (case k_ZH=>k_is)
  (case a_ZD=>k_is)
  (case l_ZD=>k_is)
  (case c_ZD'=>k_is)
  (case k_ZD=>k_is)
  (case a_ZN=>k_is)
  (case l_ZN=>k_is)
  (case c_ZN'=>k_is)
  (case k_ZN=>k_is)
  (case a_Zw=>k_is)
  (case l_Zw=>k_is)
  (case c_Zw'=>k_is)
  (case k_Zw=>k_is)
  (case a_ZL=>k_is)
  (case l_ZL=>k_is)
  (case c_ZL'=>k_is)
  (case k_ZL=>k_is)
  (case a_Zm=>k_is)
  (case l_Zm=>k_is)
  (case c_Zm'=>k_is)
  (case k_Zm=>k_is)
  (case a_Zo=>k_is)
  (case l_Zo=>k_is)
  (case c_Zo'=>k_is)
  (case k_Zo=>k_is)
  (case a_Zp=>k_is)
  (case l_Zp=>k_is)
  (case c_Zp'=>k_is)
  (case k_Zp=>k_is)
  (case a_Zx=>k_is)
  (case l_Zx=>k_is)
  (case c_Zx'=>k_is)
  (case k_Zx=>k_is)
  (case a_Zy=>k_is)
  (case l_Zy=>k_is)
  (case c_Zy'=>k_is)
  (case k_Zy=>k_is)
  (case a_ZE=>k_is)
  (case l_ZE=>k_is)
  (case c_ZE'=>k_is)
  (case k_ZE=>k_is)
  (case a_ZF=>k_is)
  (case l_ZF=>k_is)
  (case c_ZF'=>k_is)
  (case k_ZF=>k_is)
  (case a_Zz=>k_is)
  (case l_Zz=>k_is)
  (case c_Zz'=>k_is)
  (case k_Zz=>k_is)
  (case a_ZI=>k_is)
  (case l_ZI=>k_is)
  (case c_ZI'=>k_is)
  (case k_ZI=>k_is)
  (case a_ZA=>k_is)
  (case l_ZA=>k_is)
  (case c_ZA'=>k_is)
  (case k_ZA=>k_is)
  (case a_ZB=>k_is)
  (case l_ZB=>k_is)
  (case c_ZB'=>k_is)
  (case k_ZB=>k_is)
  (case a_Zk=>k_is)
  (case i_Zk=>k_is)
  (case l_Zk=>k_is)
  (case c_Zk'=>k_is)
  (case k_Zk=>k_is)
  (case a_Zl=>k_is)
  (case i_Zl=>k_is)
  (case l_Zl=>k_is)
  (case c_Zl'=>k_is)
  (case k_Zl=>k_is)
  (case a_Zb=>k_is)
  (case i_Zb=>k_is)
  (case l_Zb=>k_is)
  (case c_Zb'=>k_is)
  (case k_Zb=>k_is)
  (case a_Zd=>k_is)
  (case i_Zd=>k_is)
  (case l_Zd=>k_is)
  (case c_Zd'=>k_is)
  (case k_Zd=>k_is)
  (case a_Ze=>k_is)
  (case i_Ze=>k_is)
  (case l_Ze=>k_is)
  (case c_Ze'=>k_is)
  (case k_Ze=>k_is)
  (case a_Zf=>k_is)
  (case i_Zf=>k_is)
  (case l_Zf=>k_is)
  (case c_Zf'=>k_is)
  (case k_Zf=>k_is)
  (case a_Zn=>k_is)
  (case i_Zn=>k_is)
  (case l_Zn=>k_is)
  (case c_Zn'=>k_is)
  (case k_Zn=>k_is)
  (case a_Zg=>k_is)
  (case i_Zg=>k_is)
  (case l_Zg=>k_is)
  (case c_Zg'=>k_is)
  (case k_Zg=>k_is)
  (case a_Zc=>k_is)
  (case i_Zc=>k_is)
  (case l_Zc=>k_is)
  (case c_Zc'=>k_is)
  (case k_Zc=>k_is)
  (case a_Za=>k_is)
  (case i_Za=>k_is)
  (case l_Za=>k_is)
  (case c_Za'=>k_is)
  (case k_Za=>k_is)
  (case a_law=>k_is)
  (case l_law=>k_is)
  (case c_law'=>k_is)
  (case k_law=>k_is)
  (case pg_KindLook=>k_is)
  (case hd_KindLook=>k_is)
  (case po_KindLook=>k_is)
  (case sa_KindLook=>k_is)
  (case mk_KindLook=>k_is)
  (case kc_KindLook=>k_is)
  (case na_KindLook_faults=>k_is)
  (case na_KindLook_firsts=>k_is)
  (case t1_KindLook=>k_is)
  (case t2_KindLook=>k_is)
  (case t3_KindLook=>k_is)
  (case t4_KindLook=>k_is)
  (case a_MAKES=>k_is)
  (case l_MAKES=>k_is)
  (case s_MAKES=>first | rfl | decide | k_is)
  (case e_MAKES_0=>first | rfl | decide | k_is)
  (case e_MAKES_1=>first | rfl | decide | k_is)
  (case e_MAKES_2=>first | rfl | decide | k_is)
  (case e_MAKES_3=>first | rfl | decide | k_is)
  (case e_MAKES_4=>first | rfl | decide | k_is)
  (case e_MAKES_5=>first | rfl | decide | k_is)
  (case e_MAKES_6=>first | rfl | decide | k_is)
  (case e_MAKES_7=>first | rfl | decide | k_is)
  (case e_MAKES_8=>first | rfl | decide | k_is)
  (case e_MAKES_9=>first | rfl | decide | k_is)
  (case a_ASKS=>k_is)
  (case l_ASKS=>k_is)
  (case s_ASKS=>first | rfl | decide | k_is)
  (case e_ASKS_0=>first | rfl | decide | k_is)
  (case e_ASKS_1=>first | rfl | decide | k_is)
  (case e_ASKS_2=>first | rfl | decide | k_is)
  (case e_ASKS_3=>first | rfl | decide | k_is)
  (case e_ASKS_4=>first | rfl | decide | k_is)
  (case e_ASKS_5=>first | rfl | decide | k_is)
  (case e_ASKS_6=>first | rfl | decide | k_is)
  (case e_ASKS_7=>first | rfl | decide | k_is)
  (case a_PLAIN_KINDS=>k_is)
  (case l_PLAIN_KINDS=>k_is)
  (case z_len=>k_is)
  (case z_range=>k_is)
  (case z_list=>k_is)
  (case z_dict=>k_is)
  (case z_tuple=>k_is)
  (case z_sorted=>k_is)
  (case z_enumerate=>k_is)
  (case z_isinstance=>k_is)
  (case z_zip=>k_is)
  (case z_set=>k_is)
