import PyProof.Rows.All
import Wide.All
import OpenK.AllK
import Wide.FinOn
import Lean
import PyProof.EqAt
import PyProof.EqKinds
import PyProof.TupleCall
import PyProof.Rows.BitMore
import KE.IntBitsLaws
import KE.KRevIter
import KE.KTryMore
import PyProof.StrLawsRepr
import KE.KIsAll
import KE.RegKIsAll
import KE.RegKTryMore
import PyProof.StrCalls2
import PyProof.StrLawsTight
import PyProof.StrLawsChain
import PyProof.Rows.StrItems
import PyProof.Rows.StrWeight2
import PyProof.EnumMake
import PyProof.EnumStmt
import PyProof.Rows.EnumRows
import PyProof.Rows.ZipGen
import PyProof.Rows.FactsT2
import PyProof.IsiH_list
import PyProof.AttrMiss
import KE.KDictOf
import PyProof.IsiH_tuple
import PyProof.Rows.EqDataRows
import PyProof.P3Eq
import PyProof.Rows.SortRev
import KE.KSortTup
import PyProof.StrWalks
import KE.KIntText
import KE.IntTextLaws
import PyProof.CallStr
import KE.KDictSum
import PyProof.SumWalk
import PyProof.Rows.InDataRows
import KE.KDictList
import KE.KEqDict
import PyProof.Rows.SetFrom
import PySem.Challenge.RW_manymakes_k44_records_of_fields
set_option Elab.async false
set_option maxRecDepth 100000
set_option linter.all false
set_option maxHeartbeats 4000000
section
open PySem PySem.Spec PyProof.Rows PySem.W
theorem Qa:type_of% @wpAny_bind:=@wpAny_bind
theorem Qb:type_of% @List.getElem?_eq_getElem:=@List.getElem?_eq_getElem
theorem Qc {α:Type _} {l:List α} {i:Nat} {a:α} (h:l[i]?=some a):∃ h:i<l.length,l[i]=a:=List.getElem?_eq_some_iff.mp h
theorem Qd:type_of% @wpAny_pure:=@wpAny_pure
theorem Qe:type_of% @Heap.get?_push_of_some:=@Heap.get?_push_of_some
theorem Qf:type_of% @List.length_map:=@List.length_map
theorem Qg:type_of% @List.getD_eq_getElem?_getD:=@List.getD_eq_getElem?_getD
theorem Qh:type_of% @Nat.le_refl:=@Nat.le_refl
theorem Qi:type_of% @decide_eq_false:=@decide_eq_false
theorem Qj:type_of% @Heap.get?_push_size:=@Heap.get?_push_size
theorem Qk:type_of% @List.getElem?_map:=@List.getElem?_map
theorem Ql:type_of% @List.size_toArray:=@List.size_toArray
theorem Qm:type_of% @Heap.lt_size:=@Heap.lt_size
theorem Qn:type_of% @List.take_succ_eq_append_getElem:=@List.take_succ_eq_append_getElem
theorem Qo:type_of% @Option.some.inj:=@Option.some.inj
theorem Qp:type_of% @decide_eq_true:=@decide_eq_true
theorem Qq:type_of% @List.getElem?_append_right:=@List.getElem?_append_right
theorem Qr:type_of% @Nat.zero_le:=@Nat.zero_le
theorem Qt:type_of% @Nat.ne_of_lt:=@Nat.ne_of_lt
theorem Qu {α:Type _} {l:List α} {a b:α} (h:a∈b::l):a=b∨a∈l:=List.mem_cons.mp h
theorem Qv:type_of% @List.length_append:=@List.length_append
theorem Qw:type_of% @List.getElem?_append_left:=@List.getElem?_append_left
theorem Qx:type_of% @List.length_take:=@List.length_take
theorem Qy {α:Type _} {l r:List α} {a:α} (h:a∈l++r):a∈l∨a∈r:=List.mem_append.mp h
theorem Qz:type_of% @List.mem_cons_of_mem:=@List.mem_cons_of_mem
theorem QB:type_of% @List.take_of_length_le:=@List.take_of_length_le
theorem QC:type_of% @List.mem_cons_self:=@List.mem_cons_self
theorem QD:type_of% @List.mem_of_getElem?:=@List.mem_of_getElem?
theorem QE {α β:Type _} {f:α->β} {l:List α} {b:β} (h:b∈l.map f):∃ a,a∈l∧f a=b:=List.mem_map.mp h
theorem QF:type_of% @Nat.lt_of_le_of_lt:=@Nat.lt_of_le_of_lt
theorem QG:type_of% @Array.length_toList:=@Array.length_toList
theorem QH:type_of% @Nat.le_trans:=@Nat.le_trans
theorem QI:type_of% @Heap.get?_update_ne:=@Heap.get?_update_ne
theorem QJ:type_of% @List.getElem_mem:=@List.getElem_mem
theorem QK:type_of% @List.map_append:=@List.map_append
theorem QL:type_of% @wpAny_mono:=@wpAny_mono
theorem QM:type_of% @List.append_assoc:=@List.append_assoc
end
section
open PySem PySem.W
noncomputable def Mm.hdTr {α:Type} (_:α):Prop:=True
noncomputable def Mm.hdPk {α:Type} (s:α) (_:Mm.hdTr s):α:=s
theorem Mm.hdOf {α:Type} {a s:α} (_:a=s):Mm.hdTr s:=trivial
abbrev K44.g (i:Nat):Stmt:=PySem.Challenge.pw_manymakes_k44_records_of_fields.main.body.getD i (Stmt.Pass ⟨0,0,0,0⟩)
noncomputable def K44.t0:Stmt:=Mm.hdPk (Stmt.Assign _ _ _) (Mm.hdOf (a:=K44.g 0) rfl)
noncomputable def K44.t1:Stmt:=Mm.hdPk (Stmt.FunctionDef _ _ _ _ _ _ _ _ _ _) (Mm.hdOf (a:=K44.g 1) rfl)
noncomputable def K44.t2:Stmt:=Mm.hdPk (Stmt.FunctionDef _ _ _ _ _ _ _ _ _ _) (Mm.hdOf (a:=K44.g 2) rfl)
noncomputable def K44.t3:Stmt:=Mm.hdPk (Stmt.FunctionDef _ _ _ _ _ _ _ _ _ _) (Mm.hdOf (a:=K44.g 3) rfl)
noncomputable def K44.t4:Stmt:=Mm.hdPk (Stmt.FunctionDef _ _ _ _ _ _ _ _ _ _) (Mm.hdOf (a:=K44.g 4) rfl)
noncomputable def K44.t5:Stmt:=Mm.hdPk (Stmt.FunctionDef _ _ _ _ _ _ _ _ _ _) (Mm.hdOf (a:=K44.g 5) rfl)
noncomputable def K44.t6:Stmt:=Mm.hdPk (Stmt.FunctionDef _ _ _ _ _ _ _ _ _ _) (Mm.hdOf (a:=K44.g 6) rfl)
noncomputable def K44.t7:Stmt:=Mm.hdPk (Stmt.Assign _ _ _) (Mm.hdOf (a:=K44.g 7) rfl)
noncomputable def K44.t8:Stmt:=Mm.hdPk (Stmt.FunctionDef _ _ _ _ _ _ _ _ _ _) (Mm.hdOf (a:=K44.g 8) rfl)
noncomputable def K44.t9:Stmt:=Mm.hdPk (Stmt.FunctionDef _ _ _ _ _ _ _ _ _ _) (Mm.hdOf (a:=K44.g 9) rfl)
noncomputable def K44.t10:Stmt:=Mm.hdPk (Stmt.FunctionDef _ _ _ _ _ _ _ _ _ _) (Mm.hdOf (a:=K44.g 10) rfl)
noncomputable def K44.t11:Stmt:=Mm.hdPk (Stmt.FunctionDef _ _ _ _ _ _ _ _ _ _) (Mm.hdOf (a:=K44.g 11) rfl)
noncomputable def K44.t12:Stmt:=Mm.hdPk (Stmt.FunctionDef _ _ _ _ _ _ _ _ _ _) (Mm.hdOf (a:=K44.g 12) rfl)
noncomputable def K44.t13:Stmt:=Mm.hdPk (Stmt.FunctionDef _ _ _ _ _ _ _ _ _ _) (Mm.hdOf (a:=K44.g 13) rfl)
noncomputable def K44.t14:Stmt:=Mm.hdPk (Stmt.Assign _ _ _) (Mm.hdOf (a:=K44.g 14) rfl)
noncomputable def K44.t15:Stmt:=Mm.hdPk (Stmt.Assign _ _ _) (Mm.hdOf (a:=K44.g 15) rfl)
noncomputable def K44.t16:Stmt:=Mm.hdPk (Stmt.FunctionDef _ _ _ _ _ _ _ _ _ _) (Mm.hdOf (a:=K44.g 16) rfl)
noncomputable def K44.t17:Stmt:=Mm.hdPk (Stmt.FunctionDef _ _ _ _ _ _ _ _ _ _) (Mm.hdOf (a:=K44.g 17) rfl)
noncomputable def K44.t18:Stmt:=Mm.hdPk (Stmt.FunctionDef _ _ _ _ _ _ _ _ _ _) (Mm.hdOf (a:=K44.g 18) rfl)
noncomputable def K44.t19:Stmt:=Mm.hdPk (Stmt.FunctionDef _ _ _ _ _ _ _ _ _ _) (Mm.hdOf (a:=K44.g 19) rfl)
noncomputable def K44.t20:Stmt:=Mm.hdPk (Stmt.Assign _ _ _) (Mm.hdOf (a:=K44.g 20) rfl)
noncomputable def K44.t21:Stmt:=Mm.hdPk (Stmt.Assign _ _ _) (Mm.hdOf (a:=K44.g 21) rfl)
noncomputable def K44.t22:Stmt:=Mm.hdPk (Stmt.Assign _ _ _) (Mm.hdOf (a:=K44.g 22) rfl)
noncomputable def K44.t23:Stmt:=Mm.hdPk (Stmt.ClassDef _ _ _ _ _ _ _ _ _ _ _) (Mm.hdOf (a:=K44.g 23) rfl)
noncomputable def K44.t24:Stmt:=Mm.hdPk (Stmt.FunctionDef _ _ _ _ _ _ _ _ _ _) (Mm.hdOf (a:=K44.g 24) rfl)
noncomputable def K44.t25:Stmt:=Mm.hdPk (Stmt.FunctionDef _ _ _ _ _ _ _ _ _ _) (Mm.hdOf (a:=K44.g 25) rfl)
noncomputable def K44.t26:Stmt:=Mm.hdPk (Stmt.FunctionDef _ _ _ _ _ _ _ _ _ _) (Mm.hdOf (a:=K44.g 26) rfl)
noncomputable def K44.t27:Stmt:=Mm.hdPk (Stmt.FunctionDef _ _ _ _ _ _ _ _ _ _) (Mm.hdOf (a:=K44.g 27) rfl)
noncomputable def K44.t28:Stmt:=Mm.hdPk (Stmt.FunctionDef _ _ _ _ _ _ _ _ _ _) (Mm.hdOf (a:=K44.g 28) rfl)
noncomputable def K44.t29:Stmt:=Mm.hdPk (Stmt.Assign _ _ _) (Mm.hdOf (a:=K44.g 29) rfl)
noncomputable def K44.t30:Stmt:=Mm.hdPk (Stmt.FunctionDef _ _ _ _ _ _ _ _ _ _) (Mm.hdOf (a:=K44.g 30) rfl)
noncomputable def K44.t31:Stmt:=Mm.hdPk (Stmt.FunctionDef _ _ _ _ _ _ _ _ _ _) (Mm.hdOf (a:=K44.g 31) rfl)
noncomputable def K44.t32:Stmt:=Mm.hdPk (Stmt.FunctionDef _ _ _ _ _ _ _ _ _ _) (Mm.hdOf (a:=K44.g 32) rfl)
noncomputable def K44.t33:Stmt:=Mm.hdPk (Stmt.FunctionDef _ _ _ _ _ _ _ _ _ _) (Mm.hdOf (a:=K44.g 33) rfl)
noncomputable def K44.t34:Stmt:=Mm.hdPk (Stmt.FunctionDef _ _ _ _ _ _ _ _ _ _) (Mm.hdOf (a:=K44.g 34) rfl)
noncomputable def K44.t35:Stmt:=Mm.hdPk (Stmt.FunctionDef _ _ _ _ _ _ _ _ _ _) (Mm.hdOf (a:=K44.g 35) rfl)
noncomputable def K44.t36:Stmt:=Mm.hdPk (Stmt.FunctionDef _ _ _ _ _ _ _ _ _ _) (Mm.hdOf (a:=K44.g 36) rfl)
noncomputable def K44.t37:Stmt:=Mm.hdPk (Stmt.FunctionDef _ _ _ _ _ _ _ _ _ _) (Mm.hdOf (a:=K44.g 37) rfl)
noncomputable def K44.t38:Stmt:=Mm.hdPk (Stmt.FunctionDef _ _ _ _ _ _ _ _ _ _) (Mm.hdOf (a:=K44.g 38) rfl)
noncomputable def K44.t39:Stmt:=Mm.hdPk (Stmt.FunctionDef _ _ _ _ _ _ _ _ _ _) (Mm.hdOf (a:=K44.g 39) rfl)
noncomputable def K44.sc:Scope:=Mm.hdPk (Scope.mk _ _ _ _ _) (Mm.hdOf (a:=PySem.Challenge.pw_manymakes_k44_records_of_fields.main.scope) rfl)
noncomputable def K44.pw:Program:=Mm.hdPk (Program.mk (Module.mk (K44.t0::K44.t1::K44.t2::K44.t3::K44.t4::K44.t5::K44.t6::K44.t7::K44.t8::K44.t9::K44.t10::K44.t11::K44.t12::K44.t13::K44.t14::K44.t15::K44.t16::K44.t17::K44.t18::K44.t19::K44.t20::K44.t21::K44.t22::K44.t23::K44.t24::K44.t25::K44.t26::K44.t27::K44.t28::K44.t29::K44.t30::K44.t31::K44.t32::K44.t33::K44.t34::K44.t35::K44.t36::K44.t37::K44.t38::K44.t39::List.nil) K44.sc _ _ _) _ _ _ _ _) (Mm.hdOf (a:=PySem.Challenge.pw_manymakes_k44_records_of_fields) rfl)
noncomputable def K44.rw:OpenLaw:=Mm.hdPk { prog:=K44.pw,name:=_,about:=_,foot:=_,most:=_,bound:=_,writes:=_ } (Mm.hdOf (a:=PySem.Challenge.rw_manymakes_k44_records_of_fields) rfl)
theorem K44.rwe:K44.rw=PySem.Challenge.rw_manymakes_k44_records_of_fields:=rfl
end
section
open PySem PySem.W PyProof.Rows
theorem K44.pwe:PySem.Challenge.pw_manymakes_k44_records_of_fields=K44.pw:=rfl
noncomputable def K44.vw:Program:={ K44.pw with main:={ K44.pw.main with body:=K44.t1::K44.t2::K44.t3::K44.t4::K44.t5::K44.t6::K44.t8::K44.t9::K44.t10::K44.t11::K44.t12::K44.t13::K44.t14::K44.t16::K44.t17::K44.t18::K44.t19::K44.t21::K44.t22::K44.t23::K44.t24::K44.t25::K44.t26::K44.t27::K44.t28::K44.t30::K44.t31::K44.t32::K44.t33::K44.t34::K44.t35::K44.t36::K44.t37::K44.t38::K44.t39::List.nil } }
theorem Mm.keepIt (_:Hook) {p:Prop} (h:p):p:=h
section
local macro_rules | `(tactic| o_head $H)=>`(tactic| exact Mm.keepIt $H (by assumption))
set_option maxHeartbeats 0 in
theorem K44.pre (h:(OpenLaw.row PySem.Challenge.rw_manymakes_k44_records_of_fields).Holds):(OpenLaw.row PySem.Challenge.rw_manymakes_k44_records_of_fields).Holds:=by k_head
end
def K44.as:List Addr:=[2,3,15,17,18,20,21,22,24,25,27,28,29,31,32,34,35,36,39,40,41,43,44,46,47,48,51,52,53,56,57,58,61,62,63,65,66,68,69,70,73,74,75,78,79,80,83,84,85,86,88,89,91,92,93,95,96,98,99,100,102,103,105,106,107,109,110,112,113,114,115,123,125,126,128,129,130,132,133,135,136,137,139,140,142,143,144,147,148,149,152,153,154,156,157,159,160,161,163,164,166,167,168,171,172,173,175,176,178,179,180,183,184,185,186,187,188,189,192,195,196,197,199,200,202,203,204,206,207,209,210,211,213,214,216,217,218,221,222,223,225,226,228,229,230,232,233,235,236,237,240,241,242,245,246,247,249,250,252,253,254,257,258,259,261,262,264,265,266,269,270,271,273,274,276,277,278,281,282]
theorem K44.ase (P:Params):K44.as=(K44.pre.heap_1 P).map (·.1):=by kernel_rfl
theorem Mm.both_true {a b:Bool} (h:(a&&b)=true):a=true/\b=true:=by cases a<;>cases b<;>simp_all
noncomputable abbrev K44.xt:Shared->Bool:=fun s=>(xlAt K44.vw [] s)&&(recOk (RowW.records (OpenRow.toRowW (OpenLaw.row K44.rw))) s)
noncomputable def K44.oe (w:World):Option Shared :=
 (importEnds treeTable (opening K44.pw) w 3678 (start (opening K44.pw)).1 (start (opening K44.pw)).2).bind fun s=>(fenceModules? K44.pw s).bind fun s₀ =>
 match s₀.heap.isNs mainGlobals&&s₀.gens.size == 0 with
 | true=>(topRun treeTable K44.pw w s₀.heap.objs.size (s₀.heap.nsMap mainGlobals "__annotations__") 3678 s₀ (topStub K44.pw)).bind fun s₁=>match staticsOk (importedModules K44.pw.main.body) s₀.heap s₁.heap&&namesBound K44.pw s₁.heap&&gensDone s₁&&laidKept s₀.heap s₁.heap with
   | true=>some s₁
   | false=>none
 | false=>none
theorem Mm.bindAss {α β γ:Type} (o:Option α) (f:α->Option β) (g:β->Option γ):(o.bind f).bind g=o.bind fun s=>(f s).bind g:=by cases o<;>rfl
theorem K44.oe_eq (w:World):openEnds treeTable PySem.Challenge.pw_manymakes_k44_records_of_fields w 3678=K44.oe w:=by
 rw [K44.pwe]
 show ((importEnds _ _ _ _ _ _).bind _).bind _=_
 rw [Mm.bindAss]
 rfl
noncomputable def K44.ga (w:World):=Option.map (openSeen K44.vw ["MAKES","ASKS"] (importedModules K44.pw.main.body) K44.xt true) (K44.oe w)
noncomputable def K44.gb:=some (openGood K44.vw ["MAKES","ASKS"])
noncomputable def K44.oa (w:World):Option (List (Option Obj)):=Option.map (fun s=>K44.as.map s.heap.get?) (K44.oe w)
def Mm.hdTt {α:Type} (_:α):Bool:=true
theorem K44.lay1:Mm.hdTt K44.ga=true:=by k_qdec
theorem K44.lay2:Mm.hdTt K44.gb=true:=by k_qdec
theorem K44.lay3:Mm.hdTt K44.oa=true:=by k_qdec
theorem K44.la0 (w:World):PySem.W.Fast.tw11853851770398887507 (w.withFollow "special-get-raises" false)=PySem.W.Fast.tw14466647171466861085:=by kernel_rfl
theorem K44.lb0 (w:World):PySem.W.Fast.tw11830667980761022408 (w.withFollow "special-get-raises" false)=some ((K44.pre.heap_1 (w.withFollow "special-get-raises" false).params).map fun p=>some p.2):=by kernel_rfl
theorem K44.la1 (w:World):PySem.W.Fast.tw11853851770398887507 (w.withFollow "special-get-raises" true)=PySem.W.Fast.tw14466647171466861085:=by kernel_rfl
theorem K44.lb1 (w:World):PySem.W.Fast.tw11830667980761022408 (w.withFollow "special-get-raises" true)=some ((K44.pre.heap_1 (w.withFollow "special-get-raises" true).params).map fun p=>some p.2):=by kernel_rfl
theorem K44.la (w:World):PySem.W.Fast.tw11853851770398887507 w=PySem.W.Fast.tw14466647171466861085:=byRow2 "special-get-raises" (P:=fun w=>PySem.W.Fast.tw11853851770398887507 w=PySem.W.Fast.tw14466647171466861085) K44.la0 K44.la1 w
theorem K44.lb (w:World):PySem.W.Fast.tw11830667980761022408 w=some ((K44.pre.heap_1 w.params).map fun p=>some p.2):=byRow2 "special-get-raises" (P:=fun w=>PySem.W.Fast.tw11830667980761022408 w=some ((K44.pre.heap_1 w.params).map fun p=>some p.2)) K44.lb0 K44.lb1 w
theorem Mm.twoM {α β γ:Type} {o:Option α} {f:α->β} {g:α->γ} {b:β} {c:γ} (h1:o.map f=some b) (h2:o.map g=some c):o.map (fun s=>(f s,g s))=some (b,c):=by
 cases o with
 | none=>cases h1
 | some s =>
  have h1:=Qo h1
  have h2:=Qo h2
  show some (f s,g s)=_
  rw [h1,h2]
theorem K44.left:LeftO PySem.Challenge.pw_manymakes_k44_records_of_fields K44.vw ["MAKES","ASKS"] K44.xt (kHook K44.pre.heap_1 K44.as K44.ase).obs (kHook K44.pre.heap_1 K44.as K44.ase).val 3678:=fun w=>by
 rw [K44.oe_eq]
 exact Mm.twoM ((congrFun PySem.W.Fast.te11853851770398887507 w).trans ((K44.la w).trans PySem.W.Fast.te14466647171466861085.symm)) ((congrFun PySem.W.Fast.te11830667980761022408 w).trans (K44.lb w))
end
namespace L2
open PySem PySem.Spec PyProof.Rows
noncomputable abbrev ae:=Sum Int Str
noncomputable def gM:ae->Value->Bool
 | .inl k,v=>Value.isInt k v
 | .inr x,v=>Value.isStrOf x v
noncomputable def vC (w:World):ae->Int
 | .inl k=>hashInt k
 | .inr x=>hashStr w x
theorem eG:∀ {k:ae} {v:Value},gM k v=true->(∃ i t,k=Sum.inl i/\v=Value.int i t)∨(∃ x t,k=Sum.inr x/\v=Value.str x t)
 | .inl i,v,h=>by
  obtain ⟨t,e⟩:=Value.isInt_shape (k:=i) (v:=v) h
  exact .inl ⟨i,t,rfl,e⟩
 | .inr x,v,h=>by
  obtain ⟨t,e⟩:=Value.isStrOf_shape (x:=x) (v:=v) h
  exact .inr ⟨x,t,rfl,e⟩
theorem vD (i:Int) (t:Tok):gM (.inl i) (.int i t)=true:=by simp [gM,Value.isInt]
theorem vE (x:Str) (t:Tok):gM (.inr x) (.str x t)=true:=by simp [gM,Value.isStrOf]
theorem vF (a b:Int):decide ((Sum.inl a:ae)=Sum.inl b)=(a == b):=by
 by_cases e:a=b
 ·subst e;simp
 ·have h:¬ (Sum.inl a:ae)=Sum.inl b:=fun q=>e (Sum.inl.inj q)
  rw [Qi h]
  exact (beq_eq_false_iff_ne.mpr e).symm
theorem vG (a b:Str):decide ((Sum.inr a:ae)=Sum.inr b)=decide (a=b):=by
 by_cases e:a=b
 ·subst e;simp
 ·have h:¬ (Sum.inr a:ae)=Sum.inr b:=fun q=>e (Sum.inr.inj q)
  rw [Qi h,Qi e]
theorem vH (a:Int) (b:Str):decide ((Sum.inl a:ae)=Sum.inr b)=false:=Qi (fun q=>nomatch q)
theorem vI (a:Str) (b:Int):decide ((Sum.inr a:ae)=Sum.inl b)=false:=Qi (fun q=>nomatch q)
noncomputable def bK (prog:Program) (w:World):PySem.KeyKind prog w ae where
 is:=gM
 hash:=vC w
 inj:=fun v a b ha hb=>by
  rcases eG ha with ⟨i,t,rfl,rfl⟩ | ⟨x,t,rfl,rfl⟩
  ·rcases eG hb with ⟨j,u,rfl,e⟩ | ⟨y,u,rfl,e⟩
   ·injection e with e1 _;rw [e1]
   ·exact nomatch e
  ·rcases eG hb with ⟨j,u,rfl,e⟩ | ⟨y,u,rfl,e⟩
   ·exact nomatch e
   ·injection e with e1 _;rw [e1]
 byValue:=fun k v h=>by
  rcases eG h with ⟨i,t,rfl,rfl⟩ | ⟨x,t,rfl,rfl⟩<;>rfl
 pyHash:=fun hv h=>by
  rcases eG hv with ⟨i,t,rfl,rfl⟩ | ⟨x,t,rfl,rfl⟩
  ·exact wpAny_pyHash_int h
  ·exact wpAny_pyHash_str h
 eqBool:=fun hu hv h=>by
  rcases eG hu with ⟨i,t,rfl,rfl⟩ | ⟨x,t,rfl,rfl⟩
  ·rcases eG hv with ⟨j,u,rfl,rfl⟩ | ⟨y,u,rfl,rfl⟩
   ·rw [vF] at h;exact wpAny_eqBool_int h
   ·rw [vH] at h;exact SeqAt.EqAt.int_str i t y u _ _ _ _ h
  ·rcases eG hv with ⟨j,u,rfl,rfl⟩ | ⟨y,u,rfl,rfl⟩
   ·rw [vI] at h;exact SeqAt.EqAt.str_int x t j u _ _ _ _ h
   ·rw [vG] at h;exact wpAny_eqBool_str h
 «strs»:=fun k x t v h=>by
  rcases eG h with ⟨i,u,rfl,e⟩ | ⟨y,u,rfl,e⟩
  ·exact nomatch e
  ·injection e with e1 _
   subst e1
   cases v<;>rfl
theorem vJ (prog:Program) (w:World) (i:Int) (t:Tok):(bK prog w).is (.inl i) (.int i t)=true:=vD i t
theorem jK (prog:Program) (w:World) (x:Str) (t:Tok):(bK prog w).is (.inr x) (.str x t)=true:=vE x t
end L2
namespace L2
open PySem PySem.Spec PyProof.Rows
inductive V where
 | non | bl (b:Bool) | int (i:Int) | str (x:Str) | byt (b:Array UInt8) | flt (b:UInt64) | ref (a:Addr) | ty (n:String)
 deriving DecidableEq
noncomputable def RelV:V->Value->Prop
 | .non,u=>u=Value.none
 | .bl b,u=>u=Value.bool b
 | .int i,u=>∃ t,u=Value.int i t
 | .str x,u=>∃ t,u=Value.str x t
 | .byt b,u=>∃ t,u=Value.bytes b t
 | .flt b,u=>∃ t,u=Value.float b t
 | .ref a,u=>u=Value.ref a
 | .ty n,u=>u=Value.type n
noncomputable abbrev aw:List V->List Value->Prop:=Paired RelV
theorem aw.length {xs:List V} {us:List Value} (r:aw xs us):xs.length=us.length:=Paired.length r
theorem aw.get:∀ {xs:List V} {us:List Value} {i:Nat} {x:V},aw xs us->xs[i]?=some x->∃ u,us[i]?=some u/\RelV x u
 | _,_,_,_,.nil,e=>by simp at e
 | _,_,0,_,.cons r _,e=>by simp at e;subst e;exact ⟨_,rfl,r⟩
 | _,_,i+1,x,.cons _ t,e=>by
  obtain ⟨u,h1,h2⟩:=aw.get (i:=i) (x:=x) t (by simpa using e)
  exact ⟨u,by simpa using h1,h2⟩
theorem aw.append:∀ {xs ys:List V} {us ws:List Value},aw xs us->aw ys ws->aw (xs++ys) (us++ws)
 | _,_,_,_,.nil,s=>s
 | _,_,_,_,.cons r t,s=>.cons r (aw.append t s)
theorem aw.take:∀ {xs:List V} {us:List Value} (n:Nat),aw xs us->aw (xs.take n) (us.take n)
 | _,_,0,_=>.nil
 | _,_,_+1,.nil=>.nil
 | _,_,n+1,.cons r t=>.cons r (aw.take n t)
theorem aw.drop:∀ {xs:List V} {us:List Value} (n:Nat),aw xs us->aw (xs.drop n) (us.drop n)
 | _,_,0,r=>r
 | _,_,_+1,.nil=>.nil
 | _,_,n+1,.cons _ t=>aw.drop n t
noncomputable def cJ:Option V->Option Value->Prop
 | some v,some u=>RelV v u
 | none,none=>True
 | _,_=>False
noncomputable def KV {κ:Type}:List (κ × V)->List (κ × Value)->Prop:=Paired fun (p:κ × V) (q:κ × Value)=>p.1=q.1/\RelV p.2 q.2
noncomputable def kV:ae->V
 | .inl i=>.int i
 | .inr x=>.str x
inductive HO where
 | lst (xs:List V)
 | tup (xs:List V)
 | dK (kvs:List (ae × V)) | dT (kvs:List (List ae × V))
 | set (S:Int->Bool) (n:Nat)
 | ins (C dx:Addr) (fs:List (Str × V))
 | own (x:Addr)
 | xd (fs:List (Str × V))
 | met (f x:Addr)
 | rng (lo hi:Int)
 | frz (o:Obj) (u:HO)
 | tbl (ps:Array Value)
 | ext (φ:Heap->Prop)
noncomputable abbrev Hp:=Addr->Option HO
noncomputable def af (H:Hp) (a:Addr) (o:HO):Hp:=fun b=>if b=a then some o else H b
theorem aj {H:Hp} {a:Addr} {o:HO}:af H a o a=some o:=by unfold af;rw [if_pos rfl]
theorem ar {H:Hp} {a b:Addr} {o:HO} (h:b≠a):af H a o b=H b:=by unfold af;rw [if_neg h]
theorem vK {H:Hp} {a b:Addr} {o u:HO} (h:H a=some o) (h':H b=some u) (d:o≠u):a≠b:=by
 intro e;subst e;rw [h] at h';exact d (Qo h')
theorem cD {H:Hp} {a b:Addr} {o:HO} (h:H a=some o) (h':H b=none):a≠b:=by
 intro e;subst e;rw [h] at h';cases h'
noncomputable def gN (h:Heap) (a:Addr):Prop:=∃ o:Obj,h.get? a=some o/\o.dict=none
theorem gN.new (h:Heap) (items:Array Value):gN (h.push { cls:=.type "tuple",data:=.seq items }) h.objs.size:=⟨_,Qj _ rfl,rfl⟩
section
variable (P:Program) (w:World)
noncomputable def bz (H:Hp) (h:Heap) (a:Addr):HO->Prop
 | .lst xs=>xs.length<=sizeLine/\∃ (its:List Value) (n:Nat),aw xs its/\h.get? a=some { cls:=.type "list",data:=.seq its.toArray n }
 | .tup xs=>xs.length<=sizeLine/\∃ its:List Value,aw xs its/\IsTup h a its.toArray/\gN h a
 | .dK kvs=>kvs.length<=sizeLine/\(a == sysModules)=false/\∃ vs,KV kvs vs/\h.DictOf (bK P w) a vs
 | .dT kvs=>kvs.length<=sizeLine/\(a == sysModules)=false/\∃ xs:List (List ae × Addr × Value),
   Paired (fun (p:List ae × V) (q:List ae × Addr × Value)=>p.1=q.1/\H q.2.1=some (.tup (p.1.map kV))/\RelV p.2 q.2.2) kvs xs /\
   ∃ o es ep,h.get? a=some o/\o.ExactDict/\o.data=.dict es ep/\es.toList=xs.map (entryOfKey (tupleKind (bK P w)))/\(xs.map (·.1)).Nodup
 | .set S n=>h.SetOf (intKind P w) a S n
 | .ins C dx fs=>H dx=some (.own a)/\fs.length<=1000/\dx≠a/\h.get? a=some (PySem.W.instObj C dx) /\
   ∃ mA,h.Ns1 dx mA/\(∀ f,cJ (fs.lookup f) (mA f))/\PySem.Within mA (fs.map (·.1))
 | .own _=>∃ o,h.get? a=some o
 | .xd fs=>∃ mA,h.Ns1 a mA/\∀ f,cJ (fs.lookup f) (mA f)
 | .rng lo hi=>∃ t u v,h.get? a=some { cls:=.type "range",data:=.fields #[.int lo t,.int hi u,.int 1 v] }
 | .frz o u=>h.get? a=some o/\bz H h a u
 | .tbl ps=>h.get? a=some { cls:=.none,data:=.fields ps }
 | .met f x=>h.get? a=some (PySem.W.methodObj (.ref f) (.ref x))
 | .ext φ=>φ h/\(∃ o,h.get? a=some o)/\∀ h1 h2:Heap,φ h1->(∀ o,h1.get? a=some o->h2.get? a=some o)->φ h2
noncomputable def bA (H:Hp) (h:Heap):Prop:=∀ a o,H a=some o->bz P w H h a o
end
section
variable {P:Program} {w:World} {H H':Hp} {h h':Heap} {a:Addr} {o:HO}
theorem bz.lt (x:bz P w H h a o):a<h.objs.size:=by
 cases o with
 | lst xs=>obtain ⟨_,_,_,_,e⟩:=x;exact Qm e
 | tup xs=>obtain ⟨_,_,_,p,_⟩:=x;exact p.lt
 | dK kvs=>obtain ⟨_,_,_,_,o,_,_,e,_⟩:=x;exact Qm e
 | dT kvs=>obtain ⟨_,_,_,_,o,_,_,e,_⟩:=x;exact Qm e
 | set S n=>obtain ⟨o,_,_,_,e,_⟩:=x;exact Qm e
 | ins C dx fs=>obtain ⟨_,_,_,e,_⟩:=x;exact Qm e
 | own y=>obtain ⟨_,e⟩:=x;exact Qm e
 | xd fs=>obtain ⟨_,⟨_,_,_,e,_⟩,_⟩:=x;exact Qm e
 | rng lo hi=>obtain ⟨_,_,_,e⟩:=x;exact Qm e
 | frz ob u=>obtain ⟨e,_⟩:=x;exact Qm e
 | tbl ps=>exact Qm (show h.get? a=some _ from x)
 | met f y=>exact Qm (show h.get? a=some _ from x)
 | ext φ=>obtain ⟨_,⟨_,e⟩,_⟩:=x;exact Qm e
theorem Paired.mapP {α β:Type} {F G:α->β->Prop}:∀ {l₁:List α} {l₂:List β},Paired F l₁ l₂->(∀ a b,F a b->G a b)->Paired G l₁ l₂
 | _,_,.nil,_=>.nil
 | _,_,.cons r t,f=>.cons (f _ _ r) (Paired.mapP t f)
theorem bz.stay (x:bz P w H h a o) (k:∀ b u,(b=a∨H b=some (.own a))->h.get? b=some u->h'.get? b=some u)
  (ho:∀ b,H b=some (.own a)->H' b=some (.own a)) (ht:∀ b xs,H b=some (.tup xs)->H' b=some (.tup xs)):bz P w H' h' a o:=by
 induction o with
 | lst xs=>obtain ⟨z,its,n,r,e⟩:=x;exact ⟨z,its,n,r,k _ _ (.inl rfl) e⟩
 | tup xs=>obtain ⟨z,its,r,⟨ob,e,c⟩,ob2,e2,c2⟩:=x;exact ⟨z,its,r,⟨ob,k _ _ (.inl rfl) e,c⟩,ob2,k _ _ (.inl rfl) e2,c2⟩
 | dK kvs=>obtain ⟨z,y,vs,r,ob,es,ep,e,c⟩:=x;exact ⟨z,y,vs,r,ob,es,ep,k _ _ (.inl rfl) e,c⟩
 | dT kvs =>
  obtain ⟨z,y,xs,r,ob,es,ep,e,c⟩:=x
  exact ⟨z,y,xs,Paired.mapP r fun p q z=>⟨z.1,ht _ _ z.2.1,z.2.2⟩,ob,es,ep,k _ _ (.inl rfl) e,c⟩
 | set S n=>obtain ⟨ob,es,ep,t,e,c⟩:=x;exact ⟨ob,es,ep,t,k _ _ (.inl rfl) e,c⟩
 | ins C dx fs =>
  obtain ⟨d,z,ne,e,mA,⟨od,es,ep,e2,c⟩,r⟩:=x
  exact ⟨ho _ d,z,ne,k _ _ (.inl rfl) e,mA,⟨od,es,ep,k _ _ (.inr d) e2,c⟩,r⟩
 | own y=>obtain ⟨ob,e⟩:=x;exact ⟨ob,k _ _ (.inl rfl) e⟩
 | xd fs=>obtain ⟨mA,⟨od,es,ep,e,c⟩,r⟩:=x;exact ⟨mA,⟨od,es,ep,k _ _ (.inl rfl) e,c⟩,r⟩
 | rng lo hi=>obtain ⟨t,u,v,e⟩:=x;exact ⟨t,u,v,k _ _ (.inl rfl) e⟩
 | frz ob u ih=>obtain ⟨e,q⟩:=x;exact ⟨k _ _ (.inl rfl) e,ih q⟩
 | tbl ps =>
  have e:h.get? a=some { cls:=.none,data:=.fields ps }:=x
  show h'.get? a=some { cls:=.none,data:=.fields ps }
  exact k a _ (.inl rfl) e
 | met f y =>
  have e:h.get? a=some (PySem.W.methodObj (.ref f) (.ref y)):=x
  show h'.get? a=some (PySem.W.methodObj (.ref f) (.ref y))
  exact k a _ (.inl rfl) e
 | ext φ=>obtain ⟨p,⟨o,e⟩,st⟩:=x;exact ⟨st _ _ p fun o q=>k _ _ (.inl rfl) q,⟨o,k _ _ (.inl rfl) e⟩,st⟩
theorem bA.lt (x:bA P w H h) (e:H a=some o):a<h.objs.size:=(x a o e).lt
theorem bA.fresh (x:bA P w H h) (e:h.objs.size<=a):H a=none:=by
 cases q:H a with
 | none=>rfl
 | some u=>exact absurd (Nat.lt_of_lt_of_le (x.lt q) e) (Nat.lt_irrefl _)
theorem bA.kept (x:bA P w H h) (k:∀ b u,h.get? b=some u->h'.get? b=some u):bA P w H h':=fun a o e =>
 (x a o e).stay (fun b u _ q=>k b u q) (fun _ q=>q) fun _ _ q=>q
theorem bA.laid (x:bA P w H h) (k:∀ b u,h.get? b=some u->h'.get? b=some u) (hp:h.objs.size<=a) (new:bz P w (af H a o) h' a o):bA P w (af H a o) h':=fun b u e=>by
 have hn:=x.fresh hp
 by_cases hb:b=a
 ·subst hb;rw [aj] at e;cases e;exact new
 ·rw [ar hb] at e
  exact (x b u e).stay (fun c v _ q=>k c v q) (fun c q=>by rw [ar (cD q hn)];exact q) fun c xs q=>by rw [ar (cD q hn)];exact q
end
noncomputable def Rd (H:Hp) (a:Addr) (u:HO):Prop:=H a=some u∨∃ o,H a=some (.frz o u)
theorem Rd.ok {P:Program} {w:World} {H:Hp} {h:Heap} {a:Addr} {u:HO} (r:Rd H a u) (x:bA P w H h):bz P w H h a u:=by
 rcases r with r | ⟨o,r⟩
 ·exact x a u r
 ·obtain ⟨_,q⟩:=x a _ r
  exact q
noncomputable def iD:Option HO->Prop
 | some (.lst _)=>True
 | some (.dK _)=>True
 | some (.dT _)=>True
 | some (.set _ _)=>True
 | some (.ins _ _ _)=>True
 | some (.ext _)=>True
 | _=>False
section
variable {P:Program} {w:World} {H:Hp} {h h':Heap} {x e:Addr} {o':HO}
theorem bA.write (ok:bA P w H h) (mu:iD (H x)) (he:e=x∨H e=some (.own x)) (k:∀ b u,b≠e->h.get? b=some u->h'.get? b=some u) (heo:∃ u,h'.get? e=some u)
  (new:bz P w (af H x o') h' x o'):bA P w (af H x o') h':=fun b u q=>by
 have nown:∀ c y,H c=some (.own y)->c≠x:=fun c y r z=>by subst z;rw [r] at mu;exact mu
 have ntup:∀ c xs,H c=some (.tup xs)->c≠x:=fun c xs r z=>by subst z;rw [r] at mu;exact mu
 by_cases hb:b=x
 ·subst hb;rw [aj] at q;cases q;exact new
 ·rw [ar hb] at q
  by_cases hbe:b=e
  ·have q':H b=some (.own x):=by
    rcases he with z | z
    ·exact absurd (hbe.trans z) hb
    ·rw [hbe];exact z
   rw [q] at q';cases q'
   obtain ⟨v,hv⟩:=heo
   exact ⟨v,by rw [hbe];exact hv⟩
  ·refine (ok b u q).stay (fun c v hc r=>k c v ?_ r) (fun c r=>by rw [ar (nown c b r)];exact r) fun c xs r=>by rw [ar (ntup c xs r)];exact r
   rcases hc with rfl | hc
   ·exact hbe
   ·rintro rfl
    rcases he with z | z
    ·exact nown c b hc z
    ·rw [hc] at z;cases z;exact hb rfl
end
structure Un (fs ex:List Addr) (H H':Hp) (h h':Heap):Prop where
 keep:∀ b o,h.get? b=some o->H b=none->b∉fs->b∉ex->h'.get? b=some o
 slot:∀ b o,h.get? b=some o->H b=none->b∈fs->b∉ex->∃ sl,h'.get? b=some { o with slots:=sl }
 free:∀ b o,h.get? b=some o->H b=none->b∉ex->H' b=none
 there:∀ b o,h.get? b=some o->b∉ex->∃ o',h'.get? b=some o'
 tups:∀ b xs,H b=some (.tup xs)->H' b=some (.tup xs)
 frzs:∀ b o u,H b=some (.frz o u)->H' b=some (.frz o u)
 tbls:∀ b ps,H b=some (.tbl ps)->∃ more,H' b=some (.tbl (ps++more))
section
variable {fs fs' ex ex':List Addr} {H H1 H2:Hp} {h h1 h2 h':Heap} {a x e:Addr} {o:HO}
theorem Un.any (u:Un fs ex H H1 h h1) {b:Addr} {ob:Obj} (q:h.get? b=some ob) (n:H b=none) (hx:b∉ex):∃ sl,h1.get? b=some { ob with slots:=sl }:=by
 by_cases hb:b∈fs
 ·exact u.slot b ob q n hb hx
 ·exact ⟨ob.slots,u.keep b ob q n hb hx⟩
theorem Un.kept (k:∀ b u,h.get? b=some u->h'.get? b=some u):Un fs ex H H h h' :=
 ⟨fun b ob q _ _ _=>k b ob q,fun b ob q _ _ _=>⟨ob.slots,k b ob q⟩,fun _ _ _ n _=>n,fun b ob q _=>⟨ob,k b ob q⟩,fun _ _ q=>q,fun _ _ _ q=>q,fun _ ps q=>⟨#[],by rw [q];simp⟩⟩
theorem Un.refl:Un fs ex H H h h:=Un.kept fun _ _ q=>q
theorem Un.laid (k:∀ b u,h.get? b=some u->h'.get? b=some u) (hp:h.objs.size<=a) (hn:H a=none):Un fs ex H (af H a o) h h' where
 keep:=fun b u q _ _ _=>k b u q
 slot:=fun b u q _ _ _=>⟨u.slots,k b u q⟩
 free:=fun b u q n _=>by rw [ar (Qt (Nat.lt_of_lt_of_le (Qm q) hp))];exact n
 there:=fun b u q _=>⟨u,k b u q⟩
 tups:=fun b xs q=>by rw [ar (cD q hn)];exact q
 frzs:=fun b u xs q=>by rw [ar (cD q hn)];exact q
 tbls:=fun b ps q=>⟨#[],by rw [ar (cD q hn),q];simp⟩
theorem Un.write (mu:iD (H x)) (he:e=x∨H e=some (.own x)) (k:∀ b u,b≠e->h.get? b=some u->h'.get? b=some u) (heo:∃ u,h'.get? e=some u):Un fs ex H (af H x o) h h':=by
 have hx:∀ b,H b=none->b≠x:=fun b n z=>by subst z;rw [n] at mu;exact mu
 have hb:∀ b,H b=none->b≠e:=fun b n z=>by
  subst z
  rcases he with r | r
  ·exact hx b n r
  ·rw [n] at r;cases r
 have hm:∀ b u,H b=some u->¬ iD (some u)->b≠x:=fun b u q nm z=>by subst z;rw [q] at mu;exact nm mu
 refine ⟨fun b u q n _ _=>k b u (hb b n) q,fun b u q n _ _=>⟨u.slots,k b u (hb b n) q⟩,fun b u q n _=>by rw [ar (hx b n)];exact n,fun b u q _=>?_,
  fun b xs q=>by rw [ar (hm b _ q fun z=>z)];exact q,fun b u xs q=>by rw [ar (hm b _ q fun z=>z)];exact q,fun b ps q=>⟨#[],by rw [ar (hm b _ q fun z=>z),q];simp⟩⟩
 by_cases hbe:b=e
 ·subst hbe;exact heo
 ·exact ⟨u,k b u hbe q⟩
end
noncomputable def jL (h:Heap) (H:Hp):List Addr:=(List.range h.objs.size).filter fun a=>(H a).isSome
noncomputable def eV (h:Heap) (H:Hp):Heap:=PySem.W.hideAll h (jL h H)
theorem vL (h:Heap) (H:Hp):(eV h H).objs.size=h.objs.size:=PySem.W.hideAll_size _ _
theorem vM {h:Heap} {H:Hp} {b:Addr} {o:Obj} (e:h.get? b=some o) (n:H b=none):(eV h H).get? b=some o :=
 PySem.W.hideAll_get _ e fun hm=>by
  have q:(H b).isSome=true:=(List.mem_filter.mp hm).2
  rw [n] at q;simp at q
theorem vN {h:Heap} {H:Hp} {b:Addr} {o:Obj} (e:(eV h H).get? b=some o):h.get? b=some o/\H b=none:=by
 have e':h.get? b=some o:=PySem.W.of_hideAll (jL h H) e
 refine ⟨e',?_⟩
 cases q:H b with
 | none=>rfl
 | some x =>
  have hm:b∈jL h H:=List.mem_filter.mpr ⟨List.mem_range.mpr (Qm e'),by simp [q]⟩
  have z:(eV h H).get? b=none:=PySem.W.hideAll_none (jL h H) hm
  rw [z] at e;cases e
end L2
namespace L2
open PySem PySem.Spec PyProof.Rows
structure Mod (K:PySem.W.Frag) (mg:Str->Option Value) (base:Heap):Prop where
 kin:K.In base
 glob:base.Ns mainGlobals mg
 blt:∃ mb,base.Ns builtinsNs mb/\∀ x:Str,x≠"__name__"->mb x=bootBuiltins x
 nolimit:base.NoLimit
structure Cx where
 prog:Program
 w:World
 K:PySem.W.Frag
 mg:Str->Option Value
 base:Heap
 A:Around
 N:List Str
 s₀:Shared
 H₀:Hp
 env:Env
 outer:List Env
 stack:List Env
 ex:List Addr
 fn:Str->Bool
 calm:Bool
 pn:List (Addr × Obj)
 xe:Value->Shared->Prop
noncomputable def dF (l:List Env):List Addr:=l.filterMap (·.frame)
noncomputable abbrev Cx.fs (X:Cx):List Addr:=dF X.outer
noncomputable def lH (sc:Scope) (x:Str):Prop:=sc.names.lookup x=some .local∨sc.names.lookup x=some .cell∨sc.names.lookup x=some .free
noncomputable def Loc (sc:Scope) (x:Str):Prop:=sc.names.lookup x=some .local∨sc.names.lookup x=some .cell
noncomputable def Look (env:Env) (h:Heap) (m:Str->Option Value) (x:Str) (u:Value):Prop :=
 (env.kindOf x=some .local/\m x=some u)∨((env.kindOf x=some .cell∨env.kindOf x=some .free)/\∃ c,env.cells.lookup x=some c/\h.IsCell c (some u))
structure Cx.Ok (X:Cx):Prop where
 mod:Mod X.K X.mg X.base
 kind:X.env.scope.kind=.function
 glob:X.env.globals=mainGlobals
 blt:X.env.builtins=builtinsNs
 above:X.s₀.heap.objs.size<=X.env.locals
 inj:∀ x y c,X.env.cells.lookup x=some c->X.env.cells.lookup y=some c->x=y
 has:∀ x,(X.env.kindOf x=some .cell∨X.env.kindOf x=some .free)->∃ c,X.env.cells.lookup x=some c
 cab:∀ x c,X.fn x=true->X.env.cells.lookup x=some c->X.s₀.heap.objs.size<=c
 hd:X.calm=true->X.A.handled=none
 frames:X.A.frames=some X.stack
 stk:X.stack=X.outer∨(X.stack=X.env::X.outer/\X.env.frame=some X.env.locals)
 exf:∀ b∈X.ex,b≠X.env.locals/\∀ x c,X.env.cells.lookup x=some c->c≠b
 bs:∀ b o,X.base.get? b=some o->X.s₀.heap.get? b=some o/\X.H₀ b=none
 bsz:X.base.objs.size<=X.s₀.heap.objs.size
 noex:∀ b o,X.base.get? b=some o->b∉X.ex
 exfs:∀ b∈X.ex,b∉X.fs
 funs:X.s₀.heap.FunFrames X.base X.outer
 frf:∀ b∈X.fs,X.H₀ b=none
structure Inv (X:Cx) (pins:List (Addr × Obj)) (σ:List (Option V)) (H:Hp) (s:Shared):Prop where
 ok:X.Ok
 os:s.os=X.s₀.os
 bare:AllBare s.gens
 base:Un X.fs X.ex X.H₀ H X.s₀.heap s.heap
 loc:∃ m,s.heap.Ns X.env.locals m/\∀ (i:Nat) (x:Str) (v:V),X.N[i]?=some x->σ[i]?=some (some v)->lH X.env.scope x->∃ u,RelV v u/\Look X.env s.heap m x u
 cell:∀ x c,X.env.cells.lookup x=some c->∃ v,s.heap.IsCell c v
 free:H X.env.locals=none
 freeC:∀ x c,X.env.cells.lookup x=some c->H c=none
 pin:∀ p∈X.pn++pins,s.heap.get? p.1=some p.2/\H p.1=none/\p.1≠X.env.locals/\p.1∉X.fs/\∀ v,p.2.data≠.cell v
 hok:bA X.prog X.w H s.heap
 len:σ.length=X.N.length
section
variable {X:Cx} {pins:List (Addr × Obj)} {σ:List (Option V)} {H H':Hp} {s:Shared} {h':Heap}
theorem Cx.Ok.nofr (ok:X.Ok) {b:Addr} {o:Obj} (e:X.base.get? b=some o):b∉X.fs:=fun hb=>by
 have:=(ok.funs.mem hb).1
 rw [e] at this;cases this
theorem Inv.bs (I:Inv X pins σ H s):∀ b o,X.base.get? b=some o->s.heap.get? b=some o/\H b=none:=fun b o e =>
 ⟨I.base.keep b o (I.ok.bs b o e).1 (I.ok.bs b o e).2 (I.ok.nofr e) (I.ok.noex b o e),I.base.free b o (I.ok.bs b o e).1 (I.ok.bs b o e).2 (I.ok.noex b o e)⟩
theorem Inv.bk (I:Inv X pins σ H s):∀ b o,X.base.get? b=some o->s.heap.get? b=some o:=fun b o e=>(I.bs b o e).1
theorem Inv.mod (I:Inv X pins σ H s):Mod X.K X.mg X.base:=I.ok.mod
theorem Inv.kIn (I:Inv X pins σ H s):X.K.In s.heap:=I.ok.mod.kin.keeps I.bk
theorem Inv.lt (I:Inv X pins σ H s):X.env.locals<s.heap.objs.size:=by obtain ⟨_,hn,_⟩:=I.loc;exact hn.lt
theorem Inv.sz (I:Inv X pins σ H s):X.s₀.heap.objs.size<=s.heap.objs.size:=QH I.ok.above (Nat.le_of_lt I.lt)
theorem Inv.nofs (I:Inv X pins σ H s) {a:Addr} (h:s.heap.objs.size<=a):a∉X.fs:=fun hb=>by
 obtain ⟨_,o,ho,_⟩:=I.ok.funs.mem hb
 exact absurd (Nat.lt_of_lt_of_le (Qm ho) (QH I.sz h)) (Nat.lt_irrefl _)
theorem Inv.cne (I:Inv X pins σ H s):∀ x c,X.env.cells.lookup x=some c->c≠X.env.locals:=fun x c e z=>by
 obtain ⟨v,o,ho,hd⟩:=I.cell x c e
 obtain ⟨m,⟨o',es,ep,ho',hd',_⟩,_⟩:=I.loc
 rw [z,ho'] at ho;cases ho;rw [hd'] at hd;cases hd
theorem Inv.funs (I:Inv X pins σ H s):s.heap.FunFrames X.base X.outer:=by
 have all:∀ (l:List Env),(∀ b∈dF l,b∈X.fs)->X.s₀.heap.FunFrames X.base l->s.heap.FunFrames X.base l:=by
  intro l
  induction l with
  | nil=>intro _ _;trivial
  | cons env r ih =>
   intro hs hl
   obtain ⟨hk,⟨L,o,hf,hn,ho,hd⟩,hr⟩:=hl
   have hL:L∈X.fs:=hs L (by unfold dF;rw [List.filterMap_cons,hf];exact QC)
   obtain ⟨sl,e⟩:=I.base.slot L o ho (I.ok.frf L hL) hL fun z=>I.ok.exfs L z hL
   exact ⟨hk,⟨L,_,hf,hn,e,hd⟩,ih (fun b hb=>hs b (by unfold dF;rw [List.filterMap_cons,hf];exact Qz _ hb)) hr⟩
 exact all X.outer (fun _ hb=>hb) I.ok.funs
theorem Inv.stack (I:Inv X pins σ H s):s.heap.FunFrames X.base X.stack:=by
 rcases I.ok.stk with e | ⟨e,hf⟩
 ·rw [e];exact I.funs
 ·rw [e]
  obtain ⟨m,hn,_⟩:=I.loc
  refine .cons (by rw [I.ok.kind];decide) hf hn ?_ I.funs
  exact Heap.get?_none_of_le (QH I.ok.bsz I.ok.above)
theorem Inv.stkSub (I:Inv X pins σ H s):∀ b∈dF X.stack,b∈X.env.locals::X.fs:=fun b hb=>by
 rcases I.ok.stk with e | ⟨e,hf⟩
 ·rw [e] at hb;exact Qz _ hb
 ·rw [e] at hb
  unfold dF at hb
  rw [List.filterMap_cons,hf] at hb
  exact hb
theorem Inv.stkFree (I:Inv X pins σ H s):∀ b∈dF X.stack,H b=none:=fun b hb=>by
 rcases Qu (I.stkSub b hb) with e | hb
 ·rw [e];exact I.free
 ·obtain ⟨_,o,ho,_⟩:=I.ok.funs.mem hb
  exact I.base.free b o ho (I.ok.frf b hb) fun z=>I.ok.exfs b z hb
theorem Inv.step {g':Array GenState} {t':Nat} {d':Drawn} {ch:List Addr} (I:Inv X pins σ H s)
  (hch:∀ b∈ch,(b∈X.ex∨X.s₀.heap.objs.size<=b)/\b≠X.env.locals/\(∀ x c,X.env.cells.lookup x=some c->c≠b)/\∀ p∈X.pn++pins,p.1≠b)
  (keep:∀ b o,b≠X.env.locals->b∉X.fs->b∉ch->s.heap.get? b=some o->H b=none->h'.get? b=some o)
  (slot:∀ b o,b≠X.env.locals->b∈X.fs->b∉ch->s.heap.get? b=some o->H b=none->∃ sl,h'.get? b=some { o with slots:=sl }) (free:∀ b o,b∉ch->s.heap.get? b=some o->H b=none->H' b=none)
  (there:∀ b o,b∉ch->s.heap.get? b=some o->∃ o',h'.get? b=some o')
  (tups:∀ b xs,H b=some (.tup xs)->H' b=some (.tup xs)) (frzs:∀ b o u,H b=some (.frz o u)->H' b=some (.frz o u)) (tbls:∀ b ps,H b=some (.tbl ps)->∃ more,H' b=some (.tbl (ps++more)))
  (ns:∀ m,s.heap.Ns X.env.locals m->h'.Ns X.env.locals m) (hok:bA X.prog X.w H' h') (hg:AllBare g') :
  Inv X pins σ H' { s with heap:=h',gens:=g',drawn:=d',toks:=t' }:=by
 have neL:∀ b o,X.s₀.heap.get? b=some o->b≠X.env.locals:=fun b o e=>Qt (Nat.lt_of_lt_of_le (Qm e) I.ok.above)
 have neC:∀ b o,X.s₀.heap.get? b=some o->b∉X.ex->b∉ch:=fun b o e hx hb=>by
  rcases (hch b hb).1 with z | z
  ·exact hx z
  ·exact absurd (Nat.lt_of_lt_of_le (Qm e) z) (Nat.lt_irrefl _)
 have cellK:∀ x c,X.env.cells.lookup x=some c->∀ v,s.heap.IsCell c v->h'.IsCell c v:=fun x c e v ⟨o,ho,hd⟩=>by
  have nch:c∉ch:=fun z=>(hch c z).2.2.1 x c e rfl
  by_cases hc:c∈X.fs
  ·obtain ⟨sl,q⟩:=slot c o (I.cne x c e) hc nch ho (I.freeC x c e)
   exact ⟨_,q,hd⟩
  ·exact ⟨o,keep c o (I.cne x c e) hc nch ho (I.freeC x c e),hd⟩
 refine ⟨I.ok,I.os,hg,⟨fun b o e n hb hx=>?_,fun b o e n hb hx=>?_,fun b o e n hx=>?_,fun b o e hx=>?_,fun b xs e=>tups b xs (I.base.tups b xs e),fun b o xs e=>frzs b o xs (I.base.frzs b o xs e),fun b ps e=>?_⟩,?_,fun x c e=>?_,?_,fun x c e=>?_,fun p hp=>?_,hok,I.len⟩
 ·exact keep b o (neL b o e) hb (neC b o e hx) (I.base.keep b o e n hb hx) (I.base.free b o e n hx)
 ·obtain ⟨sl,e1⟩:=I.base.slot b o e n hb hx
  obtain ⟨sl',e2⟩:=slot b _ (neL b o e) hb (neC b o e hx) e1 (I.base.free b o e n hx)
  exact ⟨sl',e2⟩
 ·obtain ⟨o',e1⟩:=I.base.there b o e hx
  exact free b o' (neC b o e hx) e1 (I.base.free b o e n hx)
 ·obtain ⟨o',e1⟩:=I.base.there b o e hx
  exact there b o' (neC b o e hx) e1
 ·obtain ⟨m1,e1⟩:=I.base.tbls b ps e
  obtain ⟨m2,e2⟩:=tbls b _ e1
  exact ⟨m1++m2,by rw [e2,Array.append_assoc]⟩
 ·obtain ⟨m,hn,hl⟩:=I.loc
  refine ⟨m,ns m hn,fun i x v e1 e2 e3=>?_⟩
  obtain ⟨u,r,l⟩:=hl i x v e1 e2 e3
  refine ⟨u,r,?_⟩
  rcases l with l | ⟨k,c,e,z⟩
  ·exact .inl l
  ·exact .inr ⟨k,c,e,cellK x c e _ z⟩
 ·obtain ⟨v,z⟩:=I.cell x c e
  exact ⟨v,cellK x c e v z⟩
 ·obtain ⟨m,⟨o,_,_,ho,_⟩,_⟩:=I.loc
  exact free _ o (fun z=>(hch _ z).2.1 rfl) ho I.free
 ·obtain ⟨v,o,ho,hd⟩:=I.cell x c e
  exact free c o (fun z=>(hch c z).2.2.1 x c e rfl) ho (I.freeC x c e)
 ·obtain ⟨e,n,ne,nf,d⟩:=I.pin p hp
  have nch:p.1∉ch:=fun z=>(hch p.1 z).2.2.2 p hp rfl
  exact ⟨keep p.1 p.2 ne nf nch e n,free p.1 p.2 nch e n,ne,nf,d⟩
theorem Inv.un {t':Nat} (I:Inv X pins σ H s) (u:Un X.fs [] H H' s.heap h') (hok:bA X.prog X.w H' h'):Inv X pins σ H' { s with heap:=h',toks:=t' }:=by
 obtain ⟨m,⟨o,es,ep,ho,r⟩,_⟩:=id I.loc
 obtain ⟨sl,hL⟩:=u.any ho I.free (by simp)
 exact I.step (g':=s.gens) (d':=s.drawn) (ch:=[]) (fun _ z=>nomatch z) (fun b o _ hb _ e n=>u.keep b o e n hb (by simp)) (fun b o _ hb _ e n=>u.slot b o e n hb (by simp)) (fun b o _ e n=>u.free b o e n (by simp)) (fun b o _ e=>u.there b o e (by simp)) u.tups u.frzs u.tbls (fun m' hm=>by
  obtain ⟨o',es',ep',ho',r'⟩:=hm
  rw [ho] at ho';cases ho'
  exact ⟨_,es',ep',hL,r'⟩) hok I.bare
theorem Inv.call {g':Array GenState} {t':Nat} {d':Drawn} {ch:List Addr} (I:Inv X pins σ H s) (u:Un (dF X.stack) ch H H' s.heap h') (hok:bA X.prog X.w H' h') (hg:AllBare g')
  (hch:∀ b∈ch,(b∈X.ex∨X.s₀.heap.objs.size<=b)/\b≠X.env.locals/\(∀ x c,X.env.cells.lookup x=some c->c≠b)/\∀ p∈X.pn++pins,p.1≠b) :
  Inv X pins σ H' { s with heap:=h',gens:=g',drawn:=d',toks:=t' }:=by
 obtain ⟨m,⟨o,es,ep,ho,r⟩,_⟩:=id I.loc
 obtain ⟨sl,hL⟩:=u.any ho I.free fun z=>(hch _ z).2.1 rfl
 exact I.step (ch:=ch) hch (fun b o hL hb hc e n=>u.keep b o e n (fun z=>(Qu (I.stkSub b z)).elim hL hb) hc) (fun b o _ _ hc e n=>u.any e n hc) (fun b o hc e n=>u.free b o e n hc) (fun b o hc e=>u.there b o e hc) u.tups u.frzs u.tbls (fun m' hm=>by
  obtain ⟨o',es',ep',ho',r'⟩:=hm
  rw [ho] at ho';cases ho'
  exact ⟨_,es',ep',hL,r'⟩) hok hg
theorem Inv.turned {t':Nat} {it:Addr} (I:Inv X pins σ H s) (k:∀ b o,b≠it->s.heap.get? b=some o->h'.get? b=some o) (hn:H it=none) (hL:it≠X.env.locals)
  (h1:it∈X.ex∨X.s₀.heap.objs.size<=it) (h2:∀ x c,X.env.cells.lookup x=some c->c≠it) (h3:∀ p∈X.pn++pins,p.1≠it):Inv X pins σ H { s with heap:=h',toks:=t' }:=by
 have nit:∀ b u,H b=some u->b≠it:=fun b u e z=>by rw [z,hn] at e;cases e
 refine I.step (g':=s.gens) (d':=s.drawn) (ch:=[it]) (fun b hb=>?_) (fun b o _ _ hc e _=>k b o (fun z=>hc (by simp [z])) e) (fun b o _ _ hc e _=>⟨o.slots,k b o (fun z=>hc (by simp [z])) e⟩) (fun _ _ _ _ n=>n)
  (fun b o hc e=>⟨o,k b o (fun z=>hc (by simp [z])) e⟩) (fun _ _ e=>e) (fun _ _ _ e=>e) (fun b ps e=>⟨#[],by rw [e];simp⟩) (fun m hm=>?_) (fun b u e=>?_) I.bare
 ·have e:b=it:=by simpa using hb
  subst e
  exact ⟨h1,hL,h2,h3⟩
 ·obtain ⟨o,es,ep,ho,r⟩:=hm
  exact ⟨o,es,ep,k _ o (Ne.symm hL) ho,r⟩
 ·refine (I.hok b u e).stay (fun c v hc q=>k c v ?_ q) (fun _ q=>q) fun _ _ q=>q
  rcases hc with z | z
  ·rw [z];exact nit b u e
  ·exact nit c _ z
theorem Inv.tok (I:Inv X pins σ H s) (t:Nat):Inv X pins σ H { s with toks:=t }:=I.un (h':=s.heap) (t':=t) Un.refl I.hok
theorem Inv.kept {t':Nat} (I:Inv X pins σ H s) (k:∀ b u,s.heap.get? b=some u->h'.get? b=some u):Inv X pins σ H { s with heap:=h',toks:=t' }:=I.un (Un.kept k) (I.hok.kept k)
theorem Inv.laid {a:Addr} {o:HO} {t':Nat} (I:Inv X pins σ H s) (k:∀ b u,s.heap.get? b=some u->h'.get? b=some u) (hp:s.heap.objs.size<=a) (new:bz X.prog X.w (af H a o) h' a o) :
  Inv X pins σ (af H a o) { s with heap:=h',toks:=t' }:=I.un (Un.laid k hp (I.hok.fresh hp)) (I.hok.laid k hp new)
theorem Inv.write {x e:Addr} {o:HO} {t':Nat} (I:Inv X pins σ H s) (mu:iD (H x)) (he:e=x∨H e=some (.own x)) (k:∀ b u,b≠e->s.heap.get? b=some u->h'.get? b=some u) (heo:∃ u,h'.get? e=some u)
  (new:bz X.prog X.w (af H x o) h' x o):Inv X pins σ (af H x o) { s with heap:=h',toks:=t' }:=I.un (Un.write mu he k heo) (I.hok.write mu he k heo new)
theorem Inv.pins_of {pins':List (Addr × Obj)} (I:Inv X pins σ H s) (h:∀ p∈pins',s.heap.get? p.1=some p.2/\H p.1=none/\p.1≠X.env.locals/\p.1∉X.fs/\∀ v,p.2.data≠.cell v):Inv X pins' σ H s :=
 ⟨I.ok,I.os,I.bare,I.base,I.loc,I.cell,I.free,I.freeC,fun p hp=>(Qy hp).elim (fun z=>I.pin p (List.mem_append_left _ z)) (h p),I.hok,I.len⟩
theorem oQ {N:List Str} (hN:N.Nodup) {i j:Nat} {x:Str} (a:N[i]?=some x) (b:N[j]?=some x):i=j:=by
 obtain ⟨h1,e1⟩:=Qc a
 obtain ⟨h2,e2⟩:=Qc b
 exact (List.getElem_inj hN).mp (e1.trans e2.symm)
theorem lI {M:Model} {A:Around} {E:Value->Shared->Prop} {i:Nat} {x:Str} {v:V} {u:Value} {Q:Unit->Shared->Prop} (I:Inv X pins σ H s) (hN:X.N.Nodup) (hi:X.N[i]?=some x) (hx:Loc X.env.scope x) (r:RelV v u)
  (h:∀ s',Inv X pins (σ.set i (some v)) H s'->(∃ a,Heap.SameBut a s.heap s'.heap/\(a=X.env.locals∨X.env.cells.lookup x=some a))->Q () s') (hf:X.fn x=true∨X.env.scope.names.lookup x=some .local:=by first | exact .inl rfl | exact .inr rfl | assumption):wpAny M A (storeName X.env x u) Q E s:=by
 obtain ⟨m,hn,hl⟩:=id I.loc
 have hcls:(X.env.scope.kind == .class||(X.env.scope.kind == .module&&X.env.locals != X.env.globals))=false:=by rw [I.ok.kind];rfl
 have hiσ:i<σ.length:=by rw [I.len];exact (Qc hi).1
 have cne:=I.cne
 have tracked:∀ {a:Addr} {h':Heap},(∃ o,s.heap.get? a=some o/\H a=none)->Heap.SameBut a s.heap h'->bA X.prog X.w H h':=fun {a h'} ha hs b ob e=>by
  obtain ⟨_,_,hfree⟩:=ha
  refine (I.hok b ob e).stay (fun c w' hc q=>(hs.2 c ?_).trans q) (fun _ q=>q) fun _ _ q=>q
  rintro rfl
  rcases hc with rfl | hc
  ·rw [hfree] at e;cases e
  ·rw [hfree] at hc;cases hc
 rcases hx with hk | hk
 ·refine wpAny_storeName_local hk hn (fun h' hn' hs=>?_) hcls
  obtain ⟨oL,_,_,hoL,_⟩:=id hn
  refine h _ ⟨I.ok,I.os,I.bare,⟨fun b o e n hb hx=>?_,fun b o e n hb hx=>?_,I.base.free,fun b o e hx=>?_,I.base.tups,I.base.frzs,I.base.tbls⟩,⟨_,hn',fun j y v' e1 e2 e3=>?_⟩,fun y c e=>?_,I.free,I.freeC,fun p hp=>?_,tracked ⟨oL,hoL,I.free⟩ hs,by simpa using I.len⟩ ⟨_,hs,.inl rfl⟩
  ·exact (hs.2 b (Qt (Nat.lt_of_lt_of_le (Qm e) I.ok.above))).trans (I.base.keep b o e n hb hx)
  ·obtain ⟨sl,e1⟩:=I.base.slot b o e n hb hx
   exact ⟨sl,(hs.2 b (Qt (Nat.lt_of_lt_of_le (Qm e) I.ok.above))).trans e1⟩
  ·obtain ⟨o',e1⟩:=I.base.there b o e hx
   exact ⟨o',(hs.2 b (Qt (Nat.lt_of_lt_of_le (Qm e) I.ok.above))).trans e1⟩
  ·by_cases hj:j=i
   ·subst hj
    rw [hi] at e1;cases e1
    rw [List.getElem?_set_self hiσ] at e2
    cases e2
    exact ⟨u,r,.inl ⟨hk,by simp⟩⟩
   ·rw [List.getElem?_set_ne (Ne.symm hj)] at e2
    obtain ⟨u',r',q⟩:=hl j y v' e1 e2 e3
    refine ⟨u',r',?_⟩
    rcases q with ⟨k,e⟩ | ⟨k,c,e,z⟩
    ·refine .inl ⟨k,?_⟩
     have:y≠x:=fun e=>hj (oQ hN e1 (e ▸ hi))
     simp [this,e]
    ·exact .inr ⟨k,c,e,z.sameBut hs (cne y c e)⟩
  ·obtain ⟨w',z⟩:=I.cell y c e
   exact ⟨w',z.sameBut hs (cne y c e)⟩
  ·obtain ⟨e,n,ne,nf,d⟩:=I.pin p hp
   exact ⟨(hs.2 p.1 ne).trans e,n,ne,nf,d⟩
 ·have hfn:X.fn x=true:=by
   rcases hf with z | z
   ·exact z
   ·rw [z] at hk;cases hk
  obtain ⟨c,hc⟩:=I.ok.has x (.inl hk)
  obtain ⟨w',z⟩:=I.cell x c hc
  refine wpAny_storeName_cell I.ok.kind hk hc z (fun h' hc' hs=>?_)
  obtain ⟨oc,hoc,hocd⟩:=id z
  refine h { s with heap:=h' } ⟨I.ok,I.os,I.bare,⟨fun b o e n hb hx=>?_,fun b o e n hb hx=>?_,I.base.free,fun b o e hx=>?_,I.base.tups,I.base.frzs,I.base.tbls⟩,⟨m,hn.sameBut hs (Ne.symm (cne x c hc)),fun j y v' e1 e2 e3=>?_⟩,fun y c' e=>?_,I.free,I.freeC,fun p hp=>?_,tracked ⟨oc,hoc,I.freeC x c hc⟩ hs,by simpa using I.len⟩ ⟨c,hs,.inr hc⟩
  ·exact (hs.2 b (Qt (Nat.lt_of_lt_of_le (Qm e) (I.ok.cab x c hfn hc)))).trans (I.base.keep b o e n hb hx)
  ·obtain ⟨sl,e1⟩:=I.base.slot b o e n hb hx
   exact ⟨sl,(hs.2 b (Qt (Nat.lt_of_lt_of_le (Qm e) (I.ok.cab x c hfn hc)))).trans e1⟩
  ·obtain ⟨o',e1⟩:=I.base.there b o e hx
   exact ⟨o',(hs.2 b (Qt (Nat.lt_of_lt_of_le (Qm e) (I.ok.cab x c hfn hc)))).trans e1⟩
  ·by_cases hj:j=i
   ·subst hj
    rw [hi] at e1;cases e1
    rw [List.getElem?_set_self hiσ] at e2
    cases e2
    exact ⟨u,r,.inr ⟨.inl hk,c,hc,hc'⟩⟩
   ·rw [List.getElem?_set_ne (Ne.symm hj)] at e2
    obtain ⟨u',r',q⟩:=hl j y v' e1 e2 e3
    refine ⟨u',r',?_⟩
    rcases q with q | ⟨k,c',e,z'⟩
    ·exact .inl q
    ·refine .inr ⟨k,c',e,z'.sameBut hs ?_⟩
     rintro rfl
     exact hj (oQ hN e1 (I.ok.inj _ _ _ e hc ▸ hi))
  ·by_cases hcc:c'=c
   ·subst hcc;exact ⟨_,hc'⟩
   ·obtain ⟨w2,z2⟩:=I.cell y c' e
    exact ⟨w2,z2.sameBut hs hcc⟩
  ·obtain ⟨e,n,ne,nf,d⟩:=I.pin p hp
   refine ⟨(hs.2 p.1 ?_).trans e,n,ne,nf,d⟩
   intro q
   rw [q,hoc] at e
   have q':oc=p.2:=Qo e
   exact d w' (by rw [<- q'];exact hocd)
theorem oR {M:Model} {A:Around} {E:Value->Shared->Prop} {i:Nat} {x:Str} {v:V} {u:Value} {Q:Unit->Shared->Prop} (I:Inv X pins σ H s) (hN:X.N.Nodup) (hi:X.N[i]?=some x) (hx:Loc X.env.scope x) (r:RelV v u)
  (h:∀ s',Inv X pins (σ.set i (some v)) H s'->Q () s') (hf:X.fn x=true∨X.env.scope.names.lookup x=some .local:=by first | exact .inl rfl | exact .inr rfl | assumption):wpAny M A (storeName X.env x u) Q E s :=
 lI I hN hi hx r (fun s' I' _=>h s' I') hf
theorem Inv.call' {s':Shared} {ch:List Addr} (I:Inv X pins σ H s) (ho:s'.os=s.os) (u:Un (dF X.stack) ch H H' s.heap s'.heap) (hok:bA X.prog X.w H' s'.heap) (hg:AllBare s'.gens)
  (hch:∀ b∈ch,(b∈X.ex∨X.s₀.heap.objs.size<=b)/\b≠X.env.locals/\(∀ x c,X.env.cells.lookup x=some c->c≠b)/\∀ p∈X.pn++pins,p.1≠b):Inv X pins σ H' s':=by
 obtain ⟨h',g',d',t',o'⟩:=s'
 have e:o'=s.os:=ho
 subst e
 exact I.call (g':=g') (t':=t') (d':=d') u hok hg hch
end
noncomputable abbrev XK:=Value->Option Addr->Hp->Prop
noncomputable abbrev St:=List (Option V)
noncomputable abbrev VK:=V->Hp->Prop
noncomputable abbrev TE:=St->Hp->VK->Prop
noncomputable abbrev TT:=St->Hp->(Bool->Hp->Prop)->Prop
noncomputable abbrev TA:=St->Hp->(List V->Hp->Prop)->Prop
structure dr where
 nx:St->Hp->Prop
 rt:VK
 bk:St->Hp->Prop:=fun _ _=>False
 ct:St->Hp->Prop:=fun _ _=>False
noncomputable abbrev TS:=dr->St->Hp->Prop
noncomputable def EP (X:Cx) (pins:List (Addr × Obj)) (σ:St) (Q:VK) (u:Value) (s':Shared):Prop:=∃ v H',Inv X pins σ H' s'/\RelV v u/\Q v H'
noncomputable def TP (X:Cx) (pins:List (Addr × Obj)) (σ:St) (Q:Bool->Hp->Prop) (b:Bool) (s':Shared):Prop:=∃ H',Inv X pins σ H' s'/\Q b H'
noncomputable def AP (X:Cx) (pins:List (Addr × Obj)) (σ:St) (Q:List V->Hp->Prop) (us:List Value) (s':Shared):Prop:=∃ vs H',Inv X pins σ H' s'/\aw vs us/\Q vs H'
noncomputable def SP (X:Cx) (pins:List (Addr × Obj)) (D:dr) (f:Flow) (s':Shared):Prop :=
 match f with
 | .next=>∃ σ' H',Inv X pins σ' H' s'/\D.nx σ' H'
 | .brk=>∃ σ' H',Inv X pins σ' H' s'/\D.bk σ' H'
 | .cont=>∃ σ' H',Inv X pins σ' H' s'/\D.ct σ' H'
 | .ret u=>∃ v σ' H',Inv X pins σ' H' s'/\RelV v u/\D.rt v H'
noncomputable def PE (X:Cx) (e:Expr) (t:TE):Prop :=
 ∀ (pins:List (Addr × Obj)) (s:Shared) (σ:St) (H:Hp) (Q:VK),Inv X pins σ H s->t σ H Q->wpAny (model X.prog X.w) X.A (eval e X.env) (EP X pins σ Q) X.xe s
noncomputable def PT (X:Cx) (e:Expr) (t:TT):Prop :=
 ∀ (pins:List (Addr × Obj)) (s:Shared) (σ:St) (H:Hp) (Q:Bool->Hp->Prop),Inv X pins σ H s->t σ H Q->wpAny (model X.prog X.w) X.A (isTrue e X.env (eval e X.env)) (TP X pins σ Q) X.xe s
noncomputable def PW (X:Cx) (e:Expr) (t:TT):Prop :=
 ∀ (whole:Sem Value) (pins:List (Addr × Obj)) (s:Shared) (σ:St) (H:Hp) (Q:Bool->Hp->Prop),Inv X pins σ H s->t σ H Q->wpAny (model X.prog X.w) X.A (isTrue e X.env whole) (TP X pins σ Q) X.xe s
theorem PW.pt {X:Cx} {e:Expr} {t:TT} (h:PW X e t):PT X e t:=h _
noncomputable def PA (X:Cx) (es:List Expr) (t:TA):Prop :=
 ∀ (pos:Pos) (pins:List (Addr × Obj)) (s:Shared) (σ:St) (H:Hp) (Q:List V->Hp->Prop),Inv X pins σ H s->t σ H Q->wpAny (model X.prog X.w) X.A (spliced (backTo pos (starEach es X.env))) (AP X pins σ Q) X.xe s
noncomputable def PS (X:Cx) (st:Stmt) (t:TS):Prop :=
 ∀ (pins:List (Addr × Obj)) (s:Shared) (σ:St) (H:Hp) (D:dr),Inv X pins σ H s->t D σ H->wpAny (model X.prog X.w) X.A (exec st X.env) (SP X pins D) X.xe s
noncomputable def dU (X:Cx) (st:List Stmt) (t:TS):Prop :=
 ∀ (pins:List (Addr × Obj)) (s:Shared) (σ:St) (H:Hp) (D:dr),Inv X pins σ H s->t D σ H->wpAny (model X.prog X.w) X.A (execs st X.env) (SP X pins D) X.xe s
theorem ay {α:Type} {t:Sem α} {Q Q':α->Shared->Prop} {M:Model} {A:Around} {E:Value->Shared->Prop} {s:Shared} (h:wpAny M A t Q E s) (hQ:∀ a s,Q a s->Q' a s):wpAny M A t Q' E s:=QL h hQ fun _ _ x=>x
end L2
namespace L2
open PySem PySem.Spec PyProof.Rows
section
variable {X:Cx}
noncomputable def iE (i:Nat):TE:=fun σ H Q=>∃ v,σ[i]?=some (some v)/\Q v H
noncomputable def tC (v:V):TE:=fun _ H Q=>Q v H
theorem vO {i:Nat} {x:Str} {pos:Pos} (hN:X.N[i]?=some x) (hv:lH X.env.scope x) (hd:(x == ("__debug__":Str))=false:=by decide) (hcd:(x == ("__classdict__":Str))=false:=by decide):PE X (.Name x pos) (iE i):=by
 intro pins s σ H Q I h
 obtain ⟨v,e,h⟩:=h
 obtain ⟨m,hn,hl⟩:=I.loc
 obtain ⟨u,r,l⟩:=hl i x v hN e hv
 have fin:EP X pins σ Q u s:=⟨v,H,I,r,h⟩
 rcases l with ⟨hk,hm⟩ | ⟨hk,c,hc,hcell⟩
 ·exact wpAny_Name (wpAny_loadName_local I.ok.kind hk hn hm fin) hd
 ·rcases hk with hk | hk
  ·exact wpAny_Name (wpAny_loadName_cell I.ok.kind hk hc hcell fin) hd
  ·exact wpAny_Name (wpAny_loadName_free I.ok.kind hk hc hcell fin hcd) hd
theorem ai {i j pos}:PE X (.Constant (.int i) j pos) (tC (.int i)):=fun _ _ _ H _ I h=>wpAny_Constant_int ⟨.int i,H,I.tok _,⟨_,rfl⟩,h⟩
theorem vP {b j pos}:PE X (.Constant (.bool b) j pos) (tC (.bl b)):=fun _ _ _ H _ I h=>Constant_bool ⟨.bl b,H,I,rfl,h⟩
theorem jM {j pos}:PE X (.Constant .none j pos) (tC .non):=fun _ _ _ H _ I h=>Constant_none ⟨.non,H,I,rfl,h⟩
theorem aD {x j pos}:PE X (.Constant (.str x) j pos) (tC (.str x)):=fun _ _ _ H _ I h=>Calls.Constant_str ⟨.str x,H,I.tok _,⟨_,rfl⟩,h⟩
noncomputable def Gl (X:Cx) (x:Str):Prop:=X.env.kindOf x=some .globalImplicit
theorem iF {E:Value->Shared->Prop} {pins:List (Addr × Obj)} {s:Shared} {σ:St} {H:Hp} {x:Str} {u:Value} {pos:Pos} {Q:Value->Shared->Prop} (I:Inv X pins σ H s) (hg:Gl X x) (hm:X.mg x=some u) (h:Q u s)
  (hd:(x == ("__debug__":Str))=false:=by decide):wpAny (model X.prog X.w) X.A (eval (.Name x pos) X.env) Q E s :=
 Calls.Name_function_global I.ok.kind hg (Calls.loadGlobal_global (by rw [I.ok.glob];exact I.mod.glob.keeps I.bk) hm h) hd
theorem f8 {E:Value->Shared->Prop} {pins:List (Addr × Obj)} {s:Shared} {σ:St} {H:Hp} {x:Str} {u:Value} {pos:Pos} {Q:Value->Shared->Prop} (I:Inv X pins σ H s) (hg:Gl X x) (hm:X.mg x=none) (hv:bootBuiltins x=some u) (h:Q u s)
  (hn:x≠"__name__":=by decide) (hd:(x == ("__debug__":Str))=false:=by decide):wpAny (model X.prog X.w) X.A (eval (.Name x pos) X.env) Q E s:=by
 obtain ⟨mb,h1,h2⟩:=I.mod.blt
 exact Calls.Name_function_global I.ok.kind hg (Calls.loadGlobal_builtin (by rw [I.ok.glob];exact I.mod.glob.keeps I.bk) hm (by rw [I.ok.blt];exact h1.keeps I.bk) ((h2 x hn).trans hv) h) hd
theorem vQ {x:Str} {v:V} {u:Value} {pos:Pos} (hg:Gl X x) (hm:X.mg x=some u) (r:RelV v u) (hd:(x == ("__debug__":Str))=false:=by decide):PE X (.Name x pos) (tC v) :=
 fun _ _ _ H _ I h=>iF I hg hm ⟨v,H,I,r,h⟩ hd
theorem iG {x:Str} {v:V} {u:Value} {pos:Pos} (hg:Gl X x) (hm:X.mg x=none) (hv:bootBuiltins x=some u) (r:RelV v u) (hn:x≠"__name__":=by decide) (hd:(x == ("__debug__":Str))=false:=by decide):PE X (.Name x pos) (tC v) :=
 fun _ _ _ H _ I h=>f8 I hg hm hv ⟨v,H,I,r,h⟩ hn hd
variable {a b:Expr} {ta tb:TE} {pos:Pos}
noncomputable def PC (X:Cx) (op:CmpOp) (a b:Expr) (t:TE):Prop :=
 ∀ (pins:List (Addr × Obj)) (s:Shared) (σ:St) (H:Hp) (Q:VK),Inv X pins σ H s->t σ H Q ->
  wpAny (model X.prog X.w) X.A (eval a X.env) (fun v s₁=>wpAny (model X.prog X.w) X.A (eval b X.env) (fun u s₂=>wpAny (model X.prog X.w) X.A (compareOp op v u) (EP X pins σ Q) X.xe s₂) X.xe s₁) X.xe s
theorem oS (b:Expr) {op:CmpOp} (h:op≠.In) (h2:op≠.NotIn):behindInMarks op b=false:=by
 have e1:(op == CmpOp.In)=false:=by cases op<;>first | rfl | exact absurd rfl h
 have e2:(op == CmpOp.NotIn)=false:=by cases op<;>first | rfl | exact absurd rfl h2
 cases b<;>simp [behindInMarks,e1,e2]
noncomputable def vR (ta:TE):TE:=fun σ H Q=>ta σ H fun x H1=>Q (.bl (decide (x=.non))) H1
noncomputable def vS (ta:TE):TE:=fun σ H Q=>ta σ H fun x H1=>Q (.bl (!decide (x=.non))) H1
theorem RelV.none_iff {x:V} {v:Value} (r:RelV x v):(v == Value.none)=decide (x=.non):=by
 cases x with
 | non=>cases r;rfl
 | bl _=>cases r;rfl
 | int _=>obtain ⟨t,rfl⟩:=r;rfl
 | str _=>obtain ⟨t,rfl⟩:=r;rfl
 | byt _=>obtain ⟨t,rfl⟩:=r;rfl
 | flt _=>obtain ⟨t,rfl⟩:=r;rfl
 | ref _=>cases r;rfl
 | ty _=>cases r;rfl
theorem vT {j pos'} (ha:PE X a ta):PC X .Is a (.Constant .none j pos') (vR ta):=by
 intro pins s σ H Q I h
 refine ay (ha pins s σ H _ I h) fun v s1 hsl1=>?_
 obtain ⟨x,H1,I1,r1,q1⟩:=hsl1
 exact Constant_none (is_none_gen ⟨.bl _,H1,I1,by rw [r1.none_iff];rfl,q1⟩)
theorem lJ {j pos'} (ha:PE X a ta):PC X .IsNot a (.Constant .none j pos') (vS ta):=by
 intro pins s σ H Q I h
 refine ay (ha pins s σ H _ I h) fun v s1 hsl2=>?_
 obtain ⟨x,H1,I1,r1,q1⟩:=hsl2
 exact Constant_none (isnot_none_gen ⟨.bl _,H1,I1,by rw [r1.none_iff];rfl,q1⟩)
noncomputable def tB (t:TE):TT:=fun σ H Q=>t σ H fun x H1=>∃ c,x=.bl c/\Q c H1
theorem vU {op:CmpOp} {t:TE} (h:PC X op a b t) (h1:behindInMarks op b=false:=by first | exact oS _ (by decide) (by decide) | rfl):PE X (.Compare a [op] [b] pos) t:=fun pins s σ H Q I hw=>wpAny_Compare1 (h pins s σ H Q I hw) h1
theorem gO {op:CmpOp} {t:TE} (h:PC X op a b t) (h1:behindInMarks op b=false:=by first | exact oS _ (by decide) (by decide) | rfl):PT X (.Compare a [op] [b] pos) (tB t):=by
 intro pins s σ H Q I hw
 refine wpAny_isTrue_Compare1 (ay (h pins s σ H _ I hw) fun v s1 h1=>ay h1 fun u s2 h2=>ay h2 fun c s3 hsl3=>?_) h1
 obtain ⟨x,H1,I1,r1,q1⟩:=hsl3
 obtain ⟨d,rfl,q⟩:=q1
 cases r1
 exact wpAny_truthy_bool ⟨H1,I1,q⟩
theorem gP {e:Expr} {t:TE} (h:PE X e t) (he:∀ whole,isTrue e X.env whole=(do let v <- whole;standAt e.pos;holding [v] (truthy v)):=by intro _;rfl):PT X e (tB t):=by
 intro pins s σ H Q I hw
 refine isTrue_plain (ay (h pins s σ H _ I hw) fun v s1 hsl4=>?_) (he _)
 obtain ⟨x,H1,I1,r1,q1⟩:=hsl4
 obtain ⟨d,rfl,q⟩:=q1
 cases r1
 exact wpAny_truthy_bool ⟨H1,I1,q⟩
variable {tA tB':TT} {rest:List Expr}
noncomputable def vV (t u:TT):TT:=fun σ H Q=>t σ H fun c H1=>if c=true then u σ H1 Q else Q false H1
noncomputable def vW (t u:TT):TT:=fun σ H Q=>t σ H fun c H1=>if c=true then Q true H1 else u σ H1 Q
noncomputable def vX (t:TT):TT:=fun σ H Q=>t σ H fun c H1=>Q (!c) H1
theorem jN (ha:PT X a tA):PW X (.BoolOp .And [a] pos) tA:=by
 intro wh pins s σ H Q I h
 refine isTrue_and (ay (ha pins s σ H Q I h) fun c s1 e=>?_)
 cases c with
 | true=>exact isTrue_and_nil e
 | false=>exact e
theorem lK (ha:PT X a tA):PW X (.BoolOp .Or [a] pos) tA:=by
 intro wh pins s σ H Q I h
 refine isTrue_or (ay (ha pins s σ H Q I h) fun c s1 e=>?_)
 cases c with
 | false=>exact isTrue_or_nil e
 | true=>exact e
theorem iH (ha:PT X a tA) (hb:PW X (.BoolOp .And (b::rest) pos) tB'):PW X (.BoolOp .And (a::b::rest) pos) (vV tA tB'):=by
 intro wh pins s σ H Q I h
 refine isTrue_and (ay (ha pins s σ H _ I h) fun c s1 hsl5=>?_)
 obtain ⟨H1,I1,q1⟩:=hsl5
 cases c with
 | true=>exact hb wh pins s1 σ H1 Q I1 q1
 | false=>exact ⟨H1,I1,q1⟩
theorem lL (ha:PT X a tA) (hb:PW X (.BoolOp .Or (b::rest) pos) tB'):PW X (.BoolOp .Or (a::b::rest) pos) (vW tA tB'):=by
 intro wh pins s σ H Q I h
 refine isTrue_or (ay (ha pins s σ H _ I h) fun c s1 hsl6=>?_)
 obtain ⟨H1,I1,q1⟩:=hsl6
 cases c with
 | true=>exact ⟨H1,I1,q1⟩
 | false=>exact hb wh pins s1 σ H1 Q I1 q1
theorem oT (ha:PT X a tA):PT X (.UnaryOp .Not a pos) (vX tA):=by
 intro pins s σ H Q I h
 exact isTrue_not (ha pins s σ H (fun c H1=>Q (!c) H1) I h)
noncomputable def vY (ta tb:TE):TE:=fun σ H Q=>ta σ H fun x H1=>∃ c,x=.bl c/\if c=true then tb σ H1 Q else Q (.bl false) H1
theorem oU {op} {t:TE} (h:PE X a t):PE X (.BoolOp op [a] pos) t:=fun pins s σ H Q I hw=>BoolOp_one (h pins s σ H Q I hw)
theorem oV (ha:PE X a ta) (hb:PE X (.BoolOp .And (b::rest) pos) tb):PE X (.BoolOp .And (a::b::rest) pos) (vY ta tb):=by
 intro pins s σ H Q I h
 refine BoolOp_and (ay (ha pins s σ H _ I h) fun v s1 hsl7=>?_)
 obtain ⟨x,H1,I1,r1,q1⟩:=hsl7
 obtain ⟨c,rfl,q1⟩:=q1
 cases r1
 refine wpAny_truthy_bool ?_
 cases c with
 | true=>exact hb pins s1 σ H1 Q I1 q1
 | false=>exact ⟨.bl false,H1,I1,rfl,q1⟩
noncomputable def vZ (t:TT) (ta tb:TE):TE:=fun σ H Q=>t σ H fun c H1=>if c=true then ta σ H1 Q else tb σ H1 Q
theorem jO {c:Expr} (hc:PT X c tA) (ha:PE X a ta) (hb:PE X b tb):PE X (.IfExp c a b pos) (vZ tA ta tb):=by
 intro pins s σ H Q I h
 refine wpAny_IfExp (ay (hc pins s σ H _ I h) fun d s1 hsl8=>?_)
 obtain ⟨H1,I1,q1⟩:=hsl8
 cases d with
 | true=>exact ha pins s1 σ H1 Q I1 q1
 | false=>exact hb pins s1 σ H1 Q I1 q1
end
end L2
namespace L2
open PySem PySem.Spec PyProof.Rows
noncomputable def am (K:PySem.W.Frag) (H:Hp) (a:Addr) (xs:List V):Prop :=
 Rd H a (.lst xs) ∨
  ∃ (o:Obj) (its:Array Value) (n:Nat),K.lookup a=some o/\o.cls=.type "list"/\o.dict=none/\o.data=.seq its n/\its.size<=sizeLine/\aw xs its.toList
noncomputable def ah (K:PySem.W.Frag) (H:Hp) (a:Addr) (xs:List V):Prop :=
 Rd H a (.tup xs) ∨
  ∃ (o:Obj) (its:Array Value) (n:Nat),K.lookup a=some o/\o.cls=.type "tuple"/\o.data=.seq its n/\its.size<=sizeLine/\aw xs its.toList
noncomputable def v4:Value->Option V
 | .none=>some .non
 | .bool b=>some (.bl b)
 | .int i _=>some (.int i)
 | .str x _=>some (.str x)
 | .bytes b _=>some (.byt b)
 | .float b _=>some (.flt b)
 | .ref a=>some (.ref a)
 | .type n=>some (.ty n)
 | _=>none
theorem RelV.abs {x:V} {u:Value} (r:RelV x u):v4 u=some x:=by
 cases x with
 | non=>cases r;rfl
 | bl _=>cases r;rfl
 | int _=>obtain ⟨t,rfl⟩:=r;rfl
 | str _=>obtain ⟨t,rfl⟩:=r;rfl
 | byt _=>obtain ⟨t,rfl⟩:=r;rfl
 | flt _=>obtain ⟨t,rfl⟩:=r;rfl
 | ref _=>cases r;rfl
 | ty _=>cases r;rfl
theorem RelV.inj {x y:V} {u:Value} (r:RelV x u) (q:RelV y u):x=y:=Qo (r.abs.symm.trans q.abs)
theorem aw.inj:∀ {xs ys:List V} {us:List Value},aw xs us->aw ys us->xs=ys
 | _,_,_,.nil,.nil=>rfl
 | _,_,_,.cons r t,.cons r' t'=>by rw [r.inj r',aw.inj t t']
section
variable {X:Cx} {pins:List (Addr × Obj)} {σ:St} {H:Hp} {s:Shared} {a:Addr} {xs ys:List V}
theorem am.of {K:PySem.W.Frag} (h:H a=some (.lst xs)):am K H a xs:=.inl (.inl h)
theorem ah.of {K:PySem.W.Frag} (h:H a=some (.tup xs)):ah K H a xs:=.inl (.inl h)
theorem Inv.list (I:Inv X pins σ H s) (h:am X.K H a xs):∃ its:List Value,aw xs its/\PlainL s.heap a its.toArray/\xs.length<=sizeLine:=by
 rcases h with h | ⟨o,its,n,hk,hc,hd,hs,hz,r⟩
 ·obtain ⟨z,its,n,r,e⟩:=h.ok I.hok
  exact ⟨its,r,⟨_,n,e,rfl,rfl,rfl⟩,z⟩
 ·refine ⟨its.toList,r,⟨o,n,I.kIn a o hk,hc,hd,by simpa using hs⟩,?_⟩
  have e:=r.length
  simp only [QG] at e
  omega
theorem Inv.tuple (I:Inv X pins σ H s) (h:ah X.K H a xs):∃ its:List Value,aw xs its/\IsTup s.heap a its.toArray/\xs.length<=sizeLine:=by
 rcases h with h | ⟨o,its,n,hk,hc,hs,hz,r⟩
 ·obtain ⟨z,its,r,p,_⟩:=h.ok I.hok
  exact ⟨its,r,p,z⟩
 ·refine ⟨its.toList,r,⟨o,I.kIn a o hk,hc,n,by simpa using hs⟩,?_⟩
  have e:=r.length
  simp only [QG] at e
  omega
theorem Inv.list_inj (I:Inv X pins σ H s) (h:am X.K H a xs) (h':am X.K H a ys):xs=ys:=by
 obtain ⟨its,r,⟨o,n,e,_,_,d⟩,_⟩:=I.list h
 obtain ⟨its',r',⟨o',n',e',_,_,d'⟩,_⟩:=I.list h'
 rw [e] at e';cases e'
 rw [d] at d'
 injection d' with d1 _
 have:its=its':=by simpa using congrArg Array.toList d1
 subst this
 exact r.inj r'
theorem Inv.tuple_inj (I:Inv X pins σ H s) (h:ah X.K H a xs) (h':ah X.K H a ys):xs=ys:=by
 obtain ⟨its,r,⟨o,e,_,n,d⟩,_⟩:=I.tuple h
 obtain ⟨its',r',⟨o',e',_,n',d'⟩,_⟩:=I.tuple h'
 rw [e] at e';cases e'
 rw [d] at d'
 injection d' with d1 _
 have:its=its':=by simpa using congrArg Array.toList d1
 subst this
 exact r.inj r'
end
noncomputable abbrev Cx.wish (X:Cx) (E:Value->Shared->Prop):Cx:={ X with xe:=E }
noncomputable abbrev Cx.nox (X:Cx):Cx:=X.wish fun _ _=>False
theorem Cx.Ok.wish {X:Cx} (ok:X.Ok) (E:Value->Shared->Prop):(X.wish E).Ok :=
 ⟨ok.mod,ok.kind,ok.glob,ok.blt,ok.above,ok.inj,ok.has,ok.cab,ok.hd,ok.frames,ok.stk,ok.exf,ok.bs,ok.bsz,ok.noex,ok.exfs,ok.funs,ok.frf⟩
theorem Cx.Ok.unwish {X:Cx} {E:Value->Shared->Prop} (ok:(X.wish E).Ok):X.Ok :=
 ⟨ok.mod,ok.kind,ok.glob,ok.blt,ok.above,ok.inj,ok.has,ok.cab,ok.hd,ok.frames,ok.stk,ok.exf,ok.bs,ok.bsz,ok.noex,ok.exfs,ok.funs,ok.frf⟩
section
variable {X:Cx} {pins:List (Addr × Obj)} {σ:St} {H:Hp} {s:Shared} {E:Value->Shared->Prop}
theorem Inv.wish (I:Inv X pins σ H s) (E:Value->Shared->Prop):Inv (X.wish E) pins σ H s:=⟨I.ok.wish E,I.os,I.bare,I.base,I.loc,I.cell,I.free,I.freeC,I.pin,I.hok,I.len⟩
theorem Inv.unwish (I:Inv (X.wish E) pins σ H s):Inv X pins σ H s:=⟨I.ok.unwish,I.os,I.bare,I.base,I.loc,I.cell,I.free,I.freeC,I.pin,I.hok,I.len⟩
theorem SP.unwish {D:dr} {f:Flow} {s':Shared} (h:SP (X.wish E) pins D f s'):SP X pins D f s':=by
 cases f with
 | next=>obtain ⟨σ',H',I,q⟩:=h;exact ⟨σ',H',I.unwish,q⟩
 | brk=>obtain ⟨σ',H',I,q⟩:=h;exact ⟨σ',H',I.unwish,q⟩
 | cont=>obtain ⟨σ',H',I,q⟩:=h;exact ⟨σ',H',I.unwish,q⟩
 | ret u=>obtain ⟨v,σ',H',I,r,q⟩:=h;exact ⟨v,σ',H',I.unwish,r,q⟩
theorem dU.nox {st:List Stmt} {t:TS} (h:dU X.nox st t):dU X st t:=fun pins s σ H D I hw =>
 QL (h pins s σ H D (I.wish _) hw) (fun _ _ q=>q.unwish) fun _ _ z=>False.elim z
end
section
variable {X:Cx} {st:Stmt} {rest:List Stmt} {t u:TS} {e:Expr} {te:TE} {pos:Pos}
noncomputable def iI:TS:=fun D σ H=>D.nx σ H
noncomputable def iJ (t u:TS):TS:=fun D σ H=>t { D with nx:=u D } σ H
theorem bo:dU X [] iI:=fun _ _ σ H _ I h=>wpAny_execs_nil ⟨σ,H,I,h⟩
theorem av (h1:PS X st t) (h2:dU X rest u):dU X (st::rest) (iJ t u):=by
 intro pins s σ H D I h
 refine wpAny_execs_cons (ay (h1 pins s σ H { D with nx:=u D } I h) fun f s1 q=>?_)
 cases f with
 | next =>
  obtain ⟨σ',H',I',q⟩:=q
  exact h2 pins s1 σ' H' D I' q
 | ret v=>exact q
 | brk=>exact q
 | cont=>exact q
theorem aq (h1:PS X st t):dU X [st] t:=by
 intro pins s σ H D I h
 refine wpAny_execs_cons (ay (h1 pins s σ H D I h) fun f s1 q=>?_)
 cases f with
 | next=>exact wpAny_execs_nil q
 | ret v=>exact q
 | brk=>exact q
 | cont=>exact q
theorem Inv.quiet {pins:List (Addr × Obj)} {σ:St} {H:Hp} {s:Shared} (I:Inv X pins σ H s):interactive X.env=false:=by simp [interactive,I.ok.kind]
noncomputable def v5 (te:TE):TS:=fun D σ H=>te σ H fun _ H1=>D.nx σ H1
theorem bX (he:PE X e te) (hs:swapsWith e none pos.line X.env=pure false:=by rfl):PS X (.Expr e pos) (v5 te):=by
 intro pins s σ H D I h
 exact wpAny_Expr_any (ay (he pins s σ H _ I h) fun v s1 hsl11=>by obtain ⟨x,H1,I1,r1,q1⟩:=hsl11;exact ⟨σ,H1,I1,q1⟩) I.quiet hs
noncomputable def lM (te:TE):TS:=fun D σ H=>te σ H D.rt
theorem aO (he:PE X e te):PS X (.Return (some e) pos) (lM te):=by
 intro pins s σ H D I h
 exact wpAny_Return_some (ay (he pins s σ H _ I h) fun v s1 hsl12=>by obtain ⟨x,H1,I1,r1,q1⟩:=hsl12;exact ⟨x,σ,H1,I1,r1,q1⟩)
noncomputable def lN (c:TT) (t u:TS):TS:=fun D σ H=>c σ H fun b H1=>if b=true then t D σ H1 else u D σ H1
theorem be {c:Expr} {a b:List Stmt} {tc:TT} (hc:PT X c tc) (ha:dU X a t) (hb:dU X b u):PS X (.If c a b pos) (lN tc t u):=by
 intro pins s σ H D I h
 refine wpAny_If (ay (hc pins s σ H _ I h) fun d s1 hsl13=>?_)
 obtain ⟨H1,I1,q1⟩:=hsl13
 cases d with
 | true=>exact ha pins s1 σ H1 D I1 q1
 | false=>exact hb pins s1 σ H1 D I1 q1
end
noncomputable abbrev TG:=V->St->Hp->(St->Hp->Prop)->Prop
noncomputable abbrev fB:=List V->St->Hp->(St->Hp->Prop)->Prop
noncomputable def PG (X:Cx) (target:Expr) (t:TG):Prop :=
 ∀ (pins:List (Addr × Obj)) (s:Shared) (σ:St) (H:Hp) (v:V) (u:Value) (Q:St->Hp->Prop),Inv X pins σ H s->RelV v u->t v σ H Q ->
  wpAny (model X.prog X.w) X.A (assign target X.env u) (fun _ s'=>∃ σ' H',Inv X pins σ' H' s'/\Q σ' H') X.xe s
noncomputable def iK (X:Cx) (ts:List Expr) (t:fB):Prop :=
 ∀ (pins:List (Addr × Obj)) (s:Shared) (σ:St) (H:Hp) (vs:List V) (us:List Value) (Q:St->Hp->Prop),Inv X pins σ H s->aw vs us->t vs σ H Q ->
  wpAny (model X.prog X.w) X.A (assignInOrder ((assignEach ts X.env).map (·.2)) us) (fun _ s'=>∃ σ' H',Inv X pins σ' H' s'/\Q σ' H') X.xe s
section
variable {X:Cx} {pos:Pos}
noncomputable def aX (i:Nat):TG:=fun v σ H Q=>Q (σ.set i (some v)) H
theorem aT {i:Nat} {x:Str} (hN:X.N.Nodup) (hi:X.N[i]?=some x) (hx:Loc X.env.scope x) (hf:X.fn x=true∨X.env.scope.names.lookup x=some .local:=by first | exact .inl rfl | exact .inr rfl | assumption):PG X (.Name x pos) (aX i):=by
 intro pins s σ H v u Q I r h
 exact wpAny_assign_Name (oR I hN hi hx r (fun s' I'=>⟨_,H,I',h⟩) hf)
noncomputable def lO:fB:=fun vs σ H Q=>vs=[]/\Q σ H
noncomputable def lP (t:TG) (u:fB):fB:=fun vs σ H Q=>∃ v r,vs=v::r/\t v σ H fun σ' H'=>u r σ' H' Q
theorem cg:iK X [] lO:=by
 intro pins s σ H vs us Q I r h
 obtain ⟨e,h⟩:=h
 subst e
 cases r
 exact assignInOrder_nil ⟨σ,H,I,h⟩
theorem a8 {e:Expr} {es:List Expr} {t:TG} {u:fB} (h1:PG X e t) (h2:iK X es u)
  (hs:(assignEach (e::es) X.env).map (·.2)=assign e X.env::(assignEach es X.env).map (·.2):=by rfl):iK X (e::es) (lP t u):=by
 intro pins s σ H vs us Q I r h
 obtain ⟨v,vr,e1,h⟩:=h
 subst e1
 cases r with
 | cons r rr =>
  rw [hs]
  refine assignInOrder_cons (ay (h1 pins s σ H _ _ _ I r h) fun _ s1 hsl14=>?_)
  obtain ⟨σ1,H1,I1,q1⟩:=hsl14
  exact h2 pins s1 σ1 H1 _ _ Q I1 rr q1
noncomputable def oW (K:PySem.W.Frag) (n:Nat) (t:fB):TG:=fun v σ H Q=>∃ a xs,v=.ref a/\ah K H a xs/\xs.length=n/\t xs σ H Q
theorem dt {es:List Expr} {k:Nat} {t:fB} {n:Nat} (hc:X.calm=true) (h:iK X es t)
  (hn:(assignEach es X.env).length=n:=by rfl) (hst:(assignEach es X.env).findIdx? (·.1)=none:=by rfl):PG X (.Tuple es k pos) (oW X.K n t):=by
 intro pins s σ H v u Q I r hw
 obtain ⟨a,xs,e1,hq,hl,hw⟩:=hw
 subst e1
 cases r
 obtain ⟨its,rv,ht,hz⟩:=I.tuple hq
 refine assign_Tuple_tuple (I.ok.hd hc) ht (by simp [hn,<- hl,rv.length]) hst fun h' hx=>?_
 have I1:Inv X pins σ H { s with heap:=h' }:=I.kept (t':=s.toks) fun b o e=>hx b o (Qt (Qm e)) e
 exact h pins _ σ H xs _ Q I1 (by simpa using rv) hw
noncomputable def iL (te:TE) (g:TG):TS:=fun D σ H=>te σ H fun x H1=>g x σ H1 D.nx
theorem oX {tg e:Expr} {te:TE} {g:TG} (he:PE X e te) (hg:PG X tg g) (hs:swapsWithSole [tg] e pos.line X.env=pure false:=by rfl) (hw:swappedStores [tg] e X.env=pure none:=by rfl)
  (h1:(assignEach [tg] X.env).map (·.2)=[assign tg X.env]:=by rfl):PS X (.Assign [tg] e pos) (iL te g):=by
 intro pins s σ H D I h
 refine wpAny_Assign_stores (ay (he pins s σ H _ I h) fun v s1 hsl15=>?_) hs hw
 obtain ⟨x,H1,I1,r1,q1⟩:=hsl15
 rw [h1]
 exact ay (hg pins s1 σ H1 x v _ I1 r1 q1) fun _ s2 q=>q
theorem bf {i:Nat} {x:Str} {e:Expr} {te:TE} {pos':Pos} (hN:X.N.Nodup) (hi:X.N[i]?=some x) (hx:Loc X.env.scope x) (he:PE X e te) (hs:swapsWith e (some (.Name x pos')) pos.line X.env=pure false:=by rfl) (hf:X.fn x=true∨X.env.scope.names.lookup x=some .local:=by first | exact .inl rfl | exact .inr rfl | assumption) :
  PS X (.Assign [.Name x pos'] e pos) (iL te (aX i)):=by
 intro pins s σ H D I h
 refine wpAny_Assign_Name (ay (he pins s σ H _ I h) fun v s1 hsl16=>?_) hs
 obtain ⟨y,H1,I1,r1,q1⟩:=hsl16
 exact oR I1 hN hi hx r1 (fun s2 I2=>⟨_,H1,I2,q1⟩) hf
end
section
variable {X:Cx} {pos:Pos}
end
structure It where
 go:Nat->Hp->Prop
 yld:Nat->Hp->V->Hp->Prop
 stop:Nat->Hp->Prop
noncomputable def ck (X:Cx) (pins:List (Addr × Obj)) (H:Hp) (b:Addr):Prop :=
 H b=none/\b≠X.env.locals/\b∉X.fs/\(b∈X.ex∨X.s₀.heap.objs.size<=b)/\(∀ x c,X.env.cells.lookup x=some c->c≠b)/\∀ p∈X.pn++pins,p.1≠b
theorem Inv.fpOk {X:Cx} {pins:List (Addr × Obj)} {σ:St} {H H':Hp} {s:Shared} {b:Addr} (I:Inv X pins σ H s) (hb:s.heap.objs.size<=b) (hn:H' b=none):ck X pins H' b:=by
 refine ⟨hn,Nat.ne_of_gt (Nat.lt_of_lt_of_le I.lt hb),I.nofs hb,.inr (QH I.sz hb),fun x c e z=>?_,fun p hp z=>?_⟩
 ·obtain ⟨v,q⟩:=I.cell x c e
  exact absurd (Nat.lt_of_lt_of_le q.lt (by rw [z];exact hb)) (Nat.lt_irrefl _)
 ·exact absurd (Nat.lt_of_lt_of_le (Qm (I.pin p hp).1) (by rw [z];exact hb)) (Nat.lt_irrefl _)
structure eW (P:Program) (w:World) (K:PySem.W.Frag) (tg:Expr) (J:It) (fp:List Addr) (it:Addr) (tn:Nat->Heap->Prop):Prop where
 mem:it∈fp
 obj:∀ i h,tn i h->∀ b∈fp,∃ o,h.get? b=some o/\∀ v,o.data≠.cell v
 keep:∀ i h h',tn i h->(∀ b∈fp,∀ o,h.get? b=some o->h'.get? b=some o)->tn i h'
 item:∀ (X:Cx),X.prog=P->X.w=w->X.K=K->X.calm=true->∀ (i:Nat) (pins:List (Addr × Obj)) (s:Shared) (σ:St) (H:Hp) (E:Value->Shared->Prop),Inv X pins σ H s->(∀ b∈fp,ck X pins H b)->tn i s.heap->J.go i H ->
  wpAny (model P w) X.A (pyNext (.ref it)) (fun r s1=>∃ u,r=some u /\
   wpAny (model P w) X.A (letOwnedTupleGo tg (.ref it) u) (fun _ s2=>∃ x H',Inv X pins σ H' s2/\RelV x u/\J.yld i H x H'/\tn (i+1) s2.heap/\∀ b∈fp,H' b=none) E s1) E s
 done:∀ (X:Cx),X.prog=P->X.w=w->X.K=K->X.calm=true->∀ (i:Nat) (pins:List (Addr × Obj)) (s:Shared) (σ:St) (H:Hp) (E:Value->Shared->Prop),Inv X pins σ H s->(∀ b∈fp,ck X pins H b)->tn i s.heap->J.stop i H ->
  wpAny (model P w) X.A (pyNext (.ref it)) (fun r s1=>r=none/\Inv X pins σ H s1) E s
 self:∀ (A:Around) (i:Nat) (s:Shared) (Q:Value->Shared->Prop) (E:Value->Shared->Prop),tn i s.heap->Q (.ref it) s->wpAny (model P w) A (pyIter (.ref it)) Q E s
noncomputable abbrev TI:=St->Hp->(It->Hp->Prop)->Prop
noncomputable def oY (X:Cx) (pins:List (Addr × Obj)) (σ:St) (tg:Expr) (R:It->Hp->Prop) (itv:Value) (s2:Shared):Prop :=
 ∃ (it:Addr) (fp:List Addr) (tn:Nat->Heap->Prop) (J:It) (H':Hp),itv=.ref it/\Inv X pins σ H' s2/\eW X.prog X.w X.K tg J fp it tn/\tn 0 s2.heap/\(∀ b∈fp,ck X pins H' b)/\R J H'
noncomputable def PI (X:Cx) (tg iter:Expr) (wi:TI):Prop :=
 ∀ (pins:List (Addr × Obj)) (s:Shared) (σ:St) (H:Hp) (R:It->Hp->Prop),Inv X pins σ H s->wi σ H R ->
  wpAny (model X.prog X.w) X.A (eval iter X.env) (fun v s1=>wpAny (model X.prog X.w) X.A (pyIter v) (oY X pins σ tg R) X.xe s1) X.xe s
theorem jP {M:Model} {A:Around} {E:Value->Shared->Prop} {s:Shared} {tg:Expr} {it:Addr} {u:Value} {o:Obj} {n:String} {vs:Array Value} {Q:Unit->Shared->Prop} (ho:s.heap.get? it=some o) (hc:o.cls=.type n) (hd:o.data=.fields vs)
  (hn:["enumerate","zip","dict_itemiterator","dict_reverseitemiterator","odict_iterator","itertools.zip_longest","itertools.pairwise"].contains n=false) (hQ:Q () s):wpAny M A (letOwnedTupleGo tg (.ref it) u) Q E s:=by
 unfold letOwnedTupleGo
 cases tg<;>first
  | exact Qd hQ
  | (cases u<;>first
    | exact Qd hQ
    | (refine Qa (wpAny_load ho ?_)
       rw [hc,hd]
       show wpAny M A (if (["enumerate","zip","dict_itemiterator","dict_reverseitemiterator","odict_iterator","itertools.zip_longest","itertools.pairwise"].contains n&&vs[0]? == some (rawInt _))=true then _ else _) Q E s
       rw [if_neg (by intro h;rw [hn,Bool.false_and] at h;cases h)]
       exact Qd hQ))
noncomputable def f9 (K:PySem.W.Frag) (a:Addr):It :=
 ⟨fun i H=>∃ xs x,am K H a xs/\xs[i]?=some x,fun i H x H'=>H'=H/\∀ xs,am K H a xs->xs[i]?=some x,fun i H=>∃ xs,am K H a xs/\xs.length<=i⟩
noncomputable def gc (K:PySem.W.Frag) (a:Addr):It :=
 ⟨fun i H=>∃ xs x,ah K H a xs/\xs[i]?=some x,fun i H x H'=>H'=H/\∀ xs,ah K H a xs->xs[i]?=some x,fun i H=>∃ xs,ah K H a xs/\xs.length<=i⟩
noncomputable def eX (lo:Int) (n:Nat):It:=⟨fun i _=>i<n,fun i H x H'=>H'=H/\x=.int (lo+i),fun i _=>n<=i⟩
theorem v6 {P:Program} {w:World} {K:PySem.W.Frag} {tg:Expr} (a it:Addr):eW P w K tg (f9 K a) [it] it (fun i h=>h.IsListIter it a i) where
 mem:=by simp
 obj:=fun i h st b hb=>by
  have e:b=it:=by simpa using hb
  subst e
  obtain ⟨o,e,c,d⟩:=st
  exact ⟨o,e,fun v z=>by rw [d] at z;cases z⟩
 keep:=fun i h h' st k=>st.at fun o e=>k it (by simp) o e
 item:=by
  intro X hP hw hK hc i pins s σ H E I hf st hg
  subst hP hw hK
  obtain ⟨xs,x,hq,hx⟩:=hg
  obtain ⟨its,rv,p,hz⟩:=I.list hq
  obtain ⟨u,hu,ru⟩:=rv.get hx
  obtain ⟨f0,f1,f2,f3,f4,f5⟩:=hf it (by simp)
  refine wpAny_pyNext_list_item st p.isList (x:=u) (by simpa using hu) fun h' st' sb=>?_
  have I1:Inv X pins σ H { s with heap:=h' }:=I.turned (t':=s.toks) (fun b o hb e=>(sb.2 b hb).trans e) f0 f1 f3 f4 f5
  obtain ⟨o,e,c,d⟩:=id st'
  exact ⟨u,rfl,jP (s:={ s with heap:=h' }) e c d (by decide) ⟨x,H,I1,ru,⟨rfl,fun ys hy=>by rw [I.list_inj hy hq];exact hx⟩,st',fun b hb=>(hf b hb).1⟩⟩
 done:=by
  intro X hP hw hK hc i pins s σ H E I hf st hg
  subst hP hw hK
  obtain ⟨xs,hq,hx⟩:=hg
  obtain ⟨its,rv,p,hz⟩:=I.list hq
  obtain ⟨f0,f1,f2,f3,f4,f5⟩:=hf it (by simp)
  have hl:=rv.length
  exact wpAny_pyNext_list_end (I.ok.hd hc) st p.isList (by simp;omega) fun h' eb=>⟨rfl,I.turned (t':=s.toks) (fun b o hb e=>eb b o hb e) f0 f1 f3 f4 f5⟩
 self:=fun _ _ _ _ _ st h=>wpAny_pyIter_listiter st h
theorem v7 {P:Program} {w:World} {K:PySem.W.Frag} {tg:Expr} (a it:Addr):eW P w K tg (gc K a) [it] it (fun i h=>h.IsTupleIter it a i) where
 mem:=by simp
 obj:=fun i h st b hb=>by
  have e:b=it:=by simpa using hb
  subst e
  obtain ⟨o,e,c,d⟩:=st
  exact ⟨o,e,fun v z=>by rw [d] at z;cases z⟩
 keep:=fun i h h' st k=>st.at fun o e=>k it (by simp) o e
 item:=by
  intro X hP hw hK hc i pins s σ H E I hf st hg
  subst hP hw hK
  obtain ⟨xs,x,hq,hx⟩:=hg
  obtain ⟨its,rv,p,hz⟩:=I.tuple hq
  obtain ⟨u,hu,ru⟩:=rv.get hx
  obtain ⟨f0,f1,f2,f3,f4,f5⟩:=hf it (by simp)
  refine wpAny_pyNext_tuple_item st (show s.heap.IsTuple a its.toArray from p) (x:=u) (by simpa using hu) fun h' st' sb=>?_
  have I1:Inv X pins σ H { s with heap:=h' }:=I.turned (t':=s.toks) (fun b o hb e=>(sb.2 b hb).trans e) f0 f1 f3 f4 f5
  obtain ⟨o,e,c,d⟩:=id st'
  exact ⟨u,rfl,jP (s:={ s with heap:=h' }) e c d (by decide) ⟨x,H,I1,ru,⟨rfl,fun ys hy=>by rw [I.tuple_inj hy hq];exact hx⟩,st',fun b hb=>(hf b hb).1⟩⟩
 done:=by
  intro X hP hw hK hc i pins s σ H E I hf st hg
  subst hP hw hK
  obtain ⟨xs,hq,hx⟩:=hg
  obtain ⟨its,rv,p,hz⟩:=I.tuple hq
  obtain ⟨f0,f1,f2,f3,f4,f5⟩:=hf it (by simp)
  have hl:=rv.length
  exact wpAny_pyNext_tuple_end (I.ok.hd hc) st (show s.heap.IsTuple a its.toArray from p) (by simp;omega) fun h' eb=>⟨rfl,I.turned (t':=s.toks) (fun b o hb e=>eb b o hb e) f0 f1 f3 f4 f5⟩
 self:=fun _ _ _ _ _ st h=>wpAny_pyIter_tupleiter st h
theorem v8 {P:Program} {w:World} {K:PySem.W.Frag} {tg:Expr} (it:Addr) (lo:Int) (n:Nat):eW P w K tg (eX lo n) [it] it (fun i h=>IsRangeIter h it (lo+(i:Nat)*1) ((n:Int)-(i:Nat)) 1) where
 mem:=by simp
 obj:=fun i h st b hb=>by
  have e:b=it:=by simpa using hb
  subst e
  exact ⟨_,st,fun v z=>by
   have z':Data.fields _=Data.cell v:=z
   cases z'⟩
 keep:=fun i h h' st k=>k it (by simp) _ st
 item:=by
  intro X hP hw hK hc i pins s σ H E I hf st hg
  subst hP hw hK
  obtain ⟨f0,f1,f2,f3,f4,f5⟩:=hf it (by simp)
  have W:=Walks.range (prog:=X.prog) (w:=X.w) (I.ok.hd hc) it lo 1 n
  refine W.item i s _ _ hg st fun v h' tk hv st' kk=>?_
  obtain ⟨t,rfl⟩:=hv
  have I1:Inv X pins σ H { s with heap:=h',toks:=tk }:=I.turned (fun b o hb e=>kk b o (by simpa using hb) e) f0 f1 f3 f4 f5
  refine ⟨_,rfl,jP (s:={ s with heap:=h',toks:=tk }) (n:="range_iterator") st' rfl rfl (by decide) ⟨.int (lo+i),H,I1,⟨t,?_⟩,⟨rfl,rfl⟩,st',fun b hb=>(hf b hb).1⟩⟩
  rw [Int.mul_one]
 done:=by
  intro X hP hw hK hc i pins s σ H E I hf st hg
  subst hP hw hK
  obtain ⟨f0,f1,f2,f3,f4,f5⟩:=hf it (by simp)
  exact wpAny_pyNext_range_end (I.ok.hd hc) st (by have:n<=i:=hg;omega) fun h' eb=>⟨rfl,I.turned (t':=s.toks) (fun b o hb e=>eb b o hb e) f0 f1 f3 f4 f5⟩
 self:=fun _ _ _ _ _ st h=>wpAny_pyIter_rangeiter st h
end L2
namespace L2
open PySem PySem.Spec PyProof.Rows
section
variable {X:Cx} {tg:Expr}
noncomputable def v9 (K:PySem.W.Frag) (tl:TE):TI:=fun σ H R=>tl σ H fun x H1=>∃ a,x=.ref a/\(∃ xs,am K H1 a xs)/\R (f9 K a) H1
noncomputable def wa (K:PySem.W.Frag) (tl:TE):TI:=fun σ H R=>tl σ H fun x H1=>∃ a,x=.ref a/\(∃ xs,ah K H1 a xs)/\R (gc K a) H1
theorem ci {l:Expr} {tl:TE} (hl:PE X l tl):PI X tg l (v9 X.K tl):=by
 intro pins s σ H R I h
 refine ay (hl pins s σ H _ I h) fun v s1 hsl17=>?_
 obtain ⟨x,H1,I1,r1,q1⟩:=hsl17
 obtain ⟨a,e,⟨xs,hq⟩,q⟩:=q1
 subst e
 cases r1
 obtain ⟨its,rv,p,hz⟩:=I1.list hq
 refine wpAny_pyIter_list p.isList ?_
 refine ⟨s1.heap.objs.size,[s1.heap.objs.size],_,_,H1,rfl,I1.kept (t':=s1.toks) fun b o e=>Qe _ e,v6 a _,⟨_,Qj _ rfl,rfl,rfl⟩,fun b hb=>?_,q⟩
 have e:b=s1.heap.objs.size:=by simpa using hb
 subst e
 exact I1.fpOk (Qh _) (I1.hok.fresh (Qh _))
theorem iM {l:Expr} {tl:TE} (hl:PE X l tl):PI X tg l (wa X.K tl):=by
 intro pins s σ H R I h
 refine ay (hl pins s σ H _ I h) fun v s1 hsl18=>?_
 obtain ⟨x,H1,I1,r1,q1⟩:=hsl18
 obtain ⟨a,e,⟨xs,hq⟩,q⟩:=q1
 subst e
 cases r1
 obtain ⟨its,rv,p,hz⟩:=I1.tuple hq
 refine wpAny_pyIter_tuple (show s1.heap.IsTuple a its.toArray from p) ?_
 refine ⟨s1.heap.objs.size,[s1.heap.objs.size],_,_,H1,rfl,I1.kept (t':=s1.toks) fun b o e=>Qe _ e,v7 a _,⟨_,Qj _ rfl,rfl,rfl⟩,fun b hb=>?_,q⟩
 have e:b=s1.heap.objs.size:=by simpa using hb
 subst e
 exact I1.fpOk (Qh _) (I1.hok.fresh (Qh _))
theorem wb {pins:List (Addr × Obj)} {σ:St} {H:Hp} {s:Shared} {R:It->Hp->Prop} {E:Value->Shared->Prop} {lo hi:Int} {t u v:Tok} {tk:Nat} (I:Inv X pins σ H s) (h1:-(2 ^ 62)<=lo) (h2:lo<2 ^ 62) (h3:-(2 ^ 62)<=hi) (h4:hi<2 ^ 62)
  (q:R (eX lo (hi-lo).toNat) H):wpAny (model X.prog X.w) X.A (pyIter (.ref s.heap.objs.size)) (oY X pins σ tg R) E { s with heap:=s.heap.push { cls:=.type "range",data:=.fields #[.int lo t,.int hi u,.int 1 v] },toks:=tk }:=by
 refine wpAny_pyIter_range (IsRange.new ..) (small_one h1 h2 h3 h4) ?_
 have I1:Inv X pins σ H { s with heap:=s.heap.push { cls:=.type "range",data:=.fields #[.int lo t,.int hi u,.int 1 v] },toks:=tk }:=I.kept fun b o e=>Qe _ e
 refine ⟨(s.heap.push { cls:=.type "range",data:=.fields #[.int lo t,.int hi u,.int 1 v] }).objs.size,[(s.heap.push { cls:=.type "range",data:=.fields #[.int lo t,.int hi u,.int 1 v] }).objs.size],_,_,H,rfl,
  I1.kept (t':=tk) fun b o e=>Qe _ e,v8 _ lo (hi-lo).toNat,?_,fun b hb=>?_,q⟩
 ·have e1:lo+((0:Nat):Int)*1=lo:=by simp
  have e2:(((hi-lo).toNat:Nat):Int)-((0:Nat):Int)=Builtin.Range.rangeSize lo hi 1:=by rw [rangeSize_one];split<;>omega
  show IsRangeIter _ _ (lo+((0:Nat):Int)*1) ((((hi-lo).toNat:Nat):Int)-((0:Nat):Int)) 1
  rw [e1,e2]
  exact Qj _ rfl
 ·have e:b=(s.heap.push { cls:=.type "range",data:=.fields #[.int lo t,.int hi u,.int 1 v] }).objs.size:=by simpa using hb
  subst e
  exact I1.fpOk (Qh _) (I1.hok.fresh (Qh _))
noncomputable def wc (ta:TA):TI:=fun σ H R=>ta σ H fun vs H1=>∃ j:Int,vs=[.int j]/\-(2 ^ 62)<=j/\j<2 ^ 62/\R (eX 0 j.toNat) H1
theorem iN {a:Expr} {ta:TA} {p pos:Pos} (hg:Gl X "range") (hm:X.mg "range"=none) (ha:PA X [a] ta) (hs:starEach [a] X.env=[(false,eval a X.env)]:=by rfl):PI X tg (.Call (.Name "range" p) [a] [] pos) (wc ta):=by
 intro pins s σ H R I h
 refine Call_ (f8 I hg hm boot_range (PyProof.Rows.callWith_type1 (ay (ha pos pins s σ H _ I h) fun us s1 hsl19=>?_) hs rfl))
 obtain ⟨vs,H1,I1,r1,q1⟩:=hsl19
 obtain ⟨j,e,q1,q2,q⟩:=q1
 subst e
 cases r1 with
 | cons r rr =>
  cases rr
  obtain ⟨t,rfl⟩:=r
  exact call_range_1 (wb I1 (by omega) (by omega) q1 q2 (by simpa using q))
noncomputable def lQ (wi:TI) (g:TG) (tb:TS):TS:=fun D σ H=>wi σ H fun J H1=>∃ W:Nat->Nat->St->Hp->Prop,(∃ m,W 0 m σ H1)/\∀ i m σ H,W i m σ H ->
 (J.stop i H/\D.nx σ H)∨(J.go i H/\∃ N:St->Hp->Prop,(∀ σ' H',N σ' H'->∃ m',m'<m/\W (i+1) m' σ' H')/\∀ x H',J.yld i H x H'->g x σ H' fun σ2 H2=>tb { D with nx:=N,ct:=N,bk:=D.nx } σ2 H2)
noncomputable def gf (fp:List Addr) (h:Heap):List (Addr × Obj):=fp.filterMap fun b=>(h.get? b).map fun o=>(b,o)
theorem fC {fp:List Addr} {h:Heap} {b:Addr} {o:Obj} (hb:b∈fp) (e:h.get? b=some o):(b,o)∈gf fp h:=List.mem_filterMap.mpr ⟨b,hb,by rw [e];rfl⟩
theorem oZ {fp:List Addr} {h:Heap} {p:Addr × Obj} (hp:p∈gf fp h):p.1∈fp/\h.get? p.1=some p.2:=by
 obtain ⟨b,hb,e⟩:=List.mem_filterMap.mp hp
 cases q:h.get? b with
 | none=>rw [q] at e;cases e
 | some o =>
  rw [q] at e
  have e':(b,o)=p:=Qo e
  subst e'
  exact ⟨hb,q⟩
theorem Inv.pinned {pins:List (Addr × Obj)} {σ:St} {H:Hp} {s:Shared} {fp:List Addr} (I:Inv X pins σ H s) (hf:∀ b∈fp,ck X pins H b) (ho:∀ b∈fp,∃ o,s.heap.get? b=some o/\∀ v,o.data≠.cell v):Inv X (pins++gf fp s.heap) σ H s :=
 I.pins_of fun p hp=>(Qy hp).elim (fun z=>I.pin p (List.mem_append_right _ z)) fun z=>by
  obtain ⟨hb,e⟩:=oZ z
  obtain ⟨f0,f1,f2,_⟩:=hf p.1 hb
  obtain ⟨o,e',d⟩:=ho p.1 hb
  rw [e] at e';cases e'
  exact ⟨e,f0,f1,f2,d⟩
theorem Inv.unpinned {pins pl:List (Addr × Obj)} {σ:St} {H:Hp} {s:Shared} (I:Inv X (pins++pl) σ H s):Inv X pins σ H s:=I.pins_of fun p hp=>I.pin p (List.mem_append_right _ (List.mem_append_left _ hp))
theorem cO {iter:Expr} {body:List Stmt} {wi:TI} {g:TG} {tb:TS} {pos:Pos} (hp:PassesOwn (model X.prog X.w) X.A X.env X.xe) (hc:X.calm=true) (hi:PI X tg iter wi) (hg:PG X tg g) (hb:dU X body tb)
  (hs:∀ x,foldedSetIterable iter X.env x=pure x:=by intro _;rfl):PS X (.For tg iter body [] pos) (lQ wi g tb):=by
 intro pins s σ H D I h
 refine wpAny_For (ay (hi pins s σ H _ I h) fun v s1 h1=>ay h1 fun itv s2 h2=>?_) hs
 obtain ⟨it,fp,tn,J,H2,e,I2,T,st2,f2,W,⟨m0,w0⟩,turn⟩:=h2
 subst e
 have stat:∀ {H':Hp},(∀ b∈fp,H' b=none)->∀ b∈fp,ck X pins H' b:=fun hn b hb=>⟨hn b hb,(f2 b hb).2⟩
 refine codeAny_forLoop_any (fun n s'=>∃ i σ' H',Inv X pins σ' H' s'/\tn i s'.heap/\(∀ b∈fp,H' b=none)/\W i n σ' H') ?_ m0 ⟨0,σ,H2,I2,st2,fun b hb=>(f2 b hb).1,w0⟩
 rintro n s3 ⟨i,σ3,H3,I3,st3,fr3,w3⟩
 rcases turn i n σ3 H3 w3 with ⟨stop,qn⟩ | ⟨go,N,hN,step⟩
 ·refine wpAny_passesOwn hp (ay (T.done X rfl rfl rfl hc i pins s3 σ3 H3 X.xe I3 (stat fr3) st3 stop) fun r s4 hsl20=>?_)
  obtain ⟨hr,I4⟩:=hsl20
  subst hr
  exact wpAny_execs_nil ⟨σ3,H3,I4,qn⟩
 ·refine wpAny_passesOwn hp (ay (T.item X rfl rfl rfl hc i pins s3 σ3 H3 X.xe I3 (stat fr3) st3 go) fun r s4 hsl21=>?_)
  obtain ⟨u,hr,h4⟩:=hsl21
  subst hr
  refine wpAny_passesOwn hp (ay h4 fun _ s5 hsl22=>?_)
  obtain ⟨x,H5,I5,r5,y5,st5,fr5⟩:=hsl22
  have I5':=I5.pinned (stat fr5) (T.obj _ _ st5)
  refine wpAny_passesOwn hp (ay (hg _ s5 σ3 H5 x u _ I5' r5 (step x H5 y5)) fun _ s6 hsl23=>?_)
  obtain ⟨σ6,H6,I6,q6⟩:=hsl23
  refine wpAny_passesOwn hp (ay (hb _ s6 σ6 H6 _ I6 q6) fun f s7 q7=>?_)
  have again:∀ {σ7:St} {H7:Hp},Inv X (pins++gf fp s5.heap) σ7 H7 s7->N σ7 H7->∃ m,m<n/\∃ i σ' H',Inv X pins σ' H' s7/\tn i s7.heap/\(∀ b∈fp,H' b=none)/\W i m σ' H':=fun {σ7 H7} I7 n7=>by
   obtain ⟨m',hm,w7⟩:=hN σ7 H7 n7
   refine ⟨m',hm,i+1,σ7,H7,I7.unpinned,T.keep _ _ _ st5 fun b hb o e=>(I7.pin (b,o) (List.mem_append_right _ (List.mem_append_right _ (fC hb e)))).1,fun b hb=>?_,w7⟩
   obtain ⟨o,e,d⟩:=T.obj _ _ st5 b hb
   exact (I7.pin (b,o) (List.mem_append_right _ (List.mem_append_right _ (fC hb e)))).2.1
  cases f with
  | next=>obtain ⟨σ7,H7,I7,n7⟩:=q7;exact again I7 n7
  | cont=>obtain ⟨σ7,H7,I7,n7⟩:=q7;exact again I7 n7
  | brk=>obtain ⟨σ7,H7,I7,q7⟩:=q7;exact ⟨σ7,H7,I7.unpinned,q7⟩
  | ret v=>obtain ⟨x7,σ7,H7,I7,r7,q7⟩:=q7;exact ⟨x7,σ7,H7,I7.unpinned,r7,q7⟩
end
theorem dW {K:PySem.W.Frag} {a:Addr} {xs:List V} {g:TG} {tb:TS} {D:dr} {σ:St} {H:Hp} (Pv:Nat->St->Hp->Prop) (h0:Pv 0 σ H) (hl:∀ i σ H,i<=xs.length->Pv i σ H->am K H a xs)
  (hs:∀ i x σ H,xs[i]?=some x->Pv i σ H->g x σ H fun σ2 H2=>tb { D with nx:=Pv (i+1),ct:=Pv (i+1),bk:=D.nx } σ2 H2) (hd:∀ σ H,Pv xs.length σ H->D.nx σ H) :
  ∃ W:Nat->Nat->St->Hp->Prop,(∃ m,W 0 m σ H)/\∀ i m σ H,W i m σ H ->
   ((f9 K a).stop i H/\D.nx σ H)∨((f9 K a).go i H/\∃ N:St->Hp->Prop,(∀ σ' H',N σ' H'->∃ m',m'<m/\W (i+1) m' σ' H')/\∀ x H',(f9 K a).yld i H x H'->g x σ H' fun σ2 H2=>tb { D with nx:=N,ct:=N,bk:=D.nx } σ2 H2):=by
 refine ⟨fun i m σ H=>m=xs.length-i/\i<=xs.length/\Pv i σ H,⟨xs.length,by simp,Qr _,h0⟩,?_⟩
 rintro i m σ H ⟨rfl,hi,p⟩
 have q:=hl i σ H hi p
 by_cases hlt:i<xs.length
 ·refine .inr ⟨⟨xs,xs[i],q,by simp [hlt]⟩,Pv (i+1),fun σ' H' p'=>⟨xs.length-(i+1),by omega,rfl,hlt,p'⟩,fun x H' y=>?_⟩
  obtain ⟨e,y⟩:=y
  subst e
  exact hs i x σ _ (y xs q) p
 ·have e:i=xs.length:=by omega
  subst e
  exact .inl ⟨⟨xs,q,Qh _⟩,hd σ H p⟩
theorem wd {K:PySem.W.Frag} {a:Addr} {xs:List V} {g:TG} {tb:TS} {D:dr} {σ:St} {H:Hp} (Pv:Nat->St->Hp->Prop) (h0:Pv 0 σ H) (hl:∀ i σ H,i<=xs.length->Pv i σ H->ah K H a xs)
  (hs:∀ i x σ H,xs[i]?=some x->Pv i σ H->g x σ H fun σ2 H2=>tb { D with nx:=Pv (i+1),ct:=Pv (i+1),bk:=D.nx } σ2 H2) (hd:∀ σ H,Pv xs.length σ H->D.nx σ H) :
  ∃ W:Nat->Nat->St->Hp->Prop,(∃ m,W 0 m σ H)/\∀ i m σ H,W i m σ H ->
   ((gc K a).stop i H/\D.nx σ H)∨((gc K a).go i H/\∃ N:St->Hp->Prop,(∀ σ' H',N σ' H'->∃ m',m'<m/\W (i+1) m' σ' H')/\∀ x H',(gc K a).yld i H x H'->g x σ H' fun σ2 H2=>tb { D with nx:=N,ct:=N,bk:=D.nx } σ2 H2):=by
 refine ⟨fun i m σ H=>m=xs.length-i/\i<=xs.length/\Pv i σ H,⟨xs.length,by simp,Qr _,h0⟩,?_⟩
 rintro i m σ H ⟨rfl,hi,p⟩
 have q:=hl i σ H hi p
 by_cases hlt:i<xs.length
 ·refine .inr ⟨⟨xs,xs[i],q,by simp [hlt]⟩,Pv (i+1),fun σ' H' p'=>⟨xs.length-(i+1),by omega,rfl,hlt,p'⟩,fun x H' y=>?_⟩
  obtain ⟨e,y⟩:=y
  subst e
  exact hs i x σ _ (y xs q) p
 ·have e:i=xs.length:=by omega
  subst e
  exact .inl ⟨⟨xs,q,Qh _⟩,hd σ H p⟩
theorem lR {lo:Int} {n:Nat} {g:TG} {tb:TS} {D:dr} {σ:St} {H:Hp} (Pv:Nat->St->Hp->Prop) (h0:Pv 0 σ H)
  (hs:∀ i σ H,i<n->Pv i σ H->g (.int (lo+i)) σ H fun σ2 H2=>tb { D with nx:=Pv (i+1),ct:=Pv (i+1),bk:=D.nx } σ2 H2) (hd:∀ σ H,Pv n σ H->D.nx σ H) :
  ∃ W:Nat->Nat->St->Hp->Prop,(∃ m,W 0 m σ H)/\∀ i m σ H,W i m σ H ->
   ((eX lo n).stop i H/\D.nx σ H)∨((eX lo n).go i H/\∃ N:St->Hp->Prop,(∀ σ' H',N σ' H'->∃ m',m'<m/\W (i+1) m' σ' H')/\∀ x H',(eX lo n).yld i H x H'->g x σ H' fun σ2 H2=>tb { D with nx:=N,ct:=N,bk:=D.nx } σ2 H2):=by
 refine ⟨fun i m σ H=>m=n-i/\i<=n/\Pv i σ H,⟨n,by simp,Qr _,h0⟩,?_⟩
 rintro i m σ H ⟨rfl,hi,p⟩
 by_cases hlt:i<n
 ·refine .inr ⟨hlt,Pv (i+1),fun σ' H' p'=>⟨n-(i+1),by omega,rfl,hlt,p'⟩,fun x H' y=>?_⟩
  obtain ⟨e,y⟩:=y
  subst e y
  exact hs i σ _ hlt p
 ·have e:i=n:=by omega
  subst e
  exact .inl ⟨Qh _,hd σ H p⟩
end L2
namespace L2
open PySem PySem.Spec PyProof.Rows
noncomputable abbrev R2:=V->V->Hp->VK->Prop
noncomputable def bL (X:Cx) (f:Value->Value->Sem Value) (r:R2):Prop :=
 ∀ (pins:List (Addr × Obj)) (s:Shared) (σ:St) (H:Hp) (x y:V) (v u:Value) (Q:VK),Inv X pins σ H s->RelV x v->RelV y u->r x y H Q ->
  wpAny (model X.prog X.w) X.A (f v u) (EP X pins σ Q) X.xe s
noncomputable def c9 (X:Cx) (f:Value) (r:List V->Hp->VK->Prop):Prop :=
 ∀ (pins:List (Addr × Obj)) (s:Shared) (σ:St) (H:Hp) (xs:List V) (us:List Value) (Q:VK),Inv X pins σ H s->aw xs us->r xs H Q ->
  wpAny (model X.prog X.w) X.A (call f us) (EP X pins σ Q) X.xe s
noncomputable def iO (r:R2) (ta tb:TE):TE:=fun σ H Q=>ta σ H fun x H1=>tb σ H1 fun y H2=>r x y H2 Q
noncomputable def rI (C:Int->Int->Prop) (g:Int->Int->V):R2:=fun x y H Q=>∃ i j,x=.int i/\y=.int j/\C i j/\Q (g i j) H
noncomputable def fD (g:Int->Int->V):R2:=fun x y H Q=>∃ i j,x=.int i/\y=.int j/\Q (g i j) H
section
variable {X:Cx} {a b c:Expr} {ta tb tc:TE} {pos:Pos}
theorem lS (ha:PE X a ta) (hb:PE X b tb) {pins:List (Addr × Obj)} {s:Shared} {σ:St} {H:Hp} {R:V->V->Hp->Prop} (I:Inv X pins σ H s)
  (h:ta σ H fun x H1=>tb σ H1 fun y H2=>R x y H2) {Q:Value->Shared->Prop} {f:Value->Value->Sem Value}
  (hf:∀ v u s2 x y H2,Inv X pins σ H2 s2->RelV x v->RelV y u->R x y H2->wpAny (model X.prog X.w) X.A (f v u) Q X.xe s2) :
  wpAny (model X.prog X.w) X.A (eval a X.env) (fun v s₁=>wpAny (model X.prog X.w) X.A (eval b X.env) (fun u s₂=>wpAny (model X.prog X.w) X.A (f v u) Q X.xe s₂) X.xe s₁) X.xe s:=by
 refine ay (ha pins s σ H _ I h) fun v s1 hsl24=>?_
 obtain ⟨x,H1,I1,r1,q1⟩:=hsl24
 refine ay (hb pins s1 σ H1 _ I1 q1) fun u s2 hsl25=>?_
 obtain ⟨y,H2,I2,r2,q2⟩:=hsl25
 exact hf v u s2 x y H2 I2 r1 r2 q2
theorem aG {op:Operator} {r:R2} (ho:bL X (binaryOp op) r) (ha:PE X a ta) (hb:PE X b tb):PE X (.BinOp a op b pos) (iO r ta tb):=by
 intro pins s σ H Q I h
 exact wpAny_BinOp (lS ha hb I h fun v u s2 x y H2 I2 rx ry q=>ho pins s2 σ H2 x y v u Q I2 rx ry q)
theorem jQ {f:Value->Value->Sem Value} {C:Int->Int->Prop} {g:Int->Int->Int}
  (rule:∀ (i j:Int) (t u:Tok) (s:Shared) (Q:Value->Shared->Prop) (E:Value->Shared->Prop),C i j->Q (.int (g i j) s.toks) { s with toks:=s.toks+1 }->wpAny (model X.prog X.w) X.A (f (.int i t) (.int j u)) Q E s) :
  bL X f (rI C fun i j=>.int (g i j)):=by
 intro pins s σ H x y v u Q I rx ry h
 obtain ⟨i,j,rfl,rfl,hc,q⟩:=h
 obtain ⟨t,rfl⟩:=rx
 obtain ⟨t',rfl⟩:=ry
 exact rule i j t t' s _ _ hc ⟨.int (g i j),H,I.tok _,⟨_,rfl⟩,q⟩
theorem iP {f:Value->Value->Sem Value} {g:Int->Int->Int}
  (rule:∀ (i j:Int) (t u:Tok) (s:Shared) (Q:Value->Shared->Prop) (E:Value->Shared->Prop),Q (.int (g i j) s.toks) { s with toks:=s.toks+1 }->wpAny (model X.prog X.w) X.A (f (.int i t) (.int j u)) Q E s) :
  bL X f (fD fun i j=>.int (g i j)):=by
 intro pins s σ H x y v u Q I rx ry h
 obtain ⟨i,j,rfl,rfl,q⟩:=h
 obtain ⟨t,rfl⟩:=rx
 obtain ⟨t',rfl⟩:=ry
 exact rule i j t t' s _ _ ⟨.int (g i j),H,I.tok _,⟨_,rfl⟩,q⟩
theorem we {f:Value->Value->Sem Value} {g:Int->Int->Bool}
  (rule:∀ (i j:Int) (t u:Tok) (s:Shared) (Q:Value->Shared->Prop) (E:Value->Shared->Prop),Q (.bool (g i j)) s->wpAny (model X.prog X.w) X.A (f (.int i t) (.int j u)) Q E s) :
  bL X f (fD fun i j=>.bl (g i j)):=by
 intro pins s σ H x y v u Q I rx ry h
 obtain ⟨i,j,rfl,rfl,q⟩:=h
 obtain ⟨t,rfl⟩:=rx
 obtain ⟨t',rfl⟩:=ry
 exact rule i j t t' s _ _ ⟨.bl (g i j),H,I,rfl,q⟩
noncomputable def wf (i j:Int):Prop:=0<j/\j<1073741824
noncomputable def wg (i j:Int):Prop:=0<=j/\j<=1000000/\i.natAbs<2 ^ 64
noncomputable def lT (i j:Int):Prop:=(-(2 ^ 64)<i/\i<2 ^ 64)∨(-(2 ^ 64)<j/\j<2 ^ 64)
theorem lT.ok {i j:Int} (h:lT i j):IntMulOk i j:=by
 rcases h with ⟨h1,h2⟩ | ⟨h1,h2⟩
 ·exact .of_left (intBits_le_64 h1 h2)
 ·exact .of_right (intBits_le_64 h1 h2)
theorem cP:bL X (binaryOp .Add) (fD fun i j=>.int (i+j)):=iP fun _ _ _ _ _ _ _ q=>add_int q
theorem gQ:bL X (binaryOp .Sub) (fD fun i j=>.int (i-j)):=iP fun _ _ _ _ _ _ _ q=>sub_int q
theorem iQ:bL X (binaryOp .Mult) (rI lT fun i j=>.int (i*j)):=jQ fun _ _ _ _ _ _ _ hc q=>mul_int q hc.ok
theorem fE:bL X (binaryOp .FloorDiv) (rI wf fun i j=>.int (i / j)):=jQ fun i j _ _ _ _ _ hc q=>by
 have h1:(0:Int)<j:=hc.1
 have h2:j<1073741824:=hc.2
 exact floordiv_int (by omega) (by rw [Int.fdiv_eq_ediv_of_nonneg i (by omega)];exact q) (.inl (PyProof.noPylong_small (by omega)))
theorem cm:bL X (binaryOp .Mod) (rI (fun _ j=>0<j) fun i j=>.int (i % j)):=jQ fun i j _ _ _ _ _ hc q=>by
 have h1:(0:Int)<j:=hc
 exact mod_int' (by omega) (by rw [Int.fmod_eq_emod_of_nonneg i (by omega)];exact q)
theorem wj:bL X (binaryOp .Pow) (rI wg fun i j=>.int (i ^ j.toNat)):=jQ fun _ _ _ _ _ _ _ hc q=>pow_int_small hc.1 hc.2.1 hc.2.2 q
theorem iR:bL X (binaryOp .BitAnd) (fD fun i j=>.int (Builtin.bitAnd i j)):=iP fun _ _ _ _ _ _ _ q=>and_int q
theorem lU:bL X (binaryOp .BitOr) (fD fun i j=>.int (Builtin.bitOr i j)):=iP fun _ _ _ _ _ _ _ q=>or_int q
theorem o0:bL X (binaryOp .BitXor) (fD fun i j=>.int (Builtin.bitXor i j)):=iP fun _ _ _ _ _ _ _ q=>xor_int q
end
noncomputable def o4:V->V->Bool
 | .non,.non=>true | .non,.int _=>true | .int _,.non=>true | .non,.bl _=>true | .bl _,.non=>true | .non,.str _=>true | .str _,.non=>true
 | .int _,.int _=>true | .bl _,.bl _=>true | .str _,.str _=>true | .byt _,.byt _=>true
 | .int _,.str _=>true | .str _,.int _=>true | .bl _,.str _=>true | .str _,.bl _=>true
 | _,_=>false
noncomputable def wk:R2:=fun x y H Q=>o4 x y=true/\Q (.bl (decide (x=y))) H
noncomputable def wl:R2:=fun x y H Q=>o4 x y=true/\Q (.bl (!decide (x=y))) H
theorem gR {i j:Int}:decide (V.int i=V.int j)=(i == j):=by
 rw [Bool.eq_iff_iff]
 simp
theorem o5 {i j:Bool}:decide (V.bl i=V.bl j)=(i == j):=by
 rw [Bool.eq_iff_iff]
 simp
theorem o6 {i j:Str}:decide (V.str i=V.str j)=(i == j):=by
 rw [Bool.eq_iff_iff]
 simp
theorem o7 {i j:Array UInt8}:decide (V.byt i=V.byt j)=(i.toList == j.toList):=by
 rw [Bool.eq_iff_iff]
 cases i
 cases j
 simp
section
variable {X:Cx} {a b c:Expr} {ta tb tc:TE} {pos:Pos}
theorem bD {pins:List (Addr × Obj)} {σ:St} {H:Hp} {s:Shared} {Q:VK} {k k':Bool} (I:Inv X pins σ H s) (q:Q (.bl k) H) (e:k=k'):EP X pins σ Q (.bool k') s:=by
 subst e
 exact ⟨.bl k,H,I,rfl,q⟩
theorem bE:bL X (compareOp .Eq) wk:=by
 intro pins s σ H x y v u Q I rx ry h
 obtain ⟨hs,q⟩:=h
 cases x with
 | non =>
  cases rx
  cases y with
  | non=>cases ry;exact PySem.EqNone.eq_none_none (bD I q (by simp))
  | bl j=>cases ry;exact PySem.EqNone.eq_none_bool (bD I q (by simp))
  | int j=>obtain ⟨t',rfl⟩:=ry;exact PySem.EqNone.eq_none_int (bD I q (by simp))
  | str j=>obtain ⟨t',rfl⟩:=ry;exact PySem.EqNone.eq_none_str (bD I q (by simp))
  | _=>exact absurd (show false=true from hs) Bool.false_ne_true
 | bl i =>
  cases rx
  cases y with
  | non=>cases ry;exact PySem.EqNone.eq_bool_none (bD I q (by simp))
  | bl j=>cases ry;exact eq_bool (bD I q o5)
  | str j=>obtain ⟨t',rfl⟩:=ry;exact PySem.EqMixed.eq_bool_str (bD I q (by simp))
  | _=>exact absurd (show false=true from hs) Bool.false_ne_true
 | int i =>
  obtain ⟨t,rfl⟩:=rx
  cases y with
  | non=>cases ry;exact PySem.EqNone.eq_int_none (bD I q (by simp))
  | int j=>obtain ⟨t',rfl⟩:=ry;exact eq_int (bD I q gR)
  | str j=>obtain ⟨t',rfl⟩:=ry;exact PySem.EqMixed.eq_int_str (bD I q (by simp))
  | _=>exact absurd (show false=true from hs) Bool.false_ne_true
 | str i =>
  obtain ⟨t,rfl⟩:=rx
  cases y with
  | non=>cases ry;exact PySem.EqNone.eq_str_none (bD I q (by simp))
  | bl j=>cases ry;exact PySem.EqMixed.eq_str_bool (bD I q (by simp))
  | int j=>obtain ⟨t',rfl⟩:=ry;exact PySem.EqMixed.eq_str_int (bD I q (by simp))
  | str j=>obtain ⟨t',rfl⟩:=ry;exact eq_str (bD I q o6)
  | _=>exact absurd (show false=true from hs) Bool.false_ne_true
 | byt i =>
  obtain ⟨t,rfl⟩:=rx
  cases y with
  | byt j=>obtain ⟨t',rfl⟩:=ry;exact PySem.W.eq_bytes (bD I q o7)
  | _=>exact absurd (show false=true from hs) Bool.false_ne_true
 | _=>cases y<;>exact absurd (show false=true from hs) Bool.false_ne_true
theorem eI:bL X (compareOp .NotEq) wl:=by
 intro pins s σ H x y v u Q I rx ry h
 obtain ⟨hs,q⟩:=h
 cases x with
 | non =>
  cases rx
  cases y with
  | non=>cases ry;exact PySem.EqNone.ne_none_none (bD I q (by simp))
  | bl j=>cases ry;exact PySem.EqNone.ne_none_bool (bD I q (by simp))
  | int j=>obtain ⟨t',rfl⟩:=ry;exact PySem.EqNone.ne_none_int (bD I q (by simp))
  | str j=>obtain ⟨t',rfl⟩:=ry;exact PySem.EqNone.ne_none_str (bD I q (by simp))
  | _=>exact absurd (show false=true from hs) Bool.false_ne_true
 | bl i =>
  cases rx
  cases y with
  | non=>cases ry;exact PySem.EqNone.ne_bool_none (bD I q (by simp))
  | bl j=>cases ry;exact ne_bool (bD I q (congrArg not o5))
  | str j=>obtain ⟨t',rfl⟩:=ry;exact PySem.EqMixed.ne_bool_str (bD I q (by simp))
  | _=>exact absurd (show false=true from hs) Bool.false_ne_true
 | int i =>
  obtain ⟨t,rfl⟩:=rx
  cases y with
  | non=>cases ry;exact PySem.EqNone.ne_int_none (bD I q (by simp))
  | int j=>obtain ⟨t',rfl⟩:=ry;exact ne_int (bD I q (congrArg not gR))
  | str j=>obtain ⟨t',rfl⟩:=ry;exact PySem.EqMixed.ne_int_str (bD I q (by simp))
  | _=>exact absurd (show false=true from hs) Bool.false_ne_true
 | str i =>
  obtain ⟨t,rfl⟩:=rx
  cases y with
  | non=>cases ry;exact PySem.EqNone.ne_str_none (bD I q (by simp))
  | bl j=>cases ry;exact PySem.EqMixed.ne_str_bool (bD I q (by simp))
  | int j=>obtain ⟨t',rfl⟩:=ry;exact PySem.EqMixed.ne_str_int (bD I q (by simp))
  | str j=>obtain ⟨t',rfl⟩:=ry;exact ne_str (bD I q (congrArg not o6))
  | _=>exact absurd (show false=true from hs) Bool.false_ne_true
 | byt i =>
  obtain ⟨t,rfl⟩:=rx
  cases y with
  | byt j=>obtain ⟨t',rfl⟩:=ry;exact PySem.W.ne_bytes (bD I q (congrArg not o7))
  | _=>exact absurd (show false=true from hs) Bool.false_ne_true
 | _=>cases y<;>exact absurd (show false=true from hs) Bool.false_ne_true
theorem jR:bL X (compareOp .Lt) (fD fun i j=>.bl (decide (i<j))):=we fun _ _ _ _ _ _ _ q=>lt_int q
theorem a6 (b:Expr) {op:CmpOp} (h:op≠.In:=by decide) (h2:op≠.NotIn:=by decide):behindInMarks op b=false:=by
 have e1:(op == CmpOp.In)=false:=by cases op<;>first | rfl | exact absurd rfl h
 have e2:(op == CmpOp.NotIn)=false:=by cases op<;>first | rfl | exact absurd rfl h2
 cases b<;>simp [behindInMarks,e1,e2]
theorem lV {op:CmpOp} {r:R2} (ho:bL X (compareOp op) r) (ha:PE X a ta) (hb:PE X b tb) (hm:behindInMarks op b=false):PE X (.Compare a [op] [b] pos) (iO r ta tb):=by
 intro pins s σ H Q I h
 exact wpAny_Compare1 (lS ha hb I h fun v u s2 x y H2 I2 rx ry q=>ho pins s2 σ H2 x y v u Q I2 rx ry q) hm
noncomputable def wm (t:TE):TT:=fun σ H Q=>t σ H fun x H'=>∃ k,x=.bl k/\Q k H'
theorem aY {op:CmpOp} {r:R2} (ho:bL X (compareOp op) r) (ha:PE X a ta) (hb:PE X b tb) (hm:behindInMarks op b=false):PT X (.Compare a [op] [b] pos) (wm (iO r ta tb)):=by
 intro pins s σ H Q I h
 refine wpAny_isTrue_Compare1 (ay (ha pins s σ H _ I h) fun v s1 ⟨x,H1,I1,r1,q1⟩=>ay (hb pins s1 σ H1 _ I1 q1) fun u s2 ⟨y,H2,I2,r2,q2⟩ =>
  ay (ho pins s2 σ H2 x y v u _ I2 r1 r2 q2) fun c s3 ⟨z,H3,I3,r3,k,e,q3⟩=>?_) hm
 subst e
 cases r3
 exact wpAny_truthy_bool ⟨H3,I3,q3⟩
theorem iS:(sizeLine:Nat)<2 ^ 63:=by rw [sizeLine_eq];decide
theorem lW:bL X (binaryOp .Add) (fun x y H Q=>∃ i j,x=.str i/\y=.str j/\i.length+j.length<=sizeLine/\Q (.str (i++j)) H):=by
 intro pins s σ H x y v u Q I rx ry h
 obtain ⟨i,j,rfl,rfl,hz,q⟩:=h
 obtain ⟨t,rfl⟩:=rx
 obtain ⟨t',rfl⟩:=ry
 exact add_str (fun t' tk=>⟨.str (i++j),H,I.tok _,⟨_,rfl⟩,q⟩) hz
theorem vals1 {x:V} {us:List Value} (r:aw [x] us):∃ u,us=[u]/\RelV x u:=by
 cases r with
 | cons r1 r2=>cases r2;exact ⟨_,rfl,r1⟩
theorem vals2 {x y:V} {us:List Value} (r:aw [x,y] us):∃ u w',us=[u,w']/\RelV x u/\RelV y w':=by
 cases r with
 | cons r1 r2 =>
  cases r2 with
  | cons r3 r4=>cases r4;exact ⟨_,_,rfl,r1,r3⟩
end
end L2
namespace L2
open PySem PySem.Spec PyProof.Rows
structure gg (h:Heap) (x dx C:Addr) (mA:Str->Option Value):Prop where
 obj:h.get? x=some (PySem.W.instObj C dx)
 ns:h.Ns1 dx mA
 ne:dx≠x
theorem wn {h:Heap} {dx:Addr} {mA:Str->Option Value} (n:h.Ns1 dx mA):∃ od,h.get? dx=some od/\∀ name,PySem.W.lookIn name od=some (mA name):=by
 obtain ⟨o,es,ep,ho,hd,hk,_,hm⟩:=n
 refine ⟨o,ho,fun name=>?_⟩
 have e:=hm name
 unfold nsFind findBy at e
 rw [<- Array.find?_toList] at e
 unfold PySem.W.lookIn
 rw [hd]
 dsimp only
 split
 ·rename_i y q
  rw [q] at e
  exact congrArg some e
 ·rename_i q
  rw [q] at e
  have a:es.toList.any (·.refKey)=false:=by
   rw [List.any_eq_false]
   intro y hy
   obtain ⟨z,t,hkey⟩:=hk y (Array.mem_toList_iff.mp hy)
   simp [DictEntry.refKey,hkey]
  have a':¬ es.toList.any (·.refKey)=true:=by rw [a];exact Bool.false_ne_true
  rw [if_neg a']
  exact congrArg some e
theorem gg.look {h:Heap} {x dx C:Addr} {mA:Str->Option Value} (I:gg h x dx C mA):∃ od,PySem.W.InstAt h x (PySem.W.instObj C dx) C (some od)/\∀ name,PySem.W.lookIn name od=some (mA name) :=
 let ⟨od,ho,hl⟩:=wn I.ns
 ⟨od,⟨I.obj,rfl,rfl,ho⟩,hl⟩
section
variable {prog:Program} {w:World} {A:Around} {E:Value->Shared->Prop} {s:Shared} {K:PySem.W.Frag} {x dx C f:Addr} {mA:Str->Option Value} {name:Str} {v:Value}
theorem wo {expr:Bool} {Q:Value->Shared->Prop} (X:K.In s.heap) (I:gg s.heap x dx C mA) (hg:PySem.W.plainGet K C name=true) (hh:PySem.W.hasDictIn K C=true)
  (ha:PySem.W.findIn K (.ref C) name=some none) (hv:mA name=some v) (hv':PySem.W.handedIn v=true) (h:Q v { s with toks:=s.toks+1 }) :
  wpAny (model prog w) A (getAttr (.ref x) name expr) Q E s:=by
 obtain ⟨od,J,hl⟩:=I.look
 exact PySem.W.get_value X J (PySem.W.plainGet_of hg).1 (PySem.W.findObj_own hh ha rfl (by rw [hl,hv])) hv' h
theorem wp {pl:Sem Bool} {Q:Value × List Value->Shared->Prop} (X:K.In s.heap) (I:gg s.heap x dx C mA) (hg:PySem.W.plainGet K C name=true)
  (hf:PySem.W.findIn K (.ref C) name=some (some (.ref f))) (ht:PySem.W.isFn K (.ref f)=true) (hv:mA name=none) (h:Q (.ref f,[.ref x]) s) :
  wpAny (model prog w) A (getMethod (.ref x) name pl) Q E s:=by
 obtain ⟨od,J,hl⟩:=I.look
 exact PySem.W.method_fn X J (PySem.W.plainGet_of hg).1 (PySem.W.plainGet_of hg).2 hf (beq_iff_eq.mp ht) (by show (PySem.W.lookIn name od).map (·.isSome)=some false;rw [hl,hv];rfl) h
theorem wq {ns:List Str} {Q:Unit->Shared->Prop} (X:K.In s.heap) (I:gg s.heap x dx C mA)
  (hs:PySem.W.findIn K (.ref C) "__setattr__"=some (some (.builtin "object.__setattr__"))) (hp:PySem.W.plainOver K C=true) (ht:PySem.W.takerIn K C name=some none) (hh:PySem.W.hasDictIn K C=true)
  (hw:PySem.Within mA ns) (hsz:ns.length<=sizeLine)
  (h:∀ h',gg h' x dx C (fun y=>if y=name then some v else mA y)->Heap.SameBut dx s.heap h'->Q () { s with heap:=h',toks:=s.toks+2 }) :
  wpAny (model prog w) A (setAttr (.ref x) name v) Q E s:=by
 obtain ⟨od,J,hl⟩:=I.look
 refine PySem.W.set_plain X J hs (PySem.W.osa_open (s:={ s with toks:=s.toks+1 }) (r:=none) X J hp ht fun b=>?_)
 obtain ⟨cd,hc,hd'⟩:=PySem.W.any_some hh
 have hx:s.heap.get? x=some ⟨.ref C,some dx,.plain,#[]⟩:=I.obj
 refine Qa (Qd (Qa (Qa (wpAny_loadPart hx (Qa (PySem.W.Looks.here (s:={ s with toks:=s.toks+1 }) (PySem.W.looks_clsIn X hc) ?_))))))
 rw [hd']
 refine Qd (a:=some dx) (Qa (Qd (Qa ?_)))
 refine wpAny_nsSet1 (s:={ s with toks:=s.toks+1 }) I.ns fun h' hn2 hs2=>?_
 obtain ⟨oD,esD,epD,hoD,hdD,hcD⟩:=hn2.count (PySem.Within.cons name v hw)
 refine Qa (wpAny_lookBehind hoD (by rw [hdD];exact pastItsLine_dict (QH hcD (by rw [List.length_cons];omega))) ?_)
 exact Qd (h _ ⟨(hs2.2 _ (Ne.symm I.ne)).trans I.obj,hn2,I.ne⟩ hs2)
theorem wt {R:Result->Shared->Prop} {vs:List Value} {kw:List (Str × Value)} (X:K.In s.heap) (hm:PySem.W.makesIn K C=true)
  (hi:PySem.W.findIn K (.ref C) "__init__"=some (some (.ref f))) (hf:PySem.W.typeIn K (.ref f)=some (.type "function"))
  (h:codeAny (model prog w) (A.under (.builtin "type.__call__" ⟨.ref C::vs,kw⟩)) (.call (.ref f) ⟨.ref (s.heap.objs.size+1)::vs,kw⟩) (PySem.W.InitBack (s.heap.objs.size+1) R)
   { s with heap:=(s.heap.push PySem.W.emptyDict).push (PySem.W.instObj C s.heap.objs.size) }) :
  codeAny (model prog w) A (.call (.ref C) ⟨vs,kw⟩) R s:=by
 obtain ⟨hh,g,d,t,os⟩:=s
 exact PySem.W.make_core (PySem.W.makes_of X hm) (PySem.W.looks_findIn X hi) (fun self=>PySem.W.bind_fn X self hf) (.inl rfl) h
end
noncomputable def cW (f:Str) (v:V):List (Str × V)->List (Str × V)
 | []=>[(f,v)]
 | (g,x)::r=>if g=f then (g,v)::r else (g,x)::cW f v r
theorem o8 (f g:Str) (v:V):∀ fs:List (Str × V),(cW f v fs).lookup g=if g=f then some v else fs.lookup g
 | []=>by
  show List.lookup g [(f,v)]=_
  by_cases h:g=f
  ·have hb:(g == f)=true:=beq_iff_eq.mpr h
   simp only [List.lookup,hb,if_pos h]
  ·have hb:(g == f)=false:=beq_eq_false_iff_ne.mpr h
   simp only [List.lookup,hb,if_neg h]
 | (k,x)::r=>by
  have ih:=o8 f g v r
  rw [show cW f v ((k,x)::r)=(if k=f then (k,v)::r else (k,x)::cW f v r) from rfl]
  by_cases hk:k=f
  ·rw [if_pos hk]
   by_cases h:g=k
   ·have hb:(g == k)=true:=beq_iff_eq.mpr h
    simp only [List.lookup,hb,if_pos (h.trans hk)]
   ·have hb:(g == k)=false:=beq_eq_false_iff_ne.mpr h
    simp only [List.lookup,hb,if_neg (fun e:g=f=>h (e.trans hk.symm))]
  ·rw [if_neg hk]
   by_cases h:g=k
   ·have hb:(g == k)=true:=beq_iff_eq.mpr h
    simp only [List.lookup,hb,if_neg (fun e:g=f=>hk (h.symm.trans e))]
   ·have hb:(g == k)=false:=beq_eq_false_iff_ne.mpr h
    simp only [List.lookup,hb]
    exact ih
theorem lX (f:Str) (v:V):∀ fs:List (Str × V),f∈(cW f v fs).map (·.1)/\∀ g,g∈fs.map (·.1)->g∈(cW f v fs).map (·.1)
 | []=>⟨by simp [cW],fun g h=>by simp at h⟩
 | (k,x)::r=>by
  obtain ⟨i1,i2⟩:=lX f v r
  rw [show cW f v ((k,x)::r)=(if k=f then (k,v)::r else (k,x)::cW f v r) from rfl]
  by_cases hk:k=f
  ·rw [if_pos hk]
   subst hk
   exact ⟨by simp,fun g h=>by simpa using h⟩
  ·rw [if_neg hk]
   refine ⟨?_,fun g h=>?_⟩
   ·rw [List.map_cons]
    exact Qz _ i1
   ·rw [List.map_cons] at h ⊢
    rcases Qu h with e | e
    ·exact List.mem_cons.mpr (.inl e)
    ·exact Qz _ (i2 g e)
theorem o9 (f:Str) (v:V):∀ fs:List (Str × V),(cW f v fs).length<=fs.length+1
 | []=>by simp [cW]
 | (k,x)::r=>by
  have ih:=o9 f v r
  rw [show cW f v ((k,x)::r)=(if k=f then (k,v)::r else (k,x)::cW f v r) from rfl]
  by_cases hk:k=f
  ·rw [if_pos hk,List.length_cons,List.length_cons];omega
  ·rw [if_neg hk,List.length_cons,List.length_cons];omega
theorem cJ.some_of {v:V} {o:Option Value} (r:cJ (some v) o):∃ u,o=some u/\RelV v u:=by
 cases o with
 | none=>exact (show False from r).elim
 | some u=>exact ⟨u,rfl,r⟩
theorem cJ.none_of {o:Option Value} (r:cJ none o):o=none:=by
 cases o with
 | none=>rfl
 | some u=>exact (show False from r).elim
theorem wu {v:V} {u:Value} (r:RelV v u):PySem.W.handedIn u=true:=by
 cases v with
 | non=>cases (show u=Value.none from r);rfl
 | bl b=>cases (show u=Value.bool b from r);rfl
 | int i=>obtain ⟨t,e⟩:=(show ∃ t,u=Value.int i t from r);cases e;rfl
 | str x=>obtain ⟨t,e⟩:=(show ∃ t,u=Value.str x t from r);cases e;rfl
 | byt b=>obtain ⟨t,e⟩:=(show ∃ t,u=Value.bytes b t from r);cases e;rfl
 | flt b=>obtain ⟨t,e⟩:=(show ∃ t,u=Value.float b t from r);cases e;rfl
 | ref a=>cases (show u=Value.ref a from r);rfl
 | ty n=>cases (show u=Value.type n from r);rfl
section
variable {P:Program} {w:World} {H H':Hp} {h h':Heap} {a C dx:Addr} {fs fs':List (Str × V)}
theorem jS (hok:bA P w H h) (e:H a=some (.ins C dx fs)):∃ mA,gg h a dx C mA/\(∀ f,cJ (fs.lookup f) (mA f))/\PySem.Within mA (fs.map (·.1))/\fs.length<=1000/\H dx=some (.own a):=by
 obtain ⟨d,z,ne,ob,mA,n,r,q⟩:=(show bz P w H h a (.ins C dx fs) from hok a _ e)
 exact ⟨mA,⟨ob,n,ne⟩,r,q,z,d⟩
end
structure eJ (K:PySem.W.Frag) (C:Addr):Prop where
 pg:PySem.W.plainGet K C Str.empty=true
 hd:PySem.W.hasDictIn K C=true
 po:PySem.W.plainOver K C=true
 sa:PySem.W.findIn K (.ref C) "__setattr__"=some (some (.builtin "object.__setattr__"))
theorem eJ.get {K:PySem.W.Frag} {C:Addr} (c:eJ K C) (f:Str):PySem.W.plainGet K C f=true:=c.pg
noncomputable def fF (K:PySem.W.Frag) (C:Addr) (f:Str):Prop:=PySem.W.findIn K (.ref C) f=some none
theorem fF.taker {K:PySem.W.Frag} {C:Addr} {f:Str} (n:fF K C f):PySem.W.takerIn K C f=some none:=by
 unfold PySem.W.takerIn
 rw [show PySem.W.findIn K (.ref C) f=some none from n]
 rfl
structure eA (K:PySem.W.Frag) (C:Addr) (m:Str) (f:Addr):Prop where
 at_:PySem.W.findIn K (.ref C) m=some (some (.ref f))
 fn:PySem.W.isFn K (.ref f)=true
 kp:PySem.W.keepIn K (.ref f)=true
section
variable {X:Cx} {pins:List (Addr × Obj)} {σ:St} {H:Hp} {s:Shared} {a C dx:Addr} {fs:List (Str × V)} {f:Str} {v:V} {A:Around} {E:Value->Shared->Prop}
theorem wv {b:Bool} {Q:Value->Shared->Prop} (I:Inv X pins σ H s) (e:H a=some (.ins C dx fs)) (c:eJ X.K C) (n:fF X.K C f) (l:fs.lookup f=some v)
  (h:∀ u s',Inv X pins σ H s'->RelV v u->Q u s'):wpAny (model X.prog X.w) A (getAttr (.ref a) f b) Q E s:=by
 obtain ⟨mA,O,r,_,_,_⟩:=jS I.hok e
 obtain ⟨u,hu,ru⟩:=cJ.some_of (v:=v) (o:=mA f) (by rw [<- l];exact r f)
 exact wo I.kIn O (c.get f) c.hd n hu (wu ru) (h u _ (I.tok _) ru)
theorem ww {m:Str} {g:Addr} {pl:Sem Bool} {Q:Value × List Value->Shared->Prop} (I:Inv X pins σ H s) (e:H a=some (.ins C dx fs)) (c:eJ X.K C) (k:eA X.K C m g) (l:fs.lookup m=none)
  (h:Q (.ref g,[.ref a]) s):wpAny (model X.prog X.w) A (getMethod (.ref a) m pl) Q E s:=by
 obtain ⟨mA,O,r,_,_,_⟩:=jS I.hok e
 have hn:mA m=none:=cJ.none_of (by rw [<- l];exact r m)
 exact wp I.kIn O (c.get m) k.at_ k.fn hn h
theorem wx {y:V} {u:Value} {Q:Unit->Shared->Prop} (I:Inv X pins σ H s) (e:H a=some (.ins C dx fs)) (c:eJ X.K C) (n:fF X.K C f) (hl:fs.length<1000) (ry:RelV y u)
  (h:∀ s',Inv X pins σ (af H a (.ins C dx (cW f y fs))) s'->Q () s'):wpAny (model X.prog X.w) A (setAttr (.ref a) f u) Q E s:=by
 obtain ⟨mA,O,r,wi,_,ho⟩:=jS I.hok e
 have hz:(fs.map (·.1)).length<=sizeLine:=by rw [Qf,sizeLine_eq];omega
 refine wq I.kIn O c.sa c.po n.taker c.hd wi hz fun h' O' sb=>h _ ?_
 have hd:∃ o,h'.get? dx=some o:=by obtain ⟨o,_,_,e',_⟩:=O'.ns;exact ⟨o,e'⟩
 refine I.write (x:=a) (e:=dx) (by rw [e];exact True.intro) (.inr ho) (fun b q hb z=>(sb.2 b hb).trans z) hd ?_
 refine ⟨by rw [ar O.ne];exact ho,?_,O.ne,O'.obj,_,O'.ns,fun g=>?_,fun g hg=>?_⟩
 ·have:=o9 f y fs;omega
 ·show cJ ((cW f y fs).lookup g) (if g=f then some u else mA g)
  rw [o8]
  by_cases q:g=f
  ·rw [if_pos q,if_pos q];exact ry
  ·rw [if_neg q,if_neg q];exact r g
 ·by_cases q:g=f
  ·rw [q];exact (lX f y fs).1
  ·refine (lX f y fs).2 g (wi g fun z=>hg ?_)
   show (if g=f then some u else mA g)=none
   rw [if_neg q];exact z
theorem Inv.made (I:Inv X pins σ H s):Inv X pins σ (af (af H s.heap.objs.size (.own (s.heap.objs.size+1))) (s.heap.objs.size+1) (.ins C s.heap.objs.size []))
  { s with heap:=(s.heap.push PySem.W.emptyDict).push (PySem.W.instObj C s.heap.objs.size) }:=by
 have e1:(s.heap.push PySem.W.emptyDict).get? s.heap.objs.size=some PySem.W.emptyDict:=Qj s.heap rfl
 have e2:((s.heap.push PySem.W.emptyDict).push (PySem.W.instObj C s.heap.objs.size)).get? (s.heap.objs.size+1)=some (PySem.W.instObj C s.heap.objs.size):=by
  have:=Qj (s.heap.push PySem.W.emptyDict) (o:=PySem.W.instObj C s.heap.objs.size) rfl
  rwa [Heap.size_push] at this
 have e3:(s.heap.push PySem.W.emptyDict).Ns s.heap.objs.size (fun _=>none):=⟨PySem.W.emptyDict,#[],_,e1,rfl,(fun e he=>absurd he (by simp)),fun _=>rfl⟩
 have I1:=I.laid (a:=s.heap.objs.size) (o:=.own (s.heap.objs.size+1)) (h':=s.heap.push PySem.W.emptyDict) (t':=s.toks) (fun b u q=>Qe _ q) (Qh _) ⟨_,e1⟩
 refine I1.laid (a:=s.heap.objs.size+1) (o:=.ins C s.heap.objs.size []) (t':=s.toks) (fun b u q=>Qe _ q) (Nat.le_of_eq (Heap.size_push _ _)) ?_
 have ne:s.heap.objs.size≠s.heap.objs.size+1:=Qt (Nat.lt_succ_self _)
 refine ⟨by rw [ar ne,aj],Qr _,ne,e2,fun _=>none,(Heap.Ns1.of_empty e3).at fun o q=>Qe _ q,fun _=>True.intro,fun y hy=>absurd rfl hy⟩
theorem wy {prog:Program} {w:World} {env:Env} {e:Expr} {f:Str} {pos:Pos} {s:Shared} {Q:Value->Shared->Prop} (hb:attributeBase e f env (eval e env)=eval e env)
  (h:wpAny (model prog w) A (eval e env) (fun o s₁=>wpAny (model prog w) A (getAttr o f true) Q E s₁) E s):wpAny (model prog w) A (eval (.Attribute e f pos) env) Q E s :=
 Attribute_any_ h (by rw [arm_eval_Attribute,hb])
end
noncomputable def wz (K:PySem.W.Frag) (ta:TE) (f:Str):TE:=fun σ H Q=>ta σ H fun x H1=>∃ a C dx fs v,x=.ref a/\H1 a=some (.ins C dx fs)/\eJ K C/\fF K C f/\fs.lookup f=some v/\Q v H1
noncomputable def wA (K:PySem.W.Frag) (ta tv:TE) (f:Str):TS:=fun D σ H=>tv σ H fun y H1=>ta σ H1 fun x H2=>∃ a C dx fs,x=.ref a/\H2 a=some (.ins C dx fs)/\eJ K C/\fF K C f/\fs.length<1000 /\
 D.nx σ (af H2 a (.ins C dx (cW f y fs)))
section
variable {X:Cx} {o e value:Expr} {f:Str} {pos pos' tpos:Pos} {ta tv:TE}
theorem jT (he:PE X e ta) (hb:attributeBase e f X.env (eval e X.env)=eval e X.env):PE X (.Attribute e f pos) (wz X.K ta f):=by
 intro pins s σ H Q I h
 refine wy hb (ay (he pins s σ H _ I h) fun u s1 hsl26=>?_)
 obtain ⟨x,H1,I1,rx,a,C,dx,fs,v,ex,ea,c,n,l,q⟩:=hsl26
 subst ex
 obtain rfl:u=Value.ref a:=rx
 exact wv I1 ea c n l fun u' s2 I2 ru=>⟨v,H1,I2,ru,q⟩
theorem pc (ha:PE X o ta) (hv:PE X value tv) (hs:swapsWith value (some (.Attribute o f pos')) pos.line X.env=pure false):PS X (.Assign [.Attribute o f pos'] value pos) (wA X.K ta tv f):=by
 intro pins s σ H D I h
 refine plainObj_wpAny_Assign_Attribute (ay (hv pins s σ H _ I h) fun u s1 ⟨y,H1,I1,ry,q⟩=>ay (ha pins s1 σ H1 _ I1 q) fun ov s2 hsl27=>?_) hs
 obtain ⟨x,H2,I2,rx,a,C,dx,fs,ex,ea,c,n,l,q2⟩:=hsl27
 subst ex
 obtain rfl:ov=Value.ref a:=rx
 exact wx I2 ea c n l ry fun s3 I3=>⟨σ,_,I3,q2⟩
end
section
variable {X:Cx} {pins:List (Addr × Obj)} {σ:St} {H:Hp} {s:Shared} {A:Around} {E:Value->Shared->Prop} {Q:Value->Shared->Prop} {c:Value} {b:Bool}
inductive cQ (K:PySem.W.Frag) (H:Hp):V->Value->Prop where
 | non:cQ K H .non (.type "NoneType")
 | bl (x:Bool):cQ K H (.bl x) (.type "bool")
 | int (i:Int):cQ K H (.int i) (.type "int")
 | str (x:Str):cQ K H (.str x) (.type "str")
 | flt (x:UInt64):cQ K H (.flt x) (.type "float")
 | lst {a:Addr} {xs:List V} (e:H a=some (.lst xs)):cQ K H (.ref a) (.type "list")
 | frz {a:Addr} {o:Obj} {xs:List V} (e:H a=some (.frz o (.lst xs))):cQ K H (.ref a) (.type "list")
 | tup {a:Addr} {xs:List V} (e:H a=some (.tup xs)):cQ K H (.ref a) (.type "tuple")
 | dK {a:Addr} {kvs:List (ae × V)} (e:H a=some (.dK kvs)):cQ K H (.ref a) (.type "dict")
 | dT {a:Addr} {kvs:List (List ae × V)} (e:H a=some (.dT kvs)):cQ K H (.ref a) (.type "dict")
 | ins {a C dx:Addr} {fs:List (Str × V)} (e:H a=some (.ins C dx fs)) (cl:eJ K C) (ha:PySem.W.findIn K (.ref C) "__class__"=some (some (.builtin "object.__class__")))
   (hn:PySem.W.specialIn K (.builtin "object.__class__") "__get__"=some (some (.builtin "getset_descriptor.__get__"))) (htk:PySem.W.takesIn K (.builtin "object.__class__")=some true)
   (hm:PySem.W.mroIn K C (.type "object")=some true):cQ K H (.ref a) (.ref C)
theorem wB {x:V} {u t:Value} (I:Inv X pins σ H s) (rx:RelV x u) (ty:cQ X.K H x t) (e:PySem.W.kitOne X.K t c=some b) (h:∀ tk,Q (.bool b) { s with toks:=tk }) :
  wpAny (model X.prog X.w) A (call (.builtin "isinstance") [u,c]) Q E s:=by
 cases ty with
 | non=>cases (show u=Value.none from rx);exact PySem.W.kia_one PySem.W.kitx_none I.kIn True.intro e (fun z=>nomatch z) h
 | bl y=>cases (show u=Value.bool y from rx);exact PySem.W.kia_one PySem.W.kitx_bool I.kIn True.intro e (fun z=>nomatch z) h
 | int i=>obtain ⟨t,q⟩:=(show ∃ t,u=Value.int i t from rx);cases q;exact PySem.W.kia_one PySem.W.kitx_int I.kIn True.intro e (fun z=>nomatch z) h
 | str y=>obtain ⟨t,q⟩:=(show ∃ t,u=Value.str y t from rx);cases q;exact PySem.W.kia_one PySem.W.kitx_str I.kIn True.intro e (fun z=>nomatch z) h
 | flt y=>obtain ⟨t,q⟩:=(show ∃ t,u=Value.float y t from rx);cases q;exact PySem.W.kia_one PySem.W.kitx_float I.kIn True.intro e (fun z=>nomatch z) h
 | @lst a xs ea =>
  cases (show u=Value.ref a from rx)
  obtain ⟨_,_,n,_,h1⟩:=(show bz X.prog X.w H s.heap a (.lst xs) from I.hok a _ ea)
  exact PySem.W.kia_one PySem.W.kitx_list I.kIn ⟨_,h1,rfl⟩ e (fun z=>nomatch z) h
 | @frz a ob xs ea =>
  cases (show u=Value.ref a from rx)
  obtain ⟨_,_,_,n,_,h1⟩:=(show bz X.prog X.w H s.heap a (.frz ob (.lst xs)) from I.hok a _ ea)
  exact PySem.W.kia_one PySem.W.kitx_list I.kIn ⟨_,h1,rfl⟩ e (fun z=>nomatch z) h
 | @tup a xs ea =>
  cases (show u=Value.ref a from rx)
  obtain ⟨_,_,_,p,_⟩:=(show bz X.prog X.w H s.heap a (.tup xs) from I.hok a _ ea)
  obtain ⟨o,h1,h2,_⟩:=p
  exact PySem.W.kia_one PySem.W.kitx_tuple I.kIn ⟨o,h1,h2⟩ e (fun z=>nomatch z) h
 | @dK a kvs ea =>
  cases (show u=Value.ref a from rx)
  obtain ⟨_,_,vs,_,p⟩:=(show bz X.prog X.w H s.heap a (.dK kvs) from I.hok a _ ea)
  obtain ⟨o,es,ep,h1,h2,_⟩:=p
  exact PySem.W.kia_one PySem.W.kitx_dict I.kIn ⟨o,h1,h2.1⟩ e (fun z=>nomatch z) h
 | @dT a kvs ea =>
  cases (show u=Value.ref a from rx)
  obtain ⟨_,_,xs,_,o,es,ep,h1,h2,_⟩:=(show bz X.prog X.w H s.heap a (.dT kvs) from I.hok a _ ea)
  exact PySem.W.kia_one PySem.W.kitx_dict I.kIn ⟨o,h1,h2.1⟩ e (fun z=>nomatch z) h
 | @ins a C dx fs ea cl ha hn htk hm =>
  cases (show u=Value.ref a from rx)
  obtain ⟨mA,O,_⟩:=jS I.hok ea
  obtain ⟨od,J,_⟩:=O.look
  exact PySem.W.kia_one (PySem.W.kitx_own (cl.get _) cl.hd ha hn htk hm) I.kIn J e (fun z=>nomatch z) h
end
end L2
namespace L2
open PySem PySem.Spec PyProof.Rows
structure aA (k:Nat) (A:Around):Prop where
 hd:A.handled=none
 dp:A.depth+3*k+5<recursionLimit
 un:A.units+16*k+200<cLine
theorem aA.mono {j k:Nat} {A:Around} (r:aA k A) (h:j<=k):aA j A:=⟨r.hd,by have:=r.dp;omega,by have:=r.un;omega⟩
theorem aA.deeper {k:Nat} {A:Around} (r:aA (k+1) A) (env:Env):aA k (A.deeper env) :=
 ⟨r.hd,by have:=r.dp;show A.depth+1+3*k+5<_;omega,by have:=r.un;show A.units+3+16*k+200<_;omega⟩
theorem aA.in1 {k:Nat} {A:Around} (r:aA (k+1) A):aA k A.in1 :=
 ⟨r.hd,by have:=r.dp;show A.depth+3*k+5<_;omega,by have:=r.un;show A.units+1+16*k+200<_;omega⟩
theorem wC {A:Around} {C:Addr} {us:List Value} {kw:List (Str × Value)}:(A.under (.builtin "type.__call__" ⟨.ref C::us,kw⟩)).depth=A.depth+1:=by
 first | rfl | simp [Around.under,Code.weight,Code.isCreation,Code.isGuard,Code.isCaller,Code.frames,Code.isFrame,guardIds]
theorem wD {A:Around} {C:Addr} {us:List Value} {kw:List (Str × Value)}:(A.under (.builtin "type.__call__" ⟨.ref C::us,kw⟩)).units=A.units+1:=by
 first | rfl | simp [Around.under,Code.cUnits,Code.frames,Code.isFrame]
theorem aA.make {k:Nat} {A:Around} (r:aA (k+1) A) (C:Addr) (us:List Value) (kw:List (Str × Value)):aA k (A.under (.builtin "type.__call__" ⟨.ref C::us,kw⟩)) :=
 ⟨r.hd,by have:=r.dp;rw [wC];omega,by have:=r.un;rw [wD];omega⟩
theorem aA.depth {k:Nat} {A:Around} (r:aA k A):A.depth<recursionLimit:=by have:=r.dp;omega
theorem aA.units {k:Nat} {A:Around} (r:aA k A):A.units+64<cLine:=by have:=r.un;omega
noncomputable def iT:TA:=fun _ H Q=>Q [] H
noncomputable def gh (ta:TE) (tr:TA):TA:=fun σ H Q=>ta σ H fun x H1=>tr σ H1 fun xs H2=>Q (x::xs) H2
section
variable {X:Cx} {e:Expr} {es:List Expr} {te:TE} {t:TA} {pos:Pos}
theorem ag:PA X [] iT:=fun _ _ _ _ H Q I h=>Calls.spliced_nil ⟨[],H,I,.nil,h⟩
theorem aa (ha:PE X e te) (hr:PA X es t) (hs:starEach (e::es) X.env=(false,eval e X.env)::starEach es X.env:=by rfl):PA X (e::es) (gh te t):=by
 intro pos pins s σ H Q I h
 rw [hs]
 show wpAny _ _ (spliced ((false,eval e X.env)::backTo pos (starEach es X.env))) _ _ s
 refine Calls.spliced_cons (ay (ha pins s σ H _ I h) fun u s1 hsl29=>?_)
 obtain ⟨x,H1,I1,r1,q1⟩:=hsl29
 exact ay (hr pos pins s1 σ H1 _ I1 q1) fun us s2 hsl30=>by obtain ⟨xs,H2,I2,r2,q2⟩:=hsl30;exact ⟨x::xs,H2,I2,.cons r1 r2,q2⟩
noncomputable def ph (t:TA):TE:=fun σ H Q=>t σ H fun xs H1=>xs.length<=sizeLine/\∀ p,H1 p=none->Q (.ref p) (af H1 p (.tup xs))
noncomputable def pi (t:TA):TE:=fun σ H Q=>t σ H fun xs H1=>xs.length<=sizeLine/\∀ p,H1 p=none->Q (.ref p) (af H1 p (.lst xs))
theorem aV {x1} (h:PA X es t):PE X (.Tuple es x1 pos) (ph t):=by
 intro pins s σ H Q I hq
 refine wpAny_Tuple_spliced (ay (h pos pins s σ H _ I hq) fun us s1 ⟨xs,H1,I1,r,z,q⟩=>⟨by rw [<- r.length];exact z,?_⟩)
 have hf:H1 s1.heap.objs.size=none:=I1.hok.fresh (Qh _)
 refine ⟨.ref s1.heap.objs.size,af H1 s1.heap.objs.size (.tup xs),I1.laid (t':=s1.toks) (fun b u e=>Qe _ e) (Qh _) ?_,rfl,q _ hf⟩
 exact ⟨z,us,r,⟨_,Qj _ rfl,rfl,_,rfl⟩,_,Qj _ rfl,rfl⟩
theorem bB (h:PA X es t):PE X (.List es pos) (pi t):=by
 intro pins s σ H Q I hq
 refine wpAny_List_spliced (ay (h pos pins s σ H _ I hq) fun us s1 ⟨xs,H1,I1,r,z,q⟩=>⟨by rw [<- r.length];exact z,?_⟩)
 have hf:H1 s1.heap.objs.size=none:=I1.hok.fresh (Qh _)
 refine ⟨.ref s1.heap.objs.size,af H1 s1.heap.objs.size (.lst xs),I1.laid (t':=s1.toks) (fun b u e=>Qe _ e) (Qh _) ?_,rfl,q _ hf⟩
 exact ⟨z,us,0,r,Qj _ rfl⟩
end
noncomputable abbrev Sp:=List V->Hp->VK->XK->Prop
noncomputable abbrev dv:=List Env->Hp->Shared->XK->Value->Shared->Prop
structure dX (P:Program) (w:World) (K:PySem.W.Frag) (mg:Str->Option Value) (base:Heap) (A:Around) (outer:List Env) (s:Shared) (H:Hp):Prop where
 frames:A.frames=some outer
 mod:Mod K mg base
 bs:∀ b o,base.get? b=some o->s.heap.get? b=some o/\H b=none
 bsz:base.objs.size<=s.heap.objs.size
 funs:s.heap.FunFrames base outer
 frf:∀ b∈dF outer,H b=none
 hok:bA P w H s.heap
 bare:AllBare s.gens
noncomputable def CE (outer:List Env) (P:Program) (w:World) (H:Hp) (s:Shared) (Q:VK) (u:Value) (s':Shared):Prop :=
 ∃ v H',s'.os=s.os/\AllBare s'.gens/\Un (dF outer) [] H H' s.heap s'.heap/\bA P w H' s'.heap/\RelV v u/\Q v H'
noncomputable def CR (CX:dv) (outer:List Env) (P:Program) (w:World) (H:Hp) (s:Shared) (Q:VK) (E:XK) (r:Result) (s':Shared):Prop :=
 match r with
 | .ok (.ret u)=>CE outer P w H s Q u s'
 | .ok _=>False
 | .error e=>CX outer H s E e s'
structure aE (P:Program) (w:World) (K:PySem.W.Frag) (mg:Str->Option Value) (base:Heap) (CX:dv) (k:Nat) (f:Addr) (fd:FuncData) (ps:List Str) (sp:Sp):Prop where
 len:∀ vs H Q E,sp vs H Q E->vs.length=ps.length
 run:∀ (A:Around) (outer:List Env) (s:Shared) (H:Hp) (args:Args) (us:List Value) (vs:List V) (Q:VK) (E:XK),aA k A->dX P w K mg base A outer s H->BindsTo s fd args (ps.zip us)->aw vs us->sp vs H Q E ->
  codeAny (model P w) A (.call (.ref f) args) (CR CX outer P w H s Q E) s
theorem dX.make {P:Program} {w:World} {K:PySem.W.Frag} {mg:Str->Option Value} {base:Heap} {A:Around} {outer:List Env} {s:Shared} {H:Hp} (e:dX P w K mg base A outer s H) (C:Addr) (us:List Value) (kw:List (Str × Value)) :
  dX P w K mg base (A.under (.builtin "type.__call__" ⟨.ref C::us,kw⟩)) outer s H:=⟨by first | exact e.frames | (simpa [Around.under,Code.envs,Code.isFrame,pushEnvs] using e.frames),e.mod,e.bs,e.bsz,e.funs,e.frf,e.hok,e.bare⟩
theorem dX.in1 {P:Program} {w:World} {K:PySem.W.Frag} {mg:Str->Option Value} {base:Heap} {A:Around} {outer:List Env} {s:Shared} {H:Hp} (e:dX P w K mg base A outer s H) :
  dX P w K mg base A.in1 outer s H:=⟨e.frames,e.mod,e.bs,e.bsz,e.funs,e.frf,e.hok,e.bare⟩
section
variable {X:Cx} {pins:List (Addr × Obj)} {σ:St} {H:Hp} {s s':Shared}
theorem Inv.env0 (I:Inv X pins σ H s):dX X.prog X.w X.K X.mg X.base X.A X.stack s H :=
 ⟨I.ok.frames,I.ok.mod,I.bs,QH I.ok.bsz I.sz,I.stack,I.stkFree,I.hok,I.bare⟩
theorem Inv.after {Q:VK} {u:Value} (I:Inv X pins σ H s) (h:CE X.stack X.prog X.w H s Q u s'):EP X pins σ Q u s':=by
 obtain ⟨v,H',os,bare,un,hok,r,q⟩:=h
 obtain ⟨hh,g,d,t,os'⟩:=s'
 obtain rfl:os'=s.os:=os
 exact ⟨v,H',I.call (h':=hh) (g':=g) (d':=d) (t':=t) (ch:=[]) un hok bare (fun b z=>absurd z (by simp)),r,q⟩
end
noncomputable def pz (sp:Sp) (dvs:List V) (E:XK) (t:TA):TE:=fun σ H Q=>t σ H fun vs H1=>sp (vs++dvs) H1 Q E
noncomputable def wE (C:Addr) (m:Str) (sp:Sp) (dvs:List V) (E:XK) (ta:TE) (t:TA):TE:=fun σ H Q=>ta σ H fun x H1=>∃ a dx fs,x=.ref a/\H1 a=some (.ins C dx fs)/\fs.lookup m=none /\
 t σ H1 fun vs H2=>sp (x::(vs++dvs)) H2 Q E
noncomputable def wF (C:Addr) (sp:Sp) (dvs:List V) (E:XK) (t:TA):TE:=fun σ H Q=>t σ H fun vs H1=>∀ x dx,H1 x=none->H1 dx=none->dx≠x ->
 sp (.ref x::(vs++dvs)) (af (af H1 dx (.own x)) x (.ins C dx [])) (fun v H2=>v=.non/\Q (.ref x) H2) E
noncomputable def Binds (K:PySem.W.Frag) (fd:FuncData) (ps:List Str) (ds:List Value):Prop :=
 ∀ (s:Shared) (us:List Value),K.In s.heap->(us++ds).length=ps.length->BindsTo s fd ⟨us,[]⟩ (ps.zip (us++ds))
theorem Binds.all {K:PySem.W.Frag} {fd:FuncData} {ps:List Str} (h:∀ us:List Value,us.length=ps.length->bindArgs fd ⟨us,[]⟩=pure (ps.zip us)):Binds K fd ps []:=fun s us _ hl=>by
 rw [List.append_nil] at hl ⊢
 exact .of_eq (h us hl)
noncomputable def gS (CX:dv) (X:Cx) (E:XK):Prop:=∀ (pins:List (Addr × Obj)) (σ:St) (H:Hp) (s:Shared) (e:Value) (s':Shared),Inv X pins σ H s->CX X.stack H s E e s'->X.xe e s'
section
variable {X:Cx} {CX:dv} {k:Nat} {f C:Addr} {fd:FuncData} {ps:List Str} {sp:Sp} {dvs:List V} {ds:List Value} {E:XK} {x m:Str} {p pos apos:Pos} {e o:Expr} {es:List Expr} {ta:TE} {t:TA}
theorem pA {pins:List (Addr × Obj)} {σ:St} {H:Hp} {s:Shared} {Q:VK} {us:List Value} {vs:List V} (F:aE X.prog X.w X.K X.mg X.base CX k f fd ps sp) (hr:aA k X.A) (hb:Binds X.K fd ps ds) (hd:aw dvs ds) (hx:gS CX X E)
  (I:Inv X pins σ H s) (r:aw vs us) (h:sp (vs++dvs) H Q E):wpAny (model X.prog X.w) X.A (call (.ref f) us) (EP X pins σ Q) X.xe s:=by
 have r2:aw (vs++dvs) (us++ds):=r.append hd
 have hl:(us++ds).length=ps.length:=by rw [<- r2.length];exact F.len _ _ _ _ h
 refine wpAny_call (codeAny_mono (F.run X.A X.stack s H ⟨us,[]⟩ (us++ds) (vs++dvs) Q E hr I.env0 (hb s us I.kIn hl) r2 h) fun r s' hq=>?_)
 cases r with
 | error e=>exact hx pins σ H s e s' I hq
 | ok fl =>
  cases fl with
  | ret u=>exact I.after hq
  | next=>exact False.elim hq
  | brk=>exact False.elim hq
  | cont=>exact False.elim hq
theorem aN (F:aE X.prog X.w X.K X.mg X.base CX k f fd ps sp) (hr:aA k X.A) (hg:Gl X x) (hm:X.mg x=some (.ref f)) (hk:PySem.W.keepIn X.K (.ref f)=true) (hb:Binds X.K fd ps ds) (hd:aw dvs ds) (hx:gS CX X E)
  (ha:PA X (e::es) t) (hdb:(x == ("__debug__":Str))=false:=by decide) (he:starEach (e::es) X.env=(false,eval e X.env)::starEach es X.env:=by rfl) (hpl:(backTo pos (starEach es X.env)).any (·.1)=false:=by rfl) :
  PE X (.Call (.Name x p) (e::es) [] pos) (pz sp dvs E t):=by
 intro pins s σ H Q I h
 refine wpAny_Call_Name_kw (iF I hg hm ?_ hdb)
 refine PySem.W.callWith_K (h₀:=X.base) I.ok.mod.kin hk (ay (ha pos pins s σ H _ I h) fun us s1 ⟨vs,H1,I1,r,q⟩=>⟨I1.kIn,?_⟩) he hpl
 exact pA F hr hb hd hx I1 r q
theorem cn {pl:Sem Bool} (he:PE X o ta) (c:eJ X.K C) (hm:eA X.K C m f) (F:aE X.prog X.w X.K X.mg X.base CX k f fd ps sp) (hr:aA k X.A) (hb:Binds X.K fd ps ds) (hd:aw dvs ds) (hx:gS CX X E) (ha:PA X (e::es) t)
  (hst:starEach (e::es) X.env=(false,eval e X.env)::starEach es X.env:=by rfl) (hpl:(backTo pos (starEach es X.env)).any (·.1)=false:=by rfl)
  (ht:eval (.Call (.Attribute o m apos) (e::es) [] pos) X.env=(do
   let ov <- eval o X.env
   standAt apos.atName
   let (f,first) <- holding [ov] (getMethod ov m pl)
   callWith pos f first (backTo pos (starEach (e::es) X.env)) (backToKw pos (keywordEach [] X.env))):=by rfl) :
  PE X (.Call (.Attribute o m apos) (e::es) [] pos) (wE C m sp dvs E ta t):=by
 intro pins s σ H Q I h
 refine PySem.W.methodCall_KW (pl:=pl) (ay (he pins s σ H _ I h) fun u s1 hsl31=>?_) ht
 obtain ⟨x,H1,I1,rx,a,dx,fs,ex,ea,l,q⟩:=hsl31
 subst ex
 obtain rfl:u=Value.ref a:=rx
 refine ww I1 ea c hm l ?_
 refine PySem.W.callWith_K (first:=[.ref a]) (h₀:=X.base) I.ok.mod.kin hm.kp (ay (ha pos pins s1 σ H1 _ I1 q) fun us s2 ⟨vs,H2,I2,r,q2⟩=>⟨I2.kIn,?_⟩) hst hpl
 exact pA (us:=.ref a::us) (vs:=.ref a::vs) F hr hb hd hx I2 (.cons rfl r) q2
structure Mk (K:PySem.W.Frag) (C f:Addr):Prop where
 makes:PySem.W.makesIn K C=true
 init:PySem.W.findIn K (.ref C) "__init__"=some (some (.ref f))
 fn:PySem.W.isFn K (.ref f)=true
 kp:PySem.W.keepIn K (.ref C)=true
theorem wG {pins:List (Addr × Obj)} {σ:St} {H:Hp} {s:Shared} {Q:VK} {us:List Value} {vs:List V} (M:Mk X.K C f) (F:aE X.prog X.w X.K X.mg X.base CX k f fd ps sp) (hr:aA (k+1) X.A) (hb:Binds X.K fd ps ds) (hd:aw dvs ds)
  (hx:gS CX X E) (I:Inv X pins σ H s) (r:aw vs us)
  (h:∀ x dx,H x=none->H dx=none->dx≠x->sp (.ref x::(vs++dvs)) (af (af H dx (.own x)) x (.ins C dx [])) (fun v H2=>v=.non/\Q (.ref x) H2) E) :
  wpAny (model X.prog X.w) X.A (call (.ref C) us) (EP X pins σ Q) X.xe s:=by
 have hq:=h (s.heap.objs.size+1) s.heap.objs.size (I.hok.fresh (Nat.le_succ _)) (I.hok.fresh (Qh _)) (Qt (Nat.lt_succ_self _))
 have I2:=Inv.made (C:=C) I
 have r2:aw (V.ref (s.heap.objs.size+1)::(vs++dvs)) (Value.ref (s.heap.objs.size+1)::(us++ds)):=.cons rfl (r.append hd)
 have hl:(Value.ref (s.heap.objs.size+1)::us++ds).length=ps.length:=by
  have e:=r2.length
  rw [F.len _ _ _ _ hq] at e
  exact e.symm
 refine wpAny_call (wt (f:=f) I.kIn M.makes M.init (beq_iff_eq.mp M.fn) (codeAny_mono (F.run _ X.stack _ _ ⟨Value.ref (s.heap.objs.size+1)::us,[]⟩ (Value.ref (s.heap.objs.size+1)::(us++ds)) _ _ E (hr.make C us [])
  (I2.env0.make C us []) (hb _ (Value.ref (s.heap.objs.size+1)::us) I2.kIn hl) r2 hq) fun r s' hq'=>?_))
 cases r with
 | error e=>exact hx pins σ _ _ e s' I2 hq'
 | ok fl =>
  cases fl with
  | ret u =>
   obtain ⟨v,H',I3,rv,ev,q3⟩:=I2.after hq'
   subst ev
   exact ⟨rv,⟨V.ref (s.heap.objs.size+1),H',I3,rfl,q3⟩⟩
  | next=>exact False.elim hq'
  | brk=>exact False.elim hq'
  | cont=>exact False.elim hq'
theorem wH (M:Mk X.K C f) (F:aE X.prog X.w X.K X.mg X.base CX k f fd ps sp) (hr:aA (k+1) X.A) (hg:Gl X x) (hm:X.mg x=some (.ref C)) (hb:Binds X.K fd ps ds) (hd:aw dvs ds) (hx:gS CX X E)
  (ha:PA X (e::es) t) (hdb:(x == ("__debug__":Str))=false:=by decide) (he:starEach (e::es) X.env=(false,eval e X.env)::starEach es X.env:=by rfl) (hpl:(backTo pos (starEach es X.env)).any (·.1)=false:=by rfl) :
  PE X (.Call (.Name x p) (e::es) [] pos) (wF C sp dvs E t):=by
 intro pins s σ H Q I h
 refine wpAny_Call_Name_kw (iF I hg hm ?_ hdb)
 refine PySem.W.callWith_K (h₀:=X.base) I.ok.mod.kin M.kp (ay (ha pos pins s σ H _ I h) fun us s1 ⟨vs,H1,I1,r,q⟩=>⟨I1.kIn,?_⟩) he hpl
 exact wG M F hr hb hd hx I1 r q
end
noncomputable def PK (X:Cx) (kws:List Keyword) (t:TA):Prop :=
 ∀ (pos:Pos) (pins:List (Addr × Obj)) (s:Shared) (σ:St) (H:Hp) (Q:List V->Hp->Prop),Inv X pins σ H s->t σ H Q->wpAny (model X.prog X.w) X.A (evalAll ((backToKw pos (keywordEach kws X.env)).map (·.2))) (AP X pins σ Q) X.xe s
section
variable {X:Cx} {CX:dv} {k:Nat} {f C:Addr} {fd:FuncData} {ps ks:List Str} {sp:Sp} {E:XK} {x m:Str} {p pos apos kpos:Pos} {e o:Expr} {es:List Expr} {kws:List Keyword} {te ta:TE} {t tk:TA} {nm:Option Str}
theorem wI:PK X [] iT:=fun _ _ _ _ H Q I h=>wpAny_evalAll_nil ⟨[],H,I,.nil,h⟩
theorem wJ (ha:PE X e te) (hr:PK X kws t):PK X (⟨nm,e,kpos⟩::kws) (gh te t):=by
 intro pos pins s σ H Q I h
 show wpAny _ _ (evalAll ((do let v <- eval e X.env;standAt pos;pure v)::(backToKw pos (keywordEach kws X.env)).map (·.2))) _ _ s
 refine wpAny_evalAll_cons (Qa (ay (ha pins s σ H _ I h) fun u s1 ⟨x,H1,I1,r1,q1⟩=>Qa (wpAny_standAt (Qd ?_))))
 exact ay (hr pos pins s1 σ H1 _ I1 q1) fun us s2 hsl32=>by obtain ⟨xs,H2,I2,r2,q2⟩:=hsl32;exact ⟨x::xs,H2,I2,.cons r1 r2,q2⟩
variable {g:List Value->List Value->List Value} {gV:List V->List V->List V}
end
structure ba (N P:List Str) (sc:Scope):Prop where
 kind:sc.kind=.function
 co:sc.isCoroutine=false
 gen:sc.isGenerator=false
 nd:N.Nodup
 pre:N.take P.length=P
 par:∀ x∈P,sc.names.lookup x=some .local∨sc.names.lookup x=some .cell
 nofree:∀ y∈sc.names,y.2≠.free
theorem pB {kindOf:Str->Option NameKind} {x:Str}:∀ {binds:List (Str × Value)} {m:Str->Option Value},(∀ v,(x,v)∉binds)->bindL kindOf binds m x=m x
 | [],_,_=>rfl
 | (n,v)::r,m,h=>by
  unfold bindL
  rw [pB fun w hw=>h w (Qz _ hw)]
  split
  ·have:x≠n:=by rintro rfl;exact h v QC
   simp [this]
  ·rfl
theorem pE {kindOf:Str->Option NameKind} {x:Str}:∀ {binds:List (Str × Value)} {m:Str->Option Value},(∀ v,(x,v)∉binds)->bindC kindOf binds m x=m x
 | [],_,_=>rfl
 | (n,v)::r,m,h=>by
  unfold bindC
  rw [pE fun w hw=>h w (Qz _ hw)]
  split
  ·rfl
  ·have:x≠n:=by rintro rfl;exact h v QC
   simp [this]
theorem pF {kindOf:Str->Option NameKind} {x:Str} {v:Value}:∀ {P:List Str} {vs:List Value} {i:Nat} {m:Str->Option Value},P.Nodup->P[i]?=some x->vs[i]?=some v->kindOf x=some .local ->
  bindL kindOf (P.zip vs) m x=some v
 | [],_,_,_,_,h,_,_=>by simp at h
 | _::_,[],_,_,_,_,h,_=>by simp at h
 | p::P,w::vs,0,m,nd,h1,h2,hk=>by
  simp at h1 h2;subst h1;subst h2
  show bindL kindOf ((p,w)::P.zip vs) m p=_
  unfold bindL
  rw [pB fun v hv=>(List.nodup_cons.mp nd).1 (List.of_mem_zip hv).1,if_pos hk]
  simp
 | p::P,w::vs,i+1,m,nd,h1,h2,hk=>by
  show bindL kindOf ((p,w)::P.zip vs) m x=_
  unfold bindL
  exact pF (i:=i) (List.nodup_cons.mp nd).2 (by simpa using h1) (by simpa using h2) hk
theorem pG {kindOf:Str->Option NameKind} {x:Str} {v:Value}:∀ {P:List Str} {vs:List Value} {i:Nat} {m:Str->Option Value},P.Nodup->P[i]?=some x->vs[i]?=some v->kindOf x≠some .local ->
  bindC kindOf (P.zip vs) m x=some v
 | [],_,_,_,_,h,_,_=>by simp at h
 | _::_,[],_,_,_,_,h,_=>by simp at h
 | p::P,w::vs,0,m,nd,h1,h2,hk=>by
  simp at h1 h2;subst h1;subst h2
  show bindC kindOf ((p,w)::P.zip vs) m p=_
  unfold bindC
  rw [pE fun v hv=>(List.nodup_cons.mp nd).1 (List.of_mem_zip hv).1,if_neg hk]
  simp
 | p::P,w::vs,i+1,m,nd,h1,h2,hk=>by
  show bindC kindOf ((p,w)::P.zip vs) m x=_
  unfold bindC
  exact pG (i:=i) (List.nodup_cons.mp nd).2 (by simpa using h1) (by simpa using h2) hk
noncomputable def start (N:List Str) (vs:List V):St:=vs.map some++List.replicate (N.length-vs.length) none
noncomputable def gT (CX:dv) (P:Program) (w:World) (K:PySem.W.Frag) (mg:Str->Option Value) (base:Heap) (N:List Str) (qual:Str) (scope:Scope) (f:Addr) (cd:Value) (A:Around) (outer:List Env) (s:Shared) (H:Hp) (E:XK):Cx where
 prog:=P
 w:=w
 K:=K
 mg:=mg
 base:=base
 A:=A.deeper (envOfC qual scope s.heap.objs.size f cd)
 N:=N
 s₀:=s
 H₀:=H
 env:=envOfC qual scope s.heap.objs.size f cd
 outer:=outer
 stack:=envOfC qual scope s.heap.objs.size f cd::outer
 ex:=[]
 calm:=true
 fn:=fun _=>true
 pn:=[]
 xe:=fun e s'=>wpAny (model P w) (A.deeper (envOfC qual scope s.heap.objs.size f cd)) (leaving (envOfC qual scope s.heap.objs.size f cd) e) (fun _ s''=>CX outer H s E e s'') (fun e' s''=>CX outer H s E e' s'') s'
theorem pH {sc:Scope} {n:Nat} {x:Str} (h:sc.names.lookup x=some .cell):∃ c,(cellsFrom n sc.names []).lookup x=some c:=by
 have q:=PySem.W.cellsFrom_some sc.names n [] (.inl h)
 exact Option.isSome_iff_exists.mp q
theorem wK {CX:dv} {P:Program} {w:World} {K:PySem.W.Frag} {mg:Str->Option Value} {base:Heap} {N ps:List Str} {qual:Str} {scope:Scope} {f:Addr} {cd:Value} {A:Around} {outer:List Env} {s s1:Shared} {H:Hp} {E:XK} {us:List Value} {vs:List V}
  (S:ba N ps scope) (hd:A.handled=none) (e0:dX P w K mg base A outer s H) (hl:vs.length=ps.length) (r:aw vs us)
  (x:InCallC s s.heap.objs.size (bindL (envOfC qual scope s.heap.objs.size f cd).kindOf (ps.zip us) fun _=>none) (cellsFrom (s.heap.objs.size+1) scope.names []) (bindC (envOfC qual scope s.heap.objs.size f cd).kindOf (ps.zip us) fun _=>none) s1) :
  Inv (gT CX P w K mg base N qual scope f cd A outer s H E) [] (start N vs) H s1:=by
 have hpl:ps.length<=N.length:=by have:=congrArg List.length S.pre;rw [Qx] at this;omega
 obtain ⟨h1,tk,rfl,hk⟩:=x.done
 have noA:∀ b:Addr,b∉(gT CX P w K mg base N qual scope f cd A outer s H E).ex:=fun b z=>absurd (show b∈([]:List Addr) from z) (by simp)
 refine ⟨⟨e0.mod,S.kind,rfl,rfl,Qh _,fun y z c h1 h2=>?_,fun y hy=>?_,fun y c _ h=>?_,fun _=>hd,Around.frames_deeper e0.frames,.inr ⟨rfl,rfl⟩,fun b z=>absurd z (noA b),e0.bs,e0.bsz,fun b _ _=>noA b,fun b z=>absurd z (noA b),e0.funs,e0.frf⟩,
  rfl,e0.bare,Un.kept hk,⟨_,x.toInCall.ns,fun i y v h1 h2 h3=>?_⟩,fun y c h=>⟨_,x.cell y c h⟩,e0.hok.fresh (Qh _),fun y c h=>?_,fun p hp=>absurd (show p∈([]:List (Addr × Obj)) from hp) (by simp),e0.hok.kept hk,?_⟩
 ·exact name_of_addr x.apart (PySem.mem_of_lookup h1) (PySem.mem_of_lookup h2)
 ·have hy:scope.names.lookup y=some .cell∨scope.names.lookup y=some .free:=hy
  rcases hy with hy | hy
  ·exact pH hy
  ·exact absurd rfl (S.nofree _ (PySem.mem_of_lookup hy))
 ·exact Nat.le_of_lt (x.above y c (PySem.mem_of_lookup h))
 ·have hi:i<vs.length:=by
   unfold start at h2
   by_cases hi:i<vs.length
   ·exact hi
   ·rw [Qq (by simpa using hi)] at h2
    rw [List.getElem?_replicate] at h2
    split at h2<;>cases h2
  have ha:vs[i]?=some v:=by
   unfold start at h2
   rw [Qw (by simpa using hi),Qk] at h2
   cases e:vs[i]? with
   | none=>rw [e] at h2;cases h2
   | some a=>rw [e] at h2;cases h2;rfl
  obtain ⟨u,hu,rv⟩:=r.get ha
  have hp:ps[i]?=some y:=by
   rw [<- S.pre,List.getElem?_take_of_lt (by omega)];exact h1
  have ndP:ps.Nodup:=by rw [<- S.pre];exact S.nd.sublist (List.take_sublist _ _)
  refine ⟨u,rv,?_⟩
  rcases S.par y (QD hp) with k | k
  ·exact .inl ⟨k,pF ndP hp hu k⟩
  ·obtain ⟨c,e⟩:=pH (n:=s.heap.objs.size+1) k
   refine .inr ⟨.inl k,c,e,?_⟩
   have q:=x.cell y c e
   rw [pG ndP hp hu (by show scope.names.lookup y≠_;rw [k];decide)] at q
   exact q
 ·exact e0.hok.fresh (Nat.le_of_lt (x.above y c (PySem.mem_of_lookup h)))
 ·unfold start
  show _=N.length
  rw [Qv,Qf,List.length_replicate]
  omega
theorem wL {CX:dv} {P:Program} {w:World} {K:PySem.W.Frag} {mg:Str->Option Value} {base:Heap} {k:Nat} {f:Addr} {name qual:Str} {params:Arguments} {body:List Stmt} {scope:Scope} {dV kV doc pm cdv ct oc:Value} {an od:Option Addr}
  {osl:Array (Option Value)} {N ps:List Str} {sp:Sp} (lk:K.lookup f=some ⟨oc,od,.func (PySem.W.fnOf name qual params body scope dV kV doc pm an cdv ct),osl⟩) (hcd:PySem.W.codeIn K cdv qual=true) (S:ba N ps scope)
  (len:∀ vs H Q E,sp vs H Q E->vs.length=ps.length)
  (hbody:∀ (A:Around) (outer:List Env) (s:Shared) (H:Hp) (vs:List V) (Q:VK) (E:XK),aA k (A.deeper (envOfC qual scope s.heap.objs.size f cdv))->sp vs H Q E ->
   ∃ t,dU (gT CX P w K mg base N qual scope f cdv A outer s H E) body t/\t { nx:=fun _ H'=>Q .non H',rt:=Q } (start N vs) H) :
  aE P w K mg base CX (k+1) f (PySem.W.fnOf name qual params body scope dV kV doc pm an cdv ct) ps sp:=by
 refine ⟨len,fun A outer s H args us vs Q E hr e0 hb r hsp=>?_⟩
 have hl:=len _ _ _ _ hsp
 have KX:K.In s.heap:=e0.mod.kin.keeps fun b o e=>(e0.bs b o e).1
 have lim:s.heap.NoLimit:=e0.mod.nolimit.keeps fun b o e=>(e0.bs b o e).1
 have hkind:∀ y∈ps.zip us,scope.names.lookup y.1=some .local∨(scope.names.lookup y.1=some .cell/\((cellsFrom (s.heap.objs.size+1) scope.names []).lookup y.1).isSome=true):=fun ⟨n,v⟩ hy=>by
  rcases S.par n (List.of_mem_zip hy).1 with q | q
  ·exact .inl q
  ·exact .inr ⟨q,PySem.W.cellsFrom_some _ _ _ (.inl q)⟩
 refine codeAny_call_function hr.depth (KX _ _ lk) rfl S.co S.gen rfl (PySem.W.codeRec_of KX hcd) (hb _ _ _ _ ?_)
 refine wpAny_newFunctionEnv_cells S.kind hkind fun env he s1 x=>?_
 subst he
 refine ⟨lim.keeps x.toInCall.keep,codeAny_func ?_⟩
 obtain ⟨t,ht,hq⟩:=hbody A outer s H vs Q E (hr.deeper _) hsp
 have I:Inv (gT CX P w K mg base N qual scope f cdv A outer s H E) [] (start N vs) H s1:=wK S hr.hd e0 hl r x
 refine QL (ht [] s1 (start N vs) H _ I hq) (fun fl s' hs=>?_) fun e s' hs=>hs
 have fin:∀ {σ':St} {H':Hp} {v:V} {u:Value},Inv (gT CX P w K mg base N qual scope f cdv A outer s H E) [] σ' H' s'->RelV v u->Q v H'->CE outer P w H s Q u s' :=
  fun {σ' H' v u} J rv q=>⟨v,H',J.os,J.bare,J.base,J.hok,rv,q⟩
 cases fl with
 | ret u =>
  obtain ⟨v,σ',H',J,rv,q⟩:=hs
  exact fin J rv q
 | next =>
  obtain ⟨σ',H',J,q⟩:=hs
  exact fin (v:=V.non) (u:=Value.none) J rfl q
 | brk =>
  obtain ⟨_,_,_,q⟩:=hs
  exact False.elim q
 | cont =>
  obtain ⟨_,_,_,q⟩:=hs
  exact False.elim q
end L2
namespace L2
open PySem PySem.Spec PyProof.Rows
section
variable {X:Cx} {x:Str} {p pos:Pos} {e:Expr} {es:List Expr} {t:TA} {id T:String} {r:List V->Hp->VK->Prop}
noncomputable def pI (r:List V->Hp->VK->Prop) (t:TA):TE:=fun σ H Q=>t σ H fun vs H1=>r vs H1 Q
theorem dY (hc:c9 X (.builtin id) r) (hg:Gl X x) (hm:X.mg x=none) (hv:bootBuiltins x=some (.builtin id)) (ha:PA X (e::es) t) (hn:x≠"__name__":=by decide) (hdb:(x == ("__debug__":Str))=false:=by decide)
  (he:starEach (e::es) X.env=(false,eval e X.env)::starEach es X.env:=by rfl) (hpl:(backTo pos (starEach es X.env)).any (·.1)=false:=by rfl):PE X (.Call (.Name x p) (e::es) [] pos) (pI r t):=by
 intro pins s σ H Q I h
 refine wpAny_Call_Name_kw (f8 I hg hm hv ?_ hn hdb)
 exact PyProof.Rows.callWith_builtin1 (ay (ha pos pins s σ H _ I h) fun us s1 hsl33=>by obtain ⟨vs,H1,I1,r1,q1⟩:=hsl33;exact hc pins s1 σ H1 vs us Q I1 r1 q1) he hpl
theorem eY (hc:c9 X (.type T) r) (hg:Gl X x) (hm:X.mg x=none) (hv:bootBuiltins x=some (.type T)) (ha:PA X (e::es) t) (hn:x≠"__name__":=by decide) (hdb:(x == ("__debug__":Str))=false:=by decide)
  (he:starEach (e::es) X.env=(false,eval e X.env)::starEach es X.env:=by rfl) (hpl:(backTo pos (starEach es X.env)).any (·.1)=false:=by rfl):PE X (.Call (.Name x p) (e::es) [] pos) (pI r t):=by
 intro pins s σ H Q I h
 refine wpAny_Call_Name_kw (f8 I hg hm hv ?_ hn hdb)
 exact PyProof.Rows.callWith_type1 (ay (ha pos pins s σ H _ I h) fun us s1 hsl34=>by obtain ⟨vs,H1,I1,r1,q1⟩:=hsl34;exact hc pins s1 σ H1 vs us Q I1 r1 q1) he hpl
end
end L2
namespace HT
open PySem PyProof.Rows
section
open PySem.SeqAt
open PySem.AutoSeq1 (wpAny_loadPart')
open PySem.MeetsSeq PySem.MeetsSeq2 PySem.MeetsSeq3
end
section
variable {prog:Program} {w:World} {A:Around} {E:Value->Shared->Prop} {s:Shared}
theorem cat_tup {t b:Addr} {vs ws:List Value} {Q:Value->Shared->Prop} (ht:IsTup s.heap t vs.toArray) (hb:IsTup s.heap b ws.toArray) (hv:vs≠[])
  (h1:ws=[]->Q (.ref t) s) (h2:ws≠[]->Q (.ref s.heap.objs.size) { s with heap:=s.heap.push { cls:=.type "tuple",data:=.seq (vs++ws).toArray } })
  (hsz:vs.length+ws.length<=sizeLine):wpAny (model prog w) A (binaryOp .Add (.ref t) (.ref b)) Q E s:=by
 obtain ⟨⟨cls,dd,data,sl⟩,ho,hc,n,hd⟩:=id ht
 obtain ⟨⟨cls2,dd2,data2,sl2⟩,ho2,hc2,n2,hd2⟩:=id hb
 simp only at hc hd hc2 hd2
 subst hc hd hc2 hd2
 have e:vs.toArray++ws.toArray=(vs++ws).toArray:=by simp
 by_cases hw:ws=[]
 ·exact concat_meets ⟨_,ho,rfl⟩ ⟨_,ho2,rfl⟩ noFill_tuple_add seq_tuple_add PySem.F.slot_tuple_add PySem.F.entry_tuple_add (PySem.F.args_tuple_add_2 _ _)
   (tuple_addW1 t b vs.toArray ws.toArray n n2 dd dd2 sl sl2 (by simpa using hv) (by simp [hw])) ⟨ho,ho2,h1 hw⟩
 ·refine concat_meets ⟨_,ho,rfl⟩ ⟨_,ho2,rfl⟩ noFill_tuple_add seq_tuple_add PySem.F.slot_tuple_add PySem.F.entry_tuple_add (PySem.F.args_tuple_add_2 _ _)
   (tuple_addW2 t b vs.toArray ws.toArray n n2 dd dd2 sl sl2 (by simpa using hv) (by simpa using hw) (by rw [Ql,Ql];exact hsz)) ⟨ho,ho2,?_⟩
  rw [e]
  exact h2 hw
noncomputable def sIx (n d:Nat):Option Int->Nat
 | none=>d
 | some v=>if v<0 then (v+(n:Int)).toNat else min v.toNat n
theorem sIx_le (n d:Nat) (hd:d<=n) (o:Option Int):sIx n d o<=n:=by
 cases o with
 | none=>exact hd
 | some v =>
  show (if v<0 then (v+(n:Int)).toNat else min v.toNat n)<=n
  by_cases hv:v<0
  ·rw [if_pos hv];omega
  ·rw [if_neg hv];exact Nat.min_le_right _ _
theorem pJ (v:Int) (n d:Nat):(if v<0 then max (v+(n:Int)) 0 else min v (n:Int))=((sIx n d (some v):Nat):Int):=by
 show (if v<0 then max (v+(n:Int)) 0 else min v (n:Int))=(((if v<0 then (v+(n:Int)).toNat else min v.toNat n):Nat):Int)
 by_cases hv:v<0
 ·simp only [if_pos hv];omega
 ·simp only [if_neg hv];omega
theorem wM (lo hi:Option Int) (n:Nat):Builtin.Slice.sliceAdjust lo hi 1 (n:Int)=(((sIx n 0 lo:Nat):Int),((sIx n n hi:Nat):Int)):=by
 have h1:¬ ((1:Int)<0):=by omega
 unfold Builtin.Slice.sliceAdjust
 simp only [h1,if_false]
 refine Prod.ext ?_ ?_
 ·cases lo with
  | none=>rfl
  | some v=>exact pJ v n 0
 ·cases hi with
  | none=>rfl
  | some v=>exact pJ v n n
theorem wN (i j:Nat):Builtin.Slice.slicePlaces (i:Int) (j:Int) 1=j-i:=by
 unfold Builtin.Slice.slicePlaces
 have h1:(1:Int)>0:=by omega
 simp only [h1,if_true,Int.ediv_one]
 split<;>omega
theorem pL {v:Value} {o:Option Int} {Q:Option Int->Shared->Prop} (p:IsPart v o) (h:Q o s):wpAny (model prog w) A (Builtin.Slice.slicePartIndex v) Q E s:=by
 cases p with
 | none=>exact slicePart_none h
 | int i t=>exact slicePart_int h
theorem wO {sl:Addr} {vl vu:Value} {lo hi:Option Int} {n:Nat} {Q:Int × Int × Nat->Shared->Prop} (hs:s.heap.IsSliceOf sl vl vu .none) (pl:IsPart vl lo) (pu:IsPart vu hi)
  (h:Q (((sIx n 0 lo:Nat):Int),1,sIx n n hi-sIx n 0 lo) s):wpAny (model prog w) A (Builtin.Slice.sliceApplied (.ref sl) (pure (n:Int))) Q E s:=by
 obtain ⟨os,hos,hcs,hds⟩:=id hs
 unfold Builtin.Slice.sliceApplied Builtin.Slice.sliceFields
 refine Qa (Qa (wpAny_field hos hds (x:=vl) rfl (Qa (wpAny_field hos hds (x:=vu) rfl (Qa (wpAny_field hos hds (x:=.none) rfl (Qd ?_)))))))
 refine Qa (slicePart_none ?_)
 show wpAny _ _ (if ((1:Int) == 0)=true then _ else _) _ _ s
 rw [if_neg (by decide)]
 refine Qa (pL pl (Qa (pL pu (Qa (Qd ?_)))))
 show wpAny _ _ (match Builtin.Slice.sliceAdjust lo hi 1 (n:Int) with | (lo,hi)=>pure (lo,(1:Int),Builtin.Slice.slicePlaces lo hi 1)) _ _ s
 rw [wM lo hi n]
 show wpAny _ _ (pure (((sIx n 0 lo:Nat):Int),(1:Int),Builtin.Slice.slicePlaces ((sIx n 0 lo:Nat):Int) ((sIx n n hi:Nat):Int) 1)) _ _ s
 rw [wN]
 exact Qd h
theorem wP (xs:Array Value) (i k:Nat):((List.range k).filterMap fun (m:Nat)=>xs[((i:Int)+(m:Int)*1).toNat]?).toArray=((xs.toList.drop i).take k).toArray:=by
 have e:(fun (m:Nat)=>xs[((i:Int)+(m:Int)*1).toNat]?)=fun m=>xs[i+m]?:=by
  funext m
  have:((i:Int)+(m:Int)*1).toNat=i+m:=by omega
  rw [this]
 rw [e]
 have:=pick_run xs i k
 rw [List.filterMap_map] at this
 have e2:((fun x=>xs[x]?)∘fun x=>i+x)=fun m=>xs[i+m]?:=rfl
 rw [e2] at this
 rw [this]
theorem getItem_tuple_cut {t sl:Addr} {items:Array Value} {vl vu:Value} {lo hi:Option Int} {Q:Value->Shared->Prop} (ht:IsTup s.heap t items) (hs:s.heap.IsSliceOf sl vl vu .none) (pl:IsPart vl lo) (pu:IsPart vu hi)
  (hw:¬ (sIx items.size 0 lo=0/\sIx items.size items.size hi=items.size))
  (h:Q (.ref s.heap.objs.size) { s with heap:=s.heap.push { cls:=.type "tuple",data:=.seq ((items.toList.drop (sIx items.size 0 lo)).take (sIx items.size items.size hi-sIx items.size 0 lo)).toArray } })
  (hsz:items.size<=sizeLine):wpAny (model prog w) A (getItem (.ref t) (.ref sl)) Q E s:=by
 have htake:sizeOk (.seq ((items.toList.drop (sIx items.size 0 lo)).take (sIx items.size items.size hi-sIx items.size 0 lo)).toArray):=by
  show ((items.toList.drop (sIx items.size 0 lo)).take (sIx items.size items.size hi-sIx items.size 0 lo)).toArray.size<=sizeLine
  rw [Ql,Qx,List.length_drop,QG]
  omega
 have hj:sIx items.size items.size hi<=items.size:=sIx_le _ _ (Qh _) hi
 obtain ⟨os,hos,hcs,hds⟩:=id hs
 have hTs:s.TypeIs (.ref sl) "slice":=⟨os,hos,hcs⟩
 unfold getItem
 try with_reducible refine wpAny_holding ?_
 first | refine Qa (Qd ?_) | skip
 refine Qa (wpAny_sequenceKey ht.typeIs (by decide) ?_)
 refine Qa (wpAny_callSpecial?_slot (name:=Str.ofString "__getitem__") ht.typeIs PyProof.Rows.slot_tuple_getitem
  (wpAny_call_entry PyProof.Rows.slot_tuple_getitem ht.typeIs entry_tuple_getitem ?_ (args_tuple_getitem _ _)))
 show wpAny _ _ (Builtin.Tuple.tupleItemsOf (.ref t) >>= _) _ _ s
 refine Qa (tupleItemsOf_ ht ?_)
 refine Qa (wpAny_typeOf hTs ?_)
 rw [if_pos (by decide)]
 refine Qa (wO hs pl pu ?_)
 have hno:¬ ((((sIx items.size 0 lo:Nat):Int) == 0&&(1:Int) == 1&&(sIx items.size items.size hi-sIx items.size 0 lo) == items.size)=true):=by
  intro q
  rw [Bool.and_eq_true,Bool.and_eq_true] at q
  have q1:((sIx items.size 0 lo:Nat):Int)=0:=eq_of_beq q.1.1
  have q2:sIx items.size items.size hi-sIx items.size 0 lo=items.size:=eq_of_beq q.2
  exact hw ⟨by omega,by omega⟩
 show wpAny _ _ (if (((sIx items.size 0 lo:Nat):Int) == 0&&(1:Int) == 1&&(sIx items.size items.size hi-sIx items.size 0 lo) == items.size)=true then _ else _) _ _ s
 rw [if_neg hno,wP]
 first
  | exact Qa (m:=Builtin.Tuple.tupleExact _) (wpAny_newObj_type (Qd ⟨_,rfl,Qd h⟩) htake)
  | exact Qa (m:=Builtin.Tuple.tupleExact _) (wpAny_newObj_type (Qa (Qd (Qd ⟨_,rfl,Qd h⟩))) htake)
  | exact Qa (Qa (m:=Builtin.Tuple.tupleExact _) (wpAny_newObj_type (Qd (Qd ⟨_,rfl,Qd h⟩)) htake))
  | exact Qa (Qa (m:=Builtin.Tuple.tupleExact _) (wpAny_newObj_type (Qd ⟨_,rfl,Qd h⟩) htake))
end
end HT
namespace L2
open PySem PySem.Spec PyProof.Rows
noncomputable abbrev TO:=St->Hp->(Option Int->Hp->Prop)->Prop
noncomputable def PO (X:Cx) (e:Option Expr) (t:TO):Prop :=
 ∀ (pins:List (Addr × Obj)) (s:Shared) (σ:St) (H:Hp) (Q:Option Int->Hp->Prop),Inv X pins σ H s->t σ H Q ->
  wpAny (model X.prog X.w) X.A (evalPart e X.env) (fun u s'=>∃ o H',Inv X pins σ H' s'/\IsPart u o/\Q o H') X.xe s
noncomputable def wR:TO:=fun _ H Q=>Q none H
noncomputable def wS (t:TE):TO:=fun σ H Q=>t σ H fun x H1=>∃ i,x=.int i/\Q (some i) H1
section
variable {X:Cx} {e:Expr} {te:TE} {lo hi:Option Expr} {tl th:TO} {pos p2:Pos}
theorem lY:PO X none wR:=by
 intro pins s σ H Q I h
 rw [evalPart_none]
 exact Qd ⟨none,H,I,.none,h⟩
theorem iU (h:PE X e te):PO X (some e) (wS te):=by
 intro pins s σ H Q I hw
 rw [evalPart_some]
 refine ay (h pins s σ H _ I hw) fun u s1 hsl35=>?_
 obtain ⟨x,H1,I1,r1,q1⟩:=hsl35
 obtain ⟨i,rfl,q⟩:=q1
 obtain ⟨t,rfl⟩:=r1
 exact ⟨some i,H1,I1,.int i t,q⟩
noncomputable def jU (X:Cx) (r:V->Option Int->Option Int->Hp->VK->Prop):Prop :=
 ∀ (pins:List (Addr × Obj)) (s:Shared) (σ:St) (H:Hp) (x:V) (v vl vu:Value) (lo hi:Option Int) (sl:Addr) (Q:VK),Inv X pins σ H s->RelV x v->s.heap.IsSliceOf sl vl vu .none->IsPart vl lo->IsPart vu hi->r x lo hi H Q ->
  ∃ T id,typeLookup (.type T) "__getitem__"=pure (some (.builtin id))/\s.TypeIs v T/\wpAny (model X.prog X.w) X.A (getItem v (.ref sl)) (EP X pins σ Q) X.xe s
noncomputable def wT (r:V->Option Int->Option Int->Hp->VK->Prop) (te:TE) (tl th:TO):TE:=fun σ H Q=>te σ H fun x H1=>tl σ H1 fun l H2=>th σ H2 fun u H3=>r x l u H3 Q
theorem jV {r:V->Option Int->Option Int->Hp->VK->Prop} (hr:jU X r) (he:PE X e te) (hl:PO X lo tl) (hu:PO X hi th):PE X (.Subscript e (.Slice lo hi none p2) pos) (wT r te tl th):=by
 intro pins s σ H Q I h
 refine Subscript_ (ay (he pins s σ H _ I h) fun v s1 hsl36=>?_)
 obtain ⟨x,H1,I1,r1,q1⟩:=hsl36
 refine wpAny_Slice (ay (hl pins s1 σ H1 _ I1 q1) fun vl s2 ⟨l,H2,I2,pl,q2⟩=>ay (hu pins s2 σ H2 _ I2 q2) fun vu s3 hsl37=>?_)
 obtain ⟨u,H3,I3,pu,q3⟩:=hsl37
 rw [evalPart_none]
 refine Qd ?_
 have I4:Inv X pins σ H3 { s3 with heap:=s3.heap.push { cls:=.type "slice",data:=.fields #[vl,vu,.none] } }:=I3.kept (t':=s3.toks) fun b ob q=>Qe _ q
 obtain ⟨T,id,hT,ht,hg⟩:=hr pins { s3 with heap:=s3.heap.push { cls:=.type "slice",data:=.fields #[vl,vu,.none] } } σ H3 x v vl vu l u s3.heap.objs.size Q I4 r1 (Heap.IsSliceOf.new ..) pl pu q3
 show wpAny (model X.prog X.w) X.A (subscriptTail e (.Slice lo hi none p2) v (.ref s3.heap.objs.size)) (EP X pins σ Q) X.xe { s3 with heap:=s3.heap.push { cls:=.type "slice",data:=.fields #[vl,vu,.none] } }
 exact tail_any (ops:=[.ref s3.heap.objs.size,v]) ht hT hg (by with_unfolding_all rfl)
noncomputable def eK (xs:List V) (lo hi:Option Int):List V:=(xs.drop (HT.sIx xs.length 0 lo)).take (HT.sIx xs.length xs.length hi-HT.sIx xs.length 0 lo)
theorem pM (xs:List V) (lo hi:Option Int):(eK xs lo hi).length<=xs.length:=by
 unfold eK
 rw [Qx,List.length_drop]
 omega
noncomputable def wU (K:PySem.W.Frag):V->Option Int->Option Int->Hp->VK->Prop:=fun x lo hi H Q=>∃ a xs,x=.ref a/\ah K H a xs /\
 ¬ (HT.sIx xs.length 0 lo=0/\HT.sIx xs.length xs.length hi=xs.length)/\∀ p,H p=none->Q (.ref p) (af H p (.tup (eK xs lo hi)))
theorem wV:jU X (wU X.K):=by
 intro pins s σ H x v vl vu lo hi sl Q I rx hs pl pu h
 obtain ⟨a,xs,rfl,hx,hw,q⟩:=h
 cases rx
 obtain ⟨its,r,ht,hz⟩:=I.tuple hx
 have hlen:its.toArray.size=xs.length:=by rw [Ql];exact r.length.symm
 refine ⟨"tuple",_,PyProof.Rows.slot_tuple_getitem.lookup,ht.typeIs,?_⟩
 refine HT.getItem_tuple_cut ht hs pl pu (by rw [hlen];exact hw) ?_ (by rw [hlen];exact hz)
 rw [hlen]
 refine ⟨.ref s.heap.objs.size,_,I.laid (t':=s.toks) (o:=.tup (eK xs lo hi)) (fun b ob q=>Qe _ q) (Qh _) ?_,rfl,q _ (I.hok.fresh (Qh _))⟩
 exact ⟨QH (pM xs lo hi) hz,_,(r.drop (HT.sIx xs.length 0 lo)).take (HT.sIx xs.length xs.length hi-HT.sIx xs.length 0 lo),IsTup.new _ _,gN.new _ _⟩
noncomputable def pN (K:PySem.W.Frag):R2:=fun x y H Q=>∃ a b xs ys,x=.ref a/\y=.ref b/\ah K H a xs/\ah K H b ys/\xs≠[]/\xs.length+ys.length<=sizeLine /\
 (ys=[]->Q (.ref a) H)/\(ys≠[]->∀ p,H p=none->Q (.ref p) (af H p (.tup (xs++ys))))
theorem aw.nil_iff {xs:List V} {us:List Value} (r:aw xs us):us=[]↔xs=[]:=by
 cases r with
 | nil=>simp
 | cons _ _=>simp
theorem wW:bL X (binaryOp .Add) (pN X.K):=by
 intro pins s σ H x y v u Q I rx ry h
 obtain ⟨a,b,xs,ys,rfl,rfl,ha,hb,hx,hz,q1,q2⟩:=h
 cases rx
 cases ry
 obtain ⟨its,r1,p1,_⟩:=I.tuple ha
 obtain ⟨its2,r2,p2,_⟩:=I.tuple hb
 refine HT.cat_tup p1 p2 (fun z=>hx (r1.nil_iff.mp z)) (fun z=>⟨.ref a,H,I,rfl,q1 (r2.nil_iff.mp z)⟩) (fun z=>?_) (by rw [<- r1.length,<- r2.length];exact hz)
 refine ⟨.ref s.heap.objs.size,_,I.laid (t':=s.toks) (o:=.tup (xs++ys)) (fun b ob q=>Qe _ q) (Qh _) ?_,rfl,q2 (fun w=>z (r2.nil_iff.mpr w)) _ (I.hok.fresh (Qh _))⟩
 exact ⟨by rw [Qv];exact hz,_,r1.append r2,IsTup.new _ _,gN.new _ _⟩
end
end L2
namespace L2
open PySem PySem.Spec PyProof.Rows
noncomputable def gU (n:Nat) (i:Int):Option Nat:=if 0<=i then (if i<n then some i.toNat else none) else if -(n:Int)<=i then some (i+n).toNat else none
noncomputable def dG {α:Type} (xs:List α) (i:Int):Option α:=(gU xs.length i).bind fun j=>xs[j]?
theorem wX {n:Nat} {i:Int} {j:Nat} (h:gU n i=some j):seqIndex? i n=some j/\j<n/\-(n:Int)<=i/\i<n:=by
 unfold gU at h
 by_cases h0:0<=i
 ·rw [if_pos h0] at h
  by_cases h1:i<n
  ·rw [if_pos h1] at h
   have e:i.toNat=j:=Qo h
   exact ⟨by rw [seqIndex_of h0 h1,e],by omega,by omega,h1⟩
  ·rw [if_neg h1] at h;cases h
 ·rw [if_neg h0] at h
  by_cases h1:-(n:Int)<=i
  ·rw [if_pos h1] at h
   have e:(i+n).toNat=j:=Qo h
   exact ⟨by rw [seqIndex_neg (by omega) h1,e],by omega,h1,by omega⟩
  ·rw [if_neg h1] at h;cases h
theorem lZ {α:Type} {xs:List α} {i:Int} {v:α} (h:dG xs i=some v):∃ j,seqIndex? i xs.length=some j/\xs[j]?=some v/\j<xs.length/\-(xs.length:Int)<=i/\i<xs.length:=by
 unfold dG at h
 cases e:gU xs.length i with
 | none=>rw [e] at h;cases h
 | some j =>
  rw [e] at h
  obtain ⟨h1,h2,h3,h4⟩:=wX e
  exact ⟨j,h1,h,h2,h3,h4⟩
theorem ap {α:Type} {xs:List α} {j:Nat} {v:α} (h:xs[j]?=some v):dG xs (j:Int)=some v:=by
 have hj:j<xs.length:=(Qc h).1
 have e:gU xs.length (j:Int)=some j:=by
  unfold gU
  rw [if_pos (by omega),if_pos (by omega)];simp
 unfold dG;rw [e];exact h
noncomputable def pO (b:Expr):Prop:=∀ o i,subscripted b false o i=operate [o,i] (getItem o i)
noncomputable def gW (X:Cx) (r:R2):Prop :=
 ∀ (value slice:Expr) (pins:List (Addr × Obj)) (s:Shared) (σ:St) (H:Hp) (x y:V) (v u:Value) (Q:VK),Inv X pins σ H s->RelV x v->RelV y u->r x y H Q ->
  subscripted slice false v u=operate [v,u] (getItem v u)->wpAny (model X.prog X.w) X.A (subscriptTail value slice v u) (EP X pins σ Q) X.xe s
noncomputable def md (X:Cx) (id:String) (r:V->List V->Hp->VK->Prop):Prop :=
 ∀ (pins:List (Addr × Obj)) (s:Shared) (σ:St) (H:Hp) (x:V) (xs:List V) (v:Value) (us:List Value) (Q:VK),Inv X pins σ H s->RelV x v->aw xs us->r x xs H Q ->
  wpAny (model X.prog X.w) X.A (call (.builtin id) (v::us)) (EP X pins σ Q) X.xe s
section
variable {X:Cx} {a b:Expr} {ta tb:TE} {pos:Pos}
theorem au {r:R2} (hr:gW X r) (ha:PE X a ta) (hb:PE X b tb) (hs:pO b):PE X (.Subscript a b pos) (iO r ta tb):=by
 intro pins s σ H Q I h
 exact Subscript_ (lS ha hb I h fun v u s2 x y H2 I2 rx ry q=>hr a b pins s2 σ H2 x y v u Q I2 rx ry q (hs _ _))
noncomputable def pP (K:PySem.W.Frag):R2:=fun x y H Q=>∃ p xs i v,x=.ref p/\y=.int i/\am K H p xs/\dG xs i=some v/\Q v H
noncomputable def pQ (K:PySem.W.Frag):R2:=fun x y H Q=>∃ p xs i v,x=.ref p/\y=.int i/\ah K H p xs/\dG xs i=some v/\Q v H
noncomputable def wY:R2:=fun x y H Q=>∃ z i c,x=.str z/\y=.int i/\z.length<=sizeLine/\dG z.cps.toList i=some c/\Q (.str ⟨#[c]⟩) H
theorem wZ:gW X (pP X.K):=by
 intro value slice pins s σ H x y v u Q I rx ry h hs
 obtain ⟨p,xs,i,z,rfl,rfl,hq,he,q⟩:=h
 cases rx
 obtain ⟨t,rfl⟩:=ry
 obtain ⟨its,r,pl,hz⟩:=I.list hq
 obtain ⟨j,h1,h2,h3,h4,h5⟩:=lZ he
 obtain ⟨w,ew,rw'⟩:=r.get h2
 have hl:=r.length
 have hn:=iS
 have fin:EP X pins σ Q w s:=⟨z,H,I,rw',q⟩
 by_cases h0:0<=i
 ·have hj:i.toNat=j:=by
   rw [seqIndex_of h0 h5] at h1
   exact Qo h1
  exact item_listR pl.isList h0 (by omega) (by rw [hj];simpa using ew) fin hs
 ·have hj:(i+(its.toArray.size:Int)).toNat=j:=by
   rw [seqIndex_neg (by omega) h4] at h1
   rw [Ql,<- hl]
   exact Qo h1
  exact subscriptTail_builtinR (x:=w) pl.isList.typeIs slot_list_getitem.lookup
   (wpAny_getItem_list_neg (Q:=fun r s'=>r=w/\EP X pins σ Q r s') pl.isList (by omega) (by rw [Ql]<;>omega) (by omega) (by rw [hj];simpa using ew) ⟨rfl,fin⟩) hs
theorem w4:gW X (pQ X.K):=by
 intro value slice pins s σ H x y v u Q I rx ry h hs
 obtain ⟨p,xs,i,z,rfl,rfl,hq,he,q⟩:=h
 cases rx
 obtain ⟨t,rfl⟩:=ry
 obtain ⟨its,r,pl,hz⟩:=I.tuple hq
 obtain ⟨j,h1,h2,h3,h4,h5⟩:=lZ he
 obtain ⟨w,ew,rw'⟩:=r.get h2
 have hl:=r.length
 have hn:=iS
 have fin:EP X pins σ Q w s:=⟨z,H,I,rw',q⟩
 exact subscriptTail_builtinR (x:=w) pl.typeIs slot_tuple_getitem.lookup
  (getItem_tuple (j:=j) (Q:=fun r s'=>r=w/\EP X pins σ Q r s') pl (by omega) (by omega) (by rw [Ql,<- hl];exact h1) (by simpa using ew) ⟨rfl,fin⟩) hs
theorem pR:gW X wY:=by
 intro value slice pins s σ H x y v u Q I rx ry h hs
 obtain ⟨z,i,c,rfl,rfl,hz,he,q⟩:=h
 obtain ⟨t,rfl⟩:=rx
 obtain ⟨t',rfl⟩:=ry
 obtain ⟨j,h1,h2,h3,h4,h5⟩:=lZ he
 have hl:z.cps.toList.length=z.length:=by simp [Str.length]
 rw [hl] at h1 h4 h5
 have hn:=iS
 exact tail_any (typeIs_str s z t) slot_str_getitem.lookup (getItem_str (c:=c) (by
  have e1:decide (i < -(2 ^ 63:Int))=false:=Qi (by omega)
  have e2:decide (i ≥ 2 ^ 63)=false:=Qi (by omega)
  rw [e1,e2,Bool.or_false]) (by rw [h1];simpa using h2) ⟨.str ⟨#[c]⟩,H,I.tok _,⟨_,rfl⟩,q⟩) hs
theorem w5 (lo hi:Option Int) (n:Nat):(sliceBounds lo hi none n).1=((HT.sIx n 0 lo:Nat):Int)/\(sliceBounds lo hi none n).2.1=((HT.sIx n n hi:Nat):Int)/\(sliceBounds lo hi none n).2.2=1:=by
 refine ⟨?_,?_,rfl⟩
 ·cases lo with
  | none=>simp [sliceBounds,HT.sIx]
  | some i =>
   simp only [sliceBounds,HT.sIx,Option.getD_none,show (1:Int)>0 by decide,if_true]
   by_cases h:i<0
   ·simp only [h,if_true]<;>omega
   ·simp only [h,if_false]<;>omega
 ·cases hi with
  | none=>simp [sliceBounds,HT.sIx]
  | some i =>
   simp only [sliceBounds,HT.sIx,Option.getD_none,show (1:Int)>0 by decide,if_true]
   by_cases h:i<0
   ·simp only [h,if_true]<;>omega
   ·simp only [h,if_false]<;>omega
theorem w6 (its:List Value) (lo hi:Option Int):slicePick its.toArray lo hi none=((its.drop (HT.sIx its.length 0 lo)).take (HT.sIx its.length its.length hi-HT.sIx its.length 0 lo)).toArray:=by
 obtain ⟨h1,h2,h3⟩:=w5 lo hi its.toArray.size
 unfold slicePick
 rw [h1,h2,h3]
 simp only [sliceRange_one,pick_run,Ql]<;>rfl
noncomputable def w9 (K:PySem.W.Frag):V->Option Int->Option Int->Hp->VK->Prop:=fun x lo hi H Q=>∃ a xs,x=.ref a/\am K H a xs/\∀ p,H p=none->Q (.ref p) (af H p (.lst (eK xs lo hi)))
theorem xa:jU X (w9 X.K):=by
 intro pins s σ H x v vl vu lo hi sl Q I rx hs pl pu h
 obtain ⟨a,xs,rfl,hx,q⟩:=h
 cases rx
 obtain ⟨its,r,ht,hz⟩:=I.list hx
 have hlen:=r.length
 refine ⟨"list",_,slot_list_getitem.lookup,ht.isList.typeIs,?_⟩
 refine wpAny_getItem_list_slice ht.isList hs pl pu .none (by simp) ?_ (by rw [Ql]<;>omega)
 rw [w6,<- hlen]
 refine ⟨.ref s.heap.objs.size,_,I.laid (t':=s.toks) (o:=.lst (eK xs lo hi)) (fun b ob q=>Qe _ q) (Qh _) ?_,rfl,q _ (I.hok.fresh (Qh _))⟩
 exact ⟨QH (pM xs lo hi) hz,_,0,(r.drop (HT.sIx xs.length 0 lo)).take (HT.sIx xs.length xs.length hi-HT.sIx xs.length 0 lo),Qj _ rfl⟩
noncomputable def fG:V->Bool
 | .non=>true
 | .bl _=>true
 | .int _=>true
 | .str _=>true
 | _=>false
noncomputable def fH:V->V->Bool
 | .non,.non=>true
 | .bl a,.bl b=>a == b
 | .bl a,.int b=>(if a then 1 else 0) == b
 | .int a,.bl b=>a == (if b then 1 else 0)
 | .int a,.int b=>a == b
 | .str a,.str b=>a == b
 | _,_=>false
theorem xf {A:Around} {s:Shared} {y x:V} {u v:Value} (ry:RelV y u) (rx:RelV x v) (fy:fG y=true) (fx:fG x=true):SeqAt.EqAt A s u v (fH y x):=by
 cases y with
 | non =>
  cases ry
  cases x with
  | non=>cases rx;exact SeqAt.EqAt.same _
  | bl b=>cases rx;exact SeqAt.EqAt.none_bool b
  | int b=>obtain ⟨t,rfl⟩:=rx;exact SeqAt.EqAt.none_int b t
  | str b=>obtain ⟨t,rfl⟩:=rx;exact SeqAt.EqAt.none_str b t
  | _=>exact absurd (show false=true from fx) Bool.false_ne_true
 | bl a =>
  cases ry
  cases x with
  | non=>cases rx;exact SeqAt.EqAt.bool_none a
  | bl b=>cases rx;exact SeqAt.EqAt.bool_bool a b
  | int b=>obtain ⟨t,rfl⟩:=rx;exact SeqAt.EqAt.bool_int a b t
  | str b=>obtain ⟨t,rfl⟩:=rx;exact SeqAt.EqAt.bool_str a b t
  | _=>exact absurd (show false=true from fx) Bool.false_ne_true
 | int a =>
  obtain ⟨t',rfl⟩:=ry
  cases x with
  | non=>cases rx;exact SeqAt.EqAt.int_none a t'
  | bl b=>cases rx;exact SeqAt.EqAt.int_bool a t' b
  | int b=>obtain ⟨t,rfl⟩:=rx;exact SeqAt.EqAt.int_int a t' b t
  | str b=>obtain ⟨t,rfl⟩:=rx;exact SeqAt.EqAt.int_str a t' b t
  | _=>exact absurd (show false=true from fx) Bool.false_ne_true
 | str a =>
  obtain ⟨t',rfl⟩:=ry
  cases x with
  | non=>cases rx;exact SeqAt.EqAt.str_none a t'
  | bl b=>cases rx;exact SeqAt.EqAt.str_bool a t' b
  | int b=>obtain ⟨t,rfl⟩:=rx;exact SeqAt.EqAt.str_int a t' b t
  | str b=>obtain ⟨t,rfl⟩:=rx;exact SeqAt.EqAt.str_str a t' b t
  | _=>exact absurd (show false=true from fx) Bool.false_ne_true
 | _=>exact absurd (show false=true from fy) Bool.false_ne_true
noncomputable def de (x:V) (u:Value):Bool:=match u with
 | .none=>fH .non x
 | .bool b=>fH (.bl b) x
 | .int i _=>fH (.int i) x
 | .str z _=>fH (.str z) x
 | _=>false
theorem pS {x y:V} {u:Value} (r:RelV y u) (f:fG y=true):de x u=fH y x:=by
 cases y with
 | non=>cases r;rfl
 | bl b=>cases r;rfl
 | int i=>obtain ⟨t,rfl⟩:=r;rfl
 | str z=>obtain ⟨t,rfl⟩:=r;rfl
 | _=>exact absurd (show false=true from f) Bool.false_ne_true
theorem iV {x:V}:∀ {xs:List V} {us:List Value},aw xs us->xs.all fG=true->us.any (de x)=xs.any fun y=>fH y x
 | _,_,.nil,_=>rfl
 | y::xs,u::us,.cons r t,f=>by
  rw [List.all_cons,Bool.and_eq_true] at f
  rw [List.any_cons,List.any_cons,pS r f.1,iV t f.2]
theorem iW {A:Around} {s:Shared} {x:V} {v:Value} (rx:RelV x v) (fx:fG x=true):∀ {xs:List V} {us:List Value},aw xs us->xs.all fG=true->∀ u∈us,SeqAt.EqAt A s u v (de x u)
 | _,_,.nil,_=>fun u hu=>by cases hu
 | y::xs,u::us,.cons r t,f=>fun u' hu=>by
  rw [List.all_cons,Bool.and_eq_true] at f
  rcases Qu hu with rfl | hu
  ·rw [pS r f.1];exact xf r rx f.1 fx
  ·exact iW rx fx t f.2 u' hu
noncomputable def eZ (x:V) (xs:List V):Bool:=xs.any fun y=>fH y x
noncomputable def jW (K:PySem.W.Frag) (neg:Bool):R2:=fun x y H Q=>∃ p xs,y=.ref p/\(am K H p xs∨ah K H p xs)/\fG x=true/\xs.all fG=true/\Q (.bl (if neg then !eZ x xs else eZ x xs)) H
theorem xg:bL X (compareOp .In) (jW X.K false):=by
 intro pins s σ H x y v u Q I rx ry h
 obtain ⟨p,xs,rfl,hq,fx,fs,q⟩:=h
 cases ry
 rcases hq with hq | hq
 ·obtain ⟨its,r,pl,hz⟩:=I.list hq
  refine SeqAt.in_listAt (de x) pl.isList (fun w hw=>iW rx fx r fs w (by simpa using hw)) ⟨.bl _,H,I,rfl,?_⟩
  rw [show its.toArray.any (de x)=its.any (de x) by simp,iV r fs]
  exact q
 ·obtain ⟨its,r,pl,hz⟩:=I.tuple hq
  refine SeqAt.in_tupleAt (de x) pl (fun w hw=>iW rx fx r fs w (by simpa using hw)) ⟨.bl _,H,I,rfl,?_⟩
  rw [show its.toArray.any (de x)=its.any (de x) by simp,iV r fs]
  exact q
theorem xh:bL X (compareOp .NotIn) (jW X.K true):=by
 intro pins s σ H x y v u Q I rx ry h
 obtain ⟨p,xs,rfl,hq,fx,fs,q⟩:=h
 cases ry
 rcases hq with hq | hq
 ·obtain ⟨its,r,pl,hz⟩:=I.list hq
  refine SeqAt.notIn_listAt (de x) pl.isList (fun w hw=>iW rx fx r fs w (by simpa using hw)) ⟨.bl _,H,I,rfl,?_⟩
  rw [show its.toArray.any (de x)=its.any (de x) by simp,iV r fs]
  exact q
 ·obtain ⟨its,r,pl,hz⟩:=I.tuple hq
  refine SeqAt.notIn_tupleAt (de x) pl (fun w hw=>iW rx fx r fs w (by simpa using hw)) ⟨.bl _,H,I,rfl,?_⟩
  rw [show its.toArray.any (de x)=its.any (de x) by simp,iV r fs]
  exact q
theorem pT:c9 X (.builtin "len") (fun xs H Q=>∃ p ys,xs=[.ref p]/\(am X.K H p ys∨ah X.K H p ys)/\Q (.int ys.length) H):=by
 intro pins s σ H xs us Q I r h
 obtain ⟨p,ys,rfl,hq,q⟩:=h
 obtain ⟨u,rfl,rx⟩:=vals1 r
 cases rx
 have hn:=iS
 rcases hq with hq | hq
 ·obtain ⟨its,r',pl,hz⟩:=I.list hq
  have hlen:=r'.length
  exact Calls.call_len_list pl.isList (by simp only [Ql]<;>omega) ⟨.int ys.length,H,I.tok _,⟨s.toks+1,by rw [Ql,hlen]⟩,q⟩
 ·obtain ⟨its,r',pl,hz⟩:=I.tuple hq
  have hlen:=r'.length
  exact len_tuple pl (by simp only [Ql]<;>omega) ⟨.int ys.length,H,I.tok _,⟨s.toks+1,by rw [Ql,hlen]⟩,q⟩
theorem xi:c9 X (.builtin "len") (fun xs H Q=>∃ z,xs=[.str z]/\z.length<=sizeLine/\Q (.int z.length) H):=by
 intro pins s σ H xs us Q I r h
 obtain ⟨z,rfl,hz,q⟩:=h
 obtain ⟨u,rfl,t,rfl⟩:=vals1 r
 have hn:=iS
 exact len_str (by omega) ⟨.int z.length,H,I.tok _,⟨_,rfl⟩,q⟩
theorem jX:c9 X (.type "tuple") (fun xs H Q=>∃ p ys,xs=[.ref p]/\((am X.K H p ys/\∀ l,H l=none->Q (.ref l) (af H l (.tup ys)))∨(ah X.K H p ys/\Q (.ref p) H))):=by
 intro pins s σ H xs us Q I r h
 obtain ⟨p,ys,rfl,h⟩:=h
 obtain ⟨u,rfl,rx⟩:=vals1 r
 cases rx
 rcases h with ⟨hq,q⟩ | ⟨hq,q⟩
 ·obtain ⟨its,r',pl,hz⟩:=I.list hq
  have hlen:=r'.length
  refine call_tuple_list pl.isList (fun h' kp=>?_) (by simp only [Ql]<;>omega)
  have I1:Inv X pins σ H { s with heap:=h' }:=I.kept (t':=s.toks) kp
  have I2:Inv X pins σ (af H h'.objs.size (.tup ys)) { s with heap:=h'.push { cls:=.type "tuple",data:=.seq its.toArray } } :=
   I1.laid (t':=s.toks) (fun b o e=>Qe _ e) (Qh _) (show bz X.prog X.w _ _ _ (.tup ys) from ⟨hz,its,r',IsTup.new _ _,gN.new _ _⟩)
  exact ⟨.ref h'.objs.size,_,I2,rfl,q _ (I1.hok.fresh (Qh _))⟩
 ·obtain ⟨its,r',pl,hz⟩:=I.tuple hq
  exact call_tuple_same pl ⟨.ref p,H,I,rfl,q⟩
noncomputable def mf (K:PySem.W.Frag) (T:String) (x:V) (H:Hp):Prop:=match x with
 | .str _=>T="str"
 | .int _=>T="int"
 | .ref p=>(T="list"/\∃ xs,am K H p xs)∨(T="tuple"/\∃ o,K.lookup p=some o/\o.cls=.type "tuple"/\o.dict=none) ∨
   (T="dict"/\((∃ kvs,H p=some (.dK kvs))∨∃ kvs,H p=some (.dT kvs)))∨(T="set"/\∃ S n,H p=some (.set S n))
 | _=>False
theorem pU {pins:List (Addr × Obj)} {σ:St} {H:Hp} {s:Shared} {T:String} {x:V} {v:Value} (I:Inv X pins σ H s) (r:RelV x v) (ty:mf X.K T x H) :
  s.TypeIs v T/\∀ a,v=.ref a->∃ ob,s.heap.get? a=some ob/\ob.dict=none:=by
 cases x with
 | str z =>
  obtain ⟨t,rfl⟩:=r
  cases (show T="str" from ty)
  exact ⟨typeIs_str s z t,fun _ e=>nomatch e⟩
 | int i =>
  obtain ⟨t,rfl⟩:=r
  cases (show T="int" from ty)
  exact ⟨typeIs_int s i t,fun _ e=>nomatch e⟩
 | ref p =>
  cases r
  rcases ty with ⟨rfl,xs,hq⟩ | ⟨rfl,o,hk,hc,hd⟩ | ⟨rfl,hk⟩ | ⟨rfl,S,n,hk⟩
  ·obtain ⟨its,_,pl,_⟩:=I.list hq
   refine ⟨pl.isList.typeIs,fun a e=>?_⟩
   cases e
   obtain ⟨o,n,e,c,hd,_⟩:=pl
   exact ⟨o,e,hd⟩
  ·refine ⟨⟨o,I.kIn p o hk,hc⟩,fun a e=>?_⟩
   cases e
   exact ⟨o,I.kIn _ o hk,hd⟩
  ·have z:∃ o,s.heap.get? p=some o/\o.ExactDict:=by
    rcases hk with ⟨kvs,hk⟩ | ⟨kvs,hk⟩
    ·obtain ⟨_,_,_,_,o,_,_,e,ex,_⟩:=I.hok p _ hk
     exact ⟨o,e,ex⟩
    ·obtain ⟨_,_,_,_,o,_,_,e,ex,_⟩:=I.hok p _ hk
     exact ⟨o,e,ex⟩
   obtain ⟨o,e,ex⟩:=z
   refine ⟨⟨o,e,ex.1⟩,fun a e2=>?_⟩
   cases e2
   exact ⟨o,e,ex.2.1⟩
  ·obtain ⟨o,_,_,_,e,ex,_⟩:=I.hok p _ hk
   refine ⟨⟨o,e,ex.1⟩,fun a e2=>?_⟩
   cases e2
   exact ⟨o,e,ex.2.1⟩
 | _=>exact False.elim ty
noncomputable def xj (K:PySem.W.Frag) (T:String) (r:V->List V->Hp->VK->Prop) (to:TE):TE:=fun σ H Q=>to σ H fun x H1=>mf K T x H1/\r x [] H1 Q
noncomputable def xk (K:PySem.W.Frag) (T:String) (r:V->List V->Hp->VK->Prop) (to:TE) (t:TA):TE:=fun σ H Q=>to σ H fun x H1=>mf K T x H1/\t σ H1 fun xs H2=>r x xs H2 Q
variable {o e:Expr} {es:List Expr} {to:TE} {t:TA} {name:Str} {apos cpos:Pos} {T id:String} {r:V->List V->Hp->VK->Prop}
theorem xl (pa:PlainAttrs T) (slot:Slot T name id) (hty:typeOf (.builtin id)=pure (.type "method_descriptor")) (hm:md X id r) (ho:PE X o to)
  (hbase:attributeBase o name X.env (eval o X.env)=eval o X.env:=by rfl) (hline:(apos.endLine == cpos.line)=true:=by rfl):PE X (.Call (.Attribute o name apos) [] [] cpos) (xj X.K T r to):=by
 intro pins s σ H Q I h
 refine wpAny_Call_method0_late hbase hline (ay (ho pins s σ H _ I h) fun v s1 hsl38=>?_)
 obtain ⟨x,H1,I1,r1,ty,q1⟩:=hsl38
 obtain ⟨h1,h2⟩:=pU I1 r1 ty
 exact ⟨T,id,pa,slot,hty,h1,h2,Calls.callWith_builtin rfl (PySem.evalArgs_none (hm pins s1 σ H1 x [] v [] Q I1 r1 .nil q1))⟩
theorem fc (pa:PlainAttrs T) (slot:Slot T name id) (hty:typeOf (.builtin id)=pure (.type "method_descriptor")) (hm:md X id r) (ho:PE X o to) (ha:PA X (e::es) t)
  (hbase:attributeBase o name X.env (eval o X.env)=eval o X.env:=by rfl)
  (hfew:((backTo cpos (starEach (e::es) X.env)).all (fun x=>!x.1)&&(backToKw cpos (keywordEach [] X.env)).all (fun x=>x.1.isSome)
   && decide ((e::es).length+([]:List Keyword).length+(if ([]:List Keyword).isEmpty then 0 else 1)<30))=true:=by rfl)
  (hline:(apos.endLine == cpos.line)=true:=by rfl) (hs:starEach (e::es) X.env=(false,eval e X.env)::starEach es X.env:=by rfl) (hplain:(backTo cpos (starEach es X.env)).any (·.1)=false:=by rfl) :
  PE X (.Call (.Attribute o name apos) (e::es) [] cpos) (xk X.K T r to t):=by
 intro pins s σ H Q I h
 refine wpAny_Call_method_late hbase hfew hline rfl (ay (ho pins s σ H _ I h) fun v s1 hsl39=>?_)
 obtain ⟨x,H1,I1,r1,ty,q1⟩:=hsl39
 obtain ⟨h1,h2⟩:=pU I1 r1 ty
 refine ⟨T,id,pa,slot,hty,h1,h2,?_⟩
 have hA:=ha cpos pins s1 σ H1 _ I1 q1
 rw [hs] at hA ⊢
 refine Calls.callWith_builtin (by show (false||(backTo cpos (starEach es X.env)).any (·.1))=false;rw [hplain]<;>rfl) (Calls.evalArgs_plain ?_)
 exact ay hA fun us s2 hsl40=>by obtain ⟨vs,H2,I2,r2,q2⟩:=hsl40;exact hm pins s2 σ H2 x vs v us Q I2 r1 r2 q2
end
end L2
namespace L2
open PySem PySem.Spec PyProof.Rows
noncomputable def pV (X:Cx) (id:String) (r:V->List V->Hp->VK->Prop):Prop :=
 ∀ (pins:List (Addr × Obj)) (s:Shared) (σ:St) (H:Hp) (x:V) (xs:List V) (v:Value) (us:List Value) (Q:VK),Inv X pins σ H s->RelV x v->aw xs us->r x xs H Q ->
  wpAny (model X.prog X.w) X.A (call (.builtin id) (v::us)) (EP X pins σ Q) X.xe s
theorem aw.one:∀ {x:V} {us:List Value},aw [x] us->∃ u,us=[u]/\RelV x u
 | _,_,.cons r .nil=>⟨_,rfl,r⟩
section
variable {X:Cx} {pins:List (Addr × Obj)} {σ:St} {H:Hp} {s:Shared} {l b:Addr} {xs ys zs:List V}
theorem Inv.lset {its its':List Value} {n:Nat} {f:Array Value->Array Value} {t':Nat} (I:Inv X pins σ H s) (hH:H l=some (.lst xs))
  (e:s.heap.get? l=some { cls:=.type "list",data:=.seq its.toArray n }) (hf:f its.toArray=its'.toArray) (hv:aw ys its') (hz:ys.length<=sizeLine) :
  Inv X pins σ (af H l (.lst ys)) { s with heap:=s.heap.update l (Obj.mapSeq f),toks:=t' }:=by
 have q:=PySem.IsL.update e f
 rw [hf] at q
 refine I.write (x:=l) (e:=l) (by rw [hH];exact trivial) (.inl rfl) (fun b' u hb hu=>(Heap.get?_update_other s.heap (Obj.mapSeq f) (Ne.symm hb)).trans hu) ⟨_,q⟩ ?_
 exact ⟨hz,its',_,hv,q⟩
theorem Inv.lnew {its:List Value} {t':Nat} (I:Inv X pins σ H s) (hv:aw ys its) (hz:ys.length<=sizeLine) :
  Inv X pins σ (af H s.heap.objs.size (.lst ys)) { s with heap:=s.heap.push { cls:=.type "list",data:=.seq its.toArray },toks:=t' } :=
 I.laid (fun _ _ q=>Qe _ q) (Qh _) ⟨hz,its,0,hv,Qj _ rfl⟩
theorem Inv.fresh (I:Inv X pins σ H s):H s.heap.objs.size=none:=I.hok.fresh (Qh _)
theorem Inv.lstM (I:Inv X pins σ H s) (hH:H l=some (.lst xs)):xs.length<=sizeLine/\∃ (its:List Value) (n:Nat),aw xs its/\xs.length=its.length/\s.heap.get? l=some { cls:=.type "list",data:=.seq its.toArray n }:=by
 obtain ⟨z,its,n,r,e⟩:=I.hok l _ hH
 exact ⟨z,its,n,r,r.length,e⟩
theorem xm {n:Nat} (h:n<=sizeLine):Builtin.List.listTooLong n=false:=by
 unfold Builtin.List.listTooLong
 exact Qi (by omega)
end
section
variable {X:Cx}
noncomputable def xn:V->List V->Hp->VK->Prop:=fun x vs H Q=>∃ l xs y,x=.ref l/\vs=[y]/\H l=some (.lst xs)/\xs.length<sizeLine/\Q .non (af H l (.lst (xs++[y])))
theorem fI:pV X "list.append" xn:=by
 intro pins s σ H x vs v us Q I rx rv h
 obtain ⟨l,xs,y,rfl,rfl,hH,hz,q⟩:=h
 cases rx
 obtain ⟨u,rfl,ru⟩:=rv.one
 obtain ⟨z,its,n,r,hl,e⟩:=I.lstM hH
 refine call_meets F.slot_list_append ⟨_,e,rfl⟩ F.entry_list_append (F.args_list_append_2 _ _) (PySem.list_append l its.toArray n u (by rw [Ql];omega)) ⟨e,?_⟩
 refine ⟨.non,_,I.lset (its':=its++[u]) hH e (by simp) (r.append (.cons ru .nil)) ?_,rfl,q⟩
 rw [Qv,List.length_singleton]
 omega
noncomputable def xq:V->List V->Hp->VK->Prop:=fun x vs H Q=>∃ l b xs zs,x=.ref l/\vs=[.ref b]/\H l=some (.lst xs)/\H b=some (.lst zs)/\xs.length+zs.length<=sizeLine/\Q .non (af H l (.lst (xs++zs)))
theorem xr:pV X "list.extend" xq:=by
 intro pins s σ H x vs v us Q I rx rv h
 obtain ⟨l,b,xs,zs,rfl,rfl,hH,hB,hz,q⟩:=h
 cases rx
 obtain ⟨u,rfl,ru⟩:=rv.one
 cases ru
 obtain ⟨z,its,n,r,hl,e⟩:=I.lstM hH
 obtain ⟨z2,its2,n2,r2,hl2,e2⟩:=I.lstM hB
 have hsz:its.toArray.size+its2.toArray.size<=sizeLine:=by rw [Ql,Ql];omega
 have hlong:¬ (!its.toArray.isEmpty&&Builtin.List.listTooLong (its.toArray.size+its2.toArray.size))=true:=by
  rw [xm hsz,Bool.and_false]
  exact Bool.false_ne_true
 refine call_meets F.slot_list_extend ⟨_,e,rfl⟩ F.entry_list_extend (F.args_list_extend_2 _ _)
  (AutoSeq1.list_extend_list_list_0 l its.toArray n b its2.toArray n2 hlong (by rw [Ql];omega) (by omega)) ⟨e,e2,?_⟩
 refine ⟨.non,_,I.lset (its':=its++its2) hH e (by simp) (r.append r2) ?_,rfl,q⟩
 rw [Qv]
 omega
noncomputable def mh:R2:=fun x y H Q=>∃ l b xs zs,x=.ref l/\y=.ref b/\H l=some (.lst xs)/\H b=some (.lst zs)/\xs.length+zs.length<=sizeLine/\∀ p,H p=none->Q (.ref p) (af H p (.lst (xs++zs)))
theorem jY:bL X (binaryOp .Add) mh:=by
 intro pins s σ H x y v u Q I rx ry h
 obtain ⟨l,b,xs,zs,rfl,rfl,hH,hB,hz,q⟩:=h
 cases rx
 cases ry
 obtain ⟨z,its,n,r,hl,e⟩:=I.lstM hH
 obtain ⟨z2,its2,n2,r2,hl2,e2⟩:=I.lstM hB
 refine PySem.P.add_list e e2 ?_ (by rw [Ql,Ql];omega)
 have ea:its.toArray++its2.toArray=(its++its2).toArray:=by simp
 rw [ea]
 exact ⟨.ref _,_,I.lnew (t':=s.toks) (r.append r2) (by rw [Qv];omega),rfl,q _ I.fresh⟩
end
section
variable {prog:Program} {w:World} {A:Around} {E:Value->Shared->Prop} {s:Shared}
end
section
variable {X:Cx}
end
end L2
namespace Att
open PySem PySem.W PySem.Calls PyProof.Rows
theorem xu {P:Params} {h:Heap}:∀ (ns:List Int) (vs:List Value),WellAll P h vs (ns.map WData.int)->IntsAre vs ns:=by
 intro ns
 induction ns with
 | nil =>
  intro vs w
  rw [List.map_nil] at w
  cases w
  exact .nil
 | cons n ns ih =>
  intro vs w
  rw [List.map_cons] at w
  cases w with
  | cons a b =>
   cases a
   exact .cons _ _ (ih _ b)
theorem xv {l:OpenLaw} {n:Nat} (hn:l.most=some n) {P:Params} {h:Heap} {args:List WData} {vals:List Value}
  (hpre:l.row.toRowW.claim.pre args=true) (hwl:WellAll P h vals args) :
  ∃ a vs ns,vals=[Value.ref a]/\args=[WData.list (ns.map WData.int)]/\h.get? a=some { cls:=.type "list",data:=.seq vs.toArray }/\IntsAre vs ns/\ns.length<=n:=by
 have hsh:WShape.hasAll [] args [.list .int]=true:=(pre_splitW hpre).1
 have hc:l.pre.holds [] { args:=args }=true:=(pre_splitW hpre).2
 obtain ⟨d,r,rfl,h1,h2⟩:=hasAllW_cons hsh
 obtain rfl:=hasAllW_nil h2
 obtain ⟨xs,rfl,h3⟩:=hasW_list h1
 obtain ⟨ns,rfl⟩:=items_int h3
 have hlen:ns.length<=n:=by
  unfold OpenLaw.pre at hc
  have h4:(WTm.not (.lt (.lit (.int (n:Int))) (.len (.arg 0)))).holds [] { args:=[.list (ns.map .int)] }=true:=by
   have h4:=(holds_andW hc).1
   rw [hn] at h4
   exact h4
  have h5:=condW_of h4 (w_not (w_lt w_lit (w_len_list (w_arg rfl))))
  rw [Qf] at h5
  refine Nat.le_of_not_lt fun q=>?_
  have q':(n:Int)<((ns.length:Nat):Int):=by omega
  first
   | (rw [Qp q'] at h5;exact absurd h5 (by decide))
   | (simp at h5;omega)
 cases hwl with
 | cons w1 w2 =>
  cases w2
  cases w1 with
  | list ho hall=>exact ⟨_,_,ns,rfl,rfl,ho,xu ns _ hall,hlen⟩
theorem xw (l:OpenLaw) (args:List WData):l.row.toRowW.claim.post args (.bool true) args=true :=
 postW_of (r:=l.row.toRowW) (X:=(true == true))
  (show WShape.has [] (.bool true) .bool=true by first | rfl | decide | simp [WShape.has,WShape.arms,WShape.armsAll])
  (show (WTm.eq .res (.lit (.bool true))).value [] { args:=args,res:=some (.bool true),after:=args }=some (.bool (true == true)) from w_eq_bool (w_res rfl) w_lit) rfl
theorem attach_call {l:OpenLaw} {n:Nat} {q:Program} {loose:List Str} {XP:(Str->Option Value)->Heap->Prop} {YP:World->Heap->Prop} {d:DefRec}
  (hn:l.most=some n) (hdf:d.params.defaults=[])
  (call:∀ (w:World) (s₀ s₁:Shared) (mg mb:Str->Option Value) (fa:Addr) (o:Obj) (pm cd doc:Value) (a:Addr) (vs:List Value) (ns:List Int),
   Ground q loose [] XP w s₀ mg mb s₁.heap->YP w s₁.heap ->
   s₁.heap.get? fa=some o->o.data=.func (docDef d.name d.params d.body d.scope pm cd doc)->s₁.heap.CodeRec cd d.name->mg d.name=some (.ref fa) ->
   s₁.heap.get? a=some { cls:=.type "list",data:=.seq vs.toArray }->IntsAre vs ns->ns.length<=n->s₁.gens=#[] ->
   codeAny (model l.prog w) callerA (.call (.ref fa) ⟨[.ref a],[]⟩) (fun r s'=>r=.ok (.ret (.bool true))/\OldK s₁.heap s'.heap/\s'.os=s₁.os/\AllBare s'.gens) s₁) :
  WalkO q loose XP YP l.row.toRowW d [] (fun f vs=>PySem.call f vs):=by
 intro w s₀ s₁ mg mb G Y fa o pm cd doc dV kV ho hd hcd hD hmg hg args vals as hpre hlay hrd hwl hlo
 obtain rfl:dV=.none:=Dflts.none hD hdf
 obtain rfl:kV=.none:=Dflts.noKw hD
 obtain ⟨a,vs,ns,rfl,rfl,hobj,hints,hlen⟩:=xv hn hpre hwl
 refine enter_call (codeAny_mono (call w s₀ s₁ mg mb fa o pm cd doc a vs ns G Y ho (fd_plain hd) hcd hmg hobj hints hlen hg) fun r s' hq=>?_)
 obtain ⟨rfl,h2,h3,h4⟩:=hq
 exact ⟨.inl ⟨.bool true,.bool true,[],rfl,fun _=>rfl,.bool true,xw l _,fun _=>⟨List.Pairwise.nil,fun _ hm=>(nomatch hm)⟩⟩,h2,h3,h4⟩
section
variable {prog:Program} {w:World} {A:Around} {E:Value->Shared->Prop} {s:Shared} {K:Frag}
end
end Att
namespace L2
open PySem PySem.Spec PyProof.Rows
theorem pW:∀ {vs:List Value} {ns:List Int},IntsAre vs ns->aw (ns.map V.int) vs
 | _,_,.nil=>.nil
 | _,_,.cons n t h=>.cons ⟨t,rfl⟩ (pW h)
noncomputable def mi (H:Hp):Prop:=∀ b,H b=none∨∃ o xs,H b=some (.frz o (.lst xs))
theorem xx {P:Program} {w:World} {K:PySem.W.Frag} {mg mb:Str->Option Value} {CX:dv} {k:Nat} {fa a:Addr} {fd:FuncData} {x:Str} {sp:Sp} {s₁:Shared} {vs:List Value} {ns:List Int}
  (KX:K.In s₁.heap) (hns:s₁.heap.Ns mainGlobals mg) (hb:s₁.heap.Ns builtinsNs mb) (hbb:∀ x:Str,x≠"__name__"->mb x=bootBuiltins x) (hlim:s₁.heap.NoLimit) (hg:s₁.gens=#[])
  (ha:s₁.heap.get? a=some { cls:=.type "list",data:=.seq vs.toArray }) (hi:IntsAre vs ns) (hl:ns.length<=sizeLine) (hr:aA k callerA)
  (F:∀ base:Heap,K.In base->base.Ns mainGlobals mg->aE P w K mg base CX k fa fd [x] sp) (hbind:∀ (s:Shared) (u:Value),BindsTo s fd ⟨[u],[]⟩ [(x,u)])
  (hsp:∀ H:Hp,mi H->am K H a (ns.map V.int)->sp [.ref a] H (fun v _=>v=.bl true) fun _ _ _=>False)
  (hCX:∀ H e s',CX [] H s₁ (fun _ _ _=>False) e s'->False) :
  codeAny (model P w) callerA (.call (.ref fa) ⟨[.ref a],[]⟩) (fun r s'=>r=.ok (.ret (.bool true))/\OldK s₁.heap s'.heap/\s'.os=s₁.os/\AllBare s'.gens) s₁:=by
 have rv:=pW hi
 have lenV:=hi.length
 have core:∀ H:Hp,mi H->am K H a (ns.map V.int)->bA P w H s₁.heap->(∀ b,H b≠none->b=a)->(H a≠none->K.lookup a=none) ->
   codeAny (model P w) callerA (.call (.ref fa) ⟨[.ref a],[]⟩) (fun r s'=>r=.ok (.ret (.bool true))/\OldK s₁.heap s'.heap/\s'.os=s₁.os/\AllBare s'.gens) s₁:=by
  intro H hO hS hok hA hK
  have base_of:∀ {b:Addr} {o:Obj},s₁.heap.get? b=some o->H b=none->(eV s₁.heap H).get? b=some o:=fun e n=>vM e n
  have noA:∀ {b:Addr} {o:Obj} {es:Array DictEntry} {ep:Nat},s₁.heap.get? b=some o->o.data=.dict es ep->H b=none:=fun {b o es ep} e d=>by
   cases q:H b with
   | none=>rfl
   | some u =>
    have e':b=a:=hA b (by rw [q];simp)
    subst e'
    rw [ha] at e;cases e
    have d':Data.seq vs.toArray _=Data.dict es ep:=d
    cases d'
  have nsK:∀ {b:Addr} {m:Str->Option Value},s₁.heap.Ns b m->(eV s₁.heap H).Ns b m:=fun {b m} ⟨o,es,ep,e,d,r⟩=>⟨o,es,ep,base_of e (noA e d),d,r⟩
  have hKb:K.In (eV s₁.heap H):=fun b o e=>base_of (KX b o e) (by
   cases q:H b with
   | none=>rfl
   | some u =>
    have e':b=a:=hA b (by rw [q];simp)
    subst e'
    rw [hK (by rw [q];simp)] at e;cases e)
  have hM:Mod K mg (eV s₁.heap H):=⟨hKb,nsK hns,⟨mb,nsK hb,hbb⟩,by obtain ⟨mc,h1,h2⟩:=hlim;exact ⟨mc,nsK h1,h2⟩⟩
  have e0:dX P w K mg (eV s₁.heap H) callerA [] s₁ H:=⟨rfl,hM,fun b o e=>vN e,Nat.le_of_eq (vL _ _),trivial,fun b hb=>absurd (show b∈([]:List Addr) from hb) (by simp),hok,.of_eq hg⟩
  refine codeAny_mono ((F _ hKb (nsK hns)).run callerA [] s₁ H ⟨[.ref a],[]⟩ [.ref a] [.ref a] _ _ hr e0 (hbind s₁ (.ref a)) (.cons rfl .nil) (hsp H hO hS)) fun r s' h=>?_
  cases r with
  | error e=>exact (hCX H e s' h).elim
  | ok fl =>
   cases fl with
   | next=>exact False.elim h
   | brk=>exact False.elim h
   | cont=>exact False.elim h
   | ret u =>
    obtain ⟨v,H',os,bare,un,hok',r',q⟩:=h
    have q':v=.bl true:=q
    subst q'
    obtain rfl:u=Value.bool true:=r'
    refine ⟨rfl,OldK.of_keep fun b o e=>?_,os,bare⟩
    cases q:H b with
    | none=>exact un.keep b o e q (by intro z;exact absurd (show b∈([]:List Addr) from z) (by simp)) (by simp)
    | some u =>
     rcases hO b with z | ⟨ob,xs,z⟩
     ·rw [q] at z;cases z
     ·have z2:=un.frzs b ob _ z
      obtain ⟨e1,_⟩:=hok b _ z
      obtain ⟨e2,_⟩:=hok' b _ z2
      rw [e] at e1;cases e1
      exact e2
 cases hk:K.lookup a with
 | some o =>
  have e:=KX a o hk
  rw [ha] at e
  cases e
  refine core (fun _=>none) (fun _=>.inl rfl) (.inr ⟨_,vs.toArray,_,hk,rfl,rfl,rfl,by rw [Ql,lenV];exact hl,by simpa using rv⟩) (fun b u z=>by have z':(none:Option HO)=some u:=z;cases z') (fun b z=>absurd rfl z) fun z=>absurd rfl z
 | none =>
  refine core (fun b=>if b=a then some (.frz { cls:=.type "list",data:=.seq vs.toArray } (.lst (ns.map V.int))) else none) (fun b=>?_) (.inl (.inr ⟨{ cls:=.type "list",data:=.seq vs.toArray },if_pos rfl⟩)) (fun b u z=>?_) (fun b z=>?_) fun _=>hk
  ·by_cases hb:b=a
   ·exact .inr ⟨_,_,if_pos hb⟩
   ·exact .inl (if_neg hb)
  ·by_cases hb:b=a
   ·have z':=(if_pos hb).symm.trans z
    cases z'
    subst hb
    exact ⟨ha,by rw [Qf];exact hl,vs,_,rv,ha⟩
   ·have z':=(if_neg hb).symm.trans z
    cases z'
  ·by_cases hb:b=a
   ·exact hb
   ·exact absurd (if_neg hb) z
end L2
namespace L2
open PySem PySem.Spec PyProof.Rows
theorem xy {l:PySem.W.OpenLaw} {n k:Nat} {q:Program} {loose:List Str} {XP:(Str->Option Value)->Heap->Prop} {YP:World->Heap->Prop} {d:DefRec} {K:Params->PySem.W.Frag} {CX:World->dv} {sp:World->Sp} {x:Str}
  (hn:l.most=some n) (hn2:n<=sizeLine) (hdf:d.params.defaults=[]) (hr:aA k callerA)
  (hY:∀ (w:World) (h:Heap),YP w h->(K w.params).In h)
  (F:∀ (w:World) (mg:Str->Option Value) (fa:Addr) (h:Heap),(K w.params).In h->h.Ns mainGlobals mg->mg d.name=some (.ref fa) ->
   ∃ fd:FuncData,(∀ (s:Shared) (u:Value),BindsTo s fd ⟨[u],[]⟩ [(x,u)]) /\
    ∀ base:Heap,(K w.params).In base->base.Ns mainGlobals mg->aE l.prog w (K w.params) mg base (CX w) k fa fd [x] (sp w))
  (hsp:∀ (w:World) (H:Hp) (a:Addr) (ns:List Int),ns.length<=n->mi H->am (K w.params) H a (ns.map V.int)->sp w [.ref a] H (fun v _=>v=.bl true) fun _ _ _=>False)
  (hCX:∀ (w:World) (H:Hp) (s:Shared) (e:Value) (s':Shared),CX w [] H s (fun _ _ _=>False) e s'->False) :
  PySem.W.WalkO q loose XP YP l.row.toRowW d [] (fun f vs=>PySem.call f vs):=by
 refine Att.attach_call hn hdf fun w s₀ s₁ mg mb fa o pm cd doc a vs ns G Y ho hd hcd hmg hobj hints hlen hg=>?_
 have KX:=hY w _ Y
 obtain ⟨fd,hb,hF⟩:=F w mg fa _ KX G.T.g hmg
 exact xx KX G.T.g G.T.b G.T.builtins G.T.nolimit hg hobj hints (QH hlen hn2) hr hF hb (fun H hO hS=>hsp w H a ns hlen hO hS) fun H e s'=>hCX w H s₁ e s'
end L2
namespace L2
open PySem PySem.Spec PyProof.Rows
noncomputable def eL (s:Stmt) (j:Nat):Stmt:=match s with
 | .ClassDef _ _ _ body _ _ _ _ _ _ _=>body.getD j (.Pass ⟨0,0,0,0⟩)
 | _=>.Pass ⟨0,0,0,0⟩
noncomputable def gX (s:Stmt):Arguments:=match s with
 | .FunctionDef _ a _ _ _ _ _ _ _ _=>a
 | _=>{ posonlyargs:=[],args:=[],vararg:=none,kwonlyargs:=[],kw_defaults:=[],kwarg:=none,defaults:=[] }
noncomputable def gi (s:Stmt):List Stmt:=match s with
 | .FunctionDef _ _ b _ _ _ _ _ _ _=>b
 | _=>[]
noncomputable def aK (s:Stmt):Scope:=match s with
 | .FunctionDef _ _ _ _ _ _ sc _ _ _=>sc
 | _=>{ kind:=.function,names:=[],isGenerator:=false,isCoroutine:=false }
noncomputable abbrev aI:dv:=fun _ _ _ _ _ _=>False
noncomputable abbrev E0:XK:=fun _ _ _=>False
theorem aB {X:Cx}:gS aI X E0:=fun _ _ _ _ _ _ _ h=>h.elim
structure a9 (K:PySem.W.Frag) (x qual:Str) (st:Stmt) (f:Addr) (fd:FuncData):Prop where
 ex:∃ (oc:Value) (od:Option Addr) (kV doc pm:Value) (an:Option Addr) (cdv ct:Value) (osl:Array (Option Value)),
  fd=PySem.W.fnOf x qual (gX st) (gi st) (aK st) .none kV doc pm an cdv ct/\K.lookup f=some ⟨oc,od,.func fd,osl⟩/\PySem.W.codeIn K cdv qual=true
 kp:PySem.W.keepIn K (.ref f)=true
section
variable {P:Program} {w:World} {K:PySem.W.Frag} {mg:Str->Option Value} {base:Heap}
theorem a9.ok {x qual:Str} {st:Stmt} {f:Addr} {fd:FuncData} {N ps:List Str} {k:Nat} {sp:Sp} (F:a9 K x qual st f fd) (S:ba N ps (aK st)) (len:∀ vs H Q E,sp vs H Q E->vs.length=ps.length)
  (hbody:∀ (cdv:Value) (A:Around) (outer:List Env) (s:Shared) (H:Hp) (vs:List V) (Q:VK) (E:XK),aA k (A.deeper (envOfC qual (aK st) s.heap.objs.size f cdv))->sp vs H Q E ->
   ∃ t,dU (gT aI P w K mg base N qual (aK st) f cdv A outer s H E).nox (gi st) t/\t { nx:=fun _ H'=>Q .non H',rt:=Q } (start N vs) H):aE P w K mg base aI (k+1) f fd ps sp:=by
 obtain ⟨oc,od,kV,doc,pm,an,cdv,ct,osl,rfl,lk,hcd⟩:=F.ex
 refine wL lk hcd S len fun A outer s H vs Q E hr hsp=>?_
 obtain ⟨t,h,q⟩:=hbody cdv A outer s H vs Q E hr hsp
 exact ⟨t,h.nox,q⟩
theorem xz {x qual:Str} {st:Stmt} {f:Addr} {oc:Value} {od an:Option Addr} {osl:Array (Option Value)} {kV doc pm cdv ct:Value} (l:K.lookup f=some ⟨oc,od,.func (PySem.W.fnOf x qual (gX st) (gi st) (aK st) .none kV doc pm an cdv ct),osl⟩)
  (c:PySem.W.codeIn K cdv qual=true) (k:PySem.W.keepIn K (.ref f)=true):a9 K x qual st f (PySem.W.fnOf x qual (gX st) (gi st) (aK st) .none kV doc pm an cdv ct):=⟨⟨oc,od,kV,doc,pm,an,cdv,ct,osl,rfl,l,c⟩,k⟩
end
theorem cR {n:Nat} (h:n<=1000):n<sizeLine:=QF h (by decide)
section
variable {X:Cx}
theorem pv (i:Nat) {x:Str} {pos:Pos} (hN:X.N[i]?=some x:=by rfl) (hv:lH X.env.scope x:=by first | exact Or.inl rfl | exact Or.inr (Or.inl rfl) | exact Or.inr (Or.inr rfl)) (hd:(x == ("__debug__":Str))=false:=by decide)
  (hcd:(x == ("__classdict__":Str))=false:=by decide):PE X (.Name x pos) (iE i):=vO hN hv hd hcd
end
theorem dh {A B:Prop} (h:B):if false=true then A else B:=by
 rw [if_neg Bool.false_ne_true]
 exact h
theorem fe {A B:Prop} (h:A):if true=true then A else B:=by
 rw [if_pos rfl]
 exact h
theorem gj {c A B:Prop} [Decidable c] (h1:c->A) (h2:¬ c->B):if c then A else B:=by
 by_cases h:c
 ·rw [if_pos h]
  exact h1 h
 ·rw [if_neg h]
  exact h2 h
noncomputable def Same (H H':Hp):Prop:=∀ b o,H b=some o->H' b=some o
theorem Same.refl (H:Hp):Same H H:=fun _ _ h=>h
theorem Same.trans {H H1 H2:Hp} (a:Same H H1) (b:Same H1 H2):Same H H2:=fun c o h=>b c o (a c o h)
theorem Same.free {H H':Hp} (e:Same H H') {l:Addr} (h:H' l=Option.none):H l=Option.none:=by
 cases q:H l with
 | none=>rfl
 | some o =>
  rw [e l o q] at h
  cases h
theorem Same.seq {K:PySem.W.Frag} {H H':Hp} {a:Addr} {xs:List V} (e:Same H H') (h:am K H a xs):am K H' a xs:=by
 rcases h with (h | ⟨o,h⟩) | h
 ·exact .inl (.inl (e _ _ h))
 ·exact .inl (.inr ⟨o,e _ _ h⟩)
 ·exact .inr h
end L2
namespace L2
open PySem PySem.Spec PyProof.Rows
noncomputable abbrev pX (ifs:List Expr) (env:Env):Sem Bool :=
 forIn ifs true fun c r=>if r=true then do let ok <- isTrue c env (eval c env);pure (ForInStep.yield ok) else pure (ForInStep.yield r)
noncomputable def cj (cells:List (Str × Addr)):List (Str × NameKind)->List (Str × Addr)->List (Str × Addr)
 | [],acc=>acc
 | (n,k)::r,acc=>cj cells r (if k == .free then (n,(cells.lookup n).getD 0)::acc else acc)
theorem mj {env:Env}:∀ (ns:List (Str × NameKind)) (acc:List (Str × Addr)),(∀ y∈ns,y.2=.free->∃ c,env.cells.lookup y.1=some c) ->
  (forIn ns acc fun (p:Str × NameKind) (cs:List (Str × Addr))=>(if p.2 == .free then (do let c <- cellOf env p.1;pure (ForInStep.yield ((p.1,c)::cs))) else pure (ForInStep.yield cs):Sem (ForInStep (List (Str × Addr)))))=(pure (cj env.cells ns acc):Sem (List (Str × Addr)))
 | [],acc,_=>rfl
 | (n,k)::r,acc,h=>by
  rw [List.forIn_cons]
  by_cases hk:k=.free
  ·subst hk
   obtain ⟨c,hc⟩:=h (n,.free) QC rfl
   have e1:cellOf env n=pure c:=by unfold cellOf;rw [show env.cells.lookup n=some c from hc]
   simp only [beq_self_eq_true,if_true,e1,cj,hc,Option.getD_some]
   exact mj r ((n,c)::acc) fun y hy=>h y (Qz _ hy)
  ·have hb:(k == NameKind.free)=false:=by simpa using hk
   simp only [hb,Bool.false_eq_true,if_false,cj]
   exact mj r acc fun y hy=>h y (Qz _ hy)
theorem jZ {env:Env} {sc:Scope} (h:∀ y∈sc.names,y.2=.free->∃ c,env.cells.lookup y.1=some c):closureFor sc env=pure (cj env.cells sc.names []):=by
 unfold closureFor
 have q:=mj (env:=env) sc.names [] h
 have e:(forIn sc.names [] fun (p:Str × NameKind) (cs:List (Str × Addr))=>(match p with | (name,kind)=>if kind == .free then (do let c <- cellOf env name;pure (ForInStep.yield ((name,c)::cs))) else pure (ForInStep.yield cs):Sem (ForInStep (List (Str × Addr)))))=(pure (cj env.cells sc.names []):Sem (List (Str × Addr))):=q
 simp only [e]
 rfl
theorem ml {cells:List (Str × Addr)}:∀ (ns:List (Str × NameKind)) (acc:List (Str × Addr)),(∀ y∈ns,y.2=.free->∃ c,cells.lookup y.1=some c)->(∀ y c,acc.lookup y=some c->cells.lookup y=some c) ->
  (∀ y c,(cj cells ns acc).lookup y=some c->cells.lookup y=some c)/\(∀ y,(acc.lookup y).isSome=true->((cj cells ns acc).lookup y).isSome=true)/\(∀ y,(y,NameKind.free)∈ns->((cj cells ns acc).lookup y).isSome=true)
 | [],acc,_,h2=>⟨h2,fun _ h=>h,fun _ h=>nomatch h⟩
 | (n,k)::r,acc,h1,h2=>by
  have h1':∀ y∈r,y.2=.free->∃ c,cells.lookup y.1=some c:=fun y hy=>h1 y (Qz _ hy)
  by_cases hk:k=.free
  ·subst hk
   obtain ⟨c,hc⟩:=h1 (n,.free) QC rfl
   have hc':cells.lookup n=some c:=hc
   have e:cj cells ((n,.free)::r) acc=cj cells r ((n,c)::acc):=by simp only [cj,beq_self_eq_true,if_true,hc',Option.getD_some]
   have ih:=ml (cells:=cells) r ((n,c)::acc) h1' (fun y d hy=>by
    rw [List.lookup_cons] at hy
    cases q:y == n with
    | true=>rw [q] at hy;cases hy;rw [eq_of_beq q];exact hc'
    | false=>rw [q] at hy;exact h2 y d hy)
   rw [e]
   refine ⟨ih.1,fun y hy=>ih.2.1 y ?_,fun y hy=>?_⟩
   ·rw [List.lookup_cons];split
    ·rfl
    ·exact hy
   ·rcases Qu hy with z | z
    ·cases z;exact ih.2.1 n (by rw [List.lookup_cons];simp)
    ·exact ih.2.2 y z
  ·have hb:(k == NameKind.free)=false:=by simpa using hk
   have e:cj cells ((n,k)::r) acc=cj cells r acc:=by simp only [cj,hb,Bool.false_eq_true,if_false]
   have ih:=ml (cells:=cells) r acc h1' h2
   rw [e]
   refine ⟨ih.1,ih.2.1,fun y hy=>?_⟩
   rcases Qu hy with z | z
   ·cases z;exact absurd rfl hk
   ·exact ih.2.2 y z
structure iX (scX sc:Scope) (NX:List Str) (x:Str) (fv:List Str) (js:List Nat):Prop where
 kind:sc.kind=.function
 kindX:scX.kind=.function
 cell:∀ y∈sc.names,y.2≠.cell
 own:sc.names.lookup x=some .local
 names:∀ y∈sc.names,y.2=.local->sc.names.lookup y.1=some .local
 free:∀ y∈sc.names,y.2=.free->scX.names.lookup y.1=some .cell
 nd:(x::fv).Nodup
 at':js.map (fun j=>NX[j]?)=fv.map some
 fr:∀ y∈fv,sc.names.lookup y=some .free
theorem pY {env:Env} (hk:env.scope.kind=.function):∀ {ns:List (Str × NameKind)} {y:Str},ns.lookup y=some .free->env.kindOf y=some .cell ->
  (ns.map fun (n,k)=>if (k == NameKind.free&&env.scope.kind == .function&&env.kindOf n == some .cell) then (n,NameKind.cell) else (n,k)).lookup y=some .cell
 | [],_,h,_=>by simp at h
 | (n,k)::r,y,h,hc=>by
  have ih:=@pY env hk r y
  show List.lookup y ((if (k == NameKind.free&&env.scope.kind == .function&&env.kindOf n == some .cell)=true then (n,NameKind.cell) else (n,k))::_)=_
  cases hx:y == n with
  | true =>
   simp only [List.lookup_cons,hx] at h
   cases h
   have e:y=n:=eq_of_beq hx
   subst e
   simp [List.lookup_cons,hc,hk]
  | false =>
   simp only [List.lookup_cons,hx] at h
   split<;>(simp only [List.lookup_cons,hx];exact ih h hc)
theorem pZ {env:Env}:∀ {ns:List (Str × NameKind)} {y:Str},(∀ z∈ns,z.2≠.cell) ->
  ((ns.map fun (n,k)=>if (k == NameKind.free&&env.scope.kind == .function&&env.kindOf n == some .cell) then (n,NameKind.cell) else (n,k)).lookup y=some .cell ∨
   (ns.map fun (n,k)=>if (k == NameKind.free&&env.scope.kind == .function&&env.kindOf n == some .cell) then (n,NameKind.cell) else (n,k)).lookup y=some .free)->(y,NameKind.free)∈ns
 | [],_,_,h=>by simp at h
 | (n,k)::r,y,hz,h=>by
  have ih:=@pZ env r y fun z hm=>hz z (Qz _ hm)
  have hk:k≠.cell:=hz (n,k) QC
  rw [List.map_cons] at h
  by_cases hc:(k == NameKind.free&&env.scope.kind == .function&&env.kindOf n == some .cell)=true
  ·have hf:k=.free:=by
    rw [Bool.and_eq_true,Bool.and_eq_true] at hc
    exact eq_of_beq hc.1.1
   simp only [hc,if_true,List.lookup_cons] at h
   cases hx:y == n with
   | true=>rw [eq_of_beq hx,hf];exact QC
   | false=>rw [hx] at h;exact Qz _ (ih h)
  ·rw [Bool.not_eq_true] at hc
   simp only [hc,Bool.false_eq_true,if_false,List.lookup_cons] at h
   cases hx:y == n with
   | true =>
    rw [hx] at h
    rcases h with h | h
    ·exact absurd (Qo h) hk
    ·have:k=.free:=Qo h
     rw [eq_of_beq hx,this];exact QC
   | false=>rw [hx] at h;exact Qz _ (ih h)
noncomputable def cp (js:List Nat) (σ:St):St:=js.map fun j=>(σ[j]?).getD none
noncomputable abbrev xc (X:Cx) (sc:Scope) (x:Str) (fv:List Str) (C:Addr) (s0:Shared) (H0:Hp) (ex:List Addr):Cx :=
 { X with N:=x::fv,s₀:=s0,H₀:=H0,env:=compEnvC sc (cj X.env.cells sc.names []) C X.env,outer:=X.stack,ex:=ex,fn:=fun _=>false,pn:=[],xe:=fun _ _=>False }
noncomputable def fJ (X:Cx) (ifs:List Expr) (t:TT):Prop :=
 ∀ (pins:List (Addr × Obj)) (s:Shared) (σ:St) (H:Hp) (Q:Bool->Hp->Prop),Inv X pins σ H s->t σ H Q->wpAny (model X.prog X.w) X.A (pX ifs X.env) (TP X pins σ Q) X.xe s
noncomputable def p4:TT:=fun _ H Q=>Q true H
theorem dZ {σ:St} {H:Hp} {Q:Bool->Hp->Prop} (h:Q true H):p4 σ H Q:=h
theorem d4 {X:Cx}:fJ X [] p4:=fun _ _ _ H _ I h=>wpAny_tests_nil ⟨H,I,h⟩
theorem gk {X:Cx} {c:Expr} {t:TT} (hc:PT X c t):fJ X [c] t:=fun pins s σ H Q I h=>wpAny_tests_one (hc pins s σ H Q I h)
noncomputable def gl (J:It) (js:List Nat) (tt:TT) (te:TE):TE:=fun σ H1 Q=>∃ W:Nat->Nat->List V->Hp->Prop,(∃ m,W 0 m [] H1)/\∀ i m ys H,W i m ys H ->
 (J.stop i H/\∀ p,H p=none->Q (.ref p) (af H p (.lst ys))) ∨
 (J.go i H/\∃ N:List V->Hp->Prop,(∀ ys' H',N ys' H'->∃ m',m'<m/\W (i+1) m' ys' H') /\
  ∀ x H',J.yld i H x H'->tt (some x::cp js σ) H' fun b H2=>if b=true then te (some x::cp js σ) H2 fun y H3=>ys.length<sizeLine/\N (ys++[y]) H3 else N ys H2)
noncomputable def p5 (wi:TI) (js:List Nat) (tt:TT) (te:TE):TE:=fun σ H Q=>wi σ H fun J H1=>gl J js tt te σ H1 Q
section
variable {X:Cx} {pins:List (Addr × Obj)} {σ:St} {H2:Hp} {s2:Shared} {elt iter:Expr} {x:Str} {px:Pos} {ifs:List Expr} {sc scX:Scope} {pos:Pos} {fv:List Str} {js:List Nat} {tt:TT} {te:TE}
theorem p6 {lo:Int} {n:Nat} {σ:St} {H:Hp} {Q:VK} (Pv:Nat->List V->Hp->Prop) (h0:Pv 0 [] H)
  (hs:∀ i ys H,i<n->Pv i ys H->tt (some (.int (lo+i))::cp js σ) H fun b H2=>if b=true then te (some (.int (lo+i))::cp js σ) H2 fun y H3=>ys.length<sizeLine/\Pv (i+1) (ys++[y]) H3 else Pv (i+1) ys H2)
  (hd:∀ ys H,Pv n ys H->∀ p,H p=none->Q (.ref p) (af H p (.lst ys))) :
  gl (eX lo n) js tt te σ H Q:=by
 refine ⟨fun i m ys H=>m=n-i/\i<=n/\Pv i ys H,⟨n,by simp,Qr _,h0⟩,?_⟩
 rintro i m ys H ⟨rfl,hi,p⟩
 by_cases hlt:i<n
 ·refine .inr ⟨hlt,Pv (i+1),fun ys' H' p'=>⟨n-(i+1),by omega,rfl,hlt,p'⟩,fun x H' y=>?_⟩
  obtain ⟨e,y⟩:=y
  subst e y
  exact hs i ys _ hlt p
 ·have e:i=n:=by omega
  subst e
  exact .inl ⟨Qh _,hd ys H p⟩
theorem j0 {K:PySem.W.Frag} {a:Addr} {xs:List V} {σ:St} {H:Hp} {Q:VK} (Pv:Nat->List V->Hp->Prop) (h0:Pv 0 [] H) (hl:∀ i ys H,i<=xs.length->Pv i ys H->am K H a xs)
  (hs:∀ i x ys H,xs[i]?=some x->Pv i ys H->tt (some x::cp js σ) H fun b H2=>if b=true then te (some x::cp js σ) H2 fun y H3=>ys.length<sizeLine/\Pv (i+1) (ys++[y]) H3 else Pv (i+1) ys H2)
  (hd:∀ ys H,Pv xs.length ys H->∀ p,H p=none->Q (.ref p) (af H p (.lst ys))) :
  gl (f9 K a) js tt te σ H Q:=by
 refine ⟨fun i m ys H=>m=xs.length-i/\i<=xs.length/\Pv i ys H,⟨xs.length,by simp,Qr _,h0⟩,?_⟩
 rintro i m ys H ⟨rfl,hi,p⟩
 have q:=hl i ys H hi p
 by_cases hlt:i<xs.length
 ·refine .inr ⟨⟨xs,xs[i],q,by simp [hlt]⟩,Pv (i+1),fun ys' H' p'=>⟨xs.length-(i+1),by omega,rfl,hlt,p'⟩,fun x H' y=>?_⟩
  obtain ⟨e,y⟩:=y
  subst e
  exact hs i x ys _ (y xs q) p
 ·have e:i=xs.length:=by omega
  subst e
  exact .inl ⟨⟨xs,q,Qh _⟩,hd ys H p⟩
end
end L2
namespace Mm
open PySem
theorem p8:∀ (n a b:Nat),a<=n->(a ||| b)=(a ^^^ b)+(a &&& b)
 | 0,a,b,h=>by
  have:a=0:=by omega
  subst this
  simp
 | n+1,a,b,h=>by
  by_cases ha:a=0
  ·subst ha;simp
  ·have ih:=p8 n (a / 2) (b / 2) (by omega)
   have e1:(a ||| b) / 2=a / 2 ||| b / 2:=Nat.or_div_two
   have e2:(a ^^^ b) / 2=a / 2 ^^^ b / 2:=Nat.xor_div_two
   have e3:(a &&& b) / 2=a / 2 &&& b / 2:=Nat.and_div_two
   have m1:(a ||| b) % 2=(a % 2 ||| b % 2):=by simpa using Nat.or_mod_two_pow (a:=a) (b:=b) (n:=1)
   have m2:(a ^^^ b) % 2=(a % 2 ^^^ b % 2):=by simpa using Nat.xor_mod_two_pow (a:=a) (b:=b) (n:=1)
   have m3:(a &&& b) % 2=(a % 2 &&& b % 2):=by simpa using Nat.and_mod_two_pow (a:=a) (b:=b) (n:=1)
   have d:∀ x<2,∀ y<2,(x ||| y)=(x ^^^ y)+(x &&& y):=by decide
   have dd:=d (a % 2) (by omega) (b % 2) (by omega)
   omega
theorem mm (a b:Nat):Builtin.bitAnd (a:Int) (b:Int)=((a &&& b:Nat):Int):=by
 rw [PyProof.Rows.bitAnd_pp (by omega) (by omega)]
 simp
theorem xA (a b:Nat):Builtin.bitOr (a:Int) (b:Int)=((a ||| b:Nat):Int):=by
 have ha:¬ 0<=Builtin.bitNot (a:Int):=by unfold Builtin.bitNot;omega
 have hb:¬ 0<=Builtin.bitNot (b:Int):=by unfold Builtin.bitNot;omega
 unfold Builtin.bitOr
 rw [PyProof.Rows.bitAnd_nn ha hb,PyProof.Rows.bitNot_bitNot,PyProof.Rows.bitNot_bitNot,PyProof.Rows.bitNot_bitNot]
 simp
theorem xB (a b:Nat):Builtin.bitXor (a:Int) (b:Int)=((a ^^^ b:Nat):Int):=by
 unfold Builtin.bitXor
 rw [xA,mm]
 have:=p8 a a b (Qh _)
 omega
end Mm
namespace L2
open PySem PySem.Spec PyProof.Rows
section
variable {X:Cx}
theorem xC {n:String}:c9 X (.builtin "isinstance") (fun xs H Q=>∃ x t b,xs=[x,.ty n]/\cQ X.K H x t/\PySem.W.kitOne X.K t (.type n)=some b/\Q (.bl b) H):=by
 intro pins s σ H xs us Q I r h
 obtain ⟨x,t,b,rfl,ty,e,q⟩:=h
 obtain ⟨u,w',rfl,rx,rw'⟩:=vals2 r
 cases (show w'=Value.type n from rw')
 exact wB I rx ty e fun tk=>⟨.bl b,H,I.tok _,rfl,q⟩
end
theorem j1:bootBuiltins "len"=some (.builtin "len"):=by decide +kernel
theorem iY:bootBuiltins "isinstance"=some (.builtin "isinstance"):=by decide +kernel
theorem cS {X:Cx} {K:PySem.W.Frag} (h:X.K=K):gW X (pP K):=by subst h;exact wZ
end L2
namespace L2
open PySem PySem.Spec PyProof.Rows
section
variable {X:Cx}
theorem xD:md X "int.bit_length" (fun x xs H Q=>∃ i,x=.int i/\xs=[]/\Q (.int ((Builtin.Int.intBits i:Nat):Int)) H):=by
 intro pins s σ H x xs v us Q I rx rs h
 obtain ⟨i,rfl,rfl,q⟩:=h
 obtain ⟨t,rfl⟩:=rx
 cases rs
 exact call_int_bit_length ⟨.int _,H,I.tok _,⟨_,rfl⟩,q⟩
end
theorem iZ:bootBuiltins "list"=some (.type "list"):=by decide +kernel
end L2
namespace L2
open PySem PySem.Spec PyProof.Rows
section
variable {X:Cx}
noncomputable def ff (z:Str) (lo hi:Option Int):Str:=⟨((z.cps.toList.drop (HT.sIx z.length 0 lo)).take (HT.sIx z.length z.length hi-HT.sIx z.length 0 lo)).toArray⟩
theorem qa (n d:Nat) (v:Option Int):(match v with | none=>(d:Int) | some i=>max 0 (min (if i<0 then i+(n:Int) else i) (n:Int)))=((HT.sIx n d v:Nat):Int):=by
 cases v with
 | none=>rfl
 | some i =>
  show max 0 (min (if i<0 then i+(n:Int) else i) (n:Int))=(((if i<0 then (i+(n:Int)).toNat else min i.toNat n):Nat):Int)
  by_cases h:i<0
  ·simp only [if_pos h];omega
  ·simp only [if_neg h];omega
theorem xE (lo hi:Option Int) (n:Nat):Builtin.Str.strSliceIndices lo hi 1 n=(List.range (HT.sIx n n hi-HT.sIx n 0 lo)).map (HT.sIx n 0 lo+·):=by
 rw [<- sliceRange_one]
 have e1:=qa n 0 lo
 have e2:=qa n n hi
 rw [<- e1,<- e2]
 rfl
theorem xF (z:Str) (lo hi:Option Int):Txt.slice z lo hi=ff z lo hi:=by
 have hL:=HT.sIx_le z.length 0 (Qr _) lo
 have hH:=HT.sIx_le z.length z.length (Qh _) hi
 have hz:z.cps.toList.length=z.length:=by simp [Str.length]
 unfold Txt.slice ff
 rw [xE]
 split
 ·rename_i h
  have h':HT.sIx z.length z.length hi-HT.sIx z.length 0 lo=z.length:=by simpa using h
  rw [h']
  by_cases h0:HT.sIx z.length 0 lo=0
  ·rw [h0,List.drop_zero,QB (by omega)]
  ·have:z.length=0:=by omega
   omega
 ·rw [pick_run]
theorem qb (z:Str) (lo hi:Option Int):(ff z lo hi).cps.toList=(z.cps.toList.drop (HT.sIx z.length 0 lo)).take (HT.sIx z.length z.length hi-HT.sIx z.length 0 lo):=rfl
theorem qc (z:Str) (lo hi:Option Int):(ff z lo hi).length<=z.length:=by
 show ((z.cps.toList.drop (HT.sIx z.length 0 lo)).take (HT.sIx z.length z.length hi-HT.sIx z.length 0 lo)).toArray.size<=z.length
 rw [Ql,Qx,List.length_drop]
 have hz:z.cps.toList.length=z.length:=by simp [Str.length]
 omega
theorem qf:jU X (fun x lo hi H Q=>∃ z,x=.str z/\z.length<=sizeLine/\Q (.str (ff z lo hi)) H):=by
 intro pins s σ H x v vl vu lo hi sl Q I rx hs pl pu h
 obtain ⟨z,rfl,hz,q⟩:=h
 obtain ⟨t,rfl⟩:=rx
 rw [<- xF] at q
 refine ⟨"str",_,slot_str_getitem.lookup,typeIs_str s z t,?_⟩
 have key:∀ (l u:Option (Int × Tok)),s.heap.IsSliceOf sl (partValue l) (partValue u) .none->l.map (·.1)=lo->u.map (·.1)=hi->wpAny (model X.prog X.w) X.A (getItem (.str z t) (.ref sl)) (EP X pins σ Q) X.xe s:=by
  intro l u hs' hl hu
  subst hl hu
  exact wpAny_getItem_str_slice (l:=l) (u:=u) (st:=none) hs' rfl (post_val_or_str ⟨QH (Txt.slice_le z _ _) hz,fun t' k=>⟨.str (Txt.slice z (l.map (·.1)) (u.map (·.1))),H,I.tok k,⟨t',rfl⟩,q⟩⟩)
 cases pl with
 | none=>cases pu with
  | none=>exact key none none hs rfl rfl
  | int j tj=>exact key none (some (j,tj)) hs rfl rfl
 | int i ti=>cases pu with
  | none=>exact key (some (i,ti)) none hs rfl rfl
  | int j tj=>exact key (some (i,ti)) (some (j,tj)) hs rfl rfl
noncomputable def mn (n:Nat) (y:Nat->V):It:=⟨fun i _=>i<n,fun i H x H'=>H'=H/\x=y i,fun i _=>n<=i⟩
end
end L2
namespace PySem.F
end PySem.F
namespace PySem
section
variable {prog:Program} {w:World} {A:Around} {E:Value->Shared->Prop} {s:Shared}
end
end PySem
namespace L2
open PySem PySem.Spec PyProof.Rows
section
variable {X:Cx} {tg:Expr}
end
end L2
namespace L2
open PySem PySem.Spec PyProof.Rows
section
variable {X:Cx} {a:Addr} {kvs:List (Str × Int)} {x:Str} {p pos apos cpos:Pos} {e f:Expr} {ty tx:TE}
end
end L2
namespace L2
open PySem PySem.Spec PyProof.Rows
section
variable {X:Cx}
end
theorem xG (K:PySem.W.Frag) (C:Addr):PySem.W.kitOne K (.ref C) (.ref C)=some true:=by
 unfold PySem.W.kitOne
 rw [if_pos (by simp)]
end L2
namespace L2
open PySem PySem.Spec PyProof.Rows
section
variable {X:Cx}
end
section
variable {X:Cx} {pins:List (Addr × Obj)} {σ:St} {H H':Hp} {s s':Shared} {B h'':Heap}
end
section
variable {P:Program} {w:World} {K:PySem.W.Frag} {mg:Str->Option Value} {base:Heap} {N:List Str} {qual:Str} {scope:Scope} {f:Addr} {cd:Value} {A:Around} {outer:List Env} {s₀:Shared} {H₀:Hp} {E:XK}
end
section
variable {X:Cx}
end
end L2
namespace L2
open PySem PySem.Spec PyProof.Rows
section
variable {prog:Program} {w:World} {A:Around} {E:Value->Shared->Prop} {s:Shared} {K:PySem.W.Frag} {x D:Addr} {name:Str}
end
section
variable {X:Cx}
end
section
variable {X:Cx} {CX:dv} {k:Nat} {f C:Addr} {fd:FuncData} {ps:List Str} {sp:Sp} {dvs:List V} {ds:List Value} {x m:Str} {p pos apos:Pos} {e o:Expr} {es:List Expr} {ta:TE} {t:TA}
end
section
variable {X:Cx} {pins:List (Addr × Obj)} {σ:St} {H:Hp} {s:Shared}
end
section
variable {X:Cx}
end
end L2
namespace L2
open PySem PySem.Spec PyProof.Rows
section
variable {X:Cx} {CX:dv} {e:Expr} {te:XK->TE} {pos:Pos}
end
section
variable {X:Cx} {CX:dv} {k:Nat} {f C:Addr} {fd:FuncData} {ps:List Str} {sp:Sp} {dvs:List V} {ds:List Value} {x m:Str} {p pos apos:Pos} {e o:Expr} {es:List Expr} {ta:TE} {t:TA}
end
section
variable {X:Cx}
end
end L2
namespace L2
open PySem PySem.Spec PyProof.Rows
theorem xH {prog:Program} {w:World} {A:Around} {R:Result->Shared->Prop} {s:Shared} {elt iter:Expr} {tg:Expr} {ifs:List Expr} {sc:Scope} {pos:Pos} {it acc:Value} {env:Env} (J:Nat->Shared->Prop)
  (one:∀ k st,J k st->wpAny (model prog w) A (pyNext it) (fun r s₁=>match r with
   | none=>R (.ok .next) s₁
   | some v=>wpAny (model prog w) A (letOwnedTupleGo tg it v) (fun _ sg=>wpAny (model prog w) A (assign tg env v) (fun _ s₂ =>
     wpAny (model prog w) A (pX ifs env) (fun ok s₃ =>
      if ok=true then wpAny (model prog w) A (eval elt env) (fun y s₄=>wpAny (model prog w) A (call (.builtin "list.append") [acc,y]) (fun _ s₅=>∃ m,m<k/\J m s₅) (fun _ _=>False) s₄) (fun _ _=>False) s₃
      else ∃ m,m<k/\J m s₃) (fun _ _=>False) s₂) (fun _ _=>False) sg) (fun _ _=>False) s₁) (fun _ _=>False) st)
  (k0:Nat) (h0:J k0 s):codeAny (model prog w) A (.compLoop (.ListComp elt [⟨tg,iter,ifs,0⟩] sc pos) 0 it acc env) R s:=by
 refine codeAny_loop rfl J (fun k st hk=>?_) k0 h0
 show wpAny _ A ((compTurn (.ListComp elt [⟨tg,iter,ifs,0⟩] sc pos) 0 it acc env).onRaise (fun y=>do noteFrame y env;theTreesLotGoes y)) _ _ st
 refine wpAny_noted ?_
 rw [compTurn_list]
 refine Qa (wpAny_standAt (Qa (QL (one k st hk) (fun r s₁ h₁=>?_) fun _ _ z=>z.elim)))
 cases r with
 | none=>exact Qd h₁
 | some v =>
  refine Qa (QL h₁ (fun _ sg hg=>?_) fun _ _ z=>z.elim)
  refine Qa (QL hg (fun _ s₂ h₂=>?_) fun _ _ z=>z.elim)
  refine Qa (QL h₂ (fun ok s₃ h₃=>?_) fun _ _ z=>z.elim)
  cases ok with
  | false=>exact Qd ⟨rfl,h₃⟩
  | true =>
   refine Qa (Qa (QL h₃ (fun y s₄ h₄=>?_) fun _ _ z=>z.elim))
   exact Qa (QL h₄ (fun _ s₅ h₅=>Qd (Qd ⟨rfl,h₅⟩)) fun _ _ z=>z.elim)
structure j2 (scX sc:Scope) (NX:List Str) (xs:List Str) (fv:List Str) (js:List Nat):Prop where
 kind:sc.kind=.function
 kindX:scX.kind=.function
 cell:∀ y∈sc.names,y.2≠.cell
 own:∀ x∈xs,sc.names.lookup x=some .local
 names:∀ y∈sc.names,y.2=.local->sc.names.lookup y.1=some .local
 free:∀ y∈sc.names,y.2=.free->scX.names.lookup y.1=some .cell
 nd:(xs++fv).Nodup
 at':js.map (fun j=>NX[j]?)=fv.map some
 fr:∀ y∈fv,sc.names.lookup y=some .free
noncomputable abbrev di (X:Cx) (sc:Scope) (xs:List Str) (fv:List Str) (C:Addr) (s0:Shared) (H0:Hp) (ex:List Addr):Cx :=
 { X with N:=xs++fv,s₀:=s0,H₀:=H0,env:=compEnvC sc (cj X.env.cells sc.names []) C X.env,outer:=X.stack,ex:=ex,fn:=fun _=>false,pn:=[],xe:=fun _ _=>False }
noncomputable def i0 (k:Nat) (js:List Nat) (g:TG) (tt:TT) (te:TE) (σ:St) (ys:List V) (N:List V->Hp->Prop) (x:V) (H':Hp):Prop :=
 ∀ os:List (Option V),os.length=k->g x (os++cp js σ) H' fun σ6 H6=>(∃ os':List (Option V),os'.length=k/\σ6=os'++cp js σ) /\
  tt σ6 H6 fun b H2=>if b=true then te σ6 H2 fun y H3=>ys.length<sizeLine/\N (ys++[y]) H3 else N ys H2
noncomputable def j3 (J:It) (k:Nat) (js:List Nat) (g:TG) (tt:TT) (te:TE):TE:=fun σ H1 Q=>∃ W:Nat->Nat->List V->Hp->Prop,(∃ m,W 0 m [] H1)/\∀ i m ys H,W i m ys H ->
 (J.stop i H/\∀ p,H p=none->Q (.ref p) (af H p (.lst ys))) ∨
 (J.go i H/\∃ N:List V->Hp->Prop,(∀ ys' H',N ys' H'->∃ m',m'<m/\W (i+1) m' ys' H')/\∀ x H',J.yld i H x H'->i0 k js g tt te σ ys N x H')
noncomputable def qg (wi:TI) (k:Nat) (js:List Nat) (g:TG) (tt:TT) (te:TE):TE:=fun σ H Q=>wi σ H fun J H1=>j3 J k js g tt te σ H1 Q
section
variable {X:Cx} {pins:List (Addr × Obj)} {σ:St} {H2:Hp} {s2:Shared} {elt iter tg:Expr} {xs:List Str} {ifs:List Expr} {sc scX:Scope} {pos:Pos} {fv:List Str} {js:List Nat} {g:TG} {tt:TT} {te:TE}
theorem mo (S:j2 scX sc X.N xs fv js) (hsx:X.env.scope=scX) (hcalm:X.calm=true) (hgg:∀ C s0 H0 ex,PG (di X sc xs fv C s0 H0 ex) tg g)
  (ht:∀ C s0 H0 ex,fJ (di X sc xs fv C s0 H0 ex) ifs tt) (he:∀ C s0 H0 ex,PE (di X sc xs fv C s0 H0 ex) elt te)
  {it:Addr} {fp:List Addr} {tn:Nat->Heap->Prop} {J:It} (I2:Inv X pins σ H2 s2) (T:eW X.prog X.w X.K tg J fp it tn) (st2:tn 0 s2.heap) (f2:∀ b∈fp,ck X pins H2 b)
  {Q:VK} {W:Nat->Nat->List V->Hp->Prop} (w0:∃ m,W 0 m [] H2)
  (step:∀ i m ys H,W i m ys H->(J.stop i H/\∀ p,H p=none->Q (.ref p) (af H p (.lst ys))) ∨
   (J.go i H/\∃ N:List V->Hp->Prop,(∀ ys' H',N ys' H'->∃ m',m'<m/\W (i+1) m' ys' H') /\
    ∀ x H',J.yld i H x H'->i0 xs.length js g tt te σ ys N x H'))
  {RR:Value->Addr->Result->Shared->Prop} {E:Value->Shared->Prop}
  (fin:∀ (D C:Addr) (s':Shared) (H':Hp),Inv X pins σ H' s'->Q (.ref D) H'->(∃ m,s'.heap.Ns C m)->ck X pins H' C->RR (.ref D) C (.ok .next) s') :
  wpAny (model X.prog X.w) X.A (newList []) (fun acc s₃=>wpAny (model X.prog X.w) X.A (newFunctionEnv sc X.env.globals (cj X.env.cells sc.names []) [] X.env.qual none .none (some X.env)) (fun cenv s₄ =>
   codeAny (model X.prog X.w) X.A (.compStart (.ListComp elt [⟨tg,iter,ifs,0⟩] sc pos) 0 (.ref it) acc { cenv with scope:=relabel sc X.env }) (RR acc cenv.locals) s₄) E s₃) E s2:=by
 have hfree:∀ y∈sc.names,y.2=.free->∃ c,X.env.cells.lookup y.1=some c:=fun y hy hf=>I2.ok.has y.1 (.inl (by show X.env.scope.names.lookup y.1=_;rw [hsx];exact S.free y hy hf))
 obtain ⟨cl1,_,cl3⟩:=ml (cells:=X.env.cells) sc.names [] hfree (fun y c h=>by simp at h)
 refine wpAny_newObj_type (wpAny_newFunctionEnv S.cell (by intro y hy;simp at hy) (fun h₁ hns₁ hsb₁=>?_) S.kind)
 dsimp only at hns₁ hsb₁ ⊢
 generalize hG:s2.heap.push { cls:=.type "list",dict:=none,data:=.seq ([]:List Value).toArray }=G at hns₁ hsb₁ ⊢
 have hGz:G.objs.size=s2.heap.objs.size+1:=by rw [<- hG,Heap.size_push]
 have upG:∀ b o,s2.heap.get? b=some o->G.get? b=some o:=fun b o e=>hG ▸ Qe _ e
 have upH:∀ b o,G.get? b=some o->h₁.get? b=some o:=fun b o e=>hsb₁.extBut b o (Qt (Qm e)) (Qe _ e)
 have ltD:∀ b o,s2.heap.get? b=some o->b≠s2.heap.objs.size:=fun b o e=>Qt (Qm e)
 have fpo:∀ b∈fp,∃ o,s2.heap.get? b=some o:=fun b hb=>by obtain ⟨o,e,_⟩:=T.obj 0 _ st2 b hb;exact ⟨o,e⟩
 have fpD:∀ b∈fp,b≠s2.heap.objs.size:=fun b hb=>by obtain ⟨o,e⟩:=fpo b hb;exact ltD b o e
 have fpC:∀ b∈fp,b≠G.objs.size:=fun b hb=>by obtain ⟨o,e⟩:=fpo b hb;exact Qt (Qm (upG b o e))
 have cellO:∀ y c,(cj X.env.cells sc.names []).lookup y=some c->∃ v,s2.heap.IsCell c v:=fun y c e=>I2.cell y c (cl1 y c e)
 have cellD:∀ y c,(cj X.env.cells sc.names []).lookup y=some c->c≠s2.heap.objs.size:=fun y c e=>by obtain ⟨v,q⟩:=cellO y c e;exact Qt q.lt
 have Dfs:s2.heap.objs.size∉dF X.stack:=fun hb=>by
  rcases Qu (I2.stkSub _ hb) with z | z
  ·exact absurd I2.lt (by rw [<- z];exact Nat.lt_irrefl _)
  ·exact I2.nofs (Qh _) z
 have fpfs:∀ b∈fp,b∉dF X.stack:=fun b hb hz=>by
  obtain ⟨_,f1,f2',_⟩:=f2 b hb
  rcases Qu (I2.stkSub _ hz) with z | z
  ·exact f1 z
  ·exact f2' z
 have HD:H2 s2.heap.objs.size=none:=I2.hok.fresh (Qh _)
 have HC:H2 G.objs.size=none:=I2.hok.fresh (by rw [hGz];exact Nat.le_succ _)
 have DC:s2.heap.objs.size≠G.objs.size:=by rw [hGz];exact Qt (Nat.lt_succ_self _)
 have okC:Cx.Ok (di X sc xs fv G.objs.size { s2 with heap:=G } H2 (s2.heap.objs.size::fp)):=by
  refine ⟨I2.ok.mod,S.kind,I2.ok.glob,I2.ok.blt,Qh _,fun y z c h1 h2=>I2.ok.inj y z c (cl1 _ _ h1) (cl1 _ _ h2),fun y hy=>?_,fun y c hfn _=>(by cases hfn),I2.ok.hd,I2.ok.frames,.inl rfl,fun b hb=>?_,fun b o e=>?_,?_,fun b o e hb=>?_,fun b hb=>?_,?_,I2.stkFree⟩
  ·exact Option.isSome_iff_exists.mp (cl3 y (pZ S.cell hy))
  ·rcases Qu hb with z | z
   ·subst z;exact ⟨DC,cellD⟩
   ·refine ⟨fpC b z,fun y c e=>?_⟩
    obtain ⟨_,_,_,_,f4,_⟩:=f2 b z
    exact f4 y c (cl1 y c e)
  ·exact ⟨upG b o (I2.bs b o e).1,(I2.bs b o e).2⟩
  ·show X.base.objs.size<=G.objs.size
   rw [hGz];exact Nat.le_succ_of_le (QH I2.ok.bsz I2.sz)
  ·rcases Qu hb with z | z
   ·exact ltD b o (I2.bk b o e) z
   ·obtain ⟨_,_,_,f3,_⟩:=f2 b z
    rcases f3 with q | q
    ·exact I2.ok.noex b o e q
    ·exact absurd (Nat.lt_of_lt_of_le (Qm e) (QH I2.ok.bsz q)) (Nat.lt_irrefl _)
  ·rcases Qu hb with z | z
   ·subst z;exact Dfs
   ·exact fpfs b z
  ·exact (I2.stack).of_keeps fun b o e _=>⟨o,upG b o e,rfl⟩
 have lenC:∀ os:List (Option V),os.length=xs.length->(os++cp js σ).length=(xs++fv).length:=fun os ho=>by
  have:=congrArg List.length S.at'
  simp only [Qf] at this
  simp [cp,this,ho]
 have hacc:h₁.get? s2.heap.objs.size=some { cls:=.type "list",dict:=none,data:=.seq ([]:List Value).toArray }:=upH _ _ (hG ▸ Qj _ rfl)
 have I4:Inv (di X sc xs fv G.objs.size { s2 with heap:=G } H2 (s2.heap.objs.size::fp)) [(s2.heap.objs.size,{ cls:=.type "list",dict:=none,data:=.seq ([]:List Value).toArray })] (xs.map (fun _=>none)++cp js σ) H2 { s2 with heap:=h₁,toks:=s2.toks+([]:List (Str × Value)).length }:=by
  refine ⟨okC,rfl,I2.bare,Un.kept upH,⟨_,hns₁,fun i y v e1 e2 e3=>?_⟩,fun y c e=>?_,HC,fun y c e=>I2.freeC y c (cl1 y c e),fun p hp=>?_,I2.hok.kept fun b u e=>upH b u (upG b u e),lenC _ (by simp)⟩
  ·by_cases hix:i<xs.length
   ·have:(xs.map (fun _=>(none:Option V))++cp js σ)[i]?=some none:=by
     rw [Qw (by simpa using hix),Qk,Qb hix];rfl
    rw [this] at e2
    cases e2
   ·obtain ⟨i',rfl⟩:∃ i',i=xs.length+i':=⟨i-xs.length,by omega⟩
    have e1':fv[i']?=some y:=by
     have e1a:(xs++fv)[xs.length+i']?=some y:=e1
     rw [Qq (by omega),Nat.add_sub_cancel_left] at e1a
     exact e1a
    have e2':(cp js σ)[i']?=some (some v):=by
     have e2a:=e2
     rw [Qq (by simp),Qf,Nat.add_sub_cancel_left] at e2a
     exact e2a
    have q:=congrArg (fun l=>l[i']?) S.at'
    simp only [Qk,e1',Option.map_some] at q
    cases hj:js[i']? with
    | none=>rw [hj] at q;cases q
    | some j =>
     rw [hj] at q
     have hj':X.N[j]?=some y:=Qo q
     unfold cp at e2'
     rw [Qk,hj] at e2'
     have e2'':(σ[j]?).getD none=some v:=Qo e2'
     have e2b:σ[j]?=some (some v):=by
      cases hh:σ[j]? with
      | none=>rw [hh] at e2'';cases e2''
      | some o=>rw [hh] at e2'';exact congrArg some e2''
     have hm:y∈fv:=QD e1'
     have hcX:scX.names.lookup y=some .cell:=S.free (y,.free) (PySem.mem_of_lookup (S.fr y hm)) rfl
     have kX:X.env.kindOf y=some .cell:=by show X.env.scope.names.lookup y=_;rw [hsx];exact hcX
     obtain ⟨m,hn,hl⟩:=I2.loc
     obtain ⟨u,r,lk⟩:=hl j y v hj' e2b (.inr (.inl kX))
     refine ⟨u,r,?_⟩
     rcases lk with ⟨k,_⟩ | ⟨_,c,ec,z⟩
     ·rw [kX] at k;cases k
     ·refine .inr ⟨.inl (pY (by rw [hsx];exact S.kindX) (S.fr y hm) kX),c,?_,?_⟩
      ·obtain ⟨c',ec'⟩:=Option.isSome_iff_exists.mp (cl3 y (PySem.mem_of_lookup (S.fr y hm)))
       have:=cl1 y c' ec'
       rw [ec] at this;cases this
       exact ec'
      ·obtain ⟨o,ho,hd⟩:=z
       exact ⟨o,upH c o (upG c o ho),hd⟩
  ·obtain ⟨v,o,ho,hd⟩:=cellO y c e
   exact ⟨v,o,upH c o (upG c o ho),hd⟩
  ·have hp':p=(s2.heap.objs.size,{ cls:=.type "list",dict:=none,data:=.seq ([]:List Value).toArray }):=by simpa using hp
   subst hp'
   exact ⟨hacc,HD,DC,Dfs,fun v z=>by cases z⟩
 have loop:codeAny (model X.prog X.w) X.A (.compLoop (.ListComp elt [⟨tg,iter,ifs,0⟩] sc pos) 0 (.ref it) (.ref s2.heap.objs.size) (compEnvC sc (cj X.env.cells sc.names []) G.objs.size X.env)) (RR (.ref s2.heap.objs.size) G.objs.size) { s2 with heap:=h₁,toks:=s2.toks+([]:List (Str × Value)).length }:=by
  obtain ⟨m0,w0⟩:=w0
  have fok:∀ {H':Hp} {o:Obj},(∀ b∈fp,H' b=none)->∀ b∈fp,ck (di X sc xs fv G.objs.size { s2 with heap:=G } H2 (s2.heap.objs.size::fp)) [(s2.heap.objs.size,o)] H' b:=fun {H' o} hn b hb=>by
   refine ⟨hn b hb,fpC b hb,fpfs b hb,.inl (Qz _ hb),fun y c e=>?_,fun p hp=>?_⟩
   ·obtain ⟨_,_,_,_,f4,_⟩:=f2 b hb
    exact f4 y c (cl1 y c e)
   ·have hp':p=(s2.heap.objs.size,o):=by simpa using hp
    subst hp'
    exact (fpD b hb).symm
  refine xH (fun k st=>∃ (i:Nat) (ys:List V) (its:List Value) (n:Nat) (os:List (Option V)) (H':Hp),os.length=xs.length/\Inv (di X sc xs fv G.objs.size { s2 with heap:=G } H2 (s2.heap.objs.size::fp)) [(s2.heap.objs.size,{ cls:=.type "list",data:=.seq its.toArray n })] (os++cp js σ) H' st /\
   aw ys its/\ys.length<=sizeLine/\tn i st.heap/\(∀ b∈fp,H' b=none)/\W i k ys H') ?_ m0
   ⟨0,[],[],_,xs.map (fun _=>none),H2,by simp,I4,.nil,Qr _,T.keep _ _ _ st2 fun b _ o e=>upH b o (upG b o e),fun b hb=>(f2 b hb).1,w0⟩
  rintro k s3 ⟨i,ys,its,n,os,H3,hos,I3,rv,hz,st3,fr3,w3⟩
  rcases step i k ys H3 w3 with ⟨stop,q⟩ | ⟨go,N,hN,hgo⟩
  ·refine ay (T.done (di X sc xs fv G.objs.size { s2 with heap:=G } H2 (s2.heap.objs.size::fp)) rfl rfl rfl hcalm i _ s3 _ H3 _ I3 (fok fr3) st3 stop) fun r s4 hsl41=>?_
   obtain ⟨hr,I4⟩:=hsl41
   subst hr
   obtain ⟨pD,pn,_,_,_⟩:=I4.pin _ (List.mem_append_right _ QC)
   have B:=I4.base
   have nD:∀ b o,s2.heap.get? b=some o->b∉fp->b∉s2.heap.objs.size::fp:=fun b o e hx hm=>(Qu hm).elim (ltD b o e) hx
   have neH:∀ b u,H2 b=some u->b≠s2.heap.objs.size:=fun b u e z=>by rw [z,HD] at e;cases e
   have JX:Inv X pins σ (af H3 s2.heap.objs.size (.lst ys)) s4:=by
    refine I2.call' (ch:=fp) I4.os ⟨fun b o e hn hb hx=>B.keep b o (upG b o e) hn hb (nD b o e hx),fun b o e hn hb hx=>B.slot b o (upG b o e) hn hb (nD b o e hx),fun b o e hn hx=>?_,fun b o e hx=>B.there b o (upG b o e) (nD b o e hx),fun b xs e=>?_,fun b o u e=>?_,fun b ps e=>?_⟩ (fun b u e=>?_) I4.bare fun b hb=>?_
    ·rw [ar (ltD b o e)];exact B.free b o (upG b o e) hn (nD b o e hx)
    ·rw [ar (neH b _ e)];exact B.tups b xs e
    ·rw [ar (neH b _ e)];exact B.frzs b o u e
    ·rw [ar (neH b _ e)];exact B.tbls b ps e
    ·by_cases hb:b=s2.heap.objs.size
     ·subst hb
      rw [aj] at e;cases e
      exact ⟨hz,its,n,rv,pD⟩
     ·rw [ar hb] at e
      exact (I4.hok b u e).stay (fun _ _ _ z=>z) (fun c z=>by rw [ar (cD z pn)];exact z) fun c xs z=>by rw [ar (cD z pn)];exact z
    ·obtain ⟨_,f1,_,f3,f4,f5⟩:=f2 b hb
     exact ⟨f3,f1,f4,f5⟩
   refine fin _ _ s4 _ JX (q _ pn) (by obtain ⟨m,hm,_⟩:=I4.loc;exact ⟨m,hm⟩) (I2.fpOk (by rw [hGz];exact Nat.le_succ _) ?_)
   rw [ar DC.symm];exact I4.free
  ·refine ay (T.item (di X sc xs fv G.objs.size { s2 with heap:=G } H2 (s2.heap.objs.size::fp)) rfl rfl rfl hcalm i _ s3 _ H3 _ I3 (fok fr3) st3 go) fun r s4 hsl42=>?_
   obtain ⟨u,hr,h4⟩:=hsl42
   subst hr
   refine ay h4 fun _ s5 hsl43=>?_
   obtain ⟨y,H5,I5,r5,y5,st5,fr5⟩:=hsl43
   have I5':=I5.pinned (fok fr5) (T.obj _ _ st5)
   refine ay (hgg _ _ _ _ _ s5 _ H5 y u _ I5' r5 (hgo y _ y5 os hos)) fun _ s6 hsl44=>?_
   obtain ⟨σ6,H6,I6,⟨os',hos',eσ⟩,q6⟩:=hsl44
   subst eσ
   refine ay (ht _ _ _ _ _ s6 _ _ _ I6 q6) fun b s7 hsl45=>?_
   obtain ⟨H7,I7,q7⟩:=hsl45
   cases b with
   | false =>
    rw [if_neg Bool.false_ne_true] at q7 ⊢
    obtain ⟨m',hm,w7⟩:=hN ys H7 q7
    exact ⟨m',hm,i+1,ys,its,n,os',H7,hos',I7.unpinned,rv,hz,T.keep _ _ _ st5 fun b hb o e=>(I7.pin (b,o) (List.mem_append_right _ (List.mem_append_right _ (fC hb e)))).1,fun b hb=>by
     obtain ⟨o,e,d⟩:=T.obj _ _ st5 b hb
     exact (I7.pin (b,o) (List.mem_append_right _ (List.mem_append_right _ (fC hb e)))).2.1,w7⟩
   | true =>
    rw [if_pos rfl] at q7 ⊢
    refine ay (he _ _ _ _ _ s7 _ H7 _ I7 q7) fun u8 s8 hsl46=>?_
    obtain ⟨y8,H8,I8,r8,hl8,q8⟩:=hsl46
    obtain ⟨m',hm,w8⟩:=hN _ H8 q8
    obtain ⟨pD,pn,pC,pf,_⟩:=I8.pin _ (List.mem_append_right _ (List.mem_append_left _ QC))
    refine wpAny_list_append_plain (items:=its.toArray) ⟨n,pD⟩ (fun h9 hl9 sb9=>?_) (by rw [Ql,<- rv.length];exact Nat.le_of_lt hl8)
    have pinF:∀ p∈gf fp s5.heap,p∈[(s2.heap.objs.size,({ cls:=.type "list",data:=.seq its.toArray n }:Obj))]++gf fp s5.heap:=fun p hp=>List.mem_append_right _ hp
    have I8a:=I8.pins_of (pins':=gf fp s5.heap) fun p hp=>I8.pin p (List.mem_append_right _ (pinF p hp))
    have I9:=I8a.turned (it:=s2.heap.objs.size) (h':=h9) (t':=s8.toks) (fun b o hb e=>(sb9.2 b hb).trans e) pn DC (.inl QC) (fun y c e=>cellD y c e) fun p hp=>fpD p.1 (oZ (by simpa using hp)).1
    obtain ⟨n9,e9⟩:=hl9
    have e9':h9.get? s2.heap.objs.size=some { cls:=.type "list",data:=.seq (its++[u8]).toArray n9 }:=by
     rw [e9,show (its++[u8]).toArray=its.toArray.push u8 by simp]
    refine ⟨m',hm,i+1,ys++[y8],its++[u8],n9,os',H8,hos',I9.pins_of fun p hp=>?_,rv.append (.cons r8 .nil),by rw [Qv];exact hl8,T.keep _ _ _ st5 fun b hb o e=>(I9.pin (b,o) (List.mem_append_right _ (fC hb e))).1,fun b hb=>?_,w8⟩
    ·have hp':p=(s2.heap.objs.size,{ cls:=.type "list",data:=.seq (its++[u8]).toArray n9 }):=by simpa using hp
     subst hp'
     exact ⟨e9',pn,DC,pf,fun v z=>by cases z⟩
    ·obtain ⟨o,e,d⟩:=T.obj _ _ st5 b hb
     exact (I9.pin (b,o) (List.mem_append_right _ (fC hb e))).2.1
 exact codeAny_compStart_list loop (T.self _ 0 _ _ _ (T.keep _ _ _ st2 fun b _ o e=>upH b o (upG b o e)) loop)
theorem gm {wi:TI} (scX:Scope) (NX fv:List Str) (js:List Nat) (hNX:X.N=NX) (S:j2 scX sc NX xs fv js) (hsx:X.env.scope=scX) (hcalm:X.calm=true) (hi:PI X tg iter wi) (hgg:∀ C s0 H0 ex,PG (di X sc xs fv C s0 H0 ex) tg g)
  (ht:∀ C s0 H0 ex,fJ (di X sc xs fv C s0 H0 ex) ifs tt) (he:∀ C s0 H0 ex,PE (di X sc xs fv C s0 H0 ex) elt te)
  (hs:∀ v,foldedSetIterable iter X.env v=pure v:=by intro _;rfl):PE X (.ListComp elt [⟨tg,iter,ifs,0⟩] sc pos) (qg wi xs.length js g tt te):=by
 intro pins s σ H Q I h
 rw [<- hNX] at S
 have hfree:∀ y∈sc.names,y.2=.free->∃ c,X.env.cells.lookup y.1=some c:=fun y hy hf=>I.ok.has y.1 (.inl (by show X.env.scope.names.lookup y.1=_;rw [hsx];exact S.free y hy hf))
 rw [eval_ListComp]
 refine wpAny_comprehension_free (use:=none) rfl hs (jZ hfree) S.kind S.names (ay (hi pins s σ H _ I h) fun v s1 h1=>ay h1 fun itv s2 h2=>?_)
 obtain ⟨it,fp,tn,J,H2,e,I2,T,st2,f2,W,w0,step⟩:=h2
 subst e
 refine mo (RR:=fun acc C=>compPost (model X.prog X.w) X.A X.xe none (EP X pins σ Q) acc C) S hsx hcalm hgg ht he I2 T st2 f2 w0 step fun D C s' H' I' q hsl47 hC=>?_
 obtain ⟨m,hm⟩:=hsl47
 obtain ⟨f0,f1,_,f3,f4,f5⟩:=hC
 exact ⟨m,hm,fun h' sb=>⟨.ref D,H',I'.turned (t':=s'.toks) (fun b o hb e=>(sb.2 b hb).trans e) f0 f1 f3 f4 f5,rfl,q⟩⟩
theorem qh {wi:TI} {i:Nat} {y:Str} {py spos:Pos} (scX:Scope) (NX fv:List Str) (js:List Nat) (hNX:X.N=NX) (S:j2 scX sc NX xs fv js) (hsx:X.env.scope=scX) (hcalm:X.calm=true) (hi:PI X tg iter wi) (hgg:∀ C s0 H0 ex,PG (di X sc xs fv C s0 H0 ex) tg g)
  (ht:∀ C s0 H0 ex,fJ (di X sc xs fv C s0 H0 ex) ifs tt) (he:∀ C s0 H0 ex,PE (di X sc xs fv C s0 H0 ex) elt te)
  (hN:X.N.Nodup) (hy:X.N[i]?=some y) (hl:X.env.scope.names.lookup y=some .local) (hsw:swapsWith (.ListComp elt [⟨tg,iter,ifs,0⟩] sc pos) (some (.Name y py)) spos.line X.env=pure true)
  (hs:∀ v,foldedSetIterable iter X.env v=pure v:=by intro _;rfl):PS X (.Assign [.Name y py] (.ListComp elt [⟨tg,iter,ifs,0⟩] sc pos) spos) (iL (qg wi xs.length js g tt te) (aX i)):=by
 intro pins s σ H D I h
 rw [<- hNX] at S
 have hfree:∀ y∈sc.names,y.2=.free->∃ c,X.env.cells.lookup y.1=some c:=fun y hy hf=>I.ok.has y.1 (.inl (by show X.env.scope.names.lookup y.1=_;rw [hsx];exact S.free y hy hf))
 rw [exec_Assign_Name_used _ _ _ _ hsw]
 refine Qa (wpAny_standAt (Qa ?_))
 show wpAny _ _ (do let _ <- comprehension (.ListComp elt [⟨tg,iter,ifs,0⟩] sc pos) sc X.env _ (newList []) false (eval iter X.env) (some (assign (.Name y py) X.env))) _ _ s
 refine Qa (QL (wpAny_comprehension_free (use:=some (assign (.Name y py) X.env)) (Q:=fun _ st=>SP X pins D .next st) rfl hs (jZ hfree) S.kind S.names
  (ay (hi pins s σ H _ I h) fun v s1 h1=>ay h1 fun itv s2 h2=>?_)) (fun _ st hq=>Qd (Qd hq)) fun _ _ e=>e)
 obtain ⟨it,fp,tn,J,H2,e,I2,T,st2,f2,W,w0,step⟩:=h2
 subst e
 refine mo (Q:=fun v H1=>aX i v σ H1 D.nx) (RR:=fun acc C=>compPost (model X.prog X.w) X.A X.xe (some (assign (.Name y py) X.env)) (fun _ st=>SP X pins D .next st) acc C) S hsx hcalm hgg ht he I2 T st2 f2 w0 step fun Dl C s' H' I' q hsl48 hC=>?_
 obtain ⟨m,hm⟩:=hsl48
 obtain ⟨f0,f1,_,f3,f4,f5⟩:=hC
 refine wpAny_assign_Name (lI I' hN hy (.inl hl) (show RelV (.ref Dl) (.ref Dl) from rfl) (fun s'' I'' hsl49=>?_) (.inr hl))
 obtain ⟨a,sb,ha⟩:=hsl49
 have aC:C≠a:=fun z=>by
  rcases ha with ha | ha
  ·exact f1 (z.trans ha)
  ·exact f4 y a ha z.symm
 refine ⟨m,hm.sameBut sb aC,fun h' sb'=>?_⟩
 exact ⟨_,_,I''.turned (t':=s''.toks) (fun b o hb e=>(sb'.2 b hb).trans e) f0 f1 f3 f4 f5,q⟩
end
theorem iX.two {scX sc:Scope} {NX:List Str} {x:Str} {fv:List Str} {js:List Nat} (S:iX scX sc NX x fv js):j2 scX sc NX [x] fv js :=
 ⟨S.kind,S.kindX,S.cell,fun y hy=>by rw [List.mem_singleton.mp hy];exact S.own,S.names,S.free,S.nd,S.at',S.fr⟩
section
variable {X:Cx} {pins:List (Addr × Obj)} {σ:St} {H2:Hp} {s2:Shared} {elt iter:Expr} {x:Str} {px:Pos} {ifs:List Expr} {sc scX:Scope} {pos:Pos} {fv:List Str} {js:List Nat} {tt:TT} {te:TE}
theorem qi (S:iX scX sc X.N x fv js) (hsx:X.env.scope=scX) (hcalm:X.calm=true)
  (ht:∀ C s0 H0 ex,fJ (xc X sc x fv C s0 H0 ex) ifs tt) (he:∀ C s0 H0 ex,PE (xc X sc x fv C s0 H0 ex) elt te)
  {it:Addr} {fp:List Addr} {tn:Nat->Heap->Prop} {J:It} (I2:Inv X pins σ H2 s2) (T:eW X.prog X.w X.K (.Name x px) J fp it tn) (st2:tn 0 s2.heap) (f2:∀ b∈fp,ck X pins H2 b)
  {Q:VK} {W:Nat->Nat->List V->Hp->Prop} (w0:∃ m,W 0 m [] H2)
  (step:∀ i m ys H,W i m ys H->(J.stop i H/\∀ p,H p=none->Q (.ref p) (af H p (.lst ys))) ∨
   (J.go i H/\∃ N:List V->Hp->Prop,(∀ ys' H',N ys' H'->∃ m',m'<m/\W (i+1) m' ys' H') /\
    ∀ x H',J.yld i H x H'->tt (some x::cp js σ) H' fun b H2=>if b=true then te (some x::cp js σ) H2 fun y H3=>ys.length<sizeLine/\N (ys++[y]) H3 else N ys H2))
  {RR:Value->Addr->Result->Shared->Prop} {E:Value->Shared->Prop}
  (fin:∀ (D C:Addr) (s':Shared) (H':Hp),Inv X pins σ H' s'->Q (.ref D) H'->(∃ m,s'.heap.Ns C m)->ck X pins H' C->RR (.ref D) C (.ok .next) s') :
  wpAny (model X.prog X.w) X.A (newList []) (fun acc s₃=>wpAny (model X.prog X.w) X.A (newFunctionEnv sc X.env.globals (cj X.env.cells sc.names []) [] X.env.qual none .none (some X.env)) (fun cenv s₄ =>
   codeAny (model X.prog X.w) X.A (.compStart (.ListComp elt [⟨.Name x px,iter,ifs,0⟩] sc pos) 0 (.ref it) acc { cenv with scope:=relabel sc X.env }) (RR acc cenv.locals) s₄) E s₃) E s2:=by
 refine mo (xs:=[x]) (g:=aX 0) (RR:=RR) S.two hsx hcalm (fun C s0 H0 ex=>aT S.nd rfl (.inl (lookup_relabel_local S.own)) (.inr (lookup_relabel_local S.own))) ht he I2 T st2 f2 w0 (fun i m ys H w=>?_) fin
 rcases step i m ys H w with h | ⟨go,N,hN,st⟩
 ·exact .inl h
 ·refine .inr ⟨go,N,hN,fun y H' hy os hos=>?_⟩
  obtain ⟨o,rfl⟩:=List.length_eq_one_iff.mp hos
  exact ⟨⟨[some y],rfl,rfl⟩,st y H' hy⟩
theorem fh {wi:TI} (scX:Scope) (NX fv:List Str) (js:List Nat) (hNX:X.N=NX) (S:iX scX sc NX x fv js) (hsx:X.env.scope=scX) (hcalm:X.calm=true) (hi:PI X (.Name x px) iter wi)
  (ht:∀ C s0 H0 ex,fJ (xc X sc x fv C s0 H0 ex) ifs tt) (he:∀ C s0 H0 ex,PE (xc X sc x fv C s0 H0 ex) elt te)
  (hs:∀ v,foldedSetIterable iter X.env v=pure v:=by intro _;rfl):PE X (.ListComp elt [⟨.Name x px,iter,ifs,0⟩] sc pos) (p5 wi js tt te):=by
 intro pins s σ H Q I h
 rw [<- hNX] at S
 have hfree:∀ y∈sc.names,y.2=.free->∃ c,X.env.cells.lookup y.1=some c:=fun y hy hf=>I.ok.has y.1 (.inl (by show X.env.scope.names.lookup y.1=_;rw [hsx];exact S.free y hy hf))
 rw [eval_ListComp]
 refine wpAny_comprehension_free (use:=none) rfl hs (jZ hfree) S.kind S.names (ay (hi pins s σ H _ I h) fun v s1 h1=>ay h1 fun itv s2 h2=>?_)
 obtain ⟨it,fp,tn,J,H2,e,I2,T,st2,f2,W,w0,step⟩:=h2
 subst e
 refine qi (RR:=fun acc C=>compPost (model X.prog X.w) X.A X.xe none (EP X pins σ Q) acc C) S hsx hcalm ht he I2 T st2 f2 w0 step fun D C s' H' I' q hsl50 hC=>?_
 obtain ⟨m,hm⟩:=hsl50
 obtain ⟨f0,f1,_,f3,f4,f5⟩:=hC
 exact ⟨m,hm,fun h' sb=>⟨.ref D,H',I'.turned (t':=s'.toks) (fun b o hb e=>(sb.2 b hb).trans e) f0 f1 f3 f4 f5,rfl,q⟩⟩
theorem xI {wi:TI} {i:Nat} {y:Str} {py spos:Pos} (scX:Scope) (NX fv:List Str) (js:List Nat) (hNX:X.N=NX) (S:iX scX sc NX x fv js) (hsx:X.env.scope=scX) (hcalm:X.calm=true) (hi:PI X (.Name x px) iter wi)
  (ht:∀ C s0 H0 ex,fJ (xc X sc x fv C s0 H0 ex) ifs tt) (he:∀ C s0 H0 ex,PE (xc X sc x fv C s0 H0 ex) elt te)
  (hN:X.N.Nodup) (hy:X.N[i]?=some y) (hl:X.env.scope.names.lookup y=some .local) (hsw:swapsWith (.ListComp elt [⟨.Name x px,iter,ifs,0⟩] sc pos) (some (.Name y py)) spos.line X.env=pure true)
  (hs:∀ v,foldedSetIterable iter X.env v=pure v:=by intro _;rfl):PS X (.Assign [.Name y py] (.ListComp elt [⟨.Name x px,iter,ifs,0⟩] sc pos) spos) (iL (p5 wi js tt te) (aX i)):=by
 intro pins s σ H D I h
 rw [<- hNX] at S
 have hfree:∀ y∈sc.names,y.2=.free->∃ c,X.env.cells.lookup y.1=some c:=fun y hy hf=>I.ok.has y.1 (.inl (by show X.env.scope.names.lookup y.1=_;rw [hsx];exact S.free y hy hf))
 rw [exec_Assign_Name_used _ _ _ _ hsw]
 refine Qa (wpAny_standAt (Qa ?_))
 show wpAny _ _ (do let _ <- comprehension (.ListComp elt [⟨.Name x px,iter,ifs,0⟩] sc pos) sc X.env _ (newList []) false (eval iter X.env) (some (assign (.Name y py) X.env))) _ _ s
 refine Qa (QL (wpAny_comprehension_free (use:=some (assign (.Name y py) X.env)) (Q:=fun _ st=>SP X pins D .next st) rfl hs (jZ hfree) S.kind S.names
  (ay (hi pins s σ H _ I h) fun v s1 h1=>ay h1 fun itv s2 h2=>?_)) (fun _ st hq=>Qd (Qd hq)) fun _ _ e=>e)
 obtain ⟨it,fp,tn,J,H2,e,I2,T,st2,f2,W,w0,step⟩:=h2
 subst e
 refine qi (Q:=fun v H1=>aX i v σ H1 D.nx) (RR:=fun acc C=>compPost (model X.prog X.w) X.A X.xe (some (assign (.Name y py) X.env)) (fun _ st=>SP X pins D .next st) acc C) S hsx hcalm ht he I2 T st2 f2 w0 step fun Dl C s' H' I' q hsl51 hC=>?_
 obtain ⟨m,hm⟩:=hsl51
 obtain ⟨f0,f1,_,f3,f4,f5⟩:=hC
 refine wpAny_assign_Name (lI I' hN hy (.inl hl) (show RelV (.ref Dl) (.ref Dl) from rfl) (fun s'' I'' hsl52=>?_) (.inr hl))
 obtain ⟨a,sb,ha⟩:=hsl52
 have aC:C≠a:=fun z=>by
  rcases ha with ha | ha
  ·exact f1 (z.trans ha)
  ·exact f4 y a ha z.symm
 refine ⟨m,hm.sameBut sb aC,fun h' sb'=>?_⟩
 exact ⟨_,_,I''.turned (t':=s''.toks) (fun b o hb e=>(sb'.2 b hb).trans e) f0 f1 f3 f4 f5,q⟩
end
end L2
namespace L2
open PySem PySem.Spec PyProof.Rows
section
variable {κ:Type} [DecidableEq κ]
noncomputable def aU (kvs:List (κ × V)) (k:κ):Option V:=(kvs.find? fun kv=>decide (kv.1=k)).map (·.2)
noncomputable def bO (kvs:List (κ × V)) (k:κ) (v:V):List (κ × V) :=
 if (kvs.any fun kv=>decide (kv.1=k))=true then kvs.map (fun kv=>if kv.1=k then (kv.1,v) else kv) else kvs++[(k,v)]
theorem cK {p:κ × V} {r:List (κ × V)} {k:κ} (e:p.1=k):aU (p::r) k=some p.2:=by simp [aU,List.find?_cons,e]
theorem cL {p:κ × V} {r:List (κ × V)} {k:κ} (e:¬ p.1=k):aU (p::r) k=aU r k:=by simp [aU,List.find?_cons,e]
theorem gY (k:κ):∀ kvs:List (κ × V),(kvs.any fun kv=>decide (kv.1=k))=(aU kvs k).isSome
 | []=>rfl
 | p::r=>by
  rw [List.any_cons]
  by_cases e:p.1=k
  ·simp only [cK e,Qp e,Bool.true_or,Option.isSome_some]
  ·rw [cL e,Qi e,Bool.false_or];exact gY k r
theorem qj (k j:κ) (y:V):∀ kvs:List (κ × V),aU (kvs.map fun kv=>if kv.1=k then (kv.1,y) else kv) j=(aU kvs j).map fun x=>if j=k then y else x
 | []=>rfl
 | p::r=>by
  have ih:=qj k j y r
  rw [List.map_cons]
  by_cases h:p.1=k
  ·rw [if_pos h]
   by_cases e:p.1=j
   ·rw [cK (p:=(p.1,y)) e,cK e,Option.map_some,if_pos (e.symm.trans h)]
   ·rw [cL (p:=(p.1,y)) e,cL e,ih]
  ·rw [if_neg h]
   by_cases e:p.1=j
   ·rw [cK (p:=p) e,cK e,Option.map_some,if_neg (fun z=>h (e.trans z))]
   ·rw [cL (p:=p) e,cL e,ih]
theorem qk (k j:κ) (y:V):∀ kvs:List (κ × V),aU kvs k=none->aU (kvs++[(k,y)]) j=if j=k then some y else aU kvs j
 | [],_=>by
  by_cases e:k=j
  ·rw [if_pos e.symm];exact cK (p:=(k,y)) e
  ·rw [if_neg (fun z=>e z.symm)];exact cL (p:=(k,y)) e
 | p::r,hn=>by
  rw [List.cons_append]
  have hk:¬ p.1=k:=fun z=>by rw [cK z] at hn;cases hn
  rw [cL hk] at hn
  have ih:=qk k j y r hn
  by_cases e:p.1=j
  ·rw [cK e,cK e,if_neg (fun z=>hk (e.trans z))]
  ·rw [cL e,cL e,ih]
theorem j4 (kvs:List (κ × V)) (k j:κ) (y:V):aU (bO kvs k y) j=if j=k then some y else aU kvs j:=by
 unfold bO
 by_cases a:(kvs.any fun kv=>decide (kv.1=k))=true
 ·rw [if_pos a,qj]
  rw [gY] at a
  by_cases e:j=k
  ·obtain ⟨x,hx⟩:=Option.isSome_iff_exists.mp a
   rw [if_pos e,e,hx,Option.map_some,if_pos rfl]
  ·rw [if_neg e]
   cases aU kvs j with
   | none=>rfl
   | some x=>rw [Option.map_some,if_neg e]
 ·rw [if_neg a]
  refine qk k j y kvs ?_
  rw [gY] at a
  cases q:aU kvs k with
  | none=>rfl
  | some x=>rw [q] at a;exact (a rfl).elim
theorem i5 (kvs:List (κ × V)) (k:κ) (v:V):(bO kvs k v).length<=kvs.length+1:=by
 unfold bO
 split
 ·rw [Qf];omega
 ·rw [Qv,List.length_cons,List.length_nil];omega
theorem cJ.isSome_eq {o:Option V} {u:Option Value} (r:cJ o u):o.isSome=u.isSome:=by
 cases o with
 | none=>cases u with
  | none=>rfl
  | some _=>exact (show False from r).elim
 | some _=>cases u with
  | none=>exact (show False from r).elim
  | some _=>rfl
theorem cJ.getD {o:Option V} {u:Option Value} {d:V} {d':Value} (r:cJ o u) (rd:RelV d d'):RelV (o.getD d) (u.getD d'):=by
 cases o with
 | none=>cases u with
  | none=>exact rd
  | some _=>exact (show False from r).elim
 | some _=>cases u with
  | none=>exact (show False from r).elim
  | some _=>exact r
theorem KV.val {kvs:List (κ × V)} {vs:List (κ × Value)} (r:KV kvs vs) (k:κ):cJ (aU kvs k) (valueAt vs k):=by
 unfold KV at r
 induction r with
 | nil=>exact True.intro
 | @cons p q ps qs h t ih =>
  obtain ⟨h1,h2⟩:=h
  by_cases e:p.1=k
  ·have e':q.1=k:=h1.symm.trans e
   have b:valueAt (q::qs) k=some q.2:=by simp [valueAt,List.find?_cons,e']
   rw [cK e,b];exact h2
  ·have e':¬ q.1=k:=fun z=>e (h1.trans z)
   have b:valueAt (q::qs) k=valueAt qs k:=by simp [valueAt,List.find?_cons,e']
   rw [cL e,b];exact ih
theorem KV.any {kvs:List (κ × V)} {vs:List (κ × Value)} (r:KV kvs vs) (k:κ):(kvs.any fun kv=>decide (kv.1=k))=vs.any fun kv=>decide (kv.1=k):=by
 unfold KV at r
 induction r with
 | nil=>rfl
 | cons h t ih=>rw [List.any_cons,List.any_cons,ih,h.1]
theorem KV.repl {kvs:List (κ × V)} {vs:List (κ × Value)} (r:KV kvs vs) (k:κ) {y:V} {u:Value} (ry:RelV y u) :
  KV (kvs.map fun kv=>if kv.1=k then (kv.1,y) else kv) (vs.map fun kv=>if kv.1=k then (kv.1,u) else kv):=by
 unfold KV at r ⊢
 induction r with
 | nil=>exact .nil
 | @cons p q ps qs h t ih =>
  rw [List.map_cons,List.map_cons]
  refine .cons ?_ ih
  obtain ⟨h1,h2⟩:=h
  by_cases e:p.1=k
  ·rw [if_pos e,if_pos (h1.symm.trans e)];exact ⟨h1,ry⟩
  ·rw [if_neg e,if_neg (fun z=>e (h1.trans z))];exact ⟨h1,h2⟩
theorem KV.put {kvs:List (κ × V)} {vs:List (κ × Value)} (r:KV kvs vs) (k:κ) {y:V} {u:Value} (ry:RelV y u):KV (bO kvs k y) (stored vs k u):=by
 unfold bO stored
 rw [r.any k]
 by_cases e:(vs.any fun kv=>decide (kv.1=k))=true
 ·rw [if_pos e,if_pos e];exact r.repl k ry
 ·rw [if_neg e,if_neg e];exact Paired.snoc r ⟨rfl,ry⟩
theorem KV.length {kvs:List (κ × V)} {vs:List (κ × Value)} (r:KV kvs vs):kvs.length=vs.length:=Paired.length r
end
theorem fj {P:Program} {w:World} {k:ae} {u:Value} (r:RelV (kV k) u):(bK P w).is k u=true:=by
 cases k with
 | inl i=>obtain ⟨t,e⟩:=(show ∃ t,u=Value.int i t from r);subst e;exact vJ P w i t
 | inr x=>obtain ⟨t,e⟩:=(show ∃ t,u=Value.str x t from r);subst e;exact jK P w x t
theorem ql {P:Program} {w:World}:∀ {ks:List ae} {us:List Value},aw (ks.map kV) us->ItemsAre (bK P w) ks us
 | [],_,r=>by rw [List.map_nil] at r;cases r;exact .nil
 | k::ks,_,r=>by
  rw [List.map_cons] at r
  cases r with
  | cons h t=>exact .cons (fj h) (ql t)
noncomputable abbrev KT (H:Hp):List (List ae × V)->List (List ae × Addr × Value)->Prop:=Paired fun p q=>p.1=q.1/\H q.2.1=some (.tup (p.1.map kV))/\RelV p.2 q.2.2
theorem KT.val {H:Hp} {kvs:List (List ae × V)} {xs:List (List ae × Addr × Value)} (r:KT H kvs xs) (k:List ae):cJ (aU kvs k) ((atKey xs k).map (·.2)):=by
 induction r with
 | nil=>exact True.intro
 | @cons p q ps qs h t ih =>
  obtain ⟨h1,_,h2⟩:=h
  by_cases e:p.1=k
  ·have e':q.1=k:=h1.symm.trans e
   have b:atKey (q::qs) k=some q.2:=by simp [atKey,List.find?_cons,e']
   rw [cK e,b];exact h2
  ·have e':¬ q.1=k:=fun z=>e (h1.trans z)
   have b:atKey (q::qs) k=atKey qs k:=by simp [atKey,List.find?_cons,e']
   rw [cL e,b];exact ih
theorem KT.repl {H:Hp} {kvs:List (List ae × V)} {xs:List (List ae × Addr × Value)} (r:KT H kvs xs) (k:List ae) {y:V} {u:Value} (ry:RelV y u) :
  KT H (kvs.map fun kv=>if kv.1=k then (kv.1,y) else kv) (xs.map (putAt k u)):=by
 induction r with
 | nil=>exact .nil
 | @cons p q ps qs h t ih =>
  rw [List.map_cons,List.map_cons]
  refine .cons ?_ ih
  obtain ⟨h1,h2,h3⟩:=h
  unfold putAt
  by_cases e:p.1=k
  ·rw [if_pos e,if_pos (h1.symm.trans e)];exact ⟨h1,h2,ry⟩
  ·rw [if_neg e,if_neg (fun z=>e (h1.trans z))];exact ⟨h1,h2,h3⟩
theorem KT.put {H:Hp} {kvs:List (List ae × V)} {xs:List (List ae × Addr × Value)} (r:KT H kvs xs) (k:List ae) {b:Addr} {y:V} {u:Value} (hb:H b=some (.tup (k.map kV))) (ry:RelV y u) :
  KT H (bO kvs k y) (storedH xs k b u):=by
 have e:(kvs.any fun kv=>decide (kv.1=k))=(atKey xs k).isSome:=by
  rw [gY,(r.val k).isSome_eq,Option.isSome_map]
 unfold bO storedH
 rw [e]
 by_cases q:(atKey xs k).isSome=true
 ·rw [if_pos q,if_pos q];exact r.repl k ry
 ·rw [if_neg q,if_neg q];exact Paired.snoc r ⟨rfl,hb,ry⟩
theorem KT.keeps {H H':Hp} {kvs:List (List ae × V)} {xs:List (List ae × Addr × Value)} (r:KT H kvs xs) (ht:∀ b ys,H b=some (.tup ys)->H' b=some (.tup ys)):KT H' kvs xs :=
 Paired.mapP r fun _ _ z=>⟨z.1,ht _ _ z.2.1,z.2.2⟩
section
variable {P:Program} {w:World} {H:Hp} {h:Heap} {a:Addr}
theorem qm {u:HO} (ok:bA P w H h) (e:Rd H a u):bz P w H h a u:=e.ok ok
theorem fM {kvs:List (ae × V)} (ok:bA P w H h) (e:Rd H a (.dK kvs)):kvs.length<=sizeLine/\(a == sysModules)=false/\∃ vs,KV kvs vs/\h.DictOf (bK P w) a vs :=
 show bz P w H h a (.dK kvs) from qm ok e
theorem xJ {kvs:List (ae × V)} (ok:bA P w H h) (e:H a=some (.dK kvs)):kvs.length<=sizeLine/\(a == sysModules)=false/\∃ vs,KV kvs vs/\h.DictOf (bK P w) a vs:=fM ok (.inl e)
theorem gZ {ks:List ae} (ok:bA P w H h) (e:H a=some (.tup (ks.map kV))):(tupleKind (bK P w)).is h ks a:=by
 obtain ⟨_,its,r,⟨o,h1,h2,n,h3⟩,_⟩:=(show bz P w H h a (.tup (ks.map kV)) from ok a _ e)
 exact ⟨o,its.toArray,n,h1,h2,h3,by simpa using ql r⟩
theorem gn {kvs:List (List ae × V)} (ok:bA P w H h) (e:Rd H a (.dT kvs)):kvs.length<=sizeLine/\(a == sysModules)=false /\
  ∃ xs,KT H kvs xs/\h.DictOfH (tupleKind (bK P w)) a xs:=by
 obtain ⟨z,y,xs,r,o,es,ep,h1,h2,h3,h4,h5⟩:=(show bz P w H h a (.dT kvs) from qm ok e)
 refine ⟨z,y,xs,r,o,es,ep,h1,h2,h3,h4,fun x hx=>?_,h5⟩
 have all:∀ {l:List (List ae × V)} {m:List (List ae × Addr × Value)},KT H l m->∀ x∈m,(tupleKind (bK P w)).is h x.1 x.2.1:=by
  intro l m q
  induction q with
  | nil=>intro x hx;exact nomatch hx
  | @cons p q ps qs hq t ih =>
   intro x hx
   rcases Qu hx with e | hx
   ·subst e
    exact gZ ok (by rw [<- hq.1];exact hq.2.1)
   ·exact ih x hx
 exact all r x hx
theorem qo {kvs:List (List ae × V)} (ok:bA P w H h) (e:H a=some (.dT kvs)):kvs.length<=sizeLine/\(a == sysModules)=false /\
  ∃ xs,KT H kvs xs/\h.DictOfH (tupleKind (bK P w)) a xs:=gn ok (.inl e)
end
noncomputable def bt (H:Hp) (a:Addr) (y:V) (r:Option V):Prop :=
 (∃ kvs k,Rd H a (.dK kvs)/\y=kV k/\r=aU kvs k)∨∃ kvs k b,Rd H a (.dT kvs)/\y=.ref b/\H b=some (.tup (k.map kV))/\r=aU kvs k
noncomputable def dw (H:Hp) (a:Addr) (y v:V) (H':Hp):Prop :=
 (∃ kvs k,H a=some (.dK kvs)/\y=kV k/\kvs.length<sizeLine/\H'=af H a (.dK (bO kvs k v))) ∨
 ∃ kvs k b,H a=some (.dT kvs)/\y=.ref b/\H b=some (.tup (k.map kV))/\kvs.length<sizeLine/\H'=af H a (.dT (bO kvs k v))
theorem bt.k {H:Hp} {a:Addr} {kvs:List (ae × V)} {k:ae} (e:H a=some (.dK kvs)):bt H a (kV k) (aU kvs k):=.inl ⟨kvs,k,.inl e,rfl,rfl⟩
theorem bt.t {H:Hp} {a b:Addr} {kvs:List (List ae × V)} {k:List ae} (e:H a=some (.dT kvs)) (eb:H b=some (.tup (k.map kV))):bt H a (.ref b) (aU kvs k):=.inr ⟨kvs,k,b,.inl e,rfl,eb,rfl⟩
theorem dw.k {H:Hp} {a:Addr} {kvs:List (ae × V)} {k:ae} {v:V} (e:H a=some (.dK kvs)) (hl:kvs.length<sizeLine):dw H a (kV k) v (af H a (.dK (bO kvs k v))):=.inl ⟨kvs,k,e,rfl,hl,rfl⟩
theorem dw.t {H:Hp} {a b:Addr} {kvs:List (List ae × V)} {k:List ae} {v:V} (e:H a=some (.dT kvs)) (eb:H b=some (.tup (k.map kV))) (hl:kvs.length<sizeLine) :
  dw H a (.ref b) v (af H a (.dT (bO kvs k v))):=.inr ⟨kvs,k,b,e,rfl,eb,hl,rfl⟩
section
variable {X:Cx} {pins:List (Addr × Obj)} {σ:St} {H:Hp} {s:Shared} {a:Addr} {y v:V} {u r:Value} {o:Option V} {A:Around} {E:Value->Shared->Prop}
theorem Inv.big (I:Inv X pins σ H s):sysModules<s.heap.objs.size:=by
 have h:mainGlobals<s.heap.objs.size:=(I.mod.glob.keeps I.bk).lt
 exact Nat.lt_trans (by decide) h
theorem xK {Q:Value->Shared->Prop} (hu:A.units+1<cLine) (I:Inv X pins σ H s) (g:bt H a y (some v)) (ry:RelV y u) (h:∀ w' s',Inv X pins σ H s'->RelV v w'->Q w' s') :
  wpAny (model X.prog X.w) A (getItem (.ref a) u) Q E s:=by
 rcases g with ⟨kvs,k,e,ey,l⟩ | ⟨kvs,k,b,e,ey,eb,l⟩
 ·subst ey
  obtain ⟨z,hd,vs,rel,dd⟩:=fM I.hok e
  obtain ⟨w',hw,rw'⟩:=cJ.some_of (v:=v) (o:=valueAt vs k) (by rw [l];exact rel.val k)
  exact wpAny_getItem_of (fj ry) dd.mapOf hw (h w' _ (I.tok _) rw')
 ·subst ey
  cases (show u=Value.ref b from ry)
  obtain ⟨z,hd,xs,rel,dd⟩:=gn I.hok e
  obtain ⟨w',hw,rw'⟩:=cJ.some_of (v:=v) (o:=(atKey xs k).map (·.2)) (by rw [l];exact rel.val k)
  obtain ⟨p,hp,hp2⟩:=Option.map_eq_some_iff.mp hw
  refine wpAny_getItem_heap (tupleKind_room_in1 hu) (gZ I.hok eb) dd hp ?_
  rw [hp2]
  exact h w' _ (I.tok _) rw'
theorem xL {Q:Value->Shared->Prop} (hu:A.units+1<cLine) (I:Inv X pins σ H s) (g:bt H a y o) (ry:RelV y u) (h:∀ s',Inv X pins σ H s'->Q (.bool o.isSome) s') :
  wpAny (model X.prog X.w) A (compareOp .In u (.ref a)) Q E s:=by
 rcases g with ⟨kvs,k,e,ey,l⟩ | ⟨kvs,k,b,e,ey,eb,l⟩
 ·subst ey
  obtain ⟨z,hd,vs,rel,dd⟩:=fM I.hok e
  refine wpAny_in_of (fj ry) hd dd.mapOf ?_
  rw [<- (rel.val k).isSome_eq,<- l]
  exact h _ (I.tok _)
 ·subst ey
  cases (show u=Value.ref b from ry)
  obtain ⟨z,hd,xs,rel,dd⟩:=gn I.hok e
  refine wpAny_in_heap (tupleKind_room_in1 hu) (gZ I.hok eb) hd dd ?_
  have q:=(rel.val k).isSome_eq
  rw [Option.isSome_map] at q
  rw [<- q,<- l]
  exact h _ (I.tok _)
theorem xM {Q:Value->Shared->Prop} (hu:A.units+1<cLine) (I:Inv X pins σ H s) (g:bt H a y o) (ry:RelV y u) (h:∀ s',Inv X pins σ H s'->Q (.bool (!o.isSome)) s') :
  wpAny (model X.prog X.w) A (compareOp .NotIn u (.ref a)) Q E s:=by
 rcases g with ⟨kvs,k,e,ey,l⟩ | ⟨kvs,k,b,e,ey,eb,l⟩
 ·subst ey
  obtain ⟨z,hd,vs,rel,dd⟩:=fM I.hok e
  refine wpAny_notIn_of (fj ry) hd dd.mapOf ?_
  rw [<- (rel.val k).isSome_eq,<- l]
  exact h _ (I.tok _)
 ·subst ey
  cases (show u=Value.ref b from ry)
  obtain ⟨z,hd,xs,rel,dd⟩:=gn I.hok e
  refine wpAny_notIn_heap (tupleKind_room_in1 hu) (gZ I.hok eb) hd dd ?_
  have q:=(rel.val k).isSome_eq
  rw [Option.isSome_map] at q
  rw [<- q,<- l]
  exact h _ (I.tok _)
theorem qp {h':Heap} {t':Nat} {ob:HO} (I:Inv X pins σ H s) (mu:iD (H a)) (hs:Heap.SameBut a s.heap h') (he:∃ q,h'.get? a=some q) (new:bz X.prog X.w (af H a ob) h' a ob) :
  Inv X pins σ (af H a ob) { s with heap:=h',toks:=t' } :=
 I.write (x:=a) (e:=a) mu (.inl rfl) (fun b q hb z=>(hs.2 b hb).trans z) he new
theorem qq {P:Program} {w:World} {H':Hp} {h':Heap} {kvs:List (ae × V)} {vs:List (ae × Value)} (z:kvs.length<=sizeLine) (hd:(a == sysModules)=false) (rel:KV kvs vs) (dd:h'.DictOf (bK P w) a vs) :
  bz P w H' h' a (.dK kvs):=⟨z,hd,vs,rel,dd⟩
theorem xN {H':Hp} {Q:Unit->Shared->Prop} (hu:A.units+1<cLine) (I:Inv X pins σ H s) (g:dw H a y v H') (ry:RelV y u) (rv:RelV v r) (h:∀ s',Inv X pins σ H' s'->Q () s') :
  wpAny (model X.prog X.w) A (setItem (.ref a) u r) Q E s:=by
 rcases g with ⟨kvs,k,e,ey,l,eH⟩ | ⟨kvs,k,b,e,ey,eb,l,eH⟩
 ·subst ey eH
  obtain ⟨z,hd,vs,rel,dd⟩:=xJ I.hok e
  have hz:vs.length<=sizeLine:=by rw [<- rel.length];exact z
  have hl:(bO kvs k v).length<=sizeLine:=by have:=i5 kvs k v;omega
  refine wpAny_setItem_pairs (hsz:=hz) (fj ry) dd fun h' dd' hs=>h _ ?_
  have he:∃ q,h'.get? a=some q:=by obtain ⟨q,_,_,hq,_⟩:=dd';exact ⟨q,hq⟩
  exact qp I (by rw [e];exact True.intro) hs he (qq hl hd (rel.put k rv) dd')
 ·subst ey eH
  cases (show u=Value.ref b from ry)
  obtain ⟨z,hd,xs,rel,dd⟩:=qo I.hok e
  have hz:xs.length<=sizeLine:=by rw [<- Paired.length rel];exact z
  have hl:(bO kvs k v).length<=sizeLine:=by have:=i5 kvs k v;omega
  refine wpAny_setItem_heap (hsz:=hz) (tupleKind_room_in1 hu) (gZ I.hok eb) dd fun h' dd' hs=>h _ ?_
  obtain ⟨q,es,ep,hq,h2,h3,h4,_,h5⟩:=dd'
  refine qp I (by rw [e];exact True.intro) hs ⟨q,hq⟩ ⟨hl,hd,_,(rel.put k eb rv).keeps fun c ys ec=>?_,q,es,ep,hq,h2,h3,h4,h5⟩
  rw [ar (vK ec e (fun z=>nomatch z))]
  exact ec
end
section
variable {X:Cx} {pins:List (Addr × Obj)} {σ:St} {H:Hp} {s:Shared} {a:Addr} {kvs:List (ae × V)} {k:ae} {u:Value} {A:Around} {E:Value->Shared->Prop}
theorem xO {Q:Value->Shared->Prop} (I:Inv X pins σ H s) (e:Rd H a (.dK kvs)) (h:∀ t s',Inv X pins σ H s'->Q (.int kvs.length t) s'):wpAny (model X.prog X.w) A (call (.builtin "len") [.ref a]) Q E s:=by
 obtain ⟨z,hd,vs,rel,dd⟩:=fM I.hok e
 refine call_len_dict hd dd (by rw [<- rel.length];rw [sizeLine_eq] at z;omega) ?_
 rw [<- rel.length]
 exact h _ _ (I.tok _)
end
noncomputable def qr (i:Expr):Prop:=∀ ov iv,subscripted i false ov iv=operate [ov,iv] (getItem ov iv)
theorem xP {prog:Program} {w:World} {A:Around} {E:Value->Shared->Prop} {s:Shared} {env:Env} {value slice:Expr} {pos:Pos} {T id:String} {Q:Value->Shared->Prop}
  (hl:typeLookup (.type T) "__getitem__"=pure (some (.builtin id))) (hs:qr slice)
  (h:wpAny (model prog w) A (eval value env) (fun o s₁=>wpAny (model prog w) A (eval slice env) (fun i s₂=>s₂.TypeIs o T/\wpAny (model prog w) A (getItem o i) Q E s₂) E s₁) E s) :
  wpAny (model prog w) A (eval (.Subscript value slice pos) env) Q E s:=by
 refine Subscript_ (QL h (fun o s₁ h₁=>QL h₁ (fun i s₂ h₂=>?_) fun _ _ x=>x) fun _ _ x=>x)
 obtain ⟨hT,h₂⟩:=h₂
 unfold subscriptTail
 refine Qa ?_
 rw [getitemInPython_of_ne hT.not_modules]
 refine Qa (wpAny_specialOf hT hl ?_)
 have fin:wpAny (model prog w) A (subscripted slice false o i) (fun r s₃=>wpAny (model prog w) A (letTemporaryGo value o r >>= fun _=>pure r) Q E s₃) E s₂:=by
  rw [hs o i]
  exact wpAny_operating (QL h₂ (fun r s₃ h₃=>Qa (wpAny_letTemporaryGo (Qd h₃))) fun _ _ x=>x)
 first
  | exact Qd (Qa fin)
  | exact Qa (Qd (Qa fin))
  | exact Qa fin
theorem xQ {X:Cx} {pins:List (Addr × Obj)} {σ:St} {H:Hp} {s:Shared} {a:Addr} {y:V} {o:Option V} (I:Inv X pins σ H s) (g:bt H a y o):s.TypeIs (.ref a) "dict":=by
 rcases g with ⟨kvs,k,e,_,_⟩ | ⟨kvs,k,b,e,_,_,_⟩
 ·obtain ⟨_,_,vs,_,dd⟩:=fM I.hok e
  exact dd.typeIs
 ·obtain ⟨_,_,xs,_,dd⟩:=gn I.hok e
  exact dd.typeIs
noncomputable def xR (td ty:TE):TE:=fun σ H Q=>td σ H fun x H1=>ty σ H1 fun y H2=>∃ a v,x=.ref a/\bt H2 a y (some v)/\Q v H2
noncomputable def xS (ty td:TE):TE:=fun σ H Q=>ty σ H fun y H1=>td σ H1 fun x H2=>∃ a o,x=.ref a/\bt H2 a y o/\Q (.bl o.isSome) H2
noncomputable def xT (ty td:TE):TE:=fun σ H Q=>ty σ H fun y H1=>td σ H1 fun x H2=>∃ a o,x=.ref a/\bt H2 a y o/\Q (.bl (!o.isSome)) H2
noncomputable def xU (td ty tv:TE):TS:=fun D σ H=>tv σ H fun v H1=>td σ H1 fun x H2=>ty σ H2 fun y H3=>∃ a H4,x=.ref a/\dw H3 a y v H4/\D.nx σ H4
section
variable {X:Cx} {o i e value:Expr} {pos pos' tpos:Pos} {td ty tv:TE}
theorem gp (hu:X.A.units+1<cLine) (ho:PE X o td) (hi:PE X i ty) (hs:qr i):PE X (.Subscript o i pos) (xR td ty):=by
 intro pins s σ H Q I h
 refine xP PySem.F.slot_dict_getitem.lookup hs (ay (ho pins s σ H _ I h) fun u s1 ⟨x,H1,I1,rx,q1⟩=>ay (hi pins s1 σ H1 _ I1 q1) fun iv s2 hsl53=>?_)
 obtain ⟨y,H2,I2,ry,a,v,ex,g,q2⟩:=hsl53
 subst ex
 obtain rfl:u=Value.ref a:=rx
 exact ⟨xQ I2 g,xK hu I2 g ry fun w' s3 I3 rw'=>⟨v,H2,I3,rw',q2⟩⟩
theorem qt (hu:X.A.units+1<cLine) (hi:PE X i ty) (ho:PE X o td):PC X .In i o (xS ty td):=by
 intro pins s σ H Q I h
 refine ay (hi pins s σ H _ I h) fun iv s1 ⟨y,H1,I1,ry,q1⟩=>ay (ho pins s1 σ H1 _ I1 q1) fun u s2 hsl54=>?_
 obtain ⟨x,H2,I2,rx,a,ov,ex,g,q2⟩:=hsl54
 subst ex
 obtain rfl:u=Value.ref a:=rx
 exact xL hu I2 g ry fun s3 I3=>⟨.bl ov.isSome,H2,I3,rfl,q2⟩
theorem xV (hu:X.A.units+1<cLine) (hi:PE X i ty) (ho:PE X o td):PC X .NotIn i o (xT ty td):=by
 intro pins s σ H Q I h
 refine ay (hi pins s σ H _ I h) fun iv s1 ⟨y,H1,I1,ry,q1⟩=>ay (ho pins s1 σ H1 _ I1 q1) fun u s2 hsl55=>?_
 obtain ⟨x,H2,I2,rx,a,ov,ex,g,q2⟩:=hsl55
 subst ex
 obtain rfl:u=Value.ref a:=rx
 exact xM hu I2 g ry fun s3 I3=>⟨.bl (!ov.isSome),H2,I3,rfl,q2⟩
theorem i6 (hu:X.A.units+1<cLine) (ho:PE X o td) (hi:PE X i ty) (hv:PE X value tv) (hs:swapsWith value (some (.Subscript o i pos')) pos.line X.env=pure false) :
  PS X (.Assign [.Subscript o i pos'] value pos) (xU td ty tv):=by
 intro pins s σ H D I h
 refine wpAny_Assign_Subscript (ay (hv pins s σ H _ I h) fun r s1 ⟨v,H1,I1,rv,q1⟩=>ay (ho pins s1 σ H1 _ I1 q1) fun u s2 ⟨x,H2,I2,rx,q2⟩=>ay (hi pins s2 σ H2 _ I2 q2) fun iv s3 hsl56=>?_) hs
 obtain ⟨y,H3,I3,ry,a,H4,ex,g,q3⟩:=hsl56
 subst ex
 obtain rfl:u=Value.ref a:=rx
 exact xN hu I3 g ry rv fun s4 I4=>⟨σ,H4,I4,q3⟩
end
theorem xW {P:Program} {w:World} {H:Hp} (h:Heap) (hb:sysModules<h.objs.size):bz P w H (h.push { cls:=.type "dict",data:=.dict #[] }) h.objs.size (.dK []) :=
 ⟨Qr _,beq_eq_false_iff_ne.mpr (Ne.symm (Qt hb)),[],.nil,Heap.DictOf.new h⟩
theorem xX {P:Program} {w:World} {H:Hp} (h:Heap) (hb:sysModules<h.objs.size):bz P w H (h.push { cls:=.type "dict",data:=.dict #[] }) h.objs.size (.dT []) :=
 ⟨Qr _,beq_eq_false_iff_ne.mpr (Ne.symm (Qt hb)),[],.nil,_,#[],0,Qj _ rfl,⟨rfl,rfl,rfl⟩,rfl,rfl,List.nodup_nil⟩
noncomputable def xY:TE:=fun _ H Q=>∀ p,H p=none->Q (.ref p) (af H p (.dK []))
noncomputable def xZ:TE:=fun _ H Q=>∀ p,H p=none->Q (.ref p) (af H p (.dT []))
section
variable {X:Cx} {pos:Pos}
theorem j5:PE X (.Dict [] [] pos) xY:=fun pins s σ H Q I h =>
 wpAny_Dict_empty ⟨.ref s.heap.objs.size,_,I.laid (a:=s.heap.objs.size) (o:=.dK []) (t':=s.toks) (fun _ _ q=>Qe _ q) (Qh _) (xW s.heap I.big),rfl,h _ (I.hok.fresh (Qh _))⟩
theorem qu:PE X (.Dict [] [] pos) xZ:=fun pins s σ H Q I h =>
 wpAny_Dict_empty ⟨.ref s.heap.objs.size,_,I.laid (a:=s.heap.objs.size) (o:=.dT []) (t':=s.toks) (fun _ _ q=>Qe _ q) (Qh _) (xX s.heap I.big),rfl,h _ (I.hok.fresh (Qh _))⟩
end
structure M2 (X:Cx) (o:Expr) (m:Str) (apos:Pos) (e f:Expr) (cpos:Pos):Prop where
 base:attributeBase o m X.env (eval o X.env)=eval o X.env
 few:((backTo cpos (starEach [e,f] X.env)).all (fun x=>!x.1)&&(backToKw cpos (keywordEach [] X.env)).all (fun x=>x.1.isSome)
  && decide (([e,f]:List Expr).length+([]:List Keyword).length+(if ([]:List Keyword).isEmpty then 0 else 1)<30))=true
 line:(apos.endLine == cpos.line)=true
 trees:backTo cpos (starEach [e,f] X.env)=[(false,eval e X.env),(false,eval f X.env)]
noncomputable def mq (H:Hp) (a:Addr):Prop:=(∃ kvs,Rd H a (.dK kvs))∨∃ kvs,Rd H a (.dT kvs)
theorem ya {X:Cx} {pins:List (Addr × Obj)} {σ:St} {H:Hp} {s:Shared} {a:Addr} (I:Inv X pins σ H s) (d:mq H a) :
  s.TypeIs (.ref a) "dict"/\(∀ b,Value.ref a=.ref b->∃ ob,s.heap.get? b=some ob/\ob.dict=none)/\(a == sysModules)=false:=by
 rcases d with ⟨kvs,e⟩ | ⟨kvs,e⟩
 ·obtain ⟨_,hd,vs,_,dd⟩:=fM I.hok e
  refine ⟨dd.typeIs,fun b q=>?_,hd⟩
  cases q
  obtain ⟨ob,_,_,h1,h2,_⟩:=dd
  exact ⟨ob,h1,h2.2.1⟩
 ·obtain ⟨_,hd,xs,_,dd⟩:=gn I.hok e
  refine ⟨dd.typeIs,fun b q=>?_,hd⟩
  cases q
  obtain ⟨ob,_,_,h1,h2,_⟩:=dd
  exact ⟨ob,h1,h2.2.1⟩
section
variable {X:Cx} {pins:List (Addr × Obj)} {σ:St} {H:Hp} {s:Shared} {a:Addr} {y d:V} {u r:Value} {o:Option V} {A:Around} {E:Value->Shared->Prop}
theorem yb {Q:Value->Shared->Prop} (hu:A.units+1<cLine) (I:Inv X pins σ H s) (g:bt H a y o) (ry:RelV y u) (rd:RelV d r) (h:∀ w' s',Inv X pins σ H s'->RelV (o.getD d) w'->Q w' s') :
  wpAny (model X.prog X.w) A (call (.builtin "dict.get") [.ref a,u,r]) Q E s:=by
 rcases g with ⟨kvs,k,e,ey,l⟩ | ⟨kvs,k,b,e,ey,eb,l⟩
 ·subst ey
  obtain ⟨z,hd,vs,rel,dd⟩:=fM I.hok e
  refine call_meetsIn PySem.F.slot_dict_get dd.typeIs PySem.F.entry_dict_get (PySem.F.args_dict_get_3 _ _ _) (meets_dict_get_default (bK X.prog X.w) a (fj ry) hd r) ⟨_,dd.mapOf,h _ _ (I.tok _) ?_⟩
  rw [l]
  exact (rel.val k).getD rd
 ·subst ey
  cases (show u=Value.ref b from ry)
  obtain ⟨z,hd,xs,rel,dd⟩:=gn I.hok e
  refine call_meetsIn PySem.F.slot_dict_get dd.typeIs PySem.F.entry_dict_get (PySem.F.args_dict_get_3 _ _ _) (meetsH_dict_get_default (tupleKind (bK X.prog X.w)) a b hd r) ⟨tupleKind_room_in1 hu,k,xs,gZ I.hok eb,dd,h _ _ (I.tok _) ?_⟩
  rw [l]
  exact (rel.val k).getD rd
end
noncomputable def yc (td ty tx:TE):TE:=fun σ H Q=>td σ H fun x H1=>∃ a,x=.ref a/\mq H1 a/\ty σ H1 fun y H2=>tx σ H2 fun z H3=>∃ o,bt H3 a y o/\Q (o.getD z) H3
section
variable {X:Cx} {o e f:Expr} {apos cpos:Pos} {td ty tx:TE}
theorem fN (hu:X.A.units+1<cLine) (ho:PE X o td) (he:PE X e ty) (hf:PE X f tx) (m:M2 X o "get" apos e f cpos):PE X (.Call (.Attribute o "get" apos) [e,f] [] cpos) (yc td ty tx):=by
 intro pins s σ H Q I h
 refine wpAny_Call_method m.base m.few m.line PySem.F.plainAttrs_dict PySem.F.slot_dict_get PySem.F.type_dict_get (ay (ho pins s σ H _ I h) fun u s1 hsl57=>?_)
 obtain ⟨x,H1,I1,rx,a,ex,d,q1⟩:=hsl57
 subst ex
 obtain rfl:u=Value.ref a:=rx
 obtain ⟨t1,t2,_⟩:=ya I1 d
 refine ⟨t1,t2,?_⟩
 rw [m.trees]
 refine Calls.callWith_builtin rfl (Calls.evalArgs_plain (Calls.spliced_cons (ay (he pins s1 σ H1 _ I1 q1) fun iv s2 ⟨y,H2,I2,ry,q2⟩ =>
  Calls.spliced_cons (ay (hf pins s2 σ H2 _ I2 q2) fun fv s3 ⟨z,H3,I3,rz,ov,g,q3⟩=>Calls.spliced_nil ?_))))
 exact yb hu I3 g ry rz fun w' s4 I4 rw'=>⟨_,H3,I4,rw',q3⟩
end
section
variable {X:Cx} {pins:List (Addr × Obj)} {σ:St} {H:Hp} {s:Shared} {a:Addr} {kvs:List (ae × V)} {A:Around} {E:Value->Shared->Prop}
end
section
variable {X:Cx} {pins:List (Addr × Obj)} {σ:St} {H:Hp} {s:Shared} {a:Addr} {y:V} {u:Value} {A:Around} {E:Value->Shared->Prop}
end
end L2
namespace L2
open PySem PySem.Spec PyProof.Rows
section
variable {X:Cx}
theorem yd:c9 X (.builtin "len") (fun xs H Q=>∃ a kvs,xs=[V.ref a]/\H a=some (.dK kvs)/\Q (.int kvs.length) H):=by
 intro pins s σ H xs us Q I r h
 obtain ⟨a,kvs,rfl,ha,q⟩:=h
 obtain ⟨u,rfl,ru⟩:=vals1 r
 cases ru
 exact xO I (.inl ha) fun t s' I'=>⟨.int kvs.length,H,I',⟨t,rfl⟩,q⟩
end
section
variable {κ:Type} [DecidableEq κ]
end
end L2
namespace Mm
open PySem
end Mm
namespace Mm
open PySem L2
theorem aH {X:Cx} {K:PySem.W.Frag} (h:X.K=K):gW X (pQ K):=by subst h;exact w4
theorem i7:bootBuiltins "tuple"=some (.type "tuple"):=by decide +kernel
theorem mr {js:List Nat} {tt:TT} {te:TE} {K:PySem.W.Frag} {a:Addr} {xs:List V} {σ:St} {H:Hp} {Q:VK} (Pv:Nat->List V->Hp->Prop) (h0:Pv 0 [] H) (hl:∀ i ys H,i<=xs.length->Pv i ys H->ah K H a xs)
  (hs:∀ i x ys H,xs[i]?=some x->Pv i ys H->tt (some x::cp js σ) H fun b H2=>if b=true then te (some x::cp js σ) H2 fun y H3=>ys.length<sizeLine/\Pv (i+1) (ys++[y]) H3 else Pv (i+1) ys H2)
  (hd:∀ ys H,Pv xs.length ys H->∀ p,H p=none->Q (.ref p) (af H p (.lst ys))) :
  gl (gc K a) js tt te σ H Q:=by
 refine ⟨fun i m ys H=>m=xs.length-i/\i<=xs.length/\Pv i ys H,⟨xs.length,by simp,Qr _,h0⟩,?_⟩
 rintro i m ys H ⟨rfl,hi,p⟩
 have q:=hl i ys H hi p
 by_cases hlt:i<xs.length
 ·refine .inr ⟨⟨xs,xs[i],q,by simp [hlt]⟩,Pv (i+1),fun ys' H' p'=>⟨xs.length-(i+1),by omega,rfl,hlt,p'⟩,fun x H' y=>?_⟩
  obtain ⟨e,y⟩:=y
  subst e
  exact hs i x ys _ (y xs q) p
 ·have e:i=xs.length:=by omega
  subst e
  exact .inl ⟨⟨xs,q,Qh _⟩,hd ys H p⟩
theorem ye {X:Cx} {K:PySem.W.Frag} (hK:X.K=K):c9 X (.type "tuple") (fun xs H Q=>∃ p ys,xs=[.ref p]/\((am K H p ys/\∀ l,H l=none->Q (.ref l) (af H l (.tup ys)))∨(ah K H p ys/\Q (.ref p) H))):=by subst hK;exact jX
theorem j6 {v:V} {i:Nat} {b:TS} {D:dr} {σ:St} {H:Hp} (h:b D (σ.set i (some v)) H):iJ (iL (tC v) (aX i)) b D σ H:=h
theorem i8 {c:TT} {t u b:TS} {D:dr} {σ:St} {H:Hp} (P:St->Hp->Prop) (h1:∀ R:St->Hp->Prop,(∀ σ' H',P σ' H'->R σ' H')->lN c t u { D with nx:=R } σ H) (h2:∀ σ' H',P σ' H'->b D σ' H'):iJ (lN c t u) b D σ H:=h1 (b D) h2
theorem d5 {wi:TI} {g:TG} {tb b:TS} {D:dr} {σ:St} {H:Hp} (P:St->Hp->Prop) (h1:∀ R:St->Hp->Prop,(∀ σ' H',P σ' H'->R σ' H')->lQ wi g tb { D with nx:=R } σ H) (h2:∀ σ' H',P σ' H'->b D σ' H'):iJ (lQ wi g tb) b D σ H:=h1 (b D) h2
end Mm
namespace L2
open PySem PySem.Spec PyProof.Rows
section
variable {X:Cx}
end
end L2
namespace L2
open PySem PySem.Spec PyProof.Rows
noncomputable def i9 (K:PySem.W.Frag) (a:Addr):It:=⟨fun i H=>∃ xs x,am K H a xs/\xs[i]?=some x,fun i H x H'=>∃ (t:Addr) (y:V),(∀ xs,am K H a xs->xs[i]?=some y)/\H t=none/\x=.ref t/\H'=af H t (.tup [.int ((i:Nat):Int),y]),fun i H=>∃ xs,am K H a xs/\xs.length<=i⟩
theorem yf {P:Program} {w:World} {K:PySem.W.Frag} {elts:List Expr} {k:Nat} {tpos:Pos} (a e it:Addr) (hei:e≠it) :
  eW P w K (.Tuple elts k tpos) (i9 K a) [e,it] e (fun i h=>(∃ old,IsEnum h e it i old)/\h.IsListIter it a i) where
 mem:=by simp
 obj:=fun i h st b hb=>by
  rcases (show b=e∨b=it by simpa using hb) with z | z
  ·subst z
   obtain ⟨⟨old,he⟩,_⟩:=st
   exact ⟨_,he,fun v z=>by cases z⟩
  ·subst z
   obtain ⟨_,o,e,c,d⟩:=st
   exact ⟨o,e,fun v z=>by rw [d] at z;cases z⟩
 keep:=fun i h h' st kk=>⟨by obtain ⟨old,he⟩:=st.1;exact ⟨old,kk e (by simp) _ he⟩,st.2.at fun o q=>kk it (by simp) o q⟩
 item:=by
  intro X hP hw hK hc i pins s σ H E I hf st hg
  subst hP hw hK
  obtain ⟨xs,x,hq,hx⟩:=hg
  obtain ⟨its,rv,p,hz⟩:=I.list hq
  obtain ⟨u,hu,ru⟩:=rv.get hx
  obtain ⟨⟨old,he⟩,hit⟩:=st
  obtain ⟨e0,e1,e2,e3,e4,e5⟩:=hf e (by simp)
  obtain ⟨f0,f1,f2,f3,f4,f5⟩:=hf it (by simp)
  refine wpAny_pyNext_enum_item he hit p.isList (x:=u) (by simpa using hu) hei fun h1 ho hit1 ht hsz kk=>?_
  refine ⟨_,rfl,?_⟩
  have hel:e<s.heap.objs.size:=Qm he
  have hil:it<s.heap.objs.size:=by obtain ⟨_,q,_⟩:=hit;exact Qm q
  refine wpAny_letOwnedTupleGo_enum (s:={ s with heap:=h1,toks:=s.toks+1 }) ho fun h2 he2 hs2=>?_
  have hs2:Heap.SameBut e h1 h2:=hs2
  have kk2:∀ b o,b≠e->b≠it->s.heap.get? b=some o->h2.get? b=some o:=fun b o q1 q2 q=>(hs2.2 b q1).trans (kk b o q1 q2 q)
  have ht2:h2.get? s.heap.objs.size=some { cls:=.type "tuple",data:=.seq #[.int i s.toks,u] }:=(hs2.2 _ (Nat.ne_of_gt hel)).trans ht
  have hT:H s.heap.objs.size=none:=I.fresh
  have I2:Inv X pins σ (af H s.heap.objs.size (.tup [.int ((i:Nat):Int),x])) { s with heap:=h2,toks:=s.toks+1 }:=by
   refine I.call' (ch:=[e,it]) rfl ⟨fun b o q hn hb hx=>?_,fun b o q hn hb hx=>?_,fun b o q hn hx=>?_,fun b o q hx=>?_,fun b ys q=>?_,fun b o v q=>?_,fun b ps q=>?_⟩ (fun b v q=>?_) I.bare fun b hb=>?_
   ·exact kk2 b o (fun z=>hx (by simp [z])) (fun z=>hx (by simp [z])) q
   ·exact ⟨o.slots,kk2 b o (fun z=>hx (by simp [z])) (fun z=>hx (by simp [z])) q⟩
   ·rw [ar (Qt (Qm q))];exact hn
   ·exact ⟨o,kk2 b o (fun z=>hx (by simp [z])) (fun z=>hx (by simp [z])) q⟩
   ·rw [ar (cD q hT)];exact q
   ·rw [ar (cD q hT)];exact q
   ·exact ⟨#[],by rw [ar (cD q hT)];simpa using q⟩
   ·by_cases hb:b=s.heap.objs.size
    ·subst hb
     rw [aj] at q
     cases q
     exact ⟨(by show 2<=sizeLine;decide),[.int i s.toks,u],.cons ⟨_,rfl⟩ (.cons ru .nil),⟨_,ht2,rfl,_,rfl⟩,_,ht2,rfl⟩
    ·rw [ar hb] at q
     have hne:b≠e:=fun z=>by rw [z,e0] at q;cases q
     have hni:b≠it:=fun z=>by rw [z,f0] at q;cases q
     refine (I.hok b v q).stay (fun c o hcb z=>kk2 c o (fun y=>?_) (fun y=>?_) z) (fun c z=>by rw [ar (cD z hT)];exact z) fun c ys z=>by rw [ar (cD z hT)];exact z
     ·rcases hcb with r | r
      ·exact hne (r ▸ y)
      ·rw [y,e0] at r;cases r
     ·rcases hcb with r | r
      ·exact hni (r ▸ y)
      ·rw [y,f0] at r;cases r
   ·rcases (show b=e∨b=it by simpa using hb) with z | z
    ·subst z;exact ⟨e3,e1,e4,e5⟩
    ·subst z;exact ⟨f3,f1,f4,f5⟩
  refine ⟨.ref s.heap.objs.size,_,I2,rfl,⟨_,x,fun ys hy=>by rw [I.list_inj hy hq];exact hx,hT,rfl,rfl⟩,⟨⟨u,by simpa using he2⟩,hit1.at fun o q=>(hs2.2 it hei.symm).trans q⟩,fun b hb=>?_⟩
  rcases (show b=e∨b=it by simpa using hb) with z | z
  ·subst z;rw [ar (Qt hel)];exact e0
  ·subst z;rw [ar (Qt hil)];exact f0
 done:=by
  intro X hP hw hK hc i pins s σ H E I hf st hg
  subst hP hw hK
  obtain ⟨xs,hq,hx⟩:=hg
  obtain ⟨its,rv,p,hz⟩:=I.list hq
  obtain ⟨f0,f1,f2,f3,f4,f5⟩:=hf it (by simp)
  obtain ⟨⟨old,he⟩,hit⟩:=st
  have hl:=rv.length
  exact wpAny_pyNext_enum_end (I.ok.hd hc) he hit p.isList (by simp;omega) fun h' eb=>⟨rfl,I.turned (t':=s.toks) (fun b o hb q=>eb b o hb q) f0 f1 f3 f4 f5⟩
 self:=fun _ _ _ _ _ st h=>by obtain ⟨⟨old,he⟩,_⟩:=st;exact wpAny_pyIter_enum he h
section
variable {X:Cx}
noncomputable def yg (K:PySem.W.Frag) (ta:TA):TI:=fun σ H R=>ta σ H fun vs H1=>∃ a xs,vs=[.ref a]/\am K H1 a xs/\R (i9 K a) H1
theorem yh {a:Expr} {ta:TA} {p pos tpos:Pos} {elts:List Expr} {k:Nat} (hg:Gl X "enumerate") (hm:X.mg "enumerate"=none) (ha:PA X [a] ta) (hs:starEach [a] X.env=[(false,eval a X.env)]:=by rfl) :
  PI X (.Tuple elts k tpos) (.Call (.Name "enumerate" p) [a] [] pos) (yg X.K ta):=by
 intro pins s σ H R I h
 refine Call_ (f8 I hg hm boot_enumerate (PyProof.Rows.callWith_type1 (ay (ha pos pins s σ H _ I h) fun us s1 hsl58=>?_) hs rfl))
 obtain ⟨vs,H1,I1,r1,q1⟩:=hsl58
 obtain ⟨l,xs,e,hq,q⟩:=q1
 subst e
 obtain ⟨u,rfl,ru⟩:=vals1 r1
 cases ru
 obtain ⟨its,rv,pp,hz⟩:=I1.list hq
 refine call_enumerate_list pp.isList fun h' he hit hsz kk=>?_
 refine wpAny_pyIter_enum (s:={ s1 with heap:=h' }) he ?_
 refine ⟨s1.heap.objs.size+1,[s1.heap.objs.size+1,s1.heap.objs.size],_,_,H1,rfl,I1.kept (t':=s1.toks) kk,yf l _ _ (Nat.succ_ne_self _),⟨⟨_,he⟩,hit⟩,fun b hb=>?_,q⟩
 rcases (show b=s1.heap.objs.size+1∨b=s1.heap.objs.size by simpa using hb) with z | z
 ·subst z;exact I1.fpOk (Nat.le_succ _) (I1.hok.fresh (Nat.le_succ _))
 ·subst z;exact I1.fpOk (Qh _) (I1.hok.fresh (Qh _))
end
theorem fk {X:Cx} {K:PySem.W.Frag} {es:List Expr} {k:Nat} {pos:Pos} {t:fB} {n:Nat} (hK:X.K=K) (hc:X.calm=true) (h:iK X es t)
  (hn:(assignEach es X.env).length=n:=by rfl) (hst:(assignEach es X.env).findIdx? (·.1)=none:=by rfl):PG X (.Tuple es k pos) (oW K n t):=by
 subst hK
 exact dt hc h hn hst
section
variable {k:Nat} {js:List Nat} {g:TG} {tt:TT} {te:TE}
theorem eM {K:PySem.W.Frag} {a:Addr} {xs:List V} {σ:St} {H:Hp} {Q:VK} (Pv:Nat->List V->Hp->Prop) (h0:Pv 0 [] H) (hl:∀ i ys H,i<=xs.length->Pv i ys H->am K H a xs)
  (hs:∀ i x ys H,xs[i]?=some x->Pv i ys H->i0 k js g tt te σ ys (Pv (i+1)) x H)
  (hd:∀ ys H,Pv xs.length ys H->∀ p,H p=none->Q (.ref p) (af H p (.lst ys))):j3 (f9 K a) k js g tt te σ H Q:=by
 refine ⟨fun i m ys H=>m=xs.length-i/\i<=xs.length/\Pv i ys H,⟨xs.length,by simp,Qr _,h0⟩,?_⟩
 rintro i m ys H ⟨rfl,hi,p⟩
 have q:=hl i ys H hi p
 by_cases hlt:i<xs.length
 ·refine .inr ⟨⟨xs,xs[i],q,by simp [hlt]⟩,Pv (i+1),fun ys' H' p'=>⟨xs.length-(i+1),by omega,rfl,hlt,p'⟩,fun x H' y=>?_⟩
  obtain ⟨e,y⟩:=y
  subst e
  exact hs i x ys _ (y xs q) p
 ·have e:i=xs.length:=by omega
  subst e
  exact .inl ⟨⟨xs,q,Qh _⟩,hd ys H p⟩
end
end L2
namespace L2
open PySem PySem.Spec PyProof.Rows
theorem yi {K:PySem.W.Frag} {a:Addr} {xs:List V} {g:TG} {tb:TS} {D:dr} {σ:St} {H:Hp} (Pv:Nat->St->Hp->Prop) (h0:Pv 0 σ H) (hl:∀ i σ H,i<=xs.length->Pv i σ H->am K H a xs)
  (hs:∀ i x σ H t,xs[i]?=some x->Pv i σ H->H t=none->g (.ref t) σ (af H t (.tup [.int ((i:Nat):Int),x])) fun σ2 H2=>tb { D with nx:=Pv (i+1),ct:=Pv (i+1),bk:=D.nx } σ2 H2) (hd:∀ σ H,Pv xs.length σ H->D.nx σ H) :
  ∃ W:Nat->Nat->St->Hp->Prop,(∃ m,W 0 m σ H)/\∀ i m σ H,W i m σ H ->
   ((i9 K a).stop i H/\D.nx σ H)∨((i9 K a).go i H/\∃ N:St->Hp->Prop,(∀ σ' H',N σ' H'->∃ m',m'<m/\W (i+1) m' σ' H')/\∀ x H',(i9 K a).yld i H x H'->g x σ H' fun σ2 H2=>tb { D with nx:=N,ct:=N,bk:=D.nx } σ2 H2):=by
 refine ⟨fun i m σ H=>m=xs.length-i/\i<=xs.length/\Pv i σ H,⟨xs.length,by simp,Qr _,h0⟩,?_⟩
 rintro i m σ H ⟨rfl,hi,p⟩
 have q:=hl i σ H hi p
 by_cases hlt:i<xs.length
 ·refine .inr ⟨⟨xs,xs[i],q,by simp [hlt]⟩,Pv (i+1),fun σ' H' p'=>⟨xs.length-(i+1),by omega,rfl,hlt,p'⟩,fun x H' y=>?_⟩
  obtain ⟨t,y,hy,hn,rfl,rfl⟩:=y
  exact hs i y σ _ t (hy xs q) p hn
 ·have e:i=xs.length:=by omega
  subst e
  exact .inl ⟨⟨xs,q,Qh _⟩,hd σ H p⟩
end L2
namespace L2
open PySem PySem.Spec PyProof.Rows
section
variable {prog:Program} {w:World} {A:Around} {E:Value->Shared->Prop} {s:Shared}
theorem ms {c t:Addr} {i:Nat} {zs:Array Value} {x:Value} {Q:Value->Shared->Prop} (g:s.heap.IsTupleIter c t i) (gt:s.heap.IsTuple t zs) (gx:zs[i]?=some x)
  (k:∀ hp,hp.IsTupleIter c t (i+1)->Heap.SameBut c s.heap hp->Q x { s with heap:=hp }):wpAny (model prog w) A (Builtin.SmallTypes.nextOf (.ref c)) Q E s:=by
 have ty:=g.typeIs
 obtain ⟨o,h1,h2,h3⟩:=id g
 obtain ⟨q,hq,_,m,hm⟩:=gt
 unfold Builtin.SmallTypes.nextOf
 refine Qa (wpAny_callSpecial?_slot (name:=Str.ofString "__next__") ty F.slot_tuple_iterator_next (wpAny_call_entry F.slot_tuple_iterator_next ty F.entry_tuple_iterator_next ?_ (F.args_tuple_iterator_next_1 _)))
 change wpAny _ _ (field (.ref c) 0 >>= _) _ _ _
 refine Qa (wpAny_field h1 h3 (x:=.ref t) rfl ?_)
 change wpAny _ _ (if (Value.ref t == Value.none)=true then _ else _) _ _ _
 rw [if_neg (by exact Bool.false_ne_true)]
 change wpAny _ _ (field (.ref c) 1 >>= _) _ _ _
 refine Qa (wpAny_field h1 h3 (x:=.int i 0) rfl ?_)
 change wpAny _ _ (seqItems? (.ref t) >>= _) _ _ _
 refine Qa (wpAny_seqItems hq hm ?_)
 simp only [Int.toNat_natCast,gx]
 have z:=fun hp a b=>Qd (M:=model prog w) (A:=A) (E:=E) (k hp a b)
 refine Qa (wpAny_setField h1 h3 (by simp) (Qd ⟨x,rfl,z _ ⟨_,Heap.get?_update_self _ h1 (Obj.isFreed_of_fields (Obj.data_mapFields h3 _)),(Obj.cls_mapFields ..).trans h2,?_⟩ (Heap.SameBut.update ..)⟩))
 rw [Obj.data_mapFields h3];simp [rawInt]
theorem qw {c t:Addr} {i:Nat} {zs:Array Value} {Q:Value->Shared->Prop} (hh:A.handled=none) (g:s.heap.IsTupleIter c t i) (gt:s.heap.IsTuple t zs) (gx:zs[i]?=none)
  (k:∀ hp e,Heap.ExtBut c s.heap hp->(∃ o,hp.get? e=some o/\o.cls=.type "StopIteration")->E (.ref e) { s with heap:=hp }):wpAny (model prog w) A (Builtin.SmallTypes.nextOf (.ref c)) Q E s:=by
 have ty:=g.typeIs
 obtain ⟨o,h1,h2,h3⟩:=id g
 obtain ⟨q,hq,_,m,hm⟩:=gt
 unfold Builtin.SmallTypes.nextOf
 refine Qa (wpAny_callSpecial?_slot (name:=Str.ofString "__next__") ty F.slot_tuple_iterator_next (wpAny_call_entry F.slot_tuple_iterator_next ty F.entry_tuple_iterator_next ?_ (F.args_tuple_iterator_next_1 _)))
 change wpAny _ _ (field (.ref c) 0 >>= _) _ _ _
 refine Qa (wpAny_field h1 h3 (x:=.ref t) rfl ?_)
 change wpAny _ _ (if (Value.ref t == Value.none)=true then _ else _) _ _ _
 rw [if_neg (by exact Bool.false_ne_true)]
 change wpAny _ _ (field (.ref c) 1 >>= _) _ _ _
 refine Qa (wpAny_field h1 h3 (x:=.int i 0) rfl ?_)
 change wpAny _ _ (seqItems? (.ref t) >>= _) _ _ _
 refine Qa (wpAny_seqItems hq hm ?_)
 simp only [Int.toNat_natCast,gx]
 refine Qa (wpAny_rule (Qa (wpAny_setField h1 h3 (by simp) ?_)))
 change wpAny _ _ (newExc (.type "StopIteration") [] >>= _) _ _ _
 refine Qa ?_
 simp only [newTuple,newExc]
 refine Qa (wpAny_newObj_type ?_ (by size_fits))
 refine Qa (m:=firstArgMember _ _) (wpAny_of_eq (a:=Value.none) rfl ?_)
 refine wpAny_newObj_type ?_ (by size_fits)
 simp only [raiseNew]
 refine Qa (wpAny_handled ?_)
 first | rw [hh] | rw [show A.in1.handled=none from hh]
 exact Qa (Qd (wpAny_throw (k _ _ (((Heap.SameBut.update ..).extBut.push _).push _) ⟨_,Qj _ rfl,rfl⟩)))
noncomputable def cE (l:Bool) (h:Heap) (b:Addr) (ys:Array Value):Prop:=∃ o,h.get? b=some o/\o.cls=.type (bif l then "list" else "tuple")/\∃ n,o.data=.seq ys n
noncomputable def d6 (l:Bool) (h:Heap) (d b:Addr) (k:Nat):Prop:=∃ o,h.get? d=some o/\o.cls=.type (bif l then "list_iterator" else "tuple_iterator")/\o.data=.fields #[.ref b,.int k 0]
noncomputable def fm (l:Bool) (K:PySem.W.Frag) (H:Hp) (b:Addr) (ys:List V):Prop:=bif l then am K H b ys else ah K H b ys
theorem cE.extBut {l:Bool} {h h':Heap} {b c:Addr} {ys:Array Value} (p:cE l h b ys) (e:Heap.ExtBut c h h') (n:b≠c):cE l h' b ys :=
 let ⟨o,q,r⟩:=p;⟨o,e b o n q,r⟩
theorem d6.at {l:Bool} {h h':Heap} {d b:Addr} {k:Nat} (p:d6 l h d b k) (e:∀ o,h.get? d=some o->h'.get? d=some o):d6 l h' d b k :=
 let ⟨o,q,r⟩:=p;⟨o,e o q,r⟩
theorem d6.extBut {l:Bool} {h h':Heap} {d b c:Addr} {k:Nat} (p:d6 l h d b k) (e:Heap.ExtBut c h h') (n:d≠c):d6 l h' d b k:=p.at fun o r=>e d o n r
theorem yj {l:Bool} {c t:Addr} {i:Nat} {zs:Array Value} {x:Value} {Q:Value->Shared->Prop} (g:d6 l s.heap c t i) (gt:cE l s.heap t zs) (gx:zs[i]?=some x)
  (k:∀ hp,d6 l hp c t (i+1)->Heap.SameBut c s.heap hp->Q x { s with heap:=hp }):wpAny (model prog w) A (Builtin.SmallTypes.nextOf (.ref c)) Q E s:=by
 cases l
 ·exact ms g gt gx k
 ·exact wpAny_nextOf_list_item g gt gx k
theorem yk {l:Bool} {c t:Addr} {i:Nat} {zs:Array Value} {Q:Value->Shared->Prop} (hh:A.handled=none) (g:d6 l s.heap c t i) (gt:cE l s.heap t zs) (gx:zs[i]?=none)
  (k:∀ hp e,Heap.ExtBut c s.heap hp->(∃ o,hp.get? e=some o/\o.cls=.type "StopIteration")->E (.ref e) { s with heap:=hp }):wpAny (model prog w) A (Builtin.SmallTypes.nextOf (.ref c)) Q E s:=by
 cases l
 ·exact qw hh g gt gx k
 ·exact wpAny_nextOf_list_end hh g gt gx k
theorem Inv.seqS {l:Bool} {X:Cx} {pins:List (Addr × Obj)} {σ:St} {H:Hp} {a:Addr} {xs:List V} (I:Inv X pins σ H s) (h:fm l X.K H a xs):∃ its:List Value,aw xs its/\cE l s.heap a its.toArray/\xs.length<=sizeLine:=by
 cases l
 ·exact I.tuple h
 ·obtain ⟨its,r,⟨o,n,e,c,_,d⟩,z⟩:=I.list h
  exact ⟨its,r,⟨o,e,c,n,d⟩,z⟩
theorem Inv.seqS_inj {l:Bool} {X:Cx} {pins:List (Addr × Obj)} {σ:St} {H:Hp} {a:Addr} {xs ys:List V} (I:Inv X pins σ H s) (h:fm l X.K H a xs) (h':fm l X.K H a ys):xs=ys:=by
 cases l
 ·exact I.tuple_inj h h'
 ·exact I.list_inj h h'
structure ZT (l:Bool) (h:Heap) (z TI TO c d a b:Addr) (k:Nat) (f:Value):Prop where
 zip:IsZip h z TI TO f
 its:IsPair h TI (.ref c) (.ref d)
 own:∃ p q,IsPair h TO p q
 fst:h.IsTupleIter c a k
 snd:d6 l h d b k
theorem ZT.zip_item {l:Bool} {z TI TO c d a b:Addr} {k:Nat} {xs ys:Array Value} {x y:Value} {Q:Value->Shared->Prop} (D:ZipApart z TI TO c d a b) (Z:ZT l s.heap z TI TO c d a b k .none)
  (ha:s.heap.IsTuple a xs) (hb:cE l s.heap b ys) (hx:xs[k]?=some x) (hy:ys[k]?=some y)
  (kq:∀ hp,ZT l hp z TI TO c d a b (k+1) (rawInt s.heap.objs.size)->IsPair hp s.heap.objs.size x y->(∀ e o,e≠z->e≠TO->e≠c->e≠d->s.heap.get? e=some o->hp.get? e=some o)->Q (.ref s.heap.objs.size) { s with heap:=hp }) :
  wpAny (model prog w) A (Builtin.«zip.__next__» ⟨[.ref z],[]⟩) (fun fin s'=>∃ v,fin=.done (.ret v)/\Q v s') E s:=by
 obtain ⟨Zz,Zi,⟨p,q,Zo⟩,Z1,Z2⟩:=Z
 change wpAny _ _ (field (.ref z) 2 >>= _) _ _ _
 refine Qa (wpAny_field Zz rfl (x:=.bool false) rfl ?_)
 change wpAny _ _ (field (.ref z) 3 >>= _) _ _ _
 refine Qa (wpAny_field Zz rfl (x:=.ref TI) rfl (Qa (wpAny_seqItems Zi rfl ?_)))
 change wpAny _ _ (Builtin.SmallTypes.ownedTupleIsFree (.ref z) >>= _) _ _ _
 refine Qa ?_
 unfold Builtin.SmallTypes.ownedTupleIsFree
 refine Qa (wpAny_field Zz rfl (x:=.none) rfl (Qd ?_))
 simp only [if_true]
 refine Qa (wpAny_rule (Qa (wpAny_field Zz rfl (x:=.ref TO) rfl ?_)))
 refine Qa (wpAny_setField_rec Zz (by simp) fun g1 Zz1 e1=>?_)
 have Zz1:IsZip g1 z TI TO .ellipsis:=Zz1
 refine Qa ?_
 simp only [List.zipIdx_cons,List.zipIdx_nil,List.forIn_cons,List.forIn_nil]
 refine Qa (Qa (wpAny_onRaise ?_))
 change wpAny _ _ (Builtin.SmallTypes.nextOf (.ref c) >>= _) _ _ _
 refine Qa (ms (Z1.extBut e1.extBut D.i1z) (ha.extBut e1.extBut D.l1z) hx fun g2 Y1 e2=>Qd ?_)
 have O2:IsPair g2 TO p q:=e2.extBut _ _ D.TOi1 (e1.extBut _ _ D.TOz Zo)
 refine Qa (wpAny_seqItems O2 rfl (Qa (wpAny_updateSeq_pair O2 fun g3 O3 e3=>?_)))
 have O3:IsPair g3 TO x q:=O3
 refine Qa (wpAny_letGo (Qd (Qa (Qa (wpAny_onRaise ?_)))))
 change wpAny _ _ (Builtin.SmallTypes.nextOf (.ref d) >>= _) _ _ _
 refine Qa (yj (((Z2.extBut e1.extBut D.i2z).extBut e2.extBut D.i12.symm).extBut e3.extBut D.TOi2.symm) (((hb.extBut e1.extBut D.l2z).extBut e2.extBut D.l2i1).extBut e3.extBut D.l2TO) hy fun g4 Y2 e4=>Qd ?_)
 have O4:IsPair g4 TO x q:=e4.extBut _ _ D.TOi2 O3
 refine Qa (wpAny_seqItems O4 rfl (Qa (wpAny_updateSeq_pair O4 fun g5 O5 e5=>?_)))
 have O5:IsPair g5 TO x y:=O5
 refine Qa (wpAny_letGo (Qd (Qd (Qa (wpAny_seqItems O5 rfl (Qa (wpAny_newTuple ?_)))))))
 have sz:g5.objs.size=s.heap.objs.size:=by rw [e5.1,e4.1,e3.1,e2.1,e1.1]
 have Zz5:IsZip g5 z TI TO .ellipsis:=e5.extBut _ _ D.TOz.symm (e4.extBut _ _ D.i2z.symm (e3.extBut _ _ D.TOz.symm (e2.extBut _ _ D.i1z.symm Zz1)))
 have up5:∀ e o,e≠z->e≠TO->e≠c->e≠d->s.heap.get? e=some o->g5.get? e=some o:=fun e o n1 n2 n3 n4 r=>e5.extBut _ _ n2 (e4.extBut _ _ n4 (e3.extBut _ _ n2 (e2.extBut _ _ n3 (e1.extBut _ _ n1 r))))
 have Y15:g5.IsTupleIter c a (k+1):=((Y1.extBut e3.extBut D.TOi1.symm).extBut e4.extBut D.i12).extBut e5.extBut D.TOi1.symm
 have Y25:d6 l g5 d b (k+1):=Y2.extBut e5.extBut D.TOi2.symm
 have zl:z<g5.objs.size:=Qm Zz5
 change wpAny _ _ (Builtin.SmallTypes.ownedTupleHandOut (.ref z) (.ref g5.objs.size) >>= _) _ _ _
 refine Qa ?_
 unfold Builtin.SmallTypes.ownedTupleHandOut
 have Zz6:IsZip (g5.push { cls:=.type "tuple",data:=.seq #[x,y] }) z TI TO .ellipsis:=Qe _ Zz5
 refine Qa (wpAny_setField_rec Zz6 (by simp) fun g7 Zz7 e7=>?_)
 have Zz7:IsZip g7 z TI TO (rawInt g5.objs.size):=Zz7
 refine wpAny_setField_rec Zz7 (by simp) fun g8 Zz8 e8=>?_
 have Zz8:IsZip g8 z TI TO (rawInt g5.objs.size):=Zz8
 have up:∀ e o,e≠z->g5.get? e=some o->g8.get? e=some o:=fun e o n r=>e8.extBut _ _ n (e7.extBut _ _ n (Qe _ r))
 have T8:IsPair g8 g5.objs.size x y:=e8.extBut _ _ (Nat.ne_of_gt zl) (e7.extBut _ _ (Nat.ne_of_gt zl) (Qj _ rfl))
 rw [sz] at Zz8 T8
 refine Qd ⟨_,rfl,?_⟩
 change Q (.ref g5.objs.size) _
 rw [sz]
 exact kq g8 ⟨Zz8,up _ _ D.TIz (up5 _ _ D.TIz D.TITO D.TIi1 D.TIi2 Zi),⟨_,_,up _ _ D.TOz O5⟩,Y15.at fun o r=>up _ o D.i1z r,Y25.at fun o r=>up _ o D.i2z r⟩ T8 fun e o n1 n2 n3 n4 r=>up e o n1 (up5 e o n1 n2 n3 n4 r)
theorem ZT.zip_end {l:Bool} {z TI TO c d a b:Addr} {k:Nat} {xs ys:Array Value} {Q:Fin->Shared->Prop} (hh:A.handled=none) (D:ZipApart z TI TO c d a b) (Z:ZT l s.heap z TI TO c d a b k .none)
  (ha:s.heap.IsTuple a xs) (hb:cE l s.heap b ys) (hend:xs[k]?=none∨ys[k]?=none)
  (kq:∀ hp e,(∀ e o,e≠z->e≠TO->e≠c->e≠d->s.heap.get? e=some o->hp.get? e=some o)->(∃ o,hp.get? e=some o/\o.cls=.type "StopIteration")->E (.ref e) { s with heap:=hp }) :
  wpAny (model prog w) A (Builtin.«zip.__next__» ⟨[.ref z],[]⟩) Q E s:=by
 obtain ⟨Zz,Zi,⟨p,q,Zo⟩,Z1,Z2⟩:=Z
 change wpAny _ _ (field (.ref z) 2 >>= _) _ _ _
 refine Qa (wpAny_field Zz rfl (x:=.bool false) rfl ?_)
 change wpAny _ _ (field (.ref z) 3 >>= _) _ _ _
 refine Qa (wpAny_field Zz rfl (x:=.ref TI) rfl (Qa (wpAny_seqItems Zi rfl ?_)))
 change wpAny _ _ (Builtin.SmallTypes.ownedTupleIsFree (.ref z) >>= _) _ _ _
 refine Qa ?_
 unfold Builtin.SmallTypes.ownedTupleIsFree
 refine Qa (wpAny_field Zz rfl (x:=.none) rfl (Qd ?_))
 simp only [if_true]
 refine Qa (wpAny_rule (Qa (wpAny_field Zz rfl (x:=.ref TO) rfl ?_)))
 refine Qa (wpAny_setField_rec Zz (by simp) fun g1 Zz1 e1=>?_)
 have Zz1:IsZip g1 z TI TO .ellipsis:=Zz1
 refine Qa ?_
 simp only [List.zipIdx_cons,List.zipIdx_nil,List.forIn_cons,List.forIn_nil]
 refine Qa (Qa (wpAny_onRaise ?_))
 change wpAny _ _ (Builtin.SmallTypes.nextOf (.ref c) >>= _) _ _ _
 have off:∀ {hp:Heap} {e:Addr},IsZip hp z TI TO .ellipsis->(∃ o,hp.get? e=some o/\o.cls=.type "StopIteration")->e≠z:=fun i ⟨o,h1,h2⟩ y=>by
  subst y
  rw [i] at h1;cases h1;simp at h2
 cases hx:xs[k]? with
 | none =>
  refine Qa (qw hh (Z1.extBut e1.extBut D.i1z) (ha.extBut e1.extBut D.l1z) hx fun g2 e e2 he=>?_)
  have Zz2:IsZip g2 z TI TO .ellipsis:=e2 _ _ D.i1z.symm Zz1
  have n:=off Zz2 he
  obtain ⟨oe,he1,he2⟩:=he
  exact wpAny_setField_rec Zz2 (by simp) fun g3 _ e3=>kq g3 e (fun u o n1 _ n3 _ r=>e3.extBut _ _ n1 (e2 _ _ n3 (e1.extBut _ _ n1 r))) ⟨oe,e3.extBut _ _ n he1,he2⟩
 | some x =>
  have hy:ys[k]?=none:=hend.resolve_left (by rw [hx];simp)
  refine Qa (ms (Z1.extBut e1.extBut D.i1z) (ha.extBut e1.extBut D.l1z) hx fun g2 Y1 e2=>Qd ?_)
  have O2:IsPair g2 TO p q:=e2.extBut _ _ D.TOi1 (e1.extBut _ _ D.TOz Zo)
  refine Qa (wpAny_seqItems O2 rfl (Qa (wpAny_updateSeq_pair O2 fun g3 O3 e3=>?_)))
  refine Qa (wpAny_letGo (Qd (Qa (Qa (wpAny_onRaise ?_)))))
  change wpAny _ _ (Builtin.SmallTypes.nextOf (.ref d) >>= _) _ _ _
  refine Qa (yk hh (((Z2.extBut e1.extBut D.i2z).extBut e2.extBut D.i12.symm).extBut e3.extBut D.TOi2.symm) (((hb.extBut e1.extBut D.l2z).extBut e2.extBut D.l2i1).extBut e3.extBut D.l2TO) hy fun g4 e e4 he=>?_)
  have Zz4:IsZip g4 z TI TO .ellipsis:=e4 _ _ D.i2z.symm (e3.extBut _ _ D.TOz.symm (e2.extBut _ _ D.i1z.symm Zz1))
  have n:=off Zz4 he
  obtain ⟨oe,he1,he2⟩:=he
  exact wpAny_setField_rec Zz4 (by simp) fun g5 _ e5=>kq g5 e (fun u o n1 n2 n3 n4 r=>e5.extBut _ _ n1 (e4 _ _ n4 (e3.extBut _ _ n2 (e2.extBut _ _ n3 (e1.extBut _ _ n1 r))))) ⟨oe,e5.extBut _ _ n he1,he2⟩
theorem ZT.next {l:Bool} {z TI TO c d a b:Addr} {k:Nat} {xs ys:Array Value} {x y:Value} {Q:Option Value->Shared->Prop} (D:ZipApart z TI TO c d a b) (Z:ZT l s.heap z TI TO c d a b k .none)
  (ha:s.heap.IsTuple a xs) (hb:cE l s.heap b ys) (hx:xs[k]?=some x) (hy:ys[k]?=some y)
  (kq:∀ hp,ZT l hp z TI TO c d a b (k+1) (rawInt s.heap.objs.size)->IsPair hp s.heap.objs.size x y->(∀ e o,e≠z->e≠TO->e≠c->e≠d->s.heap.get? e=some o->hp.get? e=some o)->Q (some (.ref s.heap.objs.size)) { s with heap:=hp }) :
  wpAny (model prog w) A (pyNext (.ref z)) Q E s:=by
 have ty:s.TypeIs (.ref z) "zip":=⟨_,Z.zip,rfl⟩
 unfold pyNext
 refine Qa (wpAny_attempt (wpAny_callSpecial?_slot (name:=Str.ofString "__next__") ty F.slot_zip_next (wpAny_call_entry F.slot_zip_next ty F.entry_zip_next ?_ (F.args_zip_next_1 _))))
 exact Z.zip_item D ha hb hx hy fun hp p1 p2 p3=>Qd (kq hp p1 p2 p3)
theorem ZT.ends {l:Bool} {z TI TO c d a b:Addr} {k:Nat} {xs ys:Array Value} {Q:Option Value->Shared->Prop} (hh:A.handled=none) (D:ZipApart z TI TO c d a b) (Z:ZT l s.heap z TI TO c d a b k .none)
  (ha:s.heap.IsTuple a xs) (hb:cE l s.heap b ys) (hend:xs[k]?=none∨ys[k]?=none)
  (kq:∀ hp,(∀ e o,e≠z->e≠TO->e≠c->e≠d->s.heap.get? e=some o->hp.get? e=some o)->Q none { s with heap:=hp }):wpAny (model prog w) A (pyNext (.ref z)) Q E s:=by
 have ty:s.TypeIs (.ref z) "zip":=⟨_,Z.zip,rfl⟩
 unfold pyNext
 refine Qa (wpAny_attempt (wpAny_callSpecial?_slot (name:=Str.ofString "__next__") ty F.slot_zip_next (wpAny_call_entry F.slot_zip_next ty F.entry_zip_next (Z.zip_end hh D ha hb hend fun hp e up ⟨o,h1,h2⟩=>?_) (F.args_zip_next_1 _))))
 exact Qa (wpAny_isInstance (T:="StopIteration") (b:=true) ⟨o,h1,h2⟩ isSubtype_stop (Qd (kq _ up)))
end
noncomputable def g9 (l:Bool) (K:PySem.W.Frag) (a b:Addr):It:=⟨fun i H=>∃ xs ys x y,ah K H a xs/\fm l K H b ys/\xs[i]?=some x/\ys[i]?=some y,fun i H v H'=>∃ (t:Addr) (x y:V),(∀ xs,ah K H a xs->xs[i]?=some x)/\(∀ ys,fm l K H b ys->ys[i]?=some y)/\H t=none/\v=.ref t/\H'=af H t (.tup [x,y]),fun i H=>∃ xs ys,ah K H a xs/\fm l K H b ys/\(xs.length<=i∨ys.length<=i)⟩
theorem yl {l:Bool} {P:Program} {w:World} {K:PySem.W.Frag} {elts:List Expr} {n:Nat} {tpos:Pos} {z TI TO c d a b:Addr} (D:ZipApart z TI TO c d a b) :
  eW P w K (.Tuple elts n tpos) (g9 l K a b) [z,TI,TO,c,d] z (fun i h=>ZT l h z TI TO c d a b i .none) where
 mem:=by simp
 obj:=fun i h st e he=>by
  obtain ⟨Zz,Zi,⟨p,q,Zo⟩,⟨o1,p1,p2,p3⟩,⟨o2,q1,q2,q3⟩⟩:=st
  simp only [List.mem_cons,List.mem_nil_iff,or_false] at he
  rcases he with rfl | rfl | rfl | rfl | rfl
  ·exact ⟨_,Zz,fun v y=>by cases y⟩
  ·exact ⟨_,Zi,fun v y=>by cases y⟩
  ·exact ⟨_,Zo,fun v y=>by cases y⟩
  ·exact ⟨_,p1,fun v y=>by rw [p3] at y;cases y⟩
  ·exact ⟨_,q1,fun v y=>by rw [q3] at y;cases y⟩
 keep:=fun i h h' st kk=>by
  obtain ⟨Zz,Zi,⟨p,q,Zo⟩,Z1,Z2⟩:=st
  exact ⟨kk z (by simp) _ Zz,kk TI (by simp) _ Zi,⟨p,q,kk TO (by simp) _ Zo⟩,Z1.at fun o r=>kk c (by simp) o r,Z2.at fun o r=>kk d (by simp) o r⟩
 item:=by
  intro X hP hw hK hc i pins s σ H E I hf st hg
  subst hP hw hK
  obtain ⟨xs,ys,x,y,hqx,hqy,hx,hy⟩:=hg
  obtain ⟨its,rv,pa,hz⟩:=I.tuple hqx
  obtain ⟨jts,rw',pb,hz'⟩:=I.seqS hqy
  obtain ⟨u,hu,ru⟩:=rv.get hx
  obtain ⟨v,hv,rv'⟩:=rw'.get hy
  refine st.next D (show s.heap.IsTuple a its.toArray from pa) pb (x:=u) (y:=v) (by simpa using hu) (by simpa using hv) fun h1 Z1 ht kk=>?_
  refine ⟨_,rfl,?_⟩
  have lt:∀ e∈[z,TI,TO,c,d],e<s.heap.objs.size:=fun e he=>by
   obtain ⟨Zz,Zi,⟨p,q,Zo⟩,⟨o1,p1,_⟩,⟨o2,q1,_⟩⟩:=st
   simp only [List.mem_cons,List.mem_nil_iff,or_false] at he
   rcases he with rfl | rfl | rfl | rfl | rfl
   ·exact Qm Zz
   ·exact Qm Zi
   ·exact Qm Zo
   ·exact Qm p1
   ·exact Qm q1
  refine wpAny_letOwnedTupleGo_zip (s:={ s with heap:=h1 }) Z1.zip fun h2 Zz2 hs2=>?_
  have hs2:Heap.SameBut z h1 h2:=hs2
  have kk2:∀ e o,e∉[z,TI,TO,c,d]->s.heap.get? e=some o->h2.get? e=some o:=fun e o n r=>by
   simp only [List.mem_cons,List.mem_nil_iff,or_false,not_or] at n
   exact (hs2.2 e n.1).trans (kk e o n.1 n.2.2.1 n.2.2.2.1 n.2.2.2.2 r)
  have hzl:=lt z (by simp)
  have ht2:h2.get? s.heap.objs.size=some { cls:=.type "tuple",data:=.seq #[u,v] }:=(hs2.2 _ (Nat.ne_of_gt hzl)).trans ht
  have hT:H s.heap.objs.size=none:=I.fresh
  have I2:Inv X pins σ (af H s.heap.objs.size (.tup [x,y])) { s with heap:=h2 }:=by
   refine I.call' (ch:=[z,TI,TO,c,d]) rfl ⟨fun b o q hn hb hx=>kk2 b o hx q,fun b o q hn hb hx=>⟨o.slots,kk2 b o hx q⟩,fun b o q hn hx=>?_,fun b o q hx=>⟨o,kk2 b o hx q⟩,fun b ys q=>?_,fun b o v q=>?_,fun b ps q=>?_⟩ (fun b v q=>?_) I.bare fun b hb=>?_
   ·rw [ar (Qt (Qm q))];exact hn
   ·rw [ar (cD q hT)];exact q
   ·rw [ar (cD q hT)];exact q
   ·exact ⟨#[],by rw [ar (cD q hT)];simpa using q⟩
   ·by_cases hb:b=s.heap.objs.size
    ·subst hb
     rw [aj] at q
     cases q
     exact ⟨(by show 2<=sizeLine;decide),[u,_],.cons ru (.cons rv' .nil),⟨_,ht2,rfl,_,rfl⟩,_,ht2,rfl⟩
    ·rw [ar hb] at q
     refine (I.hok b v q).stay (fun e o hcb r=>kk2 e o (fun he=>?_) r) (fun e r=>by rw [ar (cD r hT)];exact r) fun e ys r=>by rw [ar (cD r hT)];exact r
     have e0:=(hf e he).1
     rcases hcb with r | r
     ·subst r;rw [e0] at q;cases q
     ·rw [e0] at r;cases r
   ·obtain ⟨f0,f1,f2,f3,f4,f5⟩:=hf b hb
    exact ⟨f3,f1,f4,f5⟩
  refine ⟨.ref s.heap.objs.size,_,I2,rfl,⟨_,x,y,fun zs hq=>by rw [I.tuple_inj hq hqx];exact hx,fun zs hq=>by rw [I.seqS_inj hq hqy];exact hy,hT,rfl,rfl⟩,?_,fun e he=>?_⟩
  ·obtain ⟨_,Zi,⟨p,q,Zo⟩,Y1,Y2⟩:=Z1
   exact ⟨Zz2,hs2.extBut _ _ D.TIz Zi,⟨p,q,hs2.extBut _ _ D.TOz Zo⟩,Y1.extBut hs2.extBut D.i1z,Y2.extBut hs2.extBut D.i2z⟩
  ·rw [ar (Qt (lt e he))];exact (hf e he).1
 done:=by
  intro X hP hw hK hc i pins s σ H E I hf st hg
  subst hP hw hK
  obtain ⟨xs,ys,hqx,hqy,hx⟩:=hg
  obtain ⟨its,rv,pa,hz⟩:=I.tuple hqx
  obtain ⟨jts,rw',pb,hz'⟩:=I.seqS hqy
  have l1:=rv.length
  have l2:=rw'.length
  refine st.ends (I.ok.hd hc) D (show s.heap.IsTuple a its.toArray from pa) pb ?_ fun h' up=>⟨rfl,?_⟩
  ·rcases hx with hx | hx
   ·left;simp;omega
   ·right;simp;omega
  ·have kk2:∀ e o,e∉[z,TI,TO,c,d]->s.heap.get? e=some o->h'.get? e=some o:=fun e o n r=>by
    simp only [List.mem_cons,List.mem_nil_iff,or_false,not_or] at n
    exact up e o n.1 n.2.2.1 n.2.2.2.1 n.2.2.2.2 r
   refine I.call' (s':={ s with heap:=h' }) (ch:=[z,TI,TO,c,d]) rfl ⟨fun b o q hn hb hx=>kk2 b o hx q,fun b o q hn hb hx=>⟨o.slots,kk2 b o hx q⟩,fun b o q hn hx=>hn,fun b o q hx=>⟨o,kk2 b o hx q⟩,fun b ys q=>q,fun b o v q=>q,fun b ps q=>⟨#[],by simpa using q⟩⟩ (fun b v q=>?_) I.bare fun b hb=>?_
   ·refine (I.hok b v q).stay (fun e o hcb r=>kk2 e o (fun he=>?_) r) (fun e r=>r) fun e ys r=>r
    have e0:=(hf e he).1
    rcases hcb with r | r
    ·subst r;rw [e0] at q;cases q
    ·rw [e0] at r;cases r
   ·obtain ⟨f0,f1,f2,f3,f4,f5⟩:=hf b hb
    exact ⟨f3,f1,f4,f5⟩
 self:=fun _ _ _ _ _ st h=>wpAny_pyIter_zip st.zip h
section
variable {prog:Program} {w:World} {A:Around} {E:Value->Shared->Prop} {s:Shared}
noncomputable abbrev qx (t:Addr):Obj:={ cls:=.type "tuple_iterator",data:=.fields #[.ref t,.int 0 0] }
noncomputable abbrev j7 (x y:Value):Obj:={ cls:=.type "tuple",data:=.seq #[x,y] }
noncomputable abbrev ja (h:Heap) (a:Addr):Heap:=h.push (qx a)
noncomputable abbrev mv (l:Bool) (t:Addr):Obj:={ cls:=.type (bif l then "list_iterator" else "tuple_iterator"),data:=.fields #[.ref t,.int 0 0] }
noncomputable abbrev jb (l:Bool) (h:Heap) (a b:Addr):Heap:=(ja h a).push (mv l b)
noncomputable abbrev jc (l:Bool) (h:Heap) (a b:Addr):Heap:=(jb l h a b).push (j7 (.ref h.objs.size) (.ref (ja h a).objs.size))
noncomputable abbrev j8 (l:Bool) (h:Heap) (a b:Addr):Heap:=(jc l h a b).push (j7 .none .none)
noncomputable abbrev hJ (l:Bool) (h:Heap) (a b:Addr):Heap:=(j8 l h a b).push { cls:=.type "zip",data:=.fields #[.none,.bool false,.bool false,.ref (jb l h a b).objs.size,.ref (jc l h a b).objs.size] }
theorem ym (l:Bool) (a b:Addr) (xs ys:Array Value) :
  Meets (Builtin.«zip.__new__» ⟨[.type "zip",.ref a,.ref b],[]⟩) (fun _ R s=>s.heap.IsTuple a xs/\cE l s.heap b ys/\R (.ok (.ret (.ref (j8 l s.heap a b).objs.size))) { s with heap:=hJ l s.heap a b }) :=
 .of_wp fun prog w A R s h=>by
  obtain ⟨hp,g,d,tk,os⟩:=s
  obtain ⟨ha,hb,h⟩:=h
  have hsub:=sub_zip
  have t1:Heap.IsTuple (Shared.heap ⟨hp,g,d,tk,os⟩) a xs:=ha
  cases l
  ·have t2:Heap.IsTuple (Shared.heap ⟨hp.push { cls:=.type "tuple_iterator",data:=.fields #[.ref a,.int 0 0] },g,d,tk,os⟩) b ys:=Heap.IsTuple.push hb _
   wp_walk using wpAny_pyIter_tuple t1,wpAny_pyIter_tuple t2
   exact ⟨_,rfl,h⟩
  ·have t2:Heap.IsList (Shared.heap ⟨hp.push { cls:=.type "tuple_iterator",data:=.fields #[.ref a,.int 0 0] },g,d,tk,os⟩) b ys:=Heap.IsList.push hb _
   wp_walk using wpAny_pyIter_tuple t1,wpAny_pyIter_list t2
   exact ⟨_,rfl,h⟩
theorem yn {l:Bool} {a b:Addr} {xs ys:Array Value} {Q:Value->Shared->Prop} (ha:s.heap.IsTuple a xs) (hb:cE l s.heap b ys)
  (k:∀ hp,ZT l hp (s.heap.objs.size+4) (s.heap.objs.size+2) (s.heap.objs.size+3) s.heap.objs.size (s.heap.objs.size+1) a b 0 .none->(∀ e o,s.heap.get? e=some o->hp.get? e=some o)->Q (.ref (s.heap.objs.size+4)) { s with heap:=hp }) :
  wpAny (model prog w) A (call (.type "zip") [.ref a,.ref b]) Q E s:=by
 refine callType_new F.called_zip (by decide) (F.typeCall_zip_2 _ _) (F.newCall_zip_2 _ _) (fun obj=>F.args_object_init_3 obj _ _) F.entry_zip_new (ym l a b xs ys) ⟨ha,hb,?_⟩
 have up:∀ {h:Heap} {e:Addr} {o o':Obj},h.get? e=some o->(h.push o').get? e=some o:=fun r=>Qe _ r
 have y1:(ja s.heap a).objs.size=s.heap.objs.size+1:=Heap.size_push ..
 have y2:(jb l s.heap a b).objs.size=s.heap.objs.size+2:=by rw [Heap.size_push,y1]
 have y3:(jc l s.heap a b).objs.size=s.heap.objs.size+3:=by rw [Heap.size_push,y2]
 have y4:(j8 l s.heap a b).objs.size=s.heap.objs.size+4:=by rw [Heap.size_push,y3]
 have g0:(hJ l s.heap a b).get? s.heap.objs.size=some (qx a):=up (up (up (up (Qj _ rfl))))
 have g1:(hJ l s.heap a b).get? (ja s.heap a).objs.size=some (mv l b):=up (up (up (Qj _ rfl)))
 have g2:(hJ l s.heap a b).get? (jb l s.heap a b).objs.size=some (j7 (.ref s.heap.objs.size) (.ref (ja s.heap a).objs.size)):=up (up (Qj _ rfl))
 have g3:(hJ l s.heap a b).get? (jc l s.heap a b).objs.size=some (j7 .none .none):=up (Qj _ rfl)
 have g4:(hJ l s.heap a b).get? (j8 l s.heap a b).objs.size=some { cls:=.type "zip",data:=.fields #[.none,.bool false,.bool false,.ref (jb l s.heap a b).objs.size,.ref (jc l s.heap a b).objs.size] }:=Qj _ rfl
 rw [y1,y2] at g2
 rw [y1] at g1
 rw [y3] at g3
 rw [y2,y3,y4] at g4
 show _/\_
 rw [y4]
 exact ⟨⟨_,g4,rfl⟩,k _ ⟨g4,g2,⟨_,_,g3⟩,⟨_,g0,rfl,rfl⟩,⟨_,g1,rfl,rfl⟩⟩ fun e o r=>up (up (up (up (up r))))⟩
end
section
variable {X:Cx}
noncomputable def yo (l:Bool) (K:PySem.W.Frag) (ta:TA):TI:=fun σ H R=>ta σ H fun vs H1=>∃ a b xs ys,vs=[.ref a,.ref b]/\ah K H1 a xs/\fm l K H1 b ys/\R (g9 l K a b) H1
theorem qy (l:Bool) {e f:Expr} {ta:TA} {p pos tpos:Pos} {elts:List Expr} {n:Nat} (hg:Gl X "zip") (hm:X.mg "zip"=none) (ha:PA X [e,f] ta) (hs:starEach [e,f] X.env=(false,eval e X.env)::starEach [f] X.env:=by rfl)
  (hp:(backTo pos (starEach [f] X.env)).any (·.1)=false:=by rfl):PI X (.Tuple elts n tpos) (.Call (.Name "zip" p) [e,f] [] pos) (yo l X.K ta):=by
 intro pins s σ H R I h
 refine Call_ (f8 I hg hm boot_zip (PyProof.Rows.callWith_type1 (ay (ha pos pins s σ H _ I h) fun us s1 hsl59=>?_) hs hp))
 obtain ⟨vs,H1,I1,r1,q1⟩:=hsl59
 obtain ⟨a,b,xs,ys,rfl,hqa,hqb,q⟩:=q1
 cases r1 with
 | cons ra r2 =>
 cases r2 with
 | cons rb r3 =>
 cases r3
 cases ra
 cases rb
 obtain ⟨its,rv,pa,hz⟩:=I1.tuple hqa
 obtain ⟨jts,rw',pb,hz'⟩:=I1.seqS hqb
 have pa':s1.heap.IsTuple a its.toArray:=pa
 have pb':cE l s1.heap b jts.toArray:=pb
 have al:a<s1.heap.objs.size:=by obtain ⟨_,r,_⟩:=pa';exact Qm r
 have bl:b<s1.heap.objs.size:=by obtain ⟨_,r,_⟩:=pb';exact Qm r
 refine yn pa' pb' fun hp Z kk=>?_
 refine wpAny_pyIter_zip (s:={ s1 with heap:=hp }) Z.zip ?_
 refine ⟨_,[s1.heap.objs.size+4,s1.heap.objs.size+2,s1.heap.objs.size+3,s1.heap.objs.size,s1.heap.objs.size+1],_,_,H1,rfl,I1.kept (t':=s1.toks) kk,yl (zipApart_new al bl),Z,fun e he=>?_,q⟩
 have hge:s1.heap.objs.size<=e:=by
  simp only [List.mem_cons,List.mem_nil_iff,or_false] at he
  rcases he with rfl | rfl | rfl | rfl | rfl<;>(show (_:Nat)<=_;omega)
 exact I1.fpOk hge (I1.hok.fresh hge)
end
theorem yp {l:Bool} {K:PySem.W.Frag} {a b:Addr} {xs ys:List V} {g:TG} {tb:TS} {D:dr} {σ:St} {H:Hp} (Pv:Nat->St->Hp->Prop) (h0:Pv 0 σ H) (hl:∀ i σ H,Pv i σ H->ah K H a xs/\fm l K H b ys)
  (hs:∀ i x y σ H t,xs[i]?=some x->ys[i]?=some y->Pv i σ H->H t=none->g (.ref t) σ (af H t (.tup [x,y])) fun σ2 H2=>tb { D with nx:=Pv (i+1),ct:=Pv (i+1),bk:=D.nx } σ2 H2) (hd:∀ σ H,Pv (min xs.length ys.length) σ H->D.nx σ H) :
  ∃ W:Nat->Nat->St->Hp->Prop,(∃ m,W 0 m σ H)/\∀ i m σ H,W i m σ H ->
   ((g9 l K a b).stop i H/\D.nx σ H)∨((g9 l K a b).go i H/\∃ N:St->Hp->Prop,(∀ σ' H',N σ' H'->∃ m',m'<m/\W (i+1) m' σ' H')/\∀ x H',(g9 l K a b).yld i H x H'->g x σ H' fun σ2 H2=>tb { D with nx:=N,ct:=N,bk:=D.nx } σ2 H2):=by
 refine ⟨fun i m σ H=>m=min xs.length ys.length-i/\i<=min xs.length ys.length/\Pv i σ H,⟨min xs.length ys.length,by simp,Qr _,h0⟩,?_⟩
 rintro i m σ H ⟨rfl,hi,p⟩
 obtain ⟨q1,q2⟩:=hl i σ H p
 by_cases hlt:i<min xs.length ys.length
 ·have hx:i<xs.length:=by omega
  have hy:i<ys.length:=by omega
  refine .inr ⟨⟨xs,ys,xs[i],ys[i],q1,q2,by simp [hx],by simp [hy]⟩,Pv (i+1),fun σ' H' p'=>⟨min xs.length ys.length-(i+1),by omega,rfl,hlt,p'⟩,fun v H' w=>?_⟩
  obtain ⟨t,x,y,h1,h2,hn,rfl,rfl⟩:=w
  exact hs i x y σ _ t (h1 xs q1) (h2 ys q2) p hn
 ·have e:i=min xs.length ys.length:=by omega
  subst e
  exact .inl ⟨⟨xs,ys,q1,q2,by omega⟩,hd σ H p⟩
section
variable {k:Nat} {js:List Nat} {g:TG} {tt:TT} {te:TE}
theorem yq {l:Bool} {K:PySem.W.Frag} {a b:Addr} {xs ys:List V} {σ:St} {H:Hp} {Q:VK} (Pv:Nat->List V->Hp->Prop) (h0:Pv 0 [] H) (hl:∀ i zs H,Pv i zs H->ah K H a xs/\fm l K H b ys)
  (hs:∀ i x y zs H t,xs[i]?=some x->ys[i]?=some y->Pv i zs H->H t=none->i0 k js g tt te σ zs (Pv (i+1)) (.ref t) (af H t (.tup [x,y])))
  (hd:∀ zs H,Pv (min xs.length ys.length) zs H->∀ p,H p=none->Q (.ref p) (af H p (.lst zs))):j3 (g9 l K a b) k js g tt te σ H Q:=by
 refine ⟨fun i m zs H=>m=min xs.length ys.length-i/\i<=min xs.length ys.length/\Pv i zs H,⟨min xs.length ys.length,by simp,Qr _,h0⟩,?_⟩
 rintro i m zs H ⟨rfl,hi,p⟩
 have q:=hl i zs H p
 by_cases hlt:i<min xs.length ys.length
 ·have h1:i<xs.length:=by omega
  have h2:i<ys.length:=by omega
  refine .inr ⟨⟨xs,ys,xs[i],ys[i],q.1,q.2,by simp [h1],by simp [h2]⟩,Pv (i+1),fun zs' H' p'=>⟨min xs.length ys.length-(i+1),by omega,rfl,hlt,p'⟩,fun v H' w=>?_⟩
  obtain ⟨t,x,y,hx,hy,ht,rfl,rfl⟩:=w
  exact hs i x y zs H t (hx xs q.1) (hy ys q.2) p ht
 ·have e:i=min xs.length ys.length:=by omega
  subst e
  exact .inl ⟨⟨xs,ys,q.1,q.2,by omega⟩,hd zs H p⟩
end
end L2
namespace L2
open PySem PySem.Spec PyProof.Rows
theorem yr:typeLookup (.type "list") "keys"=pure none:=by rw [typeLookup_type,builtinLookup_eq_fast];kernel_rfl
theorem yt:typeLookup (.type "list") "__getattr__"=pure none:=by rw [typeLookup_type,builtinLookup_eq_fast];kernel_rfl
section
variable {prog:Program} {w:World} {A:Around} {E:Value->Shared->Prop} {h:Heap} {g:Array GenState} {d:Drawn} {t:Nat} {os:OsState} {a:Addr} {its:Array Value} {nn:Nat} {sl:Array (Option Value)}
noncomputable abbrev j9 (its:Array Value) (nn:Nat) (sl:Array (Option Value)):Obj:={ cls:=.type "list",dict:=none,data:=.seq its nn,slots:=sl }
theorem yu {tk:Tok} {Q:Fin->Shared->Prop} (hx:h.get? a=some (j9 its nn sl)) (hh:A.handled=none)
  (hq:∀ hp tk e,Heap.NewAttrErr h hp e (.ref a) "keys"->E (.ref e) ⟨hp,g,d,tk,os⟩):wpAny (model prog w) A (Builtin.«object.__getattribute__» ⟨[.ref a,.str "keys" tk],[]⟩) Q E ⟨h,g,d,t,os⟩:=by
 have hT:(⟨h,g,d,t,os⟩:Shared).TypeIs (.ref a) "list":=⟨_,hx,rfl⟩
 have f4:=yr
 repeat (any_goals (first | assumption | wp_step))
 exact wpAny_raiseAttrError hh hq (attrMsg_fits (by decide +kernel) (by decide +kernel))
theorem yv {tk:Tok} {R:Result->Shared->Prop} (hx:h.get? a=some (j9 its nn sl)) (hh:A.handled=none) (hq:∀ hp tk e,Heap.NewAttrErr h hp e (.ref a) "keys"->R (.error (.ref e)) ⟨hp,g,d,tk,os⟩) :
  codeAny (model prog w) A (.call (.builtin "list.__getattribute__") ⟨[.ref a,.str "keys" tk],[]⟩) R ⟨h,g,d,t,os⟩:=by
 refine codeAny_call_builtin F.slot_list_getattribute.plain F.entry_list_ga (F.slot_list_getattribute.check _ _ _ _ _ _ _ _ (show (⟨h,g,d,t,os⟩:Shared).TypeIs (.ref a) "list" from ⟨_,hx,rfl⟩) (F.args_list_getattribute_2 _ _) (yu hx (by simpa using hh) hq))
theorem yw {tk:Tok} {Q:Value->Shared->Prop} (hx:h.get? a=some (j9 its nn sl)) (hh:A.handled=none) (hq:∀ hp tk e,Heap.NewAttrErr h hp e (.ref a) "keys"->E (.ref e) ⟨hp,g,d,tk,os⟩) :
  wpAny (model prog w) A (getAttrBy (.ref a) (.str "keys" tk) false) Q E ⟨h,g,d,t,os⟩:=by
 have hT:(⟨h,g,d,t,os⟩:Shared).TypeIs (.ref a) "list":=⟨_,hx,rfl⟩
 have f1:=sub_AttributeError
 have f2:=F.slot_list_getattribute.lookup
 have f3:=F.slot_list_getattribute.bind (.ref a)
 have f5:=yt
 unfold getAttrBy
 repeat (any_goals (first | assumption | wp_step))
 refine yv hx hh fun hp tk' e hn=>?_
 obtain ⟨t',u',he⟩:=hn.there
 show wpAny _ _ (getattributeRaised _ _ _ _ _ _ _) _ _ _
 unfold getattributeRaised
 repeat (any_goals (first | assumption | wp_step))
 exact hq _ _ _ hn
theorem yx {Q:Option Value->Shared->Prop} (hx:h.get? a=some (j9 its nn sl)) (hh:A.handled=none) (hq:∀ hp tk e,Heap.NewAttrErr h hp e (.ref a) "keys"->Q none ⟨hp,g,d,tk,os⟩) :
  wpAny (model prog w) A (getAttr? (.ref a) "keys") Q E ⟨h,g,d,t,os⟩:=by
 unfold getAttr? getAttrBy?
 refine Qa (wpAny_mkText (Qa (wpAny_attempt (yw hx hh fun hp tk' e hn=>?_))))
 obtain ⟨t',u',he⟩:=hn.there
 have f1:=sub_AttributeError
 repeat (any_goals (first | assumption | wp_step))
 exact hq _ _ _ hn
end
theorem yy:typeLookup (.type "tuple") "keys"=pure none:=by rw [typeLookup_type,builtinLookup_eq_fast];kernel_rfl
theorem yz:typeLookup (.type "tuple") "__getattr__"=pure none:=by rw [typeLookup_type,builtinLookup_eq_fast];kernel_rfl
section
variable {prog:Program} {w:World} {A:Around} {E:Value->Shared->Prop} {h:Heap} {g:Array GenState} {d:Drawn} {t:Nat} {os:OsState} {a:Addr} {its:Array Value} {nn:Nat} {sl:Array (Option Value)}
noncomputable abbrev kc (its:Array Value) (nn:Nat) (sl:Array (Option Value)):Obj:={ cls:=.type "tuple",dict:=none,data:=.seq its nn,slots:=sl }
theorem yA {tk:Tok} {Q:Fin->Shared->Prop} (hx:h.get? a=some (kc its nn sl)) (hh:A.handled=none)
  (hq:∀ hp tk e,Heap.NewAttrErr h hp e (.ref a) "keys"->E (.ref e) ⟨hp,g,d,tk,os⟩):wpAny (model prog w) A (Builtin.«object.__getattribute__» ⟨[.ref a,.str "keys" tk],[]⟩) Q E ⟨h,g,d,t,os⟩:=by
 have hT:(⟨h,g,d,t,os⟩:Shared).TypeIs (.ref a) "tuple":=⟨_,hx,rfl⟩
 have f4:=yy
 repeat (any_goals (first | assumption | wp_step))
 exact wpAny_raiseAttrError hh hq (attrMsg_fits (by decide +kernel) (by decide +kernel))
theorem yB {tk:Tok} {R:Result->Shared->Prop} (hx:h.get? a=some (kc its nn sl)) (hh:A.handled=none) (hq:∀ hp tk e,Heap.NewAttrErr h hp e (.ref a) "keys"->R (.error (.ref e)) ⟨hp,g,d,tk,os⟩) :
  codeAny (model prog w) A (.call (.builtin "tuple.__getattribute__") ⟨[.ref a,.str "keys" tk],[]⟩) R ⟨h,g,d,t,os⟩:=by
 refine codeAny_call_builtin F.slot_tuple_getattribute.plain F.entry_tuple_ga (F.slot_tuple_getattribute.check _ _ _ _ _ _ _ _ (show (⟨h,g,d,t,os⟩:Shared).TypeIs (.ref a) "tuple" from ⟨_,hx,rfl⟩) (F.args_tuple_getattribute_2 _ _) (yA hx (by simpa using hh) hq))
theorem yC {tk:Tok} {Q:Value->Shared->Prop} (hx:h.get? a=some (kc its nn sl)) (hh:A.handled=none) (hq:∀ hp tk e,Heap.NewAttrErr h hp e (.ref a) "keys"->E (.ref e) ⟨hp,g,d,tk,os⟩) :
  wpAny (model prog w) A (getAttrBy (.ref a) (.str "keys" tk) false) Q E ⟨h,g,d,t,os⟩:=by
 have hT:(⟨h,g,d,t,os⟩:Shared).TypeIs (.ref a) "tuple":=⟨_,hx,rfl⟩
 have f1:=sub_AttributeError
 have f2:=F.slot_tuple_getattribute.lookup
 have f3:=F.slot_tuple_getattribute.bind (.ref a)
 have f5:=yz
 unfold getAttrBy
 repeat (any_goals (first | assumption | wp_step))
 refine yB hx hh fun hp tk' e hn=>?_
 obtain ⟨t',u',he⟩:=hn.there
 show wpAny _ _ (getattributeRaised _ _ _ _ _ _ _) _ _ _
 unfold getattributeRaised
 repeat (any_goals (first | assumption | wp_step))
 exact hq _ _ _ hn
theorem yD {Q:Option Value->Shared->Prop} (hx:h.get? a=some (kc its nn sl)) (hh:A.handled=none) (hq:∀ hp tk e,Heap.NewAttrErr h hp e (.ref a) "keys"->Q none ⟨hp,g,d,tk,os⟩) :
  wpAny (model prog w) A (getAttr? (.ref a) "keys") Q E ⟨h,g,d,t,os⟩:=by
 unfold getAttr? getAttrBy?
 refine Qa (wpAny_mkText (Qa (wpAny_attempt (yC hx hh fun hp tk' e hn=>?_))))
 obtain ⟨t',u',he⟩:=hn.there
 have f1:=sub_AttributeError
 repeat (any_goals (first | assumption | wp_step))
 exact hq _ _ _ hn
end
theorem qz:entryFor table "dict.update.loop"=some Builtin.«dict.update.loop»:=entryFor_of_tree (by kernel_rfl)
theorem ke:plainId "dict.update.loop"=true:=by decide +kernel
noncomputable def eB (ps:List (ae × Value)):List (ae × Value):=ps.foldl (fun q p=>stored q p.1 p.2) []
theorem yE (ps:List (ae × Value)) (p:ae × Value):eB (ps++[p])=stored (eB ps) p.1 p.2:=by
 unfold eB;rw [List.foldl_append];rfl
section
variable {prog:Program} {w:World} {A:Around} {E:Value->Shared->Prop} {s:Shared} {R:Result->Shared->Prop} {I:Addr} {fp wr:List Addr} {G:Array GenState->Array GenState->Prop} {n:Nat} {P:Nat->Value->Prop} {St:Nat->Shared->Prop}
theorem yF (W:WalksS prog w A.in1 I fp wr G n P St) (S:Addr) (hSf:S∉fp) (ps:List (ae × Value)) (hn:ps.length=n) (tp:Nat->Addr) (kyv:Nat->Value) (hky:∀ i p,ps[i]?=some p->(bK prog w).is p.1 (kyv i)=true)
  (hval:∀ i v,P i v->v=.ref (tp i)) (hw:∀ i,tp i∉wr/\tp i≠S) (hsz:∀ i,(eB (ps.take i)).length<=sizeLine) :
  ∀ (k i:Nat) (j:Tok) (s:Shared),n-i=k->i<=n->St i s->s.heap.DictOf (bK prog w) S (eB (ps.take i))->(∀ i p,ps[i]?=some p->s.heap.IsTuple (tp i) #[kyv i,p.2]) ->
   (∀ s',Moved (S::wr) G s s'->s'.heap.DictOf (bK prog w) S (eB ps)->R (.ok (.ret .none)) s') ->
   codeAny (model prog w) A (.builtin "dict.update.loop" ⟨[.ref S,.ref I,.int i j,.none],[]⟩) R s:=by
 have hSw:S∉wr:=fun h=>hSf (W.sub _ h)
 have hsub:∀ b∈wr,b∈S::wr:=fun b hb=>Qz _ hb
 have dk:∀ {s s':Shared} {q},Moved wr G s s'->s.heap.DictOf (bK prog w) S q->s'.heap.DictOf (bK prog w) S q:=fun hm hD=>by
  obtain ⟨o,es,ep,ho,rest⟩:=hD
  exact ⟨o,es,ep,hm.heap S _ hSw ho,rest⟩
 intro k
 induction k with
 | zero =>
  intro i j s hk hi hst hS hT hR
  have hin:i=n:=by omega
  subst hin
  refine codeAny_builtin qz ?_
  rw [Around.under_plainId ke _]
  show wpAny _ A.in1 (pyNext (.ref I) >>= _) _ _ s
  refine Qa (W.done s _ _ hst fun s' hm=>?_)
  show wpAny _ _ (Builtin.Dict.addKeywords S [] >>= _) _ _ _
  refine Qa (Qd (Qd (hR s' (hm.mono hsub) ?_)))
  rw [QB (by omega)] at hS
  exact dk hm hS
 | succ k ih =>
  intro i j s hk hi hst hS hT hR
  have hlt:i<n:=by omega
  have hip:i<ps.length:=by omega
  refine codeAny_builtin qz ?_
  rw [Around.under_plainId ke _]
  show wpAny _ A.in1 (pyNext (.ref I) >>= _) _ _ s
  refine Qa (W.item i s _ _ hlt hst fun v s' hP hst' hm=>?_)
  obtain rfl:=hval i v hP
  have hT1:∀ i p,ps[i]?=some p->s'.heap.IsTuple (tp i) #[kyv i,p.2]:=fun i p h=>(hT i p h).at fun o r=>hm.heap _ o (hw i).1 r
  have hti:=hT1 i ps[i] (Qb hip)
  have hky:=hky i ps[i] (Qb hip)
  refine Qa (wpAny_holding (Qa (wpAny_tryCatch ?_)))
  unfold Builtin.Dict.pairItems
  refine Qa (wpAny_typeOf hti.typeIs ?_)
  obtain ⟨ot,h1,h2,nt,h3⟩:=id hti
  rw [if_pos (by decide)]
  refine Qa (wpAny_seqItems h1 h3 (Qd ?_))
  show wpAny _ _ (holding [kyv i,ps[i].2] (dictSet S (kyv i) ps[i].2)) _ _ _
  refine wpAny_holding (wpAny_dictSet_pairs (hsz:=hsz i) hky (dk hm hS) fun h' dd hs=>?_)
  rw [<- yE,<- Qn hip] at dd
  refine Qd ⟨plainId_quiet ke _,ih (i+1) _ _ (by omega) hlt (W.frame _ s' _ _ hst' (Nat.le_succ _) fun b hb o e=>?_) dd (fun i p h=>(hT1 i p h).at fun o r=>?_) fun s2 hm2 hS3=>?_⟩
  ·rw [hs.2 b (fun h:b=S=>hSf (by rw [<- h];exact hb))];exact e
  ·exact (hs.2 _ (hw i).2).trans r
  ·refine hR s2 (Moved.trans W.gtrans ((hm.mono hsub).then_heap (Nat.le_succ _) fun b o hb e=>?_) hm2) hS3
   rw [hs.2 b (fun h:b=S=>hb (by rw [h];exact QC))];exact e
end
theorem cE.at {l:Bool} {h h':Heap} {b:Addr} {ys:Array Value} (p:cE l h b ys) (e:∀ o,h.get? b=some o->h'.get? b=some o):cE l h' b ys :=
 let ⟨o,q,r⟩:=p;⟨o,e o q,r⟩
theorem yG {prog:Program} {w:World} {A:Around} {E:Value->Shared->Prop} {s:Shared} {l:Bool} {a:Addr} {its:Array Value} {Q:Value->Shared->Prop} (h:cE l s.heap a its) (hq:Q (.ref s.heap.objs.size) { s with heap:=s.heap.push (mv l a) }):wpAny (model prog w) A (pyIter (.ref a)) Q E s:=by
 cases l
 ·exact wpAny_pyIter_tuple h hq
 ·exact wpAny_pyIter_list h hq
theorem yH (l:Bool) {prog:Program} {w:World} {A:Around} (hh:A.handled=none) (I ax:Addr) (hne:ax≠I) (items:Array Value) :
  Walks prog w A I [I,ax] [I] items.size (fun i v=>items[i]?=some v) (fun i h=>d6 l h I ax i/\cE l h ax items):=by
 cases l
 ·exact .tuple hh I ax hne items
 ·exact .list hh I ax hne items
section
variable {prog:Program} {w:World} {A:Around} {E:Value->Shared->Prop} {s:Shared}
noncomputable abbrev mw (l:Bool) (its:Array Value) (nn:Nat) (sl:Array (Option Value)):Obj:={ cls:=.type (bif l then "list" else "tuple"),dict:=none,data:=.seq its nn,slots:=sl }
noncomputable abbrev hU:Obj:={ cls:=.type "dict",data:=.dict #[] }
theorem yI {c:Bool} {l:Addr} {items:Array Value} {nn:Nat} {sl:Array (Option Value)} {Q:Value->Shared->Prop} (hl:s.heap.get? l=some (mw c items nn sl)) (hh:A.handled=none) (ps:List (ae × Value)) (tp:Nat->Addr) (kyv:Nat->Value)
  (hlen:ps.length=items.size) (hky:∀ i p,ps[i]?=some p->(bK prog w).is p.1 (kyv i)=true) (hit:∀ (i:Nat) (v:Value),items[i]?=some v->v=.ref (tp i)) (htp:∀ i,tp i<s.heap.objs.size) (hsz:∀ i,(eB (ps.take i)).length<=sizeLine)
  (hT:∀ i p,ps[i]?=some p->s.heap.IsTuple (tp i) #[kyv i,p.2])
  (k:∀ (hp:Heap) (tk:Nat),hp.DictOf (bK prog w) s.heap.objs.size (eB ps)->(∀ b o,s.heap.get? b=some o->hp.get? b=some o)->Q (.ref s.heap.objs.size) { s with heap:=hp,toks:=tk }) :
  wpAny (model prog w) A (call (.type "dict") [.ref l]) Q E s:=by
 refine callType_codes (Q₁:=fun obj s₁=>obj=.ref s.heap.objs.size/\s₁={ s with heap:=s.heap.push hU }) F.kt_called_dict (F.kt_typeCall_dict_1 _) F.entry_dict_init (kt_code_dict_new _ ⟨rfl,rfl⟩) ?_
 rintro obj s₁ ⟨rfl,rfl⟩
 have hnew:(s.heap.push hU).DictOf (bK prog w) s.heap.objs.size []:=Heap.DictOf.new s.heap
 have hl1:(s.heap.push hU).get? l=some (mw c items nn sl):=Qe _ hl
 have hll:l<s.heap.objs.size:=Qm hl
 refine ⟨hnew.typeIs,F.args_dict_init_2 _ _,?_⟩
 unfold Builtin.«dict.__init__»
 refine Qa ?_
 unfold Builtin.Dict.selfAndRest
 refine Qa (wpAny_notOrdered_dict hnew.typeIs (Qd ?_))
 change wpAny _ _ (Builtin.Dict.updateFrom "dict.__init__" s.heap.objs.size (.ref l) [] .none) _ _ _
 unfold Builtin.Dict.updateFrom
 have ty:Shared.TypeIs { s with heap:=s.heap.push hU } (.ref l) (bif c then "list" else "tuple"):=⟨_,hl1,rfl⟩
 refine Qa (wpAny_typeOf ty ?_)
 rw [if_pos (by cases c<;>decide)]
 have kn:∀ {Q:Option Value->Shared->Prop} {E:Value->Shared->Prop},(∀ hp tk e,Heap.NewAttrErr (s.heap.push hU) hp e (.ref l) "keys"->Q none ⟨hp,s.gens,s.drawn,tk,s.os⟩)->wpAny (model prog w) A.in1.in1 (getAttr? (.ref l) "keys") Q E { s with heap:=s.heap.push hU }:=fun hq=>by
  cases c
  ·exact yD hl1 (by simpa using hh) hq
  ·exact yx hl1 (by simpa using hh) hq
 refine Qa (kn fun hp tk e hn=>?_)
 have kp:∀ b o,s.heap.get? b=some o->hp.get? b=some o:=fun b o r=>hn.keeps b o (Qe _ r)
 have hD:hp.DictOf (bK prog w) s.heap.objs.size []:=by
  obtain ⟨o,es,ep,ho,rest⟩:=hnew
  exact ⟨o,es,ep,hn.keeps _ _ ho,rest⟩
 have hSl:s.heap.objs.size<hp.objs.size:=by
  obtain ⟨o,es,ep,ho,rest⟩:=hD
  exact Qm ho
 rw [if_pos (by rfl)]
 refine Qa (wpAny_rule ?_)
 have hlp:cE c hp l items:=⟨_,kp _ _ hl,rfl,nn,rfl⟩
 refine Qa (yG (s:=⟨hp,s.gens,s.drawn,tk,s.os⟩) hlp ?_)
 refine Qd ⟨plainId_quiet ke _,?_⟩
 have hneI:l≠hp.objs.size:=Qt (Nat.lt_trans hll hSl)
 have hSf:s.heap.objs.size∉[hp.objs.size,l]:=by
  simp only [List.mem_cons,List.mem_singleton,List.not_mem_nil,or_false,not_or]
  exact ⟨Qt hSl,Nat.ne_of_gt hll⟩
 have W:=(yH c (prog:=prog) (w:=w) (A:=A.in1.in1) (by simp [hh]) hp.objs.size l hneI items).toS
 refine yF W s.heap.objs.size hSf ps hlen tp kyv hky hit (fun i=>?_) hsz (items.size-0) 0 0 _ (by omega) (Qr _) ⟨⟨_,Qj _ rfl,rfl,rfl⟩,hlp.at fun o r=>Qe _ r⟩ ?_ (fun i p h=>((hT i p h).at fun o r=>kp _ o r).push _) fun s' hm hS'=>?_
 ·refine ⟨?_,Qt (htp i)⟩
  simp only [List.mem_cons,List.mem_singleton,List.not_mem_nil,or_false]
  exact Qt (Nat.lt_trans (htp i) hSl)
 ·obtain ⟨o,es,ep,ho,rest⟩:=hD
  exact ⟨o,es,ep,Qe _ ho,rest⟩
 ·obtain ⟨h',g',d',tk',os'⟩:=s'
  have eg:g'=s.gens:=hm.gens
  have ed:d'=s.drawn:=hm.drawn
  have eo:os'=s.os:=hm.os
  subst eg;subst ed;subst eo
  refine ⟨rfl,k h' tk' hS' fun b o r=>?_⟩
  have hb:b<s.heap.objs.size:=Qm r
  refine hm.heap b o ?_ (Qe _ (kp b o r))
  simp only [List.mem_cons,List.mem_singleton,List.not_mem_nil,or_false,not_or]
  exact ⟨Qt hb,Qt (Nat.lt_trans hb hSl)⟩
end
theorem mx:bootBuiltins "dict"=some (.type "dict"):=by decide +kernel
noncomputable def dy (ps:List (ae × V)):List (ae × V):=ps.foldl (fun q p=>bO q p.1 p.2) []
theorem my (ps:List (ae × V)):(dy ps).length<=ps.length:=by
 have go:∀ (ps:List (ae × V)) (q:List (ae × V)),(ps.foldl (fun q p=>bO q p.1 p.2) q).length<=q.length+ps.length:=fun ps=>by
  induction ps with
  | nil=>intro q;simp
  | cons p ps ih=>intro q;have h1:=ih (bO q p.1 p.2);have h2:=i5 q p.1 p.2;simp only [List.foldl_cons,List.length_cons];omega
 simpa [dy] using go ps []
theorem qA:∀ {ps:List (ae × V)} {qs:List (ae × Value)},ps.length=qs.length->(∀ (i:Nat) (p:ae × V) (q:ae × Value),ps[i]?=some p->qs[i]?=some q->p.1=q.1/\RelV p.2 q.2)->KV (dy ps) (eB qs):=by
 have go:∀ (ps:List (ae × V)) (qs:List (ae × Value)) (a:List (ae × V)) (b:List (ae × Value)),KV a b->ps.length=qs.length->(∀ (i:Nat) (p:ae × V) (q:ae × Value),ps[i]?=some p->qs[i]?=some q->p.1=q.1/\RelV p.2 q.2) ->
   KV (ps.foldl (fun q p=>bO q p.1 p.2) a) (qs.foldl (fun q p=>stored q p.1 p.2) b):=fun ps=>by
  induction ps with
  | nil=>intro qs a b h hl _;cases qs with | nil=>exact h | cons _ _=>simp at hl
  | cons p ps ih =>
   intro qs a b h hl hr
   cases qs with
   | nil=>simp at hl
   | cons q qs =>
    obtain ⟨e,r⟩:=hr 0 p q rfl rfl
    simp only [List.foldl_cons]
    refine ih qs _ _ ?_ (by simpa using hl) fun i p' q' h1 h2=>hr (i+1) p' q' (by simpa using h1) (by simpa using h2)
    rw [e];exact h.put q.1 r
 intro ps qs hl hr
 exact go ps qs [] [] .nil hl hr
section
variable {X:Cx}
theorem mz (c:Bool) (hc:X.calm=true):c9 X (.type "dict") (fun xs H Q=>∃ (l:Addr) (ts:List Addr) (ps:List (ae × V)),xs=[V.ref l]/\H l=some (bif c then .lst (ts.map V.ref) else .tup (ts.map V.ref))/\ts.length=ps.length /\
  (∀ (i:Nat) (t:Addr) (p:ae × V),ts[i]?=some t->ps[i]?=some p->H t=some (.tup [kV p.1,p.2]))/\∀ q,H q=none->Q (.ref q) (af H q (.dK (dy ps)))):=by
 intro pins s σ H xs us Q I r h
 obtain ⟨l,ts,ps,rfl,hl,htl,hat,kq⟩:=h
 obtain ⟨u,rfl,ru⟩:=vals1 r
 cases (show u=Value.ref l from ru)
 obtain ⟨its,rv,n,sl,ho,hz⟩:∃ its,aw (ts.map V.ref) its/\∃ n sl,s.heap.get? l=some (mw c its.toArray n sl)/\(ts.map V.ref).length<=sizeLine:=by
  cases c
  ·obtain ⟨hz,its,rv,⟨o,ho,hcl,n,hda⟩,o2,ho2,hd⟩:=(show bz X.prog X.w H s.heap l (.tup (ts.map V.ref)) from I.hok l _ hl)
   rw [ho] at ho2
   cases ho2
   obtain ⟨ocls,odict,odata,oslots⟩:=o
   simp only at hcl hd hda
   subst hcl;subst hd;subst hda
   exact ⟨its,rv,n,_,ho,hz⟩
  ·obtain ⟨its,rv,⟨o,n,ho,hcl,hd,hda⟩,hz⟩:=I.list (am.of hl)
   obtain ⟨ocls,odict,odata,oslots⟩:=o
   simp only at hcl hd hda
   subst hcl;subst hd;subst hda
   exact ⟨its,rv,n,_,ho,hz⟩
 have hil:its.length=ts.length:=by rw [<- rv.length,Qf]
 obtain ⟨tp,htpe⟩:∃ tp:Nat->Addr,∀ i,tp i=ts.getD i l:=⟨_,fun _=>rfl⟩
 have pr:∀ i:Nat,∃ q:Value × Value,i<ps.length->its[i]?=some (.ref (tp i))/\IsTup s.heap (tp i) #[q.1,q.2]/\∀ p,ps[i]?=some p->RelV (kV p.1) q.1/\RelV p.2 q.2:=fun i=>by
  by_cases hi:i<ps.length
  ·have hti:i<ts.length:=by omega
   have h1:ts[i]?=some ts[i]:=Qb hti
   have h2:ps[i]?=some ps[i]:=Qb hi
   have et:tp i=ts[i]:=by rw [htpe,Qg,h1];rfl
   obtain ⟨v,hv,rvv⟩:=rv.get (i:=i) (x:=.ref ts[i]) (by rw [Qk,h1];rfl)
   cases (show v=Value.ref ts[i] from rvv)
   obtain ⟨jts,rj,pj,_⟩:=I.tuple (ah.of (hat i _ _ h1 h2))
   cases rj with
   | cons ra r2 =>
   cases r2 with
   | cons rb r3 =>
   cases r3
   refine ⟨(_,_),fun _=>⟨by rw [et];exact hv,by rw [et];exact pj,fun p hp=>?_⟩⟩
   rw [h2] at hp;cases hp;exact ⟨ra,rb⟩
  ·exact ⟨(.none,.none),fun h=>absurd h hi⟩
 obtain ⟨qv,spec⟩:=Classical.axiomOfChoice pr
 obtain ⟨qs,hqs⟩:∃ qs:List (ae × Value),qs=(List.range ps.length).map fun i=>((ps.getD i (.inl 0,.non)).1,(qv i).2):=⟨_,rfl⟩
 have qsl:qs.length=ps.length:=by rw [hqs];simp
 have qsg:∀ (i:Nat) (q:ae × Value),qs[i]?=some q->i<ps.length/\∃ p,ps[i]?=some p/\q=(p.1,(qv i).2):=fun i q h=>by
  have hi:i<ps.length:=by have:=(Qc h).1;omega
  refine ⟨hi,ps[i],Qb hi,?_⟩
  rw [hqs,Qk,List.getElem?_range hi] at h
  have h:=Qo h
  rw [<- h]
  show ((ps.getD i (.inl 0,.non)).1,(qv i).2)=_
  rw [Qg,Qb hi];rfl
 have rel:KV (dy ps) (eB qs):=qA qsl.symm fun i p q h1 h2=>by
  obtain ⟨hi,p',hp',rfl⟩:=qsg i q h2
  rw [h1] at hp';cases hp'
  exact ⟨rfl,((spec i hi).2.2 p h1).2⟩
 have relT:∀ i,KV (dy (ps.take i)) (eB (qs.take i)):=fun i=>qA (by simp [qsl]) fun j p q h1 h2=>by
  rw [List.getElem?_take] at h1 h2
  split at h1
  ·rename_i hj
   rw [if_pos hj] at h2
   obtain ⟨hi,p',hp',rfl⟩:=qsg j q h2
   rw [h1] at hp';cases hp'
   exact ⟨rfl,((spec j hi).2.2 p h1).2⟩
  ·cases h1
 have hpz:ps.length<=sizeLine:=by rw [Qf] at hz;omega
 refine yI ho (I.ok.hd hc) qs tp (fun i=>(qv i).1) (by rw [qsl];simp;omega) (fun i q h=>?_) (fun i v h=>?_) (fun i=>?_) (fun i=>?_) (fun i q h=>?_) fun hp tk hD kk=>?_
 ·obtain ⟨hi,p,hp,rfl⟩:=qsg i q h
  exact fj ((spec i hi).2.2 p hp).1
 ·have hi:i<ps.length:=by
   have:=(Array.getElem?_eq_some_iff.mp h).1
   simp at this;omega
  have:=(spec i hi).1
  have h:its[i]?=some v:=by simpa using h
  rw [this] at h;exact (Qo h).symm
 ·by_cases hi:i<ps.length
  ·obtain ⟨_,⟨o,r,_⟩,_⟩:=spec i hi
   exact Qm r
  ·have:tp i=l:=by
    rw [htpe,Qg,List.getElem?_eq_none (by omega)];rfl
   rw [this];exact Qm ho
 ·rw [<- (relT i).length]
  have:=my (ps.take i)
  rw [Qx] at this
  omega
 ·obtain ⟨hi,p,hp,rfl⟩:=qsg i q h
  exact (spec i hi).2.1
 ·have hf:=my ps
  refine ⟨.ref s.heap.objs.size,_,I.laid (a:=s.heap.objs.size) (o:=.dK (dy ps)) (t':=tk) kk (Qh _) (qq (by omega) (beq_eq_false_iff_ne.mpr (Ne.symm (Qt I.big))) rel hD),rfl,kq _ I.fresh⟩
end
end L2
namespace L2
open PySem PySem.Spec PyProof.Rows
structure gq (P:Program) (w:World) (K:PySem.W.Frag) (a:Addr) (kvs:List (Str × Str)):Prop where
 ns:(a == sysModules)=false
 ob:∃ (o:Obj) (vs:List (ae × Value)),K.lookup a=some o/\o.cls=.type "dict"/\o.dict=none/\(∀ h:Heap,h.get? a=some o->h.DictOf (bK P w) a vs) /\
  ∀ k:Str,(∀ i,kvs.lookup k=some i->∃ t,valueAt vs (Sum.inr k:ae)=some (.str i t))/\(kvs.lookup k=none->valueAt vs (Sum.inr k:ae)=none)
noncomputable abbrev hV:=Str × Tok × Str × Tok
noncomputable def kg (w:World) (e:hV):DictEntry:=⟨hashStr w e.1,.str e.1 e.2.1,.str e.2.2.1 e.2.2.2⟩
noncomputable def eN (e:hV):ae × Value:=(Sum.inr e.1,.str e.2.2.1 e.2.2.2)
theorem qB {P:Program} {w:World}:∀ es:List hV,Pairs (bK P w) (es.map (kg w)) (es.map eN)
 | []=>.nil
 | e::r=>.cons (jK P w e.1 e.2.1) rfl (qB r)
theorem qC (k:Str):∀ es:List hV,(∀ i,(es.map fun e=>(e.1,e.2.2.1)).lookup k=some i->∃ t,valueAt (es.map eN) (Sum.inr k:ae)=some (.str i t))/\((es.map fun e=>(e.1,e.2.2.1)).lookup k=none->valueAt (es.map eN) (Sum.inr k:ae)=none)
 | []=>⟨fun i h=>by simp at h,fun _=>rfl⟩
 | e::r=>by
  obtain ⟨h1,h2⟩:=qC k r
  simp only [List.map_cons,List.lookup_cons]
  by_cases hk:k=e.1
  ·subst hk
   simp only [beq_self_eq_true]
   refine ⟨fun i h=>?_,fun h=>nomatch h⟩
   cases h
   exact ⟨e.2.2.2,by simp [valueAt,eN]⟩
  ·have hb:(k == e.1)=false:=beq_eq_false_iff_ne.mpr hk
   have hn:¬ ((eN e).1=(Sum.inr k:ae)):=fun z=>hk (by
    have z':(Sum.inr e.1:ae)=Sum.inr k:=z
    injection z' with z'
    exact z'.symm)
   have ev:valueAt (eN e::r.map eN) (Sum.inr k:ae)=valueAt (r.map eN) (Sum.inr k:ae):=by
    unfold valueAt
    rw [List.find?_cons_of_neg (by simpa using hn)]
   rw [hb,ev]
   exact ⟨h1,h2⟩
theorem yJ {P:Program} {w:World} {K:PySem.W.Frag} {a:Addr} {ep:Nat} {es:List hV} (hs:(a == sysModules)=false)
  (hl:K.lookup a=some ⟨.type "dict",none,.dict (es.map (kg w)).toArray ep,#[]⟩) (nd:(es.map (·.1)).Nodup):gq P w K a (es.map fun e=>(e.1,e.2.2.1)):=by
 refine ⟨hs,_,es.map eN,hl,rfl,rfl,fun h e=>⟨_,_,_,e,⟨rfl,rfl,rfl⟩,rfl,?_,qB es,?_⟩,fun k=>qC k es⟩
 ·intro x hx
  have hx':x∈es.map (kg w):=by simpa using hx
  obtain ⟨y,_,rfl⟩:=QE hx'
  exact ⟨Sum.inr y.1,jK P w y.1 y.2.1,rfl⟩
 ·have e1:(es.map eN).map (·.1)=(es.map (·.1)).map (Sum.inr:Str->ae):=by rw [List.map_map,List.map_map];rfl
  rw [e1]
  refine List.Pairwise.map _ (fun x y hxy hz=>hxy ?_) nd
  injection hz
section
variable {X:Cx} {a:Addr} {kvs:List (Str × Str)} {x:Str} {p pos apos cpos:Pos} {e f:Expr} {ty tx:TE}
theorem gq.here {pins:List (Addr × Obj)} {σ:St} {H:Hp} {s:Shared} (D:gq X.prog X.w X.K a kvs) (I:Inv X pins σ H s) :
  ∃ vs:List (ae × Value),s.heap.DictOf (bK X.prog X.w) a vs/\(∀ b,Value.ref a=.ref b->∃ ob,s.heap.get? b=some ob/\ob.dict=none) /\
   ∀ k:Str,(∀ i,kvs.lookup k=some i->∃ t,valueAt vs (Sum.inr k:ae)=some (.str i t))/\(kvs.lookup k=none->valueAt vs (Sum.inr k:ae)=none):=by
 obtain ⟨o,vs,hk,hc,hd,hh,hv⟩:=D.ob
 have e:=I.kIn a o hk
 exact ⟨vs,hh _ e,fun b q=>by cases q;exact ⟨o,e,hd⟩,hv⟩
noncomputable def yK (kvs:List (Str × Str)) (ty:TE):TE:=fun σ H Q=>ty σ H fun y H1=>∃ (k:Str) (i:Str),y=.str k/\kvs.lookup k=some i/\Q (.str i) H1
theorem qD (D:gq X.prog X.w X.K a kvs) (hg:Gl X x) (hm:X.mg x=some (.ref a)) (he:PE X e ty) (hs:pO e) (hd:(x == ("__debug__":Str))=false:=by decide):PE X (.Subscript (.Name x p) e pos) (yK kvs ty):=by
 intro pins s σ H Q I h
 refine Subscript_ (iF I hg hm ?_ hd)
 refine ay (he pins s σ H _ I h) fun iv s1 hsl60=>?_
 obtain ⟨y,H1,I1,ry,k,i,ey,hk,q⟩:=hsl60
 subst ey
 obtain ⟨t,rfl⟩:=ry
 obtain ⟨vs,dd,_,hv⟩:=D.here I1
 obtain ⟨t',e⟩:=(hv k).1 i hk
 exact tail_any dd.typeIs PySem.F.slot_dict_getitem.lookup (wpAny_getItem_of (k:=(Sum.inr k:ae)) (jK _ _ k t) dd.mapOf e ⟨.str i,H1,I1.tok _,⟨t',rfl⟩,q⟩) (hs _ _)
end
end L2
namespace L2
open PySem PySem.Spec PyProof.Rows
mutual
inductive cM (K:PySem.W.Frag) (H:Hp):V->PyData->Prop
 | non:cM K H .non .none
 | bl (b:Bool):cM K H (.bl b) (.bool b)
 | int (i:Int):cM K H (.int i) (.int i)
 | str (x:Str):cM K H (.str x) (.str x)
 | lst {a:Addr} {xs:List V} {ds:List PyData}:am K H a xs->RdvA K H xs ds->cM K H (.ref a) (.list ds)
 | tup {a:Addr} {xs:List V} {ds:List PyData}:ah K H a xs->RdvA K H xs ds->cM K H (.ref a) (.tuple ds)
inductive RdvA (K:PySem.W.Frag) (H:Hp):List V->List PyData->Prop
 | nil:RdvA K H [] []
 | cons {x:V} {d:PyData} {xs:List V} {ds:List PyData}:cM K H x d->RdvA K H xs ds->RdvA K H (x::xs) (d::ds)
end
section
variable {X:Cx} {pins:List (Addr × Obj)} {σ:St} {H:Hp} {s:Shared}
mutual
theorem cM.reads (I:Inv X pins σ H s):∀ {x:V} {d:PyData} {u:Value},cM X.K H x d->RelV x u->∃ as,Reads s.heap u d as
 | _,_,_,.non,r=>by cases r;exact ⟨_,.none⟩
 | _,_,_,.bl b,r=>by cases r;exact ⟨_,.bool b⟩
 | _,_,_,.int i,r=>by obtain ⟨t,rfl⟩:=r;exact ⟨_,.int i t⟩
 | _,_,_,.str x,r=>by obtain ⟨t,rfl⟩:=r;exact ⟨_,.str x t⟩
 | _,_,_,.lst hq ha,r=>by
  cases r
  obtain ⟨its,rv,p,_⟩:=I.list hq
  obtain ⟨as,ra⟩:=RdvA.reads I ha rv
  obtain ⟨o,ho,hc,n,hd⟩:=p.isList
  exact ⟨_,.list ho hc hd (by simpa using ra)⟩
 | _,_,_,.tup hq ha,r=>by
  cases r
  obtain ⟨its,rv,p,_⟩:=I.tuple hq
  obtain ⟨as,ra⟩:=RdvA.reads I ha rv
  obtain ⟨o,ho,hc,n,hd⟩:=p
  exact ⟨_,.tuple ho hc hd (by simpa using ra)⟩
theorem RdvA.reads (I:Inv X pins σ H s):∀ {xs:List V} {ds:List PyData} {us:List Value},RdvA X.K H xs ds->aw xs us->∃ as,ReadsAll s.heap us ds as
 | _,_,_,.nil,r=>by cases r;exact ⟨_,.nil⟩
 | _,_,_,.cons h t,r=>by
  cases r with
  | cons r1 r2 =>
   obtain ⟨as,ra⟩:=cM.reads I h r1
   obtain ⟨bs,rb⟩:=RdvA.reads I t r2
   exact ⟨_,.cons ra rb⟩
end
end
section
variable {X:Cx}
theorem qF {K:PySem.W.Frag} (hK:X.K=K) (hu:X.A.units+64<cLine):bL X (compareOp .Eq) (fun x y H Q=>∃ d e,cM K H x d/\cM K H y e/\SeqAt.shaped d=true/\SeqAt.shaped e=true/\Q (.bl (PyData.eqv d e)) H):=by
 intro pins s σ H x y v u Q I rx ry h
 subst hK
 obtain ⟨d,e,h1,h2,s1,s2,q⟩:=h
 obtain ⟨as,ra⟩:=h1.reads I rx
 obtain ⟨bs,rb⟩:=h2.reads I ry
 exact eq_dataH ra rb s1 s2 hu ⟨.bl _,H,I,rfl,q⟩
theorem yL {K:PySem.W.Frag} (hK:X.K=K) (hu:X.A.units+64<cLine):bL X (compareOp .NotEq) (fun x y H Q=>∃ d e,cM K H x d/\cM K H y e/\SeqAt.shaped d=true/\SeqAt.shaped e=true/\Q (.bl (!PyData.eqv d e)) H):=by
 intro pins s σ H x y v u Q I rx ry h
 subst hK
 obtain ⟨d,e,h1,h2,s1,s2,q⟩:=h
 obtain ⟨as,ra⟩:=h1.reads I rx
 obtain ⟨bs,rb⟩:=h2.reads I ry
 exact ne_dataH ra rb s1 s2 hu ⟨.bl _,H,I,rfl,q⟩
end
section
variable {X:Cx}
end
noncomputable def bb (n:Nat) (d:PyData):Prop:=d.canLay0=true/\d.depth<=n
theorem bb.int (i:Int):bb 0 (.int i):=⟨rfl,Qh _⟩
theorem bb.str {z:Str} (h:∀ c∈z.cps.toList,c<128):bb 0 (.str z):=⟨by
 show PyData.strOk z=true
 unfold PyData.strOk
 rw [Array.all_eq_true]
 intro i hi
 have:=h z.cps[i] (by simp)
 simp only [decide_eq_true_eq]
 omega,Qh _⟩
theorem jd {n:Nat}:∀ {ds:List PyData},(∀ d∈ds,bb n d)->PyData.canLayAll0 ds=true/\PyData.depthAll ds<=n
 | [],_=>⟨rfl,Qr _⟩
 | d::r,h=>by
  obtain ⟨a,b⟩:=h d QC
  obtain ⟨c,e⟩:=jd (ds:=r) fun x hx=>h x (Qz _ hx)
  exact ⟨by simp only [PyData.canLayAll0];rw [a,c];rfl,by simp only [PyData.depthAll];omega⟩
theorem bb.list {n:Nat} {ds:List PyData} (h:∀ d∈ds,bb n d):bb (n+1) (.list ds):=⟨by simp only [PyData.canLay0];exact (jd h).1,by simp only [PyData.depth];have:=(jd h).2;omega⟩
theorem bb.tuple {n:Nat} {ds:List PyData} (h:∀ d∈ds,bb n d):bb (n+1) (.tuple ds):=⟨by simp only [PyData.canLay0];exact (jd h).1,by simp only [PyData.depth];have:=(jd h).2;omega⟩
theorem bb.up {n m:Nat} {d:PyData} (h:bb n d) (hm:n<=m):bb m d:=⟨h.1,QH h.2 hm⟩
theorem bb.ok {n:Nat} {d:PyData} (h:bb n d) (hn:n<=64):SeqAt.shaped d=true:=by
 show (d.canLay0&&decide (d.depth<=64))=true
 rw [h.1,Qp (QH h.2 hn)];rfl
theorem bb.refl {n:Nat} {d:PyData} (h:bb n d):PyData.eqv d d=true:=SeqAt.eqv_refl d h.1
end L2
namespace L2
open PySem PySem.Spec PyProof.Rows
theorem yM (a v:Value):argsOk "list.sort" ⟨[a],[(Str.ofString "key",v)]⟩:=by unfold argsOk;kernel_rfl
theorem yN (a v:Value):argsOk "sorted" ⟨[a],[(Str.ofString "key",v)]⟩:=by unfold argsOk;kernel_rfl
theorem yO (a f:Addr):Builtin.«list.sort» ⟨[.ref a],[(Str.ofString "key",.ref f)]⟩=(do
  let items <- Builtin.List.listItems (.ref a)
  Builtin.List.listUpdate (.ref a) fun _=>#[]
  let before <- seqEpoch a
  let held <- newTuple items.toList
  let keyStore <- newList []
  holding [held,keyStore] do
   rule "list.sort.key"
   for x in items do
    match <- (call (.ref f) [x]).attempt with
    | .ok k=>Builtin.List.listUpdate keyStore (·.push k)
    | .error e =>
     rule "list.sort.key-raised"
     let made <- Builtin.List.listItems keyStore
     Builtin.List.listUpdate keyStore fun _=>#[]
     letGo made.toList.reverse [e]
     Builtin.List.listUpdate (.ref a) fun _=>items;throw e
   let keys <- Builtin.List.listItems keyStore
   let kind <- if items.size<2 then pure general' else keyKind' keys
   let ((),s) <- (if items.size<2 then pure () else sortRuns').run (SortSt.mk' kind (keys.zip items) #[] 7 none)
   let sorted:=(arrOf s).map (·.2)
   Builtin.List.listUpdate keyStore fun _=>#[]
   letGo ((arrOf s).map (·.1)).toList (failedOf s).toList
   let touched:=(<- seqEpoch a) != before
   Builtin.List.listUpdate (.ref a) fun _=>sorted
   if let some e:=failedOf s then rule "list.sort.comparison-raised";throw e
   if touched then rule "list.sort.modified";raiseError "ValueError" "list modified during sort"
   ret .none):=by
 first | rfl | (fail "not by rfl")
theorem Inv.adopt {X:Cx} {pins:List (Addr × Obj)} {σ:St} {H:Hp} {s:Shared} {a:Addr} {o:HO} (I:Inv X pins σ H s) (f:ck X pins H a) (new:bz X.prog X.w (af H a o) s.heap a o):Inv X pins σ (af H a o) s:=by
 obtain ⟨f0,f1,f2,f3,f4,f5⟩:=f
 have ne:∀ b u,H b=some u->b≠a:=fun b u e=>cD e f0
 have hok:bA X.prog X.w (af H a o) s.heap:=fun b u e=>by
  by_cases hb:b=a
  ·subst hb;rw [aj] at e;cases e;exact new
  ·rw [ar hb] at e
   exact (I.hok b u e).stay (fun c v _ q=>q) (fun c q=>by rw [ar (ne c _ q)];exact q) fun c xs q=>by rw [ar (ne c _ q)];exact q
 have nc:∀ {b:Addr},b∉[a]->b≠a:=fun h z=>h (by simp [z])
 exact I.step (g':=s.gens) (d':=s.drawn) (t':=s.toks) (h':=s.heap) (ch:=[a]) (fun b hb=>by
   have e:b=a:=by simpa using hb
   subst e
   exact ⟨f3,f1,f4,f5⟩)
  (fun b o _ _ _ e _=>e) (fun b o _ _ _ e _=>⟨o.slots,e⟩) (fun b o hc e n=>by rw [ar (nc hc)];exact n) (fun b o _ e=>⟨o,e⟩)
  (fun b xs e=>by rw [ar (ne b _ e)];exact e) (fun b o u e=>by rw [ar (ne b _ e)];exact e) (fun b ps e=>⟨#[],by rw [ar (ne b _ e),e];simp⟩) (fun m hm=>hm) hok I.bare
section
variable {X:Cx} {k:Nat} {f:Addr} {fd:FuncData} {ps:List Str} {sp:Sp} {dvs:List V} {ds:List Value} {pins:List (Addr × Obj)} {σ:St} {H:Hp} {s:Shared} {xs:List V} {ks:List Int}
end
end L2
namespace L2
open PySem PySem.Spec PyProof.Rows
section
variable {prog:Program} {w:World} {K:Type} [DecidableEq K] {knd:HeapKind prog w K} {A:Around} {E:Value->Shared->Prop} {s:Shared} {d:Addr} {xs:List (K × Addr × Value)}
end
section
variable {X:Cx}
end
end L2
namespace L2
open PySem PySem.Spec PyProof.Rows PySem.W
noncomputable def b7 {α:Type} (lt:Nat->Nat->Bool):KasT α->α
 | .ret a=>a
 | .ask i j k=>b7 lt (k (lt i j))
noncomputable def bj {α:Type} (n:Nat) (P:α->Prop):KasT α->Prop
 | .ret a=>P a
 | .ask i j k=>i<n/\j<n/\∀ b,bj n P (k b)
theorem bj.bind {α β:Type} {n:Nat} {P:β->Prop} {f:α->KasT β}:∀ {t:KasT α},bj n (fun a=>bj n P (f a)) t->bj n P (t.bind f)
 | .ret a,h=>h
 | .ask i j k,h=>⟨h.1,h.2.1,fun b=>bj.bind (h.2.2 b)⟩
theorem bj.mono {α:Type} {n:Nat} {P Q:α->Prop} (hq:∀ a,P a->Q a):∀ {t:KasT α},bj n P t->bj n Q t
 | .ret a,h=>hq a h
 | .ask i j k,h=>⟨h.1,h.2.1,fun b=>bj.mono hq (h.2.2 b)⟩
theorem mB {α:Type} {n:Nat} {P:α->Prop} (lt:Nat->Nat->Bool):∀ (t:KasT α),bj n P t->P (b7 lt t)
 | .ret a,h=>h
 | .ask i j k,h=>mB lt (k (lt i j)) (h.2.2 (lt i j))
theorem qG {α:Type} {cmp:Nat->Nat->(Bool->Shared->Prop)->Shared->Prop} {lt:Nat->Nat->Bool} {n:Nat} {P:α->Prop} {s:Shared} {G:α->Shared->Prop} (hc:∀ i j,i<n->j<n->∀ C:Bool->Shared->Prop,C (lt i j) s->cmp i j C s) :
  ∀ {t:KasT α},bj n P t->G (b7 lt t) s->KasT.kasWp cmp t G s
 | .ret a,_,g=>g
 | .ask i j k,h,g=>hc i j h.1 h.2.1 _ (qG hc (h.2.2 (lt i j)) g)
noncomputable def bp (n:Nat) (p:Array Nat):Prop:=∀ x∈p.toList,x<n
theorem bp.at {n:Nat} {p:Array Nat} (h0:0<n) (h:bp n p) (k:Nat):p.getD k 0<n:=by
 rw [Array.getD_eq_getD_getElem?]
 cases e:p[k]? with
 | none=>exact h0
 | some x =>
  refine h x ?_
  rw [<- Array.getElem?_toList] at e
  exact QD e
theorem bp.swap {n:Nat} {p:Array Nat} (h:bp n p) (i j:Nat):bp n (p.swapIfInBounds i j):=by
 intro x hx
 refine h x ?_
 unfold Array.swapIfInBounds at hx
 split at hx
 ·split at hx
  ·rename_i h1 h2
   exact ((Array.perm_iff_toList_perm.mp (Array.swap_perm h1 h2)).mem_iff).mp hx
  ·exact hx
 ·exact hx
theorem bp.swaps {n:Nat} (f g:Nat->Nat):∀ (l:List Nat) {p:Array Nat},bp n p->bp n (l.foldl (fun a k=>a.swapIfInBounds (f k) (g k)) p)
 | [],_,h=>h
 | k::l,_,h=>bp.swaps f g l (h.swap _ _)
theorem bp.rev {n:Nat} {p:Array Nat} (h:bp n p) (i j:Nat):bp n (kas_rev p i j):=by
 unfold kas_rev mirror
 exact bp.swaps (fun k=>i+k) (fun k=>j-1-k) _ h
theorem bp.bubble {n:Nat} {p:Array Nat} (h:bp n p) (i d:Nat):bp n (bubble p i d):=by
 unfold PyProof.Rows.bubble
 exact bp.swaps (fun k=>i-k) (fun k=>i-k-1) _ h
theorem mC {n:Nat} (h0:0<n) {p:Array Nat} (h:bp n p):∀ k i,bj n (fun _=>True) (kas_asc p k i)
 | 0,i=>by unfold kas_asc;trivial
 | k+1,i=>by
  unfold kas_asc
  refine ⟨h.at h0 _,h.at h0 _,fun b=>?_⟩
  dsimp only
  split
  ·trivial
  ·exact mC h0 h k (i+1)
theorem ki {n:Nat} (h0:0<n):∀ k {p:Array Nat},bp n p->∀ i m,bj n (fun r:Array Nat × Nat × Nat=>bp n r.1) (kas_desc k p i m)
 | 0,p,h,i,m=>by unfold kas_desc;exact h
 | k+1,p,h,i,m=>by
  unfold kas_desc
  refine ⟨h.at h0 _,h.at h0 _,fun b=>?_⟩
  dsimp only
  split
  ·split
   ·exact ki h0 k (h.rev _ _) _ _
   ·exact ki h0 k h _ _
  ·refine ⟨h.at h0 _,h.at h0 _,fun b=>?_⟩
   dsimp only
   split
   ·exact h
   ·exact ki h0 k h _ _
theorem mD {n:Nat} (h0:0<n) {p:Array Nat} (h:bp n p) (k:Nat):∀ f l r,bj n (fun _=>True) (kas_place p k f l r)
 | 0,l,r=>by unfold kas_place;trivial
 | f+1,l,r=>by
  unfold kas_place
  split
  ·trivial
  ·refine ⟨h.at h0 _,h.at h0 _,fun b=>?_⟩
   dsimp only
   split
   ·exact mD h0 h k f _ _
   ·exact mD h0 h k f _ _
theorem qH {n:Nat} (h0:0<n):∀ k {p:Array Nat},bp n p->∀ i,bj n (bp n) (kas_bin k p i)
 | 0,p,h,i=>by unfold kas_bin;exact h
 | k+1,p,h,i=>by
  unfold kas_bin
  exact bj.bind ((mD h0 h i i 0 i).mono fun l _=>qH h0 k (h.bubble _ _) (i+1))
theorem qI {n:Nat} (h0:0<n) {p:Array Nat} (h:bp n p) (i j:Nat):bj n (fun r:Nat × Array Nat=>bp n r.2) (kas_tail3 i j p):=by
 unfold kas_tail3
 exact bj.bind ((mC h0 (h.rev _ _) _ _).mono fun m _=>h.rev _ _)
theorem qJ {n:Nat} (h0:0<n) {p:Array Nat} (h:bp n p) (i j:Nat):bj n (fun r:Nat × Array Nat=>bp n r.2) (kas_descPart i j p):=by
 unfold kas_descPart
 refine bj.bind ((ki h0 _ h _ _).mono fun r hr=>?_)
 try dsimp only
 split
 ·exact qI h0 (hr.rev _ _) _ _
 ·exact qI h0 hr _ _
theorem yP {n:Nat} (h0:0<n) {p:Array Nat} (h:bp n p) (j:Nat):bj n (fun r:Nat × Array Nat=>bp n r.2) (kas_count j p):=by
 unfold kas_count
 refine bj.bind ((mC h0 h _ _).mono fun i _=>?_)
 try dsimp only
 split
 ·exact h
 ·split
  ·refine ⟨h.at h0 _,h.at h0 _,fun b=>?_⟩
   dsimp only
   split
   ·exact h
   ·exact qJ h0 (h.rev _ _) _ _
  ·exact qJ h0 h _ _
theorem qK {n:Nat} (h0:0<n):bj n (bp n) (kas_sort n):=by
 have h:bp n (List.range n).toArray:=fun x hx=>by simpa using hx
 unfold kas_sort
 refine bj.bind ((yP h0 h n).mono fun r hr=>?_)
 try dsimp only
 split
 ·exact qH h0 _ hr _
 ·exact hr
end L2
namespace L2
open PySem PySem.Spec PyProof.Rows PySem.W
noncomputable def b9:ae->Bool
 | .inl _=>true
 | .inr _=>false
noncomputable def cX:ae->ae->Bool
 | .inl i,.inl j=>decide (i<j)
 | .inr a,.inr c=>decide (a.cps.toList<c.cps.toList)
 | _,_=>false
noncomputable def bV:List ae->List ae->Bool
 | a::r,b::q=>if a=b then bV r q else cX a b
 | _,_=>false
theorem yQ {prog:Program} {w:World} {A:Around} {E:Value->Shared->Prop} {fl:Bool} {Q:Bool->Shared->Prop} {s:Shared} {a b:ae} {u v:Value} (ra:RelV (kV a) u) (rb:RelV (kV b) v) (h:b9 a=b9 b) (q:Q (cX a b) s):wpAny (model prog w) A (oneLt' fl u v) Q E s:=by
 cases a with
 | inl i =>
  cases b with
  | inr y=>cases h
  | inl j =>
   obtain ⟨t,rfl⟩:=(show ∃ t,u=Value.int i t from ra)
   obtain ⟨t',rfl⟩:=(show ∃ t,v=Value.int j t from rb)
   cases fl with
   | true=>exact kat_lt_int q
   | false=>exact kat_one _ _ (lt_int q)
 | inr x =>
  cases b with
  | inl j=>cases h
  | inr y =>
   obtain ⟨t,rfl⟩:=(show ∃ t,u=Value.str x t from ra)
   obtain ⟨t',rfl⟩:=(show ∃ t,v=Value.str y t from rb)
   cases fl with
   | true=>exact kas_lt_str q
   | false=>exact kat_one _ _ (lt_str q)
theorem mE {prog:Program} {w:World} {A:Around} {fl:Bool} {Q:Bool->Shared->Prop} {s:Shared}:∀ {a b:List ae} {us vs:List Value} (i:Nat),aw (a.map kV) us->aw (b.map kV) vs->a.map b9=b.map b9->Q (bV a b) s->KatLex prog w A fl false Q (us.zip vs) i s
 | [],[],us,vs,i,ra,rb,h,q=>by cases ra;cases rb;unfold KatLex;exact q
 | [],_::_,us,vs,i,ra,rb,h,q=>by cases h
 | _::_,[],us,vs,i,ra,rb,h,q=>by cases h
 | a::r,b::t,us,vs,i,ra,rb,h,q=>by
  cases ra with
  | @cons _ u _ us ra1 ra2 =>
   cases rb with
   | @cons _ v _ vs rb1 rb2 =>
    simp only [List.map_cons,List.cons.injEq] at h
    show KatLex prog w A fl false Q ((u,v)::us.zip vs) i s
    unfold KatLex
    refine (bK prog w).eqBool (fj ra1) (fj rb1) ?_
    unfold bV at q
    by_cases e:a=b
    ·rw [if_pos e] at q
     rw [if_pos (Qp e)]
     exact mE (i+1) ra2 rb2 h.2 q
    ·rw [if_neg e] at q
     rw [if_neg (by rw [Qi e];exact Bool.false_ne_true)]
     exact yQ ra1 rb1 h.1 q
noncomputable def cY (ds:List (List ae)) (i j:Nat):Bool:=bV (ds.getD i []) (ds.getD j [])
noncomputable def dH (n:Nat) (lt:Nat->Nat->Bool):Array Nat:=b7 lt (kas_sort n)
theorem kj {n:Nat} (lt:Nat->Nat->Bool) (h0:0<n):bp n (dH n lt):=mB (P:=bp n) _ _ (qK h0)
theorem mF {prog:Program} {w:World} {A:Around} {E:Value->Shared->Prop} {κ:SortKind} {ks vs:List Value} {lt:Nat->Nat->Bool} {s:Shared} (hl:ks.length=vs.length) (h2:2<=vs.length) (h:vs.length<64)
  (hc:∀ i j,i<vs.length->j<vs.length->∀ C:Bool->Shared->Prop,C (lt i j) s->kas_ask prog w A κ ks i j C s) :
  wpAny (model prog w) A ((sortRuns').run (SortSt.mk' κ (ks.toArray.zip vs.toArray) #[] 7 none)) (fun r s'=>s'=s/\failedOf r.2=none/\(arrOf r.2).size=vs.length/\arrOf r.2=Array.map (kas_item (ks.toArray.zip vs.toArray)) (dH vs.length lt)) E s:=by
 unfold dH
 exact kat_run (Q:=fun st' s'=>s'=s/\failedOf st'=none/\(arrOf st').size=vs.length/\arrOf st'=Array.map (kas_item (ks.toArray.zip vs.toArray)) (b7 lt (kas_sort vs.length))) (G:=fun p s'=>p=b7 lt (kas_sort vs.length)/\s'=s) hl h2 h (fun p st' s' hp ha hf hG=>⟨hG.2,hf,by rw [ha,Array.size_map];exact hp,by rw [ha,hG.1]⟩)
  (qG (n:=vs.length) (lt:=lt) hc (qK (by omega)) ⟨rfl,rfl⟩)
noncomputable def b8 (ds:List (List ae)):List Nat:=if ds.length<2 then List.range ds.length else (dH ds.length (cY ds)).toList
noncomputable def bq (ds:List (List ae)) (xs:List V):List V:=(b8 ds).map fun i=>xs.getD i .non
noncomputable def bQ (H:Hp) (xs:List V) (ds:List (List ae)):Prop:=xs.length=ds.length/\∀ (i:Nat) (x:V) (d:List ae),xs[i]?=some x->ds[i]?=some d->∃ t,x=.ref t/\H t=some (.tup (d.map kV))
theorem mG {X:Cx} {pins:List (Addr × Obj)} {σ:St} {H:Hp} {s:Shared} (I:Inv X pins σ H s) {t:Addr} {d:List ae} (h:H t=some (.tup (d.map kV))):∃ (o:Obj) (vs:List Value) (n:Nat),s.heap.get? t=some o/\o.cls=.type "tuple"/\o.data=.seq vs.toArray n/\aw (d.map kV) vs:=by
 obtain ⟨_,its,rv,⟨o,ho,hc,n,hd⟩,_⟩:=I.hok t _ h
 exact ⟨o,its,n,ho,hc,hd,rv⟩
theorem mH {X:Cx} {pins:List (Addr × Obj)} {σ:St} {H:Hp} {s:Shared} (I:Inv X pins σ H s):∀ {xs:List V} {ds:List (List ae)} {its:List Value},aw xs its->bQ H xs ds->(∀ d∈ds,d≠[])->∃ fs:List Value,KatTups s.heap its fs/\fs.length=ds.length/\∀ (i:Nat) (f:Value) (d:List ae),fs[i]?=some f->ds[i]?=some d->∃ k r,d=k::r/\RelV (kV k) f
 | [],[],_,rv,h,_=>by cases rv;exact ⟨[],KatTups.nil,rfl,fun i f d h=>by simp at h⟩
 | [],_::_,_,_,h,_=>by simp [bQ] at h
 | _::_,[],_,_,h,_=>by simp [bQ] at h
 | x::xs,d::ds,_,rv,h,hn=>by
  cases rv with
  | @cons _ u _ us r1 r2 =>
   obtain ⟨t,rfl,ht⟩:=h.2 0 x d rfl rfl
   cases (show u=Value.ref t from r1)
   obtain ⟨o,vs,n,ho,hc,hd,rd⟩:=mG I ht
   obtain ⟨fs,k1,k2,k3⟩:=mH I r2 (ds:=ds) ⟨by simpa using h.1,fun i y e a b=>h.2 (i+1) y e a b⟩ fun e he=>hn e (Qz _ he)
   cases d with
   | nil=>exact absurd rfl (hn [] (by simp))
   | cons k r =>
    cases rd with
    | @cons _ f _ gs q1 q2 =>
     refine ⟨f::fs,KatTups.cons ho hc hd (by simp) k1,by simp [k2],fun i g e a b=>?_⟩
     cases i with
     | zero =>
      have e1:f=g:=by simpa using a
      have e2:k::r=e:=by simpa using b
      subst e1 e2
      exact ⟨k,r,rfl,q1⟩
     | succ i=>exact k3 i g e a b
theorem je:∀ {xs:List V} {vs:List Value},aw xs vs->∀ i,i<xs.length->RelV (xs.getD i .non) (vs.getD i Value.none)
 | _,_,.nil,i,h=>by simp at h
 | _,_,.cons r1 r2,0,_=>r1
 | _,_,.cons r1 r2,i+1,h=>je r2 i (by simpa using h)
theorem km {xs:List V} {vs:List Value} (r:aw xs vs):∀ p:List Nat,(∀ i∈p,i<xs.length)->aw (p.map fun i=>xs.getD i .non) (p.map fun i=>vs.getD i Value.none)
 | [],_=>.nil
 | i::p,h=>.cons (je r i (h i (by simp))) (km r p fun j hj=>h j (Qz _ hj))
theorem hW {α:Type} (d:α):∀ xs:List α,(List.range xs.length).map (fun i=>xs.getD i d)=xs:=by
 intro xs
 refine List.ext_getElem (by simp) fun i h1 h2=>?_
 simp [Qb h2]
section
variable {X:Cx} {pins:List (Addr × Obj)} {σ:St} {H:Hp} {s:Shared} {xs:List V} {ds:List (List ae)} {sh:List Bool}
theorem qL {A:Around} {E:Value->Shared->Prop} {a:Addr} {its:List Value} {n:Nat} {P:Fin->Shared->Prop}
  (I:Inv X pins σ H s) (fa:ck X pins H a) (ho:s.heap.get? a=some (seqObj "list" its.toArray n)) (rv:aw xs its) (hz:xs.length<=sizeLine) (h64:xs.length<64) (ht:bQ H xs ds) (hsh:∀ d∈ds,d.map b9=sh) (hne:sh≠[])
  (fin:∀ (s':Shared) (out:Array Value) (n':Nat),Inv X pins σ H s'->s'.heap.get? a=some (seqObj "list" out n')->out.size<=sizeLine->aw (bq ds xs) out.toList->P (.done (.ret .none)) s') :
  wpAny (model X.prog X.w) A (Builtin.«list.sort» ⟨[.ref a],[]⟩) P E s:=by
 have hil:its.length=xs.length:=rv.length.symm
 rw [<- hil] at hz
 obtain ⟨f0,f1,f2,f3,f4,f5⟩:=id fa
 rw [list_sort_plain]
 refine Qa (listItems_at ho rfl ?_)
 refine Qa (listUpdate_at ho rfl ?_ (by rw [Ql];exact hz) (by show (#[]:Array Value).size<=_;simp))
 obtain ⟨e1,ho1⟩:∃ e1,(s.heap.update a (Obj.mapSeq fun _=>#[])).get? a=some (seqObj "list" #[] e1):=⟨_,get?_update_seq ho (fun _=>#[])⟩
 have I1:Inv X pins σ H { s with heap:=s.heap.update a (Obj.mapSeq fun _=>#[]) }:=I.turned (t':=s.toks) (fun b o hb e=>by rw [QI _ _ _ _ hb];exact e) f0 f1 f3 f4 f5
 generalize s.heap.update a (Obj.mapSeq fun _=>#[])=h1 at ho1 I1
 refine Qa (seqEpoch_at (s:={ s with heap:=h1 }) ho1 rfl ?_)
 refine Qa (wpAny_newTuple (s:={ s with heap:=h1 }) ?_ (by simpa using hz))
 have ho2:=Qe (seqObj "tuple" its.toArray.toList.toArray 0) ho1
 have I2:Inv X pins σ H { s with heap:=h1.push (seqObj "tuple" its.toArray.toList.toArray 0) }:=I1.kept (t':=s.toks) fun b o e=>Qe _ e
 change wpAny _ _ _ _ _ { s with heap:=h1.push (seqObj "tuple" its.toArray.toList.toArray 0) }
 generalize h1.push (seqObj "tuple" its.toArray.toList.toArray 0)=h2 at ho2 I2
 refine Qa (wpAny_newList (s:={ s with heap:=h2 }) ?_ (by simp))
 have ho3:=Qe (seqObj "list" #[] 0) ho2
 have I3:Inv X pins σ H { s with heap:=h2.push (seqObj "list" #[] 0) }:=I2.kept (t':=s.toks) fun b o e=>Qe _ e
 change wpAny _ _ _ _ _ { s with heap:=h2.push (seqObj "list" #[] 0) }
 generalize h2.push (seqObj "list" #[] 0)=h3 at ho3 I3
 dsimp only
 refine wpAny_holding ?_
 have ho3:({ s with heap:=h3 }:Shared).heap.get? a=some (seqObj "list" #[] e1):=ho3
 generalize { s with heap:=h3 }=s3 at I3 ho3 ⊢
 have last:∀ st':SortSt,failedOf st'=none->((arrOf st').map (·.2)).size<=sizeLine->aw (bq ds xs) ((arrOf st').map (·.2)).toList->wpAny (model X.prog X.w) A (do
   let __do_lift <- seqEpoch a
   Builtin.List.listUpdate (Value.ref a) fun x=>Array.map (fun x=>x.snd) (arrOf st')
   match failedOf st' with
    | some e=>do
     rule "list.sort.comparison-raised"
     throw e
     if (__do_lift != e1)=true then do
         rule "list.sort.modified"
         raiseErrorWords "ValueError" "list modified during sort"
         ret Value.none
      else ret Value.none
    | x =>
     if (__do_lift != e1)=true then do
      rule "list.sort.modified"
      raiseErrorWords "ValueError" "list modified during sort"
      ret Value.none
     else ret Value.none) P E s3:=by
  intro st' hf hsz hv
  refine Qa (seqEpoch_at ho3 rfl ?_)
  refine Qa (listUpdate_at ho3 rfl ?_ (by simp) (Nat.le_succ_of_le hsz))
  rw [hf]
  simp only [bne_self_eq_false,Bool.false_eq_true,if_false]
  exact Qd (fin _ _ _ (I3.turned (t':=s3.toks) (fun b o hb e=>by rw [QI _ _ _ _ hb];exact e) f0 f1 f3 f4 f5) (get?_update_seq ho3 (fun _=>(arrOf st').map (·.2))) hsz hv)
 have hdl:ds.length=its.length:=by rw [hil];exact ht.1.symm
 by_cases h2:its.toArray.size<2
 ·rw [if_pos h2]
  refine Qa (Qd ?_)
  rw [if_pos h2,StateT.run_pure]
  refine Qa (Qd ?_)
  have e:((arrOf (SortSt.mk' general' (its.toArray.zip its.toArray) #[] 7 none)).map (·.2))=its.toArray:=by
   show (its.toArray.zip its.toArray).map (·.2)=its.toArray
   rw [<- Array.toList_inj]
   simp [List.map_snd_zip]
  refine last _ rfl (by rw [e,Ql];exact hz) ?_
  rw [e]
  rw [Ql] at h2
  unfold bq b8
  rw [if_pos (by rw [hdl];exact h2),hdl,hil,hW]
  exact rv
 ·rw [if_neg h2]
  rw [Ql] at h2
  have hnn:∀ d∈ds,d≠[]:=fun d hd z=>hne (by rw [<- hsh d hd,z];rfl)
  obtain ⟨fs,kt,kl,kf⟩:=mH I3 rv ht hnn
  have hds:2<=its.length:=by omega
  obtain ⟨b0,sh',rfl⟩:∃ b r,sh=b::r:=by
   cases sh with
   | nil=>exact absurd rfl hne
   | cons b r=>exact ⟨b,r,rfl⟩
  refine Qa (kat_kind (T:=if b0=true then Value.type "int" else Value.type "str") kt (by rw [kl,hdl];omega) (fun v hv=>?_) (by cases b0<;>rfl) ?_)
  ·obtain ⟨i,hi⟩:=List.mem_iff_getElem?.mp hv
   have hil2:=(Qc hi).1
   have hid:i<ds.length:=by rw [<- kl];exact hil2
   obtain ⟨k,r,ed,rk⟩:=kf i v ds[i] hi (Qb hid)
   have hs:=hsh ds[i] (QJ hid)
   rw [ed,List.map_cons] at hs
   have hb:b9 k=b0:=(List.cons.inj hs).1
   cases k with
   | inl m =>
    obtain ⟨t,rfl⟩:=(show ∃ t,v=Value.int m t from rk)
    rw [<- hb]
    exact fun A Q E s _ q=>Qd q
   | inr z =>
    obtain ⟨t,rfl⟩:=(show ∃ t,v=Value.str z t from rk)
    rw [<- hb]
    exact fun A Q E s _ q=>Qd q
  rw [if_neg (by rw [Ql];exact h2)]
  refine Qa (QL (mF (vs:=its) (ks:=its) (lt:=cY ds) rfl hds (by rw [hil];exact h64) fun i j hi hj C hC=>?_) ?_ fun _ _ e=>e)
  ·have one:∀ i,i<its.length->∃ (t:Addr) (o:Obj) (vs:List Value) (m:Nat),its.getD i Value.none=.ref t/\s3.heap.get? t=some o/\o.data=.seq vs.toArray m/\aw ((ds.getD i []).map kV) vs/\(ds.getD i []).map b9=b0::sh':=fun i hi=>by
    have hix:i<xs.length:=by rw [<- hil];exact hi
    have hid:i<ds.length:=by rw [hdl];exact hi
    obtain ⟨t,ex,hH⟩:=ht.2 i xs[i] ds[i] (Qb hix) (Qb hid)
    obtain ⟨o,vs,m,ho,hc,hd,rd⟩:=mG I3 hH
    have rg:=je rv i hix
    have e1:xs.getD i .non=.ref t:=by rw [Qg,Qb hix,ex];rfl
    have e2:ds.getD i []=ds[i]:=by rw [Qg,Qb hid];rfl
    rw [e1] at rg
    exact ⟨t,o,vs,m,rg,ho,hd,by rw [e2];exact rd,by rw [e2];exact hsh _ (QJ hid)⟩
   obtain ⟨t1,o1,v1,m1,a1,a2,a3,a4,a5⟩:=one i hi
   obtain ⟨t2,o2,v2,m2,c1,c2,c3,c4,c5⟩:=one j hj
   show wpAny (model X.prog X.w) A (keyLt' _ (its.getD i Value.none) (its.getD j Value.none)) C _ s3
   rw [a1,c1]
   have hl:v1.length=v2.length:=by
    have q1:=a4.length
    have q2:=c4.length
    have q3:=congrArg List.length (a5.trans c5.symm)
    simp only [Qf] at q1 q2 q3
    omega
   refine kat_lt a2 a3 c2 c3 ?_
   rw [Qi (by simp [hl])]
   exact mE 0 a4 c4 (a5.trans c5.symm) hC
  rintro ⟨⟨⟩,st'⟩ s2 ⟨rfl,hf,hsz,ha⟩
  have hp:bp its.length (dH its.length (cY ds)):=kj _ (by omega)
  have em:((arrOf st').map (·.2)).toList=(dH its.length (cY ds)).toList.map fun i=>its.getD i Value.none:=by
   rw [ha,Array.toList_map,Array.toList_map,List.map_map]
   refine List.map_congr_left fun i _=>?_
   show (kas_item (its.toArray.zip its.toArray) i).2=_
   rw [kat_item rfl]
  refine last st' hf ?_ ?_
  ·rw [Array.size_map,hsz];exact hz
  ·rw [em]
   unfold bq b8
   rw [if_neg (by rw [hdl];exact h2),hdl]
   exact km rv _ fun i hi=>by rw [<- hil];exact hp i hi
theorem yR {K:PySem.W.Frag} (hK:X.K=K):c9 X (.builtin "sorted") (fun as H Q=>∃ (l:Addr) (xs:List V) (ds:List (List ae)) (sh:List Bool),as=[.ref l]/\am K H l xs/\xs.length<64/\bQ H xs ds/\(∀ d∈ds,d.map b9=sh)/\sh≠[] /\
  ∀ p,H p=none->Q (.ref p) (af H p (.lst (bq ds xs)))):=by
 subst hK
 intro pins s σ H as us Q I r h
 obtain ⟨l,xs,ds,sh,rfl,hq,h64,ht,hsh,hne,q⟩:=h
 obtain ⟨u,rfl,ru⟩:=vals1 r
 cases (show u=Value.ref l from ru)
 obtain ⟨its,rv,pl,hz⟩:=I.list hq
 have hil:its.length=xs.length:=rv.length.symm
 refine Calls.call_function_entry kind_sorted plain_sorted entry_sorted (args_sorted1 _) ?_
 unfold Builtin.«sorted»
 refine Qa (m:=checkCount "sorted" 1 1 _) (Qd ?_)
 refine Qa (collect_list pl.isList ?_ (by rw [hil];exact hz))
 have I1:Inv X pins σ H { s with heap:=(s.heap.push (seqObj "list" #[] 0)).update s.heap.objs.size (Obj.mapSeq (·++its.toArray)) }:=I.kept (t':=s.toks) fun b o e=>by
  rw [QI _ _ _ _ (Qt (Qm e))]
  exact Qe _ e
 generalize (s.heap.push (seqObj "list" #[] 0)).update s.heap.objs.size (Obj.mapSeq (·++its.toArray))=h1 at I1
 refine Qa (wpAny_newList (s:={ s with heap:=h1 }) ?_ (by rw [hil];exact hz))
 have hoL:(h1.push (seqObj "list" its.toArray 0)).get? h1.objs.size=some (seqObj "list" its.toArray 0):=Qj _ rfl
 have I2:Inv X pins σ H { s with heap:=h1.push (seqObj "list" its.toArray 0) }:=I1.kept (t':=s.toks) fun b o e=>Qe _ e
 have fL:ck X pins H h1.objs.size:=I1.fpOk (Qh _) (I1.hok.fresh (Qh _))
 change wpAny _ _ _ _ _ { s with heap:=h1.push (seqObj "list" its.toArray 0) }
 dsimp only
 generalize h1.push (seqObj "list" its.toArray 0)=h2 at hoL I2
 generalize h1.objs.size=L at hoL fL
 refine Qa (wpAny_holding (wpAny_call_entry (s:={ s with heap:=h2 }) slot_list_sort ⟨_,hoL,rfl⟩ entry_list_sort (qL I2 fL hoL rv hz h64 ht hsh hne fun s' out n' I' hoa hos vy=>⟨_,rfl,?_⟩) (args_list_sort _)))
 refine Qd ⟨_,rfl,.ref L,af H L (.lst (bq ds xs)),I'.adopt fL ?_,rfl,q L fL.1⟩
 have hyl:(bq ds xs).length<=sizeLine:=by rw [vy.length,QG];exact hos
 exact ⟨hyl,out.toList,n',vy,by simpa using hoa⟩
end
end L2
namespace L2
open PySem PySem.Spec PyProof.Rows PySem.W
section
variable {X:Cx} {k:Nat} {f:Addr} {fd:FuncData} {ps:List Str} {sp:Sp} {dvs:List V} {ds:List Value} {pins:List (Addr × Obj)} {σ:St} {H:Hp} {s:Shared} {xs:List V} {ds':List (List ae)} {sh:List Bool}
theorem yS {A:Around} {E:Value->Shared->Prop} {a:Addr} {its:List Value} {n:Nat} {P:Fin->Shared->Prop} (F:aE X.prog X.w X.K X.mg X.base aI k f fd ps sp) (hr:aA k A)
  (hA:∀ s H,dX X.prog X.w X.K X.mg X.base X.A X.stack s H->dX X.prog X.w X.K X.mg X.base A X.stack s H) (hb:Binds X.K fd ps ds) (hd:aw dvs ds)
  (I:Inv X pins σ H s) (fa:ck X pins H a) (ho:s.heap.get? a=some (seqObj "list" its.toArray n)) (rv:aw xs its) (h64:xs.length<64) (hl:ds'.length=xs.length) (hsh:∀ d∈ds',d.map b9=sh) (hne:sh≠[])
  (hk:∀ (i:Nat) (x:V) (d:List ae) (H':Hp),Same H H'->xs[i]?=some x->ds'[i]?=some d->∀ Q':VK,(∀ t H2,Same H' H2->H2 t=some (.tup (d.map kV))->Q' (.ref t) H2)->sp ([x]++dvs) H' Q' E0)
  (fin:∀ (s':Shared) (H':Hp) (out:Array Value) (n':Nat),Same H H'->H' a=none->Inv X pins σ H' s'->s'.heap.get? a=some (seqObj "list" out n')->out.size<=sizeLine->aw (bq ds' xs) out.toList->P (.done (.ret .none)) s') :
  wpAny (model X.prog X.w) A (Builtin.«list.sort» ⟨[.ref a],[(Str.ofString "key",.ref f)]⟩) P E s:=by
 have hil:its.length=xs.length:=rv.length.symm
 have hz:its.length<=sizeLine:=by rw [sizeLine_eq];omega
 obtain ⟨f0,f1,f2,f3,f4,f5⟩:=id fa
 rw [yO]
 refine Qa (listItems_at ho rfl ?_)
 refine Qa (listUpdate_at ho rfl ?_ (by rw [Ql];exact hz) (by show (#[]:Array Value).size<=_;simp))
 obtain ⟨e1,ho1⟩:∃ e1,(s.heap.update a (Obj.mapSeq fun _=>#[])).get? a=some (seqObj "list" #[] e1):=⟨_,get?_update_seq ho (fun _=>#[])⟩
 have I1:Inv X pins σ H { s with heap:=s.heap.update a (Obj.mapSeq fun _=>#[]) }:=I.turned (t':=s.toks) (fun b o hb e=>by rw [QI _ _ _ _ hb];exact e) f0 f1 f3 f4 f5
 generalize s.heap.update a (Obj.mapSeq fun _=>#[])=h1 at ho1 I1
 refine Qa (seqEpoch_at (s:={ s with heap:=h1 }) ho1 rfl ?_)
 refine Qa (wpAny_newTuple (s:={ s with heap:=h1 }) ?_ (by simpa using hz))
 have ho2:=Qe (seqObj "tuple" its.toArray.toList.toArray 0) ho1
 have I2:Inv X pins σ H { s with heap:=h1.push (seqObj "tuple" its.toArray.toList.toArray 0) }:=I1.kept (t':=s.toks) fun b o e=>Qe _ e
 change wpAny _ _ _ _ _ { s with heap:=h1.push (seqObj "tuple" its.toArray.toList.toArray 0) }
 generalize h1.push (seqObj "tuple" its.toArray.toList.toArray 0)=h2 at ho2 I2
 refine Qa (wpAny_newList (s:={ s with heap:=h2 }) ?_ (by simp))
 have ho3:=Qe (seqObj "list" #[] 0) ho2
 have hK3:(h2.push (seqObj "list" #[] 0)).get? h2.objs.size=some (seqObj "list" #[] 0):=Qj _ rfl
 have fK:ck X pins H h2.objs.size:=I2.fpOk (Qh _) (I2.hok.fresh (Qh _))
 have naK:a≠h2.objs.size:=Qt (Qm ho2)
 have I3:Inv X pins σ H { s with heap:=h2.push (seqObj "list" #[] 0) }:=I2.kept (t':=s.toks) fun b o e=>Qe _ e
 change wpAny _ _ _ _ _ { s with heap:=h2.push (seqObj "list" #[] 0) }
 generalize h2.push (seqObj "list" #[] 0)=h3 at ho3 hK3 I3
 dsimp only
 generalize h2.objs.size=K at hK3 fK naK
 obtain ⟨g0,g1,g2,g3,g4,g5⟩:=id fK
 refine wpAny_holding ?_
 refine Qa (wpAny_rule ?_)
 refine Qa ?_
 rw [<- Array.forIn_toList]
 refine wpAny_forIn_list _ (fun rest _ s'=>∃ (i:Nat) (kv:List Value) (kx:List V) (n':Nat) (H':Hp),rest=its.drop i/\Same H H'/\H' a=none/\H' K=none/\Inv X pins σ H' s'/\s'.heap.get? a=some (seqObj "list" #[] e1)/\s'.heap.get? K=some (seqObj "list" kv.toArray n')/\aw kx kv/\bQ H' kx (ds'.take i)/\i<=its.length) _ ?_ ?_ _ _
  ⟨0,[],[],0,H,by simp,Same.refl _,f0,g0,I3,ho3,hK3,.nil,⟨by simp,fun i x d h=>by simp at h⟩,Qr _⟩
 ·rintro x rest b s' ⟨i,kv,kx,n',H1,er,sm,na1,nK1,I',hoa,hoK,rk,tk,hi⟩
  have hlt:i<its.length:=by
   have:=congrArg List.length er
   simp at this
   omega
  have e2:its[i]?=some x/\its.drop (i+1)=rest:=by
   rw [List.drop_eq_getElem_cons hlt] at er
   obtain ⟨z1,z2⟩:=List.cons.inj er
   exact ⟨by rw [Qb hlt,z1],z2.symm⟩
  have hix:i<xs.length:=by omega
  have hik:i<ds'.length:=by omega
  obtain ⟨u,eu,ru⟩:=rv.get (Qb hix)
  rw [e2.1] at eu
  cases eu
  have r1:aw ([xs[i]]++dvs) ([x]++ds):=aw.append (.cons ru .nil) hd
  have hsp:=hk i xs[i] ds'[i] H1 sm (Qb hix) (Qb hik) (fun v H2=>∃ t,v=.ref t/\Same H1 H2/\H2 t=some (.tup (ds'[i].map kV))) fun t H2 a b=>⟨t,rfl,a,b⟩
  have hlen:([x]++ds).length=ps.length:=by rw [<- r1.length];exact F.len _ _ _ _ hsp
  have ho2':∀ b∈[a,K],∃ o,s'.heap.get? b=some o/\∀ v,o.data≠.cell v:=by
   intro b hb
   rcases Qu hb with z | z
   ·subst z;exact ⟨_,hoa,fun v z=>nomatch z⟩
   ·have z:b=K:=by simpa using z
    subst z;exact ⟨_,hoK,fun v z=>nomatch z⟩
  have hf2:∀ b∈[a,K],ck X pins H1 b:=by
   intro b hb
   rcases Qu hb with z | z
   ·subst z;exact ⟨na1,fa.2⟩
   ·have z:b=K:=by simpa using z
    subst z;exact ⟨nK1,fK.2⟩
  have Ip:=I'.pinned hf2 ho2'
  refine Qa (wpAny_attempt ?_)
  refine wpAny_call (codeAny_mono (F.run A X.stack s' H1 ⟨[x],[]⟩ ([x]++ds) ([xs[i]]++dvs) _ E0 hr (hA _ _ I'.env0) (hb s' [x] I'.kIn hlen) r1 hsp) fun r s2 hq=>?_)
  cases r with
  | error e=>exact False.elim hq
  | ok fl =>
   cases fl with
   | next=>exact False.elim hq
   | brk=>exact False.elim hq
   | cont=>exact False.elim hq
   | ret u =>
    obtain ⟨v,H2,os,bare,un,hok,rr,t,ev,sm2,ht2⟩:=(show CE X.stack X.prog X.w H1 s' _ u s2 from hq)
    subst ev
    cases (show u=Value.ref t from rr)
    have I2':=Ip.call' os un hok bare (fun b z=>absurd z (by simp))
    have pa:=I2'.pin (a,_) (List.mem_append_right _ (List.mem_append_right _ (fC (by simp) hoa)))
    have pK:=I2'.pin (K,_) (List.mem_append_right _ (List.mem_append_right _ (fC (by simp) hoK)))
    have hoa2:=pa.1
    have hoK2:=pK.1
    have I3':=I2'.unpinned
    have hxl:kx.length=i:=by
     have:=tk.1
     rw [Qx] at this
     omega
    have hkl:kv.length<=64:=by
     have:=rk.length
     omega
    dsimp only
    refine Qa (listUpdate_at hoK2 rfl ?_ (by rw [Ql,sizeLine_eq];omega) (by rw [Array.size_push,Ql,sizeLine_eq];omega))
    obtain ⟨n2,hn2⟩:∃ n2,(s2.heap.update K (Obj.mapSeq (·.push (Value.ref t)))).get? K=some (seqObj "list" (kv++[Value.ref t]).toArray n2):=⟨_,(get?_update_seq hoK2 (·.push (Value.ref t))).trans (by rw [List.push_toArray])⟩
    refine Qd ⟨i+1,kv++[Value.ref t],kx++[.ref t],n2,H2,e2.2.symm,sm.trans sm2,pa.2.1,pK.2.1,I3'.turned (t':=s2.toks) (fun b o hb e=>by rw [QI _ _ _ _ hb];exact e) pK.2.1 g1 g3 g4 g5,?_,hn2,rk.append (.cons (show RelV (.ref t) (Value.ref t) from rfl) .nil),?_,hlt⟩
    ·show (s2.heap.update K _).get? a=_
     rw [QI _ _ _ _ naK];exact hoa2
    ·rw [Qn hik]
     refine ⟨by simp only [Qv,Qx,List.length_cons,List.length_nil];omega,fun j y d hy hd'=>?_⟩
     by_cases hj:j<i
     ·rw [Qw (by omega)] at hy
      rw [Qw (by rw [Qx];omega)] at hd'
      obtain ⟨t',a1,a2⟩:=tk.2 j y d hy hd'
      exact ⟨t',a1,sm2 _ _ a2⟩
     ·rw [Qq (by omega)] at hy
      rw [Qq (by rw [Qx];omega)] at hd'
      have hj2:=(Qc hy).1
      have hji:j-kx.length=0:=by simp at hj2;omega
      rw [hji] at hy
      rw [show j-(List.take i ds').length=0 by rw [Qx];omega] at hd'
      have y1:V.ref t=y:=by simpa using hy
      have d1:ds'[i]=d:=by simpa using hd'
      exact ⟨t,y1.symm,by rw [<- d1];exact ht2⟩
 ·rintro b s' ⟨i,kv,kx,n',H1,er,sm,na1,nK1,I',hoa,hoK,rk,tk,hi⟩
  have hi':i=its.length:=by
   have:=congrArg List.length er
   simp at this
   omega
  have tk':bQ H1 kx ds':=by
   rw [hi',QB (by omega)] at tk
   exact tk
  have hkl:kv.length=its.length:=by rw [<- rk.length,tk'.1];omega
  clear tk er hi hi'
  have hdl:ds'.length=its.length:=by omega
  refine Qa (listItems_at hoK rfl ?_)
  have last:∀ st':SortSt,failedOf st'=none->((arrOf st').map (·.2)).size=its.length->aw (bq ds' xs) ((arrOf st').map (·.2)).toList->wpAny (model X.prog X.w) A (do
    Builtin.List.listUpdate (.ref K) fun _=>#[]
    letGo ((arrOf st').map (·.1)).toList (failedOf st').toList
    let touched:=(<- seqEpoch a) != e1
    Builtin.List.listUpdate (.ref a) fun _=>(arrOf st').map (·.2)
    if let some e:=failedOf st' then rule "list.sort.comparison-raised";throw e
    if touched then rule "list.sort.modified";raiseError "ValueError" "list modified during sort"
    ret .none) P E s':=by
   intro st' hf hsz vy
   refine Qa (listUpdate_at hoK rfl ?_ (by rw [Ql];omega) (by show (#[]:Array Value).size<=_;simp))
   refine Qa (wpAny_letGo ?_)
   have hoa2:(s'.heap.update K (Obj.mapSeq fun _=>#[])).get? a=some (seqObj "list" #[] e1):=by rw [QI _ _ _ _ naK];exact hoa
   have I2:Inv X pins σ H1 { s' with heap:=s'.heap.update K (Obj.mapSeq fun _=>#[]) }:=I'.turned (t':=s'.toks) (fun b o hb e=>by rw [QI _ _ _ _ hb];exact e) nK1 g1 g3 g4 g5
   refine Qa (seqEpoch_at (s:={ s' with heap:=s'.heap.update K (Obj.mapSeq fun _=>#[]) }) hoa2 rfl ?_)
   refine Qa (listUpdate_at (s:={ s' with heap:=s'.heap.update K (Obj.mapSeq fun _=>#[]) }) hoa2 rfl ?_ (by simp) (by rw [hsz];omega))
   rw [hf]
   simp only [bne_self_eq_false,Bool.false_eq_true,if_false]
   exact Qd (fin _ H1 _ _ sm na1 (I2.turned (t':=s'.toks) (fun b o hb e=>by rw [QI _ _ _ _ hb];exact e) na1 f1 f3 f4 f5) (get?_update_seq hoa2 (fun _=>(arrOf st').map (·.2))) (by show ((arrOf st').map (·.2)).size<=_;rw [hsz];exact hz) vy)
  by_cases h2:its.toArray.size<2
  ·rw [if_pos h2,if_pos h2]
   refine Qa (Qd ?_)
   rw [StateT.run_pure]
   refine Qa (Qd ?_)
   have e:((arrOf (SortSt.mk' general' (kv.toArray.zip its.toArray) #[] 7 none)).map (·.2))=its.toArray:=by
    show (kv.toArray.zip its.toArray).map (·.2)=its.toArray
    rw [<- Array.toList_inj]
    simp [List.map_snd_zip,hkl]
   refine last _ rfl (by rw [e,Ql]) ?_
   rw [e]
   rw [Ql] at h2
   unfold bq b8
   rw [if_pos (by rw [hdl];exact h2),hdl,hil,hW]
   exact rv
  ·rw [if_neg h2,if_neg h2]
   rw [Ql] at h2
   have hnn:∀ d∈ds',d≠[]:=fun d hd z=>hne (by rw [<- hsh d hd,z];rfl)
   obtain ⟨fs,kt,kl,kf⟩:=mH I' rk tk' hnn
   have hds:2<=its.length:=by omega
   obtain ⟨b0,sh',rfl⟩:∃ b r,sh=b::r:=by
    cases sh with
    | nil=>exact absurd rfl hne
    | cons b r=>exact ⟨b,r,rfl⟩
   refine Qa (kat_kind (T:=if b0=true then Value.type "int" else Value.type "str") kt (by rw [kl,hdl];omega) (fun v hv=>?_) (by cases b0<;>rfl) ?_)
   ·obtain ⟨i,hi⟩:=List.mem_iff_getElem?.mp hv
    have hil2:=(Qc hi).1
    have hid:i<ds'.length:=by rw [<- kl];exact hil2
    obtain ⟨k,r,ed,rk⟩:=kf i v ds'[i] hi (Qb hid)
    have hs:=hsh ds'[i] (QJ hid)
    rw [ed,List.map_cons] at hs
    have hb:b9 k=b0:=(List.cons.inj hs).1
    cases k with
    | inl m =>
     obtain ⟨t,rfl⟩:=(show ∃ t,v=Value.int m t from rk)
     rw [<- hb]
     exact fun A Q E s _ q=>Qd q
    | inr z =>
     obtain ⟨t,rfl⟩:=(show ∃ t,v=Value.str z t from rk)
     rw [<- hb]
     exact fun A Q E s _ q=>Qd q
   refine Qa (QL (mF (vs:=its) (ks:=kv) (lt:=cY ds') hkl hds (by omega) fun i j hi hj C hC=>?_) ?_ fun _ _ e=>e)
   ·have one:∀ i,i<its.length->∃ (t:Addr) (o:Obj) (vs:List Value) (m:Nat),kv.getD i Value.none=.ref t/\s'.heap.get? t=some o/\o.data=.seq vs.toArray m/\aw ((ds'.getD i []).map kV) vs/\(ds'.getD i []).map b9=b0::sh':=fun i hi=>by
     have hix:i<kx.length:=by rw [tk'.1,hdl];exact hi
     have hid:i<ds'.length:=by rw [hdl];exact hi
     obtain ⟨t,ex,hH⟩:=tk'.2 i kx[i] ds'[i] (Qb hix) (Qb hid)
     obtain ⟨o,vs,m,ho,hc,hd,rd⟩:=mG I' hH
     have rg:=je rk i hix
     have e1:kx.getD i .non=.ref t:=by rw [Qg,Qb hix,ex];rfl
     have e2:ds'.getD i []=ds'[i]:=by rw [Qg,Qb hid];rfl
     rw [e1] at rg
     exact ⟨t,o,vs,m,rg,ho,hd,by rw [e2];exact rd,by rw [e2];exact hsh _ (QJ hid)⟩
    obtain ⟨t1,o1,v1,m1,a1,a2,a3,a4,a5⟩:=one i hi
    obtain ⟨t2,o2,v2,m2,c1,c2,c3,c4,c5⟩:=one j hj
    show wpAny (model X.prog X.w) A (keyLt' _ (kv.getD i Value.none) (kv.getD j Value.none)) C _ s'
    rw [a1,c1]
    have hl:v1.length=v2.length:=by
     have q1:=a4.length
     have q2:=c4.length
     have q3:=congrArg List.length (a5.trans c5.symm)
     simp only [Qf] at q1 q2 q3
     omega
    refine kat_lt a2 a3 c2 c3 ?_
    rw [Qi (by simp [hl])]
    exact mE 0 a4 c4 (a5.trans c5.symm) hC
   rintro ⟨⟨⟩,st'⟩ s2 ⟨rfl,hf,hsz,ha⟩
   have hp:bp its.length (dH its.length (cY ds')):=kj _ (by omega)
   have em:((arrOf st').map (·.2)).toList=(dH its.length (cY ds')).toList.map fun i=>its.getD i Value.none:=by
    rw [ha,Array.toList_map,Array.toList_map,List.map_map]
    refine List.map_congr_left fun i _=>?_
    show (kas_item (kv.toArray.zip its.toArray) i).2=_
    rw [kat_item hkl]
   refine last st' hf (by rw [Array.size_map,hsz]) ?_
   rw [em]
   unfold bq b8
   rw [if_neg (by rw [hdl];exact h2),hdl]
   exact km rv _ fun i hi=>by rw [<- hil];exact hp i hi
theorem yT {Q:VK} {l:Addr} (F:aE X.prog X.w X.K X.mg X.base aI k f fd ps sp) (hr:aA (k+2) X.A) (hb:Binds X.K fd ps ds) (hd:aw dvs ds)
  (I:Inv X pins σ H s) (hq:am X.K H l xs) (h64:xs.length<64) (hl:ds'.length=xs.length) (hsh:∀ d∈ds',d.map b9=sh) (hne:sh≠[])
  (hk:∀ (i:Nat) (x:V) (d:List ae) (H':Hp),Same H H'->xs[i]?=some x->ds'[i]?=some d->∀ Q':VK,(∀ t H2,Same H' H2->H2 t=some (.tup (d.map kV))->Q' (.ref t) H2)->sp ([x]++dvs) H' Q' E0)
  (q:∀ p H',Same H H'->H' p=none->Q (.ref p) (af H' p (.lst (bq ds' xs)))) :
  wpAny (model X.prog X.w) X.A (call (.builtin "sorted") [.ref l] [(Str.ofString "key",.ref f)]) (EP X pins σ Q) X.xe s:=by
 obtain ⟨its,rv,pl,hz⟩:=I.list hq
 have hil:its.length=xs.length:=rv.length.symm
 refine call_function_entry_kw kind_sorted plain_sorted entry_sorted (yN _ _) ?_
 unfold Builtin.«sorted»
 refine Qa (m:=checkCount "sorted" 1 1 _) (Qd ?_)
 refine Qa (collect_list pl.isList ?_ (by rw [hil];exact hz))
 have I1:Inv X pins σ H { s with heap:=(s.heap.push (seqObj "list" #[] 0)).update s.heap.objs.size (Obj.mapSeq (·++its.toArray)) }:=I.kept (t':=s.toks) fun b o e=>by
  rw [QI _ _ _ _ (Qt (Qm e))]
  exact Qe _ e
 generalize (s.heap.push (seqObj "list" #[] 0)).update s.heap.objs.size (Obj.mapSeq (·++its.toArray))=h1 at I1
 refine Qa (wpAny_newList (s:={ s with heap:=h1 }) ?_ (by rw [hil];exact hz))
 have hoL:(h1.push (seqObj "list" its.toArray 0)).get? h1.objs.size=some (seqObj "list" its.toArray 0):=Qj _ rfl
 have I2:Inv X pins σ H { s with heap:=h1.push (seqObj "list" its.toArray 0) }:=I1.kept (t':=s.toks) fun b o e=>Qe _ e
 have fL:ck X pins H h1.objs.size:=I1.fpOk (Qh _) (I1.hok.fresh (Qh _))
 change wpAny _ _ _ _ _ { s with heap:=h1.push (seqObj "list" its.toArray 0) }
 dsimp only
 generalize h1.push (seqObj "list" its.toArray 0)=h2 at hoL I2
 generalize h1.objs.size=L at hoL fL
 have hr2:aA k X.A.in1.in1:=(aA.in1 (k:=k+1) hr).in1
 refine Qa (wpAny_holding (wpAny_call_entry_kw (s:={ s with heap:=h2 }) slot_list_sort ⟨_,hoL,rfl⟩ entry_list_sort (yS F hr2 (fun _ _ e=>e.in1.in1) hb hd I2 fL hoL rv h64 hl hsh hne hk fun s' H' out n' sm nL I' hoa hos vy=>⟨_,rfl,?_⟩) (yM _ _)))
 refine Qd ⟨_,rfl,.ref L,af H' L (.lst (bq ds' xs)),I'.adopt ⟨nL,fL.2⟩ ?_,rfl,q L H' sm nL⟩
 have hyl:(bq ds' xs).length<=sizeLine:=by rw [vy.length,QG];exact hos
 exact ⟨hyl,out.toList,n',vy,by simpa using hoa⟩
end
noncomputable def yU (sp:Sp) (dvs:List V) (K:PySem.W.Frag) (t:TE):TE:=fun σ H Q=>t σ H fun x H1=>∃ (l:Addr) (xs:List V) (ds':List (List ae)) (sh:List Bool),x=.ref l/\am K H1 l xs/\xs.length<64/\ds'.length=xs.length/\(∀ d∈ds',d.map b9=sh)/\sh≠[] /\
 (∀ (i:Nat) (x:V) (d:List ae) (H':Hp),Same H1 H'->xs[i]?=some x->ds'[i]?=some d->∀ Q':VK,(∀ t H2,Same H' H2->H2 t=some (.tup (d.map kV))->Q' (.ref t) H2)->sp ([x]++dvs) H' Q' E0)/\∀ p H',Same H1 H'->H' p=none->Q (.ref p) (af H' p (.lst (bq ds' xs)))
theorem yV {X:Cx} {k:Nat} {f:Addr} {fd:FuncData} {ps:List Str} {sp:Sp} {dvs:List V} {ds:List Value} {K:PySem.W.Frag} {e:Expr} {t:TE} {y:Str} {p p2 p3 pos:Pos} (hK:X.K=K) (F:aE X.prog X.w X.K X.mg X.base aI k f fd ps sp) (hr:aA (k+2) X.A) (hb:Binds X.K fd ps ds) (hd:aw dvs ds)
  (hg:Gl X "sorted") (hm:X.mg "sorted"=none) (hgf:Gl X y) (hmf:X.mg y=some (.ref f)) (he:PE X e t) (hy:(y == ("__debug__":Str))=false:=by decide)
  (hs:starEach [e] X.env=(false,eval e X.env)::starEach [] X.env:=by rfl) :
  PE X (.Call (.Name "sorted" p) [e] [⟨some "key",.Name y p2,p3⟩] pos) (yU sp dvs K t):=by
 intro pins s σ H Q I h
 subst hK
 refine wpAny_Call_Name_kw (f8 I hg hm (show bootBuiltins "sorted"=some (.builtin "sorted") from by decide +kernel) ?_)
 refine callWith_kw ?_ (by rw [hs];rfl) (by rw [hs];rfl)
 rw [hs]
 show wpAny _ _ (spliced ((false,eval e X.env)::backTo pos (starEach [] X.env))) _ _ s
 refine Calls.spliced_cons (ay (he pins s σ H _ I h) fun u s1 ⟨x,H1,I1,r1,q1⟩=>Calls.spliced_nil ?_)
 obtain ⟨l,xs,ds',sh,e1,hq,h64,hl,hsh,hne,hk,q⟩:=q1
 subst e1
 cases (show u=Value.ref l from r1)
 refine ay ((wJ (te:=fun _ H Q=>Q (.ref f) H) (fun pins s σ H Q I h=>iF I hgf hmf ⟨.ref f,H,I,rfl,h⟩ hy) wI) pos pins s1 σ H1 (fun zs H2=>zs=[.ref f]/\H2=H1) I1 ⟨rfl,rfl⟩) fun ws s2 hsl61=>?_
 obtain ⟨zs,H2,I2,rz,ez,eH⟩:=hsl61
 subst ez eH
 obtain ⟨u,rfl,ru⟩:=vals1 rz
 cases (show u=Value.ref f from ru)
 exact yT F hr hb hd I2 hq h64 hl hsh hne hk q
end L2
namespace Mm
end Mm
namespace Mm
open PySem L2 PyProof.Rows
end Mm
namespace L2
open PySem PySem.Spec PyProof.Rows
noncomputable def mI (z:Str) (i:Nat):V:=.str ⟨#[z.cps.toList.getD i 0]⟩
theorem yW {P:Program} {w:World} {K:PySem.W.Frag} {tg:Expr} (it:Addr) (z:Str) (t:Tok) :
  eW P w K tg (mn z.length (mI z)) [it] it (fun i h=>i<=z.length/\h.IsStrIter it "str_ascii_iterator" z t i) where
 mem:=by simp
 obj:=fun i h st b hb=>by
  have e:b=it:=by simpa using hb
  subst e
  obtain ⟨_,o,e,c,d⟩:=st
  exact ⟨o,e,fun v z=>by rw [d] at z;cases z⟩
 keep:=fun i h h' st k=>⟨st.1,by obtain ⟨o,e,r⟩:=st.2;exact ⟨o,k it (by simp) o e,r⟩⟩
 item:=by
  intro X hP hw hK hc i pins s σ H E I hf st hg
  subst hP hw hK
  have hg:i<z.length:=hg
  obtain ⟨f0,f1,f2,f3,f4,f5⟩:=hf it (by simp)
  have hl:z.cps.toList.length=z.length:=by simp [Str.length]
  have hcc:z.cps[i]?=some (z.cps.toList.getD i 0):=by
   rw [Qg,Qb (by omega),<- Array.getElem?_toList,Qb (by omega)];rfl
  refine wpAny_pyNext_ascii_item st.2 hcc fun h' st' sb=>?_
  have I1:Inv X pins σ H { s with heap:=h',toks:=s.toks+1 }:=I.turned (fun b o hb e=>(sb.2 b hb).trans e) f0 f1 f3 f4 f5
  obtain ⟨o,e,c,d⟩:=id st'
  exact ⟨_,rfl,jP (s:={ s with heap:=h',toks:=s.toks+1 }) e c d (by decide) ⟨mI z i,H,I1,⟨s.toks,rfl⟩,⟨rfl,rfl⟩,⟨hg,st'⟩,fun b hb=>(hf b hb).1⟩⟩
 done:=by
  intro X hP hw hK hc i pins s σ H E I hf st hg
  subst hP hw hK
  have hg:z.length<=i:=hg
  obtain ⟨f0,f1,f2,f3,f4,f5⟩:=hf it (by simp)
  exact wpAny_pyNext_ascii_end (I.ok.hd hc) st.2 (Array.getElem?_eq_none (by show z.length<=i;exact hg)) fun h' eb=>⟨rfl,I.turned (t':=s.toks) (fun b o hb e=>eb b o hb e) f0 f1 f3 f4 f5⟩
 self:=fun _ _ _ _ _ st h=>wpAny_pyIter_striter_ascii st.2 h
section
variable {X:Cx} {tg:Expr}
noncomputable def yX (te:TE):TI:=fun σ H R=>te σ H fun x H1=>∃ z:Str,x=.str z/\z.cps.all (·<128)=true/\R (mn z.length (mI z)) H1
theorem yY {e:Expr} {te:TE} (he:PE X e te):PI X tg e (yX te):=by
 intro pins s σ H R I h
 refine ay (he pins s σ H _ I h) fun v s1 hsl62=>?_
 obtain ⟨x,H1,I1,r1,q1⟩:=hsl62
 obtain ⟨z,e,ha,q⟩:=q1
 subst e
 obtain ⟨t,rfl⟩:=r1
 refine wpAny_pyIter_ascii ha ?_
 refine ⟨s1.heap.objs.size,[s1.heap.objs.size],_,_,H1,rfl,I1.kept (t':=s1.toks) fun b o e=>Qe _ e,yW _ z t,⟨Qr _,_,Qj _ rfl,rfl,rfl⟩,fun b hb=>?_,q⟩
 have e:b=s1.heap.objs.size:=by simpa using hb
 subst e
 exact I1.fpOk (Qh _) (I1.hok.fresh (Qh _))
end
end L2
namespace L2
open PySem PySem.Spec PyProof.Rows
section
variable {X:Cx}
theorem mJ {K:PySem.W.Frag} (hK:X.K=K):bL X (compareOp .In) (jW K false):=by subst hK;exact xg
theorem qM {K:PySem.W.Frag} (hK:X.K=K):bL X (compareOp .NotIn) (jW K true):=by subst hK;exact xh
end
section
variable {js:List Nat} {tt:TT} {te:TE}
theorem yZ {n:Nat} {y:Nat->V} {σ:St} {H:Hp} {Q:VK} (Pv:Nat->List V->Hp->Prop) (h0:Pv 0 [] H)
  (hs:∀ i ys H,i<n->Pv i ys H->tt (some (y i)::cp js σ) H fun b H2=>if b=true then te (some (y i)::cp js σ) H2 fun z H3=>ys.length<sizeLine/\Pv (i+1) (ys++[z]) H3 else Pv (i+1) ys H2)
  (hd:∀ ys H,Pv n ys H->∀ p,H p=none->Q (.ref p) (af H p (.lst ys))):gl (mn n y) js tt te σ H Q:=by
 refine ⟨fun i m ys H=>i+m=n/\Pv i ys H,⟨n,by simp,h0⟩,?_⟩
 rintro i m ys H1 ⟨e,q⟩
 rcases Nat.lt_or_ge i n with hlt | hge
 ·refine .inr ⟨hlt,fun ys' H'=>Pv (i+1) ys' H',fun ys' H' q'=>⟨m-1,by omega,by omega,q'⟩,?_⟩
  rintro x H' ⟨rfl,rfl⟩
  exact hs i ys _ hlt q
 ·have:i=n:=by omega
  subst this
  exact .inl ⟨hge,hd ys H1 q⟩
end
end L2
namespace Mm
open PySem L2 PyProof.Rows
noncomputable def hZ:List Str:=["+","-","*","less","same","and","or"]
inductive Ex where
 | num (n:Int)
 | truth (z:Str)
 | name (z:Str)
 | not (e:Ex)
 | op (w:Str) (a b:Ex)
 | of (n:Str) (e:Ex)
 | many (w n:Str) (es:List Ex)
mutual
inductive a7 (H:Hp):V->Ex->Prop where
 | num {t:Addr} {n:Int}:H t=some (.tup [.str "num",.int n])->a7 H (.ref t) (.num n)
 | truth {t:Addr} {z:Str}:H t=some (.tup [.str "truth",.str z])->a7 H (.ref t) (.truth z)
 | name {t:Addr} {z:Str}:H t=some (.tup [.str "name",.str z])->a7 H (.ref t) (.name z)
 | not {t:Addr} {v:V} {e:Ex}:H t=some (.tup [.str "not",v])->a7 H v e->a7 H (.ref t) (.not e)
 | op {t:Addr} {z:Str} {v u:V} {a b:Ex}:H t=some (.tup [.str z,v,u])->a7 H v a->a7 H u b->a7 H (.ref t) (.op z a b)
 | of {t:Addr} {n:Str} {v:V} {e:Ex}:H t=some (.tup [.str "of",.str n,v])->a7 H v e->a7 H (.ref t) (.of n e)
 | many {t l:Addr} {z n:Str} {vs:List V} {es:List Ex}:H t=some (.tup [.str z,.str n,.ref l])->H l=some (.tup vs)->ExsAt H vs es->a7 H (.ref t) (.many z n es)
inductive ExsAt (H:Hp):List V->List Ex->Prop where
 | nil:ExsAt H [] []
 | cons {v:V} {vs:List V} {e:Ex} {es:List Ex}:a7 H v e->ExsAt H vs es->ExsAt H (v::vs) (e::es)
end
noncomputable def cT (H H':Hp):Prop:=∀ b xs,H b=some (.tup xs)->H' b=some (.tup xs)
mutual
theorem a7.kept {H H':Hp} (s:cT H H'):∀ {v:V} {e:Ex},a7 H v e->a7 H' v e
 | _,_,.num h=>.num (s _ _ h)
 | _,_,.truth h=>.truth (s _ _ h)
 | _,_,.name h=>.name (s _ _ h)
 | _,_,.not h a=>.not (s _ _ h) (a.kept s)
 | _,_,.op h a b=>.op (s _ _ h) (a.kept s) (b.kept s)
 | _,_,.of h a=>.of (s _ _ h) (a.kept s)
 | _,_,.many h l a=>.many (s _ _ h) (s _ _ l) (a.kept s)
theorem ExsAt.kept {H H':Hp} (s:cT H H'):∀ {vs:List V} {es:List Ex},ExsAt H vs es->ExsAt H' vs es
 | _,_,.nil=>.nil
 | _,_,.cons a b=>.cons (a.kept s) (b.kept s)
end
theorem _root_.L2.Same.tups {H H':Hp} (s:Same H H'):cT H H':=fun _ _ h=>s _ _ h
end Mm
namespace L2
open PySem PySem.Spec PyProof.Rows PySem.W
theorem y0 {X:Cx} {K:PySem.W.Frag} (hK:X.K=K):bL X (binaryOp .Add) (pN K):=by subst hK;exact wW
theorem mK:bootBuiltins "sorted"=some (.builtin "sorted"):=by decide +kernel
theorem qO (f g:Nat->Nat):∀ (l:List Nat) (p:Array Nat),(l.foldl (fun a k=>a.swapIfInBounds (f k) (g k)) p).size=p.size
 | [],_=>rfl
 | k::l,p=>by
  show (l.foldl _ (p.swapIfInBounds (f k) (g k))).size=_
  rw [qO f g l]
  simp
noncomputable def ca (m n:Nat) (p:Array Nat):Prop:=bp n p/\p.size=m
theorem ca.at {m n:Nat} {p:Array Nat} (h0:0<n) (h:ca m n p) (k:Nat):p.getD k 0<n:=h.1.at h0 k
theorem ca.rev {m n:Nat} {p:Array Nat} (h:ca m n p) (i j:Nat):ca m n (kas_rev p i j):=⟨h.1.rev i j,(kas_rev_size i j).trans h.2⟩
theorem ca.bubble {m n:Nat} {p:Array Nat} (h:ca m n p) (i d:Nat):ca m n (bubble p i d):=⟨h.1.bubble i d,by
 have:(PyProof.Rows.bubble p i d).size=p.size:=by unfold PyProof.Rows.bubble;exact qO (fun k=>i-k) (fun k=>i-k-1) _ _
 exact this.trans h.2⟩
theorem mL {zz n:Nat} (h0:0<n) {p:Array Nat} (h:ca zz n p):∀ k i,bj n (fun _=>True) (kas_asc p k i)
 | 0,i=>by unfold kas_asc;trivial
 | k+1,i=>by
  unfold kas_asc
  refine ⟨h.at h0 _,h.at h0 _,fun b=>?_⟩
  dsimp only
  split
  ·trivial
  ·exact mL h0 h k (i+1)
theorem kr {zz n:Nat} (h0:0<n):∀ k {p:Array Nat},ca zz n p->∀ i m,bj n (fun r:Array Nat × Nat × Nat=>ca zz n r.1) (kas_desc k p i m)
 | 0,p,h,i,m=>by unfold kas_desc;exact h
 | k+1,p,h,i,m=>by
  unfold kas_desc
  refine ⟨h.at h0 _,h.at h0 _,fun b=>?_⟩
  dsimp only
  split
  ·split
   ·exact kr h0 k (h.rev _ _) _ _
   ·exact kr h0 k h _ _
  ·refine ⟨h.at h0 _,h.at h0 _,fun b=>?_⟩
   dsimp only
   split
   ·exact h
   ·exact kr h0 k h _ _
theorem mM {zz n:Nat} (h0:0<n) {p:Array Nat} (h:ca zz n p) (k:Nat):∀ f l r,bj n (fun _=>True) (kas_place p k f l r)
 | 0,l,r=>by unfold kas_place;trivial
 | f+1,l,r=>by
  unfold kas_place
  split
  ·trivial
  ·refine ⟨h.at h0 _,h.at h0 _,fun b=>?_⟩
   dsimp only
   split
   ·exact mM h0 h k f _ _
   ·exact mM h0 h k f _ _
theorem qP {zz n:Nat} (h0:0<n):∀ k {p:Array Nat},ca zz n p->∀ i,bj n (ca zz n) (kas_bin k p i)
 | 0,p,h,i=>by unfold kas_bin;exact h
 | k+1,p,h,i=>by
  unfold kas_bin
  exact bj.bind ((mM h0 h i i 0 i).mono fun l _=>qP h0 k (h.bubble _ _) (i+1))
theorem qQ {zz n:Nat} (h0:0<n) {p:Array Nat} (h:ca zz n p) (i j:Nat):bj n (fun r:Nat × Array Nat=>ca zz n r.2) (kas_tail3 i j p):=by
 unfold kas_tail3
 exact bj.bind ((mL h0 (h.rev _ _) _ _).mono fun m _=>h.rev _ _)
theorem qR {zz n:Nat} (h0:0<n) {p:Array Nat} (h:ca zz n p) (i j:Nat):bj n (fun r:Nat × Array Nat=>ca zz n r.2) (kas_descPart i j p):=by
 unfold kas_descPart
 refine bj.bind ((kr h0 _ h _ _).mono fun r hr=>?_)
 try dsimp only
 split
 ·exact qQ h0 (hr.rev _ _) _ _
 ·exact qQ h0 hr _ _
theorem y6 {zz n:Nat} (h0:0<n) {p:Array Nat} (h:ca zz n p) (j:Nat):bj n (fun r:Nat × Array Nat=>ca zz n r.2) (kas_count j p):=by
 unfold kas_count
 refine bj.bind ((mL h0 h _ _).mono fun i _=>?_)
 try dsimp only
 split
 ·exact h
 ·split
  ·refine ⟨h.at h0 _,h.at h0 _,fun b=>?_⟩
   dsimp only
   split
   ·exact h
   ·exact qR h0 (h.rev _ _) _ _
  ·exact qR h0 h _ _
theorem y7 {n:Nat} (h0:0<n):bj n (ca n n) (kas_sort n):=by
 have h:ca n n (List.range n).toArray:=⟨fun x hx=>by simpa using hx,by simp⟩
 unfold kas_sort
 refine bj.bind ((y6 h0 h n).mono fun r hr=>?_)
 try dsimp only
 split
 ·exact qP h0 _ hr _
 ·exact hr
theorem qS (ds:List (List ae)):(b8 ds).length=ds.length:=by
 unfold b8
 split
 ·simp
 ·rw [QG]
  unfold dH
  exact (mB (P:=ca ds.length ds.length) (cY ds) _ (y7 (by omega))).2
theorem fO {α β:Type} (lt:Nat->Nat->Bool) (f:α->KasT β):∀ t:KasT α,b7 lt (t.bind f)=b7 lt (f (b7 lt t))
 | .ret a=>rfl
 | .ask i j k=>fO lt f (k (lt i j))
theorem jf {n i:Nat} (h:i<n):(List.toArray (List.range n)).getD i 0=i:=by simp [Array.getD,h]
theorem qT {lt:Nat->Nat->Bool} {n:Nat} (h:∀ i,i+1<n->lt (i+1) i=false):∀ f i,1<=i->i+f=n->b7 lt (kas_asc (List.toArray (List.range n)) f i)=n
 | 0,i,h1,h2=>by unfold kas_asc;exact h2
 | f+1,i,h1,h2=>by
  unfold kas_asc
  have e:lt ((List.toArray (List.range n)).getD i 0) ((List.toArray (List.range n)).getD (i-1) 0)=false:=by
   rw [jf (by omega),jf (by omega)]
   have:=h (i-1) (by omega)
   rw [Nat.sub_add_cancel h1] at this
   exact this
  show b7 lt (if lt _ _=true then _ else _)=n
  rw [e,if_neg (by decide)]
  exact qT h f (i+1) (by omega) (by omega)
theorem y9 {lt:Nat->Nat->Bool} {n:Nat} (hn:1<=n) (h:∀ i,i+1<n->lt (i+1) i=false):b7 lt (kas_sort n)=List.toArray (List.range n):=by
 unfold kas_sort kas_count
 rw [fO,fO,qT h (n-1) 1 (Qh _) (by omega)]
 simp only [beq_self_eq_true,if_true,b7,Nat.lt_irrefl,if_false]
theorem za {ds:List (List ae)} {xs:List V} (h64:ds.length<64) (hl:ds.length=xs.length) (h:∀ i,i+1<ds.length->bV (ds.getD (i+1) []) (ds.getD i [])=false):bq ds xs=xs:=by
 unfold bq b8
 split
 ·rw [hl,hW]
 ·unfold dH
  rw [y9 (by omega) (lt:=cY ds) h]
  show (List.range ds.length).map _=_
  rw [hl,hW]
end L2
namespace Mm
open PySem L2 PyProof.Rows
inductive Tr where
 | set (r:Nat) (n:Str) (e:Ex)
 | tell (r:Nat) (e:Ex)
 | iff (r:Nat) (e:Ex) (b o:List Tr)
 | whl (r:Nat) (e:Ex) (b:List Tr)
 | give (r:Nat) (e:Ex)
 | df (r:Nat) (n k:Str) (ps:List (Str × Str)) (b:List Tr)
 | kd (r:Nat) (n:Str) (ps:List (Str × Str))
noncomputable def Tr.row:Tr->Nat
 | .set r _ _=>r
 | .tell r _=>r
 | .iff r _ _ _=>r
 | .whl r _ _=>r
 | .give r _=>r
 | .df r _ _ _ _=>r
 | .kd r _ _=>r
mutual
noncomputable def Tr.deep:Tr->Nat
 | .set _ _ _=>0
 | .tell _ _=>0
 | .iff _ _ b o=>max (deeps b) (deeps o)
 | .whl _ _ b=>deeps b
 | .give _ _=>0
 | .df _ _ _ _ b=>deeps b
 | .kd _ _ _=>0
noncomputable def deeps:List Tr->Nat
 | []=>0
 | t::ts=>max (t.deep+1) (deeps ts)
end
inductive bF where
 | s (z:Str)
 | i (n:Nat)
 | e (x:Ex)
 | b (ts:List Tr)
 | p (ps:List (Str × Str))
noncomputable def Tr.parts:Tr->List bF
 | .set r n e=>[.s "set",.i r,.s n,.e e]
 | .tell r e=>[.s "tell",.i r,.e e]
 | .iff r e b o=>[.s "if",.i r,.e e,.b b,.b o]
 | .whl r e b=>[.s "while",.i r,.e e,.b b]
 | .give r e=>[.s "give",.i r,.e e]
 | .df r n k ps b=>[.s "def",.i r,.s n,.s k,.p ps,.b b]
 | .kd r n ps=>[.s "kind",.i r,.s n,.p ps]
theorem Tr.parts_len (t:Tr):t.parts.length<=6:=by cases t<;>simp [Tr.parts]
noncomputable def eC (H:Hp) (v:V) (ps:List (Str × Str)):Prop:=∃ (t:Addr) (us:List Addr),v=.ref t/\H t=some (.tup (us.map V.ref))/\us.length=ps.length/\∀ (i:Nat) (u:Addr) (q:Str × Str),us[i]?=some u->ps[i]?=some q->H u=some (.tup [.str q.1,.str q.2])
mutual
inductive bn (H:Hp) (sh:Bool):V->Tr->Prop where
 | mk {t:Addr} {vs:List V} {x:Tr}:H t=some (.tup vs)->PsAt H sh vs x.parts->bn H sh (.ref t) x
inductive PsAt (H:Hp) (sh:Bool):List V->List bF->Prop where
 | nil:PsAt H sh [] []
 | cons {v:V} {vs:List V} {p:bF} {ps:List bF}:PAt H sh v p->PsAt H sh vs ps->PsAt H sh (v::vs) (p::ps)
inductive PAt (H:Hp) (sh:Bool):V->bF->Prop where
 | s (z:Str):PAt H sh (.str z) (.s z)
 | i (n:Nat):PAt H sh (.int (n:Int)) (.i n)
 | e {v:V} {x:Ex}:a7 H v x->PAt H sh v (.e x)
 | b {l:Addr} {xs:List V} {ts:List Tr}:H l=some (.lst xs)->LAt H sh xs ts->PAt H sh (.ref l) (.b ts)
 | p {v:V} {ps:List (Str × Str)}:eC H v ps->PAt H sh v (.p ps)
inductive LAt (H:Hp) (sh:Bool):List V->List Tr->Prop where
 | nil:LAt H sh [] []
 | cons {v:V} {vs:List V} {t:Tr} {ts:List Tr}:OAt H sh v t->LAt H sh vs ts->LAt H sh (v::vs) (t::ts)
inductive OAt (H:Hp) (sh:Bool):V->Tr->Prop where
 | plain {v:V} {t:Tr}:sh=false->bn H sh v t->OAt H sh v t
 | shared {p:Addr} {v:V} {t:Tr}:sh=true->H p=some (.tup [.int 1,v])->bn H sh v t->OAt H sh (.ref p) t
end
structure bC (H H':Hp):Prop where
 t:∀ b xs,H b=some (.tup xs)->H' b=some (.tup xs)
 l:∀ b xs,H b=some (.lst xs)->H' b=some (.lst xs)
 z:∀ b o x,H b=some (.frz o x)->H' b=some (.frz o x)
theorem bC.refl (H:Hp):bC H H:=⟨fun _ _ h=>h,fun _ _ h=>h,fun _ _ _ h=>h⟩
theorem bC.trans {H H1 H2:Hp} (a:bC H H1) (b:bC H1 H2):bC H H2:=⟨fun _ _ h=>b.1 _ _ (a.1 _ _ h),fun _ _ h=>b.2 _ _ (a.2 _ _ h),fun _ _ _ h=>b.z _ _ _ (a.z _ _ _ h)⟩
theorem bC.seq {K:PySem.W.Frag} {H H':Hp} (s:bC H H') {a:Addr} {xs:List V} (h:am K H a xs):am K H' a xs:=by
 rcases h with (h | ⟨o,h⟩) | h
 ·exact .inl (.inl (s.2 _ _ h))
 ·exact .inl (.inr ⟨o,s.z _ _ _ h⟩)
 ·exact .inr h
theorem _root_.L2.Same.ls {H H':Hp} (s:Same H H'):bC H H':=⟨fun _ _ h=>s _ _ h,fun _ _ h=>s _ _ h,fun _ _ _ h=>s _ _ h⟩
theorem eC.kept {H H':Hp} {v:V} {ps:List (Str × Str)} (h:eC H v ps) (s:bC H H'):eC H' v ps:=by obtain ⟨t,us,a,b,c,d⟩:=h;exact ⟨t,us,a,s.1 _ _ b,c,fun i u q x y=>s.1 _ _ (d i u q x y)⟩
mutual
theorem bn.kept {H H':Hp} {sh:Bool} (s:bC H H'):∀ {v:V} {t:Tr},bn H sh v t->bn H' sh v t
 | _,_,.mk h a=>.mk (s.1 _ _ h) (a.kept s)
theorem PsAt.kept {H H':Hp} {sh:Bool} (s:bC H H'):∀ {vs:List V} {ps:List bF},PsAt H sh vs ps->PsAt H' sh vs ps
 | _,_,.nil=>.nil
 | _,_,.cons a b=>.cons (a.kept s) (b.kept s)
theorem PAt.kept {H H':Hp} {sh:Bool} (s:bC H H'):∀ {v:V} {p:bF},PAt H sh v p->PAt H' sh v p
 | _,_,.s z=>.s z
 | _,_,.i n=>.i n
 | _,_,.e a=>.e (a.kept s.1)
 | _,_,.b l a=>.b (s.2 _ _ l) (a.kept s)
 | _,_,.p a=>.p (a.kept s)
theorem LAt.kept {H H':Hp} {sh:Bool} (s:bC H H'):∀ {vs:List V} {ts:List Tr},LAt H sh vs ts->LAt H' sh vs ts
 | _,_,.nil=>.nil
 | _,_,.cons a b=>.cons (a.kept s) (b.kept s)
theorem OAt.kept {H H':Hp} {sh:Bool} (s:bC H H'):∀ {v:V} {t:Tr},OAt H sh v t->OAt H' sh v t
 | _,_,.plain e a=>.plain e (a.kept s)
 | _,_,.shared e h a=>.shared e (s.1 _ _ h) (a.kept s)
end
theorem PsAt.length {H:Hp} {sh:Bool}:∀ {vs:List V} {ps:List bF},PsAt H sh vs ps->vs.length=ps.length
 | _,_,.nil=>rfl
 | _,_,.cons _ b=>by simp [b.length]
theorem PsAt.get {H:Hp} {sh:Bool}:∀ {vs:List V} {ps:List bF},PsAt H sh vs ps->∀ {i:Nat} {v:V},vs[i]?=some v->∃ p,ps[i]?=some p/\PAt H sh v p
 | _,_,.nil,i,v,h=>by simp at h
 | _,_,.cons a b,0,v,h=>by
  cases (show some _=some v from h)
  exact ⟨_,rfl,a⟩
 | _,_,.cons a b,i+1,v,h=>b.get h
theorem PsAt.snoc {H:Hp} {sh:Bool}:∀ {vs:List V} {ps:List bF} {v:V} {p:bF},PsAt H sh vs ps->PAt H sh v p->PsAt H sh (vs++[v]) (ps++[p])
 | _,_,_,_,.nil,h=>.cons h .nil
 | _,_,_,_,.cons a b,h=>.cons a (b.snoc h)
theorem PAt.other {H:Hp} {sh sh':Bool} {v:V} {p:bF} (h:PAt H sh v p) (n:∀ ts,p≠.b ts):PAt H sh' v p:=by
 cases h with
 | s z=>exact .s z
 | i m=>exact .i m
 | e a=>exact .e a
 | b _ _=>exact absurd rfl (n _)
 | p a=>exact .p a
theorem a7.tup {H:Hp} {v:V} {e:Ex} (h:a7 H v e):∃ t xs,v=.ref t/\H t=some (.tup xs):=by
 cases h with
 | num h=>exact ⟨_,_,rfl,h⟩
 | truth h=>exact ⟨_,_,rfl,h⟩
 | name h=>exact ⟨_,_,rfl,h⟩
 | not h _=>exact ⟨_,_,rfl,h⟩
 | op h _ _=>exact ⟨_,_,rfl,h⟩
 | of h _=>exact ⟨_,_,rfl,h⟩
 | many h _ _=>exact ⟨_,_,rfl,h⟩
theorem zb (K:PySem.W.Frag):PySem.W.kitOne K (.type "int") (.type "list")=some false:=by rfl
theorem zc (K:PySem.W.Frag):PySem.W.kitOne K (.type "str") (.type "list")=some false:=by rfl
theorem qU (K:PySem.W.Frag):PySem.W.kitOne K (.type "tuple") (.type "list")=some false:=by rfl
theorem PAt.isL {K:PySem.W.Frag} {H:Hp} {sh:Bool} {v:V} {p:bF} (h:PAt H sh v p):(∃ ts l xs,p=.b ts/\v=.ref l/\H l=some (.lst xs)/\LAt H sh xs ts/\cQ K H v (.type "list")/\PySem.W.kitOne K (.type "list") (.type "list")=some true) ∨
  (∀ ts,p≠.b ts)/\∃ t,cQ K H v t/\PySem.W.kitOne K t (.type "list")=some false:=by
 cases h with
 | s z=>exact .inr ⟨fun _ h=>(nomatch h),_,.str z,zc K⟩
 | i n=>exact .inr ⟨fun _ h=>(nomatch h),_,.int _,zb K⟩
 | e a =>
  obtain ⟨t,xs,rfl,ht⟩:=a7.tup a
  exact .inr ⟨fun _ h=>(nomatch h),_,.tup ht,qU K⟩
 | b h a=>exact .inl ⟨_,_,_,rfl,rfl,h,a,.lst h,by rfl⟩
 | p a =>
  obtain ⟨t,us,rfl,ht,_⟩:=a
  exact .inr ⟨fun _ h=>(nomatch h),_,.tup ht,qU K⟩
theorem LAt.length {H:Hp} {sh:Bool}:∀ {vs:List V} {ts:List Tr},LAt H sh vs ts->vs.length=ts.length
 | _,_,.nil=>rfl
 | _,_,.cons _ b=>by simp [b.length]
theorem LAt.get {H:Hp} {sh:Bool}:∀ {vs:List V} {ts:List Tr},LAt H sh vs ts->∀ {i:Nat} {v:V},vs[i]?=some v->∃ t,ts[i]?=some t/\OAt H sh v t
 | _,_,.nil,i,v,h=>by simp at h
 | _,_,.cons a b,0,v,h=>by
  cases (show some _=some v from h)
  exact ⟨_,rfl,a⟩
 | _,_,.cons a b,i+1,v,h=>b.get h
theorem LAt.snoc {H:Hp} {sh:Bool}:∀ {vs:List V} {ts:List Tr} {v:V} {t:Tr},LAt H sh vs ts->OAt H sh v t->LAt H sh (vs++[v]) (ts++[t])
 | _,_,_,_,.nil,h=>.cons h .nil
 | _,_,_,_,.cons a b,h=>.cons a (b.snoc h)
mutual
noncomputable def Tr.cnt:Tr->Nat
 | .set _ _ _=>1
 | .tell _ _=>1
 | .iff _ _ b o=>1+(cnts b+cnts o)
 | .whl _ _ b=>1+cnts b
 | .give _ _=>1
 | .df _ _ _ _ b=>1+cnts b
 | .kd _ _ _=>1
noncomputable def cnts:List Tr->Nat
 | []=>0
 | t::ts=>t.cnt+cnts ts
end
mutual
noncomputable def Ex.deep:Ex->Nat
 | .num _=>0
 | .truth _=>0
 | .name _=>0
 | .not e=>e.deep+1
 | .op _ a b=>max a.deep b.deep+1
 | .of _ e=>e.deep+1
 | .many _ _ es=>cc es+1
noncomputable def cc:List Ex->Nat
 | []=>0
 | e::es=>max e.deep (cc es)
end
mutual
noncomputable def Ex.good:Ex->Prop
 | .num _=>True
 | .truth _=>True
 | .name _=>True
 | .not e=>e.good
 | .op w a b=>w∈hZ/\a.good/\b.good
 | .of _ e=>e.good
 | .many w _ es=>(w="do"∨w="new")/\es.length<=20/\mN es
noncomputable def mN:List Ex->Prop
 | []=>True
 | e::es=>e.good/\mN es
end
theorem mO:∀ {es:List Ex} {e:Ex},e∈es->e.deep<=cc es
 | x::es,e,h=>by
  rcases Qu h with z | z
  ·subst z;simp [cc];omega
  ·have:=mO z;simp [cc];omega
noncomputable def Ex.fit (e:Ex):Prop:=e.good/\e.deep<8
mutual
noncomputable def Tr.asc:Tr->Prop
 | .set _ _ e=>e.fit
 | .tell _ e=>e.fit
 | .iff _ e b o=>e.fit/\(b.length<=20/\ascs b)/\o.length<=20/\ascs o
 | .whl _ e b=>e.fit/\b.length<=20/\ascs b
 | .give _ e=>e.fit
 | .df _ _ _ ps b=>ps.length<=20/\b.length<=20/\ascs b
 | .kd _ _ ps=>ps.length<=20
noncomputable def ascs:List Tr->Prop
 | []=>True
 | t::ts=>t.asc/\(∀ u∈ts,t.row<u.row)/\ascs ts
end
theorem ExsAt.get {H:Hp}:∀ {vs:List V} {es:List Ex},ExsAt H vs es->∀ {i:Nat} {v:V},vs[i]?=some v->∃ e,es[i]?=some e/\a7 H v e
 | _,_,.nil,i,v,h=>by simp at h
 | _,_,.cons a b,0,v,h=>by
  cases (show some _=some v from h)
  exact ⟨_,rfl,a⟩
 | _,_,.cons a b,i+1,v,h=>ExsAt.get b h
theorem ExsAt.len {H:Hp}:∀ {vs:List V} {es:List Ex},ExsAt H vs es->vs.length=es.length
 | _,_,.nil=>rfl
 | _,_,.cons a b=>by simp [ExsAt.len b]
theorem jg {t:Tr} {ts:List Tr} (h:bF.b ts∈t.parts):deeps ts<=t.deep:=by
 cases t with
 | set r n e=>simp [Tr.parts] at h
 | tell r e=>simp [Tr.parts] at h
 | iff r e b o =>
  simp [Tr.parts] at h
  rcases h with h | h<;>subst h<;>simp [Tr.deep]<;>omega
 | whl r e b=>simp [Tr.parts] at h;subst h;simp [Tr.deep]
 | give r e=>simp [Tr.parts] at h
 | df r n k ps b=>simp [Tr.parts] at h;subst h;simp [Tr.deep]
 | kd r n ps=>simp [Tr.parts] at h
theorem jh {t:Tr} {ts:List Tr} (a:t.asc) (h:bF.b ts∈t.parts):ts.length<=20/\ascs ts:=by
 cases t with
 | set r n e=>simp [Tr.parts] at h
 | tell r e=>simp [Tr.parts] at h
 | iff r e b o =>
  simp [Tr.parts] at h
  rcases h with h | h<;>subst h
  ·exact a.2.1
  ·exact a.2.2
 | whl r e b=>simp [Tr.parts] at h;subst h;exact a.2
 | give r e=>simp [Tr.parts] at h
 | df r n k ps b=>simp [Tr.parts] at h;subst h;exact a.2
 | kd r n ps=>simp [Tr.parts] at h
theorem ku:∀ {ts:List Tr} {t:Tr},t∈ts->t.deep+1<=deeps ts
 | u::ts,t,h=>by
  rcases Qu h with z | z
  ·subst z;simp [deeps];omega
  ·have:=ku z;simp [deeps];omega
theorem ky:∀ {ts:List Tr} {t:Tr},ascs ts->t∈ts->t.asc
 | u::ts,t,a,h=>by
  rcases Qu h with z | z
  ·subst z;exact a.1
  ·exact ky a.2.2 z
end Mm
namespace L2
open PySem PySem.Spec PyProof.Rows
section
variable {prog:Program} {w:World} {A:Around} {E:Value->Shared->Prop} {s:Shared} {it d:Addr} {i ep:Nat} {es:Array DictEntry} {od:Obj}
theorem zd {Q:Option Value->Shared->Prop} (hit:s.heap.IsKeyIter it d i es.size ep) (hod:s.heap.get? d=some od) (hdd:od.data=.dict es ep) (hlt:i<es.size)
  (hQ:∀ h',h'.IsKeyIter it d (i+1) es.size ep->Heap.SameBut it s.heap h'->Q (some es[i].key) { s with heap:=h' }):wpAny (model prog w) A (pyNext (.ref it)) Q E s:=by
 have hT:=hit.typeIs
 obtain ⟨o,ho,hc,hd⟩:=hit
 unfold pyNext
 refine Qa (wpAny_attempt (wpAny_callSpecial?_slot (name:=Str.ofString "__next__") hT F.slot_dict_keyiterator_next (wpAny_call_entry F.slot_dict_keyiterator_next hT F.entry_dict_keyiterator_next ?_ (F.args_dict_keyiterator_next_1 _))))
 refine Qa (Qd (Qa (Qa ?_)))
 first | refine Qa (wpAny_typeNameOfWhole_keyiter hT (Qd (Qa (wpAny_fieldsOf ho hd ?_)))) | refine Qa (wpAny_typeNameOf_keyiter hT (Qd (Qa (wpAny_fieldsOf ho hd ?_))))
 simp only [show Builtin.Dict_items.ownsTuple "dict_keyiterator"=false by decide,Bool.false_eq_true,if_false]
 show wpAny _ _ (if (Value.ref d == Value.none)=true then _ else _) _ _ _
 rw [if_neg (show ¬ (Value.ref d == Value.none)=true from fun z=>by cases z)]
 refine Qa (Qd (Qa (wpAny_dictEntries hod hdd ?_)))
 rw [if_neg (by simp)]
 refine Qa (Qd (Qa (wpAny_dictEpoch hod hdd ?_)))
 rw [if_neg (by simp)]
 refine Qd ?_
 simp only [show ¬ ((i:Int)<0) by omega,if_false,Int.toNat_natCast,Array.getElem?_eq_getElem hlt]
 refine Qa ?_
 first | refine Qa (wpAny_typeNameOfWhole_keyiter hT (Qd (Qa (wpAny_isOneOf_keyiter hT ?_)))) | refine Qa (wpAny_typeNameOf_keyiter hT (Qd (Qa (wpAny_isOneOf_keyiter hT ?_))))
 show wpAny _ _ (setField (.ref it) 1 (rawInt ((i:Int)+1)) >>= _) _ _ _
 refine Qa (wpAny_setField ho hd (by simp) (Qa (wpAny_holding ?_)))
 have hi2:(s.heap.update it (Obj.mapFields (·.setIfInBounds 1 (rawInt ((i:Int)+1))))).IsKeyIter it d (i+1) es.size ep:=by
  refine ⟨_,Heap.get?_update_self _ ho (Obj.isFreed_of_fields (Obj.data_mapFields hd _)),(Obj.cls_mapFields ..).trans hc,?_⟩
  rw [Obj.data_mapFields hd]
  simp [rawInt]
 refine Qa (wpAny_isOneOf_keyiter (s:={ s with heap:=s.heap.update it (Obj.mapFields (·.setIfInBounds 1 (rawInt ((i:Int)+1)))) }) hi2.typeIs ?_)
 show wpAny _ _ (pure es[i].key) _ _ _
 exact Qd (Qd ⟨_,rfl,Qd (hQ _ hi2 (Heap.SameBut.update ..))⟩)
theorem ze {Q:Option Value->Shared->Prop} (hh:A.handled=none) (hit:s.heap.IsKeyIter it d i es.size ep) (hod:s.heap.get? d=some od) (hdd:od.data=.dict es ep) (hge:es.size<=i)
  (hQ:∀ h',Heap.ExtBut it s.heap h'->Q none { s with heap:=h' }):wpAny (model prog w) A (pyNext (.ref it)) Q E s:=by
 have hT:=hit.typeIs
 obtain ⟨o,ho,hc,hd⟩:=hit
 unfold pyNext
 refine Qa (wpAny_attempt (wpAny_callSpecial?_slot (name:=Str.ofString "__next__") hT F.slot_dict_keyiterator_next (wpAny_call_entry F.slot_dict_keyiterator_next hT F.entry_dict_keyiterator_next ?_ (F.args_dict_keyiterator_next_1 _))))
 refine Qa (Qd (Qa (Qa ?_)))
 first | refine Qa (wpAny_typeNameOfWhole_keyiter hT (Qd (Qa (wpAny_fieldsOf ho hd ?_)))) | refine Qa (wpAny_typeNameOf_keyiter hT (Qd (Qa (wpAny_fieldsOf ho hd ?_))))
 simp only [show Builtin.Dict_items.ownsTuple "dict_keyiterator"=false by decide,Bool.false_eq_true,if_false]
 show wpAny _ _ (if (Value.ref d == Value.none)=true then _ else _) _ _ _
 rw [if_neg (show ¬ (Value.ref d == Value.none)=true from fun z=>by cases z)]
 refine Qa (Qd (Qa (wpAny_dictEntries hod hdd ?_)))
 rw [if_neg (by simp)]
 refine Qa (Qd (Qa (wpAny_dictEpoch hod hdd ?_)))
 rw [if_neg (by simp)]
 refine Qd ?_
 simp only [show ¬ ((i:Int)<0) by omega,if_false,Int.toNat_natCast,Array.getElem?_eq_none hge]
 refine Qa ?_
 first | refine Qa (wpAny_typeNameOfWhole_keyiter hT (Qd ?_)) | refine Qa (wpAny_typeNameOf_keyiter hT (Qd ?_))
 show wpAny _ _ (setField (.ref it) 0 .none >>= _) _ _ _
 refine Qa (wpAny_setField ho hd (by simp) ?_)
 show wpAny _ _ (newExc (.type "StopIteration") [] >>= _) _ _ _
 refine Qa ?_
 simp only [newExc,newTuple]
 refine Qa (wpAny_newObj_type (Qa (m:=firstArgMember _ _) (wpAny_of_eq (a:=Value.none) (by first | rfl | (simp only [firstArgMember];rfl)) (wpAny_newObj_type ?_ (by size_fits)))) (by size_fits))
 simp only [raiseNew]
 refine Qa (wpAny_handled ?_)
 rw [show A.in1.handled=none from hh]
 refine (Qa (Qd (wpAny_throw ?_)))
 refine (Qa (wpAny_isInstance (T:="StopIteration") (b:=true) ⟨_,Qj _ rfl,rfl⟩ isSubtype_stop (Qd (hQ _ ?_))))
 exact ((Heap.SameBut.update ..).extBut.push _).push _
theorem zf {Q:Value->Shared->Prop} (hT:s.TypeIs (.ref d) "dict") (hd:(d == sysModules)=false) (hod:s.heap.get? d=some od) (hdd:od.data=.dict es ep)
  (hQ:Q (.ref s.heap.objs.size) { s with heap:=s.heap.push { cls:=.type "dict_keyiterator",data:=.fields #[.ref d,.int 0 0,.int es.size 0,.int ep 0] } }):wpAny (model prog w) A (pyIter (.ref d)) Q E s:=by
 refine wpAny_pyIter_slot hT F.slot_dict_iter (wpAny_call_entry F.slot_dict_iter hT F.entry_dict_iter ?_ (F.args_dict_iter_1 _))
 unfold Builtin.«dict.__iter__» Builtin.Dict.dictSlotNone
 refine Qa (Qa (wpAny_notOrdered_dict hT ?_))
 show wpAny _ _ (pure (Value.ref d)) _ _ _
 refine Qd ?_
 show wpAny _ _ (Builtin.Dict.showsAll d >>= _) _ _ _
 unfold Builtin.Dict.showsAll
 rw [if_neg (show ¬ (d == sysModules)=true by rw [hd];decide)]
 refine Qa (Qd (Qa (wpAny_dictEntries hod hdd (Qa (wpAny_dictEpoch hod hdd ?_)))))
 refine Qa (wpAny_newObj_type (Qd ⟨_,rfl,"dict_keyiterator",_,⟨_,Qj _ rfl,rfl⟩,F.slot_dict_keyiterator_next.lookup,?_⟩))
 simpa [rawInt] using hQ
end
theorem zg {P:Program} {w:World} {H:Hp} {h:Heap} {d:Addr} {od:Obj} {kvs:List (List ae × V)} {es:Array DictEntry} {ep:Nat} (ok:bA P w H h) (e:H d=some (.frz od (.dT kvs))) (hdd:od.data=.dict es ep) :
  h.get? d=some od/\es.size=kvs.length/\∀ (i:Nat) (hi:i<es.size) kv,kvs[i]?=some kv->∃ b,es[i].key=.ref b/\H b=some (.tup (kv.1.map kV)):=by
 obtain ⟨hod,_,_,xs,r,o,es',ep',h1,_,h3,h4,_⟩:=(show bz P w H h d (.frz od (.dT kvs)) from ok d _ e)
 rw [hod] at h1
 cases h1
 rw [hdd] at h3
 cases h3
 have hl:es.size=xs.length:=by rw [<- QG,h4,Qf]
 refine ⟨hod,by rw [hl];exact (Paired.length r).symm,fun i hi kv hk=>?_⟩
 have hix:i<xs.length:=by omega
 have ek:es[i]=entryOfKey (tupleKind (bK P w)) xs[i]:=by
  have:=congrArg (fun l=>l[i]?) h4
  simp only [Qk,Qb hix] at this
  rw [Array.getElem?_toList,Array.getElem?_eq_getElem hi] at this
  exact Qo this
 have pr:∀ {l:List (List ae × V)} {m:List (List ae × Addr × Value)},Paired (fun (p:List ae × V) (q:List ae × Addr × Value)=>p.1=q.1/\H q.2.1=some (.tup (p.1.map kV))/\RelV p.2 q.2.2) l m->∀ (i:Nat) p q,l[i]?=some p->m[i]?=some q->H q.2.1=some (.tup (p.1.map kV)):=by
  intro l m pq
  induction pq with
  | nil=>intro i p q h;simp at h
  | cons hq _ ih =>
   intro i p q h1 h2
   cases i with
   | zero =>
    simp only [List.getElem?_cons_zero,Option.some.injEq] at h1 h2
    subst h1 h2
    exact hq.2.1
   | succ j =>
    simp only [List.getElem?_cons_succ] at h1 h2
    exact ih j p q h1 h2
 exact ⟨xs[i].2.1,by rw [ek];rfl,pr r i kv xs[i] hk (Qb hix)⟩
section
variable {X:Cx} {tg:Expr}
theorem Inv.freeze {pins:List (Addr × Obj)} {σ:St} {H:Hp} {s:Shared} {d:Addr} {kvs:List (List ae × V)} {od:Obj} (I:Inv X pins σ H s) (e:H d=some (.dT kvs)) (ho:s.heap.get? d=some od):Inv X pins σ (af H d (.frz od (.dT kvs))) s:=by
 have h0:∀ {t:Nat},Inv X pins σ (af H d (.frz od (.dT kvs))) { s with heap:=s.heap,toks:=t }:=by
  intro t
  refine I.write (x:=d) (e:=d) (by rw [e];trivial) (.inl rfl) (fun b q hb z=>z) ⟨_,ho⟩ ⟨ho,?_⟩
  have q:=I.hok d _ e
  exact q.stay (fun _ _ _ z=>z) (fun c z=>by rw [ar (fun y=>by rw [y,e] at z;cases z)];exact z) fun c xs z=>by rw [ar (fun y=>by rw [y,e] at z;cases z)];exact z
 exact h0 (t:=s.toks)
end
end L2
namespace L2
open PySem PySem.Spec PyProof.Rows PySem.W
theorem zh {prog:Program} {w:World} {d:Addr} {od:Obj} {es:Array DictEntry} {ep:Nat} (hc:od.cls=.type "dict") (hdd:od.data=.dict es ep) (hs:(d == sysModules)=false) :
  KdlSrc prog w "dict" d d es.size (fun i v=>∃ h:i<es.size,v=es[i].key) (fun h=>h.get? d=some od) where
 type:=fun s h=>⟨od,h,hc⟩
 there:=fun h e=>⟨Qm e,Qm e⟩
 keep:=fun h h' e k=>k d (.inl rfl) _ e
 notList:=by decide
 notTuple:=by decide
 hint:=fun A E s Q h q=>kdl_hint_dict ⟨od,h,hc⟩ q
 iter:=fun A s hh h=>by
  refine ⟨_,fun i h'=>h'.IsKeyIter s.heap.objs.size d i es.size ep/\h'.get? d=some od,fun E Q q=>zf ⟨od,h,hc⟩ hs h hdd q,?_,?_⟩
  ·have hne:d≠s.heap.objs.size:=Qt (Qm h)
   refine ⟨fun b hb=>List.mem_cons.mpr (.inl (by simpa using hb)),fun i h1 h2 st k=>⟨st.1.at fun o e=>k _ (by simp) o e,k d (by simp) _ st.2⟩,?_,?_,?_⟩
   ·intro i s1 Q E hi st q
    refine zd st.1 st.2 hdd hi fun h' st' sb=>?_
    exact q _ h' s1.toks ⟨hi,rfl⟩ ⟨st',(sb.2 d hne).trans st.2⟩ fun b o hb e=>(sb.2 b (by simpa using hb)).trans e
   ·intro s1 Q E st q
    refine ze hh st.1 st.2 hdd (Qh _) fun h' eb=>?_
    exact q h' s1.toks fun b o hb e=>eb b o (by simpa using hb) e
   ·intro i s1 Q E st q
    exact wpAny_pyIter_keyiter st.1 q
  ·exact ⟨⟨_,Qj _ rfl,rfl,rfl⟩,Qe _ h⟩
section
variable {X:Cx}
theorem zi (hc:X.calm=true):c9 X (.builtin "sorted") (fun as H Q=>∃ (d:Addr) (kvs:List (List ae × V)) (sh:List Bool),as=[.ref d]/\H d=some (.dT kvs)/\kvs.length<64/\(∀ kv∈kvs,kv.1.map b9=sh)/\sh≠[] /\
  ∀ p xs,H p=none->bQ H xs (kvs.map (·.1))->Q (.ref p) (af H p (.lst (bq (kvs.map (·.1)) xs)))):=by
 intro pins s σ H as us Q I r h
 obtain ⟨d,kvs,sh,rfl,hd,h64,hsh,hne,q⟩:=h
 obtain ⟨u,rfl,ru⟩:=vals1 r
 cases (show u=Value.ref d from ru)
 obtain ⟨z,hs,ys,rel,dd⟩:=qo I.hok hd
 have hT:=dd.typeIs
 obtain ⟨od,es,ep,ho,hcl,hdat,_⟩:=dd
 have hcl:od.cls=.type "dict":=by
  obtain ⟨o,e,c⟩:=hT
  rw [ho] at e
  cases e
  exact c
 have If:=I.freeze hd ho
 obtain ⟨_,hsz,hat⟩:=zg If.hok aj hdat
 refine Calls.call_function_entry kind_sorted plain_sorted entry_sorted (args_sorted1 _) ?_
 unfold Builtin.«sorted»
 refine Qa (m:=checkCount "sorted" 1 1 _) (Qd ?_)
 refine Qa (kdu_collect (zh hcl hdat hs) (I.ok.hd hc) ho (by rw [hsz,sizeLine_eq];omega) fun h1 tk acc hk hacc=>?_)
 obtain ⟨hal,hav⟩:=hacc
 have I1:Inv X pins σ H { s with heap:=h1,toks:=tk }:=I.kept (t':=tk) hk
 have each:∀ (i:Nat) (v:Value),acc.toList[i]?=some v->∃ b kv,v=.ref b/\kvs[i]?=some kv/\H b=some (.tup (kv.1.map kV)):=fun i v hv=>by
  rw [Array.getElem?_toList] at hv
  obtain ⟨hi,rfl⟩:=hav i v hv
  have hik:i<kvs.length:=by rw [<- hsz];exact hi
  obtain ⟨b,e1,e2⟩:=hat i hi kvs[i] (Qb hik)
  have hbd:b≠d:=fun z=>by rw [z,aj] at e2;cases e2
  rw [ar hbd] at e2
  exact ⟨b,kvs[i],e1,Qb hik,e2⟩
 obtain ⟨xs,rv,hxt⟩:∃ xs:List V,aw xs acc.toList/\∀ (i:Nat) (x:V),xs[i]?=some x->∃ b kv,x=.ref b/\kvs[i]?=some kv/\H b=some (.tup (kv.1.map kV)):=by
  have go:∀ (vs:List Value) (f:Nat->Option (List ae × V)),(∀ (i:Nat) (v:Value),vs[i]?=some v->∃ b kv,v=.ref b/\f i=some kv/\H b=some (.tup (kv.1.map kV)))->∃ xs:List V,aw xs vs/\∀ (i:Nat) (x:V),xs[i]?=some x->∃ b kv,x=.ref b/\f i=some kv/\H b=some (.tup (kv.1.map kV)):=by
   intro vs
   induction vs with
   | nil=>intro f _;exact ⟨[],.nil,fun i x h=>by simp at h⟩
   | cons v vs ih =>
    intro f h
    obtain ⟨b,kv,rfl,e2,e3⟩:=h 0 v rfl
    obtain ⟨xs,r1,r2⟩:=ih (fun i=>f (i+1)) fun i v hv=>h (i+1) v hv
    refine ⟨.ref b::xs,.cons rfl r1,fun i x hx=>?_⟩
    cases i with
    | zero =>
     have:V.ref b=x:=by simpa using hx
     subst this
     exact ⟨b,kv,rfl,e2,e3⟩
    | succ i=>exact r2 i x hx
  exact go acc.toList (fun i=>kvs[i]?) each
 have hxl:xs.length=kvs.length:=by rw [rv.length,QG,hal,hsz]
 have ht:bQ H xs (kvs.map (·.1)):=⟨by rw [hxl,Qf],fun i x k hx hk=>by
  obtain ⟨b,kv,e1,e2,e3⟩:=hxt i x hx
  rw [Qk,e2] at hk
  have:kv.1=k:=by simpa using hk
  exact ⟨b,e1,by rw [<- this];exact e3⟩⟩
 have hsh2:∀ k∈kvs.map (·.1),k.map b9=sh:=fun k hk=>by
  obtain ⟨kv,h1,rfl⟩:=QE hk
  exact hsh kv h1
 have h64x:xs.length<64:=by rw [hxl];exact h64
 generalize acc.toList=its at rv
 have hil:its.length=xs.length:=rv.length.symm
 have hz:its.length<=sizeLine:=by rw [sizeLine_eq];omega
 refine Qa (wpAny_newList (s:={ s with heap:=h1,toks:=tk }) ?_ hz)
 have hoL:(h1.push (seqObj "list" its.toArray 0)).get? h1.objs.size=some (seqObj "list" its.toArray 0):=Qj _ rfl
 have I2:Inv X pins σ H { s with heap:=h1.push (seqObj "list" its.toArray 0),toks:=tk }:=I1.kept (t':=tk) fun b o e=>Qe _ e
 have fL:ck X pins H h1.objs.size:=I1.fpOk (Qh _) (I1.hok.fresh (Qh _))
 change wpAny _ _ _ _ _ { s with heap:=h1.push (seqObj "list" its.toArray 0),toks:=tk }
 dsimp only
 generalize h1.push (seqObj "list" its.toArray 0)=h2 at hoL I2
 generalize h1.objs.size=L at hoL fL
 refine Qa (wpAny_holding (wpAny_call_entry (s:={ s with heap:=h2,toks:=tk }) slot_list_sort ⟨_,hoL,rfl⟩ entry_list_sort (qL I2 fL hoL rv (by rw [<- hil];exact hz) h64x ht hsh2 hne fun s' out n' I' hoa hos vy=>⟨_,rfl,?_⟩) (args_list_sort _)))
 refine Qd ⟨_,rfl,.ref L,af H L (.lst (bq (kvs.map (·.1)) xs)),I'.adopt fL ?_,rfl,q L xs fL.1 ht⟩
 have hyl:(bq (kvs.map (·.1)) xs).length<=sizeLine:=by rw [vy.length,QG];exact hos
 exact ⟨hyl,out.toList,n',vy,by simpa using hoa⟩
end
end L2
namespace L2
open PySem PySem.Spec PyProof.Rows
theorem ji {X:Cx} {K:PySem.W.Frag} {n:String} (hK:X.K=K):c9 X (.builtin "isinstance") (fun xs H Q=>∃ x t b,xs=[x,.ty n]/\cQ K H x t/\PySem.W.kitOne K t (.type n)=some b/\Q (.bl b) H):=by subst hK;exact xC
end L2
namespace L2
end L2
namespace Mm
end Mm
namespace L2
open PySem PySem.Spec PyProof.Rows
section
variable {M:Model} {A:Around} {E:Value->Shared->Prop} {s:Shared}
end
end L2
namespace L2
open PySem PySem.Spec PyProof.Rows
section
variable {prog:Program} {w:World} {A:Around} {E:Value->Shared->Prop} {s:Shared} {K:PySem.W.Frag} {x C:Addr} {name:Str} {v:Value}
end
section
variable {prog:Program} {w:World} {A:Around} {E:Value->Shared->Prop} {h:Heap} {g:Array GenState} {d:Drawn} {t:Nat} {os:OsState}
variable {nm q:Str} {C N:Addr} {bs bm bmB:List Value} {hdct:Bool} {sn:List Str} {sub:List Value} {ab:Bool} {col:Option Bool} {dd:Option Addr} {k0 k1 k2 k3 k5:Option Value} {B newId initId:String}
end
section
variable {M:Model} {A:Around} {E:Value->Shared->Prop} {env:Env}
variable {nm q:Str} {C N:Addr} {bs bm:List Value} {hdct:Bool} {sn:List Str} {sub:List Value} {ab:Bool} {col:Option Bool} {dd:Option Addr} {k0 k1 k2 k3 k5:Option Value} {newId:String}
end
end L2
namespace L2
open PySem PySem.Spec PyProof.Rows
section
variable {prog:Program} {w:World} {A:Around} {E:Value->Shared->Prop} {s:Shared} {env:Env}
variable {nm q:Str} {C N:Addr} {bs bm bmB:List Value} {hdct:Bool} {sn:List Str} {sub:List Value} {ab:Bool} {col:Option Bool} {dd:Option Addr} {k0 k1 k2 k3 k5:Option Value} {B newId initId:String}
end
section
variable {X:Cx} {pins:List (Addr × Obj)} {σ:St} {H H':Hp} {s s':Shared} {B h'':Heap}
end
section
variable {P:Program} {w:World} {K:PySem.W.Frag} {mg:Str->Option Value} {base:Heap} {N:List Str} {qual:Str} {scope:Scope} {f:Addr} {cd:Value} {A:Around} {outer:List Env} {s₀:Shared} {H₀:Hp} {E:XK}
end
section
variable {X:Cx} {pins:List (Addr × Obj)} {σ:St} {H:Hp} {s:Shared} {a C t dx:Addr} {fs:List (Str × V)} {f:Str} {A:Around} {E:Value->Shared->Prop}
end
section
variable {X:Cx} {o e value:Expr} {f:Str} {pos pos' tpos:Pos} {ta tv:TE}
end
section
variable {X:Cx}
end
end L2
namespace L2
open PySem PySem.Spec PyProof.Rows
section
variable {P:Program} {w:World} {K:PySem.W.Frag} {mg:Str->Option Value} {base:Heap} {N:List Str} {qual:Str} {scope:Scope} {f:Addr} {cd:Value} {A:Around} {outer:List Env} {s₀:Shared} {H₀:Hp} {E:XK}
end
section
variable {X:Cx}
end
end L2
namespace L2
open PySem PySem.Spec PyProof.Rows
section
variable {P:Program} {w:World} {K:PySem.W.Frag} {mg:Str->Option Value} {base:Heap}
end
section
variable {X:Cx}
end
section
variable {X:Cx}
end
end L2
namespace L2
open PySem PySem.Spec PyProof.Rows
end L2
namespace L2
open PySem PySem.Spec PyProof.Rows PySem.W
section
variable {X:Cx}
theorem qV {α β:Type} {R:α->β->Prop}:∀ {as:List α} {bs:List β},Paired R as bs->∀ (i:Nat) (b:β),bs[i]?=some b->∃ a,as[i]?=some a/\R a b
 | _,_,.nil,i,b,h=>by simp at h
 | _,_,.cons r rs,0,b,h=>by
  have:=Qo h
  subst this
  exact ⟨_,rfl,r⟩
 | _,_,.cons r rs,i+1,b,h=>qV rs i b (by simpa using h)
theorem zj (hc:X.calm=true):c9 X (.type "list") (fun as H Q=>∃ (d:Addr) (kvs:List (ae × V)),as=[.ref d]/\H d=some (.dK kvs)/\∀ q,H q=none->Q (.ref q) (af H q (.lst (kvs.map fun kv=>kV kv.1)))):=by
 intro pins s σ H as us Q I r h
 obtain ⟨d,kvs,rfl,hd,q⟩:=h
 obtain ⟨u,rfl,ru⟩:=vals1 r
 cases (show u=Value.ref d from ru)
 obtain ⟨hz,hs,vs,rel,dd⟩:=I.hok d _ hd
 obtain ⟨ep,hat⟩:=dd.dictAt
 have hlv:kvs.length=vs.length:=Paired.length rel
 refine kdl_call (kdl_dict (kvs:=vs) (ep:=ep) hs) (I.ok.hd hc) hat (by rw [<- hlv];exact hz) fun h' tk acc' c' hk hS hacc=>?_
 refine ⟨.ref s.heap.objs.size,_,I.laid (t':=tk) (o:=.lst (kvs.map fun kv=>kV kv.1)) hk (Qh _) ⟨by rw [Qf];exact hz,acc'.toList,c',?_,by simpa using hS⟩,rfl,q _ I.fresh⟩
 have go:∀ (kvs:List (ae × V)) (l:List Value),l.length=kvs.length->(∀ (i:Nat) (v:Value) (kv:ae × V),l[i]?=some v->kvs[i]?=some kv->RelV (kV kv.1) v)->aw (kvs.map fun kv=>kV kv.1) l:=by
  intro kvs
  induction kvs with
  | nil=>intro l hl _;rw [List.eq_nil_of_length_eq_zero hl];exact .nil
  | cons kv kvs ih =>
   intro l hl h
   match l,hl with
   | v::l,hl=>exact .cons (h 0 v kv rfl rfl) (ih l (by simpa using hl) fun i v kv a b=>h (i+1) v kv a b)
 refine go kvs acc'.toList (by rw [QG,hacc.1,hlv]) fun i v kv hv hkv=>?_
 rw [Array.getElem?_toList] at hv
 obtain ⟨k,x,e1,e2⟩:=hacc.2 i v hv
 obtain ⟨kv',e3,e4,_⟩:=qV rel i _ e1
 rw [hkv] at e3
 have e3:=Qo e3
 subst e3
 rw [e4]
 rcases eG e2 with ⟨j,t,ek,rfl⟩ | ⟨z,t,ek,rfl⟩
 ·have ek:k=Sum.inl j:=ek
  rw [ek];exact ⟨t,rfl⟩
 ·have ek:k=Sum.inr z:=ek
  rw [ek];exact ⟨t,rfl⟩
end
end L2
namespace L2
open PySem PySem.Spec PyProof.Rows
section
variable {X:Cx}
theorem zk (hu:X.A.units+1<cLine):bL X (compareOp .NotEq) (fun x y H Q=>∃ (a b:Addr) (kvs:List (ae × V)),x=.ref a/\y=.ref b/\H a=some (.dK kvs)/\H b=some (.dK [])/\Q (.bl (!kvs.isEmpty)) H):=by
 intro pins s σ H x y v u Q I rx ry h
 obtain ⟨a,b,kvs,rfl,rfl,ha,hb,q⟩:=h
 cases (show v=Value.ref a from rx)
 cases (show u=Value.ref b from ry)
 obtain ⟨_,na,va,ka,da⟩:=(show bz X.prog X.w H s.heap a (.dK kvs) from I.hok a _ ha)
 obtain ⟨_,nb,vb,kb,db⟩:=(show bz X.prog X.w H s.heap b (.dK []) from I.hok b _ hb)
 cases kb
 refine PySem.W.keq_ne (r:=true) na nb da db (by omega) (fun e=>?_) ⟨.bl _,H,I,?_,q⟩
 ·have:va=[]:=List.length_eq_zero_iff.mp (by simpa using e)
  subst this
  exact .nil
 ·have e:=ka.length
  show Value.bool _=Value.bool _
  cases kvs with
  | nil =>
   have:va=[]:=List.length_eq_zero_iff.mp (by simpa using e.symm)
   subst this;rfl
  | cons p r =>
   cases va with
   | nil=>simp at e
   | cons z va=>rfl
end
end L2
namespace L2
open PySem PySem.Spec PyProof.Rows
noncomputable def dI (σ:List Str) (v:Str):List Str:=if σ.any (· == v) then σ else σ++[v]
noncomputable def dz (val:Nat->Str) (i:Nat):List Str:=((List.range i).map val).foldl dI []
theorem kB (val:Nat->Str) (i:Nat):dz val (i+1)=dI (dz val i) (val i):=by
 unfold dz;rw [List.range_succ,QK,List.foldl_append];rfl
theorem zm (σ:List Str) (v:Str):(dI σ v).length=if σ.any (· == v) then σ.length else σ.length+1:=by
 unfold dI;split<;>simp
theorem qW (val:Nat->Str):∀ i,(dz val i).length<=i
 | 0=>Qh _
 | i+1=>by
  have ih:=qW val i
  rw [kB,zm]
  split<;>omega
theorem qX:∀ {vs:List Value} {zs:List Str},StrsAre vs zs->∀ (i:Nat) (v:Value),vs[i]?=some v->∃ t,v=.str (zs.getD i ⟨#[]⟩) t
 | _,_,.nil,i,v,h=>by simp at h
 | _,_,.cons n t hr,0,v,h=>by simp at h;exact ⟨t,by rw [<- h];rfl⟩
 | _,_,.cons n t hr,i+1,v,h=>by
  obtain ⟨t',e⟩:=qX hr i v (by simpa using h)
  exact ⟨t',by rw [e];rfl⟩
section
variable {prog:Program} {w:World} {A:Around} {R:Result->Shared->Prop} {I:Addr} {fp wr:List Addr} {G:Array GenState->Array GenState->Prop} {n:Nat} {P:Nat->Value->Prop} {St:Nat->Shared->Prop}
end
noncomputable abbrev newSet (led:Bool):Obj:={ cls:=.type "set",dict:=none,data:=.set #[] 0 (.fresh 0 0 led) }
section
variable {prog:Program} {w:World} {A:Around} {E:Value->Shared->Prop} {s:Shared}
end
theorem qY:∀ {zs:List Str} {us:List Value},aw (zs.map V.str) us->StrsAre us zs
 | [],_,r=>by cases r;exact .nil
 | z::zs,_,r=>by
  cases r with
  | cons r1 r2 =>
   obtain ⟨t,rfl⟩:=(show ∃ t,_=Value.str z t from r1)
   exact .cons z t (qY r2)
section
variable {X:Cx}
end
end L2
namespace L2
open PySem PySem.Spec PyProof.Rows
noncomputable def Tb (t t':SetTable):Prop:=t'.led=t.led/\(t'.plain=true->t.plain=true)
theorem Tb.refl (t:SetTable):Tb t t:=⟨rfl,id⟩
theorem Tb.trans {a b c:SetTable} (h:Tb a b) (g:Tb b c):Tb a c:=⟨g.1.trans h.1,fun q=>h.2 (g.2 q)⟩
theorem kC (t:SetTable) (n:Nat):Tb t (t.standIn n):=⟨rfl,fun q=>by cases q⟩
theorem zn (t:SetTable) (n:Nat):Tb t (t.orStandIn n):=by
 unfold SetTable.orStandIn
 split
 ·exact .refl _
 ·exact kC _ _
theorem zo (t:SetTable) (es:Array (Int × Value)) (h:Int) (x:Value):Tb t (layNew t es h x).2.1:=by
 unfold layNew
 split
 ·exact Tb.trans (b:=(t.put _).1) ⟨rfl,id⟩ (zn _ _)
 ·exact kC _ _
theorem zp {mask finger moves:Nat} {led plain:Bool} {hs:Array Int} {t':SetTable} {o:Array Nat} (h:SetTable.laid mask finger moves led plain hs=some (t',o)):t'.led=led/\t'.plain=plain:=by
 unfold SetTable.laid at h
 cases e:SetTable.layClean mask hs with
 | none=>rw [e] at h;cases h
 | some ow=>rw [e] at h;cases h;exact ⟨rfl,rfl⟩
theorem zq (t:SetTable) (es:Array (Int × Value)) (w:Nat):Tb t (relayAll t es w).2.1:=by
 unfold relayAll
 split
 ·rename_i t' o e
  obtain ⟨h1,h2⟩:=zp e
  dsimp only
  split
  ·exact ⟨h1,fun q=>by rw [<- h2];exact q⟩
  ·exact kC _ _
 ·exact kC _ _
noncomputable def gr:Value->Str
 | .str z _=>z
 | _=>⟨#[]⟩
section
variable {prog:Program} {w:World}
noncomputable def h8 (prog:Program) (w:World) (es:List (Int × Value)):Prop:=∀ e∈es,∃ z u,e.2=.str z u/\e.1=(strKind prog w).hash z
theorem h8.elems {es:List (Int × Value)} (h:h8 prog w es):ElemsOf (strKind prog w) es:=fun e he=>by
 obtain ⟨z,u,e1,e2⟩:=h e he
 exact ⟨⟨z,by rw [e1];exact strKind_is _ _ _ _,e2⟩,by rw [e1];rfl⟩
structure cq (prog:Program) (w:World) (h:Heap) (a:Addr) (zs:List Str) (led:Bool) (o:Obj) (es:Array (Int × Value)) (ep:Nat) (t:SetTable):Prop where
 ob:h.get? a=some o
 ex:o.ExactSet
 da:o.data=.set es ep t
 el:h8 prog w es.toList
 pm:(es.toList.map fun e=>gr e.2).Perm zs
 sz:es.size<scanBound
 ft:t.fits es.size=true
 ld:t.led=led
 pl:es.size=0∨t.plain=false
theorem cq.size {h:Heap} {a:Addr} {zs:List Str} {led:Bool} {o:Obj} {es:Array (Int × Value)} {ep:Nat} {t:SetTable} (T:cq prog w h a zs led o es ep t):es.size=zs.length:=by
 have:=T.pm.length_eq
 simpa using this
theorem qZ {z y:Str} {u:Tok}:(strKind prog w).is z (.str y u)=decide (z=y):=KeyKind.is_eq_decide (strKind_is _ _ _ _) z
theorem cq.find {h:Heap} {a:Addr} {zs:List Str} {led:Bool} {o:Obj} {es:Array (Int × Value)} {ep:Nat} {t:SetTable} (T:cq prog w h a zs led o es ep t) (z:Str):(∃ e∈es.toList,(strKind prog w).is z e.2=true)↔z∈zs:=by
 rw [<- T.pm.mem_iff,List.mem_map]
 constructor
 ·rintro ⟨e,he,q⟩
  obtain ⟨y,u,e1,_⟩:=T.el e he
  rw [e1,qZ] at q
  exact ⟨e,he,by rw [e1];exact (of_decide_eq_true q).symm⟩
 ·rintro ⟨e,he,q⟩
  obtain ⟨y,u,e1,_⟩:=T.el e he
  rw [e1] at q
  refine ⟨e,he,?_⟩
  rw [e1,qZ]
  exact Qp q.symm
theorem cq.store {h:Heap} {a:Addr} {zs zs':List Str} {led:Bool} {o:Obj} {es es':Array (Int × Value)} {ep:Nat} {t t':SetTable} (T:cq prog w h a zs led o es ep t) (el:h8 prog w es'.toList) (pm:(es'.toList.map fun e=>gr e.2).Perm zs') (sz:es'.size<scanBound) (ft:t'.fits es'.size=true) (ld:t'.led=led) (pl:t'.plain=false) :
  cq prog w (h.update a (Obj.putSet es' t')) a zs' led { o with data:=.set es' (ep+1) t' } es' (ep+1) t' :=
 ⟨(SetOf_store (knd:=strKind prog w) (S':=fun k=>(es'.toList.any fun e=>(strKind prog w).is k e.2)) T.ob T.ex T.da el.elems (fun k=>List.any_eq_true) sz ft).1,T.ex,rfl,el,pm,sz,ft,ld,.inr pl⟩
theorem rc {A:Around} {E:Value->Shared->Prop} {s:Shared} {a:Addr} {zs zs':List Str} {led:Bool} {o:Obj} {es es1:Array (Int × Value)} {ep:Nat} {t t2:SetTable} {was:Bool} {R:Option Bool->Shared->Prop} {g:Bool->Sem Unit} (hg:∀ (b:Bool) (s₁:Shared) (Q':Unit->Shared->Prop),Q' () s₁->wpAny (model prog w) A (g b) Q' E s₁)
  (T:cq prog w s.heap a zs led o es ep t) (el:h8 prog w es1.toList) (pm:(es1.toList.map fun e=>gr e.2).Perm zs') (sz:es1.size<scanBound) (ft:t2.fits es1.size=true) (ld:t2.led=led) (pl:t2.plain=false)
  (k:∀ h',Heap.SameBut a s.heap h'->(∃ o es ep t,cq prog w h' a zs' led o es ep t)->R (some true) { s with heap:=h' }) :
  wpAny (model prog w) A (do
    storeSet a es1 t2
    if (!was&&t2.tooFull)=true then do
        g (relayAll t2 es1 (SetTable.grown es1.size)).2.2
        storeSet a (relayAll t2 es1 (SetTable.grown es1.size)).1 (relayAll t2 es1 (SetTable.grown es1.size)).2.1
        pure (some true)
     else pure (some true)) R E s:=by
 have T1:=T.store el pm sz ft ld pl
 refine Qa (wpAny_storeSet_of T.ob T.da ?_ (fits_of_scanBound sz))
 have sb:=Heap.SameBut.update s.heap a (Obj.putSet es1 t2)
 by_cases hc:(!was&&t2.tooFull)=true
 ·rw [if_pos hc]
  have hp:=relayAll_perm t2 es1 (SetTable.grown es1.size)
  have hf:=relayAll_fits t2 es1 (SetTable.grown es1.size)
  have hb:=zq t2 es1 (SetTable.grown es1.size)
  generalize relayAll t2 es1 (SetTable.grown es1.size)=L at hp hf hb ⊢
  obtain ⟨es2,t3,gave⟩:=L
  dsimp only at hp hf hb ⊢
  have sz2:es2.size<scanBound:=by
   have:=hp.length_eq
   simp at this
   omega
  have T2:=T1.store (fun e he=>el e (hp.mem_iff.mp he)) ((hp.map _).trans pm) sz2 hf (hb.1.trans ld) (by
   cases q:t3.plain with
   | false=>rfl
   | true=>have:=hb.2 q;rw [pl] at this;cases this)
  refine Qa (hg _ _ _ (Qa (wpAny_storeSet_of T1.ob T1.da ?_ (fits_of_scanBound sz2))))
  exact Qd (k _ (sb.trans (Heap.SameBut.update _ a _)) ⟨_,_,_,_,T2⟩)
 ·rw [if_neg hc]
  exact Qd (k _ sb ⟨_,_,_,_,T1⟩)
theorem zr {A:Around} {E:Value->Shared->Prop} {s:Shared} {a:Addr} {zs:List Str} {led:Bool} {z:Str} {u:Tok} {Q:Bool->Shared->Prop} (hS:∃ o es ep t,cq prog w s.heap a zs led o es ep t) (hroom:zs.length+1<scanBound)
  (k:∀ b h',Heap.SameBut a s.heap h'->(∃ o es ep t,cq prog w h' a (dI zs z) led o es ep t)->Q b { s with heap:=h' }):wpAny (model prog w) A (setAddHashed a (.str z u) ((strKind prog w).hash z)) Q E s:=by
 obtain ⟨o,es,ep,t,T⟩:=hS
 have hsz:=T.size
 unfold setAddHashed setAddHashedIn
 refine wpAny_holding (Qa (wpAny_setState_of T.ob T.da T.ft ?_))
 dsimp only
 rw [byScan_of (knd:=strKind prog w) (x:=.str z u) rfl T.sz T.el.elems]
 simp only [↓reduceIte]
 unfold setAddByScan
 refine Qa (Qa (wpAny_rule ?_))
 refine Qa (wpAny_setScan_of (knd:=strKind prog w) (strKind_is _ _ _ _) T.ob T.da T.ft T.el.elems ?_)
 cases hr:List.findIdx? (fun e=>(strKind prog w).is z e.2) es.toList with
 | some j =>
  dsimp only
  obtain ⟨hj,hpj,_⟩:=List.findIdx?_eq_some_iff_getElem.mp hr
  have hz:z∈zs:=(T.find z).mp ⟨_,QJ hj,hpj⟩
  have e:dI zs z=zs:=if_pos (by simpa using hz)
  refine Qd (Qd ?_)
  exact k _ s.heap (Heap.SameBut.refl a s.heap) ⟨o,es,ep,t,by rw [e];exact T⟩
 | none =>
  dsimp only
  have hz:z∉zs:=fun h=>by
   obtain ⟨e,he,hp⟩:=(T.find z).mpr h
   have:=List.findIdx?_eq_none_iff.mp hr e he
   rw [hp] at this;cases this
  have ed:dI zs z=zs++[z]:=if_neg (by simpa using hz)
  have way:∀ (b:Bool) {s₁:Shared} {Q':Unit->Shared->Prop},Q' () s₁->wpAny (model prog w) A (match b with | true=>rule "set.scan.the-table-gave-way" | false=>pure ()) Q' E s₁ :=
   fun b s₁ Q' hq=>by cases b<;>first | exact Qd hq | exact wpAny_rule hq
  have hp:=layNew_perm t es ((strKind prog w).hash z) (.str z u)
  have hf:=layNew_fits t es ((strKind prog w).hash z) (.str z u)
  have hb:=zo t es ((strKind prog w).hash z) (.str z u)
  generalize layNew t es ((strKind prog w).hash z) (.str z u)=L at hp hf hb ⊢
  obtain ⟨es1,t1,was,gave⟩:=L
  dsimp only at hp hf hb ⊢
  rw [Array.toList_push] at hp
  have el1:h8 prog w es1.toList:=fun e he=>by
   rcases Qy (hp.mem_iff.mp he) with h | h
   ·exact T.el e h
   ·rw [List.mem_singleton] at h;subst h;exact ⟨z,u,rfl,rfl⟩
  have pm1:(es1.toList.map fun e=>gr e.2).Perm (dI zs z):=by
   rw [ed]
   refine (hp.map _).trans ?_
   rw [QK]
   exact T.pm.append_right _
  have sz1:es1.size<scanBound:=by
   have:=pm1.length_eq
   rw [ed] at this
   simp at this
   omega
  refine Qa (way _ ?_)
  have fin:∀ h',Heap.SameBut a s.heap h'->(∃ o es ep t,cq prog w h' a (dI zs z) led o es ep t)->Q true { s with heap:=h' }:=fun h' sb h=>k true h' sb h
  split
  ·refine Qa ?_
   rw [hashByValue_scannable 8 (x:=.str z u) rfl]
   refine Qd ?_
   refine rc ?_ T el1 pm1 sz1 (t2:={ t1 with plain:=false }) (SetTable.fits_plain_off hf) (hb.1.trans T.ld) rfl fun h' sb h=>?_
   ·intro b s₁ Q' hq;cases b<;>first | exact Qd hq | exact wpAny_rule hq
   ·dsimp only;exact Qd (fin h' sb h)
  ·rename_i hpl
   refine Qa (Qd ?_)
   simp only [↓reduceIte]
   refine rc ?_ T el1 pm1 sz1 hf (hb.1.trans T.ld) (by simpa using hpl) fun h' sb h=>?_
   ·intro b s₁ Q' hq;cases b<;>first | exact Qd hq | exact wpAny_rule hq
   ·dsimp only;exact Qd (fin h' sb h)
end
section
variable {prog:Program} {w:World} {A:Around} {R:Result->Shared->Prop} {I:Addr} {fp wr:List Addr} {G:Array GenState->Array GenState->Prop} {n:Nat} {P:Nat->Value->Prop} {St:Nat->Shared->Prop}
theorem zt {led:Bool} (W:WalksS prog w A.in1 I fp wr G n P St) (S:Addr) (hSf:S∉fp) (val:Nat->Str) (hval:∀ i v,P i v->∃ t,v=.str (val i) t) (hb:n+1<scanBound) :
  ∀ (k i:Nat) (s:Shared),n-i=k->i<=n->St i s->(∃ o es ep t,cq prog w s.heap S (dz val i) led o es ep t) ->
   (∀ s',Moved (S::wr) G s s'->(∃ o es ep t,cq prog w s'.heap S (dz val n) led o es ep t)->R (.ok (.ret .none)) s') ->
   codeAny (model prog w) A (.builtin "set.update.loop" ⟨[.ref S,.ref I],[]⟩) R s:=by
 have hSw:S∉wr:=fun h=>hSf (W.sub _ h)
 have hsub:∀ b∈wr,b∈S::wr:=fun b hb=>Qz _ hb
 intro k
 induction k with
 | zero =>
  intro i s hk hi hst hS hR
  have hin:i=n:=by omega
  subst hin
  refine codeAny_builtin F.entry_set_update_loop ?_
  rw [Around.under_plainId F.plain_set_update_loop _]
  show wpAny _ A.in1 (pyNext (.ref I) >>= _) _ _ s
  refine Qa (W.done s _ _ hst fun s' hm=>?_)
  refine Qd (hR s' (hm.mono hsub) ?_)
  obtain ⟨o,es,ep,t,T⟩:=hS
  exact ⟨o,es,ep,t,{ T with ob:=hm.heap S _ hSw T.ob }⟩
 | succ k ih =>
  intro i s hk hi hst hS hR
  have hlt:i<n:=by omega
  refine codeAny_builtin F.entry_set_update_loop ?_
  rw [Around.under_plainId F.plain_set_update_loop _]
  show wpAny _ A.in1 (pyNext (.ref I) >>= _) _ _ s
  refine Qa (W.item i s _ _ hlt hst fun v s' hP hst' hm=>?_)
  obtain ⟨t,rfl⟩:=hval i v hP
  have hS1:∃ o es ep t,cq prog w s'.heap S (dz val i) led o es ep t:=by
   obtain ⟨o,es,ep,tb,T⟩:=hS
   exact ⟨o,es,ep,tb,{ T with ob:=hm.heap S _ hSw T.ob }⟩
  show wpAny _ A.in1 (holding [Value.str (val i) t] (setAdd S (.str (val i) t)) >>= _) _ _ s'
  refine Qa (wpAny_holding ?_)
  unfold setAdd
  refine wpAny_holding ?_
  refine Qa ((strKind prog w).pyHash (k:=val i) (strKind_is _ _ _ _) ?_)
  have hroom:(dz val i).length+1<scanBound:=by have:=qW val i;omega
  refine zr (s:={ s' with toks:=s'.toks+1 }) hS1 hroom fun _ h' hsb hS2=>?_
  have hSi:∃ o es ep t,cq prog w h' S (dz val (i+1)) led o es ep t:=by
   rw [kB];exact hS2
  refine Qd ⟨plainId_quiet F.plain_set_update_loop _,ih (i+1) _ (by omega) hlt (W.frame _ s' _ _ hst' (Nat.le_succ _) fun b hb o e=>?_) hSi fun s2 hm2 hS3=>?_⟩
  ·rw [hsb.2 b (fun h:b=S=>hSf (by rw [<- h];exact hb))];exact e
  ·refine hR s2 (Moved.trans W.gtrans ((hm.mono hsub).then_heap (Nat.le_succ _) fun b o hb e=>?_) hm2) hS3
   rw [hsb.2 b (fun h:b=S=>hb (by rw [h];exact QC))];exact e
end
noncomputable def cF (w:World):Bool:=w.params.followText "set-order"
section
variable {prog:Program} {w:World} {A:Around} {E:Value->Shared->Prop} {s:Shared}
open PySem in
theorem zu (a:Value) {Q₁:Value->Shared->Prop} (h:Q₁ (.ref s.heap.objs.size) { s with heap:=s.heap.push (newSet (!cF w)) }) :
  codeAny (model prog w) A (.call (.builtin "set.__new__") ⟨[.type "set",a],[]⟩) (wants Q₁ E) s:=by
 refine codeAny_of_tree ?_
 show wpAny _ A.in1 (do checkBuiltinCall "set.__new__" ⟨[.type "set",a],[]⟩;again (.builtin "set.__new__" ⟨[.type "set",a],[]⟩)) _ _ s
 refine Qa (wpAny_of_eq (F.newCall_set_1 a) (Qd ⟨plainId_quiet F.plain_set_new _,codeAny_builtin F.entry_set_new ?_⟩))
 rw [Around.under_plainId F.plain_set_new _]
 unfold Builtin.«set.__new__» Builtin.Frozenset.newClass
 have hsub:=sub_set_self
 obtain ⟨hp,g,d,tk,os⟩:=s
 dsimp only
 wp_walk
 refine wpAny_askSetting (Qd ?_)
 dsimp only
 simp only [newObj]
 exact Qa (wpAny_alloc (Qd (Qd h)))
end
section
variable {prog:Program} {w:World} {A:Around} {E:Value->Shared->Prop} {s:Shared}
open PySem in
theorem zv {l:Addr} {items:Array Value} {zs:List Str} {Q:Value->Shared->Prop} (hh:A.handled=none) (hl:s.heap.IsList l items) (hi:StrsAre items.toList zs) (hb:items.size+1<scanBound)
  (h:∀ (h':Heap) (tk:Nat),(∃ o es ep t,cq prog w h' s.heap.objs.size (dz (fun i=>zs.getD i ⟨#[]⟩) items.size) (!cF w) o es ep t) ->
   (∀ b o,b<s.heap.objs.size->s.heap.get? b=some o->h'.get? b=some o)->Q (.ref s.heap.objs.size) { s with heap:=h',toks:=tk }):wpAny (model prog w) A (call (.type "set") [.ref l]) Q E s:=by
 obtain ⟨c,tl,hmro⟩:=F.called_set.mro
 have hmade:=F.called_set.made
 have hsub:=F.called_set.sub
 refine wpAny_call (codeAny_of_tree ?_)
 show wpAny _ _ (callAny (.type "set") _) _ _ _
 refine Qd ⟨Code.quiet_builtin _ (by decide +kernel),codeAny_builtin F.entry_type_call ?_⟩
 rw [Around.under_plain (weight_type_call_type "set" [.ref l] []) rfl]
 have h1:=F.called_set.notType
 have h2:=F.called_set.canCreate
 have hct:=F.typeCall_set_1 (.ref l)
 repeat (any_goals (first | assumption | wp_step))
 refine codeAny_mono (zu (.ref l) (E:=E) (Q₁:=fun obj s1=>∃ led:Bool,led=(!cF w)/\obj=.ref s.heap.objs.size/\s1={ s with heap:=s.heap.push (newSet led) }) ⟨_,rfl,rfl,rfl⟩) fun r s1 hr=>?_
 cases r with
 | error e=>exact hr
 | ok fl =>
  cases fl with
  | ret obj =>
   obtain ⟨led,eled,rfl,rfl⟩:=hr
   have hS:(s.heap.push (newSet led)).get? s.heap.objs.size=some (newSet led):=Qj _ rfl
   have hT:Shared.TypeIs { s with heap:=s.heap.push (newSet led) } (.ref s.heap.objs.size) "set":=⟨_,hS,rfl⟩
   have hli:=F.called_set.init.lookup
   have hbi:=F.called_set.init.bind (.ref s.heap.objs.size)
   repeat (any_goals (first | assumption | wp_step))
   refine codeAny_mono (codeAny_call_builtin (R:=wants (fun r s2=>r=.none/\∃ h' tk,s2={ s with heap:=h',toks:=tk }/\(∃ o es ep t,cq prog w h' s.heap.objs.size (dz (fun i=>zs.getD i ⟨#[]⟩) items.size) (!cF w) o es ep t) /\
     (∀ b o,b<s.heap.objs.size->s.heap.get? b=some o->h'.get? b=some o)) E) F.called_set.init.plain F.entry_set_init (check_set_init_1 hT ?_)) fun r2 s2 hr2=>?_
   ·obtain ⟨ol,hol,hcl,nl,hdl⟩:=hl
    obtain ⟨ocls,odict,odata,oslots⟩:=ol
    simp only at hcl hdl
    subst hcl;subst hdl
    have hol':(s.heap.push (newSet led)).get? l=some { cls:=.type "list",dict:=odict,data:=.seq items nl,slots:=oslots }:=Qe _ hol
    have hsls:=F.sub_list_set
    have hslf:=F.sub_list_frozenset
    have hne:(Value.type "list" == Value.type "dict")=false:=by decide
    have hl1:(s.heap.push (newSet led)).IsList l items:=⟨_,hol',rfl,nl,rfl⟩
    unfold Builtin.«set.__init__» noKeywords Builtin.Frozenset.updateFrom
    generalize hPI:pyIter=PI
    wp_walk
    subst hPI
    refine wpAny_pyIter_list hl1 (Qa (wpAny_runValue ?_))
    have hlS:l<s.heap.objs.size:=Qm hol
    have hh3:A.in1.in1.in1.handled=none:=by simp [hh]
    have hneI:l≠(s.heap.push (newSet led)).objs.size:=by
     rw [Heap.size_push];exact Qt (Nat.lt_succ_of_lt hlS)
    have hSf:s.heap.objs.size∉[(s.heap.push (newSet led)).objs.size,l]:=by
     rw [Heap.size_push];simp only [List.mem_cons,List.mem_singleton,List.not_mem_nil,or_false,not_or]
     exact ⟨Qt (Nat.lt_succ_self _),Nat.ne_of_gt hlS⟩
    have hval:∀ (i:Nat) (v:Value),items[i]?=some v->∃ t,v=.str ((fun i=>zs.getD i ⟨#[]⟩) i) t:=fun i v hv=>qX hi i v (by rw [Array.getElem?_toList];exact hv)
    refine zt (led:=!cF w) ((Walks.list hh3 _ l hneI items).toS) s.heap.objs.size hSf (fun i=>zs.getD i ⟨#[]⟩) hval hb (items.size-0) 0 _ (by omega) (Qr _) ⟨⟨_,Qj _ rfl,rfl,rfl⟩,(hl1.push _)⟩ ?hS0 ?hR
    case hS0 =>
     have hget:=Qe { cls:=.type "list_iterator",data:=.fields #[.ref l,.int 0 0] } hS
     exact ⟨_,#[],0,_,hget,⟨rfl,rfl,rfl⟩,rfl,fun e he=>by simp at he,List.Perm.refl _,by unfold scanBound;decide,rfl,eled,.inl rfl⟩
    case hR =>
     intro s' hm hS'
     obtain ⟨h',g',d',tk',os'⟩:=s'
     have eg:g'=s.gens:=hm.gens
     have ed:d'=s.drawn:=hm.drawn
     have eo:os'=s.os:=hm.os
     subst eg;subst ed;subst eo
     refine Qd (Qd ⟨rfl,h',tk',rfl,hS',fun b o hb e=>?_⟩)
     have hb1:b≠s.heap.objs.size:=Qt hb
     have hb2:b≠(s.heap.push (newSet led)).objs.size:=by
      rw [Heap.size_push];exact Qt (Nat.lt_succ_of_lt hb)
     exact hm.heap b o (by simp only [List.mem_cons,List.mem_singleton,List.not_mem_nil,or_false,not_or];exact ⟨hb1,hb2⟩) (Qe _ (Qe _ e))
   ·cases r2 with
    | error e=>exact hr2
    | ok fl2 =>
     cases fl2 with
     | ret r =>
      obtain ⟨rfl,h',tk,rfl,hS',hk'⟩:=hr2
      repeat (any_goals (first | assumption | wp_step))
      exact h _ _ hS' hk'
     | _=>exact hr2.elim
  | _=>exact hr.elim
end
end L2
namespace L2
open PySem PySem.Spec PyProof.Rows
noncomputable def kE (prog:Program) (w:World) (q:Addr) (zs:List Str):HO:=.ext fun h=>∃ o es ep t,cq prog w h q zs (!cF w) o es ep t
noncomputable def fP (zs:List Str):List Str:=dz (fun i=>zs.getD i ⟨#[]⟩) zs.length
section
variable {X:Cx}
theorem zw {K:PySem.W.Frag} (hK:X.K=K) (hc:X.calm=true):c9 X (.type "set") (fun xs H Q=>∃ (p:Addr) (zs:List Str),xs=[.ref p]/\am K H p (zs.map V.str)/\zs.length<=1000/\∀ q,H q=none->Q (.ref q) (af H q (kE X.prog X.w q (fP zs)))):=by
 intro pins s σ H xs us Q I r h
 subst hK
 obtain ⟨p,zs,rfl,hq,hl,q⟩:=h
 obtain ⟨u,rfl,ru⟩:=vals1 r
 cases (show u=Value.ref p from ru)
 obtain ⟨its,rv,pl,hz⟩:=I.list hq
 have hlen:its.toArray.size=zs.length:=by rw [Ql,<- rv.length,Qf]
 refine zv (I.ok.hd hc) pl.isList (by simpa using qY rv) (by rw [hlen];unfold scanBound;omega) fun h' tk hS hk=>?_
 rw [hlen] at hS
 have k2:∀ b u,s.heap.get? b=some u->h'.get? b=some u:=fun b u e=>hk b u (Qm e) e
 obtain ⟨o,es,ep,t,T⟩:=hS
 refine ⟨.ref s.heap.objs.size,_,I.laid (t':=tk) (o:=kE X.prog X.w s.heap.objs.size (fP zs)) k2 (Qh _) ⟨⟨o,es,ep,t,T⟩,⟨o,T.ob⟩,fun h1 h2 hsl63 kk=>by obtain ⟨o,es,ep,t,T⟩:=hsl63;exact ⟨o,es,ep,t,{ T with ob:=kk o T.ob }⟩⟩,rfl,q _ I.fresh⟩
end
theorem mP {α:Type}:∀ (xs:List α) (i:Nat) (x:α),xs[i]?=some x->List.Perm (x::xs.eraseIdx i) xs
 | [],i,x,h=>by simp at h
 | a::xs,0,x,h=>by cases h;exact .refl _
 | a::xs,i+1,x,h=>by
  have:=mP xs i x (by simpa using h)
  simp only [List.eraseIdx_cons_succ]
  exact (List.Perm.swap a x _).trans (this.cons a)
section
variable {prog:Program} {w:World} {A:Around} {E:Value->Shared->Prop}
theorem zx {src:Source} {n:Nat} {s:Shared} {Q:Nat->Shared->Prop} (hn:n≠0) (h:∀ i d',i<n->Q i { s with drawn:=d' }):wpAny (model prog w) A (choose src n) Q E s :=
 fun _ _ _=>⟨hn,h _ _ (Nat.mod_lt _ (Nat.pos_of_ne_zero hn))⟩
theorem re {α:Type}:∀ (n:Nat) (xs:List α) (s:Shared) (Q:List α->Shared->Prop),n=xs.length->(∀ ys d',List.Perm ys xs->Q ys { s with drawn:=d' })->wpAny (model prog w) A (drawOrder n xs) Q E s
 | 0,xs,s,Q,hn,h=>by
  have:xs=[]:=by cases xs with | nil=>rfl | cons _ _=>simp at hn
  subst this
  exact Qd (h [] s.drawn (.refl _))
 | n+1,[],s,Q,hn,h=>by simp at hn
 | n+1,a::xs,s,Q,hn,h=>by
  unfold drawOrder
  refine Qa (zx (by simp) fun i d' hi=>?_)
  have e:(a::xs)[i]?=some (a::xs)[i]:=Qb hi
  rw [e]
  refine Qa (re n _ _ _ (by rw [List.length_eraseIdx_of_lt hi];simp at hn ⊢;omega) fun ys d'' hp=>Qd ?_)
  exact h _ _ ((hp.cons _).trans (mP _ i _ e))
end
end L2
namespace L2
open PySem PySem.Spec PyProof.Rows
theorem eO:Slot "set_iterator" "__next__" "set_iterator.__next__" :=
 .of (owner:="set_iterator") (n:="__next__") (by rw [typeLookup_type,builtinLookup_eq_fast];kernel_rfl) (by decide +kernel) (by decide +kernel) (by decide +kernel)
  (by first | exact .inl (by decide +kernel) | exact .inr (by decide +kernel)) (by rw [isSubtype_type];kernel_rfl)
theorem rf:Slot "set_iterator" "__iter__" "set_iterator.__iter__" :=
 .of (owner:="set_iterator") (n:="__iter__") (by rw [typeLookup_type,builtinLookup_eq_fast];kernel_rfl) (by decide +kernel) (by decide +kernel) (by decide +kernel)
  (by first | exact .inl (by decide +kernel) | exact .inr (by decide +kernel)) (by rw [isSubtype_type];kernel_rfl)
theorem kF:entryFor table "set_iterator.__next__"=some Builtin.«set_iterator.__next__»:=entryFor_of_tree (by kernel_rfl)
theorem zy:entryFor table "set.__iter__"=some Builtin.«frozenset.__iter__» :=
 entryFor_alias (id':="frozenset.__iter__") (by kernel_rfl) rfl (by decide +kernel) (by kernel_rfl)
theorem kG (a:Value):argsOk "set_iterator.__next__" ⟨[a],[]⟩:=by
 unfold argsOk
 kernel_rfl
theorem rh {α:Type} (next:Nat->Nat):∀ (n k:Nat) (xs:List α) (out:Array α),n=xs.length->List.Perm (pickOrder.go next n k xs out).toList (out.toList++xs)
 | 0,k,xs,out,hn=>by
  have:xs=[]:=by cases xs with | nil=>rfl | cons _ _=>simp at hn
  subst this
  simp [pickOrder.go]
 | n+1,k,xs,out,hn=>by
  have hp:0<xs.length:=by omega
  have hi:next k % xs.length<xs.length:=Nat.mod_lt _ hp
  have e:xs[next k % xs.length]?=some xs[next k % xs.length]:=Qb hi
  rw [pickOrder.go,e]
  dsimp only
  refine (rh next n (k+1) _ _ (by rw [List.length_eraseIdx_of_lt hi];omega)).trans ?_
  rw [Array.toList_push,QM]
  exact (mP xs _ _ e).append_left _
theorem mQ {α:Type} (next:Nat->Nat) (xs:Array α):List.Perm (pickOrder next xs).toList xs.toList:=by
 have:=rh next xs.size 0 xs.toList #[] (by simp)
 simpa [pickOrder] using this
noncomputable def fR (ys:List Nat):Obj:={ cls:=.type "tuple",data:=.seq (ys.map fun (i:Nat)=>Value.int (i:Int) 0).toArray }
noncomputable def cZ (first:Value) (i:Nat) (S:Addr) (n ep:Nat):Obj:={ cls:=.type "set_iterator",data:=.fields #[first,.int i 0,.ref S,.int n 0,.int ep 0] }
structure SW (w:World) (h:Heap) (S:Addr) (o:Obj) (es:Array (Int × Value)) (ep:Nat) (t:SetTable):Prop where
 ob:h.get? S=some o
 ex:o.ExactSet
 da:o.data=.set es ep t
 ft:t.fits es.size=true
 ld:t.led=!cF w
 pl:es.size=0∨t.plain=false
theorem SW.at {w:World} {h h':Heap} {S:Addr} {o:Obj} {es:Array (Int × Value)} {ep:Nat} {t:SetTable} (T:SW w h S o es ep t) (k:∀ o,h.get? S=some o->h'.get? S=some o):SW w h' S o es ep t:=⟨k o T.ob,T.ex,T.da,T.ft,T.ld,T.pl⟩
theorem cq.sw {prog:Program} {w:World} {h:Heap} {S:Addr} {zs:List Str} {o:Obj} {es:Array (Int × Value)} {ep:Nat} {t:SetTable} (T:cq prog w h S zs (!cF w) o es ep t):SW w h S o es ep t:=⟨T.ob,T.ex,T.da,T.ft,T.ld,T.pl⟩
section
variable {prog:Program} {w:World} {A:Around} {E:Value->Shared->Prop} {s:Shared} {S:Addr} {zs:List Str} {o:Obj} {es:Array (Int × Value)} {ep:Nat} {t:SetTable}
theorem SW.typeIs (T:SW w s.heap S o es ep t):s.TypeIs (.ref S) "set":=⟨o,T.ob,T.ex.1⟩
theorem zA {Q:Value->Shared->Prop} (T:SW w s.heap S o es ep t) (hn:es.size<=1000)
  (h1:cF w=true∨es.size<=1->Q (.ref s.heap.objs.size) { s with heap:=s.heap.push (cZ (.int 0 0) 0 S es.size ep) })
  (h2:cF w=false->1<es.size->∀ (ys:List Nat) d',List.Perm ys (List.range es.size)->Q (.ref (s.heap.push (fR ys)).objs.size) { s with heap:=(s.heap.push (fR ys)).push (cZ (.ref s.heap.objs.size) 0 S es.size ep),drawn:=d' }) :
  wpAny (model prog w) A (pyIter (.ref S)) Q E s:=by
 refine wpAny_pyIter_slot T.typeIs PySem.F.slot_set_iter (wpAny_call_entry PySem.F.slot_set_iter T.typeIs zy ?_ (PySem.F.args_set_iter_1 _))
 unfold Builtin.«frozenset.__iter__»
 refine Qa (wpAny_of_eq (a:=S) (by rfl) ?_)
 unfold Builtin.Frozenset.sizeOf
 refine Qa (Qa (wpAny_setEntries_of T.ob T.da T.ft (Qd ?_)))
 unfold setDrawn setsByText
 refine Qa (Qa (wpAny_setState_of T.ob T.da T.ft (Qa (Qa (wpAny_askSetting (Qd (Qd ?_)))))))
 show wpAny _ _ (if (!cF w&&(!t.plain&&decide (es.size>1)))=true then _ else _) _ _ _
 have fin:∀ (first:Value) (s1:Shared),s1.heap.get? S=some o->Q (.ref s1.heap.objs.size) { s1 with heap:=s1.heap.push (cZ first 0 S es.size ep) } ->
   wpAny (model prog w) A.in1 (do
    let e <- setEpoch S
    let x <- newFields "set_iterator" [first,rawInt 0,Value.ref S,rawInt (es.size:Nat),rawInt (e:Nat)]
    ret x) (fun fin s'=>∃ v,fin=.done (.ret v)/\∃ T' r,s'.TypeIs v T'/\typeLookup (.type T') "__next__"=pure (some r)/\Q v s') E s1:=fun first s1 ho q=>by
  refine Qa (wpAny_setEpoch_of ho T.da T.ft ?_)
  exact Qa (wpAny_newObj_type (Qd ⟨_,rfl,"set_iterator",_,⟨_,Qj _ rfl,rfl⟩,eO.lookup,q⟩))
 by_cases hb:cF w=true
 ·rw [hb]
  simp only [Bool.not_true,Bool.false_and,Bool.false_eq_true,if_false]
  refine Qa (Qd ?_)
  exact fin (rawInt 0) s T.ob (h1 (.inl hb))
 ·have hb:cF w=false:=by simpa using hb
  by_cases hz:es.size<=1
  ·rw [show decide (es.size>1)=false from Qi (by omega)]
   simp only [Bool.and_false,Bool.false_eq_true,if_false]
   refine Qa (Qd ?_)
   exact fin (rawInt 0) s T.ob (h1 (.inr hz))
  ·have hp:t.plain=false:=by
    rcases T.pl with h | h
    ·omega
    ·exact h
   rw [hb,hp,show decide (es.size>1)=true from Qp (by omega)]
   simp only [Bool.not_false,Bool.and_self,if_true]
   refine Qa (re es.size (List.range es.size) s _ (by simp) fun ys d' hy=>?_)
   simp only [newTuple]
   refine Qa (wpAny_newObj_type ?_ ?_)
   ·exact fin _ _ (Qe _ T.ob) (h2 hb (by omega) ys d' hy)
   ·have hl:ys.length=es.size:=by rw [hy.length_eq];simp
    show (ys.map fun (i:Nat)=>rawInt (i:Int)).toArray.size<=sizeLine
    rw [Ql,Qf,hl]
    exact Nat.le_of_lt (cR hn)
end
end L2
namespace L2
open PySem PySem.Spec PyProof.Rows
section
variable {prog:Program} {w:World} {A:Around} {E:Value->Shared->Prop} {s:Shared} {S I:Addr} {o:Obj} {es:Array (Int × Value)} {ep:Nat} {t:SetTable}
theorem gu {first:Value} {i n:Nat} (hI:s.heap.get? I=some (cZ first i S n ep)):s.TypeIs (.ref I) "set_iterator":=⟨_,hI,rfl⟩
theorem ri {Q:Option (Value × Nat)->Shared->Prop} {slot i:Nat} (hb:cF w=true) (T:SW w s.heap S o es ep t) (h:Q (((pickOrder (w.params.setOrder S ep) es)[i]?).map fun e=>(e.2,slot)) s):wpAny (model prog w) A (setNext S slot i ep) Q E s:=by
 have hb':w.params.followText "set-order"=true:=hb
 unfold setNext setsByText
 refine Qa (wpAny_setState_of T.ob T.da T.ft ?_)
 dsimp only
 refine Qa (Qa (wpAny_askSetting (Qd ?_)))
 rw [if_pos (show (model prog w).w.params.followText "set-order"=true from hb')]
 rw [if_neg (by simp)]
 unfold setWalk setsByText
 refine Qa (Qa (wpAny_setState_of T.ob T.da T.ft ?_))
 dsimp only
 refine Qa (Qa (wpAny_askSetting (Qd ?_)))
 rw [if_pos (show (model prog w).w.params.followText "set-order"=true from hb')]
 exact Qa (wpAny_askSetting (Qd (Qd h)))
theorem rl {Q:Option (Value × Nat)->Shared->Prop} {slot i:Nat} (hb:cF w=false) (hz:es.size<=1) (T:SW w s.heap S o es ep t) (h:Q (match es[SetTable.below t.place slot]?,t.place[SetTable.below t.place slot]? with
  | some (_,x),some j=>some (x,j+1)
  | _,_=>none) s):wpAny (model prog w) A (setNext S slot i ep) Q E s:=by
 have hb':w.params.followText "set-order"=false:=hb
 unfold setNext setsByText
 refine Qa (wpAny_setState_of T.ob T.da T.ft ?_)
 dsimp only
 refine Qa (Qa (wpAny_askSetting (Qd ?_)))
 rw [if_neg (show ¬ (model prog w).w.params.followText "set-order"=true by show ¬ w.params.followText "set-order"=true;rw [hb'];decide)]
 show wpAny _ _ (if (!t.plain&&decide (es.size>1))=true then _ else _) _ _ _
 rw [show decide (es.size>1)=false from Qi (by omega),Bool.and_false,if_neg (by decide)]
 show wpAny _ _ ((if (!t.led&&!es.isEmpty)=true then unsupported _ else pure PUnit.unit) >>= _) _ _ _
 rw [T.ld,hb]
 exact Qa (Qd (Qd h))
theorem rm {Q:Option Value->Shared->Prop} {slot i nx:Nat} {x:Value} (hI:s.heap.get? I=some (cZ (.int slot 0) i S es.size ep)) (T:SW w s.heap S o es ep t)
  (hsn:∀ (A:Around) (E:Value->Shared->Prop) (Q:Option (Value × Nat)->Shared->Prop),Q (some (x,nx)) s->wpAny (model prog w) A (setNext S slot i ep) Q E s)
  (hQ:∀ h',h'.get? I=some (cZ (.int nx 0) (i+1) S es.size ep)->Heap.SameBut I s.heap h'->Q (some x) { s with heap:=h' }):wpAny (model prog w) A (pyNext (.ref I)) Q E s:=by
 have hT:=gu hI
 unfold pyNext
 refine Qa (wpAny_attempt (wpAny_callSpecial?_slot (name:=Str.ofString "__next__") hT eO (wpAny_call_entry eO hT kF ?_ (kG _))))
 unfold Builtin.«set_iterator.__next__»
 refine Qa (Qd (Qa (wpAny_fieldsOf hI rfl ?_)))
 show wpAny _ _ (setEntries S >>= _) _ _ _
 refine Qa (wpAny_setEntries_of T.ob T.da T.ft ?_)
 rw [if_neg (by simp)]
 show wpAny _ _ (setNext S (slot:Int).toNat (i:Int).toNat (ep:Int).toNat >>= _) _ _ _
 simp only [Int.toNat_natCast]
 refine Qa (hsn _ _ _ ?_)
 dsimp only
 refine Qa (wpAny_setField hI rfl (by simp) ?_)
 have h1:(s.heap.update I (Obj.mapFields (·.setIfInBounds 0 (rawInt (nx:Nat))))).get? I=some (cZ (.int nx 0) i S es.size ep):=Heap.get?_update_self _ hI rfl
 refine Qa (wpAny_setField (s:={ s with heap:=s.heap.update I (Obj.mapFields (·.setIfInBounds 0 (rawInt (nx:Nat)))) }) h1 rfl (by simp) ?_)
 refine Qd ⟨_,rfl,Qd (hQ _ (Heap.get?_update_self _ h1 rfl) ?_)⟩
 exact (Heap.SameBut.update ..).trans (Heap.SameBut.update ..)
theorem rn {Q:Option Value->Shared->Prop} {slot i:Nat} (hh:A.handled=none) (hI:s.heap.get? I=some (cZ (.int slot 0) i S es.size ep)) (T:SW w s.heap S o es ep t)
  (hsn:∀ (A:Around) (E:Value->Shared->Prop) (Q:Option (Value × Nat)->Shared->Prop),Q none s->wpAny (model prog w) A (setNext S slot i ep) Q E s)
  (hQ:∀ h',Heap.ExtBut I s.heap h'->Q none { s with heap:=h' }):wpAny (model prog w) A (pyNext (.ref I)) Q E s:=by
 have hT:=gu hI
 unfold pyNext
 refine Qa (wpAny_attempt (wpAny_callSpecial?_slot (name:=Str.ofString "__next__") hT eO (wpAny_call_entry eO hT kF ?_ (kG _))))
 unfold Builtin.«set_iterator.__next__»
 refine Qa (Qd (Qa (wpAny_fieldsOf hI rfl ?_)))
 show wpAny _ _ (setEntries S >>= _) _ _ _
 refine Qa (wpAny_setEntries_of T.ob T.da T.ft ?_)
 rw [if_neg (by simp)]
 show wpAny _ _ (setNext S (slot:Int).toNat (i:Int).toNat (ep:Int).toNat >>= _) _ _ _
 simp only [Int.toNat_natCast]
 refine Qa (hsn _ _ _ ?_)
 dsimp only
 refine Qa (wpAny_setField hI rfl (by simp) ?_)
 refine Qa ?_
 simp only [newExc,newTuple]
 refine Qa (wpAny_newObj_type (Qa (m:=firstArgMember _ _) (wpAny_of_eq (a:=Value.none) (by first | rfl | (simp only [firstArgMember];rfl)) (wpAny_newObj_type ?_ (by size_fits)))) (by size_fits))
 simp only [raiseNew]
 refine Qa (wpAny_handled ?_)
 rw [show A.in1.handled=none from hh]
 refine (Qa (Qd (wpAny_throw ?_)))
 refine (Qa (wpAny_isInstance (T:="StopIteration") (b:=true) ⟨_,Qj _ rfl,rfl⟩ isSubtype_stop (Qd (hQ _ ?_))))
 exact ((Heap.SameBut.update ..).extBut.push _).push _
theorem zB {Q:Option Value->Shared->Prop} {i:Nat} {P:Addr} {ys:List Nat} {y:Nat} {e:Int × Value} (hI:s.heap.get? I=some (cZ (.ref P) i S es.size ep)) (hP:s.heap.get? P=some (fR ys)) (T:SW w s.heap S o es ep t) (hy:ys[i]?=some y) (he:es[y]?=some e)
  (hQ:∀ h',h'.get? I=some (cZ (.ref P) (i+1) S es.size ep)->Heap.SameBut I s.heap h'->Q (some e.2) { s with heap:=h' }):wpAny (model prog w) A (pyNext (.ref I)) Q E s:=by
 have hT:=gu hI
 unfold pyNext
 refine Qa (wpAny_attempt (wpAny_callSpecial?_slot (name:=Str.ofString "__next__") hT eO (wpAny_call_entry eO hT kF ?_ (kG _))))
 unfold Builtin.«set_iterator.__next__»
 refine Qa (Qd (Qa (wpAny_fieldsOf hI rfl ?_)))
 show wpAny _ _ (setEntries S >>= _) _ _ _
 refine Qa (wpAny_setEntries_of T.ob T.da T.ft ?_)
 rw [if_neg (by simp)]
 show wpAny _ _ (seqItems? (Value.ref P) >>= _) _ _ _
 unfold seqItems?
 refine Qa (Qa (wpAny_load hP ?_))
 show wpAny _ _ (pure (some (ys.map fun (i:Nat)=>Value.int (i:Int) 0).toArray)) _ _ _
 refine Qd ?_
 dsimp only
 rw [show ((ys.map fun (i:Nat)=>Value.int (i:Int) 0).toArray)[(i:Int).toNat]?=some (Value.int (y:Int) 0) by rw [Int.toNat_natCast,List.getElem?_toArray,Qk,hy];rfl]
 dsimp only
 unfold setNextDrawn
 refine Qa (Qa (wpAny_setState_of T.ob T.da T.ft ?_))
 dsimp only
 simp only [Int.toNat_natCast]
 rw [if_neg (by simp)]
 rw [he]
 dsimp only
 refine Qd ?_
 refine Qa (wpAny_setField hI rfl (by simp) ?_)
 exact Qd ⟨_,rfl,Qd (hQ _ (Heap.get?_update_self _ hI rfl) (Heap.SameBut.update ..))⟩
theorem zC {Q:Option Value->Shared->Prop} {i:Nat} {P:Addr} {ys:List Nat} (hh:A.handled=none) (hI:s.heap.get? I=some (cZ (.ref P) i S es.size ep)) (hP:s.heap.get? P=some (fR ys)) (T:SW w s.heap S o es ep t) (hy:ys[i]?=none)
  (hQ:∀ h',Heap.ExtBut I s.heap h'->Q none { s with heap:=h' }):wpAny (model prog w) A (pyNext (.ref I)) Q E s:=by
 have hT:=gu hI
 unfold pyNext
 refine Qa (wpAny_attempt (wpAny_callSpecial?_slot (name:=Str.ofString "__next__") hT eO (wpAny_call_entry eO hT kF ?_ (kG _))))
 unfold Builtin.«set_iterator.__next__»
 refine Qa (Qd (Qa (wpAny_fieldsOf hI rfl ?_)))
 show wpAny _ _ (setEntries S >>= _) _ _ _
 refine Qa (wpAny_setEntries_of T.ob T.da T.ft ?_)
 rw [if_neg (by simp)]
 show wpAny _ _ (seqItems? (Value.ref P) >>= _) _ _ _
 unfold seqItems?
 refine Qa (Qa (wpAny_load hP ?_))
 show wpAny _ _ (pure (some (ys.map fun (i:Nat)=>Value.int (i:Int) 0).toArray)) _ _ _
 refine Qd ?_
 dsimp only
 rw [show ((ys.map fun (i:Nat)=>Value.int (i:Int) 0).toArray)[(i:Int).toNat]?=none by rw [Int.toNat_natCast,List.getElem?_toArray,Qk,hy];rfl]
 dsimp only
 refine Qa (wpAny_setField hI rfl (by simp) ?_)
 have h1:(s.heap.update I (Obj.mapFields (·.setIfInBounds 0 (rawInt 0)))).get? I=some (cZ (.int 0 0) i S es.size ep):=Heap.get?_update_self _ hI rfl
 refine Qa (wpAny_setField (s:={ s with heap:=s.heap.update I (Obj.mapFields (·.setIfInBounds 0 (rawInt 0))) }) h1 rfl (by simp) ?_)
 refine Qa ?_
 simp only [newExc,newTuple]
 refine Qa (wpAny_newObj_type (Qa (m:=firstArgMember _ _) (wpAny_of_eq (a:=Value.none) (by first | rfl | (simp only [firstArgMember];rfl)) (wpAny_newObj_type ?_ (by size_fits)))) (by size_fits))
 simp only [raiseNew]
 refine Qa (wpAny_handled ?_)
 rw [show A.in1.handled=none from hh]
 refine (Qa (Qd (wpAny_throw ?_)))
 refine (Qa (wpAny_isInstance (T:="StopIteration") (b:=true) ⟨_,Qj _ rfl,rfl⟩ isSubtype_stop (Qd (hQ _ ?_))))
 exact (((Heap.SameBut.update ..).trans (Heap.SameBut.update ..)).extBut.push _).push _
end
end L2
namespace L2
open PySem PySem.Spec PyProof.Rows PySem.W
theorem zD:entryFor table "set_iterator.__iter__"=some Builtin.«dict_keyiterator.__iter__» :=
 entryFor_alias (id':="dict_keyiterator.__iter__") (by kernel_rfl) (by first | rfl | decide +kernel | (unfold String.splitOn;simp +decide [String.splitOnAux])) (by decide +kernel) (by kernel_rfl)
theorem zE (a:Value):argsOk "set_iterator.__iter__" ⟨[a],[]⟩:=by
 unfold argsOk
 kernel_rfl
section
variable {prog:Program} {w:World} {A:Around} {E:Value->Shared->Prop} {s:Shared} {S I:Addr} {o:Obj} {es:Array (Int × Value)} {ep:Nat} {t:SetTable}
theorem mR {Q:Value->Shared->Prop} {first:Value} {i n:Nat} (hI:s.heap.get? I=some (cZ first i S n ep)) (h:Q (.ref I) s):wpAny (model prog w) A (pyIter (.ref I)) Q E s:=by
 refine wpAny_pyIter_slot (gu hI) rf (wpAny_call_entry rf (gu hI) zD ?_ (zE _))
 show wpAny _ _ (ret (.ref I)) _ _ s
 exact Qd ⟨_,rfl,"set_iterator",_,gu hI,eO.lookup,h⟩
theorem zF (hh:A.handled=none) (hne:S≠I) (hb:cF w=true):Walks prog w A I [I,S] [I] es.size (fun i v=>((pickOrder (w.params.setOrder S ep) es).toList.map (·.2))[i]?=some v) (fun i h=>h.get? I=some (cZ (.int 0 0) i S es.size ep)/\SW w h S o es ep t) where
 sub:=fun b hb=>by simp at hb;simp [hb]
 frame:=fun i h h' st k=>⟨k I (by simp) _ st.1,st.2.at fun o e=>k S (by simp) o e⟩
 item:=fun i s Q E hi st hQ=>by
  have hl:(pickOrder (w.params.setOrder S ep) es).size=es.size:=by simpa using (mQ (w.params.setOrder S ep) es).length_eq
  have e:(pickOrder (w.params.setOrder S ep) es)[i]?=some (pickOrder (w.params.setOrder S ep) es)[i]:=Array.getElem?_eq_getElem (by omega)
  refine rm (nx:=0) (x:=(pickOrder (w.params.setOrder S ep) es)[i].2) st.1 st.2 (fun A E Q q=>ri hb st.2 (by rw [e];exact q)) fun h' h1 sb=>?_
  refine hQ _ h' s.toks ?_ ⟨h1,st.2.at fun o e=>(sb.2 S hne).trans e⟩ fun b o hb e=>(sb.2 b (by simpa using hb)).trans e
  rw [Qk,Array.getElem?_toList,e]
  rfl
 done:=fun s Q E st hQ=>by
  have hl:(pickOrder (w.params.setOrder S ep) es).size=es.size:=by simpa using (mQ (w.params.setOrder S ep) es).length_eq
  refine rn hh st.1 st.2 (fun A E Q q=>ri hb st.2 (by rw [Array.getElem?_eq_none (by omega)];exact q)) fun h' eb=>?_
  exact hQ h' s.toks fun b o hb e=>eb b o (by simpa using hb) e
 self:=fun i s Q E st q=>mR st.1 q
theorem ro {j:Nat} {p:Array Nat} (hp:p=#[j]):SetTable.below p 0=0/\SetTable.below p (j+1)=1:=by
 subst hp
 constructor
 ·simp [SetTable.below,SetTable.below.go]
 ·simp [SetTable.below,SetTable.below.go]
theorem zG (hh:A.handled=none) (hne:S≠I) (hb:cF w=false) (hz:es.size<=1):Walks prog w A I [I,S] [I] es.size (fun i v=>(es.toList.map (·.2))[i]?=some v) (fun i h=>∃ slot:Nat,(i=0->slot=0)/\(0<i->∀ j:Nat,t.place[0]?=some j->slot=j+1)/\h.get? I=some (cZ (.int slot 0) i S es.size ep)/\SW w h S o es ep t) where
 sub:=fun b hb=>by simp at hb;simp [hb]
 frame:=fun i h h' hsl64 k=>by obtain ⟨sl,a,b,c,d⟩:=hsl64;exact ⟨sl,a,b,k I (by simp) _ c,d.at fun o e=>k S (by simp) o e⟩
 item:=fun i s Q E hi ⟨sl,a,b,c,d⟩ hQ=>by
  have hi0:i=0:=by omega
  subst hi0
  have hsl:=a rfl
  subst hsl
  have hf:t.place.size=es.size:=by have:=d.ft;unfold SetTable.fits at this;simp at this;exact this.1
  have hn:es.size=1:=by omega
  obtain ⟨j,hj⟩:∃ j,t.place=#[j]:=by
   refine ⟨t.place[0]'(by omega),?_⟩
   refine Array.ext (by simp;omega) fun k h1 h2=>?_
   have:k=0:=by omega
   subst this
   rfl
  have e:es[0]?=some es[0]:=Array.getElem?_eq_getElem (by omega)
  refine rm (nx:=j+1) (x:=es[0].2) c d (fun A E Q q=>rl hb hz d (by rw [(ro hj).1,e,hj];exact q)) fun h' h1 sb=>?_
  refine hQ _ h' s.toks (by rw [Qk,Array.getElem?_toList,e];rfl) ⟨j+1,fun z=>absurd z (by omega),fun _ j' h=>by rw [hj] at h;simp at h;omega,h1,d.at fun o e=>(sb.2 S hne).trans e⟩ fun b o hb e=>(sb.2 b (by simpa using hb)).trans e
 done:=fun s Q E ⟨sl,a,b,c,d⟩ hQ=>by
  have hf:t.place.size=es.size:=by have:=d.ft;unfold SetTable.fits at this;simp at this;exact this.1
  refine rn hh c d (fun A E Q q=>rl hb hz d ?_) fun h' eb=>hQ h' s.toks fun b o hb e=>eb b o (by simpa using hb) e
  have e:es[SetTable.below t.place sl]?=none:=by
   by_cases h0:es.size=0
   ·exact Array.getElem?_eq_none (by omega)
   ·obtain ⟨j,hj⟩:∃ j,t.place=#[j]:=by
     refine ⟨t.place[0]'(by omega),?_⟩
     refine Array.ext (by simp;omega) fun k h1 h2=>?_
     have:k=0:=by omega
     subst this
     rfl
    rw [b (by omega) j (by rw [hj];rfl),(ro hj).2]
    exact Array.getElem?_eq_none (by omega)
  rw [e]
  exact q
 self:=fun i s Q E hsl65 q=>by obtain ⟨sl,a,b,c,d⟩:=hsl65;exact mR c q
theorem zH (hh:A.handled=none) (hne:S≠I) {P:Addr} (hnp:P≠I) {ys:List Nat} (hy:ys.Perm (List.range es.size)):Walks prog w A I [I,S,P] [I] es.size (fun i v=>(ys.map fun y=>(es.toList.map (·.2)).getD y .none)[i]?=some v)
  (fun i h=>h.get? I=some (cZ (.ref P) i S es.size ep)/\SW w h S o es ep t/\h.get? P=some (fR ys)) where
 sub:=fun b hb=>by simp at hb;simp [hb]
 frame:=fun i h h' st k=>⟨k I (by simp) _ st.1,st.2.1.at fun o e=>k S (by simp) o e,k P (by simp) _ st.2.2⟩
 item:=fun i s Q E hi st hQ=>by
  have hl:ys.length=es.size:=by simpa using hy.length_eq
  have e:ys[i]?=some ys[i]:=Qb (by omega)
  have hm:ys[i]<es.size:=List.mem_range.mp (hy.mem_iff.mp (QJ _))
  have e2:es[ys[i]]?=some es[ys[i]]:=Array.getElem?_eq_getElem hm
  refine zB st.1 st.2.2 st.2.1 e e2 fun h' h1 sb=>?_
  refine hQ _ h' s.toks ?_ ⟨h1,st.2.1.at fun o e=>(sb.2 S hne).trans e,(sb.2 P hnp).trans st.2.2⟩ fun b o hb e=>(sb.2 b (by simpa using hb)).trans e
  rw [Qk,e]
  simp [hm]
 done:=fun s Q E st hQ=>by
  have hl:ys.length=es.size:=by simpa using hy.length_eq
  refine zC hh st.1 st.2.2 st.2.1 (List.getElem?_eq_none (by omega)) fun h' eb=>?_
  exact hQ h' s.toks fun b o hb e=>eb b o (by simpa using hb) e
 self:=fun i s Q E st q=>mR st.1 q
theorem zI {Q:Value->Shared->Prop} (hh:A.handled=none) (T:SW w s.heap S o es ep t) (hn:es.size<=1000)
  (k:∀ (I:Addr) (fp:List Addr) (h':Heap) (d':Drawn) (vs:List Value) (St:Nat->Heap->Prop),vs.Perm (es.toList.map (·.2))->s.heap.objs.size<=I->(∀ b∈fp,b=S∨s.heap.objs.size<=b)->(∀ b u,s.heap.get? b=some u->h'.get? b=some u) ->
   Walks prog w A I fp [I] es.size (fun i v=>vs[i]?=some v) St->St 0 h'->Q (.ref I) { s with heap:=h',drawn:=d' }):wpAny (model prog w) A (pyIter (.ref S)) Q E s:=by
 have hS:=Qm T.ob
 refine zA T hn (fun hc=>?_) fun hb hz ys d' hy=>?_
 ·have hne:S≠s.heap.objs.size:=Qt hS
  have fp:∀ b∈[s.heap.objs.size,S],b=S∨s.heap.objs.size<=b:=fun b hb=>by
   rcases (show b=s.heap.objs.size∨b=S by simpa using hb) with z | z
   ·exact .inr (Nat.le_of_eq z.symm)
   ·exact .inl z
  by_cases hb:cF w=true
  ·exact k _ _ _ s.drawn _ _ ((mQ (w.params.setOrder S ep) es).map _) (Qh _) fp (fun b u e=>Qe _ e) (zF (o:=o) (t:=t) hh hne hb) ⟨Qj _ rfl,T.at fun o e=>Qe _ e⟩
  ·have hb':cF w=false:=by simpa using hb
   have hz:es.size<=1:=hc.resolve_left hb
   exact k _ _ _ s.drawn _ _ (.refl _) (Qh _) fp (fun b u e=>Qe _ e) (zG (o:=o) (t:=t) hh hne hb' hz) ⟨0,fun _=>rfl,fun z=>absurd z (by omega),Qj _ rfl,T.at fun o e=>Qe _ e⟩
 ·have hsz:(s.heap.push (fR ys)).objs.size=s.heap.objs.size+1:=Heap.size_push _ _
  refine k _ [(s.heap.push (fR ys)).objs.size,S,s.heap.objs.size] _ d' (ys.map fun y=>(es.toList.map (·.2)).getD y .none) _ ?_ (by rw [hsz];exact Nat.le_succ _) (fun b hb=>?_) (fun b u e=>Qe _ (Qe _ e)) (zH (o:=o) (t:=t) (P:=s.heap.objs.size) hh (fun z=>by rw [hsz] at z;rw [z] at hS;exact absurd hS (Nat.not_lt.mpr (Nat.le_succ _))) (fun z=>by rw [hsz] at z;exact absurd z (Qt (Nat.lt_succ_self _))) hy) ⟨Qj _ rfl,T.at fun o e=>Qe _ (Qe _ e),Qe _ (Qj _ rfl)⟩
  ·refine (hy.map _).trans ?_
   have:=hW Value.none (es.toList.map (·.2))
   rw [Qf,QG] at this
   rw [this]
  ·rcases (show b=(s.heap.push (fR ys)).objs.size∨b=S∨b=s.heap.objs.size by simpa using hb) with z | z | z
   ·exact .inr (by rw [z,hsz];exact Nat.le_succ _)
   ·exact .inl z
   ·exact .inr (Nat.le_of_eq z.symm)
theorem zJ {Q:Bool->Shared->Prop} (hT:s.TypeIs (.ref S) "set") (h:Q false s):wpAny (model prog w) A (Builtin.List.listLengthHint (.ref S)) Q E s:=by
 unfold Builtin.List.listLengthHint
 refine Qa (wpAny_specialOf hT PySem.F.slot_set_len.lookup ?_)
 generalize hid:("set.__len__":String)=id0
 wp_delta
 rw [show splitId id0=some ("set","__len__") from by subst hid;decide +kernel]
 subst hid
 refine Qa (wpAny_isInstance (T:="set") (b:=true) hT (by rw [isSubtype_type];kernel_rfl) ?_)
 refine wpAny_ite_split (fun hab=>absurd hab (by decide)) (fun _=>?_)
 refine wpAny_ite_split (fun _=>?_) (fun hab=>absurd (by decide +kernel) hab)
 refine Qa (wpAny_typeOf hT ?_)
 exact Qd h
theorem zK {R:Result->Shared->Prop} (hh:A.handled=none) (T:SW w s.heap S o es ep t) (hn:es.size<=1000) (L:Addr) (hLS:L≠S) (res:Value) (c₀:Nat) (hL:s.heap.get? L=some { cls:=.type "list",data:=.seq #[] c₀ })
  (hR:∀ h' tk d' (vs:List Value) c',(∀ b u,b≠L->s.heap.get? b=some u->h'.get? b=some u)->h'.get? L=some { cls:=.type "list",dict:=none,data:=.seq vs.toArray c',slots:=#[] }->vs.Perm (es.toList.map (·.2))->R (.ok (.ret res)) { s with heap:=h',toks:=tk,drawn:=d' }) :
  wpAny (model prog w) A.in1 (Builtin.List.listExtendWith (.ref L) (.ref S) res)
   (fun fin s'=>match fin with | .done f=>R (.ok f) s' | .again c'=>c'.quiet=true/\codeAny (model prog w) A c' R s') (fun e s'=>R (.error e) s') s:=by
 unfold Builtin.List.listExtendWith
 refine Qa (wpAny_typeOf (T:="set") T.typeIs ?_)
 have h1:Builtin.List.listSameRef (.ref L) (.ref S)=false:=by simp [Builtin.List.listSameRef,hLS]
 have h2:(Value.type "set" == Value.type "list")=false:=by decide
 have h3:(Value.type "set" == Value.type "tuple")=false:=by decide
 simp only [h1,h2,h3,Bool.or_false,Bool.false_eq_true,if_false]
 refine Qa (zI (A:=A.in1) hh T hn fun I fp h1 d' vs St hp hI hfp k W st=>?_)
 have hLl:=Qm hL
 have hLf:L∉fp:=fun hm=>by
  rcases hfp L hm with z | z
  ·exact hLS z
  ·exact absurd hLl (Nat.not_lt.mpr z)
 refine Qa (wpAny_holding (zJ ⟨o,k _ _ T.ob,T.ex.1⟩ ?_))
 have key:∀ (h:Heap) (c₁:Nat),St 0 h->(∀ b u,b≠L->s.heap.get? b=some u->h.get? b=some u)->h.get? L=some { cls:=.type "list",data:=.seq #[] c₁ } ->
   codeAny (model prog w) A (.builtin "list.extend.loop" ⟨[.ref L,.ref I,res],[]⟩) R { s with heap:=h,drawn:=d' }:=by
  intro h c₁ st k hL1
  refine codeAny_extend_loopS W.toS (Nat.le_of_lt (cR hn)) L hLf res es.size 0 _ #[] c₁ rfl (Qr _) st hL1 (ItemsOf.nil _) fun s' acc' c' hm hS' hacc=>?_
  rw [Moved.eq_with hm]
  have hlv:vs.length=es.size:=by simpa using hp.length_eq
  have ea:acc'=vs.toArray:=by
   refine Array.ext_getElem? fun i=>?_
   by_cases hi:i<es.size
   ·have h1:acc'[i]?=some (acc'[i]'(by rw [hacc.1];exact hi)):=Array.getElem?_eq_getElem _
    rw [h1,List.getElem?_toArray,hacc.2 i _ h1]
   ·rw [Array.getElem?_eq_none (by rw [hacc.1];omega),Array.getElem?_eq_none (by simp;omega)]
  subst ea
  refine hR s'.heap s'.toks d' vs c' (fun b u hb e=>hm.heap b u (fun hmem=>?_) (k b u hb e)) hS' hp
  rcases Qu hmem with e' | hmem
  ·exact hb e'
  ·have:=Qm e
   rw [List.mem_singleton.mp hmem] at this
   exact absurd this (Nat.not_lt.mpr hI)
 have hL1:=k _ _ hL
 refine wpAny_ite_split (fun _=>?_) (fun _=>Qd ⟨plainId_quiet PySem.F.plain_extend_loop _,key _ c₀ st (fun b u _ e=>k b u e) hL1⟩)
 refine Qa (wpAny_rule ?_)
 refine Qa ?_
 show wpAny _ _ (updateSeq L (·.push .none) >>= fun _=>updateSeq L (·.pop)) _ _ _
 refine Qa (wpAny_updateSeq hL1 rfl ?_)
 have hL2:=Heap.get?_update_self (Obj.mapSeq (·.push Value.none)) hL1 rfl
 refine wpAny_updateSeq (hz:=by seq_fits) hL2 rfl ?_
 have hL3:=Heap.get?_update_self (Obj.mapSeq (·.pop)) hL2 rfl
 refine Qd ⟨plainId_quiet PySem.F.plain_extend_loop _,key _ _ ?_ (fun b u hb e=>?_) hL3⟩
 ·refine W.frame 0 _ _ st fun b hb u e=>?_
  have hbS:b≠L:=fun h=>hLf (h ▸ hb)
  exact (Heap.get?_update_other _ _ (Ne.symm hbS)).trans ((Heap.get?_update_other _ _ (Ne.symm hbS)).trans e)
 ·exact (Heap.get?_update_other _ _ (Ne.symm hb)).trans ((Heap.get?_update_other _ _ (Ne.symm hb)).trans (k b u e))
theorem zL {R:List Value->Shared->Prop} (hh:A.handled=none) (T:SW w s.heap S o es ep t) (hn:es.size<=1000)
  (h:∀ h' tk d' (vs:List Value),(∀ b u,s.heap.get? b=some u->h'.get? b=some u)->vs.Perm (es.toList.map (·.2))->R vs { s with heap:=h',toks:=tk,drawn:=d' }) :
  wpAny (model prog w) A (collect (.ref S)) R E s:=by
 have hlt:=Qm T.ob
 unfold collect
 refine Qa (wpAny_runValue (codeAny_builtin entry_proto_collect' ?_))
 rw [Around.under_plainId PySem.F.plain_proto_collect _]
 show wpAny _ A.in1 (newList [] >>= fun l=>again (.builtin "list.__iadd__" ⟨[l,.ref S],[]⟩)) _ _ s
 refine Qa (wpAny_newObj_type ?_)
 refine Qd ⟨plainId_quiet PySem.F.plain_list_iadd _,codeAny_builtin entry_list_iadd' ?_⟩
 rw [Around.under_plainId PySem.F.plain_list_iadd _]
 have hS₁:(s.heap.push { cls:=.type "list",data:=.seq ([]:List Value).toArray }).get? s.heap.objs.size=some { cls:=.type "list",data:=.seq #[] }:=Qj _ rfl
 show wpAny _ A.in1 (Builtin.List.listExtendWith (.ref s.heap.objs.size) (.ref S) (.ref s.heap.objs.size)) _ _ _
 have key:=zK (prog:=prog) (A:=A) (s:={ s with heap:=s.heap.push { cls:=.type "list",data:=.seq ([]:List Value).toArray } })
  (R:=fun (q:Result) (s':Shared)=>∃ (h':Heap) (tk:Nat) (d':Drawn) (vs:List Value) (c':Nat),q=.ok (.ret (.ref s.heap.objs.size))/\s'={ s with heap:=h',toks:=tk,drawn:=d' } /\
   (∀ b o,s.heap.get? b=some o->h'.get? b=some o)/\h'.get? s.heap.objs.size=some { cls:=.type "list",dict:=none,data:=.seq vs.toArray c',slots:=#[] }/\vs.Perm (es.toList.map (·.2)))
  hh (T.at fun o e=>Qe _ e) hn s.heap.objs.size (Nat.ne_of_gt hlt) (.ref s.heap.objs.size) 0 hS₁
  (fun h' tk d' vs c' hk hS' hp=>⟨h',tk,d',vs,c',rfl,rfl,fun b o e=>hk b o (Qt (Qm e)) (Qe _ e),hS',hp⟩)
 refine QL key (fun fin s' x=>?_) fun e s' x=>?_
 ·cases fin with
  | done f =>
   obtain ⟨h',tk,d',vs,c',e,rfl,hk,hS',hp⟩:=x
   cases e
   show wpAny _ A (load s.heap.objs.size >>= _) _ _ _
   refine Qa (wpAny_load hS' ?_)
   exact Qd (h h' tk d' vs hk hp)
  | again c₁ =>
   refine ⟨x.1,codeAny_mono x.2 fun q s₂ y=>?_⟩
   obtain ⟨h',tk,d',vs,c',rfl,rfl,hk,hS',hp⟩:=y
   show wpAny _ A (load s.heap.objs.size >>= _) _ _ _
   refine Qa (wpAny_load hS' ?_)
   exact Qd (h h' tk d' vs hk hp)
 ·obtain ⟨_,_,_,_,_,e',_⟩:=x
  cases e'
end
end L2
namespace L2
open PySem PySem.Spec PyProof.Rows PySem.W
structure fq (n:Nat) (lt:Nat->Nat->Bool):Prop where
 tr:∀ i j k,i<n->j<n->k<n->lt i j=true->lt j k=true->lt i k=true
 as:∀ i j,i<n->j<n->lt i j=true->lt j i=false
 un:∀ i j,i<n->j<n->i≠j->lt i j=false->lt j i=true
structure cG (n:Nat) (p:Array Nat):Prop where
 sz:p.size=n
 lt:∀ i,i<n->p.getD i 0<n
 ne:∀ i j,i<n->j<n->p.getD i 0=p.getD j 0->i=j
theorem zM {p:Array Nat} {i:Nat} (h:i<p.size):p.getD i 0=p[i]:=by simp [Array.getD,h]
theorem ia {p q:Array Nat} {i j:Nat} (h:p[i]?=q[j]?):p.getD i 0=q.getD j 0:=by
 rw [Array.getD_eq_getD_getElem?,Array.getD_eq_getD_getElem?,h]
theorem cG.range (n:Nat):cG n (List.range n).toArray:=⟨by simp,fun i h=>by rw [jf h];exact h,fun i j hi hj e=>by rwa [jf hi,jf hj] at e⟩
noncomputable def Up (lt:Nat->Nat->Bool) (p:Array Nat) (m:Nat):Prop:=∀ i j,i<j->j<m->lt (p.getD i 0) (p.getD j 0)=true
noncomputable def Dn (lt:Nat->Nat->Bool) (p:Array Nat) (m:Nat):Prop:=∀ i j,i<j->j<m->lt (p.getD j 0) (p.getD i 0)=true
section
variable {n:Nat} {lt:Nat->Nat->Bool} {p:Array Nat}
theorem Up.snoc (T:fq n lt) (h:cG n p) {m:Nat} (hm:m+1<=n) (u:Up lt p m) (hl:0<m->lt (p.getD (m-1) 0) (p.getD m 0)=true):Up lt p (m+1):=fun i j hij hj=>by
 by_cases hjm:j<m
 ·exact u i j hij hjm
 ·have e:j=m:=by omega
  subst e
  by_cases hi:i=j-1
  ·rw [hi];exact hl (by omega)
  ·exact T.tr _ _ _ (h.lt i (by omega)) (h.lt (j-1) (by omega)) (h.lt j (by omega)) (u i (j-1) (by omega) (by omega)) (hl (by omega))
theorem Dn.snoc (T:fq n lt) (h:cG n p) {m:Nat} (hm:m+1<=n) (u:Dn lt p m) (hl:0<m->lt (p.getD m 0) (p.getD (m-1) 0)=true):Dn lt p (m+1):=fun i j hij hj=>by
 by_cases hjm:j<m
 ·exact u i j hij hjm
 ·have e:j=m:=by omega
  subst e
  by_cases hi:i=j-1
  ·rw [hi];exact hl (by omega)
  ·exact T.tr _ _ _ (h.lt j (by omega)) (h.lt (j-1) (by omega)) (h.lt i (by omega)) (hl (by omega)) (u i (j-1) (by omega) (by omega))
theorem mS (T:fq n lt) (h:cG n p):∀ f m,1<=m->m+f<=n->Up lt p m->∃ r,b7 lt (kas_asc p f m)=r/\m<=r/\r<=m+f/\Up lt p r/\(r<m+f->lt (p.getD r 0) (p.getD (r-1) 0)=true)
 | 0,m,h1,h2,u=>⟨m,by unfold kas_asc;rfl,Qh _,Qh _,u,fun q=>absurd q (Nat.lt_irrefl _)⟩
 | f+1,m,h1,h2,u=>by
  unfold kas_asc
  show ∃ r,b7 lt (if lt (p.getD m 0) (p.getD (m-1) 0)=true then _ else _)=r/\_
  cases hc:lt (p.getD m 0) (p.getD (m-1) 0) with
  | true=>exact ⟨m,by rw [if_pos rfl];rfl,Qh _,by omega,u,fun _=>hc⟩
  | false =>
   rw [if_neg (by decide)]
   have hne:p.getD m 0≠p.getD (m-1) 0:=fun e=>by have:=h.ne m (m-1) (by omega) (by omega) e;omega
   obtain ⟨r,e,a,b,c,d⟩:=mS T h f (m+1) (by omega) (by omega) (u.snoc T h (by omega) fun _=>T.un _ _ (h.lt m (by omega)) (h.lt (m-1) (by omega)) hne hc)
   exact ⟨r,e,by omega,by omega,c,fun q=>d (by omega)⟩
theorem rp (T:fq n lt) (h:cG n p):∀ f m,1<=m->m+f<=n->Dn lt p m->∃ r,b7 lt (kas_desc f p m 0)=(p,r,0)/\m<=r/\r<=m+f/\Dn lt p r
 | 0,m,h1,h2,u=>⟨m,by unfold kas_desc;rfl,Qh _,Qh _,u⟩
 | f+1,m,h1,h2,u=>by
  unfold kas_desc
  show ∃ r,b7 lt (if lt (p.getD m 0) (p.getD (m-1) 0)=true then _ else _)=_/\_
  cases hc:lt (p.getD m 0) (p.getD (m-1) 0) with
  | true =>
   rw [if_pos rfl,if_neg (by omega)]
   obtain ⟨r,e,a,b,c⟩:=rp T h f (m+1) (by omega) (by omega) (u.snoc T h (by omega) fun _=>hc)
   exact ⟨r,e,by omega,by omega,c⟩
  | false =>
   rw [if_neg (by decide)]
   have hne:p.getD m 0≠p.getD (m-1) 0:=fun e=>by have:=h.ne m (m-1) (by omega) (by omega) e;omega
   have hd:=T.un _ _ (h.lt m (by omega)) (h.lt (m-1) (by omega)) hne hc
   refine ⟨m,?_,Qh _,by omega,u⟩
   show b7 lt (if lt (p.getD (m-1) 0) (p.getD m 0)=true then _ else _)=_
   rw [hd,if_pos rfl]
   rfl
theorem jj (hp:p.size=n) {m k:Nat} (hm:m<=n):(kas_rev p 0 m).getD k 0=if k<m then p.getD (m-1-k) 0 else p.getD k 0:=by
 have e:=getElem?_mirror (xs:=p) (i:=0) (j:=m) (by omega) ((m-0) / 2) (by omega) k
 unfold kas_rev
 by_cases h:k<m
 ·rw [if_pos h]
  by_cases h2:(0<=k/\k<0+(m-0) / 2)∨(m-(m-0) / 2<=k/\k<m)
  ·rw [if_pos h2] at e
   rw [ia e]
   congr 1;omega
  ·rw [if_neg h2] at e
   rw [ia e]
   congr 1;omega
 ·rw [if_neg h]
  rw [if_neg (by omega)] at e
  exact ia e
theorem cG.rev (h:cG n p) {m:Nat} (hm:m<=n):cG n (kas_rev p 0 m):=by
 refine ⟨(kas_rev_size 0 m).trans h.sz,fun i hi=>?_,fun i j hi hj e=>?_⟩
 ·rw [jj h.sz hm]
  split
  ·exact h.lt _ (by omega)
  ·exact h.lt i hi
 ·rw [jj h.sz hm,jj h.sz hm] at e
  split at e<;>split at e
  ·have:=h.ne _ _ (by omega) (by omega) e;omega
  ·have:=h.ne _ _ (by omega) (by omega) e;omega
  ·have:=h.ne _ _ (by omega) (by omega) e;omega
  ·exact h.ne _ _ hi hj e
theorem Dn.rev (hp:p.size=n) {m:Nat} (hm:m<=n) (u:Dn lt p m):Up lt (kas_rev p 0 m) m:=fun i j hij hj=>by
 rw [jj hp hm,jj hp hm,if_pos (by omega),if_pos hj]
 exact u _ _ (by omega) (by omega)
theorem zN (T:fq n lt) (h:cG n p) (h1:1<=n):∃ r q,b7 lt (kas_count n p)=(r,q)/\cG n q/\Up lt q r/\1<=r/\r<=n:=by
 obtain ⟨m,e,a,b,c,d⟩:=mS T h (n-1) 1 (Qh _) (by omega) (fun i j hij hj=>by omega)
 unfold kas_count
 rw [fO,e]
 by_cases hm:m=n
 ·exact ⟨m,p,by rw [if_pos (by simpa using hm)];rfl,h,c,a,by omega⟩
 ·rw [if_neg (by simpa using hm)]
  by_cases hm1:m>1
  ·rw [if_pos hm1]
   refine ⟨m,p,?_,h,c,a,by omega⟩
   show b7 lt (if lt (p.getD 0 0) (p.getD (m-1) 0)=true then _ else _)=_
   rw [c 0 (m-1) (by omega) (by omega),if_pos rfl]
   rfl
  ·rw [if_neg hm1]
   have em:m=1:=by omega
   subst em
   have hd:=d (by omega)
   unfold kas_descPart
   rw [fO]
   obtain ⟨r,e2,a2,b2,c2⟩:=rp T h (n-(1+1)) (1+1) (by omega) (by omega) (fun i j hij hj=>by
    have:i=0:=by omega
    have:j=1:=by omega
    subst_vars;exact hd)
   rw [e2]
   dsimp only
   rw [if_neg (by omega)]
   unfold kas_tail3
   rw [fO]
   have hq:=h.rev (m:=r) (by omega)
   obtain ⟨s,e3,a3,b3,c3,_⟩:=mS T hq (n-r) r (by omega) (by omega) (c2.rev h.sz (by omega))
   rw [e3]
   exact ⟨s,_,rfl,hq,c3,by omega,by omega⟩
theorem mT (T:fq n lt) (h:cG n p) {k:Nat} (hk:k<n) (u:Up lt p k):∀ f l r,l<=r->r<=k->r-l<=f->(∀ i,i<l->lt (p.getD i 0) (p.getD k 0)=true)->(∀ i,r<=i->i<k->lt (p.getD k 0) (p.getD i 0)=true) ->
  ∃ x,b7 lt (kas_place p k f l r)=x/\x<=k/\(∀ i,i<x->lt (p.getD i 0) (p.getD k 0)=true)/\(∀ i,x<=i->i<k->lt (p.getD k 0) (p.getD i 0)=true)
 | 0,l,r,h1,h2,h3,h4,h5=>⟨l,by unfold kas_place;rfl,by omega,h4,fun i a b=>h5 i (by omega) b⟩
 | f+1,l,r,h1,h2,h3,h4,h5=>by
  unfold kas_place
  by_cases hlr:l ≥ r
  ·exact ⟨l,by rw [if_pos hlr];rfl,by omega,h4,fun i a b=>h5 i (by omega) b⟩
  ·rw [if_neg hlr]
   show ∃ x,b7 lt (if lt (p.getD k 0) (p.getD ((l+r) / 2) 0)=true then _ else _)=x/\_
   have hmid:(l+r) / 2<k:=by omega
   cases hc:lt (p.getD k 0) (p.getD ((l+r) / 2) 0) with
   | true =>
    rw [if_pos rfl]
    refine mT T h hk u f l ((l+r) / 2) (by omega) (by omega) (by omega) h4 fun i a b=>?_
    by_cases e:i=(l+r) / 2
    ·rw [e];exact hc
    ·exact T.tr _ _ _ (h.lt k hk) (h.lt _ (by omega)) (h.lt i (by omega)) hc (u _ i (by omega) b)
   | false =>
    rw [if_neg (by decide)]
    have hne:p.getD k 0≠p.getD ((l+r) / 2) 0:=fun e=>by have:=h.ne k _ hk (by omega) e;omega
    have hd:=T.un _ _ (h.lt k hk) (h.lt _ (by omega)) hne hc
    refine mT T h hk u f ((l+r) / 2+1) r (by omega) h2 (by omega) (fun i a=>?_) h5
    by_cases e:i=(l+r) / 2
    ·rw [e];exact hd
    ·exact T.tr _ _ _ (h.lt i (by omega)) (h.lt _ (by omega)) (h.lt k hk) (u i _ (by omega) hmid) hd
theorem jk (hp:p.size=n) {k d:Nat} (hk:k<n) (hd:d<=k) (j:Nat):(bubble p k d).getD j 0=if j=k-d then p.getD k 0 else if k-d<j/\j<=k then p.getD (j-1) 0 else p.getD j 0:=by
 have e:=getElem?_bubble (xs:=p) (src:=k) (by omega) d hd j
 split at e
 ·rw [if_pos (by assumption)];exact ia e
 ·rw [if_neg (by assumption)]
  split at e
  ·rw [if_pos (by assumption)];exact ia e
  ·rw [if_neg (by assumption)];exact ia e
theorem cG.bub (h:cG n p) {k d:Nat} (hk:k<n) (hd:d<=k):cG n (bubble p k d):=by
 refine ⟨(bubble_size p k d).trans h.sz,fun i hi=>?_,fun i j hi hj e=>?_⟩
 ·rw [jk h.sz hk hd]
  split
  ·exact h.lt k hk
  ·split
   ·exact h.lt _ (by omega)
   ·exact h.lt i hi
 ·rw [jk h.sz hk hd,jk h.sz hk hd] at e
  split at e<;>split at e<;>(try split at e)<;>(try split at e)<;>first | omega | (have:=h.ne _ _ (by omega) (by omega) e;omega)
theorem rq (T:fq n lt):∀ f {p:Array Nat} (k:Nat),cG n p->k+f=n->1<=k->Up lt p k->∃ q,b7 lt (kas_bin f p k)=q/\cG n q/\Up lt q n
 | 0,p,k,h,e,_,u=>by
  have hkn:k=n:=by omega
  subst hkn
  exact ⟨p,by unfold kas_bin;rfl,h,u⟩
 | f+1,p,k,h,e,h1,u=>by
  have hk:k<n:=by omega
  obtain ⟨x,ex,a,b,c⟩:=mT T h hk u k 0 k (Qr _) (Qh _) (by omega) (fun i q=>absurd q (Nat.not_lt_zero _)) (fun i q1 q2=>by omega)
  unfold kas_bin
  rw [fO,ex]
  refine rq T f (k+1) (h.bub hk (by omega)) (by omega) (by omega) fun i j hij hj=>?_
  rw [jk h.sz hk (by omega),jk h.sz hk (by omega)]
  have e1:k-(k-x)=x:=by omega
  rw [e1]
  by_cases hi:i=x
  ·rw [if_pos hi,if_neg (by omega),if_pos (by omega)]
   exact c _ (by omega) (by omega)
  ·rw [if_neg hi]
   by_cases hj':j=x
   ·rw [if_pos hj',if_neg (by omega)]
    exact b i (by omega)
   ·rw [if_neg hj']
    by_cases hix:x<i/\i<=k
    ·rw [if_pos hix,if_pos (by omega)]
     exact u _ _ (by omega) (by omega)
    ·rw [if_neg hix]
     by_cases hjx:x<j/\j<=k
     ·rw [if_pos hjx]
      by_cases e2:i=j-1
      ·omega
      ·exact u _ _ (by omega) (by omega)
     ·rw [if_neg hjx]
      exact u _ _ hij (by omega)
theorem zO (T:fq n lt) (h1:1<=n):∃ q,b7 lt (kas_sort n)=q/\cG n q/\Up lt q n:=by
 obtain ⟨r,q,e,a,b,c,d⟩:=zN T (cG.range n) h1
 unfold kas_sort
 rw [fO,e]
 dsimp only
 by_cases hr:r<n
 ·rw [if_pos hr,show max r 1=r by omega]
  exact rq T (n-r) r a (by omega) c b
 ·rw [if_neg hr]
  have:r=n:=by omega
  subst this
  exact ⟨q,rfl,a,b⟩
end
end L2
namespace L2
open PySem PySem.Spec PyProof.Rows PySem.W
theorem zP {a c:Str} (h:a.cps.toList=c.cps.toList):a=c:=by
 obtain ⟨x⟩:=a
 obtain ⟨y⟩:=c
 have:x=y:=Array.toList_inj.mp h
 rw [this]
theorem zR {a b c:ae} (h:cX a b=true) (g:cX b c=true):cX a c=true:=by
 cases a<;>cases b<;>cases c<;>simp only [cX,decide_eq_true_eq] at*<;>first | omega | exact List.lt_trans h g | cases h | cases g
theorem mU {a b:ae} (h:cX a b=true):cX b a=false:=by
 cases a<;>cases b<;>simp only [cX,decide_eq_true_eq,decide_eq_false_iff_not] at*<;>first | omega | exact List.lt_asymm h | cases h
theorem zS {a b:ae} (hs:b9 a=b9 b) (hn:a≠b) (h:cX a b=false):cX b a=true:=by
 cases a<;>cases b<;>simp only [cX,decide_eq_true_eq,decide_eq_false_iff_not] at *
 ·rename_i i j
  have:i≠j:=fun e=>hn (by rw [e])
  omega
 ·cases hs
 ·cases hs
 ·rename_i x y
  refine Classical.byContradiction fun g=>hn ?_
  rw [zP (List.le_antisymm (List.not_lt.mp g) (List.not_lt.mp h))]
theorem zT (a:ae):cX a a=false:=by
 cases h:cX a a with
 | false=>rfl
 | true=>have:=mU h;rw [h] at this;exact this
theorem rA:∀ {a b c:List ae},bV a b=true->bV b c=true->bV a c=true
 | a::r,b::q,c::p,h,g=>by
  unfold bV at h g ⊢
  by_cases e1:a=b
  ·subst e1
   rw [if_pos rfl] at h
   by_cases e2:a=c
   ·subst e2
    rw [if_pos rfl] at g ⊢
    exact rA h g
   ·rw [if_neg e2] at g ⊢
    exact g
  ·rw [if_neg e1] at h
   by_cases e2:b=c
   ·subst e2
    rw [if_neg e1]
    exact h
   ·rw [if_neg e2] at g
    have e3:a≠c:=fun z=>by
     subst z
     rw [mU h] at g
     cases g
    rw [if_neg e3]
    exact zR h g
 | [],_,_,h,_=>by unfold bV at h;cases h
 | _::_,[],_,h,_=>by unfold bV at h;cases h
 | _::_,_::_,[],_,g=>by unfold bV at g;cases g
theorem kH:∀ {a b:List ae},bV a b=true->bV b a=false
 | a::r,b::q,h=>by
  unfold bV at h ⊢
  by_cases e1:a=b
  ·subst e1
   rw [if_pos rfl] at h ⊢
   exact kH h
  ·rw [if_neg e1] at h
   rw [if_neg (Ne.symm e1)]
   exact mU h
 | [],_,h=>by unfold bV at h;cases h
 | _::_,[],h=>by unfold bV at h;cases h
theorem rB:∀ {a b:List ae},a.map b9=b.map b9->a≠b->bV a b=false->bV b a=true
 | a::r,b::q,hs,hn,h=>by
  unfold bV at h ⊢
  have hs':=List.cons.inj hs
  by_cases e1:a=b
  ·subst e1
   rw [if_pos rfl] at h ⊢
   exact rB hs'.2 (fun z=>hn (by rw [z])) h
  ·rw [if_neg e1] at h
   rw [if_neg (Ne.symm e1)]
   exact zS hs'.1 e1 h
 | [],[],_,hn,_=>absurd rfl hn
 | [],_::_,hs,_,_=>by cases hs
 | _::_,[],hs,_,_=>by cases hs
theorem rC:∀ {a b:List (List ae)},a.Pairwise (fun x y=>bV x y=true)->b.Pairwise (fun x y=>bV x y=true)->(∀ d,d∈a↔d∈b)->a=b
 | [],[],_,_,_=>rfl
 | [],y::b,_,_,h=>nomatch (h y).mpr QC
 | x::a,[],_,_,h=>nomatch (h x).mp QC
 | x::a,y::b,ha,hb,h=>by
  have ha':=List.pairwise_cons.mp ha
  have hb':=List.pairwise_cons.mp hb
  have e:x=y:=by
   rcases Qu ((h x).mp QC) with e | h1
   ·exact e
   ·rcases Qu ((h y).mpr QC) with e | h2
    ·exact e.symm
    ·have g1:=hb'.1 x h1
     have g2:=ha'.1 y h2
     rw [kH g1] at g2
     cases g2
  subst e
  have nx:∀ {l:List (List ae)},(∀ z∈l,bV x z=true)->x∉l:=fun hl hm=>by
   have:=hl x hm
   have g:=kH this
   rw [this] at g
   cases g
  rw [rC ha'.2 hb'.2 fun d=>?_]
  constructor
  ·intro hd
   rcases Qu ((h d).mp (Qz _ hd)) with e | g
   ·subst e;exact absurd hd (nx ha'.1)
   ·exact g
  ·intro hd
   rcases Qu ((h d).mpr (Qz _ hd)) with e | g
   ·subst e;exact absurd hd (nx hb'.1)
   ·exact g
theorem rD:∀ (n:Nat) (l:List Nat),l.Nodup->(∀ i∈l,i<n)->l.length<=n
 | 0,l,_,h=>by
  cases l with
  | nil=>exact Qh _
  | cons a r=>exact absurd (h a QC) (Nat.not_lt_zero _)
 | n+1,l,nd,h=>by
  have:=rD n (l.erase n) (nd.sublist List.erase_sublist) fun i hi=>by
   have h1:=h i (List.mem_of_mem_erase hi)
   have h2:i≠n:=fun e=>by
    subst e
    exact (List.Nodup.not_mem_erase nd) hi
   omega
  have h3:=List.length_erase (a:=n) (l:=l)
  split at h3<;>omega
theorem mV {ds:List (List ae)} {sh:List Bool} (hsh:∀ d∈ds,d.map b9=sh) (nd:ds.Nodup) :
  ((b8 ds).map fun i=>ds.getD i []).Pairwise (fun x y=>bV x y=true)/\(∀ i∈b8 ds,i<ds.length)/\∀ j,j<ds.length->j∈b8 ds:=by
 unfold b8
 by_cases h2:ds.length<2
 ·rw [if_pos h2]
  refine ⟨?_,fun i hi=>List.mem_range.mp hi,fun j hj=>List.mem_range.mpr hj⟩
  match ds,h2 with
  | [],_=>exact .nil
  | [a],_=>exact List.pairwise_singleton ..
 ·rw [if_neg h2]
  have gd:∀ i,i<ds.length->ds.getD i []∈ds:=fun i hi=>by
   rw [Qg,Qb hi]
   exact QJ hi
  have T:fq ds.length (cY ds):=⟨fun i j k hi hj hk a b=>rA a b,fun i j hi hj a=>kH a,fun i j hi hj hn a=>by
   refine rB ((hsh _ (gd i hi)).trans (hsh _ (gd j hj)).symm) (fun e=>hn ?_) a
   rw [Qg,Qg,Qb hi,Qb hj] at e
   have pw:=List.pairwise_iff_getElem.mp nd
   rcases Nat.lt_trichotomy i j with g | g | g
   ·exact absurd e (pw i j hi hj g)
   ·exact g
   ·exact absurd e.symm (pw j i hj hi g)⟩
  obtain ⟨q,eq,pa,up⟩:=zO T (by omega)
  have eq:dH ds.length (cY ds)=q:=eq
  rw [eq]
  have hq:∀ i (h:i<q.toList.length),q.toList[i]=q.getD i 0:=fun i h=>by
   rw [QG] at h
   rw [zM h]
   exact Array.getElem_toList ..
  have hl:q.toList.length=ds.length:=by rw [QG];exact pa.sz
  have lt:∀ i∈q.toList,i<ds.length:=fun i hi=>by
   obtain ⟨k,hk,rfl⟩:=List.mem_iff_getElem.mp hi
   rw [hq k hk]
   exact pa.lt k (by omega)
  have ndq:q.toList.Nodup:=by
   refine List.pairwise_iff_getElem.mpr fun i j hi hj hij e=>?_
   rw [hq i hi,hq j hj] at e
   have:=pa.ne i j (by omega) (by omega) e
   omega
  refine ⟨?_,lt,fun j hj=>Classical.byContradiction fun hn=>?_⟩
  ·rw [List.pairwise_map]
   refine List.pairwise_iff_getElem.mpr fun i j hi hj hij=>?_
   rw [hq i hi,hq j hj]
   exact up i j hij (by omega)
  ·have:=rD ds.length (j::q.toList) (List.nodup_cons.mpr ⟨hn,ndq⟩) fun i hi=>by
    rcases Qu hi with e | h
    ·omega
    ·exact lt i h
   rw [List.length_cons] at this
   omega
end L2
namespace L2
open PySem PySem.Spec PyProof.Rows PySem.W
noncomputable def cH (z:Str):List ae:=[.inr z]
theorem zU {a b:Str} (h:cH a=cH b):a=b:=by
 injection h with h _
 injection h
theorem rE (a b:Str):bV (cH a) (cH b)=decide (a.cps.toList<b.cps.toList):=by
 show (if (Sum.inr a:ae)=Sum.inr b then bV [] [] else cX (.inr a) (.inr b))=_
 by_cases h:a=b
 ·subst h
  rw [if_pos rfl]
  exact (zT (.inr a)).symm
 ·rw [if_neg (fun z=>h (Sum.inr.inj z))]
  rfl
section
variable {X:Cx} {pins:List (Addr × Obj)} {σ:St} {H:Hp} {s:Shared} {xs:List V} {ds:List (List ae)} {zs:List Str}
theorem zV {A:Around} {E:Value->Shared->Prop} {a:Addr} {its:List Value} {n:Nat} {P:Fin->Shared->Prop}
  (I:Inv X pins σ H s) (fa:ck X pins H a) (ho:s.heap.get? a=some (seqObj "list" its.toArray n)) (rv:aw xs its) (hz:xs.length<=sizeLine) (h64:xs.length<64) (hxs:xs=zs.map V.str) (hds:ds=zs.map cH)
  (fin:∀ (s':Shared) (out:Array Value) (n':Nat),Inv X pins σ H s'->s'.heap.get? a=some (seqObj "list" out n')->out.size<=sizeLine->aw (bq ds xs) out.toList->P (.done (.ret .none)) s') :
  wpAny (model X.prog X.w) A (Builtin.«list.sort» ⟨[.ref a],[]⟩) P E s:=by
 have hil:its.length=xs.length:=rv.length.symm
 rw [<- hil] at hz
 obtain ⟨f0,f1,f2,f3,f4,f5⟩:=id fa
 rw [list_sort_plain]
 refine Qa (listItems_at ho rfl ?_)
 refine Qa (listUpdate_at ho rfl ?_ (by rw [Ql];exact hz) (by show (#[]:Array Value).size<=_;simp))
 obtain ⟨e1,ho1⟩:∃ e1,(s.heap.update a (Obj.mapSeq fun _=>#[])).get? a=some (seqObj "list" #[] e1):=⟨_,get?_update_seq ho (fun _=>#[])⟩
 have I1:Inv X pins σ H { s with heap:=s.heap.update a (Obj.mapSeq fun _=>#[]) }:=I.turned (t':=s.toks) (fun b o hb e=>by rw [QI _ _ _ _ hb];exact e) f0 f1 f3 f4 f5
 generalize s.heap.update a (Obj.mapSeq fun _=>#[])=h1 at ho1 I1
 refine Qa (seqEpoch_at (s:={ s with heap:=h1 }) ho1 rfl ?_)
 refine Qa (wpAny_newTuple (s:={ s with heap:=h1 }) ?_ (by simpa using hz))
 have ho2:=Qe (seqObj "tuple" its.toArray.toList.toArray 0) ho1
 have I2:Inv X pins σ H { s with heap:=h1.push (seqObj "tuple" its.toArray.toList.toArray 0) }:=I1.kept (t':=s.toks) fun b o e=>Qe _ e
 change wpAny _ _ _ _ _ { s with heap:=h1.push (seqObj "tuple" its.toArray.toList.toArray 0) }
 generalize h1.push (seqObj "tuple" its.toArray.toList.toArray 0)=h2 at ho2 I2
 refine Qa (wpAny_newList (s:={ s with heap:=h2 }) ?_ (by simp))
 have ho3:=Qe (seqObj "list" #[] 0) ho2
 have I3:Inv X pins σ H { s with heap:=h2.push (seqObj "list" #[] 0) }:=I2.kept (t':=s.toks) fun b o e=>Qe _ e
 change wpAny _ _ _ _ _ { s with heap:=h2.push (seqObj "list" #[] 0) }
 generalize h2.push (seqObj "list" #[] 0)=h3 at ho3 I3
 dsimp only
 refine wpAny_holding ?_
 have ho3:({ s with heap:=h3 }:Shared).heap.get? a=some (seqObj "list" #[] e1):=ho3
 generalize { s with heap:=h3 }=s3 at I3 ho3 ⊢
 have last:∀ st':SortSt,failedOf st'=none->((arrOf st').map (·.2)).size<=sizeLine->aw (bq ds xs) ((arrOf st').map (·.2)).toList->wpAny (model X.prog X.w) A (do
   let __do_lift <- seqEpoch a
   Builtin.List.listUpdate (Value.ref a) fun x=>Array.map (fun x=>x.snd) (arrOf st')
   match failedOf st' with
    | some e=>do
     rule "list.sort.comparison-raised"
     throw e
     if (__do_lift != e1)=true then do
         rule "list.sort.modified"
         raiseErrorWords "ValueError" "list modified during sort"
         ret Value.none
      else ret Value.none
    | x =>
     if (__do_lift != e1)=true then do
      rule "list.sort.modified"
      raiseErrorWords "ValueError" "list modified during sort"
      ret Value.none
     else ret Value.none) P E s3:=by
  intro st' hf hsz hv
  refine Qa (seqEpoch_at ho3 rfl ?_)
  refine Qa (listUpdate_at ho3 rfl ?_ (by simp) (Nat.le_succ_of_le hsz))
  rw [hf]
  simp only [bne_self_eq_false,Bool.false_eq_true,if_false]
  exact Qd (fin _ _ _ (I3.turned (t':=s3.toks) (fun b o hb e=>by rw [QI _ _ _ _ hb];exact e) f0 f1 f3 f4 f5) (get?_update_seq ho3 (fun _=>(arrOf st').map (·.2))) hsz hv)
 have hdl:ds.length=its.length:=by rw [hil,hxs,hds,Qf,Qf]
 by_cases h2:its.toArray.size<2
 ·rw [if_pos h2]
  refine Qa (Qd ?_)
  rw [if_pos h2,StateT.run_pure]
  refine Qa (Qd ?_)
  have e:((arrOf (SortSt.mk' general' (its.toArray.zip its.toArray) #[] 7 none)).map (·.2))=its.toArray:=by
   show (its.toArray.zip its.toArray).map (·.2)=its.toArray
   rw [<- Array.toList_inj]
   simp [List.map_snd_zip]
  refine last _ rfl (by rw [e,Ql];exact hz) ?_
  rw [e]
  rw [Ql] at h2
  unfold bq b8
  rw [if_pos (by rw [hdl];exact h2),hdl,hil,hW]
  exact rv
 ·rw [if_neg h2]
  rw [Ql] at h2
  have hds2:2<=its.length:=by omega
  have hstr:∀ i,i<its.length->∃ t,its.getD i Value.none=.str (zs.getD i ⟨#[]⟩) t/\ds.getD i []=cH (zs.getD i ⟨#[]⟩):=fun i hi=>by
   have hix:i<xs.length:=by rw [<- hil];exact hi
   have hiz:i<zs.length:=by rw [hxs,Qf] at hix;exact hix
   have rg:=je rv i hix
   have e1:xs.getD i .non=.str zs[i]:=by rw [hxs,Qg,Qk,Qb hiz];rfl
   have e2:zs.getD i ⟨#[]⟩=zs[i]:=by rw [Qg,Qb hiz];rfl
   rw [e1] at rg
   obtain ⟨t,et⟩:=(show ∃ t,_=Value.str zs[i] t from rg)
   exact ⟨t,by rw [et,e2],by rw [hds,Qg,Qk,Qb hiz,e2];rfl⟩
  refine Qa (kas_kind (T:=Value.type "str") hds2 (fun v hv=>?_) (by decide) (by decide) ?_)
  ·obtain ⟨i,hi⟩:=List.mem_iff_getElem?.mp hv
   have hil2:=(Qc hi).1
   obtain ⟨t,e1,_⟩:=hstr i hil2
   rw [Qg,hi] at e1
   have e1:v=_:=e1
   rw [e1]
   exact fun A Q E s _ q=>Qd q
  rw [if_neg (by rw [Ql];exact h2)]
  refine Qa (QL (mF (vs:=its) (ks:=its) (lt:=cY ds) rfl hds2 (by rw [hil];exact h64) fun i j hi hj C hC=>?_) ?_ fun _ _ e=>e)
  ·obtain ⟨t1,a1,a2⟩:=hstr i hi
   obtain ⟨t2,c1,c2⟩:=hstr j hj
   show wpAny (model X.prog X.w) A (keyLt' _ (its.getD i Value.none) (its.getD j Value.none)) C _ s3
   rw [a1,c1]
   refine kas_lt_str ?_
   unfold cY at hC
   rw [a2,c2,rE] at hC
   exact hC
  rintro ⟨⟨⟩,st'⟩ s2 ⟨rfl,hf,hsz,ha⟩
  have hp:bp its.length (dH its.length (cY ds)):=kj _ (by omega)
  have em:((arrOf st').map (·.2)).toList=(dH its.length (cY ds)).toList.map fun i=>its.getD i Value.none:=by
   rw [ha,Array.toList_map,Array.toList_map,List.map_map]
   refine List.map_congr_left fun i _=>?_
   show (kas_item (its.toArray.zip its.toArray) i).2=_
   rw [kat_item rfl]
  refine last st' hf ?_ ?_
  ·rw [Array.size_map,hsz];exact hz
  ·rw [em]
   unfold bq b8
   rw [if_neg (by rw [hdl];exact h2),hdl]
   exact km rv _ fun i hi=>by rw [<- hil];exact hp i hi
theorem zW (hc:X.calm=true):c9 X (.builtin "sorted") (fun as H Q=>∃ (q0:Addr) (zs:List Str),as=[.ref q0]/\H q0=some (kE X.prog X.w q0 zs)/\zs.Nodup/\zs.length<64 /\
  ∀ (p:Addr) (rs:List Str),H p=none->rs.Pairwise (fun x y=>x.cps.toList<y.cps.toList)->(∀ z,z∈rs↔z∈zs)->Q (.ref p) (af H p (.lst (rs.map V.str)))):=by
 intro pins s σ H as us Q I r h
 obtain ⟨q0,zs,rfl,hq0,nd,h64,q⟩:=h
 obtain ⟨u,rfl,ru⟩:=vals1 r
 cases (show u=Value.ref q0 from ru)
 obtain ⟨⟨o,es,ep,t,T⟩,_,_⟩:=I.hok q0 _ hq0
 have hel:es.size=zs.length:=T.size
 refine Calls.call_function_entry kind_sorted plain_sorted entry_sorted (args_sorted1 _) ?_
 unfold Builtin.«sorted»
 refine Qa (m:=checkCount "sorted" 1 1 _) (Qd ?_)
 refine Qa (zL (I.ok.hd hc) T.sw (by omega) fun h1 tk d' vs hk hp=>?_)
 have I1:Inv X pins σ H { s with heap:=h1,toks:=tk,drawn:=d' }:=let J:=I.kept (t':=tk) hk;⟨J.ok,J.os,J.bare,J.base,J.loc,J.cell,J.free,J.freeC,J.pin,J.hok,J.len⟩
 obtain ⟨ys,rv,ey⟩:∃ ys:List Str,aw (ys.map V.str) vs/\ys=vs.map gr:=by
  have hv:∀ v∈vs,∃ z u,v=.str z u:=fun v hv=>by
   obtain ⟨e,he,rfl⟩:=QE (hp.mem_iff.mp hv)
   obtain ⟨z,u,e1,_⟩:=T.el e he
   exact ⟨z,u,e1⟩
  have go:∀ vs:List Value,(∀ v∈vs,∃ z u,v=.str z u)->∃ ys:List Str,aw (ys.map V.str) vs/\ys=vs.map gr:=by
   intro vs
   induction vs with
   | nil=>intro _;exact ⟨[],.nil,rfl⟩
   | cons v vs ih =>
    intro h
    obtain ⟨z,u,rfl⟩:=h v QC
    obtain ⟨ys,e,hy⟩:=ih fun u hu=>h u (Qz _ hu)
    exact ⟨z::ys,.cons ⟨u,rfl⟩ e,by rw [hy];rfl⟩
  exact go vs hv
 have hyp:ys.Perm zs:=by
  rw [ey]
  refine List.Perm.trans ?_ T.pm
  have:=hp.map gr
  rw [List.map_map] at this
  exact this
 have hyl:ys.length<64:=by rw [hyp.length_eq];exact h64
 have ndy:(ys.map cH).Nodup:=by
  have h0:ys.Nodup:=hyp.nodup_iff.mpr nd
  refine List.pairwise_map.mpr (h0.imp fun h e=>h (zU e))
 have hsh:∀ d∈ys.map cH,d.map b9=[false]:=fun d hd=>by
  obtain ⟨z,_,rfl⟩:=QE hd
  rfl
 obtain ⟨u1,u2,u3⟩:=mV hsh ndy
 have hvl:vs.length=ys.length:=by rw [<- rv.length,Qf]
 have hz:vs.length<=sizeLine:=Nat.le_of_lt (cR (by omega))
 refine Qa (wpAny_newList (s:={ s with heap:=h1,toks:=tk,drawn:=d' }) ?_ hz)
 have hoL:(h1.push (seqObj "list" vs.toArray 0)).get? h1.objs.size=some (seqObj "list" vs.toArray 0):=Qj _ rfl
 have I2:Inv X pins σ H { s with heap:=h1.push (seqObj "list" vs.toArray 0),toks:=tk,drawn:=d' }:=I1.kept (t':=tk) fun b o e=>Qe _ e
 have fL:ck X pins H h1.objs.size:=I1.fpOk (Qh _) (I1.hok.fresh (Qh _))
 change wpAny _ _ _ _ _ { s with heap:=h1.push (seqObj "list" vs.toArray 0),toks:=tk,drawn:=d' }
 dsimp only
 generalize h1.push (seqObj "list" vs.toArray 0)=h2 at hoL I2
 generalize h1.objs.size=LL at hoL fL
 refine Qa (wpAny_holding (wpAny_call_entry (s:={ s with heap:=h2,toks:=tk,drawn:=d' }) slot_list_sort ⟨_,hoL,rfl⟩ entry_list_sort (zV (zs:=ys) I2 fL hoL rv (by rw [Qf];exact Nat.le_of_lt (cR (by omega))) (by rw [Qf];exact hyl) rfl rfl fun s' out n' I' hoa hos vy=>⟨_,rfl,?_⟩) (args_list_sort _)))
 have gz:∀ i∈b8 (ys.map cH),i<ys.length:=fun i hi=>by have:=u2 i hi;rwa [Qf] at this
 have esr:bq (ys.map cH) (ys.map V.str)=((b8 (ys.map cH)).map fun i=>ys.getD i ⟨#[]⟩).map V.str:=by
  unfold bq
  rw [List.map_map]
  refine List.map_congr_left fun i hi=>?_
  show (ys.map V.str).getD i .non=V.str (ys.getD i ⟨#[]⟩)
  rw [Qg,Qg,Qk,Qb (gz i hi)]
  rfl
 have hmE:∀ z,z∈((b8 (ys.map cH)).map fun i=>ys.getD i ⟨#[]⟩)↔z∈zs:=fun z=>by
  rw [<- hyp.mem_iff,List.mem_map]
  constructor
  ·rintro ⟨i,hi,rfl⟩
   rw [Qg,Qb (gz i hi)]
   exact QJ _
  ·intro hd
   obtain ⟨j,hj,rfl⟩:=List.mem_iff_getElem.mp hd
   exact ⟨j,u3 j (by rw [Qf];exact hj),by rw [Qg,Qb hj];rfl⟩
 have hpw:((b8 (ys.map cH)).map fun i=>ys.getD i ⟨#[]⟩).Pairwise (fun x y=>x.cps.toList<y.cps.toList):=by
  rw [List.pairwise_map] at u1 ⊢
  refine List.Pairwise.imp_of_mem (fun {a b} ha hb h=>?_) u1
  have ga:(ys.map cH).getD a []=cH (ys.getD a ⟨#[]⟩):=by rw [Qg,Qg,Qk,Qb (gz a ha)];rfl
  have gb:(ys.map cH).getD b []=cH (ys.getD b ⟨#[]⟩):=by rw [Qg,Qg,Qk,Qb (gz b hb)];rfl
  rw [ga,gb,rE] at h
  exact of_decide_eq_true h
 rw [esr] at vy
 refine Qd ⟨_,rfl,.ref LL,af H LL (.lst (((b8 (ys.map cH)).map fun i=>ys.getD i ⟨#[]⟩).map V.str)),I'.adopt fL ?_,rfl,q LL _ fL.1 hpw hmE⟩
 have hyl2:(((b8 (ys.map cH)).map fun i=>ys.getD i ⟨#[]⟩).map V.str).length<=sizeLine:=by rw [vy.length,QG];exact hos
 exact ⟨hyl2,out.toList,n',vy,by simpa using hoa⟩
end
theorem zX (σ:List Str) (v u:Str):u∈dI σ v↔u∈σ∨u=v:=by
 unfold dI
 split
 ·rename_i h
  obtain ⟨x,hx,e⟩:=List.any_eq_true.mp h
  have e:x=v:=by simpa using e
  exact ⟨.inl,fun z=>z.elim id fun e2=>by rw [e2,<- e];exact hx⟩
 ·simp
theorem zY {σ:List Str} (h:σ.Nodup) (v:Str):(dI σ v).Nodup:=by
 unfold dI
 split
 ·exact h
 ·rename_i hv
  rw [List.nodup_append]
  refine ⟨h,by simp,fun a ha b hb e=>hv (List.any_eq_true.mpr ⟨a,ha,?_⟩)⟩
  have:b=v:=by simpa using hb
  rw [e,this];simp
theorem rF (val:Nat->Str):∀ i,(dz val i).Nodup
 | 0=>.nil
 | i+1=>by rw [kB];exact zY (rF val i) _
theorem rG (val:Nat->Str) (u:Str):∀ i,u∈dz val i↔∃ j,j<i/\val j=u
 | 0=>⟨fun h=>(nomatch h),fun ⟨j,h,_⟩=>absurd h (Nat.not_lt_zero _)⟩
 | i+1=>by
  rw [kB,zX,rG val u i]
  constructor
  ·rintro (⟨j,h1,h2⟩ | rfl)
   ·exact ⟨j,by omega,h2⟩
   ·exact ⟨i,by omega,rfl⟩
  ·rintro ⟨j,h1,h2⟩
   by_cases e:j=i
   ·exact .inr (by rw [<- h2,e])
   ·exact .inl ⟨j,by omega,h2⟩
theorem rH (zs:List Str):(fP zs).Nodup:=rF _ _
theorem rJ (zs:List Str) (z:Str):z∈fP zs↔z∈zs:=by
 unfold fP
 rw [rG]
 constructor
 ·rintro ⟨j,hj,rfl⟩
  rw [Qg,Qb hj]
  exact QJ hj
 ·intro h
  obtain ⟨j,hj,rfl⟩:=List.mem_iff_getElem.mp h
  exact ⟨j,hj,by rw [Qg,Qb hj];rfl⟩
end L2
namespace K44
open PySem L2 Mm
noncomputable def bi (i:Nat):Stmt:=PySem.Challenge.pw_manymakes_k44_records_of_fields.main.body.getD i (.Pass ⟨0,0,0,0⟩)
noncomputable abbrev mW:Stmt:=bi 1
noncomputable abbrev mX:Stmt:=bi 2
noncomputable abbrev mY:Stmt:=bi 3
noncomputable abbrev kI:Stmt:=bi 4
noncomputable abbrev mZ:Stmt:=bi 5
noncomputable abbrev kJ:Stmt:=bi 6
noncomputable abbrev kK:Stmt:=bi 8
noncomputable abbrev kL:Stmt:=bi 9
noncomputable abbrev m4:Stmt:=bi 10
noncomputable abbrev kM:Stmt:=bi 11
noncomputable abbrev kN:Stmt:=bi 12
noncomputable abbrev kO:Stmt:=bi 13
noncomputable abbrev m5:Stmt:=bi 16
noncomputable abbrev m6:Stmt:=bi 17
noncomputable abbrev m7:Stmt:=bi 18
noncomputable abbrev m8:Stmt:=bi 19
noncomputable abbrev kP:Stmt:=bi 24
noncomputable abbrev m9:Stmt:=bi 25
noncomputable abbrev ng:Stmt:=bi 26
noncomputable abbrev nh:Stmt:=bi 27
noncomputable abbrev kR:Stmt:=bi 28
noncomputable abbrev ni:Stmt:=bi 30
noncomputable abbrev nj:Stmt:=bi 31
noncomputable abbrev kT:Stmt:=bi 32
noncomputable abbrev kU:Stmt:=bi 33
noncomputable abbrev nk:Stmt:=bi 34
noncomputable abbrev kW:Stmt:=bi 35
noncomputable abbrev np:Stmt:=bi 36
noncomputable abbrev kY:Stmt:=bi 37
noncomputable abbrev nq:Stmt:=bi 38
noncomputable abbrev nr:Stmt:=eL (bi 23) 0
noncomputable abbrev nu:Stmt:=eL (bi 23) 1
noncomputable abbrev nv:Stmt:=eL (bi 23) 2
noncomputable abbrev kZ:Stmt:=eL (bi 23) 3
noncomputable abbrev k4:Stmt:=eL (bi 23) 4
noncomputable abbrev nw:Stmt:=eL (bi 23) 5
noncomputable abbrev ny:Stmt:=eL (bi 23) 6
noncomputable abbrev jl:Stmt:=eL (bi 23) 7
noncomputable abbrev nz:Stmt:=eL (bi 23) 8
noncomputable abbrev k6:Stmt:=eL (bi 23) 9
noncomputable abbrev k7:Stmt:=bi 39
structure bG where
 ZP:Addr
 ZK:Addr
 ZM:Addr
 Zs:Addr
 ZN:Addr
 Zt:Addr
 Zw:Addr
 Zj:Addr
 Zk:Addr
 Zx:Addr
 Zh:Addr
 Zy:Addr
 Zu:Addr
 ZF:Addr
 ZL:Addr
 ZG:Addr
 ZQ:Addr
 ZA:Addr
 ZO:Addr
 Zn:Addr
 Zq:Addr
 Zr:Addr
 ZB:Addr
 ZC:Addr
 Zv:Addr
 ZH:Addr
 ZD:Addr
 ZI:Addr
 ZJ:Addr
 ZE:Addr
 Zl:Addr
 Zm:Addr
 Zb:Addr
 Zd:Addr
 Ze:Addr
 Zf:Addr
 Zp:Addr
 Zg:Addr
 Zc:Addr
 Za:Addr
 c_KindLook:Addr
 d_MAKES:Addr
 d_ASKS:Addr
 q_PLAIN_KINDS:Addr
structure bH where
 ZP:FuncData
 ZK:FuncData
 ZM:FuncData
 Zs:FuncData
 ZN:FuncData
 Zt:FuncData
 Zw:FuncData
 Zj:FuncData
 Zk:FuncData
 Zx:FuncData
 Zh:FuncData
 Zy:FuncData
 Zu:FuncData
 ZF:FuncData
 ZL:FuncData
 ZG:FuncData
 ZQ:FuncData
 ZA:FuncData
 ZO:FuncData
 Zn:FuncData
 Zq:FuncData
 Zr:FuncData
 ZB:FuncData
 ZC:FuncData
 Zv:FuncData
 ZH:FuncData
 ZD:FuncData
 ZI:FuncData
 ZJ:FuncData
 ZE:FuncData
 Zl:FuncData
 Zm:FuncData
 Zb:FuncData
 Zd:FuncData
 Ze:FuncData
 Zf:FuncData
 Zp:FuncData
 Zg:FuncData
 Zc:FuncData
 Za:FuncData
structure All (P:Program) (w:World) (K:W.Frag) (mg:Str->Option Value) (A:bG) (D:bH):Prop where
 m_ZP:mg "least"=some (.ref A.ZP)
 k_ZP:W.keepIn K (.ref A.ZP)=true
 F_ZP:a9 K "least" "least" mW A.ZP D.ZP
 b_ZP:Binds K D.ZP ["mask"] []
 m_ZK:mg "without"=some (.ref A.ZK)
 k_ZK:W.keepIn K (.ref A.ZK)=true
 F_ZK:a9 K "without" "without" mX A.ZK D.ZK
 b_ZK:Binds K D.ZK ["mask","other"] []
 m_ZM:mg "all_of"=some (.ref A.ZM)
 k_ZM:W.keepIn K (.ref A.ZM)=true
 F_ZM:a9 K "all_of" "all_of" mY A.ZM D.ZM
 b_ZM:Binds K D.ZM ["pairs"] []
 m_Zs:mg "kept_pairs"=some (.ref A.Zs)
 k_Zs:W.keepIn K (.ref A.Zs)=true
 F_Zs:a9 K "kept_pairs" "kept_pairs" kI A.Zs D.Zs
 b_Zs:Binds K D.Zs ["pairs","mask"] []
 m_ZN:mg "add_to"=some (.ref A.ZN)
 k_ZN:W.keepIn K (.ref A.ZN)=true
 F_ZN:a9 K "add_to" "add_to" mZ A.ZN D.ZN
 b_ZN:Binds K D.ZN ["found","key","mask"] []
 m_Zt:mg "with_masks"=some (.ref A.Zt)
 k_Zt:W.keepIn K (.ref A.Zt)=true
 F_Zt:a9 K "with_masks" "with_masks" kJ A.Zt D.Zt
 b_Zt:Binds K D.Zt ["found"] []
 m_Zw:mg "kept_tree"=some (.ref A.Zw)
 k_Zw:W.keepIn K (.ref A.Zw)=true
 F_Zw:a9 K "kept_tree" "kept_tree" kK A.Zw D.Zw
 b_Zw:Binds K D.Zw ["tree","mask"] []
 m_Zj:mg "kept_statement"=some (.ref A.Zj)
 k_Zj:W.keepIn K (.ref A.Zj)=true
 F_Zj:a9 K "kept_statement" "kept_statement" kL A.Zj D.Zj
 b_Zj:Binds K D.Zj ["one","mask"] []
 m_Zk:mg "row_and_least"=some (.ref A.Zk)
 k_Zk:W.keepIn K (.ref A.Zk)=true
 F_Zk:a9 K "row_and_least" "row_and_least" m4 A.Zk D.Zk
 b_Zk:Binds K D.Zk ["pair"] []
 m_Zx:mg "shared_of"=some (.ref A.Zx)
 k_Zx:W.keepIn K (.ref A.Zx)=true
 F_Zx:a9 K "shared_of" "shared_of" kM A.Zx D.Zx
 b_Zx:Binds K D.Zx ["tree"] []
 m_Zh:mg "shared_statement"=some (.ref A.Zh)
 k_Zh:W.keepIn K (.ref A.Zh)=true
 F_Zh:a9 K "shared_statement" "shared_statement" kN A.Zh D.Zh
 b_Zh:Binds K D.Zh ["one"] []
 m_Zy:mg "blocks_of"=some (.ref A.Zy)
 k_Zy:W.keepIn K (.ref A.Zy)=true
 F_Zy:a9 K "blocks_of" "blocks_of" kO A.Zy D.Zy
 b_Zy:Binds K D.Zy ["one"] []
 m_Zu:mg "first_rows"=some (.ref A.Zu)
 k_Zu:W.keepIn K (.ref A.Zu)=true
 F_Zu:a9 K "first_rows" "first_rows" m5 A.Zu D.Zu
 b_Zu:Binds K D.Zu ["tree"] []
 m_ZF:mg "pairs_of"=some (.ref A.ZF)
 k_ZF:W.keepIn K (.ref A.ZF)=true
 F_ZF:a9 K "pairs_of" "pairs_of" m6 A.ZF D.ZF
 b_ZF:Binds K D.ZF ["one"] []
 m_ZL:mg "expr_of"=some (.ref A.ZL)
 k_ZL:W.keepIn K (.ref A.ZL)=true
 F_ZL:a9 K "expr_of" "expr_of" m7 A.ZL D.ZL
 b_ZL:Binds K D.ZL ["one"] []
 m_ZG:mg "exprs_in"=some (.ref A.ZG)
 k_ZG:W.keepIn K (.ref A.ZG)=true
 F_ZG:a9 K "exprs_in" "exprs_in" m8 A.ZG D.ZG
 b_ZG:Binds K D.ZG ["e"] []
 m_ZQ:mg "unfit"=some (.ref A.ZQ)
 k_ZQ:W.keepIn K (.ref A.ZQ)=true
 F_ZQ:a9 K "unfit" "unfit" kP A.ZQ D.ZQ
 b_ZQ:Binds K D.ZQ ["kinds","due"] []
 m_ZA:mg "is_record"=some (.ref A.ZA)
 k_ZA:W.keepIn K (.ref A.ZA)=true
 F_ZA:a9 K "is_record" "is_record" m9 A.ZA D.ZA
 b_ZA:Binds K D.ZA ["kind"] []
 m_ZO:mg "giving"=some (.ref A.ZO)
 k_ZO:W.keepIn K (.ref A.ZO)=true
 F_ZO:a9 K "giving" "giving" ng A.ZO D.ZO
 b_ZO:Binds K D.ZO ["body"] []
 m_Zn:mg "shared_kinds"=some (.ref A.Zn)
 k_Zn:W.keepIn K (.ref A.Zn)=true
 F_Zn:a9 K "shared_kinds" "shared_kinds" nh A.Zn D.Zn
 b_Zn:Binds K D.Zn ["tree","mask"] []
 m_Zq:mg "plain_kinds"=some (.ref A.Zq)
 k_Zq:W.keepIn K (.ref A.Zq)=true
 F_Zq:a9 K "plain_kinds" "plain_kinds" kR A.Zq D.Zq
 b_Zq:Binds K D.Zq ["tree"] []
 m_Zr:mg "_law_cell_at"=some (.ref A.Zr)
 k_Zr:W.keepIn K (.ref A.Zr)=true
 F_Zr:a9 K "_law_cell_at" "_law_cell_at" ni A.Zr D.Zr
 b_Zr:Binds K D.Zr ["_law_script","_law_k"] []
 m_ZB:mg "_law_mixed"=some (.ref A.ZB)
 k_ZB:W.keepIn K (.ref A.ZB)=true
 F_ZB:a9 K "_law_mixed" "_law_mixed" nj A.ZB D.ZB
 b_ZB:Binds K D.ZB ["_law_cell","_law_k"] []
 m_ZC:mg "_law_names"=some (.ref A.ZC)
 k_ZC:W.keepIn K (.ref A.ZC)=true
 F_ZC:a9 K "_law_names" "_law_names" kT A.ZC D.ZC
 b_ZC:Binds K D.ZC ["_law_number"] []
 m_Zv:mg "_law_fields"=some (.ref A.Zv)
 k_Zv:W.keepIn K (.ref A.Zv)=true
 F_Zv:a9 K "_law_fields" "_law_fields" kU A.Zv D.Zv
 b_Zv:Binds K D.Zv ["_law_number","_law_names_here"] []
 m_ZH:mg "_law_expr"=some (.ref A.ZH)
 k_ZH:W.keepIn K (.ref A.ZH)=true
 F_ZH:a9 K "_law_expr" "_law_expr" nk A.ZH D.ZH
 b_ZH:Binds K D.ZH ["_law_number","_law_known","_law_records","_law_names_here","_law_deep"] []
 m_ZD:mg "_law_parts"=some (.ref A.ZD)
 k_ZD:W.keepIn K (.ref A.ZD)=true
 F_ZD:a9 K "_law_parts" "_law_parts" kW A.ZD D.ZD
 b_ZD:Binds K D.ZD ["_law_e","_law_records","_law_names_here"] []
 m_ZI:mg "_law_kind"=some (.ref A.ZI)
 k_ZI:W.keepIn K (.ref A.ZI)=true
 F_ZI:a9 K "_law_kind" "_law_kind" np A.ZI D.ZI
 b_ZI:Binds K D.ZI ["_law_e","_law_known","_law_records","_law_names_here","_law_wrong"] []
 m_ZJ:mg "_law_head"=some (.ref A.ZJ)
 k_ZJ:W.keepIn K (.ref A.ZJ)=true
 F_ZJ:a9 K "_law_head" "_law_head" kY A.ZJ D.ZJ
 b_ZJ:Binds K D.ZJ ["_law_script","_law_names_here"] []
 m_ZE:mg "_law_built"=some (.ref A.ZE)
 k_ZE:W.keepIn K (.ref A.ZE)=true
 F_ZE:a9 K "_law_built" "_law_built" nq A.ZE D.ZE
 b_ZE:Binds K D.ZE ["_law_script"] []
 M_KindLook:Mk K A.c_KindLook A.Zl
 k_Zl:W.keepIn K (.ref A.Zl)=true
 F_Zl:a9 K "__init__" "KindLook.__init__" nr A.Zl D.Zl
 b_Zl:Binds K D.Zl ["self","tree"] []
 M_Zm:eA K A.c_KindLook "note" A.Zm
 k_Zm:W.keepIn K (.ref A.Zm)=true
 F_Zm:a9 K "note" "KindLook.note" nu A.Zm D.Zm
 b_Zm:Binds K D.Zm ["self","mask","at","what"] []
 M_Zb:eA K A.c_KindLook "look_body" A.Zb
 k_Zb:W.keepIn K (.ref A.Zb)=true
 F_Zb:a9 K "look_body" "KindLook.look_body" nv A.Zb D.Zb
 b_Zb:Binds K D.Zb ["self","statements","names","due"] []
 M_Zd:eA K A.c_KindLook "look_def" A.Zd
 k_Zd:W.keepIn K (.ref A.Zd)=true
 F_Zd:a9 K "look_def" "KindLook.look_def" kZ A.Zd D.Zd
 b_Zd:Binds K D.Zd ["self","mask","one"] []
 M_Ze:eA K A.c_KindLook "look_row" A.Ze
 k_Ze:W.keepIn K (.ref A.Ze)=true
 F_Ze:a9 K "look_row" "KindLook.look_row" k4 A.Ze D.Ze
 b_Ze:Binds K D.Ze ["self","one","kinds","names","due"] []
 M_Zf:eA K A.c_KindLook "look_set" A.Zf
 k_Zf:W.keepIn K (.ref A.Zf)=true
 F_Zf:a9 K "look_set" "KindLook.look_set" nw A.Zf D.Zf
 b_Zf:Binds K D.Zf ["self","one","kinds","names"] []
 M_Zp:eA K A.c_KindLook "ask" A.Zp
 k_Zp:W.keepIn K (.ref A.Zp)=true
 F_Zp:a9 K "ask" "KindLook.ask" ny A.Zp D.Zp
 b_Zp:Binds K D.Zp ["self","mask","e","due","at","names"] []
 M_Zg:eA K A.c_KindLook "kinds_of" A.Zg
 k_Zg:W.keepIn K (.ref A.Zg)=true
 F_Zg:a9 K "kinds_of" "KindLook.kinds_of" jl A.Zg D.Zg
 b_Zg:Binds K D.Zg ["self","mask","e","at","names"] []
 M_Zc:eA K A.c_KindLook "used_rows" A.Zc
 k_Zc:W.keepIn K (.ref A.Zc)=true
 F_Zc:a9 K "used_rows" "KindLook.used_rows" nz A.Zc D.Zc
 b_Zc:Binds K D.Zc ["self","mask","e","word","at","names"] []
 M_Za:eA K A.c_KindLook "field_kinds" A.Za
 k_Za:W.keepIn K (.ref A.Za)=true
 F_Za:a9 K "field_kinds" "KindLook.field_kinds" k6 A.Za D.Za
 b_Za:Binds K D.Za ["self","mask","kind","field","at"] []
 m_KindLook:mg "KindLook"=some (.ref A.c_KindLook)
 cl_KindLook:eJ K A.c_KindLook
 na_KindLook_faults:fF K A.c_KindLook "faults"
 na_KindLook_firsts:fF K A.c_KindLook "firsts"
 ty_KindLook:∀ (H:Hp) (a dx:Addr) (fs:List (Str × V)),H a=some (.ins A.c_KindLook dx fs)->cQ K H (.ref a) (.ref A.c_KindLook)
 is_KindLook:W.kitOne K (.ref A.c_KindLook) (.ref A.c_KindLook)=some true
 m_MAKES:mg "MAKES"=some (.ref A.d_MAKES)
 D_MAKES:gq P w K A.d_MAKES [("num","num"),("truth","truth"),("+","num"),("-","num"),("*","num"),("less","truth"),("same","truth"),("and","truth"),("or","truth"),("not","truth")]
 m_ASKS:mg "ASKS"=some (.ref A.d_ASKS)
 D_ASKS:gq P w K A.d_ASKS [("+","num"),("-","num"),("*","num"),("less","num"),("same","num"),("and","truth"),("or","truth"),("not","truth")]
 m_PLAIN_KINDS:mg "PLAIN_KINDS"=some (.ref A.q_PLAIN_KINDS)
 Q_PLAIN_KINDS:∀ H,ah K H A.q_PLAIN_KINDS [.str "num",.str "truth"]
 n_len:mg "len"=none
 n_range:mg "range"=none
 n_list:mg "list"=none
 n_dict:mg "dict"=none
 n_tuple:mg "tuple"=none
 n_sorted:mg "sorted"=none
 n_enumerate:mg "enumerate"=none
 n_isinstance:mg "isinstance"=none
 n_zip:mg "zip"=none
 n_set:mg "set"=none
theorem ao {H:Hp} {p:Addr} {o:HO} (h:H p=none):Same H (af H p o):=fun b u e=>by rw [ar (cD e h)];exact e
section
variable {P:Program} {w:World} {K:W.Frag} {mg:Str->Option Value} {base:Heap} {AA:bG} {DD:bH}
theorem c0 {H:Hp} {sh:Bool} {vs:List V} {p:bF} {ps:List bF} (h:PsAt H sh vs (p::ps)):∃ v r,vs=v::r/\PAt H sh v p/\PsAt H sh r ps:=by
 cases h with | cons a b=>exact ⟨_,_,rfl,a,b⟩
theorem jm {H:Hp} {sh:Bool} {vs:List V} (h:PsAt H sh vs []):vs=[]:=by cases h;rfl
theorem ib {H:Hp} {sh:Bool} {v:V} {z:Str} (h:PAt H sh v (.s z)):v=.str z:=by cases h;rfl
theorem zZ {H:Hp} {sh:Bool} {v:V} {n:Nat} (h:PAt H sh v (.i n)):v=.int ((n:Nat):Int):=by cases h;rfl
theorem nB {H:Hp} {sh:Bool} {v:V} {x:Ex} (h:PAt H sh v (.e x)):a7 H v x:=by cases h with | e a=>exact a
theorem k8 {H:Hp} {sh:Bool} {v:V} {ts:List Tr} (h:PAt H sh v (.b ts)):∃ l xs,v=.ref l/\H l=some (.lst xs)/\LAt H sh xs ts:=by cases h with | b l a=>exact ⟨_,_,rfl,l,a⟩
theorem rK {H:Hp} {sh:Bool} {v:V} {ps:List (Str × Str)} (h:PAt H sh v (.p ps)):eC H v ps:=by cases h with | p a=>exact a
theorem gv {H:Hp} {sh:Bool} {v:V} {t:Tr} (h:bn H sh v t):∃ a vs,v=.ref a/\H a=some (.tup vs)/\PsAt H sh vs t.parts:=by cases h with | mk a b=>exact ⟨_,_,rfl,a,b⟩
theorem fu {H:Hp} {sh:Bool} {vs:List V} {z:Str} {n:Nat} {ps:List bF} (h:PsAt H sh vs (.s z::.i n::ps)):∃ r,vs=.str z::.int ((n:Nat):Int)::r/\PsAt H sh r ps:=by
 obtain ⟨a,r,e,h1,h⟩:=c0 h
 obtain ⟨b,r',e',h2,h⟩:=c0 h
 exact ⟨r',by rw [e,e',ib h1,zZ h2],h⟩
theorem nC {H:Hp} {sh:Bool} {vs:List V} {x:Ex} (h:PsAt H sh vs [.e x]):∃ v,vs=[v]/\a7 H v x:=by
 obtain ⟨a,r,e,h1,h⟩:=c0 h
 exact ⟨a,by rw [e,jm h],nB h1⟩
theorem rL {H:Hp} {sh:Bool} {v:V} {r:Nat} {z:Str} {e:Ex} (h:bn H sh v (.set r z e)):∃ t ve,v=.ref t/\H t=some (.tup [.str "set",.int ((r:Nat):Int),.str z,ve])/\a7 H ve e:=by
 obtain ⟨t,vs,e1,ht,h⟩:=gv h
 obtain ⟨q,e2,h⟩:=fu h
 obtain ⟨a,q',e3,h1,h⟩:=c0 h
 obtain ⟨ve,e4,hx⟩:=nC h
 exact ⟨t,ve,e1,by rw [ht,e2,e3,ib h1,e4],hx⟩
theorem z0 {H:Hp} {sh:Bool} {v:V} {r:Nat} {e:Ex} (h:bn H sh v (.tell r e)):∃ t ve,v=.ref t/\H t=some (.tup [.str "tell",.int ((r:Nat):Int),ve])/\a7 H ve e:=by
 obtain ⟨t,vs,e1,ht,h⟩:=gv h
 obtain ⟨q,e2,h⟩:=fu h
 obtain ⟨ve,e4,hx⟩:=nC h
 exact ⟨t,ve,e1,by rw [ht,e2,e4],hx⟩
theorem z3 {H:Hp} {sh:Bool} {v:V} {r:Nat} {e:Ex} (h:bn H sh v (.give r e)):∃ t ve,v=.ref t/\H t=some (.tup [.str "give",.int ((r:Nat):Int),ve])/\a7 H ve e:=by
 obtain ⟨t,vs,e1,ht,h⟩:=gv h
 obtain ⟨q,e2,h⟩:=fu h
 obtain ⟨ve,e4,hx⟩:=nC h
 exact ⟨t,ve,e1,by rw [ht,e2,e4],hx⟩
theorem z4 {H:Hp} {sh:Bool} {v:V} {r:Nat} {e:Ex} {b o:List Tr} (h:bn H sh v (.iff r e b o)):∃ t ve lb xb lo xo,v=.ref t/\H t=some (.tup [.str "if",.int ((r:Nat):Int),ve,.ref lb,.ref lo])/\a7 H ve e/\H lb=some (.lst xb)/\LAt H sh xb b/\H lo=some (.lst xo)/\LAt H sh xo o:=by
 obtain ⟨t,vs,e1,ht,h⟩:=gv h
 obtain ⟨q,e2,h⟩:=fu h
 obtain ⟨ve,q',e3,h1,h⟩:=c0 h
 obtain ⟨vb,q2,e4,h2,h⟩:=c0 h
 obtain ⟨vo,q3,e5,h3,h⟩:=c0 h
 obtain ⟨lb,xb,f1,f2,f3⟩:=k8 h2
 obtain ⟨lo,xo,g1,g2,g3⟩:=k8 h3
 exact ⟨t,ve,lb,xb,lo,xo,e1,by rw [ht,e2,e3,e4,e5,jm h,f1,g1],nB h1,f2,f3,g2,g3⟩
theorem z5 {H:Hp} {sh:Bool} {v:V} {r:Nat} {e:Ex} {b:List Tr} (h:bn H sh v (.whl r e b)):∃ t ve lb xb,v=.ref t/\H t=some (.tup [.str "while",.int ((r:Nat):Int),ve,.ref lb])/\a7 H ve e/\H lb=some (.lst xb)/\LAt H sh xb b:=by
 obtain ⟨t,vs,e1,ht,h⟩:=gv h
 obtain ⟨q,e2,h⟩:=fu h
 obtain ⟨ve,q',e3,h1,h⟩:=c0 h
 obtain ⟨vb,q2,e4,h2,h⟩:=c0 h
 obtain ⟨lb,xb,f1,f2,f3⟩:=k8 h2
 exact ⟨t,ve,lb,xb,e1,by rw [ht,e2,e3,e4,jm h,f1],nB h1,f2,f3⟩
theorem rM {H:Hp} {sh:Bool} {v:V} {r:Nat} {n k:Str} {ps:List (Str × Str)} {b:List Tr} (h:bn H sh v (.df r n k ps b)):∃ t vp lb xb,v=.ref t/\H t=some (.tup [.str "def",.int ((r:Nat):Int),.str n,.str k,vp,.ref lb])/\eC H vp ps/\H lb=some (.lst xb)/\LAt H sh xb b:=by
 obtain ⟨t,vs,e1,ht,h⟩:=gv h
 obtain ⟨q,e2,h⟩:=fu h
 obtain ⟨a,q1,e3,h1,h⟩:=c0 h
 obtain ⟨c,q2,e4,h2,h⟩:=c0 h
 obtain ⟨vp,q3,e5,h3,h⟩:=c0 h
 obtain ⟨vb,q4,e6,h4,h⟩:=c0 h
 obtain ⟨lb,xb,f1,f2,f3⟩:=k8 h4
 exact ⟨t,vp,lb,xb,e1,by rw [ht,e2,e3,e4,e5,e6,jm h,f1,ib h1,ib h2],rK h3,f2,f3⟩
theorem nE {H:Hp} {sh:Bool} {v:V} {r:Nat} {n:Str} {ps:List (Str × Str)} (h:bn H sh v (.kd r n ps)):∃ t vp,v=.ref t/\H t=some (.tup [.str "kind",.int ((r:Nat):Int),.str n,vp])/\eC H vp ps:=by
 obtain ⟨t,vs,e1,ht,h⟩:=gv h
 obtain ⟨q,e2,h⟩:=fu h
 obtain ⟨a,q1,e3,h1,h⟩:=c0 h
 obtain ⟨vp,q3,e5,h3,h⟩:=c0 h
 exact ⟨t,vp,e1,by rw [ht,e2,e3,e5,jm h,ib h1],rK h3⟩
theorem cr {n:Nat} (h:n<1000):n<sizeLine:=by rw [sizeLine_eq];omega
noncomputable def jn (k:Nat):Sp:=fun vs H Q _=>∃ (l:Addr) (xs:List V) (ts:List Tr),vs=[.ref l]/\H l=some (.lst xs)/\LAt H false xs ts/\deeps ts<k/\ts.length<=20/\ascs ts/\∀ p ys H',Same H H'->H' p=some (.lst ys)->LAt H' true ys ts->Q (.ref p) H'
noncomputable def rN (k:Nat):Sp:=fun vs H Q _=>∃ (v:V) (t:Tr),vs=[v]/\bn H false v t/\t.deep<k/\t.asc/\∀ v' H',Same H H'->bn H' true v' t->Q v' H'
noncomputable abbrev rO:List Str:=["one"]
theorem rP:ba rO ["one"] (aK kN):=⟨rfl,rfl,rfl,by decide +kernel,rfl,by decide +kernel,by decide +kernel⟩
theorem z6 (T:All P w K mg AA DD) (k:Nat) (GF:aE P w K mg base aI (2*k+1) AA.Zx DD.Zx ["tree"] (jn k)):aE P w K mg base aI (2*k+2) AA.Zh DD.Zh ["one"] (rN k):=by
 refine T.F_Zh.ok rP (fun vs H Q E h=>?_) (fun cdv A outer s H vs Q E hr h=>?_)
 ·obtain ⟨v,t,rfl,_⟩:=h
  rfl
 ·obtain ⟨v,t,rfl,hS,hd,ha,kq⟩:=h
  have nd:=rP.nd
  have hrF:aA (2*k+1) _:=hr
  refine ⟨_,(aq (aO (eY jX rfl T.n_tuple i7 (aa (fh (aK kN) rO [] [] rfl (by exact ⟨rfl,rfl,by decide +kernel,rfl,by decide +kernel,by decide +kernel,by decide +kernel,rfl,by decide +kernel⟩) rfl rfl (iM (pv 0)) (fun _ _ _ _=>d4) (fun _ _ _ _=>(jO (gP (dY (ji (K:=K) (n:="list") rfl) rfl T.n_isinstance iY (aa (pv 0) (aa (iG (v:=.ty "list") rfl T.n_list iZ rfl) ag)))) (aN GF hrF rfl T.m_Zx T.k_Zx T.b_Zx .nil aB (aa (pv 0) ag)) (pv 0)))) ag)))),?_⟩
  cases hS with
  | @mk t0 xs _ ht hps =>
  refine ⟨_,rfl,t0,rfl,⟨_,ah.of ht⟩,?_⟩
  have hpl:=t.parts_len
  have hxl:=hps.length
  refine mr (K:=K) (a:=t0) (xs:=xs) (fun i ys H'=>Same H H'/\i<=xs.length/\PsAt H' true ys (t.parts.take i)) ⟨Same.refl _,Qr _,by simpa using PsAt.nil⟩ (fun i ys H' _ h=>ah.of (h.1 _ _ ht)) ?_ ?_
  ·rintro i x ys H1 hx ⟨sm,hi,hys⟩
   obtain ⟨p,hp,hP⟩:=hps.get hx
   have hP1:=hP.kept sm.ls
   have hilt:=(Qc hx).1
   have hyl:=hys.length
   rw [Qx] at hyl
   have hil:i<t.parts.length:=by omega
   have htk:t.parts.take (i+1)=t.parts.take i++[p]:=by
    rw [Qn hil]
    rw [Qb hil] at hp
    rw [Qo hp]
   refine dZ ?_
   rw [if_pos rfl]
   rcases hP1.isL (K:=K) with ⟨bs,l,zs,e1,e2,hl,hL,ty,kb⟩ | ⟨nb,ty0,ty,kb⟩
   ·subst e1 e2
    have hm:bF.b bs∈t.parts:=QD hp
    refine ⟨_,rfl,_,_,true,rfl,ty,kb,_,rfl,fe ?_⟩
    refine ⟨_,rfl,l,zs,bs,rfl,hl,hL,QF (jg hm) hd,(jh ha hm).1,(jh ha hm).2,fun q us H2 s2 hq hL2=>?_⟩
    refine ⟨cr (by omega),sm.trans s2,by omega,?_⟩
    rw [htk]
    exact (hys.kept s2.ls).snoc (.b hq hL2)
   ·refine ⟨_,rfl,_,_,false,rfl,ty,kb,_,rfl,dh ?_⟩
    refine ⟨_,rfl,cr (by omega),sm,by omega,?_⟩
    rw [htk]
    exact hys.snoc (hP1.other nb)
  ·rintro ys H1 ⟨sm,hi,hys⟩ p hp
   have s1:=ao (o:=.lst ys) hp
   refine ⟨p,ys,rfl,.inl ⟨am.of aj,fun l hl=>?_⟩⟩
   have s2:=ao (o:=.tup ys) hl
   refine kq _ _ ((sm.trans s1).trans s2) (.mk aj ?_)
   rw [QB (by omega)] at hys
   exact hys.kept (s1.trans s2).ls
noncomputable abbrev rQ:List Str:=["tree"]
theorem nF:ba rQ ["tree"] (aK kM):=⟨rfl,rfl,rfl,by decide +kernel,rfl,by decide +kernel,by decide +kernel⟩
theorem z7 (T:All P w K mg AA DD) (k:Nat) (GS:aE P w K mg base aI (2*k+2) AA.Zh DD.Zh ["one"] (rN k)):aE P w K mg base aI (2*(k+1)+1) AA.Zx DD.Zx ["tree"] (jn (k+1)):=by
 refine T.F_Zx.ok nF (fun vs H Q E h=>?_) (fun cdv A outer s H vs Q E hr h=>?_)
 ·obtain ⟨l,xs,ts,rfl,_⟩:=h
  rfl
 ·obtain ⟨l,xs,ts,rfl,hl,hL,hd,h20,ha,kq⟩:=h
  have nd:=nF.nd
  have hrS:aA (2*k+2) _:=hr
  refine ⟨_,(aq (aO (fh (aK kM) rQ [] [] rfl (by exact ⟨rfl,rfl,by decide +kernel,rfl,by decide +kernel,by decide +kernel,by decide +kernel,rfl,by decide +kernel⟩) rfl rfl (ci (pv 0)) (fun _ _ _ _=>d4) (fun _ _ _ _=>(aV (aa ai (aa (aN GS hrS rfl T.m_Zh T.k_Zh T.b_Zh .nil aB (aa (pv 0) ag)) ag))))))),?_⟩
  refine ⟨_,rfl,l,rfl,⟨_,am.of hl⟩,?_⟩
  have hxl:=hL.length
  refine j0 (K:=K) (a:=l) (xs:=xs) (fun i ys H'=>Same H H'/\i<=xs.length/\LAt H' true ys (ts.take i)) ⟨Same.refl _,Qr _,by simpa using LAt.nil⟩ (fun i ys H' _ h=>am.of (h.1 _ _ hl)) ?_ ?_
  ·rintro i x ys H1 hx ⟨sm,hi,hys⟩
   obtain ⟨t,ht,hO⟩:=hL.get hx
   have hilt:=(Qc hx).1
   have hyl:=hys.length
   rw [Qx] at hyl
   have hil:i<ts.length:=by omega
   have htk:ts.take (i+1)=ts.take i++[t]:=by
    rw [Qn hil]
    rw [Qb hil] at ht
    rw [Qo ht]
   have hm:t∈ts:=QD ht
   have hS:bn H1 false x t:=by
    cases hO with
    | plain _ a=>exact a.kept sm.ls
    | shared e _ _=>cases e
   refine dZ ?_
   rw [if_pos rfl]
   refine ⟨_,rfl,x,t,rfl,hS,by have:=ku hm;omega,ky ha hm,fun v' H2 s2 hS2=>?_⟩
   refine ⟨(by show 2<=sizeLine;decide),fun q hq=>?_⟩
   have s3:=ao (o:=.tup [.int 1,v']) hq
   refine ⟨cr (by omega),(sm.trans s2).trans s3,by omega,?_⟩
   rw [htk]
   exact (hys.kept (s2.trans s3).ls).snoc (.shared rfl aj (hS2.kept s3.ls))
  ·rintro ys H1 ⟨sm,hi,hys⟩ p hp
   have s1:=ao (o:=.lst ys) hp
   rw [QB (by omega)] at hys
   exact kq p ys _ (sm.trans s1) aj (hys.kept s1.ls)
theorem z8 (T:All P w K mg AA DD):aE P w K mg base aI 1 AA.Zx DD.Zx ["tree"] (jn 0):=by
 have no:∀ vs H Q E,¬ jn 0 vs H Q E:=fun vs H Q E h=>by
  obtain ⟨l,xs,ts,_,_,_,z,_⟩:=h
  omega
 exact T.F_Zx.ok nF (fun vs H Q E h=>(no _ _ _ _ h).elim) (fun cdv A outer s H vs Q E hr h=>(no _ _ _ _ h).elim)
theorem rR (T:All P w K mg AA DD):∀ k:Nat,aE P w K mg base aI (2*k+1) AA.Zx DD.Zx ["tree"] (jn k)
 | 0=>z8 T
 | k+1=>z7 T k (z6 T k (rR T k))
end
section
variable {P:Program} {w:World} {K:W.Frag} {mg:Str->Option Value} {base:Heap} {AA:bG} {DD:bH}
theorem aM {c:Bool} {a b:Prop} (h:c=false) (k:b):if c=true then a else b:=by rw [h];exact k
theorem bg {c:Bool} {a b:Prop} (h:c=true) (k:a):if c=true then a else b:=by rw [h];exact k
noncomputable def z9:Sp:=fun vs H Q _=>vs=[.int 1]/\Q (.int 0) H
theorem Aa:Builtin.bitXor (1:Int) (1-1)=1:=by decide +kernel
noncomputable abbrev Ab:List Str:=["mask"]
theorem rS:ba Ab ["mask"] (aK mW):=⟨rfl,rfl,rfl,by decide +kernel,rfl,by decide +kernel,by decide +kernel⟩
theorem Ac (T:All P w K mg AA DD):aE P w K mg base aI 1 AA.ZP DD.ZP ["mask"] z9:=by
 refine T.F_ZP.ok rS (fun vs H Q E h=>?_) (fun cdv A outer s H vs Q E hr h=>?_)
 ·obtain ⟨rfl,_⟩:=h
  rfl
 ·obtain ⟨rfl,k⟩:=h
  have nd:=rS.nd
  refine ⟨_,(av (be (aY bE (pv 0) ai (a6 _)) (aq (aO jM)) bo) (aq (aO (aG gQ (xl PySem.F.plainAttrs_int PySem.F.slot_int_bit_length PySem.F.type_int_bit_length xD (aG o0 (pv 0) (aG gQ (pv 0) ai))) ai)))),?_⟩
  refine ⟨_,rfl,rfl,_,rfl,dh ?_⟩
  refine ⟨_,rfl,_,rfl,_,_,rfl,rfl,_,_,rfl,rfl,rfl,_,rfl,rfl,_,_,rfl,rfl,?_⟩
  rw [Aa]
  exact k
noncomputable def fS (t:Tr):List ae:=[.inl ((t.row:Nat):Int),.inl 0]
noncomputable def Ad:Sp:=fun vs H Q _=>∃ (v:V) (t:Tr),vs=[v]/\OAt H true v t/\∀ q H',Same H H'->H' q=some (.tup ((fS t).map kV))->Q (.ref q) H'
theorem Ae {H:Hp} {vs:List V} {t:Tr} (h:PsAt H true vs t.parts):∃ (a:V) (r:List V),vs=a::.int ((t.row:Nat):Int)::r:=by
 cases t<;>(cases h with | cons a b=>cases b with | cons c d=>cases c;exact ⟨_,_,rfl⟩)
noncomputable abbrev Af:List Str:=["pair"]
theorem rT:ba Af ["pair"] (aK m4):=⟨rfl,rfl,rfl,by decide +kernel,rfl,by decide +kernel,by decide +kernel⟩
theorem Ag (T:All P w K mg AA DD):aE P w K mg base aI 2 AA.Zk DD.Zk ["pair"] Ad:=by
 have GL:=Ac (base:=base) T
 refine T.F_Zk.ok rT (fun vs H Q E h=>?_) (fun cdv A outer s H vs Q E hr h=>?_)
 ·obtain ⟨v,t,rfl,_⟩:=h
  rfl
 ·obtain ⟨v,t,rfl,hO,k⟩:=h
  have nd:=rT.nd
  have hr1:aA 1 _:=hr
  refine ⟨_,(aq (aO (aV (aa (au (aH (K:=K) rfl) (au (aH (K:=K) rfl) (pv 0) ai (fun _ _=>rfl)) ai (fun _ _=>rfl)) (aa (aN GL hr1 rfl T.m_ZP T.k_ZP T.b_ZP .nil aB (aa (au (aH (K:=K) rfl) (pv 0) ai (fun _ _=>rfl)) ag)) ag))))),?_⟩
  cases hO with
  | plain e _=>cases e
  | @shared p x _ _ hp hS =>
  cases hS with
  | @mk t0 vs _ ht hps =>
  obtain ⟨a,r,rfl⟩:=Ae hps
  refine ⟨_,rfl,p,_,_,_,rfl,rfl,ah.of hp,rfl,?_⟩
  refine ⟨t0,_,_,_,rfl,rfl,ah.of ht,ap (j:=1) rfl,?_⟩
  refine ⟨_,rfl,p,_,_,_,rfl,rfl,ah.of hp,rfl,?_⟩
  refine ⟨rfl,(by show 2<=sizeLine;decide),fun q hq=>?_⟩
  exact k q _ (ao hq) aj
noncomputable def jo (k:Nat):Sp:=fun vs H Q _=>∃ (l:Addr) (xs:List V) (ts:List Tr),vs=[.ref l,.int 1]/\H l=some (.lst xs)/\LAt H true xs ts/\deeps ts<k/\ts.length<=20/\ascs ts/\∀ p ys H',Same H H'->H' p=some (.lst ys)->LAt H' true ys ts->Q (.ref p) H'
noncomputable def rU (k:Nat):Sp:=fun vs H Q _=>∃ (v:V) (t:Tr),vs=[v,.int 1]/\bn H true v t/\t.deep<k/\t.asc/\∀ v' H',Same H H'->bn H' true v' t->Q v' H'
noncomputable abbrev rV:List Str:=["one","mask"]
theorem rW:ba rV ["one","mask"] (aK kL):=⟨rfl,rfl,rfl,by decide +kernel,rfl,by decide +kernel,by decide +kernel⟩
theorem Ah (T:All P w K mg AA DD) (k:Nat) (GF:aE P w K mg base aI (2*k+5) AA.Zw DD.Zw ["tree","mask"] (jo k)):aE P w K mg base aI (2*k+6) AA.Zj DD.Zj ["one","mask"] (rU k):=by
 refine T.F_Zj.ok rW (fun vs H Q E h=>?_) (fun cdv A outer s H vs Q E hr h=>?_)
 ·obtain ⟨v,t,rfl,_⟩:=h
  rfl
 ·obtain ⟨v,t,rfl,hS,hd,ha,kq⟩:=h
  have nd:=rW.nd
  have hrF:aA (2*k+5) _:=hr
  refine ⟨_,(aq (aO (eY jX rfl T.n_tuple i7 (aa (fh (aK kL) rV ["mask"] [1] rfl (by exact ⟨rfl,rfl,by decide +kernel,rfl,by decide +kernel,by decide +kernel,by decide +kernel,rfl,by decide +kernel⟩) rfl rfl (iM (pv 0)) (fun _ _ _ _=>d4) (fun _ _ _ _=>(jO (gP (dY (ji (K:=K) (n:="list") rfl) rfl T.n_isinstance iY (aa (pv 0) (aa (iG (v:=.ty "list") rfl T.n_list iZ rfl) ag)))) (aN GF hrF rfl T.m_Zw T.k_Zw T.b_Zw .nil aB (aa (pv 0) (aa (pv 1) ag))) (pv 0)))) ag)))),?_⟩
  cases hS with
  | @mk t0 xs _ ht hps =>
  refine ⟨_,rfl,t0,rfl,⟨_,ah.of ht⟩,?_⟩
  have hpl:=t.parts_len
  have hxl:=hps.length
  refine mr (K:=K) (a:=t0) (xs:=xs) (fun i ys H'=>Same H H'/\i<=xs.length/\PsAt H' true ys (t.parts.take i)) ⟨Same.refl _,Qr _,by simpa using PsAt.nil⟩ (fun i ys H' _ h=>ah.of (h.1 _ _ ht)) ?_ ?_
  ·rintro i x ys H1 hx ⟨sm,hi,hys⟩
   obtain ⟨p,hp,hP⟩:=hps.get hx
   have hP1:=hP.kept sm.ls
   have hilt:=(Qc hx).1
   have hyl:=hys.length
   rw [Qx] at hyl
   have hil:i<t.parts.length:=by omega
   have htk:t.parts.take (i+1)=t.parts.take i++[p]:=by
    rw [Qn hil]
    rw [Qb hil] at hp
    rw [Qo hp]
   refine dZ ?_
   rw [if_pos rfl]
   rcases hP1.isL (K:=K) with ⟨bs,l,zs,e1,e2,hl,hL,ty,kb⟩ | ⟨nb,ty0,ty,kb⟩
   ·subst e1 e2
    have hm:bF.b bs∈t.parts:=QD hp
    refine ⟨_,rfl,_,_,true,rfl,ty,kb,_,rfl,fe ?_⟩
    refine ⟨_,rfl,_,rfl,l,zs,bs,rfl,hl,hL,QF (jg hm) hd,(jh ha hm).1,(jh ha hm).2,fun q us H2 s2 hq hL2=>?_⟩
    refine ⟨cr (by omega),sm.trans s2,by omega,?_⟩
    rw [htk]
    exact (hys.kept s2.ls).snoc (.b hq hL2)
   ·refine ⟨_,rfl,_,_,false,rfl,ty,kb,_,rfl,dh ?_⟩
    refine ⟨_,rfl,cr (by omega),sm,by omega,?_⟩
    rw [htk]
    exact hys.snoc hP1
  ·rintro ys H1 ⟨sm,hi,hys⟩ p hp
   have s1:=ao (o:=.lst ys) hp
   refine ⟨p,ys,rfl,.inl ⟨am.of aj,fun l hl=>?_⟩⟩
   have s2:=ao (o:=.tup ys) hl
   refine kq _ _ ((sm.trans s1).trans s2) (.mk aj ?_)
   rw [QB (by omega)] at hys
   exact hys.kept (s1.trans s2).ls
theorem rX:Builtin.bitAnd (1:Int) 1=1:=by decide +kernel
theorem rY:∀ {ts:List Tr},ascs ts->∀ {i:Nat} {a b:Tr},ts[i]?=some a->ts[i+1]?=some b->a.row<b.row
 | t::ts,h,0,a,b,h1,h2=>by
  cases (show some t=some a from h1)
  exact h.2.1 b (QD (show ts[0]?=some b from h2))
 | t::ts,h,i+1,a,b,h1,h2=>rY h.2.2 (show ts[i]?=some a from h1) (show ts[i+1]?=some b from h2)
theorem Ai {ts:List Tr} {ys:List V} (h64:ts.length<=20) (h:ascs ts) (hl:ys.length=ts.length):bq (ts.map fS) ys=ys:=by
 refine za (by rw [Qf];omega) (by simp [hl]) fun i hi=>?_
 rw [Qf] at hi
 have hi':i<ts.length:=by omega
 have e1:(ts.map fS).getD (i+1) []=fS ts[i+1]:=by simp [Qg,hi]
 have e2:(ts.map fS).getD i []=fS ts[i]:=by simp [Qg,hi']
 have hr:=rY h (Qb hi') (Qb hi)
 rw [e1,e2]
 show (if (Sum.inl ((ts[i+1].row:Nat):Int):ae)=Sum.inl ((ts[i].row:Nat):Int) then _ else cX (Sum.inl ((ts[i+1].row:Nat):Int)) (Sum.inl ((ts[i].row:Nat):Int)))=false
 rw [if_neg (fun z=>by injection z with z;omega)]
 show decide (((ts[i+1].row:Nat):Int)<((ts[i].row:Nat):Int))=false
 exact Qi (by omega)
noncomputable abbrev rZ:List Str:=["tree","mask","kept"]
theorem nG:ba rZ ["tree","mask"] (aK kK):=⟨rfl,rfl,rfl,by decide +kernel,rfl,by decide +kernel,by decide +kernel⟩
theorem Aj (T:All P w K mg AA DD) (k:Nat) (GS:aE P w K mg base aI (2*k+6) AA.Zj DD.Zj ["one","mask"] (rU k)):aE P w K mg base aI (2*(k+1)+5) AA.Zw DD.Zw ["tree","mask"] (jo (k+1)):=by
 have GR:=Ag (base:=base) T
 refine T.F_Zw.ok nG (fun vs H Q E h=>?_) (fun cdv A outer s H vs Q E hr h=>?_)
 ·obtain ⟨l,xs,ts,rfl,_⟩:=h
  rfl
 ·obtain ⟨l,xs,ts,rfl,hl,hL,hd,h20,ha,kq⟩:=h
  have nd:=nG.nd
  have hrS:aA (2*k+6) _:=hr
  have hr4:aA 4 _:=hrS.mono (by omega)
  refine ⟨_,(av (qh (i:=2) (xs:=["there","one"]) (aK kK) rZ ["mask"] [1] rfl (by exact ⟨rfl,rfl,by decide +kernel,by decide +kernel,by decide +kernel,by decide +kernel,by decide +kernel,rfl,by decide +kernel⟩) rfl rfl (ci (pv 0)) (fun _ _ _ _=>(fk (K:=K) (n:=2) rfl rfl (a8 (aT (i:=0) (show (["there","one","mask"]:List Str).Nodup by decide +kernel) rfl (Or.inl rfl)) (a8 (aT (i:=1) (show (["there","one","mask"]:List Str).Nodup by decide +kernel) rfl (Or.inl rfl)) cg)))) (fun _ _ _ _=>gk (aY eI (aG iR (pv 0) (pv 2)) ai (a6 _))) (fun _ _ _ _=>(aV (aa (aG iR (pv 0) (pv 2)) (aa (aN GS hrS rfl T.m_Zj T.k_Zj T.b_Zj .nil aB (aa (pv 1) (aa (pv 2) ag))) ag)))) nd rfl rfl rfl) (aq (aO (yV (K:=K) rfl GR hr4 T.b_Zk .nil rfl T.n_sorted rfl T.m_Zk (pv 2))))),?_⟩
  refine ⟨_,rfl,l,rfl,⟨_,am.of hl⟩,?_⟩
  have hxl:=hL.length
  refine eM (K:=K) (a:=l) (xs:=xs) (fun i ys H'=>Same H H'/\i<=xs.length/\LAt H' true ys (ts.take i)) ⟨Same.refl _,Qr _,by simpa using LAt.nil⟩ (fun i ys H' _ h=>am.of (h.1 _ _ hl)) ?_ ?_
  ·rintro i x ys H1 hx ⟨sm,hi,hys⟩
   obtain ⟨t,ht,hO⟩:=hL.get hx
   have hO:=hO.kept sm.ls
   have hilt:=(Qc hx).1
   have hyl:=hys.length
   rw [Qx] at hyl
   have hil:i<ts.length:=by omega
   have htk:ts.take (i+1)=ts.take i++[t]:=by
    rw [Qn hil]
    rw [Qb hil] at ht
    rw [Qo ht]
   have hm:t∈ts:=QD ht
   cases hO with
   | plain e _=>cases e
   | @shared q y _ _ hq hS =>
   intro os hos
   obtain ⟨a,b,rfl⟩:∃ a b,os=[a,b]:=by
    match os,hos with
    | [a,b],_=>exact ⟨a,b,rfl⟩
   refine ⟨q,_,rfl,ah.of hq,rfl,_,_,rfl,_,_,rfl,rfl,⟨[_,_],rfl,rfl⟩,?_⟩
   refine ⟨_,rfl,_,rfl,_,_,rfl,rfl,rfl,_,rfl,?_⟩
   refine bg (by
     show (!decide (V.int (Builtin.bitAnd 1 1)=V.int 0))=true
     rw [rX];rfl) ?_
   refine ⟨_,rfl,_,rfl,_,_,rfl,rfl,_,rfl,_,rfl,y,t,rfl,hS,by have:=ku hm;omega,ky ha hm,fun v' H2 s2 hS2=>?_⟩
   refine ⟨(by show 2<=sizeLine;decide),fun q2 hq2=>?_⟩
   dsimp only
   rw [rX]
   have s3:=ao (o:=.tup [.int 1,v']) hq2
   refine ⟨cr (by omega),(sm.trans s2).trans s3,by omega,?_⟩
   rw [htk]
   exact (hys.kept (s2.trans s3).ls).snoc (.shared rfl aj (hS2.kept s3.ls))
  ·rintro ys H1 ⟨sm,hi,hys⟩ p hp
   have s1:=ao (o:=.lst ys) hp
   rw [QB (by omega)] at hys
   have hyl:=hys.length
   have hys1:=hys.kept s1.ls
   refine ⟨_,rfl,p,ys,ts.map fS,[true,true],rfl,am.of aj,by omega,by simp [hyl],fun d hd=>?_,by simp,fun i x d H' s2 hx hd Q' kQ=>?_,fun q H' s2 hq=>?_⟩
   ·obtain ⟨t,_,rfl⟩:=QE hd
    rfl
   ·obtain ⟨t,ht,hO⟩:=hys1.get hx
    rw [Qk,ht] at hd
    cases (show some (fS t)=some d from hd)
    exact ⟨x,t,rfl,hO.kept s2.ls,fun q H2 s3 hq=>kQ q H2 s3 hq⟩
   ·rw [Ai (by omega) ha hyl]
    have s3:=ao (o:=.lst ys) hq
    exact kq q ys _ (((sm.trans s1).trans s2).trans s3) aj (hys1.kept (s2.trans s3).ls)
theorem Ak (T:All P w K mg AA DD):aE P w K mg base aI 5 AA.Zw DD.Zw ["tree","mask"] (jo 0):=by
 have no:∀ vs H Q E,¬ jo 0 vs H Q E:=fun vs H Q E h=>by
  obtain ⟨l,xs,ts,_,_,_,z,_⟩:=h
  omega
 exact T.F_Zw.ok nG (fun vs H Q E h=>(no _ _ _ _ h).elim) (fun cdv A outer s H vs Q E hr h=>(no _ _ _ _ h).elim)
theorem r0 (T:All P w K mg AA DD):∀ k:Nat,aE P w K mg base aI (2*k+5) AA.Zw DD.Zw ["tree","mask"] (jo k)
 | 0=>Ak T
 | k+1=>Aj T k (Ah T k (r0 T k))
end
section
variable {P:Program} {w:World} {K:W.Frag} {mg:Str->Option Value} {base:Heap} {AA:bG} {DD:bH}
theorem jp {H:Hp} {d:Addr} {ob ob':HO} (h:H d=some ob) (n1:∀ xs,ob≠.tup xs) (n2:∀ xs,ob≠.lst xs) (n3:∀ o x,ob≠.frz o x):bC H (af H d ob') :=
 ⟨fun b xs e=>(by rw [ar (fun z=>by rw [z,h] at e;exact n1 _ (Qo e))];exact e),fun b xs e=>(by rw [ar (fun z=>by rw [z,h] at e;exact n2 _ (Qo e))];exact e),fun b o xs e=>by rw [ar (fun z=>by rw [z,h] at e;exact n3 _ _ (Qo e))];exact e⟩
noncomputable def cu (fs:List (List ae)):List (List ae × V):=fs.map fun k=>(k,.int 1)
noncomputable def bI (fs:List (List ae)) (k:List ae):List (List ae):=if (fs.any fun d=>decide (d=k))=true then fs else fs++[k]
theorem r6 (fs:List (List ae)) (k:List ae):((cu fs).any fun kv=>decide (kv.1=k))=fs.any fun d=>decide (d=k):=by
 unfold cu
 rw [List.any_map]
 rfl
theorem Al (fs:List (List ae)) (k:List ae):bO (cu fs) k (.int 1)=cu (bI fs k):=by
 unfold bO bI
 rw [r6]
 split
 ·unfold cu
  rw [List.map_map]
  refine List.map_congr_left fun d _=>?_
  show (if d=k then (d,V.int 1) else (d,V.int 1))=_
  split<;>rfl
 ·unfold cu
  rw [QK]
  rfl
theorem r9 (fs:List (List ae)) (k:List ae):aU (cu fs) k=if (fs.any fun d=>decide (d=k))=true then some (.int 1) else none:=by
 have h:=gY k (cu fs)
 rw [r6] at h
 cases e:aU (cu fs) k with
 | none=>rw [e] at h;rw [h];rfl
 | some v =>
  rw [e] at h
  rw [h]
  have hm:∃ d,(d,v)∈cu fs:=by
   unfold aU at e
   obtain ⟨q,hq,rfl⟩:=Option.map_eq_some_iff.mp e
   exact ⟨q.1,List.mem_of_find?_eq_some hq⟩
  obtain ⟨d,hd⟩:=hm
  obtain ⟨y,_,hy⟩:=QE hd
  have:v=.int 1:=(Prod.mk.inj hy).2.symm
  rw [this]
  rfl
noncomputable def Am:Sp:=fun vs H Q _=>∃ m o:Nat,vs=[.int m,.int o]/\Q (.int ((m ^^^ (m &&& o):Nat):Int)) H
noncomputable abbrev An:List Str:=["mask","other"]
theorem si:ba An ["mask","other"] (aK mX):=⟨rfl,rfl,rfl,by decide +kernel,rfl,by decide +kernel,by decide +kernel⟩
theorem jq (T:All P w K mg AA DD):aE P w K mg base aI 1 AA.ZK DD.ZK ["mask","other"] Am:=by
 refine T.F_ZK.ok si (fun vs H Q E h=>?_) (fun cdv A outer s H vs Q E hr h=>?_)
 ·obtain ⟨m,o,rfl,_⟩:=h
  rfl
 ·obtain ⟨m,o,rfl,k⟩:=h
  have nd:=si.nd
  refine ⟨_,(aq (aO (aG o0 (pv 0) (aG iR (pv 0) (pv 1))))),?_⟩
  refine ⟨_,rfl,_,rfl,_,rfl,_,_,rfl,rfl,_,_,rfl,rfl,?_⟩
  dsimp only
  rw [mm,xB]
  exact k
noncomputable def Ao:Sp:=fun vs H Q _=>∃ (d:Addr) (y:V) (m:Nat),vs=[.ref d,y,.int ((m:Nat):Int)]/\mq H d/\((m=0/\Q .non H)∨(m=1/\∃ o H',bt H d y o/\(o=none∨o=some (.int 1))/\dw H d y (.int 1) H'/\Q .non H'))
theorem Ap:Builtin.bitOr (0:Int) 1=1:=by decide +kernel
noncomputable abbrev Aq:List Str:=["found","key","mask"]
theorem sj:ba Aq ["found","key","mask"] (aK mZ):=⟨rfl,rfl,rfl,by decide +kernel,rfl,by decide +kernel,by decide +kernel⟩
theorem Ar (T:All P w K mg AA DD):aE P w K mg base aI 1 AA.ZN DD.ZN ["found","key","mask"] Ao:=by
 refine T.F_ZN.ok sj (fun vs H Q E h=>?_) (fun cdv A outer s H vs Q E hr h=>?_)
 ·obtain ⟨d,y,m,rfl,_⟩:=h
  rfl
 ·obtain ⟨d,y,m,rfl,hI,h⟩:=h
  have nd:=sj.nd
  have hu:_+1<cLine:=QF (Nat.add_le_add_left (show 1<=16*0+200 by decide) _) (by have:=hr.un;omega)
  refine ⟨_,(aq (be (aY eI (pv 2) ai (a6 _)) (aq (i6 hu (pv 0) (pv 1) (aG lU (fN hu (pv 0) (pv 1) ai ⟨by rfl,by rfl,by rfl,by rfl⟩) (pv 2)) rfl)) bo)),?_⟩
  refine ⟨_,rfl,rfl,_,rfl,?_⟩
  rcases h with ⟨rfl,k⟩ | ⟨rfl,o,H',g,ho,hp,k⟩
  ·exact dh k
  ·refine fe ?_
   refine ⟨_,rfl,d,rfl,hI,_,rfl,o,g,?_⟩
   have e:o.getD (V.int 0)=.int 0∨o.getD (V.int 0)=.int 1:=by
    rcases ho with z | z<;>rw [z]
    ·exact .inl rfl
    ·exact .inr rfl
   rcases e with e | e<;>rw [e]
   ·refine ⟨_,rfl,_,_,rfl,rfl,?_⟩
    show ∃ _,_
    refine ⟨_,rfl,_,rfl,d,H',rfl,?_,k⟩
    have:=Ap
    exact hp
   ·refine ⟨_,rfl,_,_,rfl,rfl,?_⟩
    refine ⟨_,rfl,_,rfl,d,H',rfl,?_,k⟩
    exact hp
end
section
variable {P:Program} {w:World} {K:W.Frag} {mg:Str->Option Value} {base:Heap} {AA:bG} {DD:bH}
noncomputable def _root_.Mm.Ex.bas:Ex->Prop
 | .op w _ _=>w∈hZ/\True
 | .of _ _=>False
 | .many _ _ _=>False
 | _=>True
noncomputable def _root_.Mm.Ex.kids:Ex->List Ex
 | .not e=>[e]
 | .op _ a b=>[a,b]
 | _=>[]
noncomputable def As:Sp:=fun vs H Q _=>∃ (v:V) (e:Ex),vs=[v]/\a7 H v e/\e.bas/\∀ t ys H',Same H H'->H' t=some (.tup ys)->ExsAt H' ys e.kids->Q (.ref t) H'
noncomputable def ic:List Str:=["num","truth","name"]
noncomputable def lc:List Str:=["do","new"]
theorem At:∀ z∈hZ,z∉ic/\z∉lc/\z≠"of"/\z≠"name"/\z≠"do"/\z≠"new":=by decide +kernel
theorem Au:("not":Str)∉ic/\("not":Str)∉lc/\("not":Str)≠"of"/\("not":Str)≠"name"/\("not":Str)≠"do"/\("not":Str)≠"new":=by decide +kernel
theorem Av {H:Hp} {v:V} {e:Ex} (h:a7 H v e) (hp:e.bas):∃ (t:Addr) (z:Str) (ys:List V),v=.ref t/\H t=some (.tup (.str z::ys))/\((z∈ic/\e.kids=[]) ∨
  (z∉ic/\z∉lc/\z≠"of"/\z≠"name"/\z≠"do"/\z≠"new")/\ExsAt H ys e.kids/\ys.length<=2/\ys≠[]):=by
 cases h with
 | num h=>exact ⟨_,_,_,rfl,h,.inl ⟨by decide,rfl⟩⟩
 | truth h=>exact ⟨_,_,_,rfl,h,.inl ⟨by decide,rfl⟩⟩
 | name h=>exact ⟨_,_,_,rfl,h,.inl ⟨by decide,rfl⟩⟩
 | not h a=>exact ⟨_,_,_,rfl,h,.inr ⟨Au,.cons a .nil,by simp,by simp⟩⟩
 | op h a b=>exact ⟨_,_,_,rfl,h,.inr ⟨At _ hp.1,.cons a (.cons b .nil),by simp,by simp⟩⟩
 | of h a=>exact hp.elim
 | many h l a=>exact hp.elim
theorem Aw (a:V) (ys:List V):eK (a::ys) (some 1) none=ys:=by
 unfold eK
 have h1:HT.sIx (a::ys).length 0 (some 1)=1:=by simp [HT.sIx]
 have h2:HT.sIx (a::ys).length (a::ys).length none=ys.length+1:=by simp [HT.sIx]
 rw [h1,h2]
 simp
theorem nH (z:Str) (l:List Str):eZ (.str z) (l.map V.str)=decide (z∈l):=by
 induction l with
 | nil=>rfl
 | cons a r ih =>
  show ((a == z)||eZ (.str z) (r.map V.str))=_
  rw [ih]
  by_cases h:a=z
  ·subst h;simp
  ·have:¬ z=a:=fun e=>h e.symm
   simp [h,this]
theorem jr {z:Str} {zs:List Str} {b:Bool} (h:decide (z∈zs)=b):(if false=true then !eZ (V.str z) (zs.map V.str) else eZ (V.str z) (zs.map V.str))=b:=by
 rw [<- h]
 exact nH _ _
noncomputable abbrev Ax:List Str:=["e"]
theorem sk:ba Ax ["e"] (aK m8):=⟨rfl,rfl,rfl,by decide +kernel,rfl,by decide +kernel,by decide +kernel⟩
theorem Ay (T:All P w K mg AA DD):aE P w K mg base aI 1 AA.ZG DD.ZG ["e"] As:=by
 refine T.F_ZG.ok sk (fun vs H Q E h=>?_) (fun cdv A outer s H vs Q E hr h=>?_)
 ·obtain ⟨v,e,rfl,_⟩:=h
  rfl
 ·obtain ⟨v,e,rfl,hE,hpl,k⟩:=h
  have nd:=sk.nd
  refine ⟨_,(av (be (aY (mJ (K:=K) rfl) (au (aH (K:=K) rfl) (pv 0) ai (fun _ _=>rfl)) (aV (aa aD (aa aD (aa aD ag)))) rfl) (aq (aO (aV ag))) bo) (av (be (aY (mJ (K:=K) rfl) (au (aH (K:=K) rfl) (pv 0) ai (fun _ _=>rfl)) (aV (aa aD (aa aD ag))) rfl) (aq (aO (au (aH (K:=K) rfl) (pv 0) ai (fun _ _=>rfl)))) bo) (av (be (aY bE (au (aH (K:=K) rfl) (pv 0) ai (fun _ _=>rfl)) aD (a6 _)) (aq (aO (aV (aa (au (aH (K:=K) rfl) (pv 0) ai (fun _ _=>rfl)) ag)))) bo) (aq (aO (jV wV (pv 0) (iU ai) lY)))))),?_⟩
  obtain ⟨t,z,ys,rfl,ht,hc⟩:=Av hE hpl
  refine ⟨_,rfl,t,_,_,_,rfl,rfl,ah.of ht,ap (j:=0) rfl,(by show 3<=sizeLine;decide),fun pt hpt=>⟨pt,ic.map V.str,rfl,.inr (ah.of aj),rfl,rfl,_,rfl,?_⟩⟩
  have s1:=ao (o:=.tup (ic.map V.str)) hpt
  have ht1:=s1 _ _ ht
  change if _=true then _ else _
  generalize hH1:af H pt _=H1
  have s1:Same H H1:=by rw [<- hH1];exact ao hpt
  have ht1:=s1 _ _ ht
  rcases hc with ⟨hz,hk⟩ | ⟨⟨n1,n2,n3,_⟩,hk,hl,hn⟩
  ·rw [jr (Qp hz)]
   refine fe ?_
   refine ⟨(by show 0<=sizeLine;decide),fun p hp=>?_⟩
   exact k p _ _ (s1.trans (ao hp)) aj (by rw [hk];exact .nil)
  ·rw [jr (Qi n1)]
   refine dh ?_
   refine ⟨_,rfl,t,_,_,_,rfl,rfl,ah.of ht1,ap (j:=0) rfl,(by show 2<=sizeLine;decide),fun pu hpu=>⟨pu,lc.map V.str,rfl,.inr (ah.of aj),rfl,rfl,_,rfl,?_⟩⟩
   change if _=true then _ else _
   generalize hH2:af H1 pu _=H2
   have s2:Same H1 H2:=by rw [<- hH2];exact ao hpu
   have ht2:=s2 _ _ ht1
   rw [jr (Qi n2)]
   refine dh ?_
   refine ⟨_,rfl,t,_,_,_,rfl,rfl,ah.of ht2,ap (j:=0) rfl,rfl,_,rfl,?_⟩
   refine aM (Qi fun q=>n3 (by injection q)) ?_
   refine ⟨_,rfl,_,rfl,t,_,rfl,ah.of ht2,?_,fun p hp=>?_⟩
   ·rintro ⟨q,_⟩
    simp [HT.sIx] at q
   rw [Aw]
   exact k p _ _ ((s1.trans s2).trans (ao hp)) aj ((hk.kept ((s1.trans s2).trans (ao hp)).tups))
end
section
variable {P:Program} {w:World} {K:W.Frag} {mg:Str->Option Value} {base:Heap} {AA:bG} {DD:bH}
noncomputable def _root_.Mm.Tr.kw:Tr->Str
 | .set _ _ _=>"set"
 | .tell _ _=>"tell"
 | .iff _ _ _ _=>"if"
 | .whl _ _ _=>"while"
 | .give _ _=>"give"
 | .df _ _ _ _ _=>"def"
 | .kd _ _ _=>"kind"
noncomputable def _root_.Mm.Tr.ex:Tr->Option Ex
 | .set _ _ e=>some e
 | .tell _ e=>some e
 | .iff _ e _ _=>some e
 | .whl _ e _=>some e
 | .give _ e=>some e
 | .df _ _ _ _ _=>none
 | .kd _ _ _=>none
noncomputable def _root_.Mm.Tr.blocks:Tr->List (List Tr)
 | .iff _ _ b o=>[b,o]
 | .whl _ _ b=>[b]
 | .df _ _ _ _ b=>[b]
 | _=>[]
noncomputable def gw:bF->Bool
 | .b _=>true
 | _=>false
theorem ss (t:Tr):t.parts.filter gw=t.blocks.map bF.b:=by cases t<;>rfl
theorem Az (t:Tr):t.cnt=1+(t.blocks.map cnts).sum:=by
 cases t<;>simp [Tr.cnt,Tr.blocks]
theorem sv {t:Tr} {e:Ex} (h:t.ex=some e):t.kw≠"def"/\t.kw≠"kind":=by cases t<;>first | (simp only [Tr.kw];decide +kernel) | cases h
theorem lf {H:Hp} {sh:Bool} {vs:List V} {t:Tr} (h:PsAt H sh vs t.parts):∃ (r:List V),vs=.str t.kw::.int ((t.row:Nat):Int)::r:=by
 have g:∃ ps,t.parts=.s t.kw::.i t.row::ps:=by cases t<;>exact ⟨_,rfl⟩
 obtain ⟨ps,e⟩:=g
 rw [e] at h
 obtain ⟨r,e2,_⟩:=fu h
 exact ⟨r,e2⟩
noncomputable def AB:Sp:=fun vs H Q _=>∃ (v:V) (t:Tr) (e:Ex),vs=[v]/\bn H true v t/\t.ex=some e/\∀ x,a7 H x e->Q x H
noncomputable abbrev AC:List Str:=["one"]
theorem sx:ba AC ["one"] (aK m7):=⟨rfl,rfl,rfl,by decide +kernel,rfl,by decide +kernel,by decide +kernel⟩
theorem AD (T:All P w K mg AA DD):aE P w K mg base aI 1 AA.ZL DD.ZL ["one"] AB:=by
 refine T.F_ZL.ok sx (fun vs H Q E h=>?_) (fun cdv A outer s H vs Q E hr h=>?_)
 ·obtain ⟨v,t,e0,rfl,_⟩:=h
  rfl
 ·obtain ⟨v,t,e0,rfl,hS,hx0,k⟩:=h
  have nd:=sx.nd
  obtain ⟨t0,vs,j,x,ev,ht,h0,hj,hx,hb⟩:∃ t0 vs j x,v=.ref t0/\H t0=some (.tup vs)/\vs[0]?=some (.str t.kw)/\vs[j]?=some x/\a7 H x e0/\((t.kw="set"/\j=3)∨(t.kw≠"set"/\j=2)):=by
   cases t with
   | set r n e=>cases hx0;obtain ⟨t0,ve,e1,ht,hx⟩:=rL hS;exact ⟨t0,_,3,ve,e1,ht,rfl,rfl,hx,.inl ⟨rfl,rfl⟩⟩
   | tell r e=>cases hx0;obtain ⟨t0,ve,e1,ht,hx⟩:=z0 hS;exact ⟨t0,_,2,ve,e1,ht,rfl,rfl,hx,.inr ⟨by show ("tell":Str)≠"set";decide,rfl⟩⟩
   | iff r e b o=>cases hx0;obtain ⟨t0,ve,_,_,_,_,e1,ht,hx,_⟩:=z4 hS;exact ⟨t0,_,2,ve,e1,ht,rfl,rfl,hx,.inr ⟨by show ("if":Str)≠"set";decide,rfl⟩⟩
   | whl r e b=>cases hx0;obtain ⟨t0,ve,_,_,e1,ht,hx,_⟩:=z5 hS;exact ⟨t0,_,2,ve,e1,ht,rfl,rfl,hx,.inr ⟨by show ("while":Str)≠"set";decide,rfl⟩⟩
   | give r e=>cases hx0;obtain ⟨t0,ve,e1,ht,hx⟩:=z3 hS;exact ⟨t0,_,2,ve,e1,ht,rfl,rfl,hx,.inr ⟨by show ("give":Str)≠"set";decide,rfl⟩⟩
   | df r n k ps b=>cases hx0
   | kd r n ps=>cases hx0
  subst ev
  refine ⟨_,(aq (aO (jO (aY bE (au (aH (K:=K) rfl) (pv 0) ai (fun _ _=>rfl)) aD (a6 _)) (au (aH (K:=K) rfl) (pv 0) ai (fun _ _=>rfl)) (au (aH (K:=K) rfl) (pv 0) ai (fun _ _=>rfl))))),?_⟩
  refine ⟨_,rfl,t0,_,_,_,rfl,rfl,ah.of ht,ap (j:=0) h0,rfl,_,rfl,?_⟩
  rcases hb with ⟨hw,e⟩ | ⟨hw,e⟩<;>subst e
  ·exact bg (Qp (by rw [hw])) ⟨_,rfl,t0,_,_,_,rfl,rfl,ah.of ht,ap (j:=3) hj,k _ hx⟩
  ·exact aM (Qi fun z=>hw (by injection z)) ⟨_,rfl,t0,_,_,_,rfl,rfl,ah.of ht,ap (j:=2) hj,k _ hx⟩
noncomputable def AE:Sp:=fun vs H Q _=>∃ (v:V) (t:Tr),vs=[v]/\bn H true v t/\∀ p ys H',Same H H'->H' p=some (.lst ys)->PsAt H' true ys (t.blocks.map bF.b)->Q (.ref p) H'
noncomputable abbrev sy:List Str:=["one"]
theorem sB:ba sy ["one"] (aK kO):=⟨rfl,rfl,rfl,by decide +kernel,rfl,by decide +kernel,by decide +kernel⟩
theorem AF (T:All P w K mg AA DD):aE P w K mg base aI 1 AA.Zy DD.Zy ["one"] AE:=by
 refine T.F_Zy.ok sB (fun vs H Q E h=>?_) (fun cdv A outer s H vs Q E hr h=>?_)
 ·obtain ⟨v,t,rfl,_⟩:=h
  rfl
 ·obtain ⟨v,t,rfl,hS,k⟩:=h
  have nd:=sB.nd
  refine ⟨_,(aq (aO (fh (aK kO) sy [] [] rfl (by exact ⟨rfl,rfl,by decide +kernel,rfl,by decide +kernel,by decide +kernel,by decide +kernel,rfl,by decide +kernel⟩) rfl rfl (iM (pv 0)) (fun _ _ _ _=>gk (gP (dY (ji (K:=K) (n:="list") rfl) rfl T.n_isinstance iY (aa (pv 0) (aa (iG (v:=.ty "list") rfl T.n_list iZ rfl) ag))))) (fun _ _ _ _=>(pv 0))))),?_⟩
  cases hS with
  | @mk t0 xs _ ht hps =>
  refine ⟨_,rfl,t0,rfl,⟨_,ah.of ht⟩,?_⟩
  have hpl:=t.parts_len
  have hxl:=hps.length
  refine mr (K:=K) (a:=t0) (xs:=xs) (fun i ys H'=>H'=H/\i<=xs.length/\ys.length<=i/\PsAt H true ys ((t.parts.take i).filter gw)) ⟨rfl,Qr _,Qr _,by simpa using PsAt.nil⟩ (fun i ys H' _ h=>by rw [h.1];exact ah.of ht) ?_ ?_
  ·rintro i x ys H1 hx ⟨rfl,hi,hy,hys⟩
   obtain ⟨p,hp,hP⟩:=hps.get hx
   have hilt:=(Qc hx).1
   have hil:i<t.parts.length:=by omega
   have htk:(t.parts.take (i+1)).filter gw=(t.parts.take i).filter gw++[p].filter gw:=by
    rw [Qn hil,List.filter_append]
    rw [Qb hil] at hp
    rw [Qo hp]
   rcases hP.isL (K:=K) with ⟨bs,l,zs,e1,e2,hl,hL,ty,kb⟩ | ⟨nb,ty0,ty,kb⟩
   ·subst e1 e2
    refine ⟨_,rfl,_,_,true,rfl,ty,kb,_,rfl,fe ?_⟩
    refine ⟨_,rfl,cr (by omega),rfl,by omega,by simp;omega,?_⟩
    rw [htk]
    exact hys.snoc hP
   ·refine ⟨_,rfl,_,_,false,rfl,ty,kb,_,rfl,dh ?_⟩
    refine ⟨rfl,by omega,by omega,?_⟩
    rw [htk]
    have:[p].filter gw=[]:=by
     cases p with
     | b ts=>exact absurd rfl (nb ts)
     | s z=>rfl
     | i n=>rfl
     | e x=>rfl
     | p x=>rfl
    rw [this,List.append_nil]
    exact hys
  ·rintro ys H1 ⟨rfl,hi,hy,hys⟩ p hp
   rw [QB (by omega),ss] at hys
   have s1:=ao (o:=.lst ys) hp
   exact k p ys _ s1 aj (hys.kept s1.ls)
end
section
variable {P:Program} {w:World} {K:W.Frag} {mg:Str->Option Value} {base:Heap} {AA:bG} {DD:bH}
noncomputable def bu (fs:List (List ae)):List (List ae):=(b8 fs).map fun i=>fs.getD i []
theorem nI {fs:List (List ae)}:∀ i∈b8 fs,i<fs.length:=by
 unfold b8
 split
 ·intro i hi
  simpa using hi
 ·intro i hi
  exact kj (cY fs) (by omega) i hi
theorem sG {H:Hp} {xs:List V} {fs:List (List ae)} (h:bQ H xs fs):bQ H (bq fs xs) (bu fs):=by
 refine ⟨by simp [bq,bu],fun j x d hx hd=>?_⟩
 unfold bq at hx
 unfold bu at hd
 rw [Qk] at hx hd
 obtain ⟨i,hi,rfl⟩:=Option.map_eq_some_iff.mp hx
 rw [hi] at hd
 have hd:fs.getD i []=d:=by simpa using hd
 have hlt:=nI i (QD hi)
 have hlx:i<xs.length:=by rw [h.1];exact hlt
 refine h.2 i _ d ?_ ?_
 ·rw [Qb hlx,Qg,Qb hlx];rfl
 ·rw [<- hd,Qb hlt,Qg,Qb hlt];rfl
noncomputable def AG:Sp:=fun vs H Q _=>∃ (d:Addr) (fs:List (List ae)) (sh:List Bool),vs=[.ref d]/\H d=some (.dT (cu fs))/\fs.length<64/\(∀ k∈fs,k.map b9=sh)/\sh≠[]/\sh.length<100/\∀ p ys H',Same H H'->H' p=some (.lst ys)->bQ H' ys ((bu fs).map fun k=>.inl 1::k)->Q (.ref p) H'
noncomputable abbrev sI:List Str:=["found"]
theorem sJ:ba sI ["found"] (aK kJ):=⟨rfl,rfl,rfl,by decide +kernel,rfl,by decide +kernel,by decide +kernel⟩
theorem AH (T:All P w K mg AA DD):aE P w K mg base aI 1 AA.Zt DD.Zt ["found"] AG:=by
 refine T.F_Zt.ok sJ (fun vs H Q E h=>?_) (fun cdv A outer s H vs Q E hr h=>?_)
 ·obtain ⟨d,fs,sh,rfl,_⟩:=h
  rfl
 ·obtain ⟨d,fs,sh,rfl,hd,h64,hsh,hne,hshl,kq⟩:=h
  have nd:=sJ.nd
  have hu:=QF (Nat.add_le_add_left (show 1<=64 by decide) _) hr.units
  refine ⟨_,(aq (aO (fh (aK kJ) sI ["found"] [0] rfl (by exact ⟨rfl,rfl,by decide +kernel,rfl,by decide +kernel,by decide +kernel,by decide +kernel,rfl,by decide +kernel⟩) rfl rfl (ci (dY (zi rfl) rfl T.n_sorted mK (aa (pv 0) ag))) (fun _ _ _ _=>d4) (fun _ _ _ _=>(aG (y0 (K:=K) rfl) (aV (aa (gp hu (pv 1) (pv 0) (fun _ _=>rfl)) ag)) (pv 0)))))),?_⟩
  have hmp:(cu fs).map (·.1)=fs:=by
   unfold cu
   rw [List.map_map]
   show fs.map id=fs
   rw [List.map_id]
  refine ⟨_,rfl,d,cu fs,sh,rfl,hd,(by unfold cu;rw [Qf];omega),fun kv hkv=>?_,hne,fun p xs hp hT=>?_⟩
  ·unfold cu at hkv
   obtain ⟨k,hk,rfl⟩:=QE hkv
   exact hsh k hk
  rw [hmp] at hT ⊢
  have s1:=ao (o:=.lst (bq fs xs)) hp
  have hS:=sG hT
  refine ⟨p,rfl,⟨_,am.of aj⟩,?_⟩
  refine j0 (K:=K) (a:=p) (xs:=bq fs xs) (fun i ys H'=>Same (af H p (.lst (bq fs xs))) H'/\i<=(bq fs xs).length/\bQ H' ys (((bu fs).take i).map fun k=>.inl 1::k)) ⟨Same.refl _,Qr _,by simp,fun j x d h=>by simp at h⟩ (fun i ys H' _ h=>am.of (h.1 _ _ aj)) ?_ ?_
  ·rintro i x ys H1 hx ⟨sm,hi,hys⟩
   have hilt:=(Qc hx).1
   have hik:i<(bu fs).length:=by rw [<- hS.1];exact hilt
   obtain ⟨t,rfl,ht⟩:=hS.2 i x (bu fs)[i] hx (Qb hik)
   have hyl:=hys.1
   rw [Qf,Qx] at hyl
   have hmem:(bu fs)[i]∈fs:=by
    obtain ⟨j,hj,e⟩:=QE (QJ hik)
    rw [<- e,Qg,Qb (nI j hj)]
    exact QJ _
   have hnn:(bu fs)[i]≠[]:=fun z=>hne (by rw [<- hsh _ hmem,z];rfl)
   have hkl:(bu fs)[i].length<100:=by
    have:=congrArg List.length (hsh _ hmem)
    rw [Qf] at this
    omega
   have h64s:(bu fs).length<=200:=by
    unfold bu
    rw [Qf,qS]
    omega
   have ht1:=sm _ _ (s1 _ _ ht)
   have hd1:=sm _ _ (s1 _ _ hd)
   generalize hk:(bu fs)[i]=k at *
   have hval:aU (cu fs) k=some (.int 1):=by
    rw [r9,if_pos (by rw [List.any_eq_true];exact ⟨k,hmem,Qp rfl⟩)]
   refine dZ ?_
   rw [if_pos rfl]
   refine ⟨_,rfl,_,rfl,d,.int 1,rfl,by rw [<- hval];exact bt.t hd1 ht1,(by show 1<=sizeLine;decide),fun q hq=>?_⟩
   have s2:=ao (o:=.tup [.int 1]) hq
   refine ⟨_,rfl,q,t,[.int 1],k.map kV,rfl,rfl,ah.of aj,ah.of (s2 _ _ ht1),by simp,?_,fun z=>absurd (by simpa using z) hnn,fun _ q2 hq2=>?_⟩
   ·rw [Qf]
    exact Nat.le_of_lt (cr (by simp only [List.length_cons,List.length_nil];omega))
   have s3:=ao (o:=.tup ([.int 1]++k.map kV)) hq2
   refine ⟨cr (by omega),(sm.trans s2).trans s3,by omega,?_⟩
   rw [Qn hik,QK,hk]
   refine ⟨by simp [hys.1],fun j y e hy he=>?_⟩
   by_cases hj:j<ys.length
   ·rw [Qw hj] at hy
    rw [Qw (by rw [Qf,Qx];omega)] at he
    obtain ⟨t',a1,a2⟩:=hys.2 j y e hy he
    exact ⟨t',a1,s3 _ _ (s2 _ _ a2)⟩
   ·rw [Qq (by omega)] at hy
    rw [Qq (by rw [Qf,Qx];omega),Qf,Qx,<- hyl] at he
    have hj2:=(Qc hy).1
    have hj0:j-ys.length=0:=by simpa using hj2
    rw [hj0] at hy he
    have y1:V.ref q2=y:=by simpa using hy
    have e1:(.inl 1::k:List ae)=e:=by simpa using he
    exact ⟨q2,y1.symm,by rw [<- e1];exact aj⟩
  ·rintro ys H1 ⟨sm,hi,hys⟩ q hq
   have s2:=ao (o:=.lst ys) hq
   rw [QB (by rw [hS.1];exact Qh _)] at hys
   exact kq q ys _ ((s1.trans sm).trans s2) aj ⟨hys.1,fun j x k a b=>by obtain ⟨t,e,h⟩:=hys.2 j x k a b;exact ⟨t,e,s2 _ _ h⟩⟩
end
section
variable {P:Program} {w:World} {K:W.Frag} {mg:Str->Option Value} {base:Heap} {AA:bG} {DD:bH}
noncomputable def ie (H:Hp) (xs:List V):Prop:=∀ x∈xs,∃ (t:Addr) (y:V),x=.ref t/\H t=some (.tup [.int 1,y])
noncomputable def AI:Sp:=fun vs H Q _=>∃ (l:Addr) (xs:List V),vs=[.ref l]/\H l=some (.lst xs)/\ie H xs/\Q (.int (if xs=[] then 0 else 1)) H
noncomputable abbrev AJ:List Str:=["pairs","found","mask","value"]
theorem sK:ba AJ ["pairs"] (aK mY):=⟨rfl,rfl,rfl,by decide +kernel,rfl,by decide +kernel,by decide +kernel⟩
theorem jt (T:All P w K mg AA DD):aE P w K mg base aI 1 AA.ZM DD.ZM ["pairs"] AI:=by
 refine T.F_ZM.ok sK (fun vs H Q E h=>?_) (fun cdv A outer s H vs Q E hr h=>?_)
 ·obtain ⟨l,xs,rfl,_⟩:=h
  rfl
 ·obtain ⟨l,xs,rfl,hl,hP,k⟩:=h
  have nd:=sK.nd
  refine ⟨_,(av (@bf _ _ 1 _ _ _ _ nd rfl (Or.inl rfl) ai (by rfl) (by first | exact .inl rfl | exact .inr rfl | assumption)) (av (cO PassesOwn.never rfl (ci (pv 0)) (dt rfl (a8 (aT (i:=2) nd rfl (Or.inl rfl)) (a8 (aT (i:=3) nd rfl (Or.inl rfl)) cg))) (aq (@bf _ _ 1 _ _ _ _ nd rfl (Or.inl rfl) (aG lU (pv 1) (pv 2)) (by rfl) (by first | exact .inl rfl | exact .inr rfl | assumption))) (by intro _;rfl)) (aq (aO (pv 1))))),?_⟩
  refine j6 ?_
  dsimp only [aX]
  refine d5 (fun σ' H'=>H'=H/\∃ s2 s3:Option V,σ'=[some (.ref l),some (.int (if xs=[] then 0 else 1)),s2,s3]) (fun R hRR=>?_) ?_
  ·refine ⟨_,rfl,l,rfl,⟨_,am.of hl⟩,?_⟩
   refine dW (K:=K) (a:=l) (xs:=xs) (fun i σ' H'=>H'=H/\∃ s2 s3:Option V,σ'=[some (.ref l),some (.int (if i=0 then 0 else 1)),s2,s3]) ⟨rfl,none,none,rfl⟩ (fun i σ' H' _ hsl66=>by obtain ⟨e,_⟩:=hsl66;rw [e];exact am.of hl) ?_ ?_
   ·rintro i x σ' H1 hx ⟨rfl,s2,s3,rfl⟩
    obtain ⟨t,y,rfl,ht⟩:=hP x (QD hx)
    refine ⟨t,_,rfl,ah.of ht,rfl,_,_,rfl,_,_,rfl,rfl,?_⟩
    refine ⟨_,rfl,_,rfl,_,_,rfl,rfl,rfl,some (.int 1),some y,?_⟩
    by_cases h0:i=0
    ·subst h0;rfl
    ·rw [if_neg h0,if_neg (by omega)];rfl
   ·rintro σ' H1 ⟨rfl,s2,s3,rfl⟩
    refine hRR _ _ ⟨rfl,s2,s3,?_⟩
    cases xs<;>rfl
  ·rintro σ' H1 ⟨rfl,s2,s3,rfl⟩
   exact ⟨_,rfl,k⟩
noncomputable def bW (H:Hp) (p:Addr) (ks:List V):Prop:=∃ ts:List Addr,H p=some (.lst (ts.map V.ref))/\ts.length=ks.length/\∀ (i:Nat) (t:Addr) (k:V),ts[i]?=some t->ks[i]?=some k->H t=some (.tup [.int 1,k])
theorem bW.kept {H H':Hp} {p:Addr} {ks:List V} (h:bW H p ks) (s:bC H H'):bW H' p ks:=by obtain ⟨ts,a,b,c⟩:=h;exact ⟨ts,s.2 _ _ a,b,fun i t k x y=>s.1 _ _ (c i t k x y)⟩
theorem bW.p1 {H:Hp} {p:Addr} {ks:List V} (h:bW H p ks):∃ xs,H p=some (.lst xs)/\ie H xs/\(xs=[]↔ks=[]):=by
 obtain ⟨ts,a,b,c⟩:=h
 refine ⟨_,a,fun x hx=>?_,?_⟩
 ·obtain ⟨t,ht,rfl⟩:=QE hx
  obtain ⟨i,hi,e⟩:=List.mem_iff_getElem.mp ht
  exact ⟨t,(ks[i]'(by omega)),rfl,c i t _ (by rw [<- e];exact Qb hi) (Qb (by omega))⟩
 ·rw [List.map_eq_nil_iff,<- List.length_eq_zero_iff,b,List.length_eq_zero_iff]
theorem bW.cat {H:Hp} {p q:Addr} {a b:List V} (ha:bW H p a) (hb:bW H q b):∃ xs ys,H p=some (.lst xs)/\H q=some (.lst ys)/\xs.length=a.length/\ys.length=b.length/\∀ l,H l=none->bW (af H l (.lst (xs++ys))) l (a++b):=by
 obtain ⟨ts,a1,a2,a3⟩:=ha
 obtain ⟨us,b1,b2,b3⟩:=hb
 refine ⟨_,_,a1,b1,by simpa using a2,by simpa using b2,fun l hl=>⟨ts++us,by rw [aj,QK],by simp [a2,b2],fun i t k x y=>?_⟩⟩
 have s:=ao (o:=.lst (ts.map V.ref++us.map V.ref)) hl
 by_cases hi:i<ts.length
 ·rw [Qw hi] at x
  rw [Qw (by omega)] at y
  exact s _ _ (a3 i t k x y)
 ·rw [Qq (by omega)] at x
  rw [Qq (by omega),<- a2] at y
  exact s _ _ (b3 _ t k x y)
noncomputable def lg:Sp:=fun vs H Q _=>∃ (p:Addr) (ks:List V) (m:Nat),vs=[.ref p,.int ((m:Nat):Int)]/\m<=1/\bW H p ks/\ks.length<=50/\∀ q H',Same H H'->bW H' q (if m=0 then [] else ks)->Q (.ref q) H'
noncomputable abbrev sL:List Str:=["pairs","mask"]
theorem sM:ba sL ["pairs","mask"] (aK kI):=⟨rfl,rfl,rfl,by decide +kernel,rfl,by decide +kernel,by decide +kernel⟩
theorem ju (T:All P w K mg AA DD):aE P w K mg base aI 1 AA.Zs DD.Zs ["pairs","mask"] lg:=by
 refine T.F_Zs.ok sM (fun vs H Q E h=>?_) (fun cdv A outer s H vs Q E hr h=>?_)
 ·obtain ⟨p,ks,m,rfl,_⟩:=h
  rfl
 ·obtain ⟨p,ks,m,rfl,hm,⟨ts,hp,htl,hat⟩,hkl,k⟩:=h
  have nd:=sM.nd
  refine ⟨_,(aq (aO (gm (xs:=["there","value"]) (aK kI) sL ["mask"] [1] rfl (by exact ⟨rfl,rfl,by decide +kernel,by decide +kernel,by decide +kernel,by decide +kernel,by decide +kernel,rfl,by decide +kernel⟩) rfl rfl (ci (pv 0)) (fun _ _ _ _=>(fk (K:=K) (n:=2) rfl rfl (a8 (aT (i:=0) (show (["there","value","mask"]:List Str).Nodup by decide +kernel) rfl (Or.inl rfl)) (a8 (aT (i:=1) (show (["there","value","mask"]:List Str).Nodup by decide +kernel) rfl (Or.inl rfl)) cg)))) (fun _ _ _ _=>gk (aY eI (aG iR (pv 0) (pv 2)) ai (a6 _))) (fun _ _ _ _=>(aV (aa (aG iR (pv 0) (pv 2)) (aa (pv 1) ag))))))),?_⟩
  refine ⟨_,rfl,p,rfl,⟨_,am.of hp⟩,?_⟩
  refine eM (K:=K) (a:=p) (xs:=ts.map V.ref) (fun i ys H'=>Same H H'/\i<=50/\∃ us:List Addr,ys=us.map V.ref/\us.length=(if m=0 then [] else ks.take i).length/\∀ (j:Nat) (t:Addr) (q:V),us[j]?=some t->(if m=0 then [] else ks.take i)[j]?=some q->H' t=some (.tup [.int 1,q]))
   ⟨Same.refl _,Qr _,[],rfl,(by split<;>simp),fun j t q h=>by simp at h⟩ (fun i ys H' _ hsl67=>by obtain ⟨e,_⟩:=hsl67;exact am.of (e _ _ hp)) ?_ ?_
  ·rintro i x ys H1 hx ⟨sm,_,us,rfl,hul,hus⟩
   have hi:i<ts.length:=by
    have:=(Qc hx).1
    rw [Qf] at this;exact this
   have hik:i<ks.length:=by omega
   have ex:x=V.ref ts[i]:=by rw [Qk,Qb hi] at hx;exact (Qo hx).symm
   subst ex
   have hT1:=sm _ _ (hat i ts[i] ks[i] (Qb hi) (Qb hik))
   intro os hos
   obtain ⟨a,b,rfl⟩:∃ a b,os=[a,b]:=by
    match os,hos with
    | [a,b],_=>exact ⟨a,b,rfl⟩
   refine ⟨ts[i],_,rfl,ah.of hT1,rfl,_,_,rfl,_,_,rfl,rfl,⟨[_,_],rfl,rfl⟩,?_⟩
   refine ⟨_,rfl,_,rfl,_,_,rfl,rfl,rfl,_,rfl,?_⟩
   have hb:Builtin.bitAnd (1:Int) ((m:Nat):Int)=((1 &&& m:Nat):Int):=mm 1 m
   by_cases h0:m=0
   ·subst h0
    refine aM (by
     show (!decide (V.int (Builtin.bitAnd (1:Int) ((0:Nat):Int))=V.int 0))=false
     rw [hb];rfl) ?_
    exact ⟨sm,by omega,us,rfl,hul,hus⟩
   ·have h1:m=1:=by omega
    subst h1
    refine bg (by
     show (!decide (V.int (Builtin.bitAnd (1:Int) ((1:Nat):Int))=V.int 0))=true
     rw [hb];rfl) ?_
    rw [if_neg h0] at hul hus
    refine ⟨_,rfl,_,rfl,_,_,rfl,rfl,_,rfl,(by show 2<=sizeLine;decide),fun t2 ht2=>?_⟩
    dsimp only
    rw [hb]
    have s5:=ao (o:=.tup [V.int ((1 &&& 1:Nat):Int),ks[i]]) ht2
    rw [Qx] at hul
    refine ⟨by rw [Qf];exact cr (by omega),sm.trans s5,by omega,us++[t2],by simp,by simp;omega,fun j t' q e1 e2=>?_⟩
    rw [if_neg h0,Qn hik] at e2
    by_cases hj:j<us.length
    ·rw [Qw hj] at e1
     rw [Qw (by rw [Qx];omega)] at e2
     exact s5 _ _ (hus j t' q e1 e2)
    ·have hjl:=(Qc e1).1
     rw [Qv,List.length_singleton] at hjl
     have ej:j=us.length:=by omega
     subst ej
     rw [Qq (Qh _),Nat.sub_self] at e1
     rw [Qq (by rw [Qx];omega),Qx] at e2
     have e0:us.length-min i ks.length=0:=by omega
     rw [e0] at e2
     have q1:t2=t':=by simpa using e1
     have q2:ks[i]=q:=by simpa using e2
     subst q1 q2
     exact aj
  ·rintro ys H1 ⟨sm,_,us,rfl,hul,hus⟩ q hq
   have sq:=ao (o:=.lst (us.map V.ref)) hq
   rw [Qf,htl,List.take_length] at hul hus
   exact k q _ (sm.trans sq) ⟨us,aj,hul,fun i t k' x y=>sq _ _ (hus i t k' x y)⟩
noncomputable abbrev Kd:=Option Str
noncomputable def cw:Kd->V
 | some k=>.str k
 | none=>.non
noncomputable def KL (H:Hp) (p:Addr) (ks:List Kd):Prop:=bW H p (ks.map cw)
theorem KL.kept {H H':Hp} {p:Addr} {ks:List Kd} (h:KL H p ks) (s:bC H H'):KL H' p ks:=bW.kept h s
theorem KL.same {H H':Hp} {p:Addr} {ks:List Kd} (h:KL H p ks) (s:Same H H'):KL H' p ks:=h.kept s.ls
theorem KL.p1 {H:Hp} {p:Addr} {ks:List Kd} (h:KL H p ks):∃ xs,H p=some (.lst xs)/\ie H xs/\(xs=[]↔ks=[]):=by
 obtain ⟨xs,a,b,c⟩:=bW.p1 h
 exact ⟨xs,a,b,by rw [c,List.map_eq_nil_iff]⟩
theorem KL.at {H:Hp} {p:Addr} {ks:List Kd} (h:KL H p ks):∃ ts:List Addr,H p=some (.lst (ts.map V.ref))/\ts.length=ks.length/\∀ (i:Nat) (t:Addr) (k:Kd),ts[i]?=some t->ks[i]?=some k->H t=some (.tup [.int 1,cw k]):=by
 obtain ⟨ts,a,b,c⟩:=h
 exact ⟨ts,a,by simpa using b,fun i t k x y=>c i t _ x (by rw [Qk,y];rfl)⟩
theorem KL.cat {H:Hp} {p q:Addr} {a b:List Kd} (ha:KL H p a) (hb:KL H q b):∃ xs ys,H p=some (.lst xs)/\H q=some (.lst ys)/\xs.length=a.length/\ys.length=b.length/\∀ l,H l=none->KL (af H l (.lst (xs++ys))) l (a++b):=by
 obtain ⟨xs,ys,h1,h2,h3,h4,h5⟩:=bW.cat ha hb
 refine ⟨xs,ys,h1,h2,by simpa using h3,by simpa using h4,fun l hl=>?_⟩
 have:=h5 l hl
 rw [<- QK] at this
 exact this
theorem nJ {p:Addr} {ks:List Kd} {m:Nat} {H:Hp} {Q:VK} {E:XK} (hm:m<=1) (hk:KL H p ks) (hl:ks.length<=50) (k:∀ q H',Same H H'->KL H' q (if m=0 then [] else ks)->Q (.ref q) H'):lg [.ref p,.int ((m:Nat):Int)] H Q E:=by
 refine ⟨p,ks.map cw,m,rfl,hm,hk,by simpa using hl,fun q H' s h=>k q H' s ?_⟩
 have e:(if m=0 then [] else ks.map cw)=(if m=0 then [] else ks).map cw:=by split<;>rfl
 rw [e] at h
 exact h
noncomputable def fits (due:Str) (k:Kd):Bool:=decide (k=none)||decide (k=some due)
noncomputable def cx (ks:List Kd) (due:Str):Nat:=if ks.all (fits due) then 0 else 1
noncomputable def AK:Sp:=fun vs H Q _=>∃ (p:Addr) (ks:List Kd) (due:Str),vs=[.ref p,.str due]/\KL H p ks/\ks.length<=50/\∀ H',Same H H'->Q (.int ((cx ks due:Nat):Int)) H'
noncomputable abbrev sN:List Str:=["kinds","due"]
theorem sP:ba sN ["kinds","due"] (aK kP):=⟨rfl,rfl,rfl,by decide +kernel,rfl,by decide +kernel,by decide +kernel⟩
theorem nK (T:All P w K mg AA DD):aE P w K mg base aI 2 AA.ZQ DD.ZQ ["kinds","due"] AK:=by
 have GA:=jt (base:=base) T
 refine T.F_ZQ.ok sP (fun vs H Q E h=>?_) (fun cdv A outer s H vs Q E hr h=>?_)
 ·obtain ⟨p,ks,due,rfl,_⟩:=h
  rfl
 ·obtain ⟨p,ks,due,rfl,hK,hkl,k⟩:=h
  obtain ⟨ts,hp,htl,hat⟩:=hK.at
  have nd:=sP.nd
  have hr1:aA 1 _:=hr
  refine ⟨_,(aq (aO (aN GA hr1 rfl T.m_ZM T.k_ZM T.b_ZM .nil aB (aa (gm (xs:=["mask","kind"]) (aK kP) sN ["due"] [1] rfl (by exact ⟨rfl,rfl,by decide +kernel,by decide +kernel,by decide +kernel,by decide +kernel,by decide +kernel,rfl,by decide +kernel⟩) rfl rfl (ci (pv 0)) (fun _ _ _ _=>(fk (K:=K) (n:=2) rfl rfl (a8 (aT (i:=0) (show (["mask","kind","due"]:List Str).Nodup by decide +kernel) rfl (Or.inl rfl)) (a8 (aT (i:=1) (show (["mask","kind","due"]:List Str).Nodup by decide +kernel) rfl (Or.inl rfl)) cg)))) (fun _ _ _ _=>gk (PW.pt (iH (gO (lJ (pv 1))) (jN (aY eI (pv 1) (pv 2) (a6 _)))))) (fun _ _ _ _=>(aV (aa (pv 0) (aa (pv 1) ag))))) ag)))),?_⟩
  refine ⟨_,rfl,p,rfl,⟨_,am.of hp⟩,?_⟩
  refine eM (K:=K) (a:=p) (xs:=ts.map V.ref) (fun i ys H'=>Same H H'/\ie H' ys/\(ys=[]↔(ks.take i).all (fits due)=true)/\ys.length<=i/\i<=50)
   ⟨Same.refl _,(by intro x hx;cases hx),(by simp),Qh _,(by decide)⟩ (fun i ys H' _ hsl68=>by obtain ⟨e,_⟩:=hsl68;exact am.of (e _ _ hp)) ?_ ?_
  ·rintro i x ys H1 hx ⟨sm,hP,hy,hyl,_⟩
   have hi:i<ts.length:=by
    have:=(Qc hx).1
    rw [Qf] at this;exact this
   have hik:i<ks.length:=by omega
   have ex:x=V.ref ts[i]:=by rw [Qk,Qb hi] at hx;exact (Qo hx).symm
   subst ex
   have hT1:=sm _ _ (hat i ts[i] ks[i] (Qb hi) (Qb hik))
   have hall:(ks.take (i+1)).all (fits due)=((ks.take i).all (fits due)&&fits due ks[i]):=by
    rw [Qn hik,List.all_append];simp
   intro os hos
   obtain ⟨a,b,rfl⟩:∃ a b,os=[a,b]:=by
    match os,hos with
    | [a,b],_=>exact ⟨a,b,rfl⟩
   refine ⟨ts[i],_,rfl,ah.of hT1,rfl,_,_,rfl,_,_,rfl,rfl,⟨[_,_],rfl,rfl⟩,?_⟩
   have no:fits due ks[i]=true->∀ {R:Prop},(Same H H1/\ie H1 ys/\(ys=[]↔(ks.take (i+1)).all (fits due)=true)/\ys.length<=i+1/\i+1<=50->R)->R:=fun hf R k=>k ⟨sm,hP,by rw [hall,hf,Bool.and_true];exact hy,by omega,by omega⟩
   cases hki:ks[i] with
   | none =>
    refine ⟨_,rfl,_,rfl,aM (by rw [Qp (show cw none=V.non from rfl)];rfl) ?_⟩
    exact no (by rw [hki];rfl) id
   | some kd =>
   rw [hki] at hT1
   refine ⟨_,rfl,_,rfl,bg (by rw [Qi (fun z=>by cases z)];rfl) ?_⟩
   refine ⟨_,rfl,_,rfl,rfl,_,rfl,?_⟩
   by_cases hkd:kd=due
   ·refine aM (by
     show (!decide (V.str kd=V.str due))=false
     rw [Qp (by rw [hkd])];rfl) ?_
    exact no (by rw [hki,hkd];simp [fits]) id
   ·refine bg (by
     show (!decide (V.str kd=V.str due))=true
     rw [Qi (fun z=>hkd (by injection z))];rfl) ?_
    refine ⟨_,rfl,_,rfl,(by show 2<=sizeLine;decide),fun t2 ht2=>?_⟩
    have s5:=ao (o:=.tup [.int 1,.str kd]) ht2
    refine ⟨cr (by omega),sm.trans s5,?_,?_,by simp;omega,by omega⟩
    ·intro x hx
     rcases Qy hx with hx | hx
     ·obtain ⟨t',y,e1,e2⟩:=hP x hx
      exact ⟨t',y,e1,s5 _ _ e2⟩
     ·have ex:x=V.ref t2:=by simpa using hx
      exact ⟨t2,.str kd,ex,aj⟩
    ·rw [hall,hki];simp [fits,hkd]
  ·rintro ys H1 ⟨sm,hP,hy,_,_⟩ q hq
   have sq:=ao (o:=.lst ys) hq
   refine ⟨q,ys,rfl,aj,fun x hx=>by obtain ⟨t',y,e1,e2⟩:=hP x hx;exact ⟨t',y,e1,sq _ _ e2⟩,?_⟩
   rw [Qf,htl,List.take_length] at hy
   have kk:=k _ (sm.trans sq)
   unfold cx at kk
   by_cases hkd:ks.all (fits due)=true
   ·rw [if_pos (hy.mpr hkd)]
    rw [if_pos hkd] at kk;exact kk
   ·rw [if_neg (fun z=>hkd (hy.mp z))]
    rw [if_neg hkd] at kk;exact kk
noncomputable def lh:List Str:=["num","truth"]
noncomputable def isRec (k:Kd):Bool:=match k with
 | none=>false
 | some z=>!decide (z∈lh)
noncomputable def AL:Sp:=fun vs H Q _=>∃ k:Kd,vs=[cw k]/\Q (.bl (isRec k)) H
noncomputable abbrev AM:List Str:=["kind"]
theorem sQ:ba AM ["kind"] (aK m9):=⟨rfl,rfl,rfl,by decide +kernel,rfl,by decide +kernel,by decide +kernel⟩
theorem AN (T:All P w K mg AA DD):aE P w K mg base aI 1 AA.ZA DD.ZA ["kind"] AL:=by
 refine T.F_ZA.ok sQ (fun vs H Q E h=>?_) (fun cdv A outer s H vs Q E hr h=>?_)
 ·obtain ⟨kd,rfl,_⟩:=h
  rfl
 ·obtain ⟨kd,rfl,k⟩:=h
  have nd:=sQ.nd
  refine ⟨_,(aq (aO (oV (vU (lJ (pv 0))) (oU (@lV _ _ _ _ _ _ _ _ (qM (K:=K) rfl) (pv 0) (vQ (v:=.ref AA.q_PLAIN_KINDS) rfl T.m_PLAIN_KINDS rfl) rfl))))),?_⟩
  cases kd with
  | none =>
   refine ⟨_,rfl,_,rfl,aM (by rw [Qp (show cw none=V.non from rfl)];rfl) ?_⟩
   exact k
  | some z =>
  refine ⟨_,rfl,_,rfl,bg (by rw [Qi (fun z=>by cases z)];rfl) ?_⟩
  refine ⟨_,rfl,AA.q_PLAIN_KINDS,[.str "num",.str "truth"],rfl,.inr (T.Q_PLAIN_KINDS H),rfl,rfl,?_⟩
  show Q (V.bl (!eZ (V.str z) (lh.map V.str))) H
  rw [nH];exact k
structure bh (H H':Hp):Prop where
 ls:bC H H'
 dk:∀ a kv,H a=some (.dK kv)->H' a=some (.dK kv)
theorem bh.refl (H:Hp):bh H H:=⟨bC.refl _,fun _ _ h=>h⟩
theorem bh.trans {H H1 H2:Hp} (a:bh H H1) (b:bh H1 H2):bh H H2:=⟨a.ls.trans b.ls,fun _ _ h=>b.dk _ _ (a.dk _ _ h)⟩
theorem bv {H H':Hp} (s:Same H H'):bh H H':=⟨s.ls,fun _ _ h=>s _ _ h⟩
structure aW (H:Hp) (C o dx d2:Addr) (F:List (List ae × V)) (fs:List (List ae)):Prop where
 ins:∃ d1,H o=some (.ins C dx [("firsts",.ref d1),("faults",.ref d2)])/\H d1=some (.dT F)/\d1≠d2
 flt:H d2=some (.dT (cu fs))
theorem aW.same {H H':Hp} {C o dx d2:Addr} {F:List (List ae × V)} {fs:List (List ae)} (h:aW H C o dx d2 F fs) (s:Same H H'):aW H' C o dx d2 F fs:=by
 obtain ⟨⟨d1,h1,h3,h4⟩,h2⟩:=h
 exact ⟨⟨d1,s _ _ h1,s _ _ h3,h4⟩,s _ _ h2⟩
theorem aW.fault {H:Hp} {C o dx d2:Addr} {F:List (List ae × V)} {fs fs':List (List ae)} (h:aW H C o dx d2 F fs):aW (af H d2 (.dT (cu fs'))) C o dx d2 F fs'/\bh H (af H d2 (.dT (cu fs'))):=by
 obtain ⟨⟨d1,h1,h3,h4⟩,h2⟩:=h
 refine ⟨⟨⟨d1,?_,?_,h4⟩,aj⟩,⟨jp h2 (fun _ z=>nomatch z) (fun _ z=>nomatch z) (fun _ _ z=>nomatch z),fun a kv e=>by rw [ar (fun z=>by rw [z,h2] at e;cases e)];exact e⟩⟩
 ·rw [ar (fun z=>by rw [z,h2] at h1;cases h1)];exact h1
 ·rw [ar h4];exact h3
noncomputable def kk (r:Nat) (what:Str):List ae:=[.inl ((r:Nat):Int),.inr what]
noncomputable def AO (C:Addr):Sp:=fun vs H Q _=>∃ (o dx d2:Addr) (F:List (List ae × V)) (fs:List (List ae)) (m r:Nat) (z:Str),vs=[.ref o,.int ((m:Nat):Int),.int ((r:Nat):Int),.str z]/\aW H C o dx d2 F fs/\fs.length<1000 /\
 ((m=0/\∀ H',bh H H'->aW H' C o dx d2 F fs->Q .non H')∨(m=1/\∀ H',bh H H'->aW H' C o dx d2 F (bI fs (kk r z))->Q .non H'))
noncomputable abbrev AQ:List Str:=["self","mask","at","what"]
theorem sR:ba AQ ["self","mask","at","what"] (aK nu):=⟨rfl,rfl,rfl,by decide +kernel,rfl,by decide +kernel,by decide +kernel⟩
theorem jv (T:All P w K mg AA DD):aE P w K mg base aI 2 AA.Zm DD.Zm ["self","mask","at","what"] (AO AA.c_KindLook):=by
 have GD:=Ar (base:=base) T
 refine T.F_Zm.ok sR (fun vs H Q E h=>?_) (fun cdv A outer s H vs Q E hr h=>?_)
 ·obtain ⟨o,dx,d2,F,fs,m,r,z,rfl,_⟩:=h
  rfl
 ·obtain ⟨o,dx,d2,F,fs,m,r,z,rfl,hk,hf,h⟩:=h
  have nd:=sR.nd
  have hr1:aA 1 _:=hr
  refine ⟨_,(aq (bX (aN GD hr1 rfl T.m_ZN T.k_ZN T.b_ZN .nil aB (aa (jT (pv 0) rfl) (aa (aV (aa (pv 2) (aa (pv 3) ag))) (aa (pv 1) ag)))) (by rfl))),?_⟩
  obtain ⟨d1,hi,_⟩:=hk.ins
  refine ⟨_,rfl,o,AA.c_KindLook,dx,_,_,rfl,hi,T.cl_KindLook,T.na_KindLook_faults,rfl,?_⟩
  refine ⟨_,rfl,_,rfl,(by show 2<=sizeLine;decide),fun t ht=>?_⟩
  have s1:=ao (o:=.tup [.int ((r:Nat):Int),.str z]) ht
  have hk1:=hk.same s1
  have e1:af H t (.tup [.int ((r:Nat):Int),.str z]) t=some (.tup ((kk r z).map kV)):=aj
  generalize af H t (.tup [.int ((r:Nat):Int),.str z])=H1 at s1 hk1 e1 ⊢
  refine ⟨_,rfl,d2,.ref t,m,rfl,.inr ⟨_,.inl hk1.flt⟩,?_⟩
  rcases h with ⟨e,k⟩ | ⟨e,k⟩
  ·exact .inl ⟨e,k _ (bv s1) hk1⟩
  ·obtain ⟨a,b⟩:=hk1.fault (fs':=bI fs (kk r z))
   refine .inr ⟨e,_,_,bt.t hk1.flt e1,?_,dw.t hk1.flt e1 ?_,?_⟩
   ·rw [r9]
    split
    ·exact .inr rfl
    ·exact .inl rfl
   ·unfold cu
    rw [Qf]
    exact cr hf
   ·rw [Al]
    exact k _ ((bv s1).trans b) a
end
section
variable {P:Program} {w:World} {K:W.Frag} {mg:Str->Option Value} {base:Heap} {AA:bG} {DD:bH}
noncomputable def _root_.Mm.Tr.hd:Tr->Option (Str × Str)
 | .df _ n _ _ _=>some ("def",n)
 | .kd _ n _=>some ("kind",n)
 | _=>none
noncomputable def aF (k:Str × Str) (ts:List Tr):Option Tr:=ts.find? fun t=>decide (t.hd=some k)
noncomputable def c7 (k:Str × Str):List ae:=[.inr k.1,.inr k.2]
theorem AR {a b:Str × Str} (h:c7 a=c7 b):a=b:=by
 simp [c7] at h
 exact Prod.ext h.1 h.2
noncomputable def dJ (H:Hp) (F:List (List ae × V)) (ts:List Tr):Prop:=∀ k:Str × Str,(aU F (c7 k)=none/\aF k ts=none)∨∃ p v t,aU F (c7 k)=some (.ref p)/\bW H p [v]/\bn H true v t/\aF k ts=some t
theorem dJ.kept {H H':Hp} {F:List (List ae × V)} {ts:List Tr} (h:dJ H F ts) (s:bC H H'):dJ H' F ts:=fun k=>by
 rcases h k with h | ⟨p,v,t,a,b,c,d⟩
 ·exact .inl h
 ·exact .inr ⟨p,v,t,a,b.kept s,c.kept s,d⟩
theorem nM (k:Str × Str) (ts:List Tr) (t:Tr):aF k (ts++[t])=(aF k ts).or (if t.hd=some k then some t else none):=by
 unfold aF
 rw [List.find?_append]
 by_cases h:t.hd=some k<;>simp [h]
noncomputable def jw:List Str:=["def","kind"]
theorem AS {H:Hp} {vs:List V} {t:Tr} (h:PsAt H true vs t.parts):(t.kw∉jw/\t.hd=none)∨(t.kw∈jw/\∃ z r,t.hd=some (t.kw,z)/\vs=.str t.kw::.int ((t.row:Nat):Int)::.str z::r):=by
 have g:(t.kw∉jw/\t.hd=none)∨(t.kw∈jw/\∃ z ps,t.hd=some (t.kw,z)/\t.parts=.s t.kw::.i t.row::.s z::ps):=by
  cases t with
  | df r n k ps b=>exact .inr ⟨by simp only [Tr.kw];decide +kernel,n,_,rfl,rfl⟩
  | kd r n ps=>exact .inr ⟨by simp only [Tr.kw];decide +kernel,n,_,rfl,rfl⟩
  | _=>exact .inl ⟨by simp only [Tr.kw];decide +kernel,rfl⟩
 rcases g with g | ⟨g1,z,ps,g2,g3⟩
 ·exact .inl g
 ·rw [g3] at h
  obtain ⟨r,e,h⟩:=fu h
  obtain ⟨a,r',e',h1,h⟩:=c0 h
  exact .inr ⟨g1,z,r',g2,by rw [e,e',ib h1]⟩
noncomputable def AT:Sp:=fun vs H Q _=>∃ (l:Addr) (xs:List V) (ts:List Tr),vs=[.ref l]/\H l=some (.lst xs)/\LAt H true xs ts/\ts.length<=50/\∀ d F H',Same H H'->H' d=some (.dT F)->dJ H' F ts->Q (.ref d) H'
noncomputable abbrev AU:List Str:=["tree","found","mask","one","key","rows"]
theorem sS:ba AU ["tree"] (aK m5):=⟨rfl,rfl,rfl,by decide +kernel,rfl,by decide +kernel,by decide +kernel⟩
theorem AV (T:All P w K mg AA DD):aE P w K mg base aI 2 AA.Zu DD.Zu ["tree"] AT:=by
 have GA:=jt (base:=base) T
 have GN:=jq (base:=base) T
 have GB:=ju (base:=base) T
 refine T.F_Zu.ok sS (fun vs H Q E h=>?_) (fun cdv A outer s H vs Q E hr h=>?_)
 ·obtain ⟨l,xs,ts,rfl,_⟩:=h
  rfl
 ·obtain ⟨l,xs,ts,rfl,hl,hL,h50,kq⟩:=h
  have nd:=sS.nd
  have hr1:aA 1 _:=hr
  have hu:=QF (Nat.add_le_add_left (show 1<=64 by decide) _) hr.units
  refine ⟨_,(av (@bf _ _ 1 _ _ _ _ nd rfl (Or.inl rfl) (qu) (by rfl) (by first | exact .inl rfl | exact .inr rfl | assumption)) (av (cO PassesOwn.never rfl (ci (pv 0)) (dt rfl (a8 (aT (i:=2) nd rfl (Or.inl rfl)) (a8 (aT (i:=3) nd rfl (Or.inl rfl)) cg))) (aq (be (aY (mJ (K:=K) rfl) (au (aH (K:=K) rfl) (pv 3) ai (fun _ _=>rfl)) (aV (aa aD (aa aD ag))) rfl) (av (@bf _ _ 4 _ _ _ _ nd rfl (Or.inl rfl) (aV (aa (au (aH (K:=K) rfl) (pv 3) ai (fun _ _=>rfl)) (aa (au (aH (K:=K) rfl) (pv 3) ai (fun _ _=>rfl)) ag))) (by rfl) (by first | exact .inl rfl | exact .inr rfl | assumption)) (av (@bf _ _ 5 _ _ _ _ nd rfl (Or.inl rfl) (fN hu (pv 1) (pv 4) (bB ag) ⟨by rfl,by rfl,by rfl,by rfl⟩) (by rfl) (by first | exact .inl rfl | exact .inr rfl | assumption)) (aq (i6 hu (pv 1) (pv 4) (aG jY (pv 5) (aN GB hr1 rfl T.m_Zs T.k_Zs T.b_Zs .nil aB (aa (bB (aa (aV (aa (pv 2) (aa (pv 3) ag))) ag)) (aa (aN GN hr1 rfl T.m_ZK T.k_ZK T.b_ZK .nil aB (aa (pv 2) (aa (aN GA hr1 rfl T.m_ZM T.k_ZM T.b_ZM .nil aB (aa (pv 5) ag)) ag))) ag)))) rfl)))) bo)) (by intro _;rfl)) (aq (aO (pv 1))))),?_⟩
  refine fun d hd=>?_
  have s1:=ao (o:=.dT []) hd
  dsimp only [aX]
  have hxl:=hL.length
  have hdl:∀ {H':Hp} {F},H' d=some (.dT F)->∀ F',bC H' (af H' d (.dT F')):=fun h F'=>jp h (fun _ z=>nomatch z) (fun _ z=>nomatch z) fun _ _ z=>nomatch z
  refine d5 (fun σ' H'=>(∃ F,H' d=some (.dT F)/\dJ H' F ts)/\(∀ a,a≠d->∀ o,H a=some o->H' a=some o)/\∃ x2 x3 x4 x5,σ'=[some (.ref l),some (.ref d),x2,x3,x4,x5]) (fun R hR=>?_) ?_
  ·refine ⟨_,rfl,l,rfl,⟨_,am.of (s1 _ _ hl)⟩,?_⟩
   refine dW (K:=K) (a:=l) (xs:=xs) (fun i σ' H'=>(∃ F,H' d=some (.dT F)/\dJ H' F (ts.take i)/\F.length<=i)/\(∀ a,a≠d->∀ o,H a=some o->H' a=some o)/\∃ x2 x3 x4 x5,σ'=[some (.ref l),some (.ref d),x2,x3,x4,x5]) ⟨⟨[],aj,fun k=>.inl ⟨rfl,rfl⟩,Qh _⟩,fun a ha o h=>by rw [ar ha];exact h,_,_,_,_,rfl⟩ (fun i σ' H' _ h=>am.of (h.2.1 _ (fun z=>by rw [z] at hl;rw [hl] at hd;cases hd) _ hl)) ?_ ?_
   ·rintro i x σ' H1 hx ⟨⟨F,hF,hFs,hFl⟩,sm,x2,x3,x4,x5,rfl⟩
    obtain ⟨t,ht,hO⟩:=hL.get hx
    have ls1:bC H H1:=⟨fun b xs h=>sm b (fun z=>by rw [z,hd] at h;cases h) _ h,fun b xs h=>sm b (fun z=>by rw [z,hd] at h;cases h) _ h,fun b o x h=>sm b (fun z=>by rw [z,hd] at h;cases h) _ h⟩
    have hO1:=hO.kept ls1
    obtain ⟨hit,et⟩:=Qc ht
    rw [Qn hit,et]
    cases hO1 with
    | plain e _=>cases e
    | @shared p y _ _ hp hS =>
    have hS0:=hS
    cases hS with
    | @mk t0 vs _ ht0 hps =>
    have hda:=AS hps
    obtain ⟨vr,rfl⟩:=lf hps
    refine ⟨p,_,rfl,ah.of hp,rfl,_,_,rfl,_,_,rfl,rfl,?_⟩
    refine ⟨_,rfl,t0,_,_,_,rfl,rfl,ah.of ht0,ap (j:=0) rfl,(by show 2<=sizeLine;decide),fun pt hpt=>⟨pt,jw.map V.str,rfl,.inr (ah.of aj),rfl,rfl,_,rfl,?_⟩⟩
    have s2:=ao (o:=.tup [V.str "def",V.str "kind"]) hpt
    have ne:∀ {a},H1 a=none->a≠d:=fun h z=>by rw [z,hF] at h;cases h
    rcases hda with ⟨hh,hn⟩ | ⟨hh,z,r,hz,ev⟩
    ·refine aM (jr (Qi hh)) ?_
     refine ⟨⟨F,s2 _ _ hF,fun k=>?_,by omega⟩,fun a ha o h=>s2 _ _ (sm a ha o h),_,_,_,_,rfl⟩
     rw [nM,hn,if_neg (by simp),Option.or_none]
     exact hFs.kept s2.ls k
    ·refine bg (jr (Qp hh)) ?_
     have ev2:vr=.str z::r:=by injection ev with _ q;injection q
     subst ev2
     have ht2:=s2 _ _ ht0
     have hF2:=s2 _ _ hF
     have hFs2:=hFs.kept s2.ls
     have sm2:∀ a,a≠d->∀ o,H a=some o->af H1 pt (.tup [V.str "def",V.str "kind"]) a=some o:=fun a ha o h=>s2 _ _ (sm a ha o h)
     have hS2:=hS0.kept s2.ls
     generalize af H1 pt (.tup [V.str "def",V.str "kind"])=H2 at ht2 hF2 hFs2 sm2 hS2 ⊢
     refine ⟨_,rfl,t0,_,_,_,rfl,rfl,ah.of ht2,ap (j:=0) rfl,_,rfl,t0,_,_,_,rfl,rfl,ah.of ht2,ap (j:=2) rfl,(by show 2<=sizeLine;decide),fun q hq=>?_⟩
     have s3:=ao (o:=.tup [.str t.kw,.str z]) hq
     dsimp only [aX]
     refine ⟨_,rfl,d,rfl,.inr ⟨F,.inl (s3 _ _ hF2)⟩,_,rfl,(by show 0<=sizeLine;decide),fun q2 hq2=>?_⟩
     have s4:=ao (o:=.lst []) hq2
     have s34:=s3.trans s4
     have hkk:af (af H2 q (.tup [.str t.kw,.str z])) q2 (.lst []) q=some (.tup ((c7 (t.kw,z)).map kV)):=s4 _ _ aj
     refine ⟨_,bt.t (k:=c7 (t.kw,z)) (s34 _ _ hF2) hkk,?_⟩
     obtain ⟨l3,ks,el3,hl3,hks⟩:∃ l3 ks,(aU F (c7 (t.kw,z))).getD (V.ref q2)=.ref l3/\bW (af (af H2 q (.tup [.str t.kw,.str z])) q2 (.lst [])) l3 ks/\((ks=[]/\aF (t.kw,z) (ts.take i)=none)∨∃ v t',ks=[v]/\bn H2 true v t'/\aF (t.kw,z) (ts.take i)=some t'):=by
      rcases hFs2 (t.kw,z) with ⟨a,b⟩ | ⟨p',v',t',a,b,c,e⟩
      ·exact ⟨q2,[],by rw [a];rfl,⟨[],aj,rfl,fun i t k x=>by simp at x⟩,.inl ⟨rfl,b⟩⟩
      ·exact ⟨p',[v'],by rw [a];rfl,b.kept s34.ls,.inr ⟨v',t',rfl,c,e⟩⟩
     rw [el3]
     have hF4:=s34 _ _ hF2
     have ht4:=s34 _ _ ht2
     have hS4:=hS2.kept s34.ls
     have hFs4:=hFs2.kept s34.ls
     have sm4:∀ a,a≠d->∀ o,H a=some o->af (af H2 q (.tup [.str t.kw,.str z])) q2 (.lst []) a=some o:=fun a ha o h=>s34 _ _ (sm2 a ha o h)
     have hks4:((ks=[]/\aF (t.kw,z) (ts.take i)=none)∨∃ v t',ks=[v]/\bn (af (af H2 q (.tup [.str t.kw,.str z])) q2 (.lst [])) true v t'/\aF (t.kw,z) (ts.take i)=some t'):=hks.imp_right fun hsl69=>by obtain ⟨v,t',a,b,c⟩:=hsl69;exact ⟨v,t',a,b.kept s34.ls,c⟩
     generalize af (af H2 q (.tup [.str t.kw,.str z])) q2 (.lst [])=H4 at hkk hl3 hF4 ht4 hS4 hFs4 sm4 hks4 ⊢
     dsimp only [aX]
     refine ⟨_,rfl,_,rfl,_,rfl,(by show 2<=sizeLine;decide),fun tp htp=>⟨(by show 1<=sizeLine;decide),fun lp hlp=>?_⟩⟩
     have s5:=ao (o:=.tup [.int 1,.ref t0]) htp
     have s6:=ao (o:=.lst [.ref tp]) hlp
     have s56:=s5.trans s6
     have hlp6:bW (af (af H4 tp (.tup [.int 1,.ref t0])) lp (.lst [.ref tp])) lp [.ref t0]:=⟨[tp],aj,rfl,fun i t k x y=>by
      match i with
      | 0=>cases (show some tp=some t from x);cases (show some (V.ref t0)=some k from y);exact s6 _ _ aj
      | i+1=>simp at x⟩
     have hl6:=hl3.kept s56.ls
     have hF6:=s56 _ _ hF4
     have ht6:=s56 _ _ ht4
     have hS6:=hS4.kept s56.ls
     have hFs6:=hFs4.kept s56.ls
     have hkk6:=s56 _ _ hkk
     have sm6:∀ a,a≠d->∀ o,H a=some o->af (af H4 tp (.tup [.int 1,.ref t0])) lp (.lst [.ref tp]) a=some o:=fun a ha o h=>s56 _ _ (sm4 a ha o h)
     have hks6:((ks=[]/\aF (t.kw,z) (ts.take i)=none)∨∃ v t',ks=[v]/\bn (af (af H4 tp (.tup [.int 1,.ref t0])) lp (.lst [.ref tp])) true v t'/\aF (t.kw,z) (ts.take i)=some t'):=hks4.imp_right fun hsl70=>by obtain ⟨v,t',a,b,c⟩:=hsl70;exact ⟨v,t',a,b.kept s56.ls,c⟩
     generalize af (af H4 tp (.tup [.int 1,.ref t0])) lp (.lst [.ref tp])=H6 at hlp6 hl6 hF6 ht6 hS6 hFs6 hkk6 sm6 hks6 ⊢
     obtain ⟨ys,hy,hP2,hye⟩:=hl6.p1
     refine ⟨_,rfl,_,rfl,l3,ys,rfl,hy,hP2,?_⟩
     refine ⟨1,(if ys=[] then 0 else 1),?_,?_⟩
     ·split<;>rfl
     generalize hm:(1 ^^^ (1 &&& (if ys=[] then 0 else 1)):Nat)=m
     have hm1:m<=1/\∃ v t',ks++(if m=0 then [] else [V.ref t0])=[v]/\bn H6 true v t'/\aF (t.kw,z) (ts.take i++[t])=some t':=by
      rw [nM,if_pos hz]
      rcases hks6 with ⟨e1,e2⟩ | ⟨v,t',e1,e2,e3⟩
      ·rw [if_pos (hye.mpr e1)] at hm
       subst hm e1
       exact ⟨by decide,_,t,rfl,hS6,by rw [e2];rfl⟩
      ·rw [if_neg (fun q=>by have:=hye.mp q;rw [e1] at this;cases this)] at hm
       subst hm e1
       exact ⟨by decide,v,t',rfl,e2,by rw [e3];rfl⟩
     obtain ⟨hmle,v,t',ekv,hSv,hfst⟩:=hm1
     refine ⟨lp,[.ref t0],m,rfl,hmle,hlp6,by simp,fun p3 H7 s7 hK7=>?_⟩
     obtain ⟨xs1,ys1,h1,h2,h3,h4,h5⟩:=(hl6.kept s7.ls).cat hK7
     refine ⟨l3,p3,xs1,ys1,rfl,rfl,h1,h2,?_,fun l8 hl8=>?_⟩
     ·have e3:=congrArg List.length ekv
      rw [Qv,<- h3,<- h4] at e3
      rw [e3];show 1<=sizeLine;decide
     have hK8:=h5 l8 hl8
     rw [ekv] at hK8
     have s8:=ao (o:=.lst (xs1++ys1)) hl8
     have s78:=s7.trans s8
     have hF8:=s78 _ _ hF6
     have hFs8:=hFs6.kept s78.ls
     have lsd:=hdl hF8 (bO F (c7 (t.kw,z)) (.ref l8))
     refine ⟨_,rfl,_,rfl,d,_,rfl,dw.t hF8 (s78 _ _ hkk6) (cr (by omega)),⟨_,aj,fun k=>?_,?_⟩,fun a ha o h=>by rw [ar ha];exact s78 _ _ (sm6 a ha o h),_,_,_,_,rfl⟩
     ·rw [j4]
      by_cases hk:k=(t.kw,z)
      ·subst hk
       rw [if_pos rfl]
       exact .inr ⟨l8,v,t',rfl,hK8.kept lsd,(hSv.kept s78.ls).kept lsd,hfst⟩
      ·rw [if_neg (fun q=>hk (AR q)),nM,if_neg (fun q=>hk (by rw [hz] at q;exact (Qo q).symm)),Option.or_none]
       exact hFs8.kept lsd k
     ·have:=i5 F (c7 (t.kw,z)) (V.ref l8);omega
   ·rintro σ' H1 ⟨⟨F,a,b,_⟩,sm,x2,x3,x4,x5,rfl⟩
    rw [QB (by omega)] at b
    exact hR _ _ ⟨⟨F,a,b⟩,sm,_,_,_,_,rfl⟩
  ·rintro σ' H1 ⟨⟨F,a,b⟩,sm,x2,x3,x4,x5,rfl⟩
   refine ⟨_,rfl,kq d F _ (fun b o h=>sm b (fun z=>by rw [z,hd] at h;cases h) o h) a b⟩
end
section
variable {P:Program} {w:World} {K:W.Frag} {mg:Str->Option Value} {base:Heap} {AA:bG} {DD:bH}
noncomputable def _root_.Mm.Tr.prs:Tr->List (Str × Str)
 | .df _ _ _ ps _=>ps
 | .kd _ _ ps=>ps
 | _=>[]
noncomputable def AW:Sp:=fun vs H Q _=>∃ (v:V) (t:Tr),vs=[v]/\bn H true v t/\t.hd≠none/\∀ x,eC H x t.prs->Q x H
noncomputable abbrev AX:List Str:=["one"]
theorem sT:ba AX ["one"] (aK m6):=⟨rfl,rfl,rfl,by decide +kernel,rfl,by decide +kernel,by decide +kernel⟩
theorem AY (T:All P w K mg AA DD):aE P w K mg base aI 1 AA.ZF DD.ZF ["one"] AW:=by
 refine T.F_ZF.ok sT (fun vs H Q E h=>?_) (fun cdv A outer s H vs Q E hr h=>?_)
 ·obtain ⟨v,t,rfl,_⟩:=h
  rfl
 ·obtain ⟨v,t,rfl,hS,hn,k⟩:=h
  have nd:=sT.nd
  obtain ⟨t0,vs,j,x,ev,ht,h0,hj,hp,hb⟩:∃ t0 vs j x,v=.ref t0/\H t0=some (.tup vs)/\vs[0]?=some (.str t.kw)/\vs[j]?=some x/\eC H x t.prs/\((t.kw="def"/\j=4)∨(t.kw≠"def"/\j=3)):=by
   cases t with
   | df r n kd ps b=>obtain ⟨t0,vp,_,_,e1,ht,hp,_⟩:=rM hS;exact ⟨t0,_,4,vp,e1,ht,rfl,rfl,hp,.inl ⟨rfl,rfl⟩⟩
   | kd r n ps=>obtain ⟨t0,vp,e1,ht,hp⟩:=nE hS;exact ⟨t0,_,3,vp,e1,ht,rfl,rfl,hp,.inr ⟨by show ("kind":Str)≠"def";decide,rfl⟩⟩
   | _=>exact absurd rfl hn
  subst ev
  refine ⟨_,(aq (aO (jO (aY bE (au (aH (K:=K) rfl) (pv 0) ai (fun _ _=>rfl)) aD (a6 _)) (au (aH (K:=K) rfl) (pv 0) ai (fun _ _=>rfl)) (au (aH (K:=K) rfl) (pv 0) ai (fun _ _=>rfl))))),?_⟩
  refine ⟨_,rfl,t0,_,_,_,rfl,rfl,ah.of ht,ap (j:=0) h0,rfl,_,rfl,?_⟩
  rcases hb with ⟨hw,e⟩ | ⟨hw,e⟩<;>subst e
  ·exact bg (Qp (by rw [hw])) ⟨_,rfl,t0,_,_,_,rfl,rfl,ah.of ht,ap (j:=4) hj,k _ hp⟩
  ·exact aM (Qi fun z=>hw (by injection z)) ⟨_,rfl,t0,_,_,_,rfl,rfl,ah.of ht,ap (j:=3) hj,k _ hp⟩
noncomputable def dL (ts:List Tr):Nat:=match ts.getLast? with
 | some (.give _ _)=>1
 | _=>0
theorem AZ (ts:List Tr) (t:Tr):dL (ts++[t])=if t.kw="give" then 1 else 0:=by
 unfold dL
 rw [List.getLast?_concat]
 cases t with
 | give r e=>rfl
 | _=>rw [if_neg (by simp only [Tr.kw];decide +kernel)]
theorem sU (ts:List Tr):dL ts=0∨dL ts=1:=by
 unfold dL
 split
 ·exact .inr rfl
 ·exact .inl rfl
noncomputable def A0:Sp:=fun vs H Q _=>∃ (l:Addr) (xs:List V) (ts:List Tr),vs=[.ref l]/\H l=some (.lst xs)/\LAt H true xs ts/\Q (.int ((dL ts:Nat):Int)) H
noncomputable abbrev A1:List Str:=["body","found","mask","one"]
theorem sV:ba A1 ["body"] (aK ng):=⟨rfl,rfl,rfl,by decide +kernel,rfl,by decide +kernel,by decide +kernel⟩
theorem A2 (T:All P w K mg AA DD):aE P w K mg base aI 2 AA.ZO DD.ZO ["body"] A0:=by
 have GN:=jq (base:=base) T
 refine T.F_ZO.ok sV (fun vs H Q E h=>?_) (fun cdv A outer s H vs Q E hr h=>?_)
 ·obtain ⟨l,xs,ts,rfl,_⟩:=h
  rfl
 ·obtain ⟨l,xs,ts,rfl,hl,hL,k⟩:=h
  have nd:=sV.nd
  have hr1:aA 1 _:=hr
  refine ⟨_,(av (@bf _ _ 1 _ _ _ _ nd rfl (Or.inl rfl) ai (by rfl) (by first | exact .inl rfl | exact .inr rfl | assumption)) (av (cO PassesOwn.never rfl (ci (pv 0)) (dt rfl (a8 (aT (i:=2) nd rfl (Or.inl rfl)) (a8 (aT (i:=3) nd rfl (Or.inl rfl)) cg))) (aq (be (aY bE (au (aH (K:=K) rfl) (pv 3) ai (fun _ _=>rfl)) aD (a6 _)) (aq (@bf _ _ 1 _ _ _ _ nd rfl (Or.inl rfl) (aG lU (pv 1) (pv 2)) (by rfl) (by first | exact .inl rfl | exact .inr rfl | assumption))) (aq (@bf _ _ 1 _ _ _ _ nd rfl (Or.inl rfl) (aN GN hr1 rfl T.m_ZK T.k_ZK T.b_ZK .nil aB (aa (pv 1) (aa (pv 2) ag))) (by rfl) (by first | exact .inl rfl | exact .inr rfl | assumption))))) (by intro _;rfl)) (aq (aO (pv 1))))),?_⟩
  refine j6 ?_
  dsimp only [aX]
  have hxl:=hL.length
  refine d5 (fun σ' H'=>H'=H/\∃ x2 x3,σ'=[some (.ref l),some (.int ((dL ts:Nat):Int)),x2,x3]) (fun R hR=>?_) ?_
  ·refine ⟨_,rfl,l,rfl,⟨_,am.of hl⟩,?_⟩
   refine dW (K:=K) (a:=l) (xs:=xs) (fun i σ' H'=>H'=H/\∃ x2 x3,σ'=[some (.ref l),some (.int ((dL (ts.take i):Nat):Int)),x2,x3]) ⟨rfl,_,_,rfl⟩ (fun i σ' H' _ h=>by rw [h.1];exact am.of hl) ?_ ?_
   ·rintro i x σ' H1 hx ⟨rfl,x2,x3,rfl⟩
    obtain ⟨t,ht,hO⟩:=hL.get hx
    obtain ⟨hit,et⟩:=Qc ht
    rw [Qn hit,et,AZ]
    have h01:=sU (ts.take i)
    generalize dL (ts.take i)=m at h01
    cases hO with
    | plain e _=>cases e
    | @shared p y _ _ hp hS =>
    cases hS with
    | @mk t0 vs _ ht0 hps =>
    obtain ⟨vr,rfl⟩:=lf hps
    refine ⟨p,_,rfl,ah.of hp,rfl,_,_,rfl,_,_,rfl,rfl,?_⟩
    refine ⟨_,rfl,t0,_,_,_,rfl,rfl,ah.of ht0,ap (j:=0) rfl,rfl,_,rfl,?_⟩
    by_cases hw:t.kw="give"
    ·refine bg (Qp (by rw [hw])) ?_
     refine ⟨_,rfl,_,rfl,_,_,rfl,rfl,rfl,some (.int 1),some (.ref t0),?_⟩
     rw [if_pos hw]
     rcases h01 with rfl | rfl<;>rfl
    ·refine aM (Qi fun z=>hw (by injection z)) ?_
     refine ⟨_,rfl,_,rfl,m,1,rfl,rfl,some (.int 1),some (.ref t0),?_⟩
     rw [if_neg hw]
     rcases h01 with rfl | rfl<;>rfl
   ·rintro σ' H1 ⟨rfl,x2,x3,rfl⟩
    rw [QB (by omega)]
    exact hR _ _ ⟨rfl,_,_,rfl⟩
  ·rintro σ' H1 ⟨rfl,x2,x3,rfl⟩
   exact ⟨_,rfl,k⟩
end
section
variable {P:Program} {w:World} {K:W.Frag} {mg:Str->Option Value} {base:Heap} {AA:bG} {DD:bH}
noncomputable def eP:List (Str × Str):=[("num","num"),("truth","truth"),("+","num"),("-","num"),("*","num"),("less","truth"),("same","truth"),("and","truth"),("or","truth"),("not","truth")]
noncomputable def gy:List (Str × Str):=[("+","num"),("-","num"),("*","num"),("less","num"),("same","num"),("and","truth"),("or","truth"),("not","truth")]
noncomputable def dM:Ex->Str
 | .num _=>"num"
 | .truth _=>"truth"
 | .not _=>"not"
 | .op w _ _=>w
 | _=>"num"
noncomputable def dN (e:Ex):Str:=(eP.lookup (dM e)).getD "num"
noncomputable def dj (e:Ex):Str:=(gy.lookup (dM e)).getD "truth"
theorem A3:∀ z∈hZ,(eP.lookup z).isSome=true/\(gy.lookup z).isSome=true/\z≠"name"/\z≠"do"/\z≠"new"/\z≠"of":=by decide +kernel
theorem nN:∀ z∈(["num","truth","not"]:List Str),(eP.lookup z).isSome=true/\z≠"name"/\z≠"do"/\z≠"new"/\z≠"of":=by decide +kernel
theorem A4:gy.lookup ("not":Str)=some "truth":=by decide +kernel
theorem A5 {H:Hp} {v:V} {e:Ex} (h:a7 H v e) (hp:e.bas) (hn:∀ z,e≠.name z):∃ (t:Addr) (ys:List V),v=.ref t/\H t=some (.tup (.str (dM e)::ys))/\dM e≠"name"/\dM e≠"do"/\dM e≠"new"/\dM e≠"of"/\eP.lookup (dM e)=some (dN e)/\(e.kids≠[]->gy.lookup (dM e)=some (dj e)):=by
 have g:∀ {l:List (Str × Str)} {z d:Str},(l.lookup z).isSome=true->l.lookup z=some ((l.lookup z).getD d):=fun {l z d} hs=>by
  cases h:l.lookup z with
  | none=>rw [h] at hs;cases hs
  | some x=>rfl
 cases h with
 | num h =>
  obtain ⟨m1,n1,n2,n3,n4⟩:=nN "num" (by simp)
  exact ⟨_,_,rfl,h,n1,n2,n3,n4,g m1,fun z=>absurd rfl z⟩
 | truth h =>
  obtain ⟨m1,n1,n2,n3,n4⟩:=nN "truth" (by simp)
  exact ⟨_,_,rfl,h,n1,n2,n3,n4,g m1,fun z=>absurd rfl z⟩
 | name h=>exact (hn _ rfl).elim
 | not h a =>
  obtain ⟨m1,n1,n2,n3,n4⟩:=nN "not" (by simp)
  exact ⟨_,_,rfl,h,n1,n2,n3,n4,g m1,fun _=>g (by show (gy.lookup ("not":Str)).isSome=true;rw [A4];rfl)⟩
 | op h a b =>
  obtain ⟨m1,m2,n1,n2,n3,n4⟩:=A3 _ hp.1
  exact ⟨_,_,rfl,h,n1,n2,n3,n4,g m1,fun _=>g m2⟩
 | of h a=>exact hp.elim
 | many h l a=>exact hp.elim
mutual
noncomputable def _root_.Mm.Ex.dos:Ex->Prop
 | .num _=>True
 | .truth _=>True
 | .name _=>True
 | .not e=>e.dos
 | .op w a b=>w∈hZ/\a.dos/\b.dos
 | .of _ e=>e.dos
 | .many w _ es=>(w="do"∨w="new")/\ig es
noncomputable def ig:List Ex->Prop
 | []=>True
 | e::es=>e.dos/\ig es
end
theorem sW:∀ {es:List Ex} {e:Ex},ig es->e∈es->e.dos
 | x::es,e,g,h=>by
  rcases Qu h with z | z
  ·subst z;exact g.1
  ·exact sW g.2 z
theorem A6 {e:Ex} (h:e.dos) (hm:∀ w z es,e≠.many w z es) (ho:∀ n x,e≠.of n x):e.bas:=by
 cases e with
 | op w a b=>exact ⟨h.1,trivial⟩
 | of n e=>exact (ho _ _ rfl).elim
 | many w z es=>exact (hm _ _ _ rfl).elim
 | _=>trivial
theorem A7 {e:Ex} (hg:e.dos):∀ x∈e.kids,x.dos/\x.deep+1<=e.deep:=by
 cases e with
 | not e=>intro x h;simp [Ex.kids] at h;subst h;exact ⟨hg,by simp [Ex.deep]⟩
 | op w a b =>
  intro x h
  simp [Ex.kids] at h
  rcases h with rfl | rfl
  ·exact ⟨hg.2.1,by simp [Ex.deep];omega⟩
  ·exact ⟨hg.2.2,by simp [Ex.deep];omega⟩
 | _=>intro x h;simp [Ex.kids] at h
noncomputable abbrev Env:=Str->Option Kd
structure cv (H:Hp) (d:Addr) (ρ:Env) (n:Nat):Prop where
 ex:∃ kvs:List (ae × V),H d=some (.dK kvs)/\kvs.length<=n/\∀ z:Str,(aU kvs (.inr z)=none/\ρ z=none)∨∃ p,aU kvs (.inr z)=some (.ref p)/\KL H p (ρ z).toList
theorem cv.kept {H H':Hp} {d:Addr} {ρ:Env} {n:Nat} (h:cv H d ρ n) (s:bh H H'):cv H' d ρ n:=by
 obtain ⟨⟨kvs,a,b,c⟩⟩:=h
 refine ⟨⟨kvs,s.dk _ _ a,b,fun z=>?_⟩⟩
 rcases c z with h | ⟨p,h1,h2⟩
 ·exact .inl h
 ·exact .inr ⟨p,h1,h2.kept s.ls⟩
theorem eD (o:Option Kd):o.toList.length<=50:=by cases o<;>simp
noncomputable def _root_.Mm.Tr.knd:Tr->Str
 | .df _ _ k _ _=>k
 | _=>""
noncomputable def br (w:Str):Str:=if w="do" then "def" else "kind"
theorem gA:br "do"="def":=if_pos rfl
theorem gB:br "new"="kind":=if_neg (by decide)
noncomputable def cU (ps:List (Str × Str)) (n:Str):Option Str:=ps.foldl (fun o p=>if p.1=n then some p.2 else o) none
noncomputable def bw (ts:List Tr) (k:Kd) (n:Str):Kd:=match k with
 | none=>none
 | some k=>match aF ("kind",k) ts with
  | none=>none
  | some t=>cU t.prs n
noncomputable def aL (ts:List Tr) (ρ:Env):Ex->Option Kd
 | .name z=>ρ z
 | .many w z _=>(aF (br w,z) ts).map fun t=>some (if w="do" then t.knd else z)
 | .of n e=>(aL ts ρ e).map fun k=>bw ts k n
 | .num n=>some (some (dN (.num n)))
 | .truth n=>some (some (dN (.truth n)))
 | .not e=>some (some (dN (.not e)))
 | .op w a b=>some (some (dN (.op w a b)))
noncomputable def fT (ts:List Tr) (r:Nat) (k:Kd) (n:Str) (fs:List (List ae)):List (List ae):=match k with
 | none=>fs
 | some k=>if bw ts (some k) n=none then bI fs (kk r "field") else fs
noncomputable def li (ts:List Tr) (r:Nat) (o:Option Kd) (n:Str) (fs:List (List ae)):List (List ae):=match o with
 | none=>fs
 | some k=>fT ts r k n fs
noncomputable def bP (r:Nat) (k:Option Kd) (due:Str) (fs:List (List ae)):List (List ae):=if cx k.toList due=0 then fs else bI fs (kk r "kind")
mutual
noncomputable def aP (ts:List Tr) (ρ:Env) (r:Nat):Ex->List (List ae)->List (List ae)
 | .not e,fs=>bP r (aL ts ρ e) "truth" (aP ts ρ r e fs)
 | .op w a b,fs=>bP r (aL ts ρ b) (dj (.op w a b)) (aP ts ρ r b (bP r (aL ts ρ a) (dj (.op w a b)) (aP ts ρ r a fs)))
 | .many w z es,fs=>match aF (br w,z) ts with
  | none=>fs
  | some t=>kfZ ts ρ r es t.prs fs
 | .num _,fs=>fs
 | .truth _,fs=>fs
 | .name _,fs=>fs
 | .of n e,fs=>li ts r (aL ts ρ e) n (aP ts ρ r e fs)
noncomputable def kfZ (ts:List Tr) (ρ:Env) (r:Nat):List Ex->List (Str × Str)->List (List ae)->List (List ae)
 | [],_,fs=>fs
 | e::es,qs,fs=>match qs with
  | []=>fs
  | q::qs=>kfZ ts ρ r es qs (bP r (aL ts ρ e) q.2 (aP ts ρ r e fs))
end
noncomputable def d7 (ts:List Tr) (ρ:Env) (r:Nat) (due:Str) (fs:List (List ae)) (c:Ex):List (List ae):=bP r (aL ts ρ c) due (aP ts ρ r c fs)
theorem A8 (ts:List Tr) (ρ:Env) (r:Nat) (e:Ex) (h:e.bas) (fs:List (List ae)):aP ts ρ r e fs=e.kids.foldl (d7 ts ρ r (dj e)) fs:=by
 cases e with
 | of n e=>exact h.elim
 | many w n es=>exact h.elim
 | _=>simp [aP,Ex.kids,d7]<;>rfl
theorem sX (ts:List Tr) (ρ:Env) (r:Nat):∀ (es:List Ex) (qs:List (Str × Str)) (fs:List (List ae)),kfZ ts ρ r es qs fs=(es.zip qs).foldl (fun fs x=>d7 ts ρ r x.2.2 fs x.1) fs
 | [],qs,fs=>by simp [kfZ]
 | e::es,[],fs=>by simp [kfZ]
 | e::es,q::qs,fs=>by
  rw [kfZ,sX ts ρ r es qs]
  rfl
theorem nO (fs:List (List ae)) (k:List ae):(bI fs k).length<=fs.length+1:=by
 unfold bI
 split
 ·omega
 ·simp
theorem A9 (fs:List (List ae)) (k:List ae):k∈bI fs k:=by
 unfold bI
 split
 ·rename_i h
  obtain ⟨x,hx,e⟩:=List.any_eq_true.mp h
  have e:x=k:=of_decide_eq_true e
  exact e ▸ hx
 ·simp
theorem Ba {fs:List (List ae)} {k:List ae} (h:k∈fs):bI fs k=fs:=by
 unfold bI
 rw [if_pos (List.any_eq_true.mpr ⟨k,h,Qp rfl⟩)]
noncomputable def bM (r:Nat) (fs gs:List (List ae)):Prop:=∃ us,gs=fs++us/\us.Nodup/\∀ u∈us,u∉fs/\(u=kk r "kind"∨u=kk r "field")
theorem bM.refl (r:Nat) (fs:List (List ae)):bM r fs fs:=⟨[],by simp,by simp,fun u h=>by cases h⟩
theorem bM.add {r:Nat} {fs gs:List (List ae)} {k:List ae} (h:bM r fs gs) (hk:k=kk r "kind"∨k=kk r "field"):bM r fs (bI gs k):=by
 obtain ⟨us,rfl,nd,hu⟩:=h
 by_cases hm:k∈fs++us
 ·rw [Ba hm];exact ⟨us,rfl,nd,hu⟩
 ·have e:bI (fs++us) k=fs++(us++[k]):=by
   unfold bI
   rw [if_neg fun z=>hm (by obtain ⟨x,hx,q⟩:=List.any_eq_true.mp z;have q:x=k:=of_decide_eq_true q;exact q ▸ hx),QM]
  rw [e]
  refine ⟨_,rfl,List.nodup_append.mpr ⟨nd,by simp,fun a ha b hb z=>?_⟩,fun u h=>?_⟩
  ·rw [List.mem_singleton.mp hb] at z
   exact hm (List.mem_append_right _ (z ▸ ha))
  ·rcases Qy h with q | q
   ·exact hu u q
   ·rw [List.mem_singleton.mp q];exact ⟨fun z=>hm (List.mem_append_left _ z),hk⟩
theorem bM.tr {r:Nat} {fs gs hs:List (List ae)} (a:bM r fs gs) (b:bM r gs hs):bM r fs hs:=by
 obtain ⟨us,rfl,n1,h1⟩:=a
 obtain ⟨vs,rfl,n2,h2⟩:=b
 refine ⟨us++vs,by rw [QM],List.nodup_append.mpr ⟨n1,n2,fun a ha b hb z=>?_⟩,fun u h=>?_⟩
 ·exact (h2 b hb).1 (List.mem_append_right _ (z ▸ ha))
 ·rcases Qy h with q | q
  ·exact h1 u q
  ·exact ⟨fun z=>(h2 u q).1 (List.mem_append_left _ z),(h2 u q).2⟩
theorem bM.len {r:Nat} {fs gs:List (List ae)} (h:bM r fs gs):gs.length<=fs.length+2:=by
 obtain ⟨us,rfl,nd,hu⟩:=h
 rw [Qv]
 have:us.length<=2:=by
  match us,nd,hu with
  | [],_,_=>simp
  | [_],_,_=>simp
  | [_,_],_,_=>simp
  | a::b::c::us,nd,hu =>
   exfalso
   simp only [List.nodup_cons,List.mem_cons,not_or] at nd
   have ha:=(hu a (by simp)).2
   have hb:=(hu b (by simp)).2
   have hc:=(hu c (by simp)).2
   obtain ⟨⟨ab,ac,_⟩,⟨bc,_⟩,_⟩:=nd
   rcases ha with rfl | rfl<;>rcases hb with rfl | rfl<;>rcases hc with rfl | rfl<;>first | exact ab rfl | exact ac rfl | exact bc rfl
 omega
theorem bM.ask {r:Nat} (kd:Option Kd) (due:Str) {fs gs:List (List ae)} (h:bM r fs gs):bM r fs (bP r kd due gs):=by
 unfold bP
 split
 ·exact h
 ·exact h.add (.inl rfl)
theorem bM.fld {ts:List Tr} {r:Nat} (o:Option Kd) (n:Str) {fs gs:List (List ae)} (h:bM r fs gs):bM r fs (li ts r o n gs):=by
 unfold li fT
 split
 ·exact h
 ·split
  ·exact h
  ·split
   ·exact h.add (.inr rfl)
   ·exact h
mutual
theorem d8 (ts:List Tr) (ρ:Env) (r:Nat):∀ (e:Ex) (fs:List (List ae)),bM r fs (aP ts ρ r e fs)
 | .not e,fs=>by rw [aP];exact (d8 ts ρ r e fs).ask _ _
 | .op w a b,fs=>by rw [aP];exact (((d8 ts ρ r a fs).ask _ _).tr (d8 ts ρ r b _)).ask _ _
 | .many w z es,fs=>by
  rw [aP]
  split
  ·exact .refl _ _
  ·exact kfZ_two ts ρ r es _ fs
 | .num _,fs=>by rw [aP];exact .refl _ _
 | .truth _,fs=>by rw [aP];exact .refl _ _
 | .name _,fs=>by rw [aP];exact .refl _ _
 | .of n e,fs=>by rw [aP];exact (d8 ts ρ r e fs).fld _ _
theorem kfZ_two (ts:List Tr) (ρ:Env) (r:Nat):∀ (es:List Ex) (qs:List (Str × Str)) (fs:List (List ae)),bM r fs (kfZ ts ρ r es qs fs)
 | [],qs,fs=>by rw [kfZ];exact .refl _ _
 | e::es,[],fs=>by rw [kfZ];exact .refl _ _
 | e::es,q::qs,fs=>by
  rw [kfZ]
  exact ((d8 ts ρ r e fs).ask _ _).tr (kfZ_two ts ρ r es qs _)
end
noncomputable def fU (r:Nat) (fs:List (List ae)):Prop:=∃ B,bM r B fs/\B.length<890
theorem fU.then {r:Nat} {fs gs:List (List ae)} (h:fU r fs) (q:bM r fs gs):fU r gs:=by obtain ⟨B,a,b⟩:=h;exact ⟨B,a.tr q,b⟩
theorem fU.len {r:Nat} {fs:List (List ae)} (h:fU r fs):fs.length<900:=by
 obtain ⟨B,a,b⟩:=h
 have:=a.len
 omega
theorem bM.fold {r:Nat} (ts:List Tr) (ρ:Env) {fs:List (List ae)}:∀ (xs:List (Ex × (Str × Str))) (gs:List (List ae)),bM r fs gs->bM r fs (xs.foldl (fun fs x=>d7 ts ρ r x.2.2 fs x.1) gs)
 | [],gs,h=>h
 | x::xs,gs,h=>bM.fold ts ρ xs _ ((h.tr (d8 ts ρ r x.1 gs)).ask _ _)
noncomputable def ii (C:Addr) (k:Nat):Sp:=fun vs H Q _=>∃ (o dx d2:Addr) (F:List (List ae × V)) (ts:List Tr) (fs:List (List ae)) (v:V) (d3:Addr) (ρ:Env) (n:Nat) (e:Ex) (r:Nat),vs=[.ref o,.int 1,v,.int ((r:Nat):Int),.ref d3]/\a7 H v e/\e.dos/\cv H d3 ρ n/\dJ H F ts/\e.deep<k/\aW H C o dx d2 F fs/\fU r fs /\
 ∀ p H',bh H H'->aW H' C o dx d2 F (aP ts ρ r e fs)->KL H' p (aL ts ρ e).toList->Q (.ref p) H'
noncomputable def nP (C:Addr) (k:Nat):Sp:=fun vs H Q _=>∃ (o dx d2:Addr) (F:List (List ae × V)) (ts:List Tr) (fs:List (List ae)) (v:V) (d3:Addr) (ρ:Env) (n:Nat) (e:Ex) (r:Nat) (due:Str),vs=[.ref o,.int 1,v,.str due,.int ((r:Nat):Int),.ref d3]/\a7 H v e/\e.dos/\cv H d3 ρ n/\dJ H F ts/\e.deep<k/\aW H C o dx d2 F fs/\fU r fs /\
 ∀ H',bh H H'->aW H' C o dx d2 F (d7 ts ρ r due fs e)->Q .non H'
noncomputable abbrev Bb:List Str:=["self","mask","e","due","at","names"]
theorem sY:ba Bb ["self","mask","e","due","at","names"] (aK ny):=⟨rfl,rfl,rfl,by decide +kernel,rfl,by decide +kernel,by decide +kernel⟩
theorem sZ (T:All P w K mg AA DD) (k:Nat) (GKO:aE P w K mg base aI (3*k+3) AA.Zg DD.Zg ["self","mask","e","at","names"] (ii AA.c_KindLook k)) :
  aE P w K mg base aI (3*k+4) AA.Zp DD.Zp ["self","mask","e","due","at","names"] (nP AA.c_KindLook k):=by
 have GU:=nK (base:=base) T
 have GO:=jv (base:=base) T
 refine T.F_Zp.ok sY (fun vs H Q E h=>?_) (fun cdv A outer s H vs Q E hr h=>?_)
 ·obtain ⟨o,dx,d2,F,ts,fs,v,d3,ρ,n,e,r,due,rfl,_⟩:=h
  rfl
 ·obtain ⟨o,dx,d2,F,ts,fs,v,d3,ρ,n,e,r,due,rfl,hE,hp,hn,hF,hd,hk,hf,k'⟩:=h
  have nd:=sY.nd
  have hrK:aA (3*k+3) _:=hr
  have hr2:aA 2 _:=hrK.mono (by omega)
  refine ⟨_,(aq (bX (cn (pv 0) T.cl_KindLook T.M_Zm GO hr2 T.b_Zm .nil aB (aa (aN GU hr2 rfl T.m_ZQ T.k_ZQ T.b_ZQ .nil aB (aa (cn (pv 0) T.cl_KindLook T.M_Zg GKO hrK T.b_Zg .nil aB (aa (pv 1) (aa (pv 2) (aa (pv 4) (aa (pv 5) ag))))) (aa (pv 3) ag))) (aa (pv 4) (aa aD ag)))) (by rfl))),?_⟩
  obtain ⟨d1,hi,_⟩:=hk.ins
  refine ⟨_,rfl,o,dx,_,rfl,hi,rfl,_,rfl,o,dx,_,rfl,hi,rfl,?_⟩
  refine ⟨_,rfl,_,rfl,_,rfl,_,rfl,o,dx,d2,F,ts,fs,v,d3,ρ,n,e,r,rfl,hE,hp,hn,hF,hd,hk,hf,fun p H1 ls1 hk1 hK1=>?_⟩
  refine ⟨_,rfl,p,_,due,rfl,hK1,eD _,fun H2 s2=>⟨_,rfl,?_⟩⟩
  have hl:=(hf.then (d8 ts ρ r e fs)).len
  have h01:cx (aL ts ρ e).toList due=0∨cx (aL ts ρ e).toList due=1:=by
   unfold cx
   split
   ·exact .inl rfl
   ·exact .inr rfl
  refine ⟨o,dx,d2,F,aP ts ρ r e fs,cx (aL ts ρ e).toList due,r,"kind",rfl,hk1.same s2,by omega,?_⟩
  rcases h01 with hq | hq
  ·refine .inl ⟨hq,fun H3 ls3 hk3=>k' _ ((ls1.trans (bv s2)).trans ls3) ?_⟩
   unfold d7 bP
   rw [if_pos hq];exact hk3
  ·refine .inr ⟨hq,fun H3 ls3 hk3=>k' _ ((ls1.trans (bv s2)).trans ls3) ?_⟩
   unfold d7 bP
   rw [if_neg (by omega)];exact hk3
end
section
variable {P:Program} {w:World} {K:W.Frag} {mg:Str->Option Value} {base:Heap} {AA:bG} {DD:bH}
noncomputable def Bc (H:Hp) (p:Addr) (o:Option Tr):Prop:=match o with
 | none=>bW H p []
 | some t=>∃ y,bW H p [y]/\bn H true y t
noncomputable def tf (C:Addr) (k:Nat):Sp:=fun vs H Q _=>∃ (o dx d2:Addr) (F:List (List ae × V)) (ts:List Tr) (fs:List (List ae)) (v:V) (d3:Addr) (ρ:Env) (n:Nat) (w z:Str) (es:List Ex) (r:Nat),vs=[.ref o,.int 1,v,.str (br w),.int ((r:Nat):Int),.ref d3]/\a7 H v (.many w z es)/\ig es/\cv H d3 ρ n/\dJ H F ts/\cc es<k/\aW H C o dx d2 F fs/\fU r fs /\
 ∀ p H',bh H H'->aW H' C o dx d2 F (aP ts ρ r (.many w z es) fs)->Bc H' p (aF (br w,z) ts)->Q (.ref p) H'
noncomputable abbrev Bd:List Str:=["self","mask","e","word","at","names","rows","here","one","inner","pair"]
theorem tm:ba Bd ["self","mask","e","word","at","names"] (aK nz):=⟨rfl,rfl,rfl,by decide +kernel,rfl,by decide +kernel,by decide +kernel⟩
theorem Be (T:All P w K mg AA DD) (k:Nat) (GAK:aE P w K mg base aI (3*k+4) AA.Zp DD.Zp ["self","mask","e","due","at","names"] (nP AA.c_KindLook k)) :
  aE P w K mg base aI (3*k+5) AA.Zc DD.Zc ["self","mask","e","word","at","names"] (tf AA.c_KindLook k):=by
 have GB:=ju (base:=base) T
 have GPO:=AY (base:=base) T
 refine T.F_Zc.ok tm (fun vs H Q E h=>?_) (fun cdv A outer s H vs Q E hr h=>?_)
 ·obtain ⟨o,dx,d2,F,ts,fs,v,d3,ρ,n,w,z,es,r,rfl,_⟩:=h
  rfl
 ·obtain ⟨o,dx,d2,F,ts,fs,v,d3,ρ,n,w,z,es,r,rfl,hE,hg,hn,hF,hd,hk,hf,kq⟩:=h
  have nd:=tm.nd
  have hrA:aA (3*k+4) _:=hr
  have hr1:aA 1 _:=hrA.mono (by omega)
  have hu:=QF (Nat.add_le_add_left (show 1<=64 by decide) _) hr.units
  refine ⟨_,(av (@bf _ _ 6 _ _ _ _ nd rfl (Or.inl rfl) (aN GB hr1 rfl T.m_Zs T.k_Zs T.b_Zs .nil aB (aa (fN hu (jT (pv 0) rfl) (aV (aa (pv 3) (aa (au (aH (K:=K) rfl) (pv 2) ai (fun _ _=>rfl)) ag))) (bB ag) ⟨by rfl,by rfl,by rfl,by rfl⟩) (aa (pv 1) ag))) (by rfl) (by first | exact .inl rfl | exact .inr rfl | assumption)) (av (cO PassesOwn.never rfl (ci (pv 6)) (dt rfl (a8 (aT (i:=7) nd rfl (Or.inl rfl)) (a8 (aT (i:=8) nd rfl (Or.inl rfl)) cg))) (aq (cO PassesOwn.never rfl (qy false rfl T.n_zip (aa (au (aH (K:=K) rfl) (pv 2) ai (fun _ _=>rfl)) (aa (aN GPO hr1 rfl T.m_ZF T.k_ZF T.b_ZF .nil aB (aa (pv 8) ag)) ag))) (dt rfl (a8 (aT (i:=9) nd rfl (Or.inl rfl)) (a8 (aT (i:=10) nd rfl (Or.inl rfl)) cg))) (aq (bX (cn (pv 0) T.cl_KindLook T.M_Zp GAK hrA T.b_Zp .nil aB (aa (pv 7) (aa (pv 9) (aa (au (aH (K:=K) rfl) (pv 10) ai (fun _ _=>rfl)) (aa (pv 4) (aa (pv 5) ag)))))) (by rfl))) (by intro _;rfl))) (by intro _;rfl)) (aq (aO (pv 6))))),?_⟩
  cases hE with
  | @many t l _ _ vs _ ht hl hvs =>
  obtain ⟨d1,hi,hd1,hne⟩:=hk.ins
  refine ⟨_,rfl,o,AA.c_KindLook,dx,_,_,rfl,hi,T.cl_KindLook,T.na_KindLook_firsts,rfl,d1,rfl,.inr ⟨F,.inl hd1⟩,?_⟩
  refine ⟨_,rfl,_,rfl,t,_,_,_,rfl,rfl,ah.of ht,ap (j:=1) rfl,(by show 2<=sizeLine;decide),fun q hq=>⟨(by show 0<=sizeLine;decide),fun q2 hq2=>?_⟩⟩
  have s1:=ao (o:=.tup [.str (br w),.str z]) hq
  have s2:=ao (o:=.lst []) hq2
  have s12:=s1.trans s2
  have hkk:af (af H q (.tup [.str (br w),.str z])) q2 (.lst []) q=some (.tup ((c7 (br w,z)).map kV)):=s2 _ _ aj
  refine ⟨_,bt.t (k:=c7 (br w,z)) (s12 _ _ hd1) hkk,_,rfl,?_⟩
  obtain ⟨l3,ks,el3,hl3,hks⟩:∃ l3 ks,(aU F (c7 (br w,z))).getD (V.ref q2)=.ref l3/\bW (af (af H q (.tup [.str (br w),.str z])) q2 (.lst [])) l3 ks/\((ks=[]/\aF (br w,z) ts=none)∨∃ y t',ks=[y]/\bn H true y t'/\aF (br w,z) ts=some t'):=by
   rcases hF (br w,z) with ⟨a,b⟩ | ⟨p',v',t',a,b,c,e⟩
   ·exact ⟨q2,[],by rw [a];rfl,⟨[],aj,rfl,fun i t k x=>by simp at x⟩,.inl ⟨rfl,b⟩⟩
   ·exact ⟨p',[v'],by rw [a];rfl,b.kept s12.ls,.inr ⟨v',t',rfl,c,e⟩⟩
  rw [el3]
  refine ⟨l3,ks,1,rfl,Qh _,hl3,?_,fun p H3 s3 hp3=>?_⟩
  ·rcases hks with ⟨e,_⟩ | ⟨y,t',e,_⟩<;>rw [e]<;>simp
  rw [if_neg (by decide)] at hp3
  have s13:=s12.trans s3
  have hk3:=hk.same s13
  have ht3:=s13 _ _ ht
  have hl3':=s13 _ _ hl
  have hvs3:=hvs.kept s13.ls.1
  have hn3:=hn.kept (bv s13)
  have hF3:=hF.kept s13.ls
  have hks3:((ks=[]/\aF (br w,z) ts=none)∨∃ y t',ks=[y]/\bn H3 true y t'/\aF (br w,z) ts=some t'):=hks.imp_right fun hsl71=>by obtain ⟨y,t',a,b,c⟩:=hsl71;exact ⟨y,t',a,b.kept s13.ls,c⟩
  have lk3:=bv s13
  dsimp only [aX]
  refine d5 (fun σ' H'=>bh H3 H'/\aW H' AA.c_KindLook o dx d2 F (aP ts ρ r (.many w z es) fs)/\∃ x7 x8 x9 x10,σ'=[some (.ref o),some (.int 1),some (.ref t),some (.str (br w)),some (.int ((r:Nat):Int)),some (.ref d3),some (.ref p),x7,x8,x9,x10]) (fun R hR=>?_) ?_
  ·obtain ⟨us,hp,hul,hat⟩:=id hp3
   refine ⟨_,rfl,p,rfl,⟨_,am.of hp⟩,?_⟩
   refine dW (K:=K) (a:=p) (xs:=us.map V.ref) (fun i σ' H'=>bh H3 H'/\aW H' AA.c_KindLook o dx d2 F (if i=0 then fs else aP ts ρ r (.many w z es) fs)/\∃ x7 x8 x9 x10,σ'=[some (.ref o),some (.int 1),some (.ref t),some (.str (br w)),some (.int ((r:Nat):Int)),some (.ref d3),some (.ref p),x7,x8,x9,x10]) ⟨bh.refl _,hk3,_,_,_,_,rfl⟩ (fun i σ' H' _ hsl72=>by obtain ⟨e,_⟩:=hsl72;exact am.of (e.ls.2 _ _ hp)) ?_ ?_
   ·rintro i x σ' H4 hx ⟨l4,hk4,x7,x8,x9,x10,rfl⟩
    have hi':i<us.length:=by
     have:=(Qc hx).1
     rw [Qf] at this;exact this
    rcases hks3 with ⟨e,_⟩ | ⟨y,t',e,hSy,hfst⟩
    ·rw [e] at hul;simp at hul;subst hul;simp at hi'
    rw [e] at hul hat
    have hi0:i=0:=by simp at hul;omega
    subst hi0
    rw [if_pos rfl] at hk4
    have ex:x=V.ref us[0]:=by rw [Qk,Qb hi'] at hx;exact (Qo hx).symm
    subst ex
    have hu0:=l4.ls.1 _ _ (hat 0 us[0] y (Qb hi') rfl)
    refine ⟨us[0],_,rfl,ah.of hu0,rfl,_,_,rfl,_,_,rfl,rfl,?_⟩
    refine ⟨_,rfl,t,_,_,_,rfl,rfl,ah.of (l4.ls.1 _ _ ht3),ap (j:=2) rfl,_,rfl,?_⟩
    have hhd:t'.hd≠none:=fun q=>by
     have:=List.find?_some hfst
     rw [of_decide_eq_true this] at q;cases q
    refine ⟨y,t',rfl,hSy.kept l4.ls,hhd,fun xp hxp=>?_⟩
    obtain ⟨tpp,uu,rfl,htpp,huul,huat⟩:=hxp
    refine ⟨l,tpp,vs,uu.map V.ref,rfl,ah.of (l4.ls.1 _ _ hl3'),ah.of htpp,?_⟩
    have ekf:aP ts ρ r (.many w z es) fs=(es.zip t'.prs).foldl (fun fs x=>d7 ts ρ r x.2.2 fs x.1) fs:=by
     rw [aP,hfst];exact sX ts ρ r es t'.prs fs
    have hvl:=hvs3.len
    refine yp (K:=K) (a:=l) (b:=tpp) (xs:=vs) (ys:=uu.map V.ref) (fun j σ' H'=>bh H4 H'/\j<=min vs.length uu.length/\aW H' AA.c_KindLook o dx d2 F (((es.zip t'.prs).take j).foldl (fun fs x=>d7 ts ρ r x.2.2 fs x.1) fs)/\∃ x9 x10,σ'=[some (.ref o),some (.int 1),some (.ref t),some (.str (br w)),some (.int ((r:Nat):Int)),some (.ref d3),some (.ref p),some (.int 1),some y,x9,x10]) ⟨bh.refl _,Qr _,hk4,_,_,rfl⟩ (fun j σ' H' h=>⟨ah.of (h.1.ls.1 _ _ (l4.ls.1 _ _ hl3')),ah.of (h.1.ls.1 _ _ htpp)⟩) ?_ ?_
    ·rintro j x y2 σ' H5 tt hx5 hy5 ⟨l5,hj,hk5,x9,x10,rfl⟩ htt
     obtain ⟨c,hc,hcx⟩:=hvs3.get hx5
     rw [Qk] at hy5
     obtain ⟨u5,hu5,rfl⟩:=Option.map_eq_some_iff.mp hy5
     have hju:=(Qc hu5).1
     have hjp:j<t'.prs.length:=by omega
     have hq5:t'.prs[j]?=some t'.prs[j]:=Qb hjp
     have htu:=huat j u5 t'.prs[j] hu5 hq5
     have hje:=(Qc hc).1
     have hjz:j<(es.zip t'.prs).length:=by rw [List.length_zip];omega
     have s6:=ao (o:=.tup [x,.ref u5]) htt
     have l6:=l5.trans (bv s6)
     have hk6:=hk5.same s6
     obtain ⟨d1',hi6,_⟩:=hk6.ins
     have hone:=bM.fold (r:=r) ts ρ ((es.zip t'.prs).take j) fs (.refl _ _)
     refine ⟨tt,_,rfl,ah.of aj,rfl,_,_,rfl,_,_,rfl,rfl,?_⟩
     have hcm:c∈es:=QD hc
     refine ⟨_,rfl,o,dx,_,rfl,hi6,rfl,_,rfl,_,rfl,_,rfl,u5,_,_,_,rfl,rfl,ah.of (l6.ls.1 _ _ htu),ap (j:=1) rfl,_,rfl,_,rfl,?_⟩
     refine ⟨o,dx,d2,F,ts,_,x,d3,ρ,n,c,r,t'.prs[j].2,rfl,(hcx.kept l4.ls.1).kept l6.ls.1,sW hg hcm,(hn3.kept l4).kept l6,(hF3.kept l4.ls).kept l6.ls,by have:=mO hcm;omega,hk6,hf.then hone,fun H7 l7 hk7=>?_⟩
     refine ⟨l6.trans l7,by omega,?_,_,_,rfl⟩
     have ez:(es.zip t'.prs)[j]=(c,t'.prs[j]):=by
      rw [List.getElem_zip]
      obtain ⟨_,ec⟩:=Qc hc
      rw [ec]
     rw [Qn hjz,List.foldl_append,ez]
     exact hk7
    ·rintro σ' H5 ⟨l5,hj,hk5,x9,x10,rfl⟩
     refine ⟨l4.trans l5,?_,_,_,_,_,rfl⟩
     rw [if_neg (by omega),ekf]
     rw [Qf,QB (by rw [List.length_zip];omega)] at hk5
     exact hk5
   ·rintro σ' H4 ⟨l4,hk4,x7,x8,x9,x10,rfl⟩
    refine hR _ _ ⟨l4,?_,_,_,_,_,rfl⟩
    rw [Qf,hul] at hk4
    rcases hks3 with ⟨e,h⟩ | ⟨y,t',e,hSy,h⟩
    ·rw [e,if_pos (by rfl)] at hk4
     rw [aP,h];exact hk4
    ·rw [e,if_neg (by simp)] at hk4
     exact hk4
  ·rintro σ' H4 ⟨l4,hk4,x7,x8,x9,x10,rfl⟩
   refine ⟨_,rfl,kq p H4 (lk3.trans l4) hk4 ?_⟩
   have hp4:=hp3.kept l4.ls
   rcases hks3 with ⟨e,h⟩ | ⟨y,t',e,hSy,h⟩
   ·rw [h];rw [e] at hp4;exact hp4
   ·rw [h];rw [e] at hp4;exact ⟨y,hp4,hSy.kept l4.ls⟩
end
section
variable {P:Program} {w:World} {K:W.Frag} {mg:Str->Option Value} {base:Heap} {AA:bG} {DD:bH}
theorem tq {a b:TS} {D:dr} {σ:St} {H:Hp} (P:St->Hp->Prop) (h1:∀ R:St->Hp->Prop,(∀ σ' H',P σ' H'->R σ' H')->a { D with nx:=R } σ H) (h2:∀ σ' H',P σ' H'->b D σ' H'):iJ a b D σ H:=h1 _ fun σ' H' h=>h2 σ' H' h
noncomputable def lj (ps:List (Str × Str)):List (ae × V):=dy (ps.map fun p=>(Sum.inr p.1,V.str p.2))
theorem tu (ps:List (Str × Str)) (n:Str):aU (lj ps) (.inr n)=(cU ps n).map V.str:=by
 have go:∀ (ps:List (Str × Str)) (kv:List (ae × V)) (o:Option Str),aU kv (.inr n)=o.map V.str->aU ((ps.map fun p=>((Sum.inr p.1:ae),V.str p.2)).foldl (fun q p=>bO q p.1 p.2) kv) (.inr n)=(ps.foldl (fun o p=>if p.1=n then some p.2 else o) o).map V.str:=by
  intro ps
  induction ps with
  | nil=>exact fun kv o h=>h
  | cons p ps ih =>
   intro kv o h
   refine ih _ _ ?_
   rw [j4]
   show (if (Sum.inr n:ae)=Sum.inr p.1 then some (V.str p.2) else aU kv (.inr n))=(if p.1=n then some p.2 else o).map V.str
   by_cases hp:p.1=n
   ·rw [if_pos (by rw [hp]),if_pos hp];rfl
   ·rw [if_neg (fun z=>hp (Sum.inr.inj z).symm),if_neg hp];exact h
 exact go ps [] none rfl
noncomputable def Bf (C:Addr):Sp:=fun vs H Q _=>∃ (o dx d2:Addr) (F:List (List ae × V)) (ts:List Tr) (fs:List (List ae)) (k:Kd) (n:Str) (r:Nat),vs=[.ref o,.int 1,cw k,.str n,.int ((r:Nat):Int)]/\dJ H F ts/\aW H C o dx d2 F fs/\fs.length<900 /\
 ∀ p H',bh H H'->aW H' C o dx d2 F (fT ts r k n fs)->KL H' p [bw ts k n]->Q (.ref p) H'
noncomputable abbrev tz:List Str:=["self","mask","kind","field","at","rows","kinds","missing"]
theorem tD:ba tz ["self","mask","kind","field","at"] (aK k6):=⟨rfl,rfl,rfl,by decide +kernel,rfl,by decide +kernel,by decide +kernel⟩
theorem Bg (T:All P w K mg AA DD):aE P w K mg base aI 3 AA.Za DD.Za ["self","mask","kind","field","at"] (Bf AA.c_KindLook):=by
 have GB:=ju (base:=base) T
 have GA:=jt (base:=base) T
 have GN:=jq (base:=base) T
 have GO:=jv (base:=base) T
 refine T.F_Za.ok tD (fun vs H Q E h=>?_) (fun cdv A outer s H vs Q E hr h=>?_)
 ·obtain ⟨o,dx,d2,F,ts,fs,k,n,r,rfl,_⟩:=h
  rfl
 ·obtain ⟨o,dx,d2,F,ts,fs,k,n,r,rfl,hF,hk,hf,kq⟩:=h
  have nd:=tD.nd
  have hr2:aA 2 _:=hr
  have hr1:aA 1 _:=hr2.mono (by omega)
  have hu:=QF (Nat.add_le_add_left (show 1<=64 by decide) _) hr.units
  refine ⟨_,(av (be (gO (vT (pv 2))) (aq (aO (bB (aa (aV (aa (pv 1) (aa jM ag))) ag)))) bo) (av (@bf _ _ 5 _ _ _ _ nd rfl (Or.inl rfl) (aN GB hr1 rfl T.m_Zs T.k_Zs T.b_Zs .nil aB (aa (fN hu (jT (pv 0) rfl) (aV (aa aD (aa (pv 2) ag))) (bB ag) ⟨by rfl,by rfl,by rfl,by rfl⟩) (aa (pv 1) ag))) (by rfl) (by first | exact .inl rfl | exact .inr rfl | assumption)) (av (qh (i:=6) (xs:=["here","one"]) (aK k6) tz ["field"] [3] rfl (by exact ⟨rfl,rfl,by decide +kernel,by decide +kernel,by decide +kernel,by decide +kernel,by decide +kernel,rfl,by decide +kernel⟩) rfl rfl (ci (pv 5)) (fun _ _ _ _=>(fk (K:=K) (n:=2) rfl rfl (a8 (aT (i:=0) (show (["here","one","field"]:List Str).Nodup by decide +kernel) rfl (Or.inl rfl)) (a8 (aT (i:=1) (show (["here","one","field"]:List Str).Nodup by decide +kernel) rfl (Or.inl rfl)) cg)))) (fun _ _ _ _=>gk (gO (qt hu (pv 2) (eY (mz false rfl) rfl T.n_dict mx (aa (au (aH (K:=K) rfl) (pv 1) ai (fun _ _=>rfl)) ag))))) (fun _ _ _ _=>(aV (aa (pv 0) (aa (gp hu (eY (mz false rfl) rfl T.n_dict mx (aa (au (aH (K:=K) rfl) (pv 1) ai (fun _ _=>rfl)) ag)) (pv 2) (fun _ _=>rfl)) ag)))) nd rfl rfl rfl) (av (@bf _ _ 7 _ _ _ _ nd rfl (Or.inl rfl) (aN GN hr1 rfl T.m_ZK T.k_ZK T.b_ZK .nil aB (aa (pv 1) (aa (aN GA hr1 rfl T.m_ZM T.k_ZM T.b_ZM .nil aB (aa (pv 6) ag)) ag))) (by rfl) (by first | exact .inl rfl | exact .inr rfl | assumption)) (av (bX (cn (pv 0) T.cl_KindLook T.M_Zm GO hr2 T.b_Zm .nil aB (aa (pv 7) (aa (pv 4) (aa aD ag)))) (by rfl)) (aq (aO (aG jY (pv 6) (aN GB hr1 rfl T.m_Zs T.k_Zs T.b_Zs .nil aB (aa (bB (aa (aV (aa (pv 1) (aa jM ag))) ag)) (aa (pv 7) ag))))))))))),?_⟩
  cases k with
  | none =>
   refine ⟨_,rfl,_,rfl,bg (by rw [Qp (show cw none=V.non from rfl)]) ?_⟩
   refine ⟨_,rfl,(by show 2<=sizeLine;decide),fun t ht=>⟨(by show 1<=sizeLine;decide),fun p hp=>?_⟩⟩
   have s1:=ao (o:=.tup [.int 1,.non]) ht
   have s2:=ao (o:=.lst [.ref t]) hp
   refine kq p _ (bv (s1.trans s2)) (hk.same (s1.trans s2)) ⟨[t],aj,rfl,fun i u q x y=>?_⟩
   match i with
   | 0=>cases (show some t=some u from x);cases (show some V.non=some q from y);exact s2 _ _ aj
   | i+1=>simp at x
  | some k =>
   refine ⟨_,rfl,_,rfl,aM (by rw [Qi (fun z=>by cases z)]) ?_⟩
   obtain ⟨d1,hi,hd1,hne⟩:=hk.ins
   refine ⟨_,rfl,o,AA.c_KindLook,dx,_,_,rfl,hi,T.cl_KindLook,T.na_KindLook_firsts,rfl,d1,rfl,.inr ⟨F,.inl hd1⟩,?_⟩
   refine ⟨_,rfl,(by show 2<=sizeLine;decide),fun q hq=>⟨(by show 0<=sizeLine;decide),fun q2 hq2=>?_⟩⟩
   have s1:=ao (o:=.tup [.str "kind",.str k]) hq
   have s2:=ao (o:=.lst []) hq2
   have s12:=s1.trans s2
   have hkk:af (af H q (.tup [.str "kind",.str k])) q2 (.lst []) q=some (.tup ((c7 ("kind",k)).map kV)):=s2 _ _ aj
   refine ⟨_,bt.t (k:=c7 ("kind",k)) (s12 _ _ hd1) hkk,_,rfl,?_⟩
   obtain ⟨l3,ks,el3,hl3,hks⟩:∃ l3 ks,(aU F (c7 ("kind",k))).getD (V.ref q2)=.ref l3/\bW (af (af H q (.tup [.str "kind",.str k])) q2 (.lst [])) l3 ks/\((ks=[]/\aF ("kind",k) ts=none)∨∃ y t',ks=[y]/\bn H true y t'/\aF ("kind",k) ts=some t'):=by
    rcases hF ("kind",k) with ⟨a,b⟩ | ⟨p',v',t',a,b,c,e⟩
    ·exact ⟨q2,[],by rw [a];rfl,⟨[],aj,rfl,fun i t k x=>by simp at x⟩,.inl ⟨rfl,b⟩⟩
    ·exact ⟨p',[v'],by rw [a];rfl,b.kept s12.ls,.inr ⟨v',t',rfl,c,e⟩⟩
   rw [el3]
   refine ⟨l3,ks,1,rfl,Qh _,hl3,?_,fun p H3 s3 hp3=>?_⟩
   ·rcases hks with ⟨e,_⟩ | ⟨y,t',e,_⟩<;>rw [e]<;>simp
   rw [if_neg (by decide)] at hp3
   have s13:=s12.trans s3
   have hk3:=hk.same s13
   dsimp only [aX]
   refine tq (fun σ' H'=>∃ q5,Same H3 H'/\KL H' q5 ((bw ts (some k) n).toList.map some)/\σ'=[some (.ref o),some (.int 1),some (.str k),some (.str n),some (.int ((r:Nat):Int)),some (.ref p),some (.ref q5),none]) (fun R hR=>?_) ?_
   ·rcases hks with ⟨e,h⟩ | ⟨y,t',e,hSy,h⟩
    ·subst e
     have ef:bw ts (some k) n=none:=by
      show (match aF ("kind",k) ts with | none=>none | some t=>cU t.prs n)=none
      rw [h]
     rw [ef] at hR
     obtain ⟨us,hp1,hul,_⟩:=hp3
     have eu:us=[]:=List.length_eq_zero_iff.mp hul
     subst eu
     refine ⟨_,rfl,p,rfl,⟨_,am.of hp1⟩,?_⟩
     refine eM (K:=K) (a:=p) (xs:=[]) (fun i ys H'=>H'=H3/\ys=[]) ⟨rfl,rfl⟩ (fun i ys H' _ h=>by rw [h.1];exact am.of hp1) (fun i x ys H' hx=>by simp at hx) ?_
     rintro ys H' ⟨rfl,rfl⟩ q hq
     exact hR _ _ ⟨q,ao hq,⟨[],aj,rfl,fun i t k x=>by simp at x⟩,rfl⟩
    ·subst e
     have ef:bw ts (some k) n=cU t'.prs n:=by
      show (match aF ("kind",k) ts with | none=>none | some t=>cU t.prs n)=_
      rw [h]
     rw [ef] at hR
     obtain ⟨us,hp1,hul,hat⟩:=hp3
     obtain ⟨u0,rfl⟩:∃ u0,us=[u0]:=List.length_eq_one_iff.mp hul
     have hu0:=hat 0 u0 y rfl rfl
     have hhd:t'.hd=some (("kind":Str),k):=by
      have q:=List.find?_some h
      exact of_decide_eq_true q
     have hSy3:=hSy.kept s13.ls
     obtain ⟨t1,x0,x1,x2,vp,rfl,ht1,hvp⟩:∃ t1 x0 x1 x2 vp,y=.ref t1/\H3 t1=some (.tup [x0,x1,x2,vp])/\eC H3 vp t'.prs:=by
      cases t' with
      | kd r n ps =>
       obtain ⟨t1,vp,e1,ht1,hv⟩:=nE hSy3
       exact ⟨t1,_,_,_,vp,e1,ht1,hv⟩
      | df r n k ps b=>exact absurd (congrArg Prod.fst (Qo hhd)) (show ¬ ("def":Str)="kind" by decide)
      | _=>cases hhd
     obtain ⟨tp,ws,rfl,htp,hwl,hwat⟩:=hvp
     have dT:∀ {H':Hp},Same H3 H'->∀ (i:Nat) (t:Addr) (p:ae × V),ws[i]?=some t->(t'.prs.map fun p=>((Sum.inr p.1:ae),V.str p.2))[i]?=some p->H' t=some (.tup [kV p.1,p.2]):=fun s i t p x y=>by
      rw [Qk] at y
      obtain ⟨c,hc,rfl⟩:=Option.map_eq_some_iff.mp y
      exact s _ _ (hwat i t c x hc)
     refine ⟨_,rfl,p,rfl,⟨_,am.of hp1⟩,?_⟩
     refine eM (K:=K) (a:=p) (xs:=[.ref u0]) (fun i ys H'=>Same H3 H'/\i<=1/\((i=0/\ys=[])∨(i=1/\∃ us:List Addr,ys=us.map V.ref/\us.length=(cU t'.prs n).toList.length/\∀ (j:Nat) (u:Addr) (z:Str),us[j]?=some u->(cU t'.prs n).toList[j]?=some z->H' u=some (.tup [.int 1,.str z])))) ⟨Same.refl _,Qr _,.inl ⟨rfl,rfl⟩⟩ (fun i ys H' _ h=>am.of (h.1 _ _ hp1)) ?_ ?_
     ·rintro i x ys H2 hx ⟨sm,_,h01⟩
      have hi0:i=0:=by have:=(Qc hx).1;simpa using this
      subst hi0
      have ex:x=V.ref u0:=by simpa using hx.symm
      subst ex
      have ys0:ys=[]:=by
       rcases h01 with ⟨_,e⟩ | ⟨e,_⟩
       ·exact e
       ·cases e
      subst ys0
      intro os hos
      obtain ⟨a,b,rfl⟩:∃ a b,os=[a,b]:=by
       match os,hos with
       | [a,b],_=>exact ⟨a,b,rfl⟩
      refine ⟨u0,_,rfl,ah.of (sm _ _ hu0),rfl,_,_,rfl,_,_,rfl,rfl,⟨[_,_],rfl,rfl⟩,?_⟩
      have hpl:ws.length=(t'.prs.map fun p=>((Sum.inr p.1:ae),V.str p.2)).length:=by rw [Qf];exact hwl
      refine ⟨_,rfl,_,rfl,t1,_,_,_,rfl,rfl,ah.of (sm _ _ ht1),ap (j:=3) rfl,tp,ws,_,rfl,sm _ _ htp,hpl,dT sm,fun qd hqd=>?_⟩
      have sd:=ao (o:=.dK (lj t'.prs)) hqd
      refine ⟨qd,_,rfl,bt.k (k:=.inr n) aj,_,rfl,?_⟩
      rw [show aU (dy (t'.prs.map fun p=>((Sum.inr p.1:ae),V.str p.2))) (.inr n)=(cU t'.prs n).map V.str from tu _ _]
      cases hfl:cU t'.prs n with
      | none =>
       refine dh ?_
       exact ⟨sm.trans sd,Qh _,.inr ⟨rfl,[],rfl,rfl,fun j u z x=>by simp at x⟩⟩
      | some kd =>
       refine fe ?_
       have sm2:=sm.trans sd
       refine ⟨_,rfl,_,rfl,t1,_,_,_,rfl,rfl,ah.of (sm2 _ _ ht1),ap (j:=3) rfl,tp,ws,_,rfl,sm2 _ _ htp,hpl,dT sm2,fun qe hqe=>?_⟩
       have se:=ao (o:=.dK (lj t'.prs)) hqe
       refine ⟨_,rfl,qe,_,rfl,by rw [show some (V.str kd)=aU (lj t'.prs) (.inr n) from by rw [tu,hfl];rfl];exact bt.k (k:=.inr n) aj,(by show 2<=sizeLine;decide),fun q2 hq2=>?_⟩
       have s3':=ao (o:=.tup [.int 1,.str kd]) hq2
       refine ⟨(by show 0<sizeLine;decide),(sm2.trans se).trans s3',Qh _,.inr ⟨rfl,[q2],rfl,rfl,fun j u z x y=>?_⟩⟩
       match j with
       | 0=>cases (show some q2=some u from x);cases (show some kd=some z from y);exact aj
       | j+1=>simp at x
     ·rintro ys H2 ⟨sm,_,h01⟩ q hq
      rcases h01 with ⟨e,_⟩ | ⟨_,us,rfl,hul,hus⟩
      ·simp at e
      have sq:=ao (o:=.lst (us.map V.ref)) hq
      refine hR _ _ ⟨q,sm.trans sq,⟨us,aj,by rw [hul];simp,fun i t z x y=>?_⟩,rfl⟩
      rw [List.map_map,Qk] at y
      obtain ⟨c,hc,rfl⟩:=Option.map_eq_some_iff.mp y
      exact sq _ _ (hus i t c x hc)
   ·rintro σ' H5 ⟨q5,s5,h5,rfl⟩
    obtain ⟨xs5,hx5,hP5,hxe⟩:=h5.p1
    have s15:=s13.trans s5
    have hk5:=hk.same s15
    obtain ⟨m,hm⟩:∃ m:Nat,m=(1 ^^^ (1 &&& (if xs5=[] then 0 else 1))):=⟨_,rfl⟩
    refine ⟨_,rfl,_,rfl,q5,xs5,rfl,hx5,hP5,1,(if xs5=[] then 0 else 1),?_,?_⟩
    ·split<;>rfl
    dsimp only [aX]
    rw [<- hm]
    have key:∀ H6,bh H5 H6->aW H6 AA.c_KindLook o dx d2 F (fT ts r (some k) n fs)->m<=1/\((bw ts (some k) n).toList.map some++(if m=0 then [] else [none])=[bw ts (some k) n])->(lM (iO mh (iE 6) (pz lg [] E0 (gh (pi (gh (ph (gh (iE 1) (gh (tC V.non) iT))) iT)) (gh (iE 7) iT)))):TS) { nx:=fun x H'=>Q V.non H',rt:=Q } [some (V.ref o),some (V.int 1),some (V.str k),some (V.str n),some (V.int ((r:Nat):Int)),some (V.ref p),some (V.ref q5),some (.int ((m:Nat):Int))] H6:=fun H6 l6 hk6 ⟨hm1,hmk⟩=>by
     refine ⟨_,rfl,_,rfl,(by show 2<=sizeLine;decide),fun t7 ht7=>⟨(by show 1<=sizeLine;decide),fun p7 hp7=>⟨_,rfl,?_⟩⟩⟩
     have s7:=ao (o:=.tup [.int 1,.non]) ht7
     have s8:=ao (o:=.lst [.ref t7]) hp7
     have s78:=s7.trans s8
     have hK7:KL (af (af H6 t7 (.tup [.int 1,.non])) p7 (.lst [.ref t7])) p7 [none]:=⟨[t7],aj,rfl,fun i u q x y=>by
      match i with
      | 0=>cases (show some t7=some u from x);cases (show some V.non=some q from y);exact s8 _ _ aj
      | i+1=>simp at x⟩
     show lg [.ref p7,.int ((m:Nat):Int)] _ (fun y H2=>mh (V.ref q5) y H2 Q) E0
     refine nJ (E:=E0) (m:=m) (ks:=[none]) hm1 hK7 (by simp) fun q9 H9 s9 hK9=>?_
     have h59:=(h5.kept l6.ls).same (s78.trans s9)
     obtain ⟨xs1,ys1,e1,e2,e3,e4,e5⟩:=h59.cat hK9
     refine ⟨q5,q9,xs1,ys1,rfl,rfl,e1,e2,?_,fun l4 hl4=>?_⟩
     ·have e6:((bw ts (some k) n).toList.map some++(if m=0 then [] else [none]):List Kd).length=1:=by rw [hmk];rfl
      rw [Qv] at e6
      exact Nat.le_of_lt (cR (by omega))
     have hK4:=e5 l4 hl4
     rw [hmk] at hK4
     have s4:=ao (o:=.lst (xs1++ys1)) hl4
     have sf:=(s78.trans s9).trans s4
     exact kq l4 _ (((bv s15).trans l6).trans (bv sf)) (hk6.same sf) hK4
    obtain ⟨d1',hi5,_⟩:=hk5.ins
    refine ⟨_,rfl,o,dx,_,rfl,hi5,rfl,_,rfl,_,rfl,?_⟩
    refine ⟨o,dx,d2,F,fs,m,r,"field",rfl,hk5,by omega,?_⟩
    cases hfx:bw ts (some k) n with
    | none =>
     have hx0:xs5=[]:=hxe.mpr (by rw [hfx];rfl)
     rw [if_pos hx0] at hm
     subst hm
     refine .inr ⟨rfl,fun H6 l6 hk6=>key H6 l6 ?_ ⟨by decide,by rw [hfx];rfl⟩⟩
     show aW _ _ _ _ _ _ (if bw ts (some k) n=none then bI fs (kk r "field") else fs)
     rw [if_pos hfx];exact hk6
    | some kd =>
     have hx0:¬ xs5=[]:=fun z=>by have:=hxe.mp z;rw [hfx] at this;simp at this
     rw [if_neg hx0] at hm
     subst hm
     refine .inl ⟨rfl,fun H6 l6 hk6=>key H6 l6 ?_ ⟨by decide,by rw [hfx];rfl⟩⟩
     show aW _ _ _ _ _ _ (if bw ts (some k) n=none then bI fs (kk r "field") else fs)
     rw [if_neg (by rw [hfx];simp)];exact hk6
end
section
variable {P:Program} {w:World} {K:W.Frag} {mg:Str->Option Value} {base:Heap} {AA:bG} {DD:bH}
theorem bh.off {H H':Hp} {a:Addr} {o:HO} (l:bh H H') (h:H a=none):bh H (af H' a o) :=
 ⟨⟨fun b xs hb=>by rw [ar (fun z=>by rw [z,h] at hb;cases hb)];exact l.ls.1 _ _ hb,fun b xs hb=>by rw [ar (fun z=>by rw [z,h] at hb;cases hb)];exact l.ls.2 _ _ hb,fun b o x hb=>by rw [ar (fun z=>by rw [z,h] at hb;cases hb)];exact l.ls.z _ _ _ hb⟩,fun b kv hb=>by rw [ar (fun z=>by rw [z,h] at hb;cases hb)];exact l.dk _ _ hb⟩
theorem aW.off {H:Hp} {C o dx d2 a:Addr} {F:List (List ae × V)} {fs:List (List ae)} {xs:List V} {ob:HO} (h:aW H C o dx d2 F fs) (ha:H a=some (.lst xs)):aW (af H a ob) C o dx d2 F fs:=by
 obtain ⟨⟨d1,h1,h3,h4⟩,h2⟩:=h
 exact ⟨⟨d1,by rw [ar (fun z=>by rw [z,ha] at h1;cases h1)];exact h1,by rw [ar (fun z=>by rw [z,ha] at h3;cases h3)];exact h3,h4⟩,by rw [ar (fun z=>by rw [z,ha] at h2;cases h2)];exact h2⟩
noncomputable abbrev nQ:List Str:=["self","mask","e","at","names","rows","found","here","kind","inner"]
theorem nR:ba nQ ["self","mask","e","at","names"] (aK jl):=⟨rfl,rfl,rfl,by decide +kernel,rfl,by decide +kernel,by decide +kernel⟩
theorem Bh (T:All P w K mg AA DD) (k:Nat) (GAK:aE P w K mg base aI (3*k+4) AA.Zp DD.Zp ["self","mask","e","due","at","names"] (nP AA.c_KindLook k)) (GUR:aE P w K mg base aI (3*k+5) AA.Zc DD.Zc ["self","mask","e","word","at","names"] (tf AA.c_KindLook k)) (GKO:aE P w K mg base aI (3*k+3) AA.Zg DD.Zg ["self","mask","e","at","names"] (ii AA.c_KindLook k)) :
  aE P w K mg base aI (3*(k+1)+3) AA.Zg DD.Zg ["self","mask","e","at","names"] (ii AA.c_KindLook (k+1)):=by
 have GI:=Ay (base:=base) T
 have GB:=ju (base:=base) T
 have GFK:=Bg (base:=base) T
 refine T.F_Zg.ok nR (fun vs H Q E h=>?_) (fun cdv A outer s H vs Q E hr h=>?_)
 ·obtain ⟨o,dx,d2,F,ts,fs,v,d3,ρ,n,e,r,rfl,_⟩:=h
  rfl
 ·obtain ⟨o,dx,d2,F,ts,fs,v,d3,ρ,n,e,r,rfl,hE,hp,hn,hF,hd,hk,hf,k'⟩:=h
  have nd:=nR.nd
  have hrU:aA (3*k+5) _:=hr
  have hrA:aA (3*k+4) _:=hrU.mono (by omega)
  have hrK:aA (3*k+3) _:=hrA.mono (by omega)
  have hr3:aA 3 _:=hrA.mono (by omega)
  have hr1:aA 1 _:=hrA.mono (by omega)
  have hu:=QF (Nat.add_le_add_left (show 1<=64 by decide) _) hr.units
  refine ⟨_,(av (be (aY bE (au (aH (K:=K) rfl) (pv 2) ai (fun _ _=>rfl)) aD (a6 _)) (aq (aO (aN GB hr1 rfl T.m_Zs T.k_Zs T.b_Zs .nil aB (aa (fN hu (pv 4) (au (aH (K:=K) rfl) (pv 2) ai (fun _ _=>rfl)) (bB ag) ⟨by rfl,by rfl,by rfl,by rfl⟩) (aa (pv 1) ag))))) bo) (av (be (aY bE (au (aH (K:=K) rfl) (pv 2) ai (fun _ _=>rfl)) aD (a6 _)) (av (@bf _ _ 5 _ _ _ _ nd rfl (Or.inl rfl) (cn (pv 0) T.cl_KindLook T.M_Zc GUR hrU T.b_Zc .nil aB (aa (pv 1) (aa (pv 2) (aa aD (aa (pv 3) (aa (pv 4) ag)))))) (by rfl) (by first | exact .inl rfl | exact .inr rfl | assumption)) (aq (aO (gm (xs:=["here","one"]) (aK jl) nQ [] [] rfl (by exact ⟨rfl,rfl,by decide +kernel,by decide +kernel,by decide +kernel,by decide +kernel,by decide +kernel,rfl,by decide +kernel⟩) rfl rfl (ci (pv 5)) (fun _ _ _ _=>(fk (K:=K) (n:=2) rfl rfl (a8 (aT (i:=0) (show (["here","one"]:List Str).Nodup by decide +kernel) rfl (Or.inl rfl)) (a8 (aT (i:=1) (show (["here","one"]:List Str).Nodup by decide +kernel) rfl (Or.inl rfl)) cg)))) (fun _ _ _ _=>d4) (fun _ _ _ _=>(aV (aa (pv 0) (aa (au (aH (K:=K) rfl) (pv 1) ai (fun _ _=>rfl)) ag)))))))) bo) (av (be (aY bE (au (aH (K:=K) rfl) (pv 2) ai (fun _ _=>rfl)) aD (a6 _)) (av (@bf _ _ 5 _ _ _ _ nd rfl (Or.inl rfl) (cn (pv 0) T.cl_KindLook T.M_Zc GUR hrU T.b_Zc .nil aB (aa (pv 1) (aa (pv 2) (aa aD (aa (pv 3) (aa (pv 4) ag)))))) (by rfl) (by first | exact .inl rfl | exact .inr rfl | assumption)) (aq (aO (gm (xs:=["here","one"]) (aK jl) nQ [] [] rfl (by exact ⟨rfl,rfl,by decide +kernel,by decide +kernel,by decide +kernel,by decide +kernel,by decide +kernel,rfl,by decide +kernel⟩) rfl rfl (ci (pv 5)) (fun _ _ _ _=>(fk (K:=K) (n:=2) rfl rfl (a8 (aT (i:=0) (show (["here","one"]:List Str).Nodup by decide +kernel) rfl (Or.inl rfl)) (a8 (aT (i:=1) (show (["here","one"]:List Str).Nodup by decide +kernel) rfl (Or.inl rfl)) cg)))) (fun _ _ _ _=>d4) (fun _ _ _ _=>(aV (aa (pv 0) (aa (au (aH (K:=K) rfl) (pv 1) ai (fun _ _=>rfl)) ag)))))))) bo) (av (be (aY bE (au (aH (K:=K) rfl) (pv 2) ai (fun _ _=>rfl)) aD (a6 _)) (av (@bf _ _ 6 _ _ _ _ nd rfl (Or.inl rfl) (bB ag) (by rfl) (by first | exact .inl rfl | exact .inr rfl | assumption)) (av (cO PassesOwn.never rfl (ci (cn (pv 0) T.cl_KindLook T.M_Zg GKO hrK T.b_Zg .nil aB (aa (pv 1) (aa (au (aH (K:=K) rfl) (pv 2) ai (fun _ _=>rfl)) (aa (pv 3) (aa (pv 4) ag)))))) (dt rfl (a8 (aT (i:=7) nd rfl (Or.inl rfl)) (a8 (aT (i:=8) nd rfl (Or.inl rfl)) cg))) (aq (bX (fc PySem.F.plainAttrs_list PySem.F.slot_list_extend PySem.F.type_list_extend xr (pv 6) (aa (cn (pv 0) T.cl_KindLook T.M_Za GFK hr3 T.b_Za .nil aB (aa (pv 7) (aa (pv 8) (aa (au (aH (K:=K) rfl) (pv 2) ai (fun _ _=>rfl)) (aa (pv 3) ag))))) ag)) (by rfl))) (by intro _;rfl)) (aq (aO (pv 6))))) bo) (av (cO PassesOwn.never rfl (iM (aN GI hr1 rfl T.m_ZG T.k_ZG T.b_ZG .nil aB (aa (pv 2) ag))) (aT (i:=9) nd rfl (Or.inl rfl)) (aq (bX (cn (pv 0) T.cl_KindLook T.M_Zp GAK hrA T.b_Zp .nil aB (aa (pv 1) (aa (pv 9) (aa (qD T.D_ASKS rfl T.m_ASKS (au (aH (K:=K) rfl) (pv 2) ai (fun _ _=>rfl)) (fun _ _=>rfl)) (aa (pv 3) (aa (pv 4) ag)))))) (by rfl))) (by intro _;rfl)) (aq (aO (bB (aa (aV (aa (pv 1) (aa (qD T.D_MAKES rfl T.m_MAKES (au (aH (K:=K) rfl) (pv 2) ai (fun _ _=>rfl)) (fun _ _=>rfl)) ag))) ag))))))))),?_⟩
  obtain ⟨d1,hi,_⟩:=hk.ins
  by_cases hnm:∃ z,e=.name z
  ·obtain ⟨z,rfl⟩:=hnm
   cases hE with
   | @name t _ ht =>
   refine ⟨_,rfl,t,_,_,_,rfl,rfl,ah.of ht,ap (j:=0) rfl,rfl,_,rfl,?_⟩
   refine bg (Qp rfl) ?_
   obtain ⟨kvs,hd3,hkn,hz⟩:=hn.ex
   refine ⟨_,rfl,d3,rfl,.inl ⟨kvs,.inl hd3⟩,_,rfl,t,_,_,_,rfl,rfl,ah.of ht,ap (j:=1) rfl,?_⟩
   refine ⟨(by show 0<=sizeLine;decide),fun q hq=>?_⟩
   have s1:=ao (o:=.lst []) hq
   refine ⟨_,bt.k (k:=.inr z) (s1 _ _ hd3),_,rfl,?_⟩
   have fin:∀ q' H',Same (af H q (.lst [])) H'->KL H' q' (if (1:Nat)=0 then [] else (ρ z).toList)->Q (.ref q') H':=fun q' H' s' hK=>by
    refine k' q' H' (bv (s1.trans s')) ?_ hK
    have:=hk.same (s1.trans s')
    rw [aP];exact this
   rcases hz z with ⟨h1,h2⟩ | ⟨p,h1,h2⟩
   ·rw [h1]
    refine nJ (E:=E0) (m:=1) (ks:=(ρ z).toList) (Qh _) ?_ (eD _) fin
    rw [h2]
    exact ⟨[],aj,rfl,fun i t k x=>by simp at x⟩
   ·rw [h1]
    exact nJ (E:=E0) (m:=1) (ks:=(ρ z).toList) (Qh _) (h2.same s1) (eD _) fin
  have hnm:∀ z,e≠.name z:=fun z q=>hnm ⟨z,q⟩
  by_cases hmn:∃ w z es,e=.many w z es
  ·obtain ⟨w,z,es,rfl⟩:=hmn
   obtain ⟨hw,hes⟩:=(show (w="do"∨w="new")/\ig es from hp)
   have hE0:=hE
   cases hE with
   | @many t l _ _ vs _ ht hl hvs =>
   rcases hw with hw | hw
   ·subst hw
    have ekd:aL ts ρ (.many "do" z es)=(aF ("def",z) ts).map fun t=>some t.knd:=by
     show (aF (br "do",z) ts).map _=_
     rw [gA]
     congr 1
    rw [ekd] at k'
    refine ⟨_,rfl,t,_,_,_,rfl,rfl,ah.of ht,ap (j:=0) rfl,rfl,_,rfl,?_⟩
    refine aM (Qi (by intro q;injection q with q;exact absurd q (by decide))) ?_
    refine ⟨_,rfl,t,_,_,_,rfl,rfl,ah.of ht,ap (j:=0) rfl,rfl,_,rfl,?_⟩
    refine bg (Qp rfl) ?_
    refine ⟨_,rfl,o,dx,_,rfl,hi,rfl,_,rfl,_,rfl,_,rfl,_,rfl,?_⟩
    refine ⟨o,dx,d2,F,ts,fs,.ref t,d3,ρ,n,"do",z,es,r,by rw [gA];rfl,hE0,hes,hn,hF,(by simp [Ex.deep] at hd;omega),hk,hf,fun p H1 l1 hk1 hu1=>?_⟩
    rw [gA] at hu1
    dsimp only [aX]
    have fin:∀ q' H',bh H1 H'->aW H' AA.c_KindLook o dx d2 F (aP ts ρ r (.many "do" z es) fs)->KL H' q' ((aF ("def",z) ts).map fun t=>(some t.knd:Kd)).toList->Q (.ref q') H':=fun q' H' lk hk' hK=>k' q' H' (l1.trans lk) hk' hK
    cases hfs:aF ("def",z) ts with
    | none =>
     rw [hfs] at hu1 fin
     obtain ⟨us,hp1,hul,_⟩:=(show bW H1 p [] from hu1)
     have eu:us=[]:=List.length_eq_zero_iff.mp hul
     subst eu
     refine ⟨_,rfl,p,rfl,⟨_,am.of hp1⟩,?_⟩
     refine eM (K:=K) (a:=p) (xs:=[]) (fun i ys H'=>H'=H1/\ys=[]) ⟨rfl,rfl⟩ (fun i ys H' _ h=>by rw [h.1];exact am.of hp1) (fun i x ys H' hx=>by simp at hx) ?_
     rintro ys H' ⟨rfl,rfl⟩ q hq
     have sq:=ao (o:=.lst []) hq
     exact fin q _ (bv sq) (hk1.same sq) ⟨[],aj,rfl,fun i t k x=>by simp at x⟩
    | some t' =>
     rw [hfs] at hu1 fin
     obtain ⟨y,⟨us,hp1,hul,hat⟩,hSy⟩:=(show ∃ y,bW H1 p [y]/\bn H1 true y t' from hu1)
     obtain ⟨u0,rfl⟩:∃ u0,us=[u0]:=List.length_eq_one_iff.mp hul
     have hu0:=hat 0 u0 y rfl rfl
     have hhd:t'.hd=some (("def":Str),z):=by
      have q:=List.find?_some hfs
      exact of_decide_eq_true q
     obtain ⟨t1,x0,x1,x2,r1,rfl,ht1⟩:∃ t1 x0 x1 x2 r1,y=.ref t1/\H1 t1=some (.tup (x0::x1::x2::.str t'.knd::r1)):=by
      cases hSy with
      | @mk t1 vs _ ht1 hps =>
      cases t' with
      | df r n k ps b=>cases hps with | cons a b=>cases b with | cons c d=>cases d with | cons e f=>cases f with | cons g h=>cases g;exact ⟨t1,_,_,_,_,rfl,ht1⟩
      | kd r n ps=>exact absurd (congrArg Prod.fst (Qo hhd)) (show ¬ ("kind":Str)="def" by decide)
      | _=>cases hhd
     refine ⟨_,rfl,p,rfl,⟨_,am.of hp1⟩,?_⟩
     refine eM (K:=K) (a:=p) (xs:=[.ref u0]) (fun i ys H'=>Same H1 H'/\i<=1/\((i=0/\ys=[])∨(i=1/\∃ u,ys=[.ref u]/\H' u=some (.tup [.int 1,.str t'.knd])))) ⟨Same.refl _,Qr _,.inl ⟨rfl,rfl⟩⟩ (fun i ys H' _ h=>am.of (h.1 _ _ hp1)) ?_ ?_
     ·rintro i x ys H2 hx ⟨sm,_,h01⟩
      have hi0:i=0:=by have:=(Qc hx).1;simpa using this
      subst hi0
      have ex:x=V.ref u0:=by simpa using hx.symm
      subst ex
      have ys0:ys=[]:=by
       rcases h01 with ⟨_,e⟩ | ⟨e,_⟩
       ·exact e
       ·cases e
      subst ys0
      intro os hos
      obtain ⟨a,b,rfl⟩:∃ a b,os=[a,b]:=by
       match os,hos with
       | [a,b],_=>exact ⟨a,b,rfl⟩
      refine ⟨u0,_,rfl,ah.of (sm _ _ hu0),rfl,_,_,rfl,_,_,rfl,rfl,⟨[_,_],rfl,rfl⟩,?_⟩
      refine dZ ?_
      rw [if_pos rfl]
      refine ⟨_,rfl,_,rfl,t1,_,_,_,rfl,rfl,ah.of (sm _ _ ht1),ap (j:=3) rfl,(by show 2<=sizeLine;decide),fun q2 hq2=>?_⟩
      have s3:=ao (o:=.tup [.int 1,.str t'.knd]) hq2
      exact ⟨(by show 0<sizeLine;decide),sm.trans s3,Qh _,.inr ⟨rfl,q2,rfl,aj⟩⟩
     ·rintro ys H2 ⟨sm,_,h01⟩ q hq
      rcases h01 with ⟨e,_⟩ | ⟨_,u,rfl,hu2⟩
      ·simp at e
      have sq:=ao (o:=.lst [.ref u]) hq
      refine fin q _ (bv (sm.trans sq)) (hk1.same (sm.trans sq)) ⟨[u],aj,rfl,fun i t k x y=>?_⟩
      match i with
      | 0=>cases (show some u=some t from x);cases (show some (V.str t'.knd)=some k from y);exact sq _ _ hu2
      | i+1=>simp at x
   ·subst hw
    have ekd:aL ts ρ (.many "new" z es)=(aF ("kind",z) ts).map fun t=>some z:=by
     show (aF (br "new",z) ts).map _=_
     rw [gB]
     congr 1
    rw [ekd] at k'
    refine ⟨_,rfl,t,_,_,_,rfl,rfl,ah.of ht,ap (j:=0) rfl,rfl,_,rfl,?_⟩
    refine aM (Qi (by intro q;injection q with q;exact absurd q (by decide))) ?_
    refine ⟨_,rfl,t,_,_,_,rfl,rfl,ah.of ht,ap (j:=0) rfl,rfl,_,rfl,?_⟩
    refine aM (Qi (by intro q;injection q with q;exact absurd q (by decide))) ?_
    refine ⟨_,rfl,t,_,_,_,rfl,rfl,ah.of ht,ap (j:=0) rfl,rfl,_,rfl,?_⟩
    refine bg (Qp rfl) ?_
    refine ⟨_,rfl,o,dx,_,rfl,hi,rfl,_,rfl,_,rfl,_,rfl,_,rfl,?_⟩
    refine ⟨o,dx,d2,F,ts,fs,.ref t,d3,ρ,n,"new",z,es,r,by rw [gB];rfl,hE0,hes,hn,hF,(by simp [Ex.deep] at hd;omega),hk,hf,fun p H1 l1 hk1 hu1=>?_⟩
    rw [gB] at hu1
    dsimp only [aX]
    have fin:∀ q' H',bh H1 H'->aW H' AA.c_KindLook o dx d2 F (aP ts ρ r (.many "new" z es) fs)->KL H' q' ((aF ("kind",z) ts).map fun t=>(some z:Kd)).toList->Q (.ref q') H':=fun q' H' lk hk' hK=>k' q' H' (l1.trans lk) hk' hK
    cases hfs:aF ("kind",z) ts with
    | none =>
     rw [hfs] at hu1 fin
     obtain ⟨us,hp1,hul,_⟩:=(show bW H1 p [] from hu1)
     have eu:us=[]:=List.length_eq_zero_iff.mp hul
     subst eu
     refine ⟨_,rfl,p,rfl,⟨_,am.of hp1⟩,?_⟩
     refine eM (K:=K) (a:=p) (xs:=[]) (fun i ys H'=>H'=H1/\ys=[]) ⟨rfl,rfl⟩ (fun i ys H' _ h=>by rw [h.1];exact am.of hp1) (fun i x ys H' hx=>by simp at hx) ?_
     rintro ys H' ⟨rfl,rfl⟩ q hq
     have sq:=ao (o:=.lst []) hq
     exact fin q _ (bv sq) (hk1.same sq) ⟨[],aj,rfl,fun i t k x=>by simp at x⟩
    | some t' =>
     rw [hfs] at hu1 fin
     obtain ⟨y,⟨us,hp1,hul,hat⟩,hSy⟩:=(show ∃ y,bW H1 p [y]/\bn H1 true y t' from hu1)
     obtain ⟨u0,rfl⟩:∃ u0,us=[u0]:=List.length_eq_one_iff.mp hul
     have hu0:=hat 0 u0 y rfl rfl
     have hhd:t'.hd=some (("kind":Str),z):=by
      have q:=List.find?_some hfs
      exact of_decide_eq_true q
     obtain ⟨t1,x0,x1,r1,rfl,ht1⟩:∃ t1 x0 x1 r1,y=.ref t1/\H1 t1=some (.tup (x0::x1::.str z::r1)):=by
      cases t' with
      | kd r n ps =>
       obtain ⟨t1,vp,e1,ht1,_⟩:=nE hSy
       have en:n=z:=congrArg Prod.snd (Qo hhd)
       subst en
       exact ⟨t1,_,_,_,e1,ht1⟩
      | df r n k ps b=>exact absurd (congrArg Prod.fst (Qo hhd)) (show ¬ ("def":Str)="kind" by decide)
      | _=>cases hhd
     refine ⟨_,rfl,p,rfl,⟨_,am.of hp1⟩,?_⟩
     refine eM (K:=K) (a:=p) (xs:=[.ref u0]) (fun i ys H'=>Same H1 H'/\i<=1/\((i=0/\ys=[])∨(i=1/\∃ u,ys=[.ref u]/\H' u=some (.tup [.int 1,.str z])))) ⟨Same.refl _,Qr _,.inl ⟨rfl,rfl⟩⟩ (fun i ys H' _ h=>am.of (h.1 _ _ hp1)) ?_ ?_
     ·rintro i x ys H2 hx ⟨sm,_,h01⟩
      have hi0:i=0:=by have:=(Qc hx).1;simpa using this
      subst hi0
      have ex:x=V.ref u0:=by simpa using hx.symm
      subst ex
      have ys0:ys=[]:=by
       rcases h01 with ⟨_,e⟩ | ⟨e,_⟩
       ·exact e
       ·cases e
      subst ys0
      intro os hos
      obtain ⟨a,b,rfl⟩:∃ a b,os=[a,b]:=by
       match os,hos with
       | [a,b],_=>exact ⟨a,b,rfl⟩
      refine ⟨u0,_,rfl,ah.of (sm _ _ hu0),rfl,_,_,rfl,_,_,rfl,rfl,⟨[_,_],rfl,rfl⟩,?_⟩
      refine dZ ?_
      rw [if_pos rfl]
      refine ⟨_,rfl,_,rfl,t1,_,_,_,rfl,rfl,ah.of (sm _ _ ht1),ap (j:=2) rfl,(by show 2<=sizeLine;decide),fun q2 hq2=>?_⟩
      have s3:=ao (o:=.tup [.int 1,.str z]) hq2
      exact ⟨(by show 0<sizeLine;decide),sm.trans s3,Qh _,.inr ⟨rfl,q2,rfl,aj⟩⟩
     ·rintro ys H2 ⟨sm,_,h01⟩ q hq
      rcases h01 with ⟨e,_⟩ | ⟨_,u,rfl,hu2⟩
      ·simp at e
      have sq:=ao (o:=.lst [.ref u]) hq
      refine fin q _ (bv (sm.trans sq)) (hk1.same (sm.trans sq)) ⟨[u],aj,rfl,fun i t k x y=>?_⟩
      match i with
      | 0=>cases (show some u=some t from x);cases (show some (V.str z)=some k from y);exact sq _ _ hu2
      | i+1=>simp at x
  by_cases hof:∃ n x,e=.of n x
  ·obtain ⟨fn,e1,rfl⟩:=hof
   cases hE with
   | @of t _ v1 _ ht hv1 =>
   have hp1:e1.dos:=hp
   have hd1:e1.deep<k:=by simp [Ex.deep] at hd;omega
   refine ⟨_,rfl,t,_,_,_,rfl,rfl,ah.of ht,ap (j:=0) rfl,rfl,_,rfl,?_⟩
   refine aM (Qi (by intro q;injection q with q;exact absurd q (by decide))) ?_
   refine ⟨_,rfl,t,_,_,_,rfl,rfl,ah.of ht,ap (j:=0) rfl,rfl,_,rfl,?_⟩
   refine aM (Qi (by intro q;injection q with q;exact absurd q (by decide))) ?_
   refine ⟨_,rfl,t,_,_,_,rfl,rfl,ah.of ht,ap (j:=0) rfl,rfl,_,rfl,?_⟩
   refine aM (Qi (by intro q;injection q with q;exact absurd q (by decide))) ?_
   refine ⟨_,rfl,t,_,_,_,rfl,rfl,ah.of ht,ap (j:=0) rfl,rfl,_,rfl,?_⟩
   refine bg (Qp rfl) ?_
   refine ⟨(by show 0<=sizeLine;decide),fun fo hfo=>?_⟩
   have s0:=ao (o:=.lst []) hfo
   dsimp only [aX]
   have hk0:=hk.same s0
   obtain ⟨d1',hi0,_⟩:=hk0.ins
   refine d5 (fun σ' H'=>bh H H'/\aW H' AA.c_KindLook o dx d2 F (aP ts ρ r (.of fn e1) fs)/\KL H' fo (aL ts ρ (.of fn e1)).toList/\∃ x5 x7 x8 x9,σ'=[some (.ref o),some (.int 1),some (.ref t),some (.int ((r:Nat):Int)),some (.ref d3),x5,some (.ref fo),x7,x8,x9]) (fun R hR=>?_) ?_
   ·refine ⟨_,rfl,o,dx,_,rfl,hi0,rfl,_,rfl,_,rfl,t,_,_,_,rfl,rfl,ah.of (s0 _ _ ht),ap (j:=2) rfl,_,rfl,_,rfl,?_⟩
    refine ⟨o,dx,d2,F,ts,fs,v1,d3,ρ,n,e1,r,rfl,hv1.kept s0.ls.1,hp1,hn.kept (bv s0),hF.kept s0.ls,hd1,hk0,hf,fun p H1 l1 hk1 hK1=>?_⟩
    have l01:=(bv s0).trans l1
    have hfo1:H1 fo=some (.lst []):=l1.ls.2 _ _ aj
    have ht1:=l01.ls.1 _ _ ht
    cases hkd:aL ts ρ e1 with
    | none =>
     have e9:aP ts ρ r (.of fn e1) fs=aP ts ρ r e1 fs:=by rw [aP,hkd];rfl
     have e8:aL ts ρ (.of fn e1)=none:=by rw [aL,hkd];rfl
     rw [e8,e9] at hR
     rw [hkd] at hK1
     obtain ⟨us,hp1',hul,_⟩:=hK1
     have eu:us=[]:=List.length_eq_zero_iff.mp hul
     subst eu
     refine ⟨p,rfl,⟨_,am.of hp1'⟩,?_⟩
     refine dW (K:=K) (a:=p) (xs:=[]) (fun i σ' H'=>H'=H1/\∃ x5 x7 x8 x9,σ'=[some (.ref o),some (.int 1),some (.ref t),some (.int ((r:Nat):Int)),some (.ref d3),x5,some (.ref fo),x7,x8,x9]) ⟨rfl,_,_,_,_,rfl⟩ (fun i σ' H' _ h=>by rw [h.1];exact am.of hp1') (fun i x σ' H' hx=>by simp at hx) ?_
     rintro σ' H' ⟨rfl,x5,x7,x8,x9,rfl⟩
     exact hR _ _ ⟨l01,hk1,⟨[],hfo1,rfl,fun i t k x=>by simp at x⟩,x5,x7,x8,x9,rfl⟩
    | some kd =>
     have e9:aP ts ρ r (.of fn e1) fs=fT ts r kd fn (aP ts ρ r e1 fs):=by rw [aP,hkd];rfl
     have e8:aL ts ρ (.of fn e1)=some (bw ts kd fn):=by rw [aL,hkd];rfl
     rw [e8,e9] at hR
     rw [hkd] at hK1
     obtain ⟨us,hp1',hul,hat⟩:=hK1
     obtain ⟨u0,rfl⟩:∃ u0,us=[u0]:=List.length_eq_one_iff.mp hul
     have hu0:=hat 0 u0 (cw kd) rfl rfl
     have hpf:p≠fo:=fun z=>by rw [z,hfo1] at hp1';cases hp1'
     refine ⟨p,rfl,⟨_,am.of hp1'⟩,?_⟩
     refine dW (K:=K) (a:=p) (xs:=[.ref u0]) (fun i σ' H'=>bh H H'/\H' p=some (.lst [.ref u0])/\(∃ x5 x7 x8 x9,σ'=[some (.ref o),some (.int 1),some (.ref t),some (.int ((r:Nat):Int)),some (.ref d3),x5,some (.ref fo),x7,x8,x9])/\((i=0/\H'=H1)∨(i=1/\aW H' AA.c_KindLook o dx d2 F (fT ts r kd fn (aP ts ρ r e1 fs))/\KL H' fo [bw ts kd fn]))) ⟨l01,hp1',⟨_,_,_,_,rfl⟩,.inl ⟨rfl,rfl⟩⟩ (fun i σ' H' _ h=>am.of h.2.1) ?_ ?_
     ·rintro i x σ' H' hx ⟨_,_,⟨x5,x7,x8,x9,rfl⟩,h01⟩
      have hi0':i=0:=by have:=(Qc hx).1;simpa using this
      subst hi0'
      have ex:x=V.ref u0:=by simpa using hx.symm
      subst ex
      have eH:H'=H1:=by
       rcases h01 with ⟨_,e⟩ | ⟨e,_⟩
       ·exact e
       ·cases e
      subst eH
      refine ⟨u0,_,rfl,ah.of hu0,rfl,_,_,rfl,_,_,rfl,rfl,?_⟩
      obtain ⟨d1'',hi1,_⟩:=hk1.ins
      refine ⟨_,rfl,.inl ⟨rfl,_,am.of hfo1⟩,_,rfl,o,dx,_,rfl,hi1,rfl,_,rfl,_,rfl,_,rfl,t,_,_,_,rfl,rfl,ah.of ht1,ap (j:=1) rfl,_,rfl,?_⟩
      refine ⟨o,dx,d2,F,ts,aP ts ρ r e1 fs,kd,fn,r,rfl,(hF.kept l01.ls),hk1,(hf.then (d8 ts ρ r e1 fs)).len,fun p9 H9 l9 hk9 hK9=>?_⟩
      obtain ⟨vs9,hp9,hvl,hvat⟩:=hK9
      obtain ⟨v0,rfl⟩:∃ v0,vs9=[v0]:=List.length_eq_one_iff.mp hvl
      have hfo9:=l9.ls.2 _ _ hfo1
      have hv0:=hvat 0 v0 (cw (bw ts kd fn)) rfl rfl
      refine ⟨fo,p9,[],_,rfl,rfl,hfo9,hp9,(by show 0+1<=sizeLine;decide),?_⟩
      refine ⟨(l01.trans l9).off hfo,by rw [ar hpf];exact l9.ls.2 _ _ hp1',⟨_,_,_,_,rfl⟩,.inr ⟨rfl,hk9.off hfo9,[v0],aj,rfl,fun i u q x y=>?_⟩⟩
      match i with
      | 0 =>
       cases (show some v0=some u from x)
       cases (show some (cw (bw ts kd fn))=some q from y)
       rw [ar (fun z=>by rw [z,hfo9] at hv0;cases hv0)];exact hv0
      | i+1=>simp at x
     ·rintro σ' H' ⟨l9,_,⟨x5,x7,x8,x9,rfl⟩,h01⟩
      rcases h01 with ⟨e,_⟩ | ⟨_,hk9,hK9⟩
      ·simp at e
      ·exact hR _ _ ⟨l9,hk9,hK9,x5,x7,x8,x9,rfl⟩
   ·rintro σ' H' ⟨l9,hk9,hK9,x5,x7,x8,x9,rfl⟩
    exact ⟨_,rfl,k' fo H' l9 hk9 hK9⟩
  have hbas:e.bas:=A6 hp (fun w z es q=>hmn ⟨w,z,es,q⟩) fun n x q=>hof ⟨n,x,q⟩
  obtain ⟨t,ys,rfl,ht,n1,n2,n3,n4,lm,la⟩:=A5 hE hbas hnm
  have ekd:aL ts ρ e=some (some (dN e)):=by
   cases e with
   | name z=>exact (hnm _ rfl).elim
   | many w z es=>exact hbas.elim
   | of n x=>exact hbas.elim
   | _=>rfl
  rw [ekd] at k'
  refine ⟨_,rfl,t,_,_,_,rfl,rfl,ah.of ht,ap (j:=0) rfl,rfl,_,rfl,?_⟩
  refine aM (Qi fun q=>n1 (by injection q)) ?_
  refine ⟨_,rfl,t,_,_,_,rfl,rfl,ah.of ht,ap (j:=0) rfl,rfl,_,rfl,?_⟩
  refine aM (Qi fun q=>n2 (by injection q)) ?_
  refine ⟨_,rfl,t,_,_,_,rfl,rfl,ah.of ht,ap (j:=0) rfl,rfl,_,rfl,?_⟩
  refine aM (Qi fun q=>n3 (by injection q)) ?_
  refine ⟨_,rfl,t,_,_,_,rfl,rfl,ah.of ht,ap (j:=0) rfl,rfl,_,rfl,?_⟩
  refine aM (Qi fun q=>n4 (by injection q)) ?_
  refine ⟨_,rfl,_,e,rfl,hE,hbas,fun tk zs H2 s2 htk hys=>⟨tk,rfl,⟨_,ah.of htk⟩,?_⟩⟩
  have hkl:=hys.len
  have hk2:=hk.same s2
  have ht2:=s2 _ _ ht
  have kfl:∀ i,bM r fs ((e.kids.take i).foldl (d7 ts ρ r (dj e)) fs):=by
   intro i
   generalize e.kids.take i=cs
   have go:∀ (cs:List Ex) (gs:List (List ae)),bM r fs gs->bM r fs (cs.foldl (d7 ts ρ r (dj e)) gs):=by
    intro cs
    induction cs with
    | nil=>exact fun gs h=>h
    | cons c cs ih=>exact fun gs h=>ih _ ((h.tr (d8 ts ρ r c gs)).ask _ _)
   exact go cs fs (.refl _ _)
  refine wd (K:=K) (a:=tk) (xs:=zs) (fun i σ' H'=>bh H H'/\bh H2 H'/\(∃ x5 x6 x7 x8 x9,σ'=[some (.ref o),some (.int 1),some (.ref t),some (.int ((r:Nat):Int)),some (.ref d3),x5,x6,x7,x8,x9])/\aW H' AA.c_KindLook o dx d2 F ((e.kids.take i).foldl (d7 ts ρ r (dj e)) fs)) ⟨bv s2,bh.refl _,⟨_,_,_,_,_,rfl⟩,by simpa using hk2⟩ (fun i σ' H' _ h=>ah.of (h.2.1.ls.1 _ _ htk)) ?_ ?_
  ·rintro i x σ' H3 hx ⟨l3,l23,⟨x5,x6,x7,x8,x9,rfl⟩,hk3⟩
   obtain ⟨c,hc,hcx⟩:=hys.get hx
   have hcm:=A7 hp c (QD hc)
   obtain ⟨d1,hi3,_⟩:=hk3.ins
   have la':=la (fun z=>by rw [z] at hc;simp at hc)
   have hll:=hf.then (kfl i)
   refine ⟨_,rfl,o,dx,_,rfl,hi3,rfl,_,rfl,_,rfl,_,rfl,t,_,_,_,rfl,rfl,ah.of (l23.ls.1 _ _ ht2),ap (j:=0) rfl,dM e,dj e,rfl,la',_,rfl,_,rfl,o,dx,d2,F,ts,_,x,d3,ρ,n,c,r,dj e,rfl,hcx.kept l23.ls.1,hcm.1,hn.kept l3,hF.kept l3.ls,by omega,hk3,hll,fun H' ls hk'=>?_⟩
   refine ⟨l3.trans ls,l23.trans ls,⟨_,_,_,_,_,rfl⟩,?_⟩
   obtain ⟨hi,ec⟩:=Qc hc
   rw [Qn hi,ec,List.foldl_append]
   exact hk'
  ·rintro σ' H3 ⟨l3,l23,⟨x5,x6,x7,x8,x9,rfl⟩,hk3⟩
   rw [QB (by omega),<- A8 ts ρ r e hbas] at hk3
   dsimp only
   refine ⟨_,rfl,_,rfl,t,_,_,_,rfl,rfl,ah.of (l23.ls.1 _ _ ht2),ap (j:=0) rfl,dM e,dN e,rfl,lm,(by show 2<=sizeLine;decide),fun t3 ht3=>⟨(by show 1<=sizeLine;decide),fun p hp3=>?_⟩⟩
   have s3:=ao (o:=.tup [.int 1,.str (dN e)]) ht3
   have s4:=ao (o:=.lst [.ref t3]) hp3
   refine k' p _ (l3.trans (bv (s3.trans s4))) (hk3.same (s3.trans s4)) ⟨[t3],aj,rfl,fun i t k x y=>?_⟩
   match i with
   | 0=>cases (show some t3=some t from x);cases (show some (V.str (dN e))=some k from y);exact s4 _ _ aj
   | i+1=>simp at x
theorem Bi (T:All P w K mg AA DD):aE P w K mg base aI 3 AA.Zg DD.Zg ["self","mask","e","at","names"] (ii AA.c_KindLook 0):=by
 have no:∀ vs H Q E,¬ ii AA.c_KindLook 0 vs H Q E:=fun vs H Q E h=>by
  obtain ⟨o,dx,d2,F,ts,fs,v,d3,ρ,n,e,r,_,_,_,_,_,z,_⟩:=h
  omega
 exact T.F_Zg.ok nR (fun vs H Q E h=>(no _ _ _ _ h).elim) (fun cdv A outer s H vs Q E hr h=>(no _ _ _ _ h).elim)
theorem ll (T:All P w K mg AA DD):∀ k:Nat,aE P w K mg base aI (3*k+3) AA.Zg DD.Zg ["self","mask","e","at","names"] (ii AA.c_KindLook k)
 | 0=>Bi T
 | k+1=>Bh T k (sZ T k (ll T k)) (Be T k (sZ T k (ll T k))) (ll T k)
end
section
variable {P:Program} {w:World} {K:W.Frag} {mg:Str->Option Value} {base:Heap} {AA:bG} {DD:bH}
structure dA (d:Addr) (H H':Hp):Prop where
 ls:bC H H'
 dk:∀ a kv,a≠d->H a=some (.dK kv)->H' a=some (.dK kv)
theorem dA.refl (d:Addr) (H:Hp):dA d H H:=⟨bC.refl _,fun _ _ _ h=>h⟩
theorem dA.trans {d:Addr} {H H1 H2:Hp} (a:dA d H H1) (b:dA d H1 H2):dA d H H2:=⟨a.ls.trans b.ls,fun _ _ n h=>b.dk _ _ n (a.dk _ _ n h)⟩
theorem bh.d {H H':Hp} (s:bh H H') {d:Addr}:dA d H H':=⟨s.ls,fun _ _ _ h=>s.dk _ _ h⟩
noncomputable def dO (ρ:Env) (z:Str) (k:Option Kd):Env:=fun x=>if x=z then (match ρ z with | some k0=>some k0 | none=>k) else ρ x
noncomputable def fw (r:Nat) (ρ:Env) (z:Str) (k:Option Kd) (fs:List (List ae)):List (List ae):=match k with
 | some (some kd)=>bP r (ρ z) kd fs
 | _=>fs
theorem nS (ks:List Kd) (due:Str):cx ks due=0∨cx ks due=1:=by
 unfold cx
 split
 ·exact .inl rfl
 ·exact .inr rfl
theorem Bj {H:Hp} {v:V} {r:Nat} {z:Str} {e:Ex} (h:bn H true v (.set r z e)):∃ t0 x,v=.ref t0/\H t0=some (.tup [.str "set",.int ((r:Nat):Int),.str z,x]):=by
 obtain ⟨t0,x,e1,ht,_⟩:=rL h
 exact ⟨t0,x,e1,ht⟩
theorem cv.put {H:Hp} {d:Addr} {ρ:Env} {n:Nat} (h:cv H d ρ n) {z:Str} {k:Option Kd} {l:Addr} {ks:List Kd} (hl:KL H l ks) (e:ks=(dO ρ z k z).toList) (hn:n<900) :
  ∃ H',dw H d (.str z) (.ref l) H'/\bC H H'/\cv H' d (dO ρ z k) (n+1)/\(∀ a,a≠d->H' a=H a)/\∃ kv,H d=some (.dK kv):=by
 obtain ⟨⟨kvs,a,b,c⟩⟩:=h
 have lsd:∀ ob',bC H (af H d ob'):=fun ob'=>jp a (fun _ z=>nomatch z) (fun _ z=>nomatch z) fun _ _ z=>nomatch z
 refine ⟨_,dw.k (k:=.inr z) a (cr (by omega)),lsd _,⟨⟨_,aj,?_,fun x=>?_⟩⟩,fun a ha=>ar ha,kvs,a⟩
 ·exact QH (i5 _ _ _) (by omega)
 ·rw [j4]
  by_cases hx:x=z
  ·subst hx
   rw [if_pos rfl]
   exact .inr ⟨l,rfl,by rw [<- e];exact hl.kept (lsd _)⟩
  ·rw [if_neg (fun q=>hx (by injection q))]
   have ex:dO ρ z k x=ρ x:=by unfold dO;rw [if_neg hx]
   rw [ex]
   rcases c x with q | ⟨p,q1,q2⟩
   ·exact .inl q
   ·exact .inr ⟨p,q1,q2.kept (lsd _)⟩
noncomputable def Bk (C:Addr):Sp:=fun vs H Q _=>∃ (o dx d2 d3 p:Addr) (F:List (List ae × V)) (fs:List (List ae)) (ρ:Env) (n r:Nat) (v:V) (z:Str) (e:Ex) (k:Option Kd),vs=[.ref o,v,.ref p,.ref d3]/\bn H true v (.set r z e)/\KL H p k.toList/\aW H C o dx d2 F fs/\cv H d3 ρ n/\fs.length<900/\n<900 /\
 ∀ H',dA d3 H H'->aW H' C o dx d2 F (fw r ρ z k fs)->cv H' d3 (dO ρ z k) (n+1)->Q .non H'
noncomputable abbrev Bl:List Str:=["self","one","kinds","names","known","mask","kind"]
theorem tE:ba Bl ["self","one","kinds","names"] (aK nw):=⟨rfl,rfl,rfl,by decide +kernel,rfl,by decide +kernel,by decide +kernel⟩
theorem Bm (T:All P w K mg AA DD):aE P w K mg base aI 3 AA.Zf DD.Zf ["self","one","kinds","names"] (Bk AA.c_KindLook):=by
 have GU:=nK (base:=base) T
 have GO:=jv (base:=base) T
 have GA:=jt (base:=base) T
 have GB:=ju (base:=base) T
 have GN:=jq (base:=base) T
 refine T.F_Zf.ok tE (fun vs H Q E h=>?_) (fun cdv A outer s H vs Q E hr h=>?_)
 ·obtain ⟨o,dx,d2,d3,p,F,fs,ρ,n,r,v,z,e,k,rfl,_⟩:=h
  rfl
 ·obtain ⟨o,dx,d2,d3,p,F,fs,ρ,n,r,v,z,e,k,rfl,hS,hK,hk,hn,hf,hn9,kq⟩:=h
  have nd:=tE.nd
  have hr2:aA 2 _:=hr
  have hr1:aA 1 _:=hr2.mono (by decide)
  have hu:=QF (Nat.add_le_add_left (show 1<=64 by decide) _) hr.units
  refine ⟨_,(av (@bf _ _ 4 _ _ _ _ nd rfl (Or.inl rfl) (fN hu (pv 3) (au (aH (K:=K) rfl) (pv 1) ai (fun _ _=>rfl)) (bB ag) ⟨by rfl,by rfl,by rfl,by rfl⟩) (by rfl) (by first | exact .inl rfl | exact .inr rfl | assumption)) (av (cO PassesOwn.never rfl (ci (pv 2)) (dt rfl (a8 (aT (i:=5) nd rfl (Or.inl rfl)) (a8 (aT (i:=6) nd rfl (Or.inl rfl)) cg))) (aq (be (gO (lJ (pv 6))) (aq (bX (cn (pv 0) T.cl_KindLook T.M_Zm GO hr2 T.b_Zm .nil aB (aa (aN GU hr2 rfl T.m_ZQ T.k_ZQ T.b_ZQ .nil aB (aa (aN GB hr1 rfl T.m_Zs T.k_Zs T.b_Zs .nil aB (aa (pv 4) (aa (pv 5) ag))) (aa (pv 6) ag))) (aa (au (aH (K:=K) rfl) (pv 1) ai (fun _ _=>rfl)) (aa aD ag)))) (by rfl))) bo)) (by intro _;rfl)) (aq (i6 hu (pv 3) (au (aH (K:=K) rfl) (pv 1) ai (fun _ _=>rfl)) (aG jY (pv 4) (aN GB hr1 rfl T.m_Zs T.k_Zs T.b_Zs .nil aB (aa (pv 2) (aa (aN GN hr1 rfl T.m_ZK T.k_ZK T.b_ZK .nil aB (aa (aN GA hr1 rfl T.m_ZM T.k_ZM T.b_ZM .nil aB (aa (pv 2) ag)) (aa (aN GA hr1 rfl T.m_ZM T.k_ZM T.b_ZM .nil aB (aa (pv 4) ag)) ag))) ag)))) rfl)))),?_⟩
  obtain ⟨t0,x0,rfl,ht0⟩:=Bj hS
  obtain ⟨kvs,hd3,hkn,hz⟩:=hn.ex
  refine ⟨_,rfl,d3,rfl,.inl ⟨kvs,.inl hd3⟩,_,rfl,t0,_,_,_,rfl,rfl,ah.of ht0,ap (j:=2) rfl,?_⟩
  refine ⟨(by show 0<=sizeLine;decide),fun q hq=>?_⟩
  have s1:=ao (o:=.lst []) hq
  refine ⟨_,bt.k (k:=.inr z) (s1 _ _ hd3),?_⟩
  have hkn1:∃ l,(aU kvs (Sum.inr z)).getD (V.ref q)=.ref l/\KL (af H q (.lst [])) l (ρ z).toList:=by
   rcases hz z with ⟨h1,h2⟩ | ⟨l,h1,h2⟩
   ·refine ⟨q,by rw [h1];rfl,?_⟩
    rw [h2]
    exact ⟨[],aj,rfl,fun i t k x=>by simp at x⟩
   ·exact ⟨l,by rw [h1];rfl,h2.same s1⟩
  obtain ⟨l,el,hKl⟩:=hkn1
  rw [el]
  have hk1:=hk.same s1
  have hn1:=hn.kept (bv s1)
  have hK1:=hK.same s1
  have ht1:=s1 _ _ ht0
  have ls1:=bv s1
  generalize af H q (.lst [])=H1 at hKl hk1 hn1 hK1 ht1 ls1 ⊢
  dsimp only [aX]
  refine d5 (fun σ' H'=>bh H1 H'/\aW H' AA.c_KindLook o dx d2 F (fw r ρ z k fs)/\∃ s5 s6:Option V,σ'=[some (.ref o),some (.ref t0),some (.ref p),some (.ref d3),some (.ref l),s5,s6]) (fun R hRR=>?_) ?_
  ·obtain ⟨ts,hp,htl,hat⟩:=hK1.at
   refine ⟨_,rfl,p,rfl,⟨_,am.of hp⟩,?_⟩
   have hle:ts.length<=1:=by rw [htl];cases k<;>simp
   refine dW (K:=K) (a:=p) (xs:=ts.map V.ref) (fun i σ' H'=>bh H1 H'/\aW H' AA.c_KindLook o dx d2 F (if i=0 then fs else fw r ρ z k fs)/\∃ s5 s6:Option V,σ'=[some (.ref o),some (.ref t0),some (.ref p),some (.ref d3),some (.ref l),s5,s6]) ⟨bh.refl _,hk1,none,none,rfl⟩ (fun i σ' H' _ hsl73=>by obtain ⟨e,_⟩:=hsl73;exact am.of (e.ls.2 _ _ hp)) ?_ ?_
   ·rintro i x σ' H2 hx ⟨l2,hk2,s5,s6,rfl⟩
    have hi:i<ts.length:=by
     have:=(Qc hx).1
     rw [Qf] at this;exact this
    have hi0:i=0:=by omega
    subst hi0
    rw [if_pos rfl] at hk2
    have ex:x=V.ref ts[0]:=by rw [Qk,Qb hi] at hx;exact (Qo hx).symm
    subst ex
    cases k with
    | none=>have e0:ts.length=0:=htl
            omega
    | some ko =>
    have hT:=l2.ls.1 _ _ (hat 0 ts[0] ko (Qb hi) rfl)
    refine ⟨ts[0],_,rfl,ah.of hT,rfl,_,_,rfl,_,_,rfl,rfl,?_⟩
    cases ko with
    | none =>
     refine ⟨_,rfl,_,rfl,aM (by rw [Qp (show cw none=V.non from rfl)];rfl) ?_⟩
     refine ⟨l2,?_,_,_,rfl⟩
     rw [if_neg (by omega)];exact hk2
    | some kd =>
    refine ⟨_,rfl,_,rfl,bg (by rw [Qi (fun z=>by cases z)];rfl) ?_⟩
    obtain ⟨d1,hi2,_⟩:=hk2.ins
    refine ⟨_,rfl,o,dx,_,rfl,hi2,rfl,_,rfl,_,rfl,l,(ρ z).toList.map cw,1,rfl,Qh _,hKl.kept l2.ls,(by have:=eD (ρ z);simpa using this),fun l3 H3 s3 hK3=>?_⟩
    rw [if_neg (by decide)] at hK3
    have hK3:KL H3 l3 (ρ z).toList:=hK3
    refine ⟨_,rfl,l3,(ρ z).toList,kd,rfl,hK3,eD _,fun H4 s4=>?_⟩
    have s34:=s3.trans s4
    refine ⟨_,rfl,t0,_,_,_,rfl,rfl,ah.of (s34 _ _ (l2.ls.1 _ _ ht1)),ap (j:=1) rfl,?_⟩
    refine ⟨o,dx,d2,F,fs,cx (ρ z).toList kd,r,"kind",rfl,hk2.same s34,by omega,?_⟩
    rcases nS (ρ z).toList kd with hq | hq
    ·refine .inl ⟨hq,fun H5 l5 hk5=>⟨l2.trans ((bv s34).trans l5),?_,_,_,rfl⟩⟩
     rw [if_neg (by omega)]
     show aW H5 AA.c_KindLook o dx d2 F (bP r (ρ z) kd fs)
     unfold bP
     rw [if_pos hq];exact hk5
    ·refine .inr ⟨hq,fun H5 l5 hk5=>⟨l2.trans ((bv s34).trans l5),?_,_,_,rfl⟩⟩
     rw [if_neg (by omega)]
     show aW H5 AA.c_KindLook o dx d2 F (bP r (ρ z) kd fs)
     unfold bP
     rw [if_neg (by omega)];exact hk5
   ·rintro σ' H2 ⟨l2,hk2,s5,s6,rfl⟩
    refine hRR _ _ ⟨l2,?_,s5,s6,rfl⟩
    cases k with
    | none =>
     have e0:ts.length=0:=by simpa using htl
     rw [Qf,if_pos e0] at hk2
     exact hk2
    | some kd =>
     have e0:ts.length=1:=by simpa using htl
     rw [Qf,if_neg (by omega)] at hk2
     exact hk2
  ·rintro σ' H2 ⟨l2,hk2,s5,s6,rfl⟩
   have hK2:=hK1.kept l2.ls
   have hKl2:=hKl.kept l2.ls
   obtain ⟨xs,hx,hP,hxe⟩:=hK2.p1
   obtain ⟨ys,hy,hP2,hye⟩:=hKl2.p1
   refine ⟨_,rfl,_,rfl,_,rfl,p,xs,rfl,hx,hP,_,rfl,l,ys,rfl,hy,hP2,?_⟩
   refine ⟨(if xs=[] then 0 else 1),(if ys=[] then 0 else 1),?_,?_⟩
   ·split<;>split<;>rfl
   generalize hm:((if xs=[] then 0 else 1) ^^^ ((if xs=[] then 0 else 1) &&& (if ys=[] then 0 else 1)):Nat)=m
   have hm1:m<=1/\((ρ z).toList++(if m=0 then [] else k.toList))=(dO ρ z k z).toList:=by
    unfold dO
    rw [if_pos rfl]
    cases k with
    | none =>
     rw [if_pos (hxe.mpr rfl)] at hm
     subst hm
     cases ρ z<;>simp
    | some kd =>
     rw [if_neg (fun q=>by have:=hxe.mp q;simp at this)] at hm
     cases hρ:ρ z with
     | none =>
      rw [hρ] at hye
      rw [if_pos (hye.mpr rfl)] at hm
      subst hm
      exact ⟨by decide,by simp⟩
     | some k0 =>
      rw [hρ] at hye
      rw [if_neg (fun q=>by have:=hye.mp q;simp at this)] at hm
      subst hm
      exact ⟨by decide,by simp⟩
   refine ⟨p,k.toList.map cw,m,rfl,hm1.1,hK2,(by have:=eD k;simpa using this),fun p3 H3 s3 hK3=>?_⟩
   have hK3:KL H3 p3 (if m=0 then [] else k.toList):=by
    by_cases h0:m=0
    ·rw [if_pos h0] at hK3 ⊢;exact hK3
    ·rw [if_neg h0] at hK3 ⊢;exact hK3
   obtain ⟨xs1,ys1,h1,h2,h3,h4,h5⟩:=(hKl2.same s3).cat hK3
   refine ⟨l,p3,xs1,ys1,rfl,rfl,h1,h2,?_,fun l4 hl4=>?_⟩
   ·have e1:=eD (ρ z)
    have e2:(if m=0 then [] else k.toList).length<=50:=by
     split
     ·simp
     ·exact eD k
    have:=cr (n:=xs1.length+ys1.length) (by omega)
    omega
   have hK4:=h5 l4 hl4
   have s4:=ao (o:=.lst (xs1++ys1)) hl4
   have lk4:bh H1 (af H3 l4 (.lst (xs1++ys1))):=l2.trans (bv (s3.trans s4))
   obtain ⟨H5,hput,ls5,hn5,hoth,kv,hkv⟩:=(hn1.kept lk4).put hK4 hm1.2 hn9
   refine ⟨_,rfl,_,rfl,t0,_,_,_,rfl,rfl,ah.of (lk4.ls.1 _ _ ht1),ap (j:=2) rfl,d3,H5,rfl,hput,?_⟩
   refine kq H5 ((ls1.trans lk4).d.trans ⟨ls5,fun a kv n h=>by rw [hoth _ n];exact h⟩) ?_ hn5
   have hk4:=hk2.same (s3.trans s4)
   obtain ⟨⟨d1,i1,i3,i4⟩,i2⟩:=hk4
   refine ⟨⟨d1,?_,?_,i4⟩,?_⟩
   ·rw [hoth _ (fun q=>by rw [q,hkv] at i1;cases i1)];exact i1
   ·rw [hoth _ (fun q=>by rw [q,hkv] at i3;cases i3)];exact i3
   ·rw [hoth _ (fun q=>by rw [q,hkv] at i2;cases i2)];exact i2
end
section
variable {P:Program} {w:World} {K:W.Frag} {mg:Str->Option Value} {base:Heap} {AA:bG} {DD:bH}
theorem cv.mono {H:Hp} {d:Addr} {ρ:Env} {n m:Nat} (h:cv H d ρ n) (q:n<=m):cv H d ρ m:=by obtain ⟨⟨kvs,a,b,c⟩⟩:=h;exact ⟨⟨kvs,a,QH b q,c⟩⟩
noncomputable def dB (r:Nat) (k:Option Kd) (what due:Str) (fs:List (List ae)):List (List ae):=if cx k.toList due=0 then fs else bI fs (kk r what)
noncomputable def eR (r:Nat) (k:Option Kd) (fs:List (List ae)):List (List ae):=if k.toList.any isRec then bI fs (kk r "tell") else fs
noncomputable def d9 (t:Tr) (k:Option Kd) (ρ:Env) (du:Kd) (fs:List (List ae)):List (List ae):=match t with
 | .set r z _=>fw r ρ z k fs
 | .tell r _=>eR r k fs
 | .give r _=>dB r k "kind" (du.getD "") fs
 | t=>dB t.row k "truth" "truth" fs
noncomputable def nU (t:Tr) (k:Option Kd) (ρ:Env):Env:=match t with
 | .set _ z _=>dO ρ z k
 | _=>ρ
noncomputable def nV:Tr->Bool
 | .give _ _=>true
 | _=>false
noncomputable def Bn (C:Addr):Sp:=fun vs H Q _=>∃ (o dx d2 d3 p:Addr) (F:List (List ae × V)) (fs:List (List ae)) (ρ:Env) (n:Nat) (v:V) (t:Tr) (k:Option Kd) (du:Kd) (e:Ex),vs=[.ref o,v,.ref p,.ref d3,cw du]/\bn H true v t/\t.ex=some e/\(nV t=true->du≠none)/\KL H p k.toList/\aW H C o dx d2 F fs/\cv H d3 ρ n/\fs.length<900/\n<900 /\
 ∀ H',dA d3 H H'->aW H' C o dx d2 F (d9 t k ρ du fs)->cv H' d3 (nU t k ρ) (n+1)->Q .non H'
theorem Bo {t:Tr} {e:Ex} (he:t.ex=some e):(∃ r z e,t=.set r z e)∨(t.kw≠"set"/\(∀ k ρ,nU t k ρ=ρ)/\((t.kw="give"/\nV t=true/\∀ k ρ du fs,d9 t k ρ du fs=dB t.row k "kind" (du.getD "") fs)∨(t.kw≠"give"/\((t.kw="tell"/\∀ k ρ du fs,d9 t k ρ du fs=eR t.row k fs)∨(t.kw≠"tell"/\∀ k ρ du fs,d9 t k ρ du fs=dB t.row k "truth" "truth" fs))))):=by
 cases t with
 | set r n e=>exact .inl ⟨r,n,e,rfl⟩
 | tell r e=>exact .inr ⟨by show ("tell":Str)≠"set";decide,fun _ _=>rfl,.inr ⟨by show ("tell":Str)≠"give";decide,.inl ⟨rfl,fun _ _ _ _=>rfl⟩⟩⟩
 | give r e=>exact .inr ⟨by show ("give":Str)≠"set";decide,fun _ _=>rfl,.inl ⟨rfl,rfl,fun _ _ _ _=>rfl⟩⟩
 | iff r e b o=>exact .inr ⟨by show ("if":Str)≠"set";decide,fun _ _=>rfl,.inr ⟨by show ("if":Str)≠"give";decide,.inr ⟨by show ("if":Str)≠"tell";decide,fun _ _ _ _=>rfl⟩⟩⟩
 | whl r e b=>exact .inr ⟨by show ("while":Str)≠"set";decide,fun _ _=>rfl,.inr ⟨by show ("while":Str)≠"give";decide,.inr ⟨by show ("while":Str)≠"tell";decide,fun _ _ _ _=>rfl⟩⟩⟩
 | df r n k ps b=>cases he
 | kd r n ps=>cases he
noncomputable abbrev tF:List Str:=["self","one","kinds","names","due","at"]
theorem tG:ba tF ["self","one","kinds","names","due"] (aK k4):=⟨rfl,rfl,rfl,by decide +kernel,rfl,by decide +kernel,by decide +kernel⟩
theorem Bp (T:All P w K mg AA DD):aE P w K mg base aI 4 AA.Ze DD.Ze ["self","one","kinds","names","due"] (Bn AA.c_KindLook):=by
 have GU:=nK (base:=base) T
 have GO:=jv (base:=base) T
 have GA:=jt (base:=base) T
 have GIR:=AN (base:=base) T
 have GLS:=Bm (base:=base) T
 refine T.F_Ze.ok tG (fun vs H Q E h=>?_) (fun cdv A outer s H vs Q E hr h=>?_)
 ·obtain ⟨o,dx,d2,d3,p,F,fs,ρ,n,v,t,k,du,e0,rfl,_⟩:=h
  rfl
 ·obtain ⟨o,dx,d2,d3,p,F,fs,ρ,n,v,t,k,du,e0,rfl,hS,hex,hgv,hK,hk,hn,hf,hn9,kq⟩:=h
  have nd:=tG.nd
  have hr3:aA 3 _:=hr
  have hr2:aA 2 _:=hr3.mono (by decide)
  have hr1:aA 1 _:=hr3.mono (by decide)
  refine ⟨_,(av (@bf _ _ 5 _ _ _ _ nd rfl (Or.inl rfl) (au (aH (K:=K) rfl) (pv 1) ai (fun _ _=>rfl)) (by rfl) (by first | exact .inl rfl | exact .inr rfl | assumption)) (aq (be (aY bE (au (aH (K:=K) rfl) (pv 1) ai (fun _ _=>rfl)) aD (a6 _)) (aq (bX (cn (pv 0) T.cl_KindLook T.M_Zf GLS hr3 T.b_Zf .nil aB (aa (pv 1) (aa (pv 2) (aa (pv 3) ag)))) (by rfl))) (aq (be (aY bE (au (aH (K:=K) rfl) (pv 1) ai (fun _ _=>rfl)) aD (a6 _)) (aq (bX (cn (pv 0) T.cl_KindLook T.M_Zm GO hr2 T.b_Zm .nil aB (aa (aN GU hr2 rfl T.m_ZQ T.k_ZQ T.b_ZQ .nil aB (aa (pv 2) (aa (pv 4) ag))) (aa (pv 5) (aa aD ag)))) (by rfl))) (aq (be (aY bE (au (aH (K:=K) rfl) (pv 1) ai (fun _ _=>rfl)) aD (a6 _)) (aq (bX (cn (pv 0) T.cl_KindLook T.M_Zm GO hr2 T.b_Zm .nil aB (aa (aN GA hr1 rfl T.m_ZM T.k_ZM T.b_ZM .nil aB (aa (fh (aK k4) tF [] [] rfl (by exact ⟨rfl,rfl,by decide +kernel,rfl,by decide +kernel,by decide +kernel,by decide +kernel,rfl,by decide +kernel⟩) rfl rfl (ci (pv 2)) (fun _ _ _ _=>gk (gP (aN GIR hr1 rfl T.m_ZA T.k_ZA T.b_ZA .nil aB (aa (au (aH (K:=K) rfl) (pv 0) ai (fun _ _=>rfl)) ag)))) (fun _ _ _ _=>(pv 0))) ag)) (aa (pv 5) (aa aD ag)))) (by rfl))) (aq (bX (cn (pv 0) T.cl_KindLook T.M_Zm GO hr2 T.b_Zm .nil aB (aa (aN GU hr2 rfl T.m_ZQ T.k_ZQ T.b_ZQ .nil aB (aa (pv 2) (aa aD ag))) (aa (pv 5) (aa aD ag)))) (by rfl)))))))))),?_⟩
  have hS0:=hS
  cases hS with
  | @mk t0 vs _ ht0 hps =>
  obtain ⟨vr,rfl⟩:=lf hps
  obtain ⟨d1,hi,_⟩:=hk.ins
  refine ⟨_,rfl,t0,_,_,_,rfl,rfl,ah.of ht0,ap (j:=1) rfl,?_⟩
  dsimp only [aX]
  refine ⟨_,rfl,t0,_,_,_,rfl,rfl,ah.of ht0,ap (j:=0) rfl,rfl,_,rfl,?_⟩
  rcases Bo hex with ⟨r,z,e,rfl⟩ | ⟨n1,hE,hc⟩
  ·refine bg (Qp rfl) ?_
   refine ⟨_,rfl,o,dx,_,rfl,hi,rfl,_,rfl,_,rfl,_,rfl,?_⟩
   exact ⟨o,dx,d2,d3,p,F,fs,ρ,n,r,.ref t0,z,e,k,rfl,hS0,hK,hk,hn,hf,hn9,kq⟩
  refine aM (Qi fun z=>n1 (by injection z)) ?_
  have kq':∀ H',bh H H'->aW H' AA.c_KindLook o dx d2 F (d9 t k ρ du fs)->Q .non H':=fun H' lk h=>kq H' lk.d h (by rw [hE];exact (hn.kept lk).mono (by omega))
  refine ⟨_,rfl,t0,_,_,_,rfl,rfl,ah.of ht0,ap (j:=0) rfl,rfl,_,rfl,?_⟩
  rcases hc with ⟨hw,hgi,ht⟩ | ⟨n2,hc⟩
  ·refine bg (Qp (by rw [hw])) ?_
   obtain ⟨dk,rfl⟩:∃ dk,du=some dk:=Option.ne_none_iff_exists'.mp (hgv hgi)
   refine ⟨_,rfl,o,dx,_,rfl,hi,rfl,_,rfl,_,rfl,p,_,dk,rfl,hK,eD _,fun H2 s2=>⟨_,rfl,?_⟩⟩
   refine ⟨o,dx,d2,F,fs,cx k.toList dk,t.row,"kind",rfl,hk.same s2,by omega,?_⟩
   rcases nS k.toList dk with hq | hq
   ·refine .inl ⟨hq,fun H3 ls3 hk3=>kq' _ ((bv s2).trans ls3) ?_⟩
    rw [ht];unfold dB;rw [if_pos (by exact hq)];exact hk3
   ·refine .inr ⟨hq,fun H3 ls3 hk3=>kq' _ ((bv s2).trans ls3) ?_⟩
    rw [ht];unfold dB;rw [if_neg (by show ¬ cx k.toList dk=0;omega)];exact hk3
  refine aM (Qi fun z=>n2 (by injection z)) ?_
  refine ⟨_,rfl,t0,_,_,_,rfl,rfl,ah.of ht0,ap (j:=0) rfl,rfl,_,rfl,?_⟩
  rcases hc with ⟨hw,ht⟩ | ⟨hw,ht⟩
  ·refine bg (Qp (by rw [hw])) ?_
   refine ⟨_,rfl,o,dx,_,rfl,hi,rfl,?_⟩
   obtain ⟨ts,hp,htl,hat⟩:=hK.at
   refine ⟨_,rfl,p,rfl,⟨_,am.of hp⟩,?_⟩
   refine j0 (K:=K) (a:=p) (xs:=ts.map V.ref) (fun i ys H'=>H'=H/\i<=ts.length/\ie H ys/\ys.length<=i/\(ys=[]↔(k.toList.take i).any isRec=false)) ⟨rfl,Qr _,(by intro x hx;cases hx),Qh _,by simp⟩ (fun i ys H' _ h=>by rw [h.1];exact am.of hp) ?_ ?_
   ·rintro i x ys H1 hx ⟨rfl,_,hP,hyl,hy⟩
    have hi':i<ts.length:=by
     have:=(Qc hx).1
     rw [Qf] at this;exact this
    have ex:x=V.ref ts[i]:=by rw [Qk,Qb hi'] at hx;exact (Qo hx).symm
    subst ex
    have hik:i<k.toList.length:=by omega
    have h50:=eD k
    have htk:=hat i ts[i] k.toList[i] (Qb hi') (Qb hik)
    have hany:(k.toList.take (i+1)).any isRec=((k.toList.take i).any isRec||isRec k.toList[i]):=by
     rw [Qn hik,List.any_append];simp
    refine ⟨_,rfl,ts[i],_,_,_,rfl,rfl,ah.of htk,ap (j:=1) rfl,k.toList[i],rfl,?_⟩
    cases hb:isRec k.toList[i] with
    | false =>
     refine ⟨_,rfl,aM rfl ⟨rfl,by omega,hP,by omega,?_⟩⟩
     rw [hany,hb,Bool.or_false];exact hy
    | true =>
     refine ⟨_,rfl,bg rfl ⟨_,rfl,cr (by omega),rfl,by omega,fun x hx=>?_,by simp;omega,?_⟩⟩
     ·rcases Qy hx with hx | hx
      ·exact hP x hx
      ·exact ⟨ts[i],_,by simpa using hx,htk⟩
     ·rw [hany,hb];simp
   ·rintro ys H1 ⟨rfl,_,hP,_,hy⟩ q hq
    have sq:=ao (o:=.lst ys) hq
    rw [Qf,htl,List.take_length] at hy
    refine ⟨q,ys,rfl,aj,fun x hx=>by obtain ⟨t',y,e1,e2⟩:=hP x hx;exact ⟨t',y,e1,sq _ _ e2⟩,_,rfl,o,dx,d2,F,fs,(if ys=[] then 0 else 1),t.row,"tell",(by split<;>rfl),hk.same sq,by omega,?_⟩
    by_cases hy0:ys=[]
    ·refine .inl ⟨if_pos hy0,fun H3 ls3 hk3=>kq' _ ((bv sq).trans ls3) ?_⟩
     rw [ht];unfold eR;rw [hy.mp hy0];exact hk3
    ·refine .inr ⟨if_neg hy0,fun H3 ls3 hk3=>kq' _ ((bv sq).trans ls3) ?_⟩
     rw [ht];unfold eR
     rw [if_pos (by cases hq':k.toList.any isRec with | true=>rfl | false=>exact absurd (hy.mpr hq') hy0)];exact hk3
  ·refine aM (Qi fun z=>hw (by injection z)) ?_
   refine ⟨_,rfl,o,dx,_,rfl,hi,rfl,_,rfl,p,_,"truth",rfl,hK,eD _,fun H2 s2=>⟨_,rfl,?_⟩⟩
   refine ⟨o,dx,d2,F,fs,cx k.toList "truth",t.row,"truth",rfl,hk.same s2,by omega,?_⟩
   rcases nS k.toList "truth" with hq | hq
   ·refine .inl ⟨hq,fun H3 ls3 hk3=>kq' _ ((bv s2).trans ls3) ?_⟩
    rw [ht];unfold dB;rw [if_pos hq];exact hk3
   ·refine .inr ⟨hq,fun H3 ls3 hk3=>kq' _ ((bv s2).trans ls3) ?_⟩
    rw [ht];unfold dB;rw [if_neg (by omega)];exact hk3
end
section
variable {P:Program} {w:World} {K:W.Frag} {mg:Str->Option Value} {base:Heap} {AA:bG} {DD:bH}
theorem Bq {k:Nat} {js:List Nat} {g:TG} {tt:TT} {te:TE} {K:W.Frag} {a:Addr} {xs:List V} {σ:St} {H:Hp} {Q:VK} (Pv:Nat->List V->Hp->Prop) (h0:Pv 0 [] H) (hl:∀ i ys H,i<=xs.length->Pv i ys H->ah K H a xs)
  (hs:∀ i x ys H,xs[i]?=some x->Pv i ys H->i0 k js g tt te σ ys (Pv (i+1)) x H)
  (hd:∀ ys H,Pv xs.length ys H->∀ p,H p=none->Q (.ref p) (af H p (.lst ys))):j3 (gc K a) k js g tt te σ H Q:=by
 refine ⟨fun i m ys H=>m=xs.length-i/\i<=xs.length/\Pv i ys H,⟨xs.length,by simp,Qr _,h0⟩,?_⟩
 rintro i m ys H ⟨rfl,hi,p⟩
 have q:=hl i ys H hi p
 by_cases hlt:i<xs.length
 ·refine .inr ⟨⟨xs,xs[i],q,by simp [hlt]⟩,Pv (i+1),fun ys' H' p'=>⟨xs.length-(i+1),by omega,rfl,hlt,p'⟩,fun x H' y=>?_⟩
  obtain ⟨e,y⟩:=y
  subst e
  exact hs i x ys _ (y xs q) p
 ·have e:i=xs.length:=by omega
  subst e
  exact .inl ⟨⟨xs,q,Qh _⟩,hd ys H p⟩
noncomputable def env0:Env:=fun _=>none
noncomputable def fV (ps:List (Str × Str)):Env:=ps.foldl (fun ρ q=>fun z=>if z=q.1 then some (some q.2) else ρ z) env0
theorem Br {H:Hp}:∀ (pv:List (ae × V)) (ps:List (Str × Str)),pv.length=ps.length->(∀ (i:Nat) (p:ae × V) (q:Str × Str),pv[i]?=some p->ps[i]?=some q->∃ l,p=(.inr q.1,.ref l)/\KL H l [some q.2]) ->
  ∀ z:Str,(aU (dy pv) (.inr z)=none/\fV ps z=none)∨∃ p,aU (dy pv) (.inr z)=some (.ref p)/\KL H p (fV ps z).toList:=by
 have go:∀ (pv:List (ae × V)) (ps:List (Str × Str)) (a:List (ae × V)) (ρ:Env),pv.length=ps.length->(∀ (i:Nat) (p:ae × V) (q:Str × Str),pv[i]?=some p->ps[i]?=some q->∃ l,p=(.inr q.1,.ref l)/\KL H l [some q.2]) ->
   (∀ z:Str,(aU a (.inr z)=none/\ρ z=none)∨∃ p,aU a (.inr z)=some (.ref p)/\KL H p (ρ z).toList) ->
   ∀ z:Str,(aU (pv.foldl (fun q p=>bO q p.1 p.2) a) (.inr z)=none/\ps.foldl (fun ρ q=>fun z=>if z=q.1 then some (some q.2) else ρ z) ρ z=none)∨∃ p,aU (pv.foldl (fun q p=>bO q p.1 p.2) a) (.inr z)=some (.ref p)/\KL H p (ps.foldl (fun ρ q=>fun z=>if z=q.1 then some (some q.2) else ρ z) ρ z).toList:=fun pv=>by
  induction pv with
  | nil=>intro ps a ρ hl _ h;cases ps with | nil=>exact h | cons _ _=>simp at hl
  | cons p pv ih =>
   intro ps a ρ hl hr h
   cases ps with
   | nil=>simp at hl
   | cons q ps =>
    obtain ⟨l,rfl,hK⟩:=hr 0 p q rfl rfl
    simp only [List.foldl_cons]
    refine ih ps _ _ (by simpa using hl) (fun i p' q' h1 h2=>hr (i+1) p' q' (by simpa using h1) (by simpa using h2)) fun z=>?_
    rw [j4]
    by_cases hz:z=q.1
    ·rw [if_pos (by rw [hz]),if_pos hz]
     exact .inr ⟨l,rfl,hK⟩
    ·rw [if_neg (fun e=>hz (by injection e)),if_neg hz]
     exact h z
 intro pv ps hl hr
 exact go pv ps [] env0 hl hr fun z=>.inl ⟨rfl,rfl⟩
noncomputable abbrev cV:=Env × List (List ae)
noncomputable def cy (tt:List Tr) (du:Kd) (t:Tr) (e:Ex) (s:cV):cV:=(nU t (aL tt s.1 e) s.1,d9 t (aL tt s.1 e) s.1 du (aP tt s.1 t.row e s.2))
noncomputable def dP (r:Nat) (b:List Tr) (fs:List (List ae)):List (List ae):=if dL b=0 then bI fs (kk r "give") else fs
mutual
noncomputable def bJ (tt:List Tr) (du:Kd):Tr->cV->cV
 | .set r n e,fs=>cy tt du (.set r n e) e fs
 | .tell r e,fs=>cy tt du (.tell r e) e fs
 | .give r e,fs=>cy tt du (.give r e) e fs
 | .iff r e b o,fs=>kfTs tt du o (kfTs tt du b (cy tt du (.iff r e b o) e fs))
 | .whl r e b,fs=>kfTs tt du b (cy tt du (.whl r e b) e fs)
 | .df r n k ps b,fs=>(fs.1,(kfTs tt (some k) b (fV ps,dP r b fs.2)).2)
 | .kd r n ps,fs=>fs
noncomputable def kfTs (tt:List Tr) (du:Kd):List Tr->cV->cV
 | [],fs=>fs
 | t::ts,fs=>kfTs tt du ts (bJ tt du t fs)
end
theorem Bs (tt:List Tr) (du:Kd) (t:Tr) {e:Ex} (h:t.ex=some e) (fs:cV):bJ tt du t fs=t.blocks.foldl (fun gs b=>kfTs tt du b gs) (cy tt du t e fs):=by
 cases t<;>first | (cases h;simp [bJ,Tr.blocks];done) | cases h
theorem jx (tt:List Tr) (du:Kd):∀ (a b:List Tr) (fs:cV),kfTs tt du (a++b) fs=kfTs tt du b (kfTs tt du a fs)
 | [],_,_=>by simp [kfTs]
 | t::a,b,fs=>by
  show kfTs tt du (a++b) (bJ tt du t fs)=kfTs tt du b (kfTs tt du a (bJ tt du t fs))
  exact jx tt du a b _
theorem Bt (t:Tr) (k:Option Kd) (ρ:Env) (du:Kd) (fs:List (List ae)):(d9 t k ρ du fs).length<=fs.length+1:=by
 have h1:=fun r z=>nO fs (kk r z)
 have h3:∀ r w d,(dB r k w d fs).length<=fs.length+1:=fun r w d=>by
  unfold dB
  split
  ·omega
  ·exact h1 _ _
 unfold d9
 split
 ·unfold fw
  split
  ·unfold bP
   split
   ·omega
   ·exact h1 _ _
  ·omega
 ·unfold eR
  split
  ·exact h1 _ _
  ·omega
 ·exact h3 _ _ _
 ·exact h3 _ _ _
theorem tH (tt:List Tr) (ρ:Env) (r:Nat) (e:Ex) (fs:List (List ae)):(aP tt ρ r e fs).length<=fs.length+2:=(d8 tt ρ r e fs).len
theorem ij (tt:List Tr) (du:Kd) (t:Tr) (e:Ex) (s:cV):(cy tt du t e s).2.length<=s.2.length+3:=by
 have h1:=tH tt s.1 t.row e s.2
 have h2:=Bt t (aL tt s.1 e) s.1 du (aP tt s.1 t.row e s.2)
 unfold cy
 show (d9 t (aL tt s.1 e) s.1 du (aP tt s.1 t.row e s.2)).length<=_
 omega
theorem tI (r:Nat) (b:List Tr) (fs:List (List ae)):(dP r b fs).length<=fs.length+1:=by
 unfold dP
 split
 ·exact nO _ _
 ·omega
mutual
theorem Bu (tt:List Tr):∀ (du:Kd) (t:Tr) (fs:cV),(bJ tt du t fs).2.length<=fs.2.length+3*t.cnt
 | du,.set r n e,fs=>by
  have:=ij tt du (.set r n e) e fs
  simp [bJ,Tr.cnt];omega
 | du,.tell r e,fs=>by
  have:=ij tt du (.tell r e) e fs
  simp [bJ,Tr.cnt];omega
 | du,.give r e,fs=>by
  have:=ij tt du (.give r e) e fs
  simp [bJ,Tr.cnt];omega
 | du,.iff r e b o,fs=>by
  have h:=ij tt du (.iff r e b o) e fs
  have h1:=kfTs_len tt du b (cy tt du (.iff r e b o) e fs)
  have h2:=kfTs_len tt du o (kfTs tt du b (cy tt du (.iff r e b o) e fs))
  simp [bJ,Tr.cnt];omega
 | du,.whl r e b,fs=>by
  have h:=ij tt du (.whl r e b) e fs
  have h1:=kfTs_len tt du b (cy tt du (.whl r e b) e fs)
  simp [bJ,Tr.cnt];omega
 | du,.df r n k ps b,fs=>by
  have h:=tI r b fs.2
  have h1:=kfTs_len tt (some k) b (fV ps,dP r b fs.2)
  simp [bJ,Tr.cnt] at h1 ⊢;omega
 | du,.kd r n ps,fs=>by simp [bJ]
theorem kfTs_len (tt:List Tr):∀ (du:Kd) (ts:List Tr) (fs:cV),(kfTs tt du ts fs).2.length<=fs.2.length+3*cnts ts
 | du,[],fs=>by simp [kfTs,cnts]
 | du,t::ts,fs=>by
  have h1:=Bu tt du t fs
  have h2:=kfTs_len tt du ts (bJ tt du t fs)
  simp [kfTs,cnts];omega
end
theorem tJ (tt:List Tr) (du:Kd):∀ (bs:List (List Tr)) (fs:cV),(bs.foldl (fun gs b=>kfTs tt du b gs) fs).2.length<=fs.2.length+3*(bs.map cnts).sum
 | [],fs=>by simp
 | b::bs,fs=>by
  have h1:=kfTs_len tt du b fs
  have h2:=tJ tt du bs (kfTs tt du b fs)
  simp only [List.foldl_cons,List.map_cons,List.sum_cons]
  omega
theorem Bv {t:Tr} (h:t.asc) {e:Ex} (q:t.ex=some e):e.fit:=by
 cases t with
 | set r n e=>cases q;exact h
 | tell r e=>cases q;exact h
 | iff r e b o=>cases q;exact h.1
 | whl r e b=>cases q;exact h.1
 | give r e=>cases q;exact h
 | _=>cases q
theorem tK:∀ {ts:List Tr} {i:Nat} {t:Tr},ts[i]?=some t->cnts (ts.take (i+1))=cnts (ts.take i)+t.cnt/\cnts (ts.take i)+t.cnt<=cnts ts
 | x::ts,0,t,h=>by
  cases (show some x=some t from h)
  simp [cnts]
 | x::ts,i+1,t,h=>by
  obtain ⟨a,b⟩:=tK (ts:=ts) (i:=i) h
  simp [cnts,a];omega
theorem Bw {t:Tr} {bs:List Tr} (h:bs∈t.blocks):bF.b bs∈t.parts:=by
 have:bF.b bs∈t.parts.filter gw:=by rw [ss];exact List.mem_map.mpr ⟨bs,h,rfl⟩
 exact (List.mem_filter.mp this).1
theorem tL:∀ {bs:List (List Tr)} {i:Nat} {b:List Tr},bs[i]?=some b->((bs.take (i+1)).map cnts).sum=((bs.take i).map cnts).sum+cnts b/\((bs.take i).map cnts).sum+cnts b<=(bs.map cnts).sum
 | x::bs,0,b,h=>by
  cases (show some x=some b from h)
  simp
 | x::bs,i+1,b,h=>by
  obtain ⟨a,c⟩:=tL (bs:=bs) (i:=i) h
  simp only [List.take_succ_cons,List.map_cons,List.sum_cons,a]
  omega
mutual
noncomputable def jy:Bool->Tr->Prop
 | _,.set _ _ e=>e.dos
 | _,.tell _ e=>e.dos
 | du,.give _ e=>du=true/\e.dos
 | du,.iff _ e b o=>e.dos/\okTs du b/\okTs du o
 | du,.whl _ e b=>e.dos/\okTs du b
 | _,.df _ _ _ _ b=>okTs true b
 | _,.kd _ _ _=>True
noncomputable def okTs:Bool->List Tr->Prop
 | _,[]=>True
 | du,t::ts=>jy du t/\okTs du ts
end
theorem tM {du:Bool}:∀ {ts:List Tr} {t:Tr},okTs du ts->t∈ts->jy du t
 | u::ts,t,a,h=>by
  rcases Qu h with z | z
  ·subst z;exact a.1
  ·exact tM a.2 z
theorem Bx {du:Bool} {t:Tr} {e:Ex} (h:jy du t) (q:t.ex=some e):e.dos/\(nV t=true->du=true)/\∀ b∈t.blocks,okTs du b:=by
 cases t with
 | set r n e=>cases q;exact ⟨h,fun z=>(by cases z),fun b z=>by simp [Tr.blocks] at z⟩
 | tell r e=>cases q;exact ⟨h,fun z=>(by cases z),fun b z=>by simp [Tr.blocks] at z⟩
 | give r e=>cases q;exact ⟨h.2,fun _=>h.1,fun b z=>by simp [Tr.blocks] at z⟩
 | iff r e b o =>
  cases q
  refine ⟨h.1,fun z=>(by cases z),fun x z=>?_⟩
  simp [Tr.blocks] at z
  rcases z with rfl | rfl
  ·exact h.2.1
  ·exact h.2.2
 | whl r e b =>
  cases q
  refine ⟨h.1,fun z=>(by cases z),fun x z=>?_⟩
  simp [Tr.blocks] at z
  subst z
  exact h.2
 | _=>cases q
noncomputable def ik (C:Addr) (k:Nat):Sp:=fun vs H Q _=>∃ (o dx d2 d3 l:Addr) (F:List (List ae × V)) (tt:List Tr) (n:Nat) (xs:List V) (ts:List Tr) (du:Kd) (fs:cV),vs=[.ref o,.ref l,.ref d3,cw du]/\H l=some (.lst xs)/\LAt H true xs ts/\deeps ts<k/\ascs ts/\okTs du.isSome ts /\
 aW H C o dx d2 F fs.2/\dJ H F tt/\cv H d3 fs.1 n/\fs.2.length+3*cnts ts<800/\n+cnts ts+20<800/\∀ H',dA d3 H H'->aW H' C o dx d2 F (kfTs tt du ts fs).2->cv H' d3 (kfTs tt du ts fs).1 (n+cnts ts)->Q .non H'
noncomputable def By (C:Addr) (k:Nat):Sp:=fun vs H Q _=>∃ (o dx d2:Addr) (F:List (List ae × V)) (tt:List Tr) (v:V) (r:Nat) (z kd:Str) (ps:List (Str × Str)) (b:List Tr) (fs:List (List ae)),vs=[.ref o,.int 1,v]/\bn H true v (.df r z kd ps b)/\ps.length<=20/\deeps b<k/\ascs b/\okTs true b /\
 aW H C o dx d2 F fs/\dJ H F tt/\fs.length+2+3*cnts b<800/\cnts b+40<800/\∀ H',bh H H'->aW H' C o dx d2 F (kfTs tt (some kd) b (fV ps,dP r b fs)).2->Q .non H'
theorem Bz {H:Hp} {C o dx d2:Addr} {F:List (List ae × V)} {fs:List (List ae)} {b:List Tr} {m r:Nat} {Z:Hp->Prop} (hm:m=1 ^^^ (1 &&& dL b)) (k:∀ H',bh H H'->aW H' C o dx d2 F (dP r b fs)->Z H') :
  (m=0/\∀ H',bh H H'->aW H' C o dx d2 F fs->Z H')∨(m=1/\∀ H',bh H H'->aW H' C o dx d2 F (bI fs (kk r "give"))->Z H'):=by
 rcases sU b with hg | hg
 ·refine .inr ⟨by rw [hm,hg];rfl,fun H1 l1 hk1=>k H1 l1 ?_⟩
  unfold dP;rw [if_pos hg];exact hk1
 ·refine .inl ⟨by rw [hm,hg];rfl,fun H1 l1 hk1=>k H1 l1 ?_⟩
  unfold dP;rw [if_neg (by omega)];exact hk1
noncomputable abbrev tN:List Str:=["self","mask","one"]
theorem tO:ba tN ["self","mask","one"] (aK kZ):=⟨rfl,rfl,rfl,by decide +kernel,rfl,by decide +kernel,by decide +kernel⟩
theorem BA (T:All P w K mg AA DD) (k:Nat) (GY:aE P w K mg base aI (2*k+28) AA.Zb DD.Zb ["self","statements","names","due"] (ik AA.c_KindLook k)) :
  aE P w K mg base aI (2*k+29) AA.Zd DD.Zd ["self","mask","one"] (By AA.c_KindLook k):=by
 have GO:=jv (base:=base) T
 have GN:=jq (base:=base) T
 have GGV:=A2 (base:=base) T
 refine T.F_Zd.ok tO (fun vs H Q E h=>?_) (fun cdv A outer s H vs Q E hr h=>?_)
 ·obtain ⟨o,dx,d2,F,tt,v,r,z,kd,ps,b,fs,rfl,_⟩:=h
  rfl
 ·obtain ⟨o,dx,d2,F,tt,v,r,z,kd,ps,b,fs,rfl,hS,hps,hd,ha,hok,hk,hF,hf,hc,kq⟩:=h
  have nd:=tO.nd
  have hrB:aA (2*k+28) _:=hr
  have hr2:aA 2 _:=hrB.mono (by omega)
  have hr1:aA 1 _:=hrB.mono (by omega)
  obtain ⟨t0,vp,lb,zs,ev,ht0,hp,hlb,hLb⟩:=rM hS
  subst ev
  refine ⟨_,(av (bX (cn (pv 0) T.cl_KindLook T.M_Zm GO hr2 T.b_Zm .nil aB (aa (aN GN hr1 rfl T.m_ZK T.k_ZK T.b_ZK .nil aB (aa (pv 1) (aa (aN GGV hr2 rfl T.m_ZO T.k_ZO T.b_ZO .nil aB (aa (au (aH (K:=K) rfl) (pv 2) ai (fun _ _=>rfl)) ag)) ag))) (aa (au (aH (K:=K) rfl) (pv 2) ai (fun _ _=>rfl)) (aa aD ag)))) (by rfl)) (aq (bX (cn (pv 0) T.cl_KindLook T.M_Zb GY hrB T.b_Zb .nil aB (aa (au (aH (K:=K) rfl) (pv 2) ai (fun _ _=>rfl)) (aa (eY (mz true rfl) rfl T.n_dict mx (aa (gm (xs:=["name","kind"]) (aK kZ) tN ["mask"] [1] rfl (by exact ⟨rfl,rfl,by decide +kernel,by decide +kernel,by decide +kernel,by decide +kernel,by decide +kernel,rfl,by decide +kernel⟩) rfl rfl (iM (au (aH (K:=K) rfl) (pv 2) ai (fun _ _=>rfl))) (fun _ _ _ _=>(fk (K:=K) (n:=2) rfl rfl (a8 (aT (i:=0) (show (["name","kind","mask"]:List Str).Nodup by decide +kernel) rfl (Or.inl rfl)) (a8 (aT (i:=1) (show (["name","kind","mask"]:List Str).Nodup by decide +kernel) rfl (Or.inl rfl)) cg)))) (fun _ _ _ _=>d4) (fun _ _ _ _=>(aV (aa (pv 0) (aa (bB (aa (aV (aa (pv 2) (aa (pv 1) ag))) ag)) ag))))) ag)) (aa (au (aH (K:=K) rfl) (pv 2) ai (fun _ _=>rfl)) ag)))) (by rfl)))),?_⟩
  obtain ⟨d1,hi,_⟩:=hk.ins
  refine ⟨_,rfl,o,dx,_,rfl,hi,rfl,_,rfl,_,rfl,t0,_,_,_,rfl,rfl,ah.of ht0,ap (j:=5) rfl,?_⟩
  refine ⟨lb,zs,b,rfl,hlb,hLb,1,dL b,rfl,?_⟩
  refine ⟨_,rfl,t0,_,_,_,rfl,rfl,ah.of ht0,ap (j:=1) rfl,?_⟩
  have hgl:=tI r b fs
  refine ⟨o,dx,d2,F,fs,1 ^^^ (1 &&& dL b),r,"give",rfl,hk,by omega,Bz rfl fun H1 l1 hk1=>?_⟩
  dsimp only [aX]
  obtain ⟨tp,us,rfl,htp,hul,huat⟩:=hp.kept l1.ls
  obtain ⟨d1',hi1,_⟩:=hk1.ins
  have ht1:=l1.ls.1 _ _ ht0
  have hlb1:=l1.ls.2 _ _ hlb
  have hLb1:=hLb.kept l1.ls
  refine ⟨_,rfl,o,dx,_,rfl,hi1,rfl,_,rfl,t0,_,_,_,rfl,rfl,ah.of ht1,ap (j:=5) rfl,?_⟩
  refine ⟨_,rfl,t0,_,_,_,rfl,rfl,ah.of ht1,ap (j:=4) rfl,tp,rfl,⟨_,ah.of htp⟩,?_⟩
  refine Bq (K:=K) (a:=tp) (xs:=us.map V.ref) (fun i ys H'=>Same H1 H'/\i<=us.length/\∃ (ts:List Addr) (pv:List (ae × V)),ys=ts.map V.ref/\ts.length=i/\pv.length=i/\(∀ (j:Nat) (t:Addr) (p:ae × V),ts[j]?=some t->pv[j]?=some p->H' t=some (.tup [kV p.1,p.2]))/\∀ (j:Nat) (p:ae × V) (q:Str × Str),pv[j]?=some p->ps[j]?=some q->∃ l,p=(.inr q.1,.ref l)/\KL H' l [some q.2])
   ⟨Same.refl _,Qr _,[],[],rfl,rfl,rfl,fun j t p h=>by simp at h,fun j p q h=>by simp at h⟩ (fun i ys H' _ h=>ah.of (h.1 _ _ htp)) ?_ ?_
  ·rintro i x ys H2 hx ⟨s2,hi2,ts,pv,rfl,htl,hpl,hat,hpat⟩
   have hix:i<us.length:=by
    have:=(Qc hx).1
    rw [Qf] at this;exact this
   have ex:x=V.ref us[i]:=by rw [Qk,Qb hix] at hx;exact (Qo hx).symm
   subst ex
   have hip:i<ps.length:=by omega
   have hu2:=s2 _ _ (huat i us[i] ps[i] (Qb hix) (Qb hip))
   intro os hos
   obtain ⟨o1,o2,rfl⟩:∃ a b,os=[a,b]:=by
    match os,hos with
    | [a,b],_=>exact ⟨a,b,rfl⟩
   refine ⟨us[i],_,rfl,ah.of hu2,rfl,_,_,rfl,_,_,rfl,rfl,⟨[_,_],rfl,rfl⟩,?_⟩
   refine dZ ?_
   rw [if_pos rfl]
   refine ⟨_,rfl,_,rfl,_,rfl,(by show 2<=sizeLine;decide),fun q1 hq1=>⟨(by show 1<=sizeLine;decide),fun q2 hq2=>⟨(by show 2<=sizeLine;decide),fun q3 hq3=>?_⟩⟩⟩
   have s3:=ao (o:=.tup [.int 1,.str ps[i].2]) hq1
   have s4:=ao (o:=.lst [.ref q1]) hq2
   have s5:=ao (o:=.tup [.str ps[i].1,.ref q2]) hq3
   have s345:=(s3.trans s4).trans s5
   refine ⟨by rw [Qf];exact cr (by omega),s2.trans s345,by omega,ts++[q3],pv++[(.inr ps[i].1,.ref q2)],by simp,by simp [htl],by simp [hpl],fun j t p h1 h2=>?_,fun j p q h1 h2=>?_⟩
   ·by_cases hj:j<i
    ·rw [Qw (by omega)] at h1 h2
     exact s345 _ _ (hat j t p h1 h2)
    ·have hj0:j=i:=by have:=(Qc h1).1;simp at this;omega
     subst hj0
     rw [Qq (by omega)] at h1 h2
     have e1:t=q3:=by simpa [htl] using h1.symm
     have e2:p=(.inr ps[j].1,.ref q2):=by simpa [hpl] using h2.symm
     subst e1 e2
     exact aj
   ·by_cases hj:j<i
    ·rw [Qw (by omega)] at h1
     obtain ⟨l,e,hK⟩:=hpat j p q h1 h2
     exact ⟨l,e,hK.same s345⟩
    ·have hj0:j=i:=by have:=(Qc h1).1;simp at this;omega
     subst hj0
     rw [Qq (by omega)] at h1
     have e2:p=(.inr ps[j].1,.ref q2):=by simpa [hpl] using h1.symm
     rw [Qb hip] at h2
     have e3:=Qo h2
     subst e2 e3
     refine ⟨q2,rfl,[q1],s5 _ _ aj,rfl,fun i t k x y=>?_⟩
     match i with
     | 0=>cases (show some q1=some t from x);cases (show some (V.str ps[j].2)=some k from y);exact s5 _ _ (s4 _ _ aj)
     | i+1=>simp at x
  ·rintro ys H2 ⟨s2,_,ts,pv,rfl,htl,hpl,hat,hpat⟩ q hq
   rw [Qf] at htl hpl
   have sq:=ao (o:=.lst (ts.map V.ref)) hq
   refine ⟨q,ts,pv,rfl,aj,by omega,fun j t p h1 h2=>sq _ _ (hat j t p h1 h2),fun d3 hd3=>?_⟩
   have s3:=(s2.trans sq).trans (ao (o:=.dK (dy pv)) hd3)
   have lk3:=bv s3
   have hd1:H1 d3=none:=Same.free (s2.trans sq) hd3
   have s4:=sq.trans (ao (o:=.dK (dy pv)) hd3)
   refine ⟨_,rfl,t0,_,_,_,rfl,rfl,ah.of (s3 _ _ ht1),ap (j:=3) rfl,?_⟩
   refine ⟨o,dx,d2,d3,lb,F,tt,ps.length,zs,b,some kd,(fV ps,dP r b fs),rfl,s3 _ _ hlb1,hLb1.kept s3.ls,hd,ha,hok,hk1.same s3,(hF.kept l1.ls).kept s3.ls,⟨⟨dy pv,aj,?_,?_⟩⟩,by show (dP r b fs).length+3*cnts b<800;omega,by omega,fun H4 l4 hk4 _=>?_⟩
   ·have:=my pv;omega
   ·exact Br pv ps (by omega) fun i p q h1 h2=>by obtain ⟨l,e,hK⟩:=hpat i p q h1 h2;exact ⟨l,e,hK.same s4⟩
   ·exact kq H4 (l1.trans ⟨lk3.ls.trans l4.ls,fun a kv h=>l4.dk _ _ (fun z=>by rw [z,hd1] at h;cases h) (lk3.dk _ _ h)⟩) hk4
noncomputable abbrev BB:List Str:=["self","statements","names","due","mask","one","block"]
theorem nW:ba BB ["self","statements","names","due"] (aK nv):=⟨rfl,rfl,rfl,by decide +kernel,rfl,by decide +kernel,by decide +kernel⟩
theorem BC (T:All P w K mg AA DD) (k:Nat) (GY:aE P w K mg base aI (2*k+28) AA.Zb DD.Zb ["self","statements","names","due"] (ik AA.c_KindLook k)) :
  aE P w K mg base aI (2*(k+1)+28) AA.Zb DD.Zb ["self","statements","names","due"] (ik AA.c_KindLook (k+1)):=by
 have GKO:=ll (base:=base) T 8
 have GLR:=Bp (base:=base) T
 have GX:=AD (base:=base) T
 have GK:=AF (base:=base) T
 have GLD:=BA (base:=base) T k GY
 refine T.F_Zb.ok nW (fun vs H Q E h=>?_) (fun cdv A outer s H vs Q E hr h=>?_)
 ·obtain ⟨o,dx,d2,d3,l,F,tt,n,xs,ts,du,fs,rfl,_⟩:=h
  rfl
 ·obtain ⟨o,dx,d2,d3,l,F,tt,n,xs,ts,du,fs,rfl,hl,hL,hd,ha,hg,hk,hF,hnm,hf,hn8,kq⟩:=h
  have nd:=nW.nd
  have hrL:aA (2*k+29) _:=hr
  have hrB:aA (2*k+28) _:=hrL.mono (by omega)
  have hrK:aA (3*8+3) _:=hrB.mono (by omega)
  have hr4:aA 4 _:=hrB.mono (by omega)
  have hr1:aA 1 _:=hrB.mono (by omega)
  refine ⟨_,(aq (cO PassesOwn.never rfl (ci (pv 1)) (dt rfl (a8 (aT (i:=4) nd rfl (Or.inl rfl)) (a8 (aT (i:=5) nd rfl (Or.inl rfl)) cg))) (aq (be (aY bE (au (aH (K:=K) rfl) (pv 5) ai (fun _ _=>rfl)) aD (a6 _)) (aq (bX (cn (pv 0) T.cl_KindLook T.M_Zd GLD hrL T.b_Zd .nil aB (aa (pv 4) (aa (pv 5) ag))) (by rfl))) (aq (be (aY eI (au (aH (K:=K) rfl) (pv 5) ai (fun _ _=>rfl)) aD (a6 _)) (av (bX (cn (pv 0) T.cl_KindLook T.M_Ze GLR hr4 T.b_Ze .nil aB (aa (pv 5) (aa (cn (pv 0) T.cl_KindLook T.M_Zg GKO hrK T.b_Zg .nil aB (aa (pv 4) (aa (aN GX hr1 rfl T.m_ZL T.k_ZL T.b_ZL .nil aB (aa (pv 5) ag)) (aa (au (aH (K:=K) rfl) (pv 5) ai (fun _ _=>rfl)) (aa (pv 2) ag))))) (aa (pv 2) (aa (pv 3) ag))))) (by rfl)) (aq (cO PassesOwn.never rfl (ci (aN GK hr1 rfl T.m_Zy T.k_Zy T.b_Zy .nil aB (aa (pv 5) ag))) (aT (i:=6) nd rfl (Or.inl rfl)) (aq (bX (cn (pv 0) T.cl_KindLook T.M_Zb GY hrB T.b_Zb .nil aB (aa (pv 6) (aa (pv 2) (aa (pv 3) ag)))) (by rfl))) (by intro _;rfl)))) bo)))) (by intro _;rfl))),?_⟩
  refine ⟨_,rfl,l,rfl,⟨_,am.of hl⟩,?_⟩
  have hxl:=hL.length
  refine dW (K:=K) (a:=l) (xs:=xs) (fun i σ' H'=>dA d3 H H'/\(∃ x4 x5 x6,σ'=[some (.ref o),some (.ref l),some (.ref d3),some (cw du),x4,x5,x6])/\aW H' AA.c_KindLook o dx d2 F (kfTs tt du (ts.take i) fs).2/\cv H' d3 (kfTs tt du (ts.take i) fs).1 (n+cnts (ts.take i))) ⟨dA.refl _ _,⟨_,_,_,rfl⟩,by simpa [kfTs] using hk,by simpa [kfTs,cnts] using hnm⟩ (fun i σ' H' _ h=>am.of (h.1.ls.2 _ _ hl)) ?_ ?_
  ·rintro i x σ' H1 hx ⟨l1,⟨x4,x5,x6,rfl⟩,hk1,hn1⟩
   obtain ⟨t,ht,hO⟩:=hL.get hx
   have hO1:=hO.kept l1.ls
   have hF1:=hF.kept l1.ls
   have hm:t∈ts:=QD ht
   have hta:=ky ha hm
   have htg:=tM hg hm
   have hdm:=ku hm
   obtain ⟨ft,hnf⟩:=tK ht
   have hq:=kfTs_len tt du (ts.take i) fs
   obtain ⟨hi',et⟩:=Qc ht
   have etk:kfTs tt du (ts.take (i+1)) fs=bJ tt du t (kfTs tt du (ts.take i) fs):=by
    rw [Qn hi',et,jx];rfl
   rw [etk,ft]
   generalize kfTs tt du (ts.take i) fs=gs at hk1 hq hn1
   generalize hnn:n+cnts (ts.take i)=m at hn1
   rw [show n+(cnts (ts.take i)+t.cnt)=m+t.cnt by omega]
   cases hO1 with
   | plain e _=>cases e
   | @shared p y _ _ hp hS =>
   have hS0:=hS
   cases hS with
   | @mk t0 vs _ ht0 hps =>
   obtain ⟨vr,rfl⟩:=lf hps
   obtain ⟨d1,hi,_⟩:=hk1.ins
   refine ⟨p,_,rfl,ah.of hp,rfl,_,_,rfl,_,_,rfl,rfl,?_⟩
   refine ⟨_,rfl,t0,_,_,_,rfl,rfl,ah.of ht0,ap (j:=0) rfl,rfl,_,rfl,?_⟩
   cases hex:t.ex with
   | none =>
    cases t with
    | df r z kd ps b =>
     refine bg (Qp rfl) ?_
     have hb:deeps b<=(Tr.df r z kd ps b).deep:=jg (by simp [Tr.parts])
     have hcn:(Tr.df r z kd ps b).cnt=1+cnts b:=by simp [Tr.cnt]
     refine ⟨_,rfl,o,dx,_,rfl,hi,rfl,_,rfl,_,rfl,o,dx,d2,F,tt,.ref t0,r,z,kd,ps,b,gs.2,rfl,hS0,hta.1,by omega,hta.2.2,htg,hk1,hF1,by omega,by omega,fun H2 l2 hk2=>?_⟩
     refine ⟨l1.trans l2.d,⟨_,_,_,rfl⟩,?_,?_⟩
     ·rw [bJ];exact hk2
     ·rw [bJ];exact (hn1.kept l2).mono (by omega)
    | kd r z ps =>
     refine aM (Qi (by intro q;injection q with q;exact absurd q (by simp only [Tr.kw];decide +kernel))) ?_
     refine ⟨_,rfl,t0,_,_,_,rfl,rfl,ah.of ht0,ap (j:=0) rfl,rfl,_,rfl,?_⟩
     refine aM (by
      show (!decide (V.str "kind"=V.str "kind"))=false
      rw [Qp rfl];rfl) ?_
     refine ⟨l1,⟨_,_,_,rfl⟩,?_,?_⟩
     ·rw [bJ];exact hk1
     ·rw [bJ];exact hn1.mono (by omega)
    | _=>cases hex
   | some ee =>
   refine aM (Qi fun z=>(sv hex).1 (by injection z)) ?_
   refine ⟨_,rfl,t0,_,_,_,rfl,rfl,ah.of ht0,ap (j:=0) rfl,rfl,_,rfl,?_⟩
   refine bg (by
    show (!decide (V.str t.kw=V.str "kind"))=true
    rw [Qi fun z=>(sv hex).2 (by injection z)];rfl) ?_
   obtain ⟨hdos,hgiv,hblk⟩:=Bx htg hex
   have hfit:=Bv hta hex
   have hcb:=Az t
   refine ⟨_,rfl,o,dx,_,rfl,hi,rfl,_,rfl,_,rfl,o,dx,_,rfl,hi,rfl,_,rfl,?_⟩
   refine ⟨_,rfl,.ref t0,t,ee,rfl,hS0,hex,fun x hx=>?_⟩
   have hb1:=nO gs.2 (kk t.row "kind")
   have hb2:=tH tt gs.1 t.row ee gs.2
   refine ⟨_,rfl,t0,_,_,_,rfl,rfl,ah.of ht0,ap (j:=1) rfl,_,rfl,o,dx,d2,F,tt,gs.2,x,d3,gs.1,_,ee,t.row,rfl,hx,hdos,hn1,hF1,hfit.2,hk1,⟨gs.2,.refl _ _,by omega⟩,fun p2 H2 l2 hk2 hK2=>?_⟩
   refine ⟨_,rfl,_,rfl,o,dx,d2,d3,p2,F,aP tt gs.1 t.row ee gs.2,gs.1,_,.ref t0,t,aL tt gs.1 ee,du,ee,rfl,hS0.kept l2.ls,hex,fun z=>?_,hK2,hk2,hn1.kept l2,by omega,by omega,fun H3 l3 hk3 hn3=>?_⟩
   ·have:=hgiv z
    cases du with
    | none=>cases this
    | some x=>exact fun z=>by cases z
   dsimp only
   refine ⟨_,rfl,.ref t0,t,rfl,(hS0.kept l2.ls).kept l3.ls,fun pb ys H4 s4 hpb hys=>⟨pb,rfl,⟨_,am.of hpb⟩,?_⟩⟩
   have hk4:aW H4 AA.c_KindLook o dx d2 F (cy tt du t ee gs).2:=hk3.same s4
   have hn4:cv H4 d3 (cy tt du t ee gs).1 (m+1):=hn3.kept (bv s4)
   have l4:=(l1.trans l2.d).trans (l3.trans (bv s4).d)
   have hF4:=hF.kept l4.ls
   have hyl:=hys.length
   rw [Qf] at hyl
   have hrl:=ij tt du t ee gs
   refine dW (K:=K) (a:=pb) (xs:=ys) (fun j σ' H'=>dA d3 H4 H'/\(∃ x6,σ'=[some (.ref o),some (.ref l),some (.ref d3),some (cw du),some (.int 1),some (.ref t0),x6])/\aW H' AA.c_KindLook o dx d2 F ((t.blocks.take j).foldl (fun gs b=>kfTs tt du b gs) (cy tt du t ee gs)).2/\cv H' d3 ((t.blocks.take j).foldl (fun gs b=>kfTs tt du b gs) (cy tt du t ee gs)).1 (m+1+((t.blocks.take j).map cnts).sum)) ⟨dA.refl _ _,⟨_,rfl⟩,by simpa using hk4,by simpa using hn4⟩ (fun j σ' H' _ h=>am.of (h.1.ls.2 _ _ hpb)) ?_ ?_
   ·rintro j v σ' H5 hv ⟨l5,⟨x6',rfl⟩,hk5,hn5'⟩
    obtain ⟨pp,hpp,hPP⟩:=hys.get hv
    rw [Qk] at hpp
    obtain ⟨bs,hbs,rfl⟩:=Option.map_eq_some_iff.mp hpp
    have hbm:=QD hbs
    obtain ⟨fb,hn5⟩:=tL hbs
    have hPP:=hPP.kept l5.ls
    cases hPP with
    | @b lb zs _ hlb hLb =>
    obtain ⟨d1,hi5,_⟩:=hk5.ins
    have hq5:=tJ tt du (t.blocks.take j) (cy tt du t ee gs)
    obtain ⟨hj',ej⟩:=Qc hbs
    rw [show (t.blocks.take (j+1)).foldl (fun gs b=>kfTs tt du b gs) (cy tt du t ee gs)=kfTs tt du bs ((t.blocks.take j).foldl (fun gs b=>kfTs tt du b gs) (cy tt du t ee gs)) from (by rw [Qn hj',ej,List.foldl_append];rfl),fb]
    generalize (t.blocks.take j).foldl (fun gs b=>kfTs tt du b gs) (cy tt du t ee gs)=q5 at hk5 hq5 hn5'
    have hpt:=Bw hbm
    have hdb:=jg hpt
    refine ⟨_,rfl,o,dx,_,rfl,hi5,rfl,_,rfl,_,rfl,_,rfl,o,dx,d2,d3,lb,F,tt,_,zs,bs,du,q5,rfl,hlb,hLb,by omega,(jh hta hpt).2,hblk _ hbm,hk5,hF4.kept l5.ls,hn5',by omega,by omega,fun H' ls hk' hn'=>⟨l5.trans ls,⟨_,rfl⟩,hk',hn'.mono (by omega)⟩⟩
   ·rintro σ' H5 ⟨l5,⟨x6',rfl⟩,hk5,hn5'⟩
    rw [QB (by omega),<- Bs tt du t hex] at hk5 hn5'
    exact ⟨l4.trans l5,⟨_,_,_,rfl⟩,hk5,hn5'.mono (by omega)⟩
  ·rintro σ' H1 ⟨l1,⟨x4,x5,x6,rfl⟩,hk1,hn1⟩
   rw [QB (by omega)] at hk1 hn1
   exact kq _ l1 hk1 hn1
theorem BD (T:All P w K mg AA DD):aE P w K mg base aI (2*0+28) AA.Zb DD.Zb ["self","statements","names","due"] (ik AA.c_KindLook 0):=by
 have no:∀ vs H Q E,¬ ik AA.c_KindLook 0 vs H Q E:=fun vs H Q E h=>by
  obtain ⟨o,dx,d2,d3,l,F,tt,n,xs,ts,du,fs,_,_,_,z,_⟩:=h
  omega
 exact T.F_Zb.ok nW (fun vs H Q E h=>(no _ _ _ _ h).elim) (fun cdv A outer s H vs Q E hr h=>(no _ _ _ _ h).elim)
theorem tP (T:All P w K mg AA DD):∀ k:Nat,aE P w K mg base aI (2*k+28) AA.Zb DD.Zb ["self","statements","names","due"] (ik AA.c_KindLook k)
 | 0=>BD T
 | k+1=>BC T k (tP T k)
end
section
variable {P:Program} {w:World} {K:W.Frag} {mg:Str->Option Value} {base:Heap} {AA:bG} {DD:bH}
noncomputable def BE (C:Addr):Sp:=fun vs H Q _=>∃ (o dx l:Addr) (xs:List V) (ts:List Tr),vs=[.ref o,.ref l]/\H o=some (.ins C dx [])/\H l=some (.lst xs)/\LAt H true xs ts/\ts.length<=50/\∀ d2 F H',bC H H'->aW H' C o dx d2 F []->dJ H' F ts->Q .non H'
noncomputable abbrev BF:List Str:=["self","tree"]
theorem tQ:ba BF ["self","tree"] (aK nr):=⟨rfl,rfl,rfl,by decide +kernel,rfl,by decide +kernel,by decide +kernel⟩
theorem BG (T:All P w K mg AA DD):aE P w K mg base aI 3 AA.Zl DD.Zl ["self","tree"] (BE AA.c_KindLook):=by
 have GA:=AV (base:=base) T
 refine T.F_Zl.ok tQ (fun vs H Q E h=>?_) (fun cdv A outer s H vs Q E hr h=>?_)
 ·obtain ⟨o,dx,l,xs,ts,rfl,_⟩:=h
  rfl
 ·obtain ⟨o,dx,l,xs,ts,rfl,ho,hl,hL,h50,kq⟩:=h
  have nd:=tQ.nd
  have hr2:aA 2 _:=hr
  refine ⟨_,(av (pc (pv 0) (aN GA hr2 rfl T.m_Zu T.k_Zu T.b_Zu .nil aB (aa (pv 1) ag)) rfl) (aq (pc (pv 0) (qu) rfl))),?_⟩
  refine ⟨_,rfl,l,xs,ts,rfl,hl,hL,h50,fun d1 F H1 s1 hd1 hF=>?_⟩
  have ho1:=s1 _ _ ho
  refine ⟨_,rfl,o,AA.c_KindLook,dx,_,rfl,ho1,T.cl_KindLook,T.na_KindLook_firsts,(by show 0<1000;decide),?_⟩
  refine fun d2 hd2=>?_
  have s3:=ao (o:=.dT []) hd2
  refine ⟨_,rfl,o,AA.c_KindLook,dx,_,rfl,s3 _ _ aj,T.cl_KindLook,T.na_KindLook_faults,(by show 1<1000;decide),?_⟩
  have b1:=jp (ob':=.ins AA.c_KindLook dx [("firsts",.ref d1)]) ho1 (fun _ z=>nomatch z) (fun _ z=>nomatch z) fun _ _ z=>nomatch z
  have h3:=s3 _ _ (aj (H:=H1) (a:=o) (o:=.ins AA.c_KindLook dx [("firsts",.ref d1)]))
  have b2:=jp (ob':=.ins AA.c_KindLook dx [("firsts",.ref d1),("faults",.ref d2)]) h3 (fun _ z=>nomatch z) (fun _ z=>nomatch z) fun _ _ z=>nomatch z
  have hne:d2≠o:=fun z=>by rw [z,aj] at hd2;cases hd2
  have hne1:d1≠o:=fun z=>by rw [z,ho1] at hd1;cases hd1
  have hd12:af H1 o (.ins AA.c_KindLook dx [("firsts",.ref d1)]) d1=some (.dT F):=by rw [ar hne1];exact hd1
  have hne2:d1≠d2:=fun z=>by rw [<- z] at hd2;exact absurd (hd12.symm.trans hd2) (fun z=>by cases z)
  refine kq d2 F _ (((s1.ls.trans b1).trans s3.ls).trans b2) ⟨⟨d1,aj,?_,hne2⟩,?_⟩ (((hF.kept b1).kept s3.ls).kept b2)
  ·rw [ar hne1];exact s3 _ _ hd12
  ·rw [ar hne,aj];rfl
theorem nX {fs:List (List ae)} {c k:List ae} (h:k∈bI fs c):k∈fs∨k=c:=by
 unfold bI at h
 split at h
 ·exact .inl h
 ·rcases Qy h with h | h
  ·exact .inl h
  ·exact .inr (by simpa using h)
theorem BH {tt:List Tr} {ρ:Env} {r:Nat} {e:Ex} {fs:List (List ae)} {k:List ae} (h:k∈aP tt ρ r e fs):k∈fs∨∃ r z,k=kk r z:=by
 obtain ⟨us,e,_,hu⟩:=d8 tt ρ r e fs
 rw [e] at h
 rcases Qy h with h | h
 ·exact .inl h
 ·rcases (hu k h).2 with q | q
  ·exact .inr ⟨_,_,q⟩
  ·exact .inr ⟨_,_,q⟩
theorem BJ {t:Tr} {o:Option Kd} {ρ:Env} {du:Kd} {fs:List (List ae)} {k:List ae} (h:k∈d9 t o ρ du fs):k∈fs∨∃ r z,k=kk r z:=by
 have ad:∀ r z,k∈bI fs (kk r z)->k∈fs∨∃ r z,k=kk r z:=fun r z h=>(nX h).imp_right fun q=>⟨_,_,q⟩
 have tr:∀ r w d,k∈dB r o w d fs->k∈fs∨∃ r z,k=kk r z:=fun r w d h=>by
  unfold dB at h
  split at h
  ·exact .inl h
  ·exact ad _ _ h
 unfold d9 at h
 split at h
 ·unfold fw at h
  split at h
  ·unfold bP at h
   split at h
   ·exact .inl h
   ·exact ad _ _ h
  ·exact .inl h
 ·unfold eR at h
  split at h
  ·exact ad _ _ h
  ·exact .inl h
 ·exact tr _ _ _ h
 ·exact tr _ _ _ h
theorem jz {tt:List Tr} {du:Kd} {t:Tr} {e:Ex} {s:cV} {k:List ae} (h:k∈(cy tt du t e s).2):k∈s.2∨∃ r z,k=kk r z:=by
 rcases BJ (show k∈d9 t (aL tt s.1 e) s.1 du (aP tt s.1 t.row e s.2) from h) with h | h
 ·exact BH h
 ·exact .inr h
mutual
theorem BK (tt:List Tr):∀ (du:Kd) (t:Tr) (fs:cV) (k:List ae),k∈(bJ tt du t fs).2->k∈fs.2∨∃ r z,k=kk r z
 | du,.set r n e,fs,k,h=>jz (t:=.set r n e) (by simpa [bJ] using h)
 | du,.tell r e,fs,k,h=>jz (t:=.tell r e) (by simpa [bJ] using h)
 | du,.give r e,fs,k,h=>jz (t:=.give r e) (by simpa [bJ] using h)
 | du,.iff r e b o,fs,k,h=>by
  rw [bJ] at h
  rcases kfTs_keys tt du o _ k h with h | h
  ·rcases kfTs_keys tt du b _ k h with h | h
   ·exact jz h
   ·exact .inr h
  ·exact .inr h
 | du,.whl r e b,fs,k,h=>by
  rw [bJ] at h
  rcases kfTs_keys tt du b _ k h with h | h
  ·exact jz h
  ·exact .inr h
 | du,.df r n kd ps b,fs,k,h=>by
  rw [bJ] at h
  rcases kfTs_keys tt (some kd) b _ k h with h | h
  ·have h:k∈dP r b fs.2:=h
   unfold dP at h
   split at h
   ·exact (nX h).imp_right fun q=>⟨_,_,q⟩
   ·exact .inl h
  ·exact .inr h
 | du,.kd r n ps,fs,k,h=>.inl (by simpa [bJ] using h)
theorem kfTs_keys (tt:List Tr):∀ (du:Kd) (ts:List Tr) (fs:cV) (k:List ae),k∈(kfTs tt du ts fs).2->k∈fs.2∨∃ r z,k=kk r z
 | du,[],fs,k,h=>.inl (by simpa [kfTs] using h)
 | du,t::ts,fs,k,h=>by
  rw [kfTs] at h
  rcases kfTs_keys tt du ts _ k h with h | h
  ·exact BK tt du t fs k h
  ·exact .inr h
end
noncomputable def fK (ts:List Tr):List (List ae):=(kfTs ts none ts (env0,[])).2
theorem tR {ts:List Tr} {k:List ae} (h:k∈fK ts):∃ r z,k=kk r z:=by
 rcases kfTs_keys ts none ts (env0,[]) k h with z | q
 ·simp at z
 ·exact q
theorem tS (ts:List Tr):∀ k∈fK ts,k.map b9=[true,false]:=fun k hk=>by
 obtain ⟨r,z,rfl⟩:=tR hk
 rfl
noncomputable def nY (ts:List Tr):Prop:=deeps ts<4/\ts.length<=20/\ascs ts/\okTs false ts/\cnts ts<250
noncomputable def BL:Sp:=fun vs H Q _=>∃ (l:Addr) (xs:List V) (ts:List Tr),vs=[.ref l,.int 1]/\H l=some (.lst xs)/\LAt H true xs ts/\nY ts/\(fK ts).length<64 /\
 ∀ p ys H',bC H H'->H' p=some (.lst ys)->bQ H' ys ((bu (fK ts)).map fun k=>.inl 1::k)->Q (.ref p) H'
noncomputable abbrev BM:List Str:=["tree","mask","kept","look"]
theorem tT:ba BM ["tree","mask"] (aK nh):=⟨rfl,rfl,rfl,by decide +kernel,rfl,by decide +kernel,by decide +kernel⟩
theorem BN (T:All P w K mg AA DD):aE P w K mg base aI 38 AA.Zn DD.Zn ["tree","mask"] BL:=by
 have GF:=r0 (base:=base) T 6
 have GC:=BG (base:=base) T
 have GY:=tP (base:=base) T 4
 have GW:=AH (base:=base) T
 refine T.F_Zn.ok tT (fun vs H Q E h=>?_) (fun cdv A outer s H vs Q E hr h=>?_)
 ·obtain ⟨l,xs,ts,rfl,_⟩:=h
  rfl
 ·obtain ⟨l,xs,ts,rfl,hl,hL,⟨hd,h20,ha,hg,hn⟩,h64,kq⟩:=h
  have nd:=tT.nd
  have hrB:aA (2*4+28) _:=hr.mono (by omega)
  have hrF:aA 17 _:=hr.mono (by omega)
  have hr4:aA 4 _:=hr.mono (by omega)
  have hr3:aA 3 _:=hr.mono (by omega)
  have hr1:aA 1 _:=hr.mono (by omega)
  refine ⟨_,(av (@bf _ _ 2 _ _ _ _ nd rfl (Or.inl rfl) (aN GF hrF rfl T.m_Zw T.k_Zw T.b_Zw .nil aB (aa (pv 0) (aa (pv 1) ag))) (by rfl) (by first | exact .inl rfl | exact .inr rfl | assumption)) (av (@bf _ _ 3 _ _ _ _ nd rfl (Or.inl rfl) (wH T.M_KindLook GC hr4 rfl T.m_KindLook T.b_Zl .nil aB (aa (pv 2) ag)) (by rfl) (by first | exact .inl rfl | exact .inr rfl | assumption)) (av (bX (cn (pv 3) T.cl_KindLook T.M_Zb GY hrB T.b_Zb .nil aB (aa (pv 2) (aa j5 (aa jM ag)))) (by rfl)) (aq (aO (aN GW hr1 rfl T.m_Zt T.k_Zt T.b_Zt .nil aB (aa (jT (pv 3) rfl) ag))))))),?_⟩
  refine ⟨_,rfl,_,rfl,l,xs,ts,rfl,hl,hL,(by omega),h20,ha,fun p ys H1 s1 hp hys=>?_⟩
  dsimp only [aX]
  refine ⟨_,rfl,fun o dx ho hdx ne=>?_⟩
  have s2:Same H1 (af (af H1 dx (.own o)) o (.ins AA.c_KindLook dx [])):=(ao (o:=.own o) hdx).trans (ao (by rw [ar (Ne.symm ne)];exact ho))
  refine ⟨o,dx,p,ys,ts,rfl,aj,s2 _ _ hp,hys.kept s2.ls,by omega,fun d2 F H3 l3 hk3 hF3=>⟨rfl,?_⟩⟩
  have hp3:=l3.2 _ _ (s2 _ _ hp)
  have hL3:=(hys.kept s2.ls).kept l3
  obtain ⟨d1,hi3,_⟩:=hk3.ins
  dsimp only [aX]
  refine ⟨_,rfl,o,dx,_,rfl,hi3,rfl,_,rfl,fun g hg'=>?_⟩
  have s5:=ao (o:=.dK []) hg'
  refine ⟨o,dx,d2,g,p,F,ts,0,ys,ts,none,(env0,[]),rfl,s5 _ _ hp3,hL3.kept s5.ls,hd,ha,hg,hk3.same s5,hF3.kept s5.ls,⟨⟨[],aj,Qh _,fun z=>.inl ⟨rfl,rfl⟩⟩⟩,(by show 0+3*cnts ts<800;omega),by omega,fun H6 l6 hk6 _=>?_⟩
  obtain ⟨d1',hi6,_⟩:=hk6.ins
  refine ⟨_,rfl,o,AA.c_KindLook,dx,_,_,rfl,hi6,T.cl_KindLook,T.na_KindLook_faults,rfl,d2,fK ts,[true,false],rfl,hk6.flt,h64,tS ts,by simp,by simp,fun q zs H7 s7 hq hT=>kq q zs H7 ?_ hq hT⟩
  exact ((((s1.trans s2).ls.trans l3).trans s5.ls).trans l6.ls).trans s7.ls
noncomputable def tU (H:Hp) (p:Addr):Prop:=(∀ xs,H p≠some (.lst xs))/\(∀ xs,H p≠some (.tup xs))/\∀ o x,H p≠some (.frz o x)
theorem BO {H H':Hp} (l:bC H H') {p:Addr} (h:H' p=none):tU H p:=⟨fun xs z=>(by rw [l.2 _ _ z] at h;cases h),fun xs z=>(by rw [l.1 _ _ z] at h;cases h),fun o x z=>(by rw [l.z _ _ _ z] at h;cases h)⟩
noncomputable def BP:Sp:=fun vs H Q _=>∃ (l:Addr) (xs:List V) (ts:List Tr),vs=[.ref l]/\H l=some (.lst xs)/\LAt H false xs ts/\nY ts/\(fK ts).length<64 /\
 ∀ p ys H',bC H H'->H' p=some (.lst ys)->bQ H' ys (bu (fK ts))->tU H p->Q (.ref p) H'
theorem lq {fs:List (List ae)} {k:List ae} (h:k∈bu fs):k∈fs:=by
 obtain ⟨j,hj,e⟩:=QE h
 rw [<- e,Qg,Qb (nI j hj)]
 exact QJ _
noncomputable abbrev tV:List Str:=["tree"]
theorem tW:ba tV ["tree"] (aK kR):=⟨rfl,rfl,rfl,by decide +kernel,rfl,by decide +kernel,by decide +kernel⟩
theorem BQ (T:All P w K mg AA DD):aE P w K mg base aI 39 AA.Zq DD.Zq ["tree"] BP:=by
 have GF:=rR (base:=base) T 6
 have GS:=BN (base:=base) T
 refine T.F_Zq.ok tW (fun vs H Q E h=>?_) (fun cdv A outer s H vs Q E hr h=>?_)
 ·obtain ⟨l,xs,ts,rfl,_⟩:=h
  rfl
 ·obtain ⟨l,xs,ts,rfl,hl,hL,hok,h64,kq⟩:=h
  have nd:=tW.nd
  have hrS:aA 38 _:=hr
  have hrF:aA 13 _:=hrS.mono (by omega)
  refine ⟨_,(aq (aO (gm (xs:=["mask","at","what"]) (aK kR) tV [] [] rfl (by exact ⟨rfl,rfl,by decide +kernel,by decide +kernel,by decide +kernel,by decide +kernel,by decide +kernel,rfl,by decide +kernel⟩) rfl rfl (ci (aN GS hrS rfl T.m_Zn T.k_Zn T.b_Zn .nil aB (aa (aN GF hrF rfl T.m_Zx T.k_Zx T.b_Zx .nil aB (aa (pv 0) ag)) (aa ai ag)))) (fun _ _ _ _=>(fk (K:=K) (n:=3) rfl rfl (a8 (aT (i:=0) (show (["mask","at","what"]:List Str).Nodup by decide +kernel) rfl (Or.inl rfl)) (a8 (aT (i:=1) (show (["mask","at","what"]:List Str).Nodup by decide +kernel) rfl (Or.inl rfl)) (a8 (aT (i:=2) (show (["mask","at","what"]:List Str).Nodup by decide +kernel) rfl (Or.inl rfl)) cg))))) (fun _ _ _ _=>d4) (fun _ _ _ _=>(aV (aa (pv 1) (aa (pv 2) ag))))))),?_⟩
  refine ⟨_,rfl,l,xs,ts,rfl,hl,hL,(by have:=hok.1;omega),hok.2.1,hok.2.2.1,fun p ys H1 s1 hp hys=>?_⟩
  refine ⟨p,ys,ts,rfl,hp,hys,hok,h64,fun q zs H2 l2 hq hT=>?_⟩
  refine ⟨q,rfl,⟨_,am.of hq⟩,?_⟩
  have hzl:=hT.1
  rw [Qf] at hzl
  have hsl:(bu (fK ts)).length<64:=by
   unfold bu
   rw [Qf,qS]
   exact h64
  refine eM (K:=K) (a:=q) (xs:=zs) (fun i ys H'=>Same H2 H'/\i<=zs.length/\bQ H' ys ((bu (fK ts)).take i)) ⟨Same.refl _,Qr _,by simp,fun j x d h=>by simp at h⟩ (fun i ys H' _ h=>am.of (h.1 _ _ hq)) ?_ ?_
  ·rintro i x us H3 hx ⟨sm,hi,hus⟩
   have hilt:=(Qc hx).1
   have hik:i<(bu (fK ts)).length:=by omega
   obtain ⟨t,rfl,ht⟩:=hT.2 i x (.inl 1::(bu (fK ts))[i]) hx (by rw [Qk,Qb hik];rfl)
   obtain ⟨r,z,ek⟩:=tR (lq (QJ hik))
   rw [ek] at ht
   have ht3:H3 t=some (.tup [.int 1,.int ((r:Nat):Int),.str z]):=sm _ _ ht
   have hul:=hus.1
   rw [Qx] at hul
   intro os hos
   obtain ⟨a,b,c,rfl⟩:∃ a b c,os=[a,b,c]:=by
    match os,hos with
    | [a,b,c],_=>exact ⟨a,b,c,rfl⟩
   refine ⟨t,_,rfl,ah.of ht3,rfl,_,_,rfl,_,_,rfl,_,_,rfl,rfl,⟨[_,_,_],rfl,rfl⟩,?_⟩
   refine dZ ?_
   rw [if_pos rfl]
   refine ⟨_,rfl,_,rfl,(by show 2<=sizeLine;decide),fun q2 hq2=>?_⟩
   have s3:=ao (o:=.tup [.int ((r:Nat):Int),.str z]) hq2
   refine ⟨cr (by omega),sm.trans s3,by omega,?_⟩
   rw [Qn hik,ek]
   refine ⟨by simp [hus.1],fun j y e hy he=>?_⟩
   by_cases hj:j<us.length
   ·rw [Qw hj] at hy
    rw [Qw (by rw [Qx];omega)] at he
    obtain ⟨t',a1,a2⟩:=hus.2 j y e hy he
    exact ⟨t',a1,s3 _ _ a2⟩
   ·rw [Qq (by omega)] at hy
    rw [Qq (by rw [Qx];omega),Qx,<- hul] at he
    have hj2:=(Qc hy).1
    have hj0:j-us.length=0:=by simpa using hj2
    rw [hj0] at hy he
    have y1:V.ref q2=y:=by simpa using hy
    have e1:kk r z=e:=by simpa using he
    exact ⟨q2,y1.symm,by rw [<- e1];exact aj⟩
  ·rintro us H3 ⟨sm,hi,hus⟩ q3 hq3
   have s3:=ao (o:=.lst us) hq3
   rw [QB (by omega)] at hus
   exact kq q3 us _ (((s1.ls.trans l2).trans sm.ls).trans s3.ls) aj ⟨hus.1,fun j x k a b=>by obtain ⟨t,e,h⟩:=hus.2 j x k a b;exact ⟨t,e,s3 _ _ h⟩⟩ (BO ((s1.ls.trans l2).trans sm.ls) hq3)
end
theorem jA (a b:Str):(a++b).cps.toList=a.cps.toList++b.cps.toList:=Array.toList_append ..
theorem tX (a b:Str):(a++b).length=a.length+b.length:=Array.size_append ..
theorem lr (c:Nat):(⟨#[c]⟩:Str).length=1:=rfl
theorem BR (z:Str):z.cps.toList.length=z.length:=by simp [Str.length]
theorem cI {a:Int} {n:Nat} (h:0<n):∃ j:Nat,a % (n:Int)=(j:Int)/\j<n:=⟨(a % (n:Int)).toNat,by
 have:=Int.emod_nonneg a (show (n:Int)≠0 by omega)
 omega,by
 have:=Int.emod_nonneg a (show (n:Int)≠0 by omega)
 have:=Int.emod_lt_of_pos a (show (0:Int)<(n:Int) by omega)
 omega⟩
section
variable {P:Program} {w:World} {K:W.Frag} {mg:Str->Option Value} {base:Heap} {AA:bG} {DD:bH}
noncomputable def dC (ns:List Int) (j:Nat):Int:=ns.getD j 0
noncomputable def BS (K:W.Frag):Sp:=fun vs H Q _=>∃ (a:Addr) (ns:List Int) (j:Nat),vs=[.ref a,.int ((j:Nat):Int)]/\am K H a (ns.map V.int)/\Q (.int (dC ns j)) H
noncomputable abbrev BU:List Str:=["_law_script","_law_k"]
theorem tY:ba BU ["_law_script","_law_k"] (aK ni):=⟨rfl,rfl,rfl,by decide +kernel,rfl,by decide +kernel,by decide +kernel⟩
theorem tZ (T:All P w K mg AA DD):aE P w K mg base aI 1 AA.Zr DD.Zr ["_law_script","_law_k"] (BS K):=by
 refine T.F_Zr.ok tY (fun vs H Q E h=>?_) (fun cdv A outer s H vs Q E hr h=>?_)
 ·obtain ⟨a,ns,k,rfl,_⟩:=h
  rfl
 ·obtain ⟨a,ns,j,rfl,hS,k⟩:=h
  have nd:=tY.nd
  refine ⟨_,(av (be (aY jR (pv 1) (dY pT rfl T.n_len j1 (aa (pv 0) ag)) (a6 _)) (aq (aO (au (cS (K:=K) rfl) (pv 0) (pv 1) (fun _ _=>rfl)))) bo) (aq (aO ai))),?_⟩
  refine ⟨_,rfl,_,rfl,a,_,rfl,.inl hS,_,_,rfl,rfl,_,rfl,?_⟩
  rw [Qf]
  unfold dC at k
  refine gj (fun h1=>?_) (fun h1=>?_)
  ·have h1:((j:Nat):Int)<(ns.length:Int):=of_decide_eq_true h1
   refine ⟨_,rfl,_,rfl,a,_,_,_,rfl,rfl,hS,ap (j:=j) (by rw [Qk,Qb (by omega)];rfl),?_⟩
   rw [Qg,Qb (by omega)] at k
   exact k
  ·have h1:¬((j:Nat):Int)<(ns.length:Int):=fun z=>h1 (Qp z)
   rw [Qg,List.getElem?_eq_none (by omega)] at k
   exact k
noncomputable def aZ (c k:Int):Int:=((c+7919*k+1)*48271 % 2147483647)*((c+7919*k+1)*48271 % 2147483647 / 1009+69621) % 2147483647
theorem BV (c k:Int):0<=aZ c k:=Int.emod_nonneg _ (by decide)
noncomputable def BW:Sp:=fun vs H Q _=>∃ c k:Int,vs=[.int c,.int k]/\Q (.int (aZ c k)) H
noncomputable abbrev BX:List Str:=["_law_cell","_law_k","_law_number"]
theorem ua:ba BX ["_law_cell","_law_k"] (aK nj):=⟨rfl,rfl,rfl,by decide +kernel,rfl,by decide +kernel,by decide +kernel⟩
theorem nZ (T:All P w K mg AA DD):aE P w K mg base aI 1 AA.ZB DD.ZB ["_law_cell","_law_k"] BW:=by
 refine T.F_ZB.ok ua (fun vs H Q E h=>?_) (fun cdv A outer s H vs Q E hr h=>?_)
 ·obtain ⟨c,k,rfl,_⟩:=h
  rfl
 ·obtain ⟨c,j,rfl,k⟩:=h
  have nd:=ua.nd
  unfold aZ at k
  refine ⟨_,(av (@bf _ _ 2 _ _ _ _ nd rfl (Or.inl rfl) (aG cm (aG iQ (aG cP (aG cP (pv 0) (aG iQ ai (pv 1))) ai) ai) ai) (by rfl) (by first | exact .inl rfl | exact .inr rfl | assumption)) (aq (aO (aG cm (aG iQ (pv 2) (aG cP (aG fE (pv 2) ai) ai)) ai)))),?_⟩
  refine ⟨_,rfl,_,rfl,_,_,rfl,rfl,.inl ⟨by decide,by decide⟩,_,_,rfl,rfl,_,_,rfl,rfl,_,_,rfl,rfl,.inr ⟨by decide,by decide⟩,_,_,rfl,rfl,(by show (0:Int)<2147483647;decide),?_⟩
  try dsimp only [aX]
  have b0:=Int.emod_nonneg ((c+7919*j+1)*48271) (show (2147483647:Int)≠0 by decide)
  have b1:=Int.emod_lt_of_pos ((c+7919*j+1)*48271) (show (0:Int)<2147483647 by decide)
  generalize (c+7919*j+1)*48271 % 2147483647=y at b0 b1 k ⊢
  exact ⟨_,rfl,_,rfl,_,_,rfl,rfl,⟨by decide,by decide⟩,_,_,rfl,rfl,_,_,rfl,rfl,.inl ⟨by omega,by omega⟩,_,_,rfl,rfl,(by show (0:Int)<2147483647;decide),k⟩
noncomputable abbrev eh:Str:="xyzuvwpqabcdefghijklmnorst"
theorem ub:eh.length=26:=by decide +kernel
noncomputable def wQ (x:Int):Nat->Str
 | 0=>"q"
 | i+1=>wQ x i++⟨#[eh.cps.toList.getD (x / (7+25*((i:Nat):Int)) % 26).toNat 0]⟩
theorem n0 (x:Int):∀ i,(wQ x i).length=i+1
 | 0=>by show ("q":Str).length=1;decide +kernel
 | i+1=>by
  show (wQ x i++_).length=i+1+1
  rw [tX,lr,n0 x i]
noncomputable def bY (x:Int):Str:=wQ x (1+(x % 7).toNat)
theorem uc (x:Int):2<=(bY x).length/\(bY x).length<=8:=by
 unfold bY
 rw [n0]
 have:=Int.emod_lt_of_pos x (show (0:Int)<7 by decide)
 have:=Int.emod_nonneg x (show (7:Int)≠0 by decide)
 omega
noncomputable def dQ (x:Int):Int:=1+x / 8 % (((bY x).length:Nat)-1:Int)
noncomputable abbrev jB:Str:="gkvzbmc"
noncomputable def dR (x:Int) (i:Nat):Str:=ff (bY x) none (some (dQ x))++(⟨#[jB.cps.toList.getD i 0]⟩:Str)++ff (bY x) (some (dQ x+1)) none
noncomputable def cN (x:Int):List Str:=(List.range 7).map (dR x)
noncomputable def BY:Sp:=fun vs H Q _=>∃ x:Int,vs=[.int x]/\0<=x/\∀ p H',H p=none->Same H H'->H' p=some (.lst ((cN x).map V.str))->Q (.ref p) H'
noncomputable abbrev ud:List Str:=["_law_number","_law_some","_law_word","_law_k","_law_at"]
theorem ue:ba ud ["_law_number"] (aK kT):=⟨rfl,rfl,rfl,by decide +kernel,rfl,by decide +kernel,by decide +kernel⟩
theorem BZ (T:All P w K mg AA DD):aE P w K mg base aI 1 AA.ZC DD.ZC ["_law_number"] BY:=by
 refine T.F_ZC.ok ue (fun vs H Q E h=>?_) (fun cdv A outer s H vs Q E hr h=>?_)
 ·obtain ⟨x,rfl,_⟩:=h
  rfl
 ·obtain ⟨x,rfl,hx,k⟩:=h
  have nd:=ue.nd
  have hq:=uc x
  refine ⟨_,(av (@bf _ _ 1 _ _ _ _ nd rfl (Or.inl rfl) aD (by rfl) (by first | exact .inl rfl | exact .inr rfl | assumption)) (av (@bf _ _ 2 _ _ _ _ nd rfl (Or.inr rfl) aD (by rfl) (by first | exact .inl rfl | exact .inr rfl | assumption)) (av (cO PassesOwn.never rfl (iN rfl T.n_range (aa (aG cP ai (aG cm (pv 0) ai)) ag)) (aT (i:=3) nd rfl (Or.inl rfl)) (aq (@bf _ _ 2 _ _ _ _ nd rfl (Or.inr rfl) (aG lW (pv 2) (au pR (pv 1) (aG cm (aG fE (pv 0) (aG cP ai (aG iQ ai (pv 3)))) ai) (fun _ _=>rfl))) (by rfl) (by first | exact .inl rfl | exact .inr rfl | assumption))) (by intro _;rfl)) (av (@bf _ _ 4 _ _ _ _ nd rfl (Or.inr rfl) (aG cP ai (aG cm (aG fE (pv 0) ai) (aG gQ (dY xi rfl T.n_len j1 (aa (pv 2) ag)) ai))) (by rfl) (by first | exact .inl rfl | exact .inr rfl | assumption)) (aq (aO (fh (aK kT) ud ["_law_word","_law_at"] [2,4] rfl (by exact ⟨rfl,rfl,by decide +kernel,rfl,by decide +kernel,by decide +kernel,by decide +kernel,rfl,by decide +kernel⟩) rfl rfl (yY aD) (fun _ _ _ _=>d4) (fun _ _ _ _=>(aG lW (aG lW (jV qf (pv 1) lY (iU (pv 2))) (pv 0)) (jV qf (pv 1) (iU (aG cP (pv 2) ai)) lY)))))))))),?_⟩
  refine j6 ?_
  try dsimp only [aX]
  refine j6 ?_
  try dsimp only [aX]
  have hsz:eh.length<=sizeLine:=by rw [ub];decide
  have s9:∀ {n:Nat},n<=100->n<=sizeLine:=fun h=>Nat.le_of_lt (cR (by omega))
  obtain ⟨m,em,hm⟩:=cI (a:=x) (n:=7) (by decide)
  have em:x % 7=((m:Nat):Int):=em
  have ew:bY x=wQ x (1+m):=by unfold bY;rw [em,Int.toNat_natCast]
  refine d5 (fun σ' H'=>H'=H/\∃ (x3:Option V),σ'=[some (.int x),some (.str eh),some (.str (bY x)),x3,none]) (fun R hR=>?_) ?_
  ·refine ⟨_,rfl,_,_,rfl,rfl,(by show (0:Int)<7;decide),_,_,rfl,rfl,_,rfl,?_,?_,?_⟩
   ·rw [em];omega
   ·rw [em];omega
   rw [em,show ((1:Int)+((m:Nat):Int)).toNat=1+m by omega]
   refine lR (D:=⟨R,_,R,R⟩) (fun i σ' H'=>H'=H/\∃ (x3:Option V),σ'=[some (.int x),some (.str eh),some (.str (wQ x i)),x3,none]) ⟨rfl,none,rfl⟩ ?_ ?_
   ·rintro i σ' H' hi ⟨rfl,x3,rfl⟩
    rw [Int.zero_add]
    obtain ⟨q,eq,hq⟩:=cI (a:=x / (7+25*((i:Nat):Int))) (n:=26) (by decide)
    have eq:x / (7+25*((i:Nat):Int)) % 26=((q:Nat):Int):=eq
    have hql:q<eh.cps.toList.length:=by rw [BR,ub];exact hq
    refine ⟨_,rfl,_,rfl,_,rfl,_,rfl,_,_,rfl,rfl,.inl ⟨by decide,by decide⟩,_,_,rfl,rfl,_,_,rfl,rfl,⟨?_,?_⟩,_,_,rfl,rfl,(by show (0:Int)<26;decide),eh,_,eh.cps.toList[q],rfl,rfl,hsz,?_,_,_,rfl,rfl,?_,?_⟩
    ·show (0:Int)<7+25*((i:Nat):Int);omega
    ·show 7+25*((i:Nat):Int)<_;omega
    ·rw [eq];exact ap (Qb hql)
    ·rw [lr,n0];exact Nat.le_of_lt (cR (by omega))
    ·refine ⟨rfl,some (.int ((i:Nat):Int)),?_⟩
     show _=[some (V.int x),some (V.str eh),some (V.str (wQ x i++⟨#[eh.cps.toList.getD (x / (7+25*((i:Nat):Int)) % 26).toNat 0]⟩)),_,_]
     rw [eq,Int.toNat_natCast,Qg,Qb hql]
     rfl
   ·rintro σ' H' ⟨rfl,x3,rfl⟩
    exact hR _ _ ⟨rfl,x3,by rw [ew]⟩
  rintro σ' H' ⟨rfl,x3,rfl⟩
  refine ⟨_,rfl,_,_,rfl,rfl,⟨by decide,by decide⟩,_,rfl,bY x,rfl,s9 (by omega),_,_,rfl,rfl,_,_,rfl,rfl,(by show (0:Int)<((bY x).length:Int)-1;omega),_,_,rfl,rfl,?_⟩
  dsimp only [aX]
  show lM _ _ [some (.int x),some (.str eh),some (.str (bY x)),x3,some (.int (dQ x))] _
  refine ⟨jB,rfl,by decide +kernel,?_⟩
  have hgl:jB.length=7:=by decide +kernel
  rw [hgl]
  refine yZ (fun i ys H1=>H1=H'/\i<=7/\ys=((List.range i).map (dR x)).map V.str) ⟨rfl,by omega,rfl⟩ ?_ ?_
  ·rintro i ys H1 hi ⟨rfl,_,rfl⟩
   refine dZ ?_
   rw [if_pos rfl]
   have l1:=qc (bY x) none (some (dQ x))
   have l2:=qc (bY x) (some (dQ x+1)) none
   refine ⟨_,rfl,_,rfl,dQ x,rfl,bY x,rfl,s9 (by omega),_,rfl,_,_,rfl,rfl,s9 (by rw [lr];omega),_,rfl,_,rfl,_,_,rfl,rfl,dQ x+1,rfl,bY x,rfl,s9 (by omega),_,_,rfl,rfl,s9 (by rw [tX,lr];omega),?_⟩
   refine ⟨by rw [Qf,Qf,List.length_range];exact cR (by omega),rfl,by omega,?_⟩
   rw [List.range_succ,QK,QK]
   rfl
  ·rintro ys H1 ⟨rfl,_,rfl⟩ p hp
   exact k p _ hp (ao hp) aj
theorem uf (x:Int):(cN x).length=7:=by simp [cN]
theorem B0:∀ i<7,∀ j<7,jB.cps.toList.getD i 0=jB.cps.toList.getD j 0->i=j:=by decide +kernel
theorem ug {x:Int} {i j:Nat} (hi:i<7) (hj:j<7) (h:dR x i=dR x j):i=j:=by
 have h1:=congrArg (fun z:Str=>z.cps.toList) h
 simp only [dR,jA,QM] at h1
 have h2:=List.append_cancel_left h1
 have h3:=List.append_cancel_right h2
 exact B0 i hi j hj (by simpa using h3)
theorem B1 {x:Int} {i:Nat} (h:i<7):(cN x)[i]?=some (dR x i):=by
 unfold cN
 rw [Qk,List.getElem?_range h];rfl
theorem lu {x:Int} {i:Nat} (h:i<7):(cN x).getD i ""=dR x i:=by
 rw [Qg,B1 h];rfl
end
section
variable {P:Program} {w:World} {K:W.Frag} {mg:Str->Option Value} {base:Heap} {AA:bG} {DD:bH}
noncomputable abbrev ce:List Str:=["num","truth"]
theorem B2 {j:Nat} (h:j<2):(ce.map V.str)[j]?=some (.str (ce.getD j "")):=by
 match j,h with
 | 0,_=>rfl
 | 1,_=>rfl
theorem ei {ns:List Str} {j:Nat} (h:j<ns.length):(ns.map V.str)[j]?=some (.str (ns.getD j "")):=by
 rw [Qk,Qg,Qb h];rfl
noncomputable def eS (ns:List Str) (x:Int) (k:Nat):Str × Str:=(ns.getD ((x / 4 % 4+((k:Nat):Int)) % 4).toNat "",ce.getD (x / (16+3*((k:Nat):Int)) % 2).toNat "")
noncomputable def eE (ns:List Str) (x:Int):List (Str × Str):=(List.range (x % 4).toNat).map (eS ns x)
noncomputable def dm (H:Hp) (p:Addr) (ps:List (Str × Str)):Prop:=∃ us:List Addr,H p=some (.lst (us.map V.ref))/\us.length=ps.length/\∀ (i:Nat) (u:Addr) (q:Str × Str),us[i]?=some u->ps[i]?=some q->H u=some (.tup [.str q.1,.str q.2])
theorem dm.same {H H':Hp} {p:Addr} {ps:List (Str × Str)} (h:dm H p ps) (s:Same H H'):dm H' p ps:=by obtain ⟨us,a,b,c⟩:=h;exact ⟨us,s _ _ a,b,fun i u q x y=>s _ _ (c i u q x y)⟩
noncomputable def B3:Sp:=fun vs H Q _=>∃ (x:Int) (l:Addr) (ns:List Str),vs=[.int x,.ref l]/\H l=some (.lst (ns.map V.str))/\ns.length=7/\∀ p H',H p=none->Same H H'->dm H' p (eE ns x)->Q (.ref p) H'
noncomputable abbrev uh:List Str:=["_law_number","_law_names_here","_law_first"]
theorem ui:ba uh ["_law_number","_law_names_here"] (aK kU):=⟨rfl,rfl,rfl,by decide +kernel,rfl,by decide +kernel,by decide +kernel⟩
theorem B4 (T:All P w K mg AA DD):aE P w K mg base aI 1 AA.Zv DD.Zv ["_law_number","_law_names_here"] B3:=by
 refine T.F_Zv.ok ui (fun vs H Q E h=>?_) (fun cdv A outer s H vs Q E hr h=>?_)
 ·obtain ⟨x,l,ns,rfl,_⟩:=h
  rfl
 ·obtain ⟨x,l,ns,rfl,hl,hn,kq⟩:=h
  have nd:=ui.nd
  refine ⟨_,(av (@bf _ _ 2 _ _ _ _ nd rfl (Or.inr rfl) (aG cm (aG fE (pv 0) ai) ai) (by rfl) (by first | exact .inl rfl | exact .inr rfl | assumption)) (aq (aO (fh (aK kU) uh ["_law_number","_law_names_here","_law_first"] [0,1,2] rfl (by exact ⟨rfl,rfl,by decide +kernel,rfl,by decide +kernel,by decide +kernel,by decide +kernel,rfl,by decide +kernel⟩) rfl rfl (iN rfl T.n_range (aa (aG cm (pv 0) ai) ag)) (fun _ _ _ _=>d4) (fun _ _ _ _=>(aV (aa (au (cS (K:=K) rfl) (pv 2) (aG cm (aG cP (pv 3) (pv 0)) ai) (fun _ _=>rfl)) (aa (au (cS (K:=K) rfl) (bB (aa aD (aa aD ag))) (aG cm (aG fE (pv 1) (aG cP ai (aG iQ ai (pv 0)))) ai) (fun _ _=>rfl)) ag)))))))),?_⟩
  refine ⟨_,rfl,_,_,rfl,rfl,⟨by decide,by decide⟩,_,_,rfl,rfl,(by show (0:Int)<4;decide),?_⟩
  dsimp only [aX]
  obtain ⟨m,em,hm⟩:=cI (a:=x) (n:=4) (by decide)
  have em:x % 4=((m:Nat):Int):=em
  obtain ⟨f,ef,hf⟩:=cI (a:=x / 4) (n:=4) (by decide)
  have ef:x / 4 % 4=((f:Nat):Int):=ef
  have efl:eE ns x=(List.range m).map (eS ns x):=by unfold eE;rw [em,Int.toNat_natCast]
  rw [efl] at kq
  refine ⟨_,rfl,_,_,rfl,rfl,(by show (0:Int)<4;decide),_,rfl,?_,?_,?_⟩
  ·show _<=x % 4;omega
  ·show x % 4<_;omega
  show gl (eX 0 (x % 4).toNat) _ _ _ _ _ _
  rw [em,Int.toNat_natCast]
  refine p6 (fun i ys H'=>Same H H'/\i<=4/\∃ us:List Addr,ys=us.map V.ref/\us.length=i/\∀ (j:Nat) (u:Addr),us[j]?=some u->H' u=some (.tup [.str (eS ns x j).1,.str (eS ns x j).2])) ⟨Same.refl _,Qr _,[],rfl,rfl,fun j u h=>by simp at h⟩ ?_ ?_
  ·rintro i ys H2 hi ⟨s2,_,us,rfl,hul,hus⟩
   rw [Int.zero_add]
   refine dZ ?_
   rw [if_pos rfl]
   obtain ⟨j,ej,hj⟩:=cI (a:=x / (16+3*((i:Nat):Int))) (n:=2) (by decide)
   have ej:x / (16+3*((i:Nat):Int)) % 2=((j:Nat):Int):=ej
   obtain ⟨g,eg,hg⟩:=cI (a:=x / 4 % 4+((i:Nat):Int)) (n:=4) (by decide)
   have eg:(x / 4 % 4+((i:Nat):Int)) % 4=((g:Nat):Int):=eg
   have e12:eS ns x i=(ns.getD g "",ce.getD j ""):=by unfold eS;rw [eg,ej,Int.toNat_natCast,Int.toNat_natCast]
   refine ⟨_,rfl,_,rfl,_,rfl,_,_,rfl,rfl,_,_,rfl,rfl,(by show (0:Int)<4;decide),l,_,_,.str (ns.getD g ""),rfl,rfl,am.of (s2 _ _ hl),?_,?_⟩
   ·show dG _ ((x / 4 % 4+((i:Nat):Int)) % 4)=_
    rw [eg];exact ap (ei (by omega))
   refine ⟨(by show 2<=sizeLine;decide),fun pk hpk=>?_⟩
   have s1:=ao (o:=.lst (ce.map V.str)) hpk
   refine ⟨_,rfl,_,rfl,_,_,rfl,rfl,.inl ⟨by decide,by decide⟩,_,_,rfl,rfl,_,_,rfl,rfl,⟨?_,?_⟩,_,_,rfl,rfl,(by show (0:Int)<2;decide),pk,_,_,.str (ce.getD j ""),rfl,rfl,am.of aj,?_,(by show 2<=sizeLine;decide),fun q hq=>?_⟩
   ·show (0:Int)<16+3*((i:Nat):Int);omega
   ·show 16+3*((i:Nat):Int)<_;omega
   ·show dG _ (x / (16+3*((i:Nat):Int)) % 2)=_
    rw [ej];exact ap (B2 hj)
   have sq:=ao (o:=.tup [.str (ns.getD g ""),.str (ce.getD j "")]) hq
   have s12:=s1.trans sq
   refine ⟨by rw [Qf];exact cr (by omega),s2.trans s12,by omega,us++[q],by simp,by simp [hul],fun j' u h=>?_⟩
   by_cases hj':j'<us.length
   ·rw [Qw hj'] at h
    exact s12 _ _ (hus j' u h)
   ·have hje:j'=i:=by have:=(Qc h).1;simp at this;omega
    subst hje
    rw [Qq (by omega)] at h
    have e1:u=q:=by simpa [hul] using h.symm
    subst e1
    rw [e12]
    exact aj
  ·rintro ys H2 ⟨s2,_,us,rfl,hul,hus⟩ p hp
   have sp:=ao (o:=.lst (us.map V.ref)) hp
   refine kq p _ (s2.free hp) (s2.trans sp) ⟨us,aj,by simpa using hul,fun i u q x y=>?_⟩
   rw [Qk] at y
   obtain ⟨c,hc,rfl⟩:=Option.map_eq_some_iff.mp y
   have hc':c=i:=by
    have h1:=(Qc hc).1
    rw [List.length_range] at h1
    rw [List.getElem?_range h1] at hc
    exact (Qo hc).symm
   subst hc'
   exact sp _ _ (hus c u x)
end
section
variable {P:Program} {w:World} {K:W.Frag} {mg:Str->Option Value} {base:Heap} {AA:bG} {DD:bH}
noncomputable abbrev jC:List Str:=["yes","no"]
theorem B5 {j:Nat} (h:j<2):(jC.map V.str)[j]?=some (.str (jC.getD j "")):=by
 rcases (show j=0∨j=1 by omega) with rfl | rfl<;>rfl
noncomputable abbrev eF:List Str:=["+","and"]
theorem B6 {j:Nat} (h:j<2):(eF.map V.str)[j]?=some (.str (eF.getD j "")):=by
 rcases (show j=0∨j=1 by omega) with rfl | rfl<;>rfl
noncomputable def bR (ks:List (Str × Str)):List (ae × V):=ks.map fun p=>(.inr p.1,.str p.2)
noncomputable def gC (kn:List Str) (x:Int):Ex:=if (x % 15 % 3 == 0)=true/\kn≠[] then .name (kn.getD (x / 15 % ((kn.length:Nat):Int)).toNat "") else if (x % 15 % 3 == 1)=true then .truth (jC.getD (x / 15 % 2).toNat "") else .num (x / 15 % 1000000000000000000)
structure Rc where
 ns:List Str
 f0:List (Str × Str)
 f1:List (Str × Str)
noncomputable def Rc.f (R:Rc) (j:Nat):List (Str × Str):=if j=0 then R.f0 else R.f1
noncomputable def cz (R:Rc) (kn:List Str):Nat->Int->Ex
 | 0,x=>gC kn x
 | d+1,x=>if decide (x % 15<6)=true then gC kn x
  else if decide (x % 15<9)=true then .of (R.ns.getD (x / 15 % 4).toNat "") (cz R kn d (aZ x 1))
  else if decide (x % 15<12)=true then .many "new" (R.ns.getD (4+(x / 15 % 2).toNat) "") ((List.range (R.f (x / 15 % 2).toNat).length).map fun k=>cz R kn d (aZ x (2+((k:Nat):Int))))
  else if (x % 15 == 12)=true then .many "do" (R.ns.getD 6 "") [cz R kn d (aZ x 1)]
  else .op (eF.getD (x % 15 % 2).toNat "") (cz R kn d (aZ x 1)) (cz R kn d (aZ x 2))
structure RcAt (H:Hp) (rd l:Addr) (R:Rc):Prop where
 nl:H l=some (.lst (R.ns.map V.str))
 n7:R.ns.length=7
 ne:R.ns.getD 4 ""≠R.ns.getD 5 ""
 rd:∃ p0 p1,H rd=some (.dK [(.inr (R.ns.getD 4 ""),.ref p0),(.inr (R.ns.getD 5 ""),.ref p1)])/\dm H p0 R.f0/\dm H p1 R.f1
 l3:R.f0.length<=3/\R.f1.length<=3
theorem RcAt.same {H H':Hp} {rd l:Addr} {R:Rc} (h:RcAt H rd l R) (s:Same H H'):RcAt H' rd l R:=by
 obtain ⟨a,b,c,⟨p0,p1,d,e,f⟩,g⟩:=h
 exact ⟨s _ _ a,b,c,⟨p0,p1,s _ _ d,e.same s,f.same s⟩,g⟩
theorem RcAt.get {H:Hp} {rd l:Addr} {R:Rc} (h:RcAt H rd l R) {j:Nat} (hj:j<2):∃ p,bt H rd (.str (R.ns.getD (4+j) "")) (some (.ref p))/\dm H p (R.f j)/\(R.f j).length<=3:=by
 obtain ⟨p0,p1,d,e,f⟩:=h.rd
 rcases (show j=0∨j=1 by omega) with rfl | rfl
 ·refine ⟨p0,?_,e,h.l3.1⟩
  have q:=bt.k (k:=.inr (R.ns.getD 4 "")) d
  rw [cK rfl] at q
  exact q
 ·refine ⟨p1,?_,f,h.l3.2⟩
  have q:=bt.k (k:=.inr (R.ns.getD 5 "")) d
  rw [cL (fun z=>h.ne (Sum.inr.inj z)),cK rfl] at q
  exact q
theorem B7 {c:Bool} {p q Z:Prop} (h:c=true∨(c=false/\(p->Z))) (hp:p):if c=true then (if true=true then p else q) else Z:=by
 rcases h with h | ⟨h,k⟩
 ·rw [h,if_pos rfl,if_pos rfl];exact hp
 ·rw [h,if_neg Bool.false_ne_true];exact k hp
theorem uj {H:Hp}:∀ {vs:List V} {es:List Ex} {v:V} {e:Ex},ExsAt H vs es->a7 H v e->ExsAt H (vs++[v]) (es++[e])
 | _,_,_,_,.nil,h=>.cons h .nil
 | _,_,_,_,.cons a b,h=>.cons a (uj b h)
noncomputable def jD (k:Nat):Sp:=fun vs H Q _=>∃ (x:Int) (a rd l:Addr) (ks:List (Str × Str)) (R:Rc) (d:Nat),vs=[.int x,.ref a,.ref rd,.ref l,.int ((d:Nat):Int)]/\H a=some (.dK (bR ks))/\ks.length<=50/\RcAt H rd l R/\d<k/\∀ v H',Same H H'->a7 H' v (cz R (ks.map (·.1)) d x)->Q v H'
noncomputable abbrev B8:List Str:=["_law_number","_law_known","_law_records","_law_names_here","_law_deep","_law_form","_law_more","_law_left","_law_name","_law_parts_here","_law_k"]
theorem n8:ba B8 ["_law_number","_law_known","_law_records","_law_names_here","_law_deep"] (aK nk):=⟨rfl,rfl,rfl,by decide +kernel,rfl,by decide +kernel,by decide +kernel⟩
theorem B9 (T:All P w K mg AA DD) (k:Nat) (GE:aE P w K mg base aI (k+1) AA.ZH DD.ZH ["_law_number","_law_known","_law_records","_law_names_here","_law_deep"] (jD k)) :
  aE P w K mg base aI (k+1+1) AA.ZH DD.ZH ["_law_number","_law_known","_law_records","_law_names_here","_law_deep"] (jD (k+1)):=by
 have GX:=nZ (base:=base) T
 refine T.F_ZH.ok n8 (fun vs H Q E h=>?_) (fun cdv A outer s H vs Q E hr h=>?_)
 ·obtain ⟨x,a,rd,l,ks,R,d,rfl,_⟩:=h
  rfl
 ·obtain ⟨x,a,rd,l,ks,R,d,rfl,ha,hkl,hR,hd,kq⟩:=h
  have nd:=n8.nd
  have hrE:aA (k+1) _:=hr
  have hr1:aA 1 _:=hrE.mono (by omega)
  have hu:=QF (Nat.add_le_add_left (show 1<=64 by decide) _) hr.units
  refine ⟨_,(av (@bf _ _ 5 _ _ _ _ nd rfl (Or.inl rfl) (aG cm (pv 0) ai) (by rfl) (by first | exact .inl rfl | exact .inr rfl | assumption)) (av (@bf _ _ 6 _ _ _ _ nd rfl (Or.inl rfl) (aG fE (pv 0) ai) (by rfl) (by first | exact .inl rfl | exact .inr rfl | assumption)) (av (be (PW.pt (lL (aY bE (pv 4) ai (a6 _)) (lK (aY jR (pv 5) ai (a6 _))))) (av (be (PW.pt (iH (aY bE (aG cm (pv 5) ai) ai (a6 _)) (jN (aY (zk hu) (pv 1) j5 (a6 _))))) (aq (aO (aV (aa aD (aa (au (cS (K:=K) rfl) (eY (zj rfl) rfl T.n_list iZ (aa (pv 1) ag)) (aG cm (pv 6) (dY yd rfl T.n_len j1 (aa (pv 1) ag))) (fun _ _=>rfl)) ag))))) bo) (av (be (aY bE (aG cm (pv 5) ai) ai (a6 _)) (aq (aO (aV (aa aD (aa (au (cS (K:=K) rfl) (bB (aa aD (aa aD ag))) (aG cm (pv 6) ai) (fun _ _=>rfl)) ag))))) bo) (aq (aO (aV (aa aD (aa (aG cm (pv 6) (aG wj ai ai)) ag))))))) bo) (av (@bf _ _ 7 _ _ _ _ nd rfl (Or.inl rfl) (aN GE hrE rfl T.m_ZH T.k_ZH T.b_ZH .nil aB (aa (aN GX hr1 rfl T.m_ZB T.k_ZB T.b_ZB .nil aB (aa (pv 0) (aa ai ag))) (aa (pv 1) (aa (pv 2) (aa (pv 3) (aa (aG gQ (pv 4) ai) ag)))))) (by rfl) (by first | exact .inl rfl | exact .inr rfl | assumption)) (av (be (aY jR (pv 5) ai (a6 _)) (aq (aO (aV (aa aD (aa (au (cS (K:=K) rfl) (pv 3) (aG cm (pv 6) ai) (fun _ _=>rfl)) (aa (pv 7) ag)))))) bo) (av (be (aY jR (pv 5) ai (a6 _)) (av (@bf _ _ 8 _ _ _ _ nd rfl (Or.inl rfl) (au (cS (K:=K) rfl) (pv 3) (aG cP ai (aG cm (pv 6) ai)) (fun _ _=>rfl)) (by rfl) (by first | exact .inl rfl | exact .inr rfl | assumption)) (av (@bf _ _ 9 _ _ _ _ nd rfl (Or.inl rfl) (bB ag) (by rfl) (by first | exact .inl rfl | exact .inr rfl | assumption)) (av (cO PassesOwn.never rfl (iN rfl T.n_range (aa (dY pT rfl T.n_len j1 (aa (gp hu (pv 2) (pv 8) (fun _ _=>rfl)) ag)) ag)) (aT (i:=10) nd rfl (Or.inl rfl)) (aq (bX (fc PySem.F.plainAttrs_list PySem.F.slot_list_append PySem.F.type_list_append fI (pv 9) (aa (aN GE hrE rfl T.m_ZH T.k_ZH T.b_ZH .nil aB (aa (aN GX hr1 rfl T.m_ZB T.k_ZB T.b_ZB .nil aB (aa (pv 0) (aa (aG cP ai (pv 10)) ag))) (aa (pv 1) (aa (pv 2) (aa (pv 3) (aa (aG gQ (pv 4) ai) ag)))))) ag)) (by rfl))) (by intro _;rfl)) (aq (aO (aV (aa aD (aa (pv 8) (aa (eY jX rfl T.n_tuple i7 (aa (pv 9) ag)) ag))))))))) bo) (av (be (aY bE (pv 5) ai (a6 _)) (aq (aO (aV (aa aD (aa (au (cS (K:=K) rfl) (pv 3) ai (fun _ _=>rfl)) (aa (aV (aa (pv 7) ag)) ag)))))) bo) (aq (aO (aV (aa (au (cS (K:=K) rfl) (bB (aa aD (aa aD ag))) (aG cm (pv 5) ai) (fun _ _=>rfl)) (aa (pv 7) (aa (aN GE hrE rfl T.m_ZH T.k_ZH T.b_ZH .nil aB (aa (aN GX hr1 rfl T.m_ZB T.k_ZB T.b_ZB .nil aB (aa (pv 0) (aa ai ag))) (aa (pv 1) (aa (pv 2) (aa (pv 3) (aa (aG gQ (pv 4) ai) ag)))))) ag))))))))))))),?_⟩
  refine ⟨_,rfl,_,_,rfl,rfl,(by show (0:Int)<15;decide),?_⟩
  dsimp only [aX]
  refine ⟨_,rfl,_,_,rfl,rfl,⟨by decide,by decide⟩,?_⟩
  dsimp only [aX]
  have eks:(bR ks).map (fun kv=>kV kv.1)=(ks.map (·.1)).map V.str:=by
   unfold bR
   rw [List.map_map,List.map_map]
   rfl
  by_cases hleaf:d=0∨x % 15<6
  ·have el:cz R (ks.map (·.1)) d x=gC (ks.map (·.1)) x:=by
    cases d with
    | zero=>rfl
    | succ d =>
     rcases hleaf with h | h
     ·cases h
     ·show (if decide (x % 15<6)=true then _ else _)=_
      rw [if_pos (Qp h)]
   rw [el] at kq
   refine ⟨_,rfl,rfl,_,rfl,?_⟩
   refine B7 ?_ ?_
   ·cases d with
    | zero=>exact .inl rfl
    | succ d =>
     refine .inr ⟨Qi fun z=>by injection z;omega,fun hp=>⟨_,rfl,_,_,rfl,rfl,_,rfl,bg (Qp (hleaf.resolve_left (by omega))) hp⟩⟩
   refine i8 (fun σ' H2=>Same H H2/\¬((x % 15 % 3 == 0)=true/\ks.map (·.1)≠[])/\σ'=[some (.int x),some (.ref a),some (.ref rd),some (.ref l),some (.int ((d:Nat):Int)),some (.int (x % 15)),some (.int (x / 15)),none,none,none,none]) (fun RR hRR=>?_) ?_
   ·refine ⟨_,rfl,_,_,rfl,rfl,(by show (0:Int)<3;decide),rfl,_,rfl,?_⟩
    dsimp only
    rw [gR]
    refine gj (fun h1=>?_) (fun h1=>?_)
    ·refine ⟨_,rfl,fun p0 hp0=>⟨a,p0,bR ks,rfl,rfl,(ao hp0) _ _ ha,aj,_,rfl,?_⟩⟩
     have sp:=ao (o:=.dK []) hp0
     have ha2:=sp _ _ ha
     by_cases hk0:ks=[]
     ·refine aM (by rw [hk0];rfl) ?_
      exact hRR _ _ ⟨sp,fun z=>z.2 (by rw [hk0];rfl),rfl⟩
     ·have hpos:0<ks.length:=List.length_pos_iff.mpr hk0
      refine bg (by cases ks with | nil=>exact absurd rfl hk0 | cons _ _=>rfl) ?_
      have hn0:ks.map (·.1)≠[]:=fun z=>hk0 (List.map_eq_nil_iff.mp z)
      generalize af H p0 (.dK [])=H2 at sp ha2 ⊢
      unfold gC at kq
      rw [if_pos ⟨h1,hn0⟩] at kq
      have hlen:(ks.map (·.1)).length=ks.length:=Qf ..
      have m0:=Int.emod_nonneg (x / 15) (show ((ks.length:Nat):Int)≠0 by omega)
      have m1:=Int.emod_lt_of_pos (x / 15) (show (0:Int)<((ks.length:Nat):Int) by omega)
      obtain ⟨j,ej⟩:∃ j:Nat,x / 15 % ((ks.length:Nat):Int)=((j:Nat):Int):=⟨(x / 15 % ((ks.length:Nat):Int)).toNat,by omega⟩
      have hj:j<ks.length:=by omega
      rw [hlen,ej,Int.toNat_natCast] at kq
      refine ⟨_,rfl,a,bR ks,rfl,ha2,fun q hq=>?_⟩
      have sq:=ao (o:=.lst ((bR ks).map fun kv=>kV kv.1)) hq
      have hkl2:(bR ks).length=ks.length:=by unfold bR;rw [Qf]
      refine ⟨_,rfl,_,rfl,a,bR ks,rfl,sq _ _ ha2,_,_,rfl,rfl,?_,q,_,_,.str ((ks.map (·.1)).getD j ""),rfl,rfl,am.of aj,?_,(by show 2<=sizeLine;decide),fun p hp=>?_⟩
      ·rw [hkl2];show (0:Int)<((ks.length:Nat):Int);omega
      ·rw [hkl2]
       show dG _ (x / 15 % ((ks.length:Nat):Int))=_
       rw [ej,eks]
       exact ap (ei (by rw [hlen];exact hj))
      exact kq _ _ ((sp.trans sq).trans (ao hp)) (.name aj)
    ·exact dh (hRR _ _ ⟨Same.refl _,fun z=>h1 z.1,rfl⟩)
   ·rintro σ' H2 ⟨SS,hno,rfl⟩
    unfold gC at kq
    rw [if_neg hno] at kq
    refine ⟨_,rfl,_,_,rfl,rfl,(by show (0:Int)<3;decide),rfl,_,rfl,?_⟩
    dsimp only
    rw [gR]
    refine gj (fun h2=>?_) (fun h2=>?_)
    ·rw [if_pos h2] at kq
     obtain ⟨j,ej,hj⟩:=cI (a:=x / 15) (n:=2) (by decide)
     have ej:x / 15 % 2=((j:Nat):Int):=ej
     rw [ej,Int.toNat_natCast] at kq
     refine ⟨(by show 2<=sizeLine;decide),fun q hq=>?_⟩
     refine ⟨_,rfl,_,_,rfl,rfl,(by show (0:Int)<2;decide),q,_,_,.str (jC.getD j ""),rfl,rfl,am.of aj,?_,(by show 2<=sizeLine;decide),fun p hp=>?_⟩
     ·rw [ej];exact ap (B5 hj)
     exact kq _ _ (SS.trans ((ao hq).trans (ao hp))) (.truth aj)
    rw [if_neg h2] at kq
    refine ⟨_,rfl,_,_,rfl,rfl,⟨by decide,by decide⟩,_,_,rfl,rfl,(by show (0:Int)<10 ^ 18;decide),(by show 2<=sizeLine;decide),fun p hp=>?_⟩
    exact kq _ _ (SS.trans (ao hp)) (.num aj)
  ·have hd0:d≠0:=fun z=>hleaf (.inl z)
   have h6:¬ x % 15<6:=fun z=>hleaf (.inr z)
   obtain ⟨e,rfl⟩:∃ e,d=e+1:=⟨d-1,by omega⟩
   have eex:cz R (ks.map (·.1)) (e+1) x=(if decide (x % 15<9)=true then .of (R.ns.getD (x / 15 % 4).toNat "") (cz R (ks.map (·.1)) e (aZ x 1))
     else if decide (x % 15<12)=true then .many "new" (R.ns.getD (4+(x / 15 % 2).toNat) "") ((List.range (R.f (x / 15 % 2).toNat).length).map fun k=>cz R (ks.map (·.1)) e (aZ x (2+((k:Nat):Int))))
     else if (x % 15 == 12)=true then .many "do" (R.ns.getD 6 "") [cz R (ks.map (·.1)) e (aZ x 1)]
     else .op (eF.getD (x % 15 % 2).toNat "") (cz R (ks.map (·.1)) e (aZ x 1)) (cz R (ks.map (·.1)) e (aZ x 2))):=by
    show (if decide (x % 15<6)=true then _ else _)=_
    rw [if_neg (by rw [Qi h6];exact Bool.false_ne_true)]
   rw [eex] at kq
   have ed:((((e+1:Nat):Int))-1)=((e:Nat):Int):=by omega
   refine ⟨_,rfl,rfl,_,rfl,?_⟩
   refine aM (Qi fun z=>by injection z;omega) ?_
   refine ⟨_,rfl,_,_,rfl,rfl,_,rfl,?_⟩
   refine aM (Qi h6) ?_
   dsimp only [iI]
   refine ⟨_,rfl,_,_,rfl,_,rfl,_,rfl,_,rfl,_,rfl,_,_,rfl,rfl,?_⟩
   refine ⟨aZ x 1,a,rd,l,ks,R,e,by rw [<- ed];rfl,ha,hkl,hR,by omega,fun v1 H1 s1 hE1=>?_⟩
   dsimp only [aX]
   have hR1:=hR.same s1
   have ha1:=s1 _ _ ha
   have hn7:=hR.n7
   refine ⟨_,rfl,_,_,rfl,rfl,_,rfl,?_⟩
   refine gj (fun h9=>?_) (fun h9=>?_)
   ·rw [if_pos h9] at kq
    obtain ⟨j,ej,hj⟩:=cI (a:=x / 15) (n:=4) (by decide)
    have ej:x / 15 % 4=((j:Nat):Int):=ej
    rw [ej,Int.toNat_natCast] at kq
    refine ⟨_,rfl,_,rfl,_,_,rfl,rfl,(by show (0:Int)<4;decide),l,_,_,.str (R.ns.getD j ""),rfl,rfl,am.of hR1.nl,?_,_,rfl,(by show 3<=sizeLine;decide),fun t ht=>?_⟩
    ·rw [ej];exact ap (ei (by omega))
    have st:=ao (o:=.tup [.str "of",.str (R.ns.getD j ""),v1]) ht
    exact kq _ _ (s1.trans st) (.of aj (hE1.kept st.ls.1))
   rw [if_neg h9] at kq
   refine ⟨_,rfl,_,_,rfl,rfl,_,rfl,?_⟩
   refine gj (fun h12=>?_) (fun h12=>?_)
   ·rw [if_pos h12] at kq
    obtain ⟨j,ej,hj⟩:=cI (a:=x / 15) (n:=2) (by decide)
    have ej:x / 15 % 2=((j:Nat):Int):=ej
    rw [ej,Int.toNat_natCast] at kq
    refine ⟨_,rfl,_,rfl,_,_,rfl,rfl,(by show (0:Int)<2;decide),_,_,rfl,rfl,l,_,_,.str (R.ns.getD (4+j) ""),rfl,rfl,am.of hR1.nl,?_,?_⟩
    ·show dG _ ((4:Int)+x / 15 % 2)=_
     rw [ej,show (4:Int)+((j:Nat):Int)=((4+j:Nat):Int) by omega]
     exact ap (ei (by omega))
    dsimp only [aX]
    refine ⟨(by show 0<=sizeLine;decide),fun pq hpq=>?_⟩
    dsimp only [aX]
    have s2:=ao (o:=.lst []) hpq
    have hR2:=hR1.same s2
    have ha2:=s2 _ _ ha1
    refine d5 (fun σ' H'=>Same H1 H'/\(∃ vs,H' pq=some (.lst vs)/\ExsAt H' vs ((List.range (R.f j).length).map fun k=>cz R (ks.map (·.1)) e (aZ x (2+((k:Nat):Int)))))/\∃ x10,σ'=[some (.int x),some (.ref a),some (.ref rd),some (.ref l),some (.int ((e+1:Nat):Int)),some (.int (x % 15)),some (.int (x / 15)),some v1,some (.str (R.ns.getD (4+j) "")),some (.ref pq),x10]) (fun RR hRR=>?_) ?_
    ·obtain ⟨pj,hdg,⟨us,hpj,hul,_⟩,hf3⟩:=hR2.get hj
     have eul:(us.map V.ref).length=(R.f j).length:=by rw [Qf];exact hul
     refine ⟨_,rfl,_,rfl,rd,_,rfl,hdg,pj,_,rfl,.inl (am.of hpj),_,rfl,?_,?_,?_⟩
     ·rw [eul];omega
     ·rw [eul];omega
     rw [eul,Int.toNat_natCast]
     refine lR (D:=⟨RR,_,RR,RR⟩) (fun i σ' H'=>Same H1 H'/\(∃ vs,H' pq=some (.lst vs)/\vs.length=i/\ExsAt H' vs ((List.range i).map fun k=>cz R (ks.map (·.1)) e (aZ x (2+((k:Nat):Int)))))/\∃ x10,σ'=[some (.int x),some (.ref a),some (.ref rd),some (.ref l),some (.int ((e+1:Nat):Int)),some (.int (x % 15)),some (.int (x / 15)),some v1,some (.str (R.ns.getD (4+j) "")),some (.ref pq),x10]) ⟨s2,⟨[],aj,rfl,.nil⟩,_,rfl⟩ ?_ ?_
     ·rintro i σ' H' hi ⟨sm,⟨vs,hvs,hvl,hE⟩,x10,rfl⟩
      rw [Int.zero_add]
      refine ⟨_,rfl,.inl ⟨rfl,_,am.of hvs⟩,_,rfl,_,rfl,_,_,rfl,rfl,_,_,rfl,_,rfl,_,rfl,_,rfl,_,rfl,_,_,rfl,rfl,?_⟩
      refine ⟨aZ x (2+((i:Nat):Int)),a,rd,l,ks,R,e,by rw [<- ed];rfl,sm _ _ ha1,hkl,hR1.same sm,by omega,fun v3 H3 s3 hE3=>?_⟩
      refine ⟨pq,vs,_,rfl,rfl,s3 _ _ hvs,cR (by omega),?_⟩
      have tp:cT H3 (af H3 pq (.lst (vs++[v3]))):=fun b zs hb=>by
       rw [ar (fun z=>by rw [z,s3 _ _ hvs] at hb;cases hb)];exact hb
      refine ⟨fun b o hb=>?_,⟨_,aj,by simp [hvl],?_⟩,_,rfl⟩
      ·rw [ar (fun z=>by rw [z,hpq] at hb;cases hb)];exact s3 _ _ (sm _ _ hb)
      ·rw [List.range_succ,QK]
       exact uj ((hE.kept s3.ls.1).kept tp) (hE3.kept tp)
     ·rintro σ' H' ⟨sm,⟨vs,hvs,hvl,hE⟩,x10,rfl⟩
      exact hRR _ _ ⟨sm,⟨vs,hvs,hE⟩,x10,rfl⟩
    ·rintro σ' H' ⟨sm,⟨vs,hvs,hE⟩,x10,rfl⟩
     refine ⟨_,rfl,_,rfl,pq,vs,rfl,.inl ⟨am.of hvs,fun t1 ht1=>⟨(by show 3<=sizeLine;decide),fun t2 ht2=>?_⟩⟩⟩
     have st1:=ao (o:=.tup vs) ht1
     have st2:=ao (o:=.tup [.str "new",.str (R.ns.getD (4+j) ""),.ref t1]) ht2
     exact kq _ _ ((s1.trans sm).trans (st1.trans st2)) (.many aj (st2 _ _ aj) (hE.kept (st1.trans st2).ls.1))
   rw [if_neg h12] at kq
   refine ⟨_,rfl,rfl,_,rfl,?_⟩
   dsimp only
   rw [gR]
   refine gj (fun h13=>?_) (fun h13=>?_)
   ·rw [if_pos h13] at kq
    refine ⟨_,rfl,l,_,_,.str (R.ns.getD 6 ""),rfl,rfl,am.of hR1.nl,ap (j:=6) (ei (by omega)),_,rfl,(by show 1<=sizeLine;decide),fun t1 ht1=>⟨(by show 3<=sizeLine;decide),fun t2 ht2=>?_⟩⟩
    have st1:=ao (o:=.tup [v1]) ht1
    have st2:=ao (o:=.tup [.str "do",.str (R.ns.getD 6 ""),.ref t1]) ht2
    exact kq _ _ ((s1.trans st1).trans st2) (.many aj (st2 _ _ aj) (.cons (hE1.kept (st1.trans st2).ls.1) .nil))
   ·rw [if_neg h13] at kq
    obtain ⟨j,ej,hj⟩:=cI (a:=x % 15) (n:=2) (by decide)
    have ej:x % 15 % 2=((j:Nat):Int):=ej
    rw [ej,Int.toNat_natCast] at kq
    refine ⟨(by show 2<=sizeLine;decide),fun q hq=>?_⟩
    have sq:=ao (o:=.lst (eF.map V.str)) hq
    refine ⟨_,rfl,_,_,rfl,rfl,(by show (0:Int)<2;decide),q,_,_,.str (eF.getD j ""),rfl,rfl,am.of aj,?_,_,rfl,_,rfl,_,_,rfl,_,rfl,_,rfl,_,rfl,_,rfl,_,_,rfl,rfl,?_⟩
    ·rw [ej];exact ap (B6 hj)
    refine ⟨aZ x 2,a,rd,l,ks,R,e,by rw [<- ed];rfl,sq _ _ ha1,hkl,hR1.same sq,by omega,fun v2 H2 s2 hE2=>⟨(by show 3<=sizeLine;decide),fun t ht=>?_⟩⟩
    have st:=ao (o:=.tup [.str (eF.getD j ""),v1,v2]) ht
    exact kq _ _ (((s1.trans sq).trans s2).trans st) (.op aj (hE1.kept ((sq.trans s2).trans st).ls.1) (hE2.kept st.ls.1))
theorem Ca (T:All P w K mg AA DD):aE P w K mg base aI 1 AA.ZH DD.ZH ["_law_number","_law_known","_law_records","_law_names_here","_law_deep"] (jD 0):=by
 have no:∀ vs H Q E,¬ jD 0 vs H Q E:=fun vs H Q E h=>by
  obtain ⟨x,a,rd,l,ks,R,d,_,_,_,_,z,_⟩:=h
  omega
 exact T.F_ZH.ok n8 (fun vs H Q E h=>(no _ _ _ _ h).elim) (fun cdv A outer s H vs Q E hr h=>(no _ _ _ _ h).elim)
theorem uk (T:All P w K mg AA DD):∀ k:Nat,aE P w K mg base aI (k+1) AA.ZH DD.ZH ["_law_number","_law_known","_law_records","_law_names_here","_law_deep"] (jD k)
 | 0=>Ca T
 | k+1=>B9 T k (uk T k)
end
section
variable {P:Program} {w:World} {K:W.Frag} {mg:Str->Option Value} {base:Heap} {AA:bG} {DD:bH}
noncomputable abbrev Rc.n4 (R:Rc):Str:=R.ns.getD 4 ""
noncomputable abbrev Rc.n5 (R:Rc):Str:=R.ns.getD 5 ""
noncomputable abbrev Rc.n6 (R:Rc):Str:=R.ns.getD 6 ""
noncomputable def Rc.fz (R:Rc) (z:Str):List (Str × Str):=if z=R.n4 then R.f0 else R.f1
mutual
noncomputable def cA (R:Rc) (kn:List Str):Ex->Prop
 | .num _=>True
 | .truth _=>True
 | .name z=>z∈kn
 | .not _=>False
 | .op w a b=>(w="+"∨w="and")/\cA R kn a/\cA R kn b
 | .of _ e=>cA R kn e
 | .many w z es=>((w="new"/\(z=R.n4∨z=R.n5)/\es.length=(R.fz z).length)∨(w="do"/\z=R.n6/\es.length=1))/\il R kn es
noncomputable def il (R:Rc) (kn:List Str):List Ex->Prop
 | []=>True
 | e::es=>cA R kn e/\il R kn es
end
theorem ul {R:Rc} {kn:List Str}:∀ {es:List Ex} {e:Ex},il R kn es->e∈es->cA R kn e
 | x::es,e,g,h=>by
  rcases Qu h with z | z
  ·subst z;exact g.1
  ·exact ul g.2 z
theorem um {R:Rc} {kn:List Str}:∀ {es:List Ex},(∀ e∈es,cA R kn e)->il R kn es
 | [],_=>trivial
 | x::es,h=>⟨h x (by simp),um fun e he=>h e (by simp [he])⟩
noncomputable def bZ (R:Rc):Ex->List (Ex × Str)
 | .many w z es=>if w="new" then (es.zip (R.fz z)).map fun p=>(p.1,p.2.2) else es.map fun e=>(e,R.n4)
 | .op w a b=>if w="+" then [(a,"num"),(b,"num")] else [(a,"truth"),(b,"truth")]
 | _=>[]
theorem uo (R:Rc) (a b:Ex):bZ R (.op "+" a b)=([(a,"num"),(b,"num")]:List (Ex × Str)):=by
 show (if ("+":Str)="+" then [(a,"num"),(b,"num")] else [(a,"truth"),(b,"truth")]:List (Ex × Str))=_
 exact if_pos rfl
theorem uq (R:Rc) (a b:Ex):bZ R (.op "and" a b)=([(a,"truth"),(b,"truth")]:List (Ex × Str)):=by
 show (if ("and":Str)="+" then [(a,"num"),(b,"num")] else [(a,"truth"),(b,"truth")]:List (Ex × Str))=_
 exact if_neg (by decide)
theorem ur (R:Rc) (z:Str) (es:List Ex):bZ R (.many "new" z es)=(es.zip (R.fz z)).map fun p=>(p.1,p.2.2):=by
 show (if ("new":Str)="new" then (es.zip (R.fz z)).map (fun p=>(p.1,p.2.2)) else es.map fun e=>(e,R.n4))=_
 exact if_pos rfl
theorem ut (R:Rc) (z:Str) (es:List Ex):bZ R (.many "do" z es)=es.map fun e=>(e,R.n4):=by
 show (if ("do":Str)="new" then (es.zip (R.fz z)).map (fun p=>(p.1,p.2.2)) else es.map fun e=>(e,R.n4))=_
 exact if_neg (by decide)
noncomputable def uv (H0 H:Hp) (p:Addr) (xs:List (Ex × Str)):Prop:=∃ us:List Addr,H p=some (.lst (us.map V.ref))/\us.length=xs.length/\∀ (i:Nat) (u:Addr) (q:Ex × Str),us[i]?=some u->xs[i]?=some q->∃ v d,H u=some (.tup [v,.ref d])/\a7 H v q.1/\H d=some (.lst [.str q.2])/\H0 d=none
noncomputable def og:Ex->Prop
 | .of _ _=>True
 | .many _ _ _=>True
 | .op _ _ _=>True
 | _=>False
noncomputable def Cb:Sp:=fun vs H Q _=>∃ (v:V) (e:Ex) (rd l:Addr) (R:Rc) (kn:List Str),vs=[v,.ref rd,.ref l]/\a7 H v e/\cA R kn e/\og e/\RcAt H rd l R/\∀ p H',H p=none->Same H H'->uv H H' p (bZ R e)->Q (.ref p) H'
theorem Cc (H0 H:Hp) (p:Addr) (h:H p=some (.lst [])):uv H0 H p []:=⟨[],h,rfl,fun i u q x=>by simp at x⟩
noncomputable abbrev uw:List Str:=["_law_e","_law_records","_law_names_here"]
theorem ux:ba uw ["_law_e","_law_records","_law_names_here"] (aK kW):=⟨rfl,rfl,rfl,by decide +kernel,rfl,by decide +kernel,by decide +kernel⟩
theorem Cd (T:All P w K mg AA DD):aE P w K mg base aI 1 AA.ZD DD.ZD ["_law_e","_law_records","_law_names_here"] Cb:=by
 refine T.F_ZD.ok ux (fun vs H Q E h=>?_) (fun cdv A outer s H vs Q E hr h=>?_)
 ·obtain ⟨v,e,rd,l,R,kn,rfl,_⟩:=h
  rfl
 ·obtain ⟨v,e,rd,l,R,kn,rfl,hE,hg,hN,hR,kq⟩:=h
  have nd:=ux.nd
  have hu:=QF (Nat.add_le_add_left (show 1<=64 by decide) _) hr.units
  refine ⟨_,(av (be (aY bE (au (aH (K:=K) rfl) (pv 0) ai (fun _ _=>rfl)) aD (a6 _)) (aq (aO (gm (xs:=["_law_part","_law_field"]) (aK kW) uw [] [] rfl (by exact ⟨rfl,rfl,by decide +kernel,by decide +kernel,by decide +kernel,by decide +kernel,by decide +kernel,rfl,by decide +kernel⟩) rfl rfl (qy true rfl T.n_zip (aa (au (aH (K:=K) rfl) (pv 0) ai (fun _ _=>rfl)) (aa (gp hu (pv 1) (au (aH (K:=K) rfl) (pv 0) ai (fun _ _=>rfl)) (fun _ _=>rfl)) ag))) (fun _ _ _ _=>(fk (K:=K) (n:=2) rfl rfl (a8 (aT (i:=0) (show (["_law_part","_law_field"]:List Str).Nodup by decide +kernel) rfl (Or.inl rfl)) (a8 (aT (i:=1) (show (["_law_part","_law_field"]:List Str).Nodup by decide +kernel) rfl (Or.inl rfl)) cg)))) (fun _ _ _ _=>d4) (fun _ _ _ _=>(aV (aa (pv 0) (aa (bB (aa (au (aH (K:=K) rfl) (pv 1) ai (fun _ _=>rfl)) ag)) ag))))))) bo) (av (be (aY bE (au (aH (K:=K) rfl) (pv 0) ai (fun _ _=>rfl)) aD (a6 _)) (aq (aO (bB (aa (aV (aa (au (aH (K:=K) rfl) (au (aH (K:=K) rfl) (pv 0) ai (fun _ _=>rfl)) ai (fun _ _=>rfl)) (aa (bB (aa (au (cS (K:=K) rfl) (pv 2) ai (fun _ _=>rfl)) ag)) ag))) ag)))) bo) (av (be (aY bE (au (aH (K:=K) rfl) (pv 0) ai (fun _ _=>rfl)) aD (a6 _)) (aq (aO (bB (aa (aV (aa (au (aH (K:=K) rfl) (pv 0) ai (fun _ _=>rfl)) (aa (bB (aa aD ag)) ag))) (aa (aV (aa (au (aH (K:=K) rfl) (pv 0) ai (fun _ _=>rfl)) (aa (bB (aa aD ag)) ag))) ag))))) bo) (av (be (aY bE (au (aH (K:=K) rfl) (pv 0) ai (fun _ _=>rfl)) aD (a6 _)) (aq (aO (bB (aa (aV (aa (au (aH (K:=K) rfl) (pv 0) ai (fun _ _=>rfl)) (aa (bB (aa aD ag)) ag))) (aa (aV (aa (au (aH (K:=K) rfl) (pv 0) ai (fun _ _=>rfl)) (aa (bB (aa aD ag)) ag))) ag))))) bo) (aq (aO (bB ag))))))),?_⟩
  have two:∀ (va vb:V) (a b:Ex) (z:Str),a7 H va a->a7 H vb b->bZ R e=[(a,z),(b,z)]->∀ d1,H d1=none->∀ t1,af H d1 (.lst [.str z]) t1=none->∀ d2,af (af H d1 (.lst [.str z])) t1 (.tup [va,.ref d1]) d2=none->∀ t2,af (af (af H d1 (.lst [.str z])) t1 (.tup [va,.ref d1])) d2 (.lst [.str z]) t2=none->∀ p,af (af (af (af H d1 (.lst [.str z])) t1 (.tup [va,.ref d1])) d2 (.lst [.str z])) t2 (.tup [vb,.ref d2]) p=none->Q (.ref p) (af (af (af (af (af H d1 (.lst [.str z])) t1 (.tup [va,.ref d1])) d2 (.lst [.str z])) t2 (.tup [vb,.ref d2])) p (.lst [.ref t1,.ref t2])):=fun va vb a b z hA hB ep d1 h1 t1 h2 d2 h3 t2 h4 p h5=>by
   have s1:=ao (o:=.lst [.str z]) h1
   have s2:=ao (o:=.tup [va,.ref d1]) h2
   have s3:=ao (o:=.lst [.str z]) h3
   have s4:=ao (o:=.tup [vb,.ref d2]) h4
   have s5:=ao (o:=.lst [.ref t1,.ref t2]) h5
   have sA:=(((s1.trans s2).trans s3).trans s4).trans s5
   refine kq p _ ((((s1.trans s2).trans s3).trans s4).free h5) sA ?_
   rw [ep]
   refine ⟨[t1,t2],aj,rfl,fun i u q x y=>?_⟩
   match i with
   | 0=>cases (show some t1=some u from x);cases (show some (a,z)=some q from y);exact ⟨va,d1,s5 _ _ (s4 _ _ (s3 _ _ aj)),hA.kept sA.ls.1,s5 _ _ (s4 _ _ (s3 _ _ (s2 _ _ aj))),h1⟩
   | 1=>cases (show some t2=some u from x);cases (show some (b,z)=some q from y);exact ⟨vb,d2,s5 _ _ aj,hB.kept sA.ls.1,s5 _ _ (s4 _ _ aj),(s1.trans s2).free h3⟩
   | i+2=>simp at x
  cases e with
  | num _=>exact hN.elim
  | truth _=>exact hN.elim
  | name _=>exact hN.elim
  | not _=>exact hN.elim
  | of n e =>
   cases hE with
   | of ht hv =>
   refine ⟨_,rfl,_,_,_,_,rfl,rfl,ah.of ht,ap (j:=0) rfl,rfl,_,rfl,aM (by decide +kernel) ?_⟩
   refine ⟨_,rfl,_,_,_,_,rfl,rfl,ah.of ht,ap (j:=0) rfl,rfl,_,rfl,aM (by decide +kernel) ?_⟩
   refine ⟨_,rfl,_,_,_,_,rfl,rfl,ah.of ht,ap (j:=0) rfl,rfl,_,rfl,aM (by decide +kernel) ?_⟩
   refine ⟨_,rfl,_,_,_,_,rfl,rfl,ah.of ht,ap (j:=0) rfl,rfl,_,rfl,aM (by decide +kernel) ?_⟩
   refine ⟨(by show 0<=sizeLine;decide),fun p hp=>?_⟩
   exact kq p _ hp (ao hp) (Cc _ _ _ aj)
  | op w a b =>
   cases hE with
   | op ht ha hb =>
   rcases hg.1 with rfl | rfl
   ·refine ⟨_,rfl,_,_,_,_,rfl,rfl,ah.of ht,ap (j:=0) rfl,rfl,_,rfl,aM (by decide +kernel) ?_⟩
    refine ⟨_,rfl,_,_,_,_,rfl,rfl,ah.of ht,ap (j:=0) rfl,rfl,_,rfl,aM (by decide +kernel) ?_⟩
    refine ⟨_,rfl,_,_,_,_,rfl,rfl,ah.of ht,ap (j:=0) rfl,rfl,_,rfl,bg (by decide +kernel) ?_⟩
    refine ⟨_,rfl,_,_,_,_,rfl,rfl,ah.of ht,ap (j:=1) rfl,(by show 1<=sizeLine;decide),fun d1 h1=>⟨(by show 2<=sizeLine;decide),fun t1 h2=>?_⟩⟩
    refine ⟨_,rfl,_,_,_,_,rfl,rfl,ah.of ((ao h2) _ _ ((ao h1) _ _ ht)),ap (j:=2) rfl,(by show 1<=sizeLine;decide),fun d2 h3=>⟨(by show 2<=sizeLine;decide),fun t2 h4=>⟨(by show 2<=sizeLine;decide),fun p h5=>?_⟩⟩⟩
    exact two _ _ a b "num" ha hb (uo R a b) d1 h1 t1 h2 d2 h3 t2 h4 p h5
   ·refine ⟨_,rfl,_,_,_,_,rfl,rfl,ah.of ht,ap (j:=0) rfl,rfl,_,rfl,aM (by decide +kernel) ?_⟩
    refine ⟨_,rfl,_,_,_,_,rfl,rfl,ah.of ht,ap (j:=0) rfl,rfl,_,rfl,aM (by decide +kernel) ?_⟩
    refine ⟨_,rfl,_,_,_,_,rfl,rfl,ah.of ht,ap (j:=0) rfl,rfl,_,rfl,aM (by decide +kernel) ?_⟩
    refine ⟨_,rfl,_,_,_,_,rfl,rfl,ah.of ht,ap (j:=0) rfl,rfl,_,rfl,bg (by decide +kernel) ?_⟩
    refine ⟨_,rfl,_,_,_,_,rfl,rfl,ah.of ht,ap (j:=1) rfl,(by show 1<=sizeLine;decide),fun d1 h1=>⟨(by show 2<=sizeLine;decide),fun t1 h2=>?_⟩⟩
    refine ⟨_,rfl,_,_,_,_,rfl,rfl,ah.of ((ao h2) _ _ ((ao h1) _ _ ht)),ap (j:=2) rfl,(by show 1<=sizeLine;decide),fun d2 h3=>⟨(by show 2<=sizeLine;decide),fun t2 h4=>⟨(by show 2<=sizeLine;decide),fun p h5=>?_⟩⟩⟩
    exact two _ _ a b "truth" ha hb (uq R a b) d1 h1 t1 h2 d2 h3 t2 h4 p h5
  | many w z es =>
   cases hE with
   | @many t lt _ _ vs _ ht hl hvs =>
   rcases hg.1 with ⟨rfl,hz,hlen⟩ | ⟨rfl,hz,hlen⟩
   ·refine ⟨_,rfl,_,_,_,_,rfl,rfl,ah.of ht,ap (j:=0) rfl,rfl,_,rfl,bg (by decide +kernel) ?_⟩
    obtain ⟨pj,hdg,⟨us,hpj,hul,hus⟩⟩:∃ p,bt H rd (.str z) (some (.ref p))/\dm H p (R.fz z):=by
     rcases hz with rfl | rfl
     ·obtain ⟨p,a,b,_⟩:=hR.get (j:=0) (by decide)
      exact ⟨p,a,by have e:R.fz R.n4=R.f 0:=if_pos rfl;rw [e];exact b⟩
     ·obtain ⟨p,a,b,_⟩:=hR.get (j:=1) (by decide)
      exact ⟨p,a,by have e:R.fz R.n5=R.f 1:=if_neg (Ne.symm hR.ne);rw [e];exact b⟩
    have hvl:=hvs.len
    refine ⟨_,rfl,t,_,_,_,rfl,rfl,ah.of ht,ap (j:=2) rfl,_,rfl,_,rfl,t,_,_,_,rfl,rfl,ah.of ht,ap (j:=1) rfl,rd,_,rfl,hdg,lt,pj,vs,us.map V.ref,rfl,ah.of hl,am.of hpj,?_⟩
    have epr:=ur R z es
    rw [epr] at kq
    have e3:es.length<=3:=by
     rw [hlen]
     unfold Rc.fz
     split
     ·exact hR.l3.1
     ·exact hR.l3.2
    refine yq (K:=K) (a:=lt) (b:=pj) (xs:=vs) (ys:=us.map V.ref) (fun i zs H'=>Same H H'/\i<=3/\∃ ws:List Addr,zs=ws.map V.ref/\ws.length=i/\∀ (j:Nat) (u:Addr) (q:Ex × Str),ws[j]?=some u->((es.zip (R.fz z)).map fun p=>(p.1,p.2.2))[j]?=some q->∃ v d,H' u=some (.tup [v,.ref d])/\a7 H' v q.1/\H' d=some (.lst [.str q.2])/\H d=none) ⟨Same.refl _,Qr _,[],rfl,rfl,fun j u q h=>by simp at h⟩ (fun i zs H' h=>⟨ah.of (h.1 _ _ hl),am.of (h.1 _ _ hpj)⟩) ?_ ?_
    ·rintro i x y zs H2 tt hx hy ⟨sm,hi3,ws,rfl,hwl,hws⟩ htt
     obtain ⟨c,hc,hcx⟩:=hvs.get hx
     rw [Qk] at hy
     obtain ⟨u5,hu5,rfl⟩:=Option.map_eq_some_iff.mp hy
     have hif:i<(R.fz z).length:=by have:=(Qc hu5).1;omega
     have hie:i<es.length:=(Qc hc).1
     have hq5:(R.fz z)[i]?=some (R.fz z)[i]:=Qb hif
     have htu:=hus i u5 _ hu5 hq5
     have st:=ao (o:=.tup [x,.ref u5]) htt
     intro os hos
     obtain ⟨o1,o2,rfl⟩:∃ a b,os=[a,b]:=by
      match os,hos with
      | [a,b],_=>exact ⟨a,b,rfl⟩
     refine ⟨tt,_,rfl,ah.of aj,rfl,_,_,rfl,_,_,rfl,rfl,⟨[_,_],rfl,rfl⟩,?_⟩
     refine dZ ?_
     rw [if_pos rfl]
     refine ⟨_,rfl,_,rfl,u5,_,_,_,rfl,rfl,ah.of (st _ _ (sm _ _ htu)),ap (j:=1) rfl,(by show 1<=sizeLine;decide),fun d hd=>⟨(by show 2<=sizeLine;decide),fun t2 ht2=>?_⟩⟩
     have s1:=ao (o:=.lst [.str ((R.fz z)[i]).2]) hd
     have s2:=ao (o:=.tup [x,.ref d]) ht2
     have sn:=(st.trans s1).trans s2
     refine ⟨by rw [Qf];exact cr (by omega),sm.trans sn,by omega,ws++[t2],by simp,by simp [hwl],fun j u q h1 h2=>?_⟩
     by_cases hj':j<ws.length
     ·rw [Qw hj'] at h1
      obtain ⟨v,d',a1,a2,a3,a4⟩:=hws j u q h1 h2
      exact ⟨v,d',sn _ _ a1,a2.kept sn.ls.1,sn _ _ a3,a4⟩
     ·have hje:j=i:=by have:=(Qc h1).1;simp at this;omega
      subst hje
      rw [Qq (by omega)] at h1
      have e1:u=t2:=by simpa [hwl] using h1.symm
      subst e1
      have ez:(es.zip (R.fz z))[j]?=some (c,(R.fz z)[j]):=by
       rw [List.getElem?_zip_eq_some]
       exact ⟨hc,hq5⟩
      rw [Qk,ez] at h2
      cases h2
      exact ⟨x,d,aj,(hcx.kept sm.ls.1).kept sn.ls.1,s2 _ _ aj,sm.free (st.free hd)⟩
    ·rintro zs H2 ⟨sm,hi3,ws,rfl,hwl,hws⟩ p hp
     have sp:=ao (o:=.lst (ws.map V.ref)) hp
     refine kq p _ (sm.free hp) (sm.trans sp) ⟨ws,aj,?_,fun i u q x y=>?_⟩
     ·rw [hwl,Qf,Qf,List.length_zip,hvl,hul]
     ·obtain ⟨v,d',a1,a2,a3,a4⟩:=hws i u q x y
      exact ⟨v,d',sp _ _ a1,a2.kept sp.ls.1,sp _ _ a3,a4⟩
   ·refine ⟨_,rfl,_,_,_,_,rfl,rfl,ah.of ht,ap (j:=0) rfl,rfl,_,rfl,aM (by decide +kernel) ?_⟩
    refine ⟨_,rfl,_,_,_,_,rfl,rfl,ah.of ht,ap (j:=0) rfl,rfl,_,rfl,bg (by decide +kernel) ?_⟩
    obtain ⟨e1,rfl⟩:∃ e1,es=[e1]:=List.length_eq_one_iff.mp hlen
    cases hvs with
    | @cons v1 vs1 _ _ hv1 hvn =>
    have hn7:=hR.n7
    have e0:vs1=[]:=by cases hvn;rfl
    subst e0
    refine ⟨_,rfl,t,_,_,_,rfl,rfl,ah.of ht,ap (j:=2) rfl,lt,_,_,_,rfl,rfl,ah.of hl,ap (j:=0) rfl,_,rfl,l,_,_,.str R.n4,rfl,rfl,am.of hR.nl,ap (j:=4) (ei (by omega)),(by show 1<=sizeLine;decide),fun d1 h1=>⟨(by show 2<=sizeLine;decide),fun t1 h2=>⟨(by show 1<=sizeLine;decide),fun p h3=>?_⟩⟩⟩
    have s1:=ao (o:=.lst [.str R.n4]) h1
    have s2:=ao (o:=.tup [v1,.ref d1]) h2
    have s3:=ao (o:=.lst [.ref t1]) h3
    have sA:=(s1.trans s2).trans s3
    refine kq p _ ((s1.trans s2).free h3) sA ?_
    have epr:bZ R (.many "do" z [e1])=[(e1,R.n4)]:=ut R z [e1]
    rw [epr]
    refine ⟨[t1],aj,rfl,fun i u q x y=>?_⟩
    match i with
    | 0=>cases (show some t1=some u from x);cases (show some (e1,R.n4)=some q from y);exact ⟨v1,d1,s3 _ _ aj,hv1.kept sA.ls.1,s3 _ _ (s2 _ _ aj),h1⟩
    | i+1=>simp at x
end
section
variable {P:Program} {w:World} {K:W.Frag} {mg:Str->Option Value} {base:Heap} {AA:bG} {DD:bH}
noncomputable def az (R:Rc):List Tr:=[.kd 0 R.n4 R.f0,.kd 1 R.n5 R.f1,.df 2 R.n6 R.n4 [("x",R.n4)] [.give 3 (.name "x")]]
structure cB (R:Rc):Prop where
 ne:R.n4≠R.n5
 d0:(R.f0.map (·.1)).Nodup
 d1:(R.f1.map (·.1)).Nodup
 k0:∀ q∈R.f0,q.2∈ce
 k1:∀ q∈R.f1,q.2∈ce
 q4:R.n4≠""/\R.n4∉ce
 q5:R.n5≠""/\R.n5∉ce
noncomputable def cC (k:Str):Kd:=if k="" then none else some k
noncomputable def kS:Option Kd->Str
 | some (some k)=>k
 | _=>""
theorem uy (k:Str):kS (some (cC k))=k:=by
 unfold cC
 by_cases h:k=""
 ·rw [if_pos h,h];rfl
 ·rw [if_neg h];rfl
noncomputable def aJ (ks:List (Str × Str)):Env:=fun z=>(ks.lookup z).map cC
theorem oh (R:Rc):aF ("kind",R.n4) (az R)=some (.kd 0 R.n4 R.f0):=by
 unfold aF az
 rw [List.find?_cons_of_pos (by simp [Tr.hd])]
theorem oi {R:Rc} (h:cB R):aF ("kind",R.n5) (az R)=some (.kd 1 R.n5 R.f1):=by
 unfold aF az
 rw [List.find?_cons_of_neg (by simp [Tr.hd];exact h.ne),List.find?_cons_of_pos (by simp [Tr.hd])]
theorem uz {R:Rc} {z:Str} (h4:z≠R.n4) (h5:z≠R.n5):aF ("kind",z) (az R)=none:=by
 unfold aF az
 rw [List.find?_cons_of_neg (by simp [Tr.hd];exact Ne.symm h4),List.find?_cons_of_neg (by simp [Tr.hd];exact Ne.symm h5),List.find?_cons_of_neg (by simp [Tr.hd];intro z;exact absurd z (by decide))]
 rfl
theorem lv (R:Rc):aF ("def",R.n6) (az R)=some (.df 2 R.n6 R.n4 [("x",R.n4)] [.give 3 (.name "x")]):=by
 unfold aF az
 rw [List.find?_cons_of_neg (by simp [Tr.hd];intro z;exact absurd z (by decide)),List.find?_cons_of_neg (by simp [Tr.hd];intro z;exact absurd z (by decide)),List.find?_cons_of_pos (by simp [Tr.hd])]
theorem lw {R:Rc} (h:cB R) {z:Str} (hz:z=R.n4∨z=R.n5):∃ i,aF ("kind",z) (az R)=some (.kd i z (R.fz z)):=by
 rcases hz with rfl | rfl
 ·exact ⟨0,by rw [oh];unfold Rc.fz;rw [if_pos rfl]⟩
 ·exact ⟨1,by rw [oi h];unfold Rc.fz;rw [if_neg (Ne.symm h.ne)]⟩
noncomputable def bS (k due:Str):List Str:=if k≠""/\k≠due then ["kind"] else []
noncomputable def eT (R:Rc) (k n:Str):List Str:=if k≠""/\bw (az R) (some k) n=none then ["field"] else []
mutual
noncomputable def aR (R:Rc) (ρ:Env):Ex->List Str
 | .op w a b=>aR R ρ a++(bS (kS (aL (az R) ρ a)) (dj (.op w a b))++(aR R ρ b++bS (kS (aL (az R) ρ b)) (dj (.op w a b))))
 | .many w z es=>match aF (br w,z) (az R) with
  | none=>[]
  | some t=>wrL R ρ es t.prs
 | .of n e=>aR R ρ e++eT R (kS (aL (az R) ρ e)) n
 | .num _=>[]
 | .truth _=>[]
 | .name _=>[]
 | .not _=>[]
noncomputable def wrL (R:Rc) (ρ:Env):List Ex->List (Str × Str)->List Str
 | [],_=>[]
 | e::es,qs=>match qs with
  | []=>[]
  | q::qs=>aR R ρ e++(bS (kS (aL (az R) ρ e)) q.2++wrL R ρ es qs)
end
noncomputable def bT (R:Rc) (ρ:Env) (xs:List (Ex × Str)):List Str:=xs.flatMap fun p=>aR R ρ p.1++bS (kS (aL (az R) ρ p.1)) p.2
theorem oj (R:Rc) (ρ:Env):∀ (es:List Ex) (qs:List (Str × Str)),wrL R ρ es qs=bT R ρ ((es.zip qs).map fun p=>(p.1,p.2.2))
 | [],qs=>by simp [wrL,bT]
 | e::es,[]=>by simp [wrL,bT]
 | e::es,q::qs=>by
  rw [wrL,oj R ρ es qs]
  simp [bT]
theorem om {R:Rc} {ρ:Env} {kn:List Str} (hk:cB R) {e:Ex} (hg:cA R kn e) (hn:og e) (ho:∀ n x,e≠.of n x):aR R ρ e=bT R ρ (bZ R e):=by
 cases e with
 | num _=>exact hn.elim
 | truth _=>exact hn.elim
 | name _=>exact hn.elim
 | not _=>exact hn.elim
 | of n x=>exact absurd rfl (ho n x)
 | op w a b =>
  rcases hg.1 with rfl | rfl
  ·rw [uo,aR,show dj (.op "+" a b)="num" from (by show (gy.lookup ("+":Str)).getD "truth"="num";decide +kernel)];simp [bT]
  ·rw [uq,aR,show dj (.op "and" a b)="truth" from (by show (gy.lookup ("and":Str)).getD "truth"="truth";decide +kernel)];simp [bT]
 | many w z es =>
  rcases hg.1 with ⟨rfl,hz,_⟩ | ⟨rfl,hz,hl⟩
  ·obtain ⟨i,hi⟩:=lw hk hz
   rw [ur,aR,gB,hi]
   exact oj R ρ es (R.fz z)
  ·obtain ⟨e1,rfl⟩:=List.length_eq_one_iff.mp hl
   rw [ut,aR,gA,hz,lv]
   show wrL R ρ [e1] [("x",R.n4)]=_
   rw [oj]
   rfl
theorem b5 {H:Hp} {a b:Addr} {o:HO} (h:H a=some o) (hb:H b=none):a≠b:=fun z=>by rw [z,hb] at h;cases h
noncomputable def off (H:Hp) (a:Addr):Hp:=fun b=>if b=a then none else H b
theorem fW {H:Hp} {a b:Addr} (h:b≠a):off H a b=H b:=if_neg h
theorem gD {H:Hp} {a:Addr}:Same (off H a) H:=fun b o h=>by
 unfold off at h
 split at h
 ·cases h
 ·exact h
theorem jE {H:Hp} {a b:Addr} {o:HO} (h:off H a b=some o):b≠a:=fun z=>by rw [z] at h;unfold off at h;rw [if_pos rfl] at h;cases h
theorem oo {H H1 H2:Hp} {a:Addr} (s:Same (off H a) H1) (t:Same (off H1 a) H2):Same (off H a) H2:=fun b o h=>t _ _ (by rw [fW (jE h)];exact s _ _ h)
theorem Ce {H H1:Hp} {a:Addr} (s:Same H H1):Same (off H a) H1:=fun b o h=>s _ _ (gD _ _ h)
theorem oq {H H1:Hp} {a:Addr} (s:Same (off H a) H1):Same (off H a) (off H1 a):=fun b o h=>by rw [fW (jE h)];exact s _ _ h
theorem im {H:Hp} {a:Addr} {xs:List V} (h:H a=some (.lst xs)):cT H (off H a):=fun b ys hb=>by rw [fW (fun z=>by rw [z,h] at hb;cases hb)];exact hb
noncomputable def jF (k:Nat):Sp:=fun vs H Q _=>∃ (v:V) (e:Ex) (a rd l wr:Addr) (ks:List (Str × Str)) (R:Rc) (ws:List Str),vs=[v,.ref a,.ref rd,.ref l,.ref wr]/\a7 H v e/\cA R (ks.map (·.1)) e/\off H wr a=some (.dK (bR ks))/\RcAt (off H wr) rd l R/\cB R/\H wr=some (.lst (ws.map V.str))/\ws.length+(aR R (aJ ks) e).length<=900/\e.deep<k /\
 ∀ H',Same (off H wr) H'->H' wr=some (.lst ((ws++aR R (aJ ks) e).map V.str))->Q (.str (kS (aL (az R) (aJ ks) e))) H'
theorem io (z:Str):∀ ks:List (Str × Str),aU (bR ks) (.inr z)=(ks.lookup z).map V.str
 | []=>rfl
 | p::ks=>by
  show aU ((.inr p.1,.str p.2)::bR ks) (.inr z)=((match z == p.1 with | true=>some p.2 | false=>ks.lookup z).map V.str)
  by_cases h:z=p.1
  ·subst h
   rw [cK rfl,BEq.rfl];rfl
  ·rw [cL (fun q=>h (Sum.inr.inj q).symm),show (z == p.1)=false from beq_eq_false_iff_ne.mpr h]
   exact io z ks
theorem uA {ks:List (Str × Str)} {z:Str} (h:z∈ks.map (·.1)):∃ k,ks.lookup z=some k:=by
 induction ks with
 | nil=>simp at h
 | cons p ks ih =>
  show ∃ k,(match z == p.1 with | true=>some p.2 | false=>ks.lookup z)=some k
  cases hb:z == p.1 with
  | true=>exact ⟨_,rfl⟩
  | false =>
   refine ih ?_
   rcases Qu (show z∈p.1::ks.map (·.1) from h) with q | q
   ·rw [q] at hb;simp at hb
   ·exact q
end
section
variable {P:Program} {w:World} {K:W.Frag} {mg:Str->Option Value} {base:Heap} {AA:bG} {DD:bH}
noncomputable def jG:Ex->Str
 | .num _=>"num"
 | .truth _=>"truth"
 | .name _=>"name"
 | .not _=>"not"
 | .op w _ _=>w
 | .of _ _=>"of"
 | .many w _ _=>w
theorem Cf {H:Hp} {v:V} {e:Ex} (h:a7 H v e):∃ t ys,v=.ref t/\H t=some (.tup (.str (jG e)::ys)):=by
 cases h with
 | num h=>exact ⟨_,_,rfl,h⟩
 | truth h=>exact ⟨_,_,rfl,h⟩
 | name h=>exact ⟨_,_,rfl,h⟩
 | not h a=>exact ⟨_,_,rfl,h⟩
 | op h a b=>exact ⟨_,_,rfl,h⟩
 | of h a=>exact ⟨_,_,rfl,h⟩
 | many h l a=>exact ⟨_,_,rfl,h⟩
theorem uB {R:Rc} {e:Ex} {p:Ex × Str} (hp:p∈bZ R e):(∃ w a b,e=.op w a b/\(p.1=a∨p.1=b))∨∃ w z es,e=.many w z es/\p.1∈es:=by
 cases e with
 | op w a b =>
  refine .inl ⟨w,a,b,rfl,?_⟩
  have hp:p∈(if w="+" then [(a,"num"),(b,"num")] else [(a,"truth"),(b,"truth")]:List (Ex × Str)):=hp
  split at hp<;>simp at hp<;>rcases hp with rfl | rfl<;>simp
 | many w z es =>
  refine .inr ⟨w,z,es,rfl,?_⟩
  have hp:p∈(if w="new" then (es.zip (R.fz z)).map (fun p=>(p.1,p.2.2)) else es.map fun e=>(e,R.n4)):=hp
  split at hp
  ·obtain ⟨q,hq,rfl⟩:=QE hp
   exact (List.of_mem_zip hq).1
  ·obtain ⟨q,hq,rfl⟩:=QE hp
   exact hq
 | _=>simp [bZ] at hp
theorem Cg {R:Rc} {e:Ex}:∀ p∈bZ R e,p.1.deep<e.deep:=fun p hp=>by
 rcases uB hp with ⟨w,a,b,rfl,h⟩ | ⟨w,z,es,rfl,h⟩
 ·rcases h with h | h<;>rw [h]<;>simp [Ex.deep]<;>omega
 ·have:=mO h
  simp [Ex.deep];omega
theorem Ch {R:Rc} {kn:List Str} {e:Ex} (hg:cA R kn e):∀ p∈bZ R e,cA R kn p.1:=fun p hp=>by
 rcases uB hp with ⟨w,a,b,rfl,h⟩ | ⟨w,z,es,rfl,h⟩
 ·rcases h with h | h<;>rw [h]
  ·exact hg.2.1
  ·exact hg.2.2
 ·exact ul hg.2 h
theorem Ci {R:Rc} {kn:List Str} {e:Ex} (hg:cA R kn e):(∃ n,e=.num n)∨(∃ n,e=.truth n)∨(∃ n,e=.name n)∨(og e/\jG e≠"num"/\jG e≠"truth"/\jG e≠"name"):=by
 cases e with
 | num n=>exact .inl ⟨n,rfl⟩
 | truth n=>exact .inr (.inl ⟨n,rfl⟩)
 | name n=>exact .inr (.inr (.inl ⟨n,rfl⟩))
 | not e=>exact hg.elim
 | of n e=>exact .inr (.inr (.inr ⟨trivial,by show ("of":Str)≠"num";decide,by show ("of":Str)≠"truth";decide,by show ("of":Str)≠"name";decide⟩))
 | op w a b =>
  refine .inr (.inr (.inr ⟨trivial,?_⟩))
  rcases hg.1 with rfl | rfl
  ·exact ⟨by show ("+":Str)≠"num";decide,by show ("+":Str)≠"truth";decide,by show ("+":Str)≠"name";decide⟩
  ·exact ⟨by show ("and":Str)≠"num";decide,by show ("and":Str)≠"truth";decide,by show ("and":Str)≠"name";decide⟩
 | many w z es =>
  refine .inr (.inr (.inr ⟨trivial,?_⟩))
  rcases hg.1 with ⟨rfl,_⟩ | ⟨rfl,_⟩
  ·exact ⟨by show ("new":Str)≠"num";decide,by show ("new":Str)≠"truth";decide,by show ("new":Str)≠"name";decide⟩
  ·exact ⟨by show ("do":Str)≠"num";decide,by show ("do":Str)≠"truth";decide,by show ("do":Str)≠"name";decide⟩
theorem Cj (R:Rc) (ρ:Env) (xs:List (Ex × Str)) (p:Ex × Str):bT R ρ (xs++[p])=bT R ρ xs++(aR R ρ p.1++bS (kS (aL (az R) ρ p.1)) p.2):=by
 simp [bT]
theorem Ck {R:Rc} {ρ:Env} {xs:List (Ex × Str)} {i:Nat} {p:Ex × Str} (h:xs[i]?=some p):(bT R ρ (xs.take i)).length+(aR R ρ p.1).length+(bS (kS (aL (az R) ρ p.1)) p.2).length<=(bT R ρ xs).length:=by
 obtain ⟨hi,e⟩:=Qc h
 have e1:xs=xs.take i++p::xs.drop (i+1):=by
  rw [<- e]
  exact (List.take_append_drop i xs).symm.trans (by rw [List.drop_eq_getElem_cons hi])
 have e2:(bT R ρ xs).length=(bT R ρ (xs.take i)).length+((aR R ρ p.1).length+(bS (kS (aL (az R) ρ p.1)) p.2).length+(bT R ρ (xs.drop (i+1))).length):=by
  conv=>lhs;rw [e1]
  simp [bT];omega
 omega
theorem lx {n:Str}:∀ {ps:List (Str × Str)},(ps.map (·.1)).Nodup->cU ps n=ps.lookup n:=by
 have go:∀ (ps:List (Str × Str)) (o:Option Str),(ps.map (·.1)).Nodup->ps.foldl (fun o p=>if p.1=n then some p.2 else o) o=(ps.lookup n).or o:=by
  intro ps
  induction ps with
  | nil=>intro o _;simp
  | cons p ps ih =>
   intro o h
   have h:=List.nodup_cons.mp (show (p.1::ps.map (·.1)).Nodup from h)
   show ps.foldl _ (if p.1=n then some p.2 else o)=(match n == p.1 with | true=>some p.2 | false=>ps.lookup n).or o
   rw [ih _ h.2]
   by_cases e:p.1=n
   ·have e0:ps.lookup n=none:=by
     cases hl:ps.lookup n with
     | none=>rfl
     | some v=>exact absurd (List.mem_map.mpr ⟨(n,v),PySem.mem_of_lookup hl,rfl⟩) (by rw [<- e];exact h.1)
    rw [if_pos e,e0,show (n == p.1)=true from by rw [e];simp];rfl
   ·rw [if_neg e,show (n == p.1)=false from beq_eq_false_iff_ne.mpr fun z=>e z.symm]
 intro ps h
 unfold cU
 rw [go ps none h];simp
theorem uC {n:Str}:∀ {ps:List (Str × Str)} {i:Nat} {q:Str × Str},ps[i]?=some q->q.1=n->(∀ r∈ps.take i,r.1≠n)->ps.lookup n=some q.2
 | p::ps,0,q,h,e,_=>by
  cases (show some p=some q from h)
  show (match n == p.1 with | true=>some p.2 | false=>ps.lookup n)=_
  rw [show (n == p.1)=true from by rw [e];simp]
 | p::ps,i+1,q,h,e,hn=>by
  show (match n == p.1 with | true=>some p.2 | false=>ps.lookup n)=_
  rw [show (n == p.1)=false from beq_eq_false_iff_ne.mpr fun z=>hn p (by simp) z.symm]
  exact uC (ps:=ps) (i:=i) h e fun r hr=>hn r (by simp [hr])
theorem uD {n:Str}:∀ {ps:List (Str × Str)},(∀ r∈ps,r.1≠n)->ps.lookup n=none
 | [],_=>rfl
 | p::ps,h=>by
  show (match n == p.1 with | true=>some p.2 | false=>ps.lookup n)=_
  rw [show (n == p.1)=false from beq_eq_false_iff_ne.mpr fun z=>h p (by simp) z.symm]
  exact uD fun r hr=>h r (by simp [hr])
theorem ou (e:Ex):dN e≠"":=by
 have hm:∀ p∈eP,p.2≠"":=by decide +kernel
 unfold dN
 cases h:eP.lookup (dM e) with
 | none=>show ("num":Str)≠"";decide
 | some v=>exact hm _ (PySem.mem_of_lookup h)
theorem uE {R:Rc} (hO:cB R) {k n z:Str} (h:bw (az R) (some k) n=some z):z∈ce:=by
 have h:(match aF ("kind",k) (az R) with | none=>none | some t=>cU t.prs n)=some z:=h
 by_cases h4:k=R.n4
 ·rw [h4,oh] at h
  have h:cU R.f0 n=some z:=h
  rw [lx hO.d0] at h
  exact hO.k0 _ (PySem.mem_of_lookup h)
 ·by_cases h5:k=R.n5
  ·rw [h5,oi hO] at h
   have h:cU R.f1 n=some z:=h
   rw [lx hO.d1] at h
   exact hO.k1 _ (PySem.mem_of_lookup h)
  ·rw [uz h4 h5] at h;cases h
theorem Cm {z:Str} (h:z∈ce):z≠"":=by
 have:∀ y∈ce,y≠"":=by decide +kernel
 exact this z h
theorem fA {R:Rc} (hO:cB R) {ks:List (Str × Str)}:∀ {e:Ex},cA R (ks.map (·.1)) e->∃ kd,aL (az R) (aJ ks) e=some kd/\∀ k,kd=some k->k≠""
 | .num _,_=>⟨_,rfl,fun k h=>by cases h;exact ou _⟩
 | .truth _,_=>⟨_,rfl,fun k h=>by cases h;exact ou _⟩
 | .not _,h=>h.elim
 | .op _ _ _,_=>⟨_,rfl,fun k h=>by cases h;exact ou _⟩
 | .name z,h=>by
  obtain ⟨k0,hk⟩:=uA h
  refine ⟨cC k0,by show (ks.lookup z).map cC=_;rw [hk];rfl,fun k h=>?_⟩
  unfold cC at h
  split at h
  ·cases h
  ·cases h;assumption
 | .of n e,h=>by
  obtain ⟨kd,e1,h1⟩:=fA hO (e:=e) h
  refine ⟨bw (az R) kd n,by show (aL (az R) (aJ ks) e).map _=_;rw [e1];rfl,fun k hk=>?_⟩
  cases kd with
  | none=>cases hk
  | some k0=>exact Cm (uE hO hk)
 | .many w z es,h=>by
  rcases h.1 with ⟨rfl,hz,_⟩ | ⟨rfl,hz,_⟩
  ·obtain ⟨i,hi⟩:=lw hO hz
   refine ⟨some z,?_,fun k hk=>?_⟩
   ·show (aF (br "new",z) (az R)).map _=_
    rw [gB,hi]
    show some (some (if ("new":Str)="do" then _ else z))=_
    rw [if_neg (by decide)]
   ·cases hk
    rcases hz with rfl | rfl
    ·exact hO.q4.1
    ·exact hO.q5.1
  ·refine ⟨some R.n4,?_,fun k hk=>by cases hk;exact hO.q4.1⟩
   show (aF (br "do",z) (az R)).map _=_
   rw [gA,hz,lv]
   show some (some (if ("do":Str)="do" then R.n4 else R.n6))=_
   rw [if_pos rfl]
noncomputable def dn (R:Rc) (k:Str):List (Str × Str):=if k=R.n4 then R.f0 else if k=R.n5 then R.f1 else []
theorem uF {R:Rc} (hO:cB R) (k n:Str):bw (az R) (some k) n=(dn R k).lookup n:=by
 show (match aF ("kind",k) (az R) with | none=>none | some t=>cU t.prs n)=_
 unfold dn
 by_cases h4:k=R.n4
 ·rw [if_pos h4,h4,oh];exact lx hO.d0
 ·rw [if_neg h4]
  by_cases h5:k=R.n5
  ·rw [if_pos h5,h5,oi hO];exact lx hO.d1
  ·rw [if_neg h5,uz h4 h5];rfl
noncomputable abbrev Cn:List Str:=["_law_e","_law_known","_law_records","_law_names_here","_law_wrong","_law_part","_law_due","_law_kind_here","_law_name","_law_its"]
theorem ox:ba Cn ["_law_e","_law_known","_law_records","_law_names_here","_law_wrong"] (aK np):=⟨rfl,rfl,rfl,by decide +kernel,rfl,by decide +kernel,by decide +kernel⟩
theorem Co (T:All P w K mg AA DD) (k:Nat) (GKD:aE P w K mg base aI (k+2) AA.ZI DD.ZI ["_law_e","_law_known","_law_records","_law_names_here","_law_wrong"] (jF k)) :
  aE P w K mg base aI (k+1+2) AA.ZI DD.ZI ["_law_e","_law_known","_law_records","_law_names_here","_law_wrong"] (jF (k+1)):=by
 have GPT:=Cd (base:=base) T
 refine T.F_ZI.ok ox (fun vs H Q E h=>?_) (fun cdv A outer s H vs Q E hr h=>?_)
 ·obtain ⟨v,e,a,rd,l,wr,ks,R,ws,rfl,_⟩:=h
  rfl
 ·obtain ⟨v,e,a,rd,l,wr,ks,R,ws,rfl,hE,hg,ha,hR,hO,hw,hwl,hd,kq⟩:=h
  have nd:=ox.nd
  have hrK:aA (k+2) _:=hr
  have hr1:aA 1 _:=hrK.mono (by omega)
  have hu:=QF (Nat.add_le_add_left (show 1<=64 by decide) _) hr.units
  refine ⟨_,(av (be (PW.pt (lL (aY bE (au (aH (K:=K) rfl) (pv 0) ai (fun _ _=>rfl)) aD (a6 _)) (lK (aY bE (au (aH (K:=K) rfl) (pv 0) ai (fun _ _=>rfl)) aD (a6 _))))) (aq (aO (au (aH (K:=K) rfl) (pv 0) ai (fun _ _=>rfl)))) bo) (av (be (aY bE (au (aH (K:=K) rfl) (pv 0) ai (fun _ _=>rfl)) aD (a6 _)) (aq (aO (gp hu (pv 1) (au (aH (K:=K) rfl) (pv 0) ai (fun _ _=>rfl)) (fun _ _=>rfl)))) bo) (av (cO PassesOwn.never rfl (ci (aN GPT hr1 rfl T.m_ZD T.k_ZD T.b_ZD .nil aB (aa (pv 0) (aa (pv 2) (aa (pv 3) ag))))) (dt rfl (a8 (aT (i:=5) nd rfl (Or.inl rfl)) (a8 (aT (i:=6) nd rfl (Or.inl rfl)) cg))) (av (@bf _ _ 7 _ _ _ _ nd rfl (Or.inl rfl) (aN GKD hrK rfl T.m_ZI T.k_ZI T.b_ZI .nil aB (aa (pv 5) (aa (pv 1) (aa (pv 2) (aa (pv 3) (aa (pv 4) ag)))))) (by rfl) (by first | exact .inl rfl | exact .inr rfl | assumption)) (aq (be (PW.pt (iH (aY eI (pv 7) aD (a6 _)) (jN (aY (qM (K:=K) rfl) (pv 7) (pv 6) rfl)))) (aq (bX (fc PySem.F.plainAttrs_list PySem.F.slot_list_append PySem.F.type_list_append fI (pv 4) (aa aD ag)) (by rfl))) bo))) (by intro _;rfl)) (av (be (aY bE (au (aH (K:=K) rfl) (pv 0) ai (fun _ _=>rfl)) aD (a6 _)) (av (@bf _ _ 7 _ _ _ _ nd rfl (Or.inl rfl) (aN GKD hrK rfl T.m_ZI T.k_ZI T.b_ZI .nil aB (aa (au (aH (K:=K) rfl) (pv 0) ai (fun _ _=>rfl)) (aa (pv 1) (aa (pv 2) (aa (pv 3) (aa (pv 4) ag)))))) (by rfl) (by first | exact .inl rfl | exact .inr rfl | assumption)) (av (cO PassesOwn.never rfl (ci (fN hu (pv 2) (pv 7) (bB ag) ⟨by rfl,by rfl,by rfl,by rfl⟩)) (dt rfl (a8 (aT (i:=8) nd rfl (Or.inl rfl)) (a8 (aT (i:=9) nd rfl (Or.inl rfl)) cg))) (aq (be (aY bE (pv 8) (au (aH (K:=K) rfl) (pv 0) ai (fun _ _=>rfl)) (a6 _)) (aq (aO (pv 9))) bo)) (by intro _;rfl)) (av (be (aY eI (pv 7) aD (a6 _)) (aq (bX (fc PySem.F.plainAttrs_list PySem.F.slot_list_append PySem.F.type_list_append fI (pv 4) (aa aD ag)) (by rfl))) bo) (aq (aO aD))))) bo) (av (be (aY bE (au (aH (K:=K) rfl) (pv 0) ai (fun _ _=>rfl)) aD (a6 _)) (aq (aO aD)) bo) (av (be (aY bE (au (aH (K:=K) rfl) (pv 0) ai (fun _ _=>rfl)) aD (a6 _)) (aq (aO aD)) bo) (av (be (aY bE (au (aH (K:=K) rfl) (pv 0) ai (fun _ _=>rfl)) aD (a6 _)) (aq (aO (au (aH (K:=K) rfl) (pv 0) ai (fun _ _=>rfl)))) bo) (aq (aO (au (cS (K:=K) rfl) (pv 3) ai (fun _ _=>rfl))))))))))),?_⟩
  have stay:aR R (aJ ks) e=[]->∀ z,kS (aL (az R) (aJ ks) e)=z->Q (.str z) H:=fun h0 z hz=>by
   rw [h0,List.append_nil,hz] at kq
   exact kq H gD hw
  rcases Ci hg with ⟨n,rfl⟩ | ⟨n,rfl⟩ | ⟨n,rfl⟩ | ⟨hN,h1,h2,h3⟩
  ·cases hE with
   | @num t _ ht =>
   refine ⟨_,rfl,t,_,_,_,rfl,rfl,ah.of ht,ap (j:=0) rfl,rfl,_,rfl,bg (Qp rfl) (fe ?_)⟩
   exact ⟨_,rfl,t,_,_,_,rfl,rfl,ah.of ht,ap (j:=0) rfl,stay rfl _ (by show (eP.lookup ("num":Str)).getD "num"="num";decide +kernel)⟩
  ·cases hE with
   | @truth t _ ht =>
   refine ⟨_,rfl,t,_,_,_,rfl,rfl,ah.of ht,ap (j:=0) rfl,rfl,_,rfl,aM (by decide +kernel) ?_⟩
   refine ⟨_,rfl,t,_,_,_,rfl,rfl,ah.of ht,ap (j:=0) rfl,rfl,_,rfl,bg (Qp rfl) ?_⟩
   exact ⟨_,rfl,t,_,_,_,rfl,rfl,ah.of ht,ap (j:=0) rfl,stay rfl _ (by show (eP.lookup ("truth":Str)).getD "num"="truth";decide +kernel)⟩
  ·cases hE with
   | @name t _ ht =>
   obtain ⟨kd,hkd⟩:=uA hg
   refine ⟨_,rfl,t,_,_,_,rfl,rfl,ah.of ht,ap (j:=0) rfl,rfl,_,rfl,aM (by decide +kernel) ?_⟩
   refine ⟨_,rfl,t,_,_,_,rfl,rfl,ah.of ht,ap (j:=0) rfl,rfl,_,rfl,aM (by decide +kernel) ?_⟩
   dsimp only [iI]
   refine ⟨_,rfl,t,_,_,_,rfl,rfl,ah.of ht,ap (j:=0) rfl,rfl,_,rfl,bg (Qp rfl) ?_⟩
   refine ⟨_,rfl,_,rfl,t,_,_,_,rfl,rfl,ah.of ht,ap (j:=1) rfl,a,_,rfl,by rw [show some (V.str kd)=aU (bR ks) (.inr n) from by rw [io,hkd];rfl];exact bt.k (k:=.inr n) (gD _ _ ha),stay rfl _ ?_⟩
   show kS ((ks.lookup n).map cC)=kd
   rw [hkd];exact uy kd
  obtain ⟨t,ys,rfl,ht⟩:=Cf hE
  refine ⟨_,rfl,t,_,_,_,rfl,rfl,ah.of ht,ap (j:=0) rfl,rfl,_,rfl,aM (Qi fun z=>h1 (by injection z)) ?_⟩
  refine ⟨_,rfl,t,_,_,_,rfl,rfl,ah.of ht,ap (j:=0) rfl,rfl,_,rfl,aM (Qi fun z=>h2 (by injection z)) ?_⟩
  dsimp only [iI]
  refine ⟨_,rfl,t,_,_,_,rfl,rfl,ah.of ht,ap (j:=0) rfl,rfl,_,rfl,aM (Qi fun z=>h3 (by injection z)) ?_⟩
  dsimp only [iI]
  have hwP:(bT R (aJ ks) (bZ R e)).length<=(aR R (aJ ks) e).length:=by
   by_cases ho:∃ n x,e=.of n x
   ·obtain ⟨n,x,rfl⟩:=ho
    show (bT R (aJ ks) []).length<=_
    simp [bT]
   ·rw [om hO hg hN fun n x z=>ho ⟨n,x,z⟩];exact Qh _
  refine d5 (fun σ' H'=>Same (off H wr) H'/\H' wr=some (.lst ((ws++bT R (aJ ks) (bZ R e)).map V.str))/\∃ x5 x6 x7,σ'=[some (.ref t),some (.ref a),some (.ref rd),some (.ref l),some (.ref wr),x5,x6,x7,none,none]) (fun RR hRR=>?_) ?_
  ·refine ⟨_,rfl,_,rfl,_,rfl,.ref t,e,rd,l,R,ks.map (·.1),rfl,hE,hg,hN,hR.same gD,fun p H1 hp0 s1 ⟨us,hp1,hul,hat⟩=>⟨p,rfl,⟨_,am.of hp1⟩,?_⟩⟩
   have hpw:p≠wr:=(b5 hw hp0).symm
   refine dW (K:=K) (a:=p) (xs:=us.map V.ref) (fun i σ' H'=>Same (off H wr) H'/\Same (off H1 wr) H'/\H' wr=some (.lst ((ws++bT R (aJ ks) ((bZ R e).take i)).map V.str))/\∃ x5 x6 x7,σ'=[some (.ref t),some (.ref a),some (.ref rd),some (.ref l),some (.ref wr),x5,x6,x7,none,none]) ⟨Ce s1,gD,by simpa [bT] using s1 _ _ hw,_,_,_,rfl⟩ (fun i σ' H' _ h=>am.of (h.2.1 _ _ (by rw [fW hpw];exact hp1))) ?_ ?_
   ·rintro i x σ' H3 hx ⟨s03,s13,hw3,x5,x6,x7,rfl⟩
    rw [Qk] at hx
    obtain ⟨u,hu,rfl⟩:=Option.map_eq_some_iff.mp hx
    have hil:i<(bZ R e).length:=by have:=(Qc hu).1;omega
    have hq:(bZ R e)[i]?=some (bZ R e)[i]:=Qb hil
    generalize (bZ R e)[i]=pe at hq
    obtain ⟨vp,dd,a1,a2,a3,a4⟩:=hat i u pe hu hq
    have hdw:dd≠wr:=(b5 hw a4).symm
    have tw:cT H1 (off H1 wr):=im (s1 _ _ hw)
    have b1:=s13 _ _ (tw _ _ a1)
    have b3:H3 dd=some (.lst [.str pe.2]):=s13 _ _ (by rw [fW hdw];exact a3)
    have b2:a7 H3 vp pe.1:=(a2.kept tw).kept s13.ls.1
    have hpm:pe∈bZ R e:=QD hq
    have hlw:=Ck (R:=R) (ρ:=aJ ks) hq
    refine ⟨u,_,rfl,ah.of b1,rfl,_,_,rfl,_,_,rfl,rfl,?_⟩
    have so:=oq s03
    refine ⟨_,rfl,_,rfl,_,rfl,_,rfl,_,rfl,vp,pe.1,a,rd,l,wr,ks,R,_,rfl,b2,Ch hg pe hpm,so _ _ ha,hR.same so,hO,hw3,by rw [Qv];omega,by have:=Cg pe hpm;omega,fun H4 s4 hw4=>?_⟩
    dsimp only [aX]
    have s04:=oo s03 s4
    have s14:=oo s13 s4
    have b4:H4 dd=some (.lst [.str pe.2]):=s4 _ _ (by rw [fW hdw];exact b3)
    have etk:bT R (aJ ks) ((bZ R e).take (i+1))=bT R (aJ ks) ((bZ R e).take i)++(aR R (aJ ks) pe.1++bS (kS (aL (az R) (aJ ks) pe.1)) pe.2):=by
     obtain ⟨hi2,e2⟩:=Qc hq
     rw [Qn hi2,e2,Cj]
    rw [etk]
    generalize kS (aL (az R) (aJ ks) pe.1)=kk0 at hlw ⊢
    have done:bS kk0 pe.2=[]->(Same (off H wr) H4/\Same (off H1 wr) H4/\H4 wr=some (.lst ((ws++(bT R (aJ ks) ((bZ R e).take i)++(aR R (aJ ks) pe.1++bS kk0 pe.2))).map V.str))/\∃ x5 x6 x7,[some (.ref t),some (.ref a),some (.ref rd),some (.ref l),some (.ref wr),some vp,some (.ref dd),some (.str kk0),none,none]=([some (.ref t),some (.ref a),some (.ref rd),some (.ref l),some (.ref wr),x5,x6,x7,none,none]:St)):=fun h0=>⟨s04,s14,by rw [h0,List.append_nil,<- QM];exact hw4,_,_,_,rfl⟩
    refine ⟨_,rfl,rfl,_,rfl,?_⟩
    by_cases hk0:kk0=""
    ·refine aM (by
      show (!decide (V.str kk0=V.str ""))=false
      rw [Qp (by rw [hk0])];rfl) (dh ?_)
     exact done (by unfold bS;rw [if_neg (fun z=>z.1 hk0)])
    ·refine bg (by
      show (!decide (V.str kk0=V.str ""))=true
      rw [Qi (fun z=>hk0 (by injection z))];rfl) ?_
     refine ⟨_,rfl,_,rfl,dd,[.str pe.2],rfl,.inl (am.of b4),rfl,rfl,_,rfl,?_⟩
     show (if (if true=true then !eZ (V.str kk0) ([pe.2].map V.str) else eZ (V.str kk0) ([pe.2].map V.str))=true then _ else _:Prop)
     rw [if_pos rfl,nH]
     by_cases hk1:kk0=pe.2
     ·refine aM (by simp [hk1]) ?_
      exact done (by unfold bS;rw [if_neg (fun z=>z.2 hk1)])
     ·refine bg (by simp [hk1]) ?_
      have eb:bS kk0 pe.2=(["kind"]:List Str):=by unfold bS;rw [if_pos ⟨hk0,hk1⟩]
      rw [eb] at hlw ⊢
      refine ⟨_,rfl,.inl ⟨rfl,_,am.of hw4⟩,wr,_,_,rfl,rfl,hw4,?_,?_⟩
      ·rw [Qf,Qv,Qv]
       exact cR (by simp at hlw;omega)
      have su:∀ {Ha:Hp},Same (off Ha wr) H4->Same (off Ha wr) (af H4 wr (.lst ((ws++bT R (aJ ks) ((bZ R e).take i)++aR R (aJ ks) pe.1).map V.str++[.str "kind"]))):=fun s b o hb=>by rw [ar (jE hb)];exact s _ _ hb
      exact ⟨su s04,su s14,by rw [aj];simp,_,_,_,rfl⟩
   ·rintro σ' H3 ⟨s03,s13,hw3,x5,x6,x7,rfl⟩
    rw [Qf,QB (by omega)] at hw3
    exact hRR _ _ ⟨s03,hw3,x5,x6,x7,rfl⟩
  rintro σ' H3 ⟨s3,hw3,x5,x6,x7,rfl⟩
  have ht3:H3 t=some (.tup (.str (jG e)::ys)):=s3 _ _ ((im hw) _ _ ht)
  have so:=oq s3
  cases e with
  | num _=>exact hN.elim
  | truth _=>exact hN.elim
  | name _=>exact hN.elim
  | not _=>exact hN.elim
  | op w a1 b1 =>
   have ew:=om (ρ:=aJ ks) hO hg hN (fun n x z=>by cases z)
   rw [<- ew] at hw3
   rcases hg.1 with rfl | rfl
   ·have ht3:H3 t=some (.tup (.str "+"::ys)):=ht3
    refine ⟨_,rfl,t,_,_,_,rfl,rfl,ah.of ht3,ap (j:=0) rfl,rfl,_,rfl,aM (by decide +kernel) ?_⟩
    refine ⟨_,rfl,t,_,_,_,rfl,rfl,ah.of ht3,ap (j:=0) rfl,rfl,_,rfl,bg (by decide +kernel) ?_⟩
    exact kq _ s3 hw3
   ·have ht3:H3 t=some (.tup (.str "and"::ys)):=ht3
    refine ⟨_,rfl,t,_,_,_,rfl,rfl,ah.of ht3,ap (j:=0) rfl,rfl,_,rfl,aM (by decide +kernel) ?_⟩
    refine ⟨_,rfl,t,_,_,_,rfl,rfl,ah.of ht3,ap (j:=0) rfl,rfl,_,rfl,aM (by decide +kernel) ?_⟩
    refine ⟨_,rfl,t,_,_,_,rfl,rfl,ah.of ht3,ap (j:=0) rfl,rfl,_,rfl,bg (by decide +kernel) ?_⟩
    exact kq _ s3 hw3
  | many w z es =>
   have ew:=om (ρ:=aJ ks) hO hg hN (fun n x z=>by cases z)
   rw [<- ew] at hw3
   cases hE with
   | @many _ lt _ _ vs _ ht' hl hvs =>
   have ht4:=s3 _ _ ((im hw) _ _ ht')
   have F:∀ (z1 z2:Str),z1≠z2->decide (V.str z1=V.str z2)=false:=fun z1 z2 h=>Qi fun q=>h (by injection q)
   rcases hg.1 with ⟨rfl,hz,_⟩ | ⟨rfl,hz,_⟩
   ·refine ⟨_,rfl,t,_,_,_,rfl,rfl,ah.of ht4,ap (j:=0) rfl,rfl,_,rfl,aM (F _ _ (by decide)) ?_⟩
    refine ⟨_,rfl,t,_,_,_,rfl,rfl,ah.of ht4,ap (j:=0) rfl,rfl,_,rfl,aM (F _ _ (by decide)) ?_⟩
    refine ⟨_,rfl,t,_,_,_,rfl,rfl,ah.of ht4,ap (j:=0) rfl,rfl,_,rfl,aM (F _ _ (by decide)) ?_⟩
    refine ⟨_,rfl,t,_,_,_,rfl,rfl,ah.of ht4,ap (j:=0) rfl,rfl,_,rfl,bg (Qp rfl) ?_⟩
    obtain ⟨i,hi⟩:=lw hO hz
    have ek:kS (aL (az R) (aJ ks) (.many "new" z es))=z:=by
     show kS ((aF (br "new",z) (az R)).map _)=z
     rw [gB,hi]
     show kS (some (some (if ("new":Str)="do" then _ else z)))=z
     rw [if_neg (by decide)];rfl
    rw [ek] at kq
    exact ⟨_,rfl,t,_,_,_,rfl,rfl,ah.of ht4,ap (j:=1) rfl,kq _ s3 hw3⟩
   ·refine ⟨_,rfl,t,_,_,_,rfl,rfl,ah.of ht4,ap (j:=0) rfl,rfl,_,rfl,aM (F _ _ (by decide)) ?_⟩
    refine ⟨_,rfl,t,_,_,_,rfl,rfl,ah.of ht4,ap (j:=0) rfl,rfl,_,rfl,aM (F _ _ (by decide)) ?_⟩
    refine ⟨_,rfl,t,_,_,_,rfl,rfl,ah.of ht4,ap (j:=0) rfl,rfl,_,rfl,aM (F _ _ (by decide)) ?_⟩
    refine ⟨_,rfl,t,_,_,_,rfl,rfl,ah.of ht4,ap (j:=0) rfl,rfl,_,rfl,aM (F _ _ (by decide)) ?_⟩
    have hn7:=hR.n7
    have ek:kS (aL (az R) (aJ ks) (.many "do" z es))=R.n4:=by
     show kS ((aF (br "do",z) (az R)).map _)=R.n4
     rw [gA,hz,lv]
     show kS (some (some (if ("do":Str)="do" then R.n4 else R.n6)))=R.n4
     rw [if_pos rfl];rfl
    rw [ek] at kq
    exact ⟨_,rfl,l,_,_,.str R.n4,rfl,rfl,am.of (s3 _ _ hR.nl),ap (j:=4) (ei (by omega)),kq _ s3 hw3⟩
  | of n e1 =>
   cases hE with
   | @of _ _ v1 _ ht' hv1 =>
   have ht4:=s3 _ _ ((im hw) _ _ ht')
   have hv3:=(hv1.kept (im hw)).kept s3.ls.1
   have hw3:H3 wr=some (.lst (ws.map V.str)):=by simpa [bT,bZ] using hw3
   have ewx:aR R (aJ ks) (.of n e1)=aR R (aJ ks) e1++eT R (kS (aL (az R) (aJ ks) e1)) n:=by rw [aR]
   rw [ewx] at kq hwl
   rw [Qv] at hwl
   refine ⟨_,rfl,t,_,_,_,rfl,rfl,ah.of ht4,ap (j:=0) rfl,rfl,_,rfl,bg (Qp rfl) ?_⟩
   refine ⟨_,rfl,t,_,_,_,rfl,rfl,ah.of ht4,ap (j:=2) rfl,_,rfl,_,rfl,_,rfl,_,rfl,v1,e1,a,rd,l,wr,ks,R,ws,rfl,hv3,hg,so _ _ ha,hR.same so,hO,hw3,by omega,by simp [Ex.deep] at hd;omega,fun H5 s5 hw5=>?_⟩
   dsimp only [aX]
   have s05:=oo s3 s5
   have so5:=oq s05
   have ht5:=s5 _ _ ((im hw3) _ _ ht4)
   have hR5:=hR.same so5
   obtain ⟨kd,ekd,hkd⟩:=fA hO (ks:=ks) (e:=e1) hg
   have eks:kS (aL (az R) (aJ ks) (.of n e1))=kS (some (bw (az R) kd n)):=by
    show kS ((aL (az R) (aJ ks) e1).map _)=_
    rw [ekd];rfl
   rw [eks] at kq
   rw [ekd] at kq hwl ⊢
   generalize hkh:kS (some kd)=kh at kq hwl ⊢
   have hfin:kS (some (bw (az R) kd n))=((dn R kh).lookup n).getD ""/\eT R kh n=(if kh≠""/\(dn R kh).lookup n=none then ["field"] else []:List Str):=by
    constructor
    ·cases kd with
     | none =>
      have e0:kh="":=hkh.symm
      have e1:dn R kh=[]:=by unfold dn;rw [if_neg (by rw [e0];exact Ne.symm hO.q4.1),if_neg (by rw [e0];exact Ne.symm hO.q5.1)]
      rw [e1];rfl
     | some k0 =>
      have e0:kh=k0:=hkh.symm
      rw [e0,uF hO]
      cases (dn R k0).lookup n<;>rfl
    ·unfold eT
     rw [uF hO]
   rw [hfin.1,hfin.2] at kq
   rw [hfin.2] at hwl
   obtain ⟨p0,p1,hrd,hp0,hp1⟩:=(hR5.same gD).rd
   refine d5 (fun σ' H'=>Same H5 H'/\(dn R kh).lookup n=none/\∃ x5 x6 x8 x9,σ'=[some (.ref t),some (.ref a),some (.ref rd),some (.ref l),some (.ref wr),x5,x6,some (.str kh),x8,x9]) (fun RR hRR=>?_) ?_
   ·refine ⟨_,rfl,rd,rfl,.inl ⟨_,.inl hrd⟩,_,rfl,(by show 0<=sizeLine;decide),fun q2 hq2=>⟨_,bt.k (k:=.inr kh) ((ao hq2) _ _ hrd),?_⟩⟩
    have s6:=ao (o:=.lst []) hq2
    obtain ⟨pl,epl,us,hpl,hul,hus⟩:∃ pl,(aU [((.inr (R.ns.getD 4 ""):ae),V.ref p0),(.inr (R.ns.getD 5 ""),V.ref p1)] (.inr kh)).getD (V.ref q2)=.ref pl/\dm (af H5 q2 (.lst [])) pl (dn R kh):=by
     unfold dn
     by_cases h4:kh=R.n4
     ·refine ⟨p0,?_,by rw [if_pos h4];exact hp0.same s6⟩
      rw [h4,cK rfl];rfl
     ·rw [if_neg h4,cL (fun z=>h4 (Sum.inr.inj z).symm)]
      by_cases h5:kh=R.n5
      ·refine ⟨p1,?_,by rw [if_pos h5];exact hp1.same s6⟩
       rw [h5,cK rfl];rfl
      ·rw [if_neg h5,cL (fun z=>h5 (Sum.inr.inj z).symm)]
       exact ⟨q2,rfl,[],aj,rfl,fun i u q x=>by simp at x⟩
    rw [epl]
    have ht6:=s6 _ _ ht5
    have hw6:=s6 _ _ hw5
    refine ⟨pl,rfl,⟨_,am.of hpl⟩,?_⟩
    refine dW (K:=K) (a:=pl) (xs:=us.map V.ref) (fun i σ' H'=>H'=af H5 q2 (.lst [])/\(∀ r∈(dn R kh).take i,r.1≠n)/\∃ x5 x6 x8 x9,σ'=[some (.ref t),some (.ref a),some (.ref rd),some (.ref l),some (.ref wr),x5,x6,some (.str kh),x8,x9]) ⟨rfl,fun r hr=>by simp at hr,_,_,_,_,rfl⟩ (fun i σ' H' _ h=>by rw [h.1];exact am.of hpl) ?_ ?_
    ·rintro i x σ' H' hx ⟨rfl,hno,x5,x6,x8,x9,rfl⟩
     rw [Qk] at hx
     obtain ⟨u,hu,rfl⟩:=Option.map_eq_some_iff.mp hx
     have hil:i<(dn R kh).length:=by have:=(Qc hu).1;omega
     have hq:(dn R kh)[i]?=some (dn R kh)[i]:=Qb hil
     generalize hqe:(dn R kh)[i]=q at hq
     refine ⟨u,_,rfl,ah.of (hus i u q hu hq),rfl,_,_,rfl,_,_,rfl,rfl,?_⟩
     refine ⟨_,rfl,_,rfl,t,_,_,_,rfl,rfl,ah.of ht6,ap (j:=1) rfl,rfl,_,rfl,?_⟩
     by_cases hqn:q.1=n
     ·refine bg (Qp (by rw [hqn])) ?_
      have hl:=uC hq hqn hno
      rw [hl] at kq
      refine ⟨_,rfl,?_⟩
      rw [if_neg (fun z=>by cases z.2),List.append_nil] at kq
      exact kq _ (fun b o hb=>s6 _ _ (s05 _ _ hb)) hw6
     ·refine aM (Qi fun z=>hqn (by injection z)) ?_
      refine ⟨rfl,fun r hr=>?_,_,_,_,_,rfl⟩
      rw [Qn hil,hqe] at hr
      rcases Qy hr with h | h
      ·exact hno r h
      ·rw [List.mem_singleton.mp h];exact hqn
    ·rintro σ' H' ⟨rfl,hno,x5,x6,x8,x9,rfl⟩
     rw [Qf,hul,List.take_length] at hno
     exact hRR _ _ ⟨s6,uD hno,x5,x6,x8,x9,rfl⟩
   rintro σ' H6 ⟨s6,hno,x5,x6,x8,x9,rfl⟩
   have hw6:=s6 _ _ hw5
   have s06:Same (off H wr) H6:=fun b o hb=>s6 _ _ (s05 _ _ hb)
   rw [hno] at kq hwl
   refine i8 (fun σ' H'=>Same (off H wr) H'/\H' wr=some (.lst ((ws++(aR R (aJ ks) e1++(if kh≠""/\(none:Option Str)=none then ["field"] else []:List Str))).map V.str))) (fun RR hRR=>?_) ?_
   ·refine ⟨_,rfl,rfl,_,rfl,?_⟩
    by_cases hk0:kh=""
    ·refine aM (by
      show (!decide (V.str kh=V.str ""))=false
      rw [Qp (by rw [hk0])];rfl) ?_
     refine hRR _ _ ⟨s06,?_⟩
     rw [if_neg (fun z=>z.1 hk0),List.append_nil];exact hw6
    ·refine bg (by
      show (!decide (V.str kh=V.str ""))=true
      rw [Qi (fun z=>hk0 (by injection z))];rfl) ?_
     rw [if_pos ⟨hk0,rfl⟩] at hwl hRR
     refine ⟨_,rfl,.inl ⟨rfl,_,am.of hw6⟩,wr,_,_,rfl,rfl,hw6,?_,?_⟩
     ·rw [Qf,Qv]
      exact cR (by simp at hwl;omega)
     exact hRR _ _ ⟨fun b o hb=>by rw [ar (jE hb)];exact s06 _ _ hb,by rw [aj];simp⟩
   ·rintro σ' H7 ⟨s7,hw7⟩
    exact kq _ s7 hw7
theorem Cp (T:All P w K mg AA DD):aE P w K mg base aI 2 AA.ZI DD.ZI ["_law_e","_law_known","_law_records","_law_names_here","_law_wrong"] (jF 0):=by
 have no:∀ vs H Q E,¬ jF 0 vs H Q E:=fun vs H Q E h=>by
  obtain ⟨v,e,a,rd,l,wr,ks,R,ws,_,_,_,_,_,_,_,_,z,_⟩:=h
  omega
 exact T.F_ZI.ok ox (fun vs H Q E h=>(no _ _ _ _ h).elim) (fun cdv A outer s H vs Q E hr h=>(no _ _ _ _ h).elim)
theorem uG (T:All P w K mg AA DD):∀ k:Nat,aE P w K mg base aI (k+2) AA.ZI DD.ZI ["_law_e","_law_known","_law_records","_law_names_here","_law_wrong"] (jF k)
 | 0=>Cp T
 | k+1=>Co T k (uG T k)
end
section
variable {P:Program} {w:World} {K:W.Frag} {mg:Str->Option Value} {base:Heap} {AA:bG} {DD:bH}
theorem uH {ts us:List Tr} (h:∀ k,aF k ts=aF k us) (k:Kd) (n:Str):bw ts k n=bw us k n:=by
 cases k with
 | none=>rfl
 | some k =>
  show (match aF ("kind",k) ts with | none=>none | some t=>cU t.prs n)=(match aF ("kind",k) us with | none=>none | some t=>cU t.prs n)
  rw [h]
theorem fX {ts us:List Tr} (h:∀ k,aF k ts=aF k us) (ρ:Env):∀ e:Ex,aL ts ρ e=aL us ρ e
 | .name _=>rfl
 | .num _=>rfl
 | .truth _=>rfl
 | .not _=>rfl
 | .op _ _ _=>rfl
 | .many w z es=>by
  show (aF (br w,z) ts).map _=(aF (br w,z) us).map _
  rw [h]
 | .of n e=>by
  show (aL ts ρ e).map (fun k=>bw ts k n)=(aL us ρ e).map (fun k=>bw us k n)
  rw [fX h ρ e,show (fun k=>bw ts k n)=fun k=>bw us k n from funext fun k=>uH h k n]
noncomputable def cf (r:Nat) (fs:List (List ae)) (ws:List Str) (k:List ae):Prop:=k∈fs∨∃ w∈ws,k=kk r w
theorem dD {r:Nat} {fs:List (List ae)} {k:List ae}:cf r fs [] k↔k∈fs:=by simp [cf]
theorem fY {r:Nat} {fs gs:List (List ae)} {ws vs:List Str} {k:List ae} (h:k∈gs↔cf r fs ws k):cf r gs vs k↔cf r fs (ws++vs) k:=by
 unfold cf at h ⊢
 rw [h]
 constructor
 ·rintro ((a | ⟨w,b,c⟩) | ⟨w,b,c⟩)
  ·exact .inl a
  ·exact .inr ⟨w,List.mem_append_left _ b,c⟩
  ·exact .inr ⟨w,List.mem_append_right _ b,c⟩
 ·rintro (a | ⟨w,b,c⟩)
  ·exact .inl (.inl a)
  ·rcases Qy b with b | b
   ·exact .inl (.inr ⟨w,b,c⟩)
   ·exact .inr ⟨w,b,c⟩
theorem oy {fs:List (List ae)} {c k:List ae}:k∈bI fs c↔k∈fs∨k=c:=by
 refine ⟨nX,fun h=>?_⟩
 rcases h with h | h
 ·unfold bI
  split
  ·exact h
  ·exact List.mem_append_left _ h
 ·rw [h];exact A9 _ _
theorem ly {r:Nat} {kd:Kd} {due:Str} (hk:∀ k0,kd=some k0->k0≠"") (fs:List (List ae)) (k:List ae):k∈bP r (some kd) due fs↔cf r fs (bS (kS (some kd)) due) k:=by
 cases kd with
 | none =>
  have e1:bP r (some none) due fs=fs:=by simp [bP,cx,fits]
  have e2:bS (kS (some none)) due=[]:=by unfold bS;rw [if_neg (fun z=>z.1 rfl)]
  rw [e1,e2,dD]
 | some k0 =>
  show k∈bP r (some (some k0)) due fs↔cf r fs (bS k0 due) k
  by_cases h:k0=due
  ·have e1:bP r (some (some k0)) due fs=fs:=by simp [bP,cx,fits,h]
   have e2:bS k0 due=[]:=by unfold bS;rw [if_neg (fun z=>z.2 h)]
   rw [e1,e2,dD]
  ·have e1:bP r (some (some k0)) due fs=bI fs (kk r "kind"):=by simp [bP,cx,fits,h]
   have e2:bS k0 due=(["kind"]:List Str):=by unfold bS;rw [if_pos ⟨hk k0 rfl,h⟩]
   rw [e1,e2,oy];simp [cf]
theorem Cq {R:Rc} {tt:List Tr} (hT:∀ k,aF k tt=aF k (az R)) {r:Nat} {kd:Kd} {n:Str} (hk:∀ k0,kd=some k0->k0≠"") (fs:List (List ae)) (k:List ae):k∈li tt r (some kd) n fs↔cf r fs (eT R (kS (some kd)) n) k:=by
 show k∈fT tt r kd n fs↔_
 unfold fT eT
 cases kd with
 | none=>rw [if_neg (fun z=>z.1 rfl),dD]
 | some k0 =>
  show k∈(if bw tt (some k0) n=none then bI fs (kk r "field") else fs)↔cf r fs (if k0≠""/\bw (az R) (some k0) n=none then ["field"] else []:List Str) k
  rw [uH hT]
  by_cases h:bw (az R) (some k0) n=none
  ·rw [if_pos h,if_pos ⟨hk k0 rfl,h⟩];simp [cf,oy]
  ·rw [if_neg h,if_neg (fun z=>h z.2),dD]
mutual
theorem ip {R:Rc} (hO:cB R) {tt:List Tr} (hT:∀ k,aF k tt=aF k (az R)) {ks:List (Str × Str)} (r:Nat):∀ (e:Ex) (fs:List (List ae)) (k:List ae),cA R (ks.map (·.1)) e->(k∈aP tt (aJ ks) r e fs↔cf r fs (aR R (aJ ks) e) k)
 | .num _,fs,k,_=>by rw [aP,aR,dD]
 | .truth _,fs,k,_=>by rw [aP,aR,dD]
 | .name _,fs,k,_=>by rw [aP,aR,dD]
 | .not _,fs,k,h=>h.elim
 | .op w a b,fs,k,h=>by
  obtain ⟨ka,ea,pa⟩:=fA hO h.2.1
  obtain ⟨kb,eb,pb⟩:=fA hO h.2.2
  rw [aP,aR,fX hT,fX hT,ea,eb,ly pb,fY ((ip hO hT r b _ k h.2.2).trans (fY ((ly pa _ k).trans (fY (ip hO hT r a fs k h.2.1)))))]
  simp only [QM]
 | .of n e,fs,k,h=>by
  obtain ⟨kd,ek,pk⟩:=fA hO (e:=e) h
  rw [aP,aR,fX hT,ek,Cq hT pk,fY (ip hO hT r e fs k h)]
 | .many w z es,fs,k,h=>by
  rw [aP,aR,hT]
  cases aF (br w,z) (az R) with
  | none=>rw [dD]
  | some t=>exact uI hO hT r es t.prs fs k h.2
theorem uI {R:Rc} (hO:cB R) {tt:List Tr} (hT:∀ k,aF k tt=aF k (az R)) {ks:List (Str × Str)} (r:Nat):∀ (es:List Ex) (qs:List (Str × Str)) (fs:List (List ae)) (k:List ae),il R (ks.map (·.1)) es->(k∈kfZ tt (aJ ks) r es qs fs↔cf r fs (wrL R (aJ ks) es qs) k)
 | [],qs,fs,k,_=>by rw [kfZ,wrL,dD]
 | e::es,[],fs,k,_=>by rw [kfZ,wrL,dD]
 | e::es,q::qs,fs,k,h=>by
  obtain ⟨kd,ek,pk⟩:=fA hO h.1
  rw [kfZ,wrL,fX hT,ek,uI hO hT r es qs _ k h.2,fY ((ly pk _ k).trans (fY (ip hO hT r e fs k h.1)))]
  simp only [QM]
end
noncomputable def oz (R:Rc) (k:Str):Prop:=k∈ce∨k=R.n4∨k=R.n5
noncomputable def oA (R:Rc) (ks:List (Str × Str)):Prop:=∀ p∈ks,p.2=""∨oz R p.2
theorem oB (e:Ex):dN e∈ce:=by
 have hm:∀ p∈eP,p.2∈ce:=by decide +kernel
 unfold dN
 cases h:eP.lookup (dM e) with
 | none=>show ("num":Str)∈ce;decide +kernel
 | some v=>exact hm _ (PySem.mem_of_lookup h)
theorem uJ {R:Rc} (hO:cB R) {ks:List (Str × Str)} (hA:oA R ks) {e:Ex} (hg:cA R (ks.map (·.1)) e) {k:Str} (h:aL (az R) (aJ ks) e=some (some k)):oz R k:=by
 cases e with
 | num _=>cases h;exact .inl (oB _)
 | truth _=>cases h;exact .inl (oB _)
 | not _=>exact hg.elim
 | op _ _ _=>cases h;exact .inl (oB _)
 | name z =>
  have h:(ks.lookup z).map cC=some (some k):=h
  cases hl:ks.lookup z with
  | none=>rw [hl] at h;cases h
  | some k0 =>
   rw [hl] at h
   have h:cC k0=some k:=Qo h
   unfold cC at h
   split at h
   ·cases h
   ·cases h
    exact (hA _ (PySem.mem_of_lookup hl)).resolve_left (by assumption)
 | of n e =>
  have h:(aL (az R) (aJ ks) e).map (fun k=>bw (az R) k n)=some (some k):=h
  cases hl:aL (az R) (aJ ks) e with
  | none=>rw [hl] at h;cases h
  | some kd =>
   rw [hl] at h
   have h:bw (az R) kd n=some k:=Qo h
   cases kd with
   | none=>cases h
   | some k0=>exact .inl (uE hO h)
 | many w z es =>
  rcases hg.1 with ⟨rfl,hz,_⟩ | ⟨rfl,hz,_⟩
  ·obtain ⟨i,hi⟩:=lw hO hz
   have h:(aF (br "new",z) (az R)).map (fun t=>some (if ("new":Str)="do" then t.knd else z))=some (some k):=h
   rw [gB,hi,Option.map_some,if_neg (by decide)] at h
   cases h
   exact .inr hz
  ·have h:(aF (br "do",z) (az R)).map (fun t=>some (if ("do":Str)="do" then t.knd else z))=some (some k):=h
   rw [gA,hz,lv,Option.map_some,if_pos rfl] at h
   have h:R.n4=k:=by injection h with h;injection h
   exact .inr (.inl h.symm)
inductive Rw where
 | tell (e:Ex)
 | set (z:Str) (e:Ex)
noncomputable def Rw.e:Rw->Ex
 | .tell e=>e
 | .set _ e=>e
noncomputable def Rw.tr (r:Nat):Rw->Tr
 | .tell e=>.tell r e
 | .set z e=>.set r z e
noncomputable def dq (R:Rc) (ks:List (Str × Str)) (e:Ex):Str:=kS (aL (az R) (aJ ks) e)
noncomputable def dE (R:Rc) (ks:List (Str × Str)):Rw->List Str
 | .tell e=>aR R (aJ ks) e++(if dq R ks e=R.n4∨dq R ks e=R.n5 then ["tell"] else []:List Str)
 | .set z e=>aR R (aJ ks) e++(if (ks.lookup z).getD ""≠""/\dq R ks e≠""/\dq R ks e≠(ks.lookup z).getD "" then ["kind"] else []:List Str)
noncomputable def c8 (R:Rc) (ks:List (Str × Str)):Rw->List (Str × Str)
 | .tell _=>ks
 | .set z e=>if ks.lookup z=none then ks++[(z,dq R ks e)] else ks
theorem Cr {ks:List (Str × Str)} {z k:Str} (h:ks.lookup z=none):aJ (ks++[(z,k)])=dO (aJ ks) z (some (cC k)):=by
 funext x
 unfold dO
 have hr:aJ ks z=none:=by show (ks.lookup z).map cC=none;rw [h];rfl
 rw [hr]
 unfold aJ
 rw [List.lookup_append]
 by_cases hx:x=z
 ·subst hx
  rw [h,if_pos rfl]
  simp
 ·rw [if_neg hx]
  have:(List.lookup x [(z,k)])=none:=by
   show (match x == z with | true=>some k | false=>none)=none
   rw [beq_eq_false_iff_ne.mpr hx]
  rw [this]
  simp
theorem Cs {ρ:Env} {z:Str} {k0:Kd} {k:Option Kd} (h:ρ z=some k0):dO ρ z k=ρ:=by
 funext x
 unfold dO
 rw [h]
 by_cases hx:x=z
 ·rw [if_pos hx,hx,h]
 ·rw [if_neg hx]
theorem Ct {kd:Kd} (hk:∀ k0,kd=some k0->k0≠""):cC (kS (some kd))=kd:=by
 cases kd with
 | none=>rfl
 | some k0=>show cC k0=some k0;unfold cC;rw [if_neg (hk k0 rfl)]
theorem uK {R:Rc} (hO:cB R) {tt:List Tr} (hT:∀ k,aF k tt=aF k (az R)) {ks:List (Str × Str)} (hA:oA R ks) (r:Nat) (w:Rw) (hg:cA R (ks.map (·.1)) w.e) (fs:List (List ae)) :
  (bJ tt none (w.tr r) (aJ ks,fs)).1=aJ (c8 R ks w)/\∀ k,k∈(bJ tt none (w.tr r) (aJ ks,fs)).2↔cf r fs (dE R ks w) k:=by
 cases w with
 | tell e =>
  have hg:cA R (ks.map (·.1)) e:=hg
  obtain ⟨kd,ek,pk⟩:=fA hO hg
  refine ⟨rfl,fun k=>?_⟩
  show k∈eR r (aL tt (aJ ks) e) (aP tt (aJ ks) r e fs)↔cf r fs (aR R (aJ ks) e++(if kS (aL (az R) (aJ ks) e)=R.n4∨kS (aL (az R) (aJ ks) e)=R.n5 then ["tell"] else []:List Str)) k
  rw [fX hT,ek,<- fY (ip hO hT r e fs k hg)]
  unfold eR
  cases kd with
  | none =>
   rw [if_neg (by simp [isRec]),if_neg (fun z=>z.elim (fun q=>hO.q4.1 q.symm) fun q=>hO.q5.1 q.symm),dD]
  | some k0 =>
   show k∈(if ([some k0]:List Kd).any isRec=true then _ else _)↔cf r _ (if k0=R.n4∨k0=R.n5 then ["tell"] else []:List Str) k
   by_cases hr:k0=R.n4∨k0=R.n5
   ·have hn:k0∉lh:=by rcases hr with rfl | rfl;exact hO.q4.2;exact hO.q5.2
    rw [if_pos hr,if_pos (by simp [isRec,hn])]
    simp [cf,oy]
   ·have hn:k0∈lh:=(uJ hO hA hg ek).resolve_right hr
    rw [if_neg hr,if_neg (by simp [isRec,hn]),dD]
 | set z e =>
  have hg:cA R (ks.map (·.1)) e:=hg
  obtain ⟨kd,ek,pk⟩:=fA hO hg
  constructor
  ·show dO (aJ ks) z (aL tt (aJ ks) e)=aJ (if ks.lookup z=none then ks++[(z,kS (aL (az R) (aJ ks) e))] else ks)
   rw [fX hT,ek]
   cases hl:ks.lookup z with
   | none=>rw [if_pos rfl,Cr hl,Ct pk]
   | some k0=>rw [if_neg (by simp)];exact Cs (k0:=cC k0) (by show (ks.lookup z).map cC=_;rw [hl];rfl)
  ·intro k
   show k∈fw r (aJ ks) z (aL tt (aJ ks) e) (aP tt (aJ ks) r e fs)↔cf r fs (aR R (aJ ks) e++(if (ks.lookup z).getD ""≠""/\kS (aL (az R) (aJ ks) e)≠""/\kS (aL (az R) (aJ ks) e)≠(ks.lookup z).getD "" then ["kind"] else []:List Str)) k
   rw [fX hT,ek,<- fY (ip hO hT r e fs k hg)]
   cases kd with
   | none=>rw [if_neg (fun q=>q.2.1 rfl),dD];exact Iff.rfl
   | some k0 =>
    show k∈bP r ((ks.lookup z).map cC) k0 _↔cf r _ (if (ks.lookup z).getD ""≠""/\k0≠""/\k0≠(ks.lookup z).getD "" then ["kind"] else []:List Str) k
    cases hl:ks.lookup z with
    | none=>rw [if_neg (fun q=>q.1 rfl),dD];unfold bP cx;simp
    | some k1 =>
     show k∈bP r (some (cC k1)) k0 _↔cf r _ (if k1≠""/\k0≠""/\k0≠k1 then ["kind"] else []:List Str) k
     rw [ly (fun k2 h2=>by unfold cC at h2;split at h2;cases h2;cases h2;assumption),uy]
     unfold bS
     by_cases h1:k1=""
     ·rw [if_neg (fun q=>q.1 h1),if_neg (fun q=>q.1 h1)]
     ·by_cases h2:k1=k0
      ·rw [if_neg (fun q=>q.2 h2),if_neg (fun q=>q.2.2 h2.symm)]
      ·rw [if_pos ⟨h1,h2⟩,if_pos ⟨h1,pk k0 rfl,fun q=>h2 q.symm⟩]
end
section
variable {P:Program} {w:World} {K:W.Frag} {mg:Str->Option Value} {base:Heap} {AA:bG} {DD:bH}
theorem uL (x:Int):∀ i,(wQ x i).cps.toList.head?=some 113
 | 0=>by show ("q":Str).cps.toList.head?=some 113;decide +kernel
 | i+1=>by
  show (wQ x i++_).cps.toList.head?=_
  rw [jA,List.head?_append,uL x i];rfl
theorem Cu (x:Int) (i:Nat):(dR x i).cps.toList.head?=some 113:=by
 have hl:=uc x
 have hA:1<=dQ x:=by
  unfold dQ
  have:=Int.emod_nonneg (x / 8) (show ((((bY x).length:Nat):Int)-1)≠0 by omega)
  omega
 have hq:(bY x).cps.toList.head?=some 113:=uL x _
 have h1:(ff (bY x) none (some (dQ x))).cps.toList.head?=some 113:=by
  rw [qb]
  have e0:HT.sIx (bY x).length 0 none=0:=rfl
  have e1:1<=HT.sIx (bY x).length (bY x).length (some (dQ x)):=by
   show 1<=HT.sIx _ _ (some (dQ x))
   unfold HT.sIx
   simp only
   split<;>omega
  rw [e0,List.drop_zero,Nat.sub_zero]
  cases hc:(bY x).cps.toList with
  | nil=>rw [hc] at hq;cases hq
  | cons c cs =>
   rw [hc] at hq
   obtain ⟨m,em⟩:∃ m,HT.sIx (bY x).length (bY x).length (some (dQ x))=m+1:=⟨_,(Nat.succ_pred_eq_of_pos e1).symm⟩
   rw [em]
   exact hq
 unfold dR
 rw [jA,jA,List.head?_append,List.head?_append,h1];rfl
theorem oC {z y:Str} (h:z.cps.toList.head?=some 113) (hy:y.cps.toList.head?≠some 113):z≠y:=fun e=>hy (by rw [<- e];exact h)
noncomputable def ak (is:List Int):Rc:=⟨cN (aZ (dC is 0) 9),eE (cN (aZ (dC is 0) 9)) (aZ (dC is 1) 0),eE (cN (aZ (dC is 0) 9)) (aZ (dC is 1) 1)⟩
theorem fZ (x y:Int):(eE (cN x) y).length<=3/\((eE (cN x) y).map (·.1)).Nodup/\∀ q∈eE (cN x) y,q.2∈ce:=by
 obtain ⟨m,em,hm⟩:=cI (a:=y) (n:=4) (by decide)
 have em:y % 4=((m:Nat):Int):=em
 obtain ⟨f,ef,hf⟩:=cI (a:=y / 4) (n:=4) (by decide)
 have ef:y / 4 % 4=((f:Nat):Int):=ef
 have e1:eE (cN x) y=(List.range m).map (eS (cN x) y):=by unfold eE;rw [em,Int.toNat_natCast]
 have e2:∀ k:Nat,((y / 4 % 4+((k:Nat):Int)) % 4).toNat=(f+k) % 4:=fun k=>by rw [ef];omega
 rw [e1]
 refine ⟨by simp;omega,?_,fun q hq=>?_⟩
 ·rw [List.map_map]
  refine List.Pairwise.map _ (fun a b (h:a<b/\a<m/\b<m) z=>?_) ((List.pairwise_lt_range (n:=m)).imp_of_mem fun ha hb h=>⟨h,List.mem_range.mp ha,List.mem_range.mp hb⟩)
  have z:(eS (cN x) y a).1=(eS (cN x) y b).1:=z
  unfold eS at z
  simp only [e2] at z
  rw [lu (by omega),lu (by omega)] at z
  have:=ug (by omega) (by omega) z
  omega
 ·obtain ⟨k,_,rfl⟩:=QE hq
  show ce.getD _ ""∈ce
  obtain ⟨j,ej,hj⟩:=cI (a:=y / (16+3*((k:Nat):Int))) (n:=2) (by decide)
  have ej:y / (16+3*((k:Nat):Int)) % 2=((j:Nat):Int):=ej
  rw [ej,Int.toNat_natCast]
  rcases (show j=0∨j=1 by omega) with rfl | rfl<;>decide +kernel
theorem iq (is:List Int):cB (ak is):=by
 have h4:(ak is).n4=dR (aZ (dC is 0) 9) 4:=lu (by decide)
 have h5:(ak is).n5=dR (aZ (dC is 0) 9) 5:=lu (by decide)
 have e:∀ i,dR (aZ (dC is 0) 9) i≠""/\dR (aZ (dC is 0) 9) i∉ce:=fun i=>by
  have hh:=Cu (aZ (dC is 0) 9) i
  refine ⟨oC hh (by decide +kernel),fun z=>?_⟩
  rcases Qu z with z | z
  ·exact oC hh (show ("num":Str).cps.toList.head?≠_ by decide +kernel) z
  ·exact oC hh (show ("truth":Str).cps.toList.head?≠_ by decide +kernel) (List.mem_singleton.mp z)
 exact ⟨by rw [h4,h5];exact fun z=>absurd (ug (by decide) (by decide) z) (by decide),(fZ _ _).2.1,(fZ _ _).2.1,(fZ _ _).2.2,(fZ _ _).2.2,by rw [h4];exact e 4,by rw [h5];exact e 5⟩
theorem dm.off {H:Hp} {a p:Addr} {ps:List (Str × Str)} {kv:List (ae × V)} {o:HO} (h:dm H p ps) (ha:H a=some (.dK kv)):dm (af H a o) p ps:=by
 obtain ⟨us,b,c,d⟩:=h
 refine ⟨us,by rw [ar (fun z=>by rw [z,ha] at b;cases b)];exact b,c,fun i u q x y=>?_⟩
 have:=d i u q x y
 rw [ar (fun z=>by rw [z,ha] at this;cases this)];exact this
noncomputable def uM (R:Rc) (rd:Addr) (H:Hp):Nat->Prop
 | 0=>H rd=some (.dK [])
 | 1=>∃ p0,H rd=some (.dK [(.inr R.n4,.ref p0)])/\dm H p0 R.f0
 | _=>∃ p0 p1,H rd=some (.dK [(.inr R.n4,.ref p0),(.inr R.n5,.ref p1)])/\dm H p0 R.f0/\dm H p1 R.f1
noncomputable def Cv (K:W.Frag):Sp:=fun vs H Q _=>∃ (a l:Addr) (is:List Int),vs=[.ref a,.ref l]/\am K H a (is.map V.int)/\H l=some (.lst ((ak is).ns.map V.str)) /\
 ∀ t tr rd xs H',Same H H'->H tr=none->H rd=none->H' t=some (.tup [.ref tr,.ref rd])->H' tr=some (.lst xs)->LAt (off H' tr) false xs (az (ak is))->RcAt (off H' tr) rd l (ak is)->Q (.ref t) H'
noncomputable abbrev uN:List Str:=["_law_script","_law_names_here","_law_records","_law_k","_law_tree","_law_param"]
theorem uO:ba uN ["_law_script","_law_names_here"] (aK kY):=⟨rfl,rfl,rfl,by decide +kernel,rfl,by decide +kernel,by decide +kernel⟩
theorem Cw (T:All P w K mg AA DD):aE P w K mg base aI 2 AA.ZJ DD.ZJ ["_law_script","_law_names_here"] (Cv K):=by
 have GC:=tZ (base:=base) T
 have GX:=nZ (base:=base) T
 have GFD:=B4 (base:=base) T
 refine T.F_ZJ.ok uO (fun vs H Q E h=>?_) (fun cdv A outer s H vs Q E hr h=>?_)
 ·obtain ⟨a,l,is,rfl,_⟩:=h
  rfl
 ·obtain ⟨a,l,is,rfl,hS,hl,kq⟩:=h
  have nd:=uO.nd
  have hr1:aA 1 _:=hr
  have hu:=QF (Nat.add_le_add_left (show 1<=64 by decide) _) hr.units
  refine ⟨_,(av (@bf _ _ 2 _ _ _ _ nd rfl (Or.inr rfl) j5 (by rfl) (by first | exact .inl rfl | exact .inr rfl | assumption)) (av (cO PassesOwn.never rfl (iN rfl T.n_range (aa ai ag)) (aT (i:=3) nd rfl (Or.inl rfl)) (aq (i6 hu (pv 2) (au (cS (K:=K) rfl) (pv 1) (aG cP ai (pv 3)) (fun _ _=>rfl)) (aN GFD hr1 rfl T.m_Zv T.k_Zv T.b_Zv .nil aB (aa (aN GX hr1 rfl T.m_ZB T.k_ZB T.b_ZB .nil aB (aa (aN GC hr1 rfl T.m_Zr T.k_Zr T.b_Zr .nil aB (aa (pv 0) (aa ai ag))) (aa (pv 3) ag))) (aa (pv 1) ag))) rfl)) (by intro _;rfl)) (av (xI (i:=4) (aK kY) uN ["_law_names_here","_law_records"] [1,2] rfl (by exact ⟨rfl,rfl,by decide +kernel,rfl,by decide +kernel,by decide +kernel,by decide +kernel,rfl,by decide +kernel⟩) rfl rfl (iN rfl T.n_range (aa ai ag)) (fun _ _ _ _=>d4) (fun _ _ _ _=>(aV (aa aD (aa (pv 0) (aa (au (cS (K:=K) rfl) (pv 1) (aG cP ai (pv 0)) (fun _ _=>rfl)) (aa (eY (ye (K:=K) rfl) rfl T.n_tuple i7 (aa (gp hu (pv 2) (au (cS (K:=K) rfl) (pv 1) (aG cP ai (pv 0)) (fun _ _=>rfl)) (fun _ _=>rfl)) ag)) ag)))))) nd rfl rfl rfl) (av (@bf _ _ 5 _ _ _ _ nd rfl (Or.inl rfl) (aV (aa (aV (aa aD (aa (au (cS (K:=K) rfl) (pv 1) ai (fun _ _=>rfl)) ag))) ag)) (by rfl) (by first | exact .inl rfl | exact .inr rfl | assumption)) (aq (aO (aV (aa (aG jY (pv 4) (bB (aa (aV (aa aD (aa ai (aa (au (cS (K:=K) rfl) (pv 1) ai (fun _ _=>rfl)) (aa (au (cS (K:=K) rfl) (pv 1) ai (fun _ _=>rfl)) (aa (pv 5) (aa (bB (aa (aV (aa aD (aa ai (aa (aV (aa aD (aa aD ag))) ag)))) ag)) ag))))))) ag))) (aa (pv 2) ag))))))))),?_⟩
  have hO:=iq is
  have hn7:(ak is).ns.length=7:=uf _
  refine fun rd hrd=>?_
  have s0:=ao (o:=.dK []) hrd
  dsimp only [aX]
  refine d5 (fun σ' H'=>Same H H'/\uM (ak is) rd H' 2/\∃ x3,σ'=[some (.ref a),some (.ref l),some (.ref rd),x3,none,none]) (fun RR hRR=>?_) ?_
  ·refine ⟨_,rfl,(by decide),(by decide),?_⟩
   refine lR (n:=2) (D:=⟨RR,_,RR,RR⟩) (fun i σ' H'=>Same H H'/\uM (ak is) rd H' i/\∃ x3,σ'=[some (.ref a),some (.ref l),some (.ref rd),x3,none,none]) ⟨s0,aj,_,rfl⟩ ?_ ?_
   ·rintro i σ' H' hi ⟨sm,hI,x3,rfl⟩
    rw [Int.zero_add]
    refine ⟨_,rfl,a,is,1,rfl,sm.seq hS,_,rfl,_,_,rfl,_,rfl,aZ (dC is 1) ((i:Nat):Int),l,(ak is).ns,rfl,sm _ _ hl,hn7,fun p H2 hp0 s2 hL=>?_⟩
    have hl2:=s2 _ _ (sm _ _ hl)
    refine ⟨_,rfl,_,rfl,_,rfl,_,_,rfl,rfl,l,_,_,.str ((ak is).ns.getD (4+i) ""),rfl,rfl,am.of hl2,?_,?_⟩
    ·show dG _ ((4:Int)+((i:Nat):Int))=_
     rw [show (4:Int)+((i:Nat):Int)=((4+i:Nat):Int) by omega]
     exact ap (ei (by omega))
    have sr:∀ o,Same H (af H2 rd o):=fun o b x hb=>by rw [ar (fun z=>by rw [z,hrd] at hb;cases hb)];exact s2 _ _ (sm _ _ hb)
    rcases (show i=0∨i=1 by omega) with rfl | rfl
    ·have hI:H' rd=some (.dK []):=hI
     refine ⟨rd,_,rfl,dw.k (k:=.inr (ak is).n4) (s2 _ _ hI) (by show 0<sizeLine;decide),sr _,⟨p,aj,hL.off (s2 _ _ hI)⟩,_,rfl⟩
    ·obtain ⟨p0,hI,hL0⟩:=hI
     refine ⟨rd,_,rfl,dw.k (k:=.inr (ak is).n5) (s2 _ _ hI) (by show 1<sizeLine;decide),sr _,⟨p0,p,?_,(hL0.same s2).off (s2 _ _ hI),hL.off (s2 _ _ hI)⟩,_,rfl⟩
     rw [aj]
     have e:bO [((.inr (ak is).n4:ae),V.ref p0)] (.inr (ak is).n5) (.ref p)=[(.inr (ak is).n4,.ref p0),(.inr (ak is).n5,.ref p)]:=by
      unfold bO
      rw [if_neg (by simp;exact hO.ne)]
      rfl
     rw [e]
   ·rintro σ' H' ⟨sm,hI,x3,rfl⟩
    exact hRR _ _ ⟨sm,hI,x3,rfl⟩
  rintro σ' H1 ⟨s1,⟨p0,p1,hrd1,hp0,hp1⟩,x3,rfl⟩
  have hl1:=s1 _ _ hl
  have hR1:RcAt H1 rd l (ak is):=⟨hl1,hn7,hO.ne,⟨p0,p1,hrd1,hp0,hp1⟩,(fZ _ _).1,(fZ _ _).1⟩
  refine tq (fun σ' H'=>∃ q ys,Same H1 H'/\H1 q=none/\H' q=some (.lst ys)/\LAt H' false ys [.kd 0 (ak is).n4 (ak is).f0,.kd 1 (ak is).n5 (ak is).f1]/\ys.length=2/\σ'=[some (.ref a),some (.ref l),some (.ref rd),x3,some (.ref q),none]) (fun RR hRR=>?_) ?_
  ·refine ⟨_,rfl,(by decide),(by decide),?_⟩
   show gl (eX 0 2) _ _ _ _ _ _
   refine p6 (fun i ys H'=>Same H1 H'/\i<=2/\ys.length=i/\LAt H' false ys (([.kd 0 (ak is).n4 (ak is).f0,.kd 1 (ak is).n5 (ak is).f1]:List Tr).take i)) ⟨Same.refl _,Qr _,rfl,.nil⟩ ?_ ?_
   ·rintro i ys H2 hi ⟨s2,_,hyl,hLy⟩
    rw [Int.zero_add]
    refine dZ ?_
    rw [if_pos rfl]
    have hix:dG ((ak is).ns.map V.str) ((4:Int)+((i:Nat):Int))=some (.str ((ak is).ns.getD (4+i) "")):=by
     rw [show (4:Int)+((i:Nat):Int)=((4+i:Nat):Int) by omega]
     exact ap (ei (by omega))
    obtain ⟨pj,hdg,⟨us,hpj,hul,hus⟩,_⟩:=(hR1.same s2).get hi
    refine ⟨_,rfl,_,rfl,_,rfl,_,_,rfl,rfl,l,_,_,_,rfl,rfl,am.of (s2 _ _ hl1),hix,_,rfl,_,rfl,_,rfl,_,_,rfl,rfl,l,_,_,_,rfl,rfl,am.of (s2 _ _ hl1),hix,rd,_,rfl,hdg,pj,_,rfl,.inl ⟨am.of hpj,fun t1 ht1=>⟨(by show 4<=sizeLine;decide),fun t2 ht2=>?_⟩⟩⟩
    have st1:=ao (o:=.tup (us.map V.ref)) ht1
    have st2:=ao (o:=.tup [.str "kind",.int ((i:Nat):Int),.str ((ak is).ns.getD (4+i) ""),.ref t1]) ht2
    have s12:=st1.trans st2
    refine ⟨cr (by omega),s2.trans s12,by omega,by simp [hyl],?_⟩
    have hP:∀ ps,(ak is).f i=ps->eC (af (af H2 t1 (.tup (us.map V.ref))) t2 (.tup [.str "kind",.int ((i:Nat):Int),.str ((ak is).ns.getD (4+i) ""),.ref t1])) (.ref t1) ps:=fun ps e=>⟨t1,us,rfl,st2 _ _ aj,by rw [<- e];exact hul,fun j u q x y=>s12 _ _ (hus j u q x (by rw [e];exact y))⟩
    rcases (show i=0∨i=1 by omega) with rfl | rfl
    ·cases hLy
     exact .cons (.plain rfl (.mk aj (.cons (.s _) (.cons (.i 0) (.cons (.s _) (.cons (.p (hP _ rfl)) .nil)))))) .nil
    ·exact (hLy.kept s12.ls).snoc (.plain rfl (.mk aj (.cons (.s _) (.cons (.i 1) (.cons (.s _) (.cons (.p (hP _ rfl)) .nil))))))
   ·rintro ys H2 ⟨s2,_,hyl,hLy⟩ q hq
    have sq:=ao (o:=.lst ys) hq
    exact hRR _ _ ⟨q,ys,s2.trans sq,s2.free hq,aj,hLy.kept sq.ls,hyl,rfl⟩
  rintro σ' H2 ⟨q,ys,s2,hq0,hq2,hLy,hyl,rfl⟩
  have hl2:=s2 _ _ hl1
  refine ⟨_,rfl,l,_,_,.str (ak is).n4,rfl,rfl,am.of hl2,ap (j:=4) (ei (by omega)),(by show 2<=sizeLine;decide),fun t1 ht1=>⟨(by show 1<=sizeLine;decide),fun t2 ht2=>?_⟩⟩
  dsimp only [aX]
  have a1:=ao (o:=.tup [.str "x",.str (ak is).n4]) ht1
  have a2:=ao (o:=.tup [.ref t1]) ht2
  have a12:=a1.trans a2
  have b2:af (af H2 t1 (.tup [.str "x",.str (ak is).n4])) t2 (.tup [.ref t1]) t2=some (.tup [.ref t1]):=aj
  have b1:=a2 _ _ (aj (H:=H2) (a:=t1) (o:=.tup [.str "x",.str (ak is).n4]))
  have hl3:=a12 _ _ hl2
  generalize af (af H2 t1 (.tup [.str "x",.str (ak is).n4])) t2 (.tup [.ref t1])=H3 at a12 b1 b2 hl3 ⊢
  refine ⟨_,rfl,_,rfl,l,_,_,.str (ak is).n6,rfl,rfl,am.of hl3,ap (j:=6) (ei (by omega)),_,rfl,l,_,_,.str (ak is).n4,rfl,rfl,am.of hl3,ap (j:=4) (ei (by omega)),_,rfl,(by show 2<=sizeLine;decide),fun t3 ht3=>⟨(by show 3<=sizeLine;decide),fun t4 ht4=>⟨(by show 1<=sizeLine;decide),fun pb hpb=>⟨(by show 6<=sizeLine;decide),fun t5 ht5=>⟨(by show 1<=sizeLine;decide),fun l6 hl6=>?_⟩⟩⟩⟩⟩
  have c3:=ao (o:=.tup [.str "name",.str "x"]) ht3
  have c4:=ao (o:=.tup [.str "give",.int 3,.ref t3]) ht4
  have cb:=ao (o:=.lst [.ref t4]) hpb
  have c5:=ao (o:=.tup [.str "def",.int 2,.str (ak is).n6,.str (ak is).n4,.ref t2,.ref pb]) ht5
  have c6:=ao (o:=.lst [.ref t5]) hl6
  have f3:=aj (H:=H3) (a:=t3) (o:=.tup [.str "name",.str "x"])
  have f4:=aj (H:=af H3 t3 (.tup [.str "name",.str "x"])) (a:=t4) (o:=.tup [.str "give",.int 3,.ref t3])
  have g3:=c6 _ _ (c5 _ _ (cb _ _ (c4 _ _ f3)))
  have g4:=c6 _ _ (c5 _ _ (cb _ _ f4))
  have gb:=c6 _ _ (c5 _ _ (aj (a:=pb) (o:=.lst [.ref t4]) (H:=af (af H3 t3 (.tup [.str "name",.str "x"])) t4 (.tup [.str "give",.int 3,.ref t3]))))
  have sC:=(((c3.trans c4).trans cb).trans c5).trans c6
  have g5:=c6 _ _ (aj (a:=t5) (o:=.tup [.str "def",.int 2,.str (ak is).n6,.str (ak is).n4,.ref t2,.ref pb]) (H:=af (af (af H3 t3 (.tup [.str "name",.str "x"])) t4 (.tup [.str "give",.int 3,.ref t3])) pb (.lst [.ref t4])))
  have g6:=aj (a:=l6) (o:=.lst [.ref t5]) (H:=af (af (af (af H3 t3 (.tup [.str "name",.str "x"])) t4 (.tup [.str "give",.int 3,.ref t3])) pb (.lst [.ref t4])) t5 (.tup [.str "def",.int 2,.str (ak is).n6,.str (ak is).n4,.ref t2,.ref pb]))
  generalize af (af (af (af (af H3 t3 (.tup [.str "name",.str "x"])) t4 (.tup [.str "give",.int 3,.ref t3])) pb (.lst [.ref t4])) t5 (.tup [.str "def",.int 2,.str (ak is).n6,.str (ak is).n4,.ref t2,.ref pb])) l6 (.lst [.ref t5])=H4 at g3 g4 gb g5 g6 sC ⊢
  have sD:=a12.trans sC
  refine ⟨q,l6,ys,[.ref t5],rfl,rfl,sD _ _ hq2,g6,(by rw [hyl];show 2+1<=sizeLine;decide),fun tr htr=>⟨_,rfl,(by show 2<=sizeLine;decide),fun t ht=>?_⟩⟩
  have e1:=ao (o:=.lst (ys++[.ref t5])) htr
  have e2:=ao (o:=.tup [.ref tr,.ref rd]) ht
  have sE:=(s1.trans s2).trans sD
  have hrdn:H rd=none:=hrd
  have sO:Same H4 (off (af (af H4 tr (.lst (ys++[.ref t5]))) t (.tup [.ref tr,.ref rd])) tr):=fun b o hb=>by rw [fW (b5 hb htr)];exact e2 _ _ (e1 _ _ hb)
  refine kq t tr rd _ _ ((sE.trans e1).trans e2) (sE.free htr) hrdn aj (e2 _ _ aj) ?_ ((hR1.same s2).same (sD.trans sO))
  have hL4:=(hLy.kept sD.ls).kept sO.ls
  refine hL4.snoc (t:=.df 2 (ak is).n6 (ak is).n4 [("x",(ak is).n4)] [.give 3 (.name "x")]) (.plain rfl (.mk (sO _ _ g5) (.cons (.s _) (.cons (.i 2) (.cons (.s _) (.cons (.s _) (.cons (.p ⟨t2,[t1],rfl,sO _ _ (sC _ _ b2),rfl,fun i u q x y=>?_⟩) (.cons (.b (sO _ _ gb) (.cons (.plain rfl (.mk (sO _ _ g4) (.cons (.s _) (.cons (.i 3) (.cons (.e (.name (sO _ _ g3))) .nil))))) .nil)) .nil))))))))
  match i with
  | 0=>cases (show some t1=some u from x);cases (show some (("x":Str),(ak is).n4)=some q from y);exact sO _ _ (sC _ _ b1)
  | i+1=>simp at x
end
section
variable {P:Program} {w:World} {K:W.Frag} {mg:Str->Option Value} {base:Heap} {AA:bG} {DD:bH}
noncomputable def aQ (z:Str):Prop:=∀ c∈z.cps.toList,c<128
theorem dS {ns:List Str} (h:∀ z∈ns,aQ z) (j:Nat):aQ (ns.getD j ""):=by
 rw [Qg]
 cases e:ns[j]? with
 | none=>show aQ (Str.ofString "");unfold aQ;decide +kernel
 | some d=>exact h d (QD e)
noncomputable def ir (q:Str × Str):PyData:=.tuple [.str q.1,.str q.2]
noncomputable def gE (ps:List (Str × Str)):Prop:=∀ q∈ps,aQ q.1/\aQ q.2
theorem uP {K:W.Frag} {H:Hp}:∀ {us:List Addr} {ps:List (Str × Str)},us.length=ps.length->(∀ (i:Nat) (u:Addr) (q:Str × Str),us[i]?=some u->ps[i]?=some q->H u=some (.tup [.str q.1,.str q.2]))->RdvA K H (us.map V.ref) (ps.map ir)
 | [],[],_,_=>.nil
 | [],_::_,h,_=>by simp at h
 | _::_,[],h,_=>by simp at h
 | u::us,q::ps,h,hat=>.cons (.tup (ah.of (hat 0 u q rfl rfl)) (.cons (.str _) (.cons (.str _) .nil))) (uP (by simpa using h) fun i u' q' h1 h2=>hat (i+1) u' q' (by simpa using h1) (by simpa using h2))
theorem Cy {q:Str × Str} (h:aQ q.1/\aQ q.2):bb 1 (ir q):=bb.tuple (n:=0) fun d hd=>by
 simp only [List.mem_cons,List.not_mem_nil,or_false] at hd
 rcases hd with rfl | rfl
 ·exact .str h.1
 ·exact .str h.2
theorem Cz {ps:List (Str × Str)} (h:gE ps):∀ d∈ps.map ir,bb 1 d:=fun d hd=>by
 obtain ⟨q,hq,rfl⟩:=QE hd
 exact Cy (h q hq)
mutual
noncomputable def bx:Ex->Prop
 | .num _=>True
 | .truth z=>aQ z
 | .name z=>aQ z
 | .not e=>bx e
 | .op w a b=>aQ w/\bx a/\bx b
 | .of n e=>aQ n/\bx e
 | .many w z es=>aQ w/\aQ z/\gF es
noncomputable def gF:List Ex->Prop
 | []=>True
 | e::es=>bx e/\gF es
end
mutual
noncomputable def bU:Ex->PyData
 | .num n=>.tuple [.str "num",.int n]
 | .truth z=>.tuple [.str "truth",.str z]
 | .name z=>.tuple [.str "name",.str z]
 | .not e=>.tuple [.str "not",bU e]
 | .op w a b=>.tuple [.str w,bU a,bU b]
 | .of n e=>.tuple [.str "of",.str n,bU e]
 | .many w z es=>.tuple [.str w,.str z,.tuple (f6 es)]
noncomputable def f6:List Ex->List PyData
 | []=>[]
 | e::es=>bU e::f6 es
end
mutual
theorem iu {K:W.Frag} {H:Hp}:∀ {e:Ex} {v:V},bx e->a7 H v e->cM K H v (bU e)
 | .num n,v,_,h=>by cases h with | num h=>rw [bU];exact .tup (ah.of h) (.cons (.str _) (.cons (.int _) .nil))
 | .truth z,v,_,h=>by cases h with | truth h=>rw [bU];exact .tup (ah.of h) (.cons (.str _) (.cons (.str _) .nil))
 | .name z,v,_,h=>by cases h with | name h=>rw [bU];exact .tup (ah.of h) (.cons (.str _) (.cons (.str _) .nil))
 | .not e,v,p,h=>by cases h with | not h a=>rw [bU];exact .tup (ah.of h) (.cons (.str _) (.cons (iu (by simpa only [bx] using p) a) .nil))
 | .op w a b,v,p,h=>by
  rw [bx] at p
  cases h with | op h x y=>rw [bU];exact .tup (ah.of h) (.cons (.str _) (.cons (iu p.2.1 x) (.cons (iu p.2.2 y) .nil)))
 | .of n e,v,p,h=>by
  rw [bx] at p
  cases h with | of h x=>rw [bU];exact .tup (ah.of h) (.cons (.str _) (.cons (.str _) (.cons (iu p.2 x) .nil)))
 | .many w z es,v,p,h=>by
  rw [bx] at p
  cases h with | many h l a=>rw [bU];exact .tup (ah.of h) (.cons (.str _) (.cons (.str _) (.cons (.tup (ah.of l) (uQ p.2.2 a)) .nil)))
theorem uQ {K:W.Frag} {H:Hp}:∀ {es:List Ex} {vs:List V},gF es->ExsAt H vs es->RdvA K H vs (f6 es)
 | [],_,_,h=>by cases h;rw [f6];exact .nil
 | e::es,_,p,h=>by
  rw [gF] at p
  cases h with | cons a b=>rw [f6];exact .cons (iu p.1 a) (uQ p.2 b)
end
theorem gG {n:Nat} {z:Str} (h:aQ z):bb n (.str z):=(bb.str h).up (Qr _)
mutual
theorem iw:∀ (e:Ex),bx e->bb (2*e.deep+1) (bU e)
 | .num n,_=>by
  rw [bU]
  refine (bb.tuple (n:=0) fun d hd=>?_).up (by omega)
  simp only [List.mem_cons,List.not_mem_nil,or_false] at hd
  rcases hd with rfl | rfl
  ·exact .str (by decide +kernel)
  ·exact .int _
 | .truth z,h=>by
  rw [bx] at h
  rw [bU]
  refine (bb.tuple (n:=0) fun d hd=>?_).up (by omega)
  simp only [List.mem_cons,List.not_mem_nil,or_false] at hd
  rcases hd with rfl | rfl
  ·exact .str (by decide +kernel)
  ·exact .str h
 | .name z,h=>by
  rw [bx] at h
  rw [bU]
  refine (bb.tuple (n:=0) fun d hd=>?_).up (by omega)
  simp only [List.mem_cons,List.not_mem_nil,or_false] at hd
  rcases hd with rfl | rfl
  ·exact .str (by decide +kernel)
  ·exact .str h
 | .not e,h=>by
  rw [bx] at h
  have ih:=iw e h
  rw [bU]
  refine (bb.tuple (n:=2*e.deep+1) fun d hd=>?_).up (by rw [Ex.deep];omega)
  simp only [List.mem_cons,List.not_mem_nil,or_false] at hd
  rcases hd with rfl | rfl
  ·exact gG (by unfold aQ;decide +kernel)
  ·exact ih
 | .op w a b,h=>by
  rw [bx] at h
  have i1:=iw a h.2.1
  have i2:=iw b h.2.2
  rw [bU]
  refine (bb.tuple (n:=2*(max a.deep b.deep)+1) fun d hd=>?_).up (by rw [Ex.deep];omega)
  simp only [List.mem_cons,List.not_mem_nil,or_false] at hd
  rcases hd with rfl | rfl | rfl
  ·exact gG h.1
  ·exact i1.up (by omega)
  ·exact i2.up (by omega)
 | .of n e,h=>by
  rw [bx] at h
  rw [bU]
  refine (bb.tuple (n:=2*e.deep+1) fun d hd=>?_).up (by rw [Ex.deep];omega)
  simp only [List.mem_cons,List.not_mem_nil,or_false] at hd
  rcases hd with rfl | rfl | rfl
  ·exact gG (by unfold aQ;decide +kernel)
  ·exact gG h.1
  ·exact iw e h.2
 | .many w z es,h=>by
  rw [bx] at h
  have ih:=exs_shd es h.2.2
  rw [bU]
  refine (bb.tuple (n:=2*cc es+2) fun d hd=>?_).up (by rw [Ex.deep];omega)
  simp only [List.mem_cons,List.not_mem_nil,or_false] at hd
  rcases hd with rfl | rfl | rfl
  ·exact gG h.1
  ·exact gG h.2.1
  ·exact bb.tuple ih
theorem exs_shd:∀ (es:List Ex),gF es->∀ d∈f6 es,bb (2*cc es+1) d
 | [],_,d,h=>by simp [f6] at h
 | e::es,p,d,h=>by
  rw [gF] at p
  have i1:=iw e p.1
  have i2:=exs_shd es p.2
  rw [f6] at h
  rw [cc]
  rcases Qu h with rfl | h
  ·exact i1.up (by omega)
  ·exact (i2 d h).up (by omega)
end
theorem uR:∀ {es:List Ex},(∀ e∈es,e.good)->mN es
 | [],_=>trivial
 | e::es,h=>⟨h e (by simp),uR fun x hx=>h x (by simp [hx])⟩
theorem uS:∀ {es:List Ex},(∀ e∈es,e.dos)->ig es
 | [],_=>trivial
 | e::es,h=>⟨h e (by simp),uS fun x hx=>h x (by simp [hx])⟩
theorem uT:∀ {es:List Ex},(∀ e∈es,bx e)->gF es
 | [],_=>trivial
 | e::es,h=>⟨h e (by simp),uT fun x hx=>h x (by simp [hx])⟩
theorem uU {d:Nat}:∀ {es:List Ex},(∀ e∈es,e.deep<=d)->cc es<=d
 | [],_=>by simp [cc]
 | e::es,h=>by
  have h1:=h e (by simp)
  have h2:=uU (es:=es) fun x hx=>h x (by simp [hx])
  rw [cc];omega
mutual
noncomputable def ix:Tr->PyData
 | .set r n e=>.tuple [.str "set",.int ((r:Nat):Int),.str n,bU e]
 | .tell r e=>.tuple [.str "tell",.int ((r:Nat):Int),bU e]
 | .iff r e b o=>.tuple [.str "if",.int ((r:Nat):Int),bU e,.list (trsD b),.list (trsD o)]
 | .whl r e b=>.tuple [.str "while",.int ((r:Nat):Int),bU e,.list (trsD b)]
 | .give r e=>.tuple [.str "give",.int ((r:Nat):Int),bU e]
 | .df r n k ps b=>.tuple [.str "def",.int ((r:Nat):Int),.str n,.str k,.tuple (ps.map ir),.list (trsD b)]
 | .kd r n ps=>.tuple [.str "kind",.int ((r:Nat):Int),.str n,.tuple (ps.map ir)]
noncomputable def trsD:List Tr->List PyData
 | []=>[]
 | t::ts=>ix t::trsD ts
end
mutual
noncomputable def eU:Tr->Prop
 | .set _ n e=>aQ n/\bx e/\e.deep<=3
 | .tell _ e=>bx e/\e.deep<=3
 | .iff _ e b o=>(bx e/\e.deep<=3)/\AscTs b/\AscTs o
 | .whl _ e b=>(bx e/\e.deep<=3)/\AscTs b
 | .give _ e=>bx e/\e.deep<=3
 | .df _ n k ps b=>aQ n/\aQ k/\gE ps/\AscTs b
 | .kd _ n ps=>aQ n/\gE ps
noncomputable def AscTs:List Tr->Prop
 | []=>True
 | t::ts=>eU t/\AscTs ts
end
noncomputable def lz:bF->PyData
 | .s z=>.str z
 | .i n=>.int ((n:Nat):Int)
 | .e x=>bU x
 | .b ts=>.list (trsD ts)
 | .p ps=>.tuple (ps.map ir)
noncomputable def oE:bF->Prop
 | .s z=>aQ z
 | .i _=>True
 | .e x=>bx x/\x.deep<=3
 | .b ts=>AscTs ts
 | .p ps=>gE ps
theorem uV (t:Tr):ix t=.tuple (t.parts.map lz):=by cases t<;>simp [ix,Tr.parts,lz]
theorem gH:∀ z∈(["set","tell","if","while","give","def","kind"]:List Str),aQ z:=by unfold aQ;decide +kernel
theorem eU.parts {t:Tr} (h:eU t):∀ p∈t.parts,oE p:=by
 cases t<;>(rw [eU] at h;intro p hp;simp only [Tr.parts,List.mem_cons,List.not_mem_nil,or_false] at hp)
 ·rcases hp with rfl | rfl | rfl | rfl
  ·exact gH _ (by simp)
  ·trivial
  ·exact h.1
  ·exact h.2
 ·rcases hp with rfl | rfl | rfl
  ·exact gH _ (by simp)
  ·trivial
  ·exact h
 ·rcases hp with rfl | rfl | rfl | rfl | rfl
  ·exact gH _ (by simp)
  ·trivial
  ·exact h.1
  ·exact h.2.1
  ·exact h.2.2
 ·rcases hp with rfl | rfl | rfl | rfl
  ·exact gH _ (by simp)
  ·trivial
  ·exact h.1
  ·exact h.2
 ·rcases hp with rfl | rfl | rfl
  ·exact gH _ (by simp)
  ·trivial
  ·exact h
 ·rcases hp with rfl | rfl | rfl | rfl | rfl | rfl
  ·exact gH _ (by simp)
  ·trivial
  ·exact h.1
  ·exact h.2.1
  ·exact h.2.2.1
  ·exact h.2.2.2
 ·rcases hp with rfl | rfl | rfl | rfl
  ·exact gH _ (by simp)
  ·trivial
  ·exact h.1
  ·exact h.2
mutual
theorem CA {K:W.Frag} {H:Hp}:∀ {v:V} {t:Tr},bn H false v t->eU t->cM K H v (ix t)
 | _,t,.mk h a,p=>by rw [uV];exact .tup (ah.of h) (uW a p.parts)
theorem uW {K:W.Frag} {H:Hp}:∀ {vs:List V} {ps:List bF},PsAt H false vs ps->(∀ p∈ps,oE p)->RdvA K H vs (ps.map lz)
 | _,_,.nil,_=>.nil
 | _,_,.cons a b,p=>.cons (pt_rdv a (p _ (by simp))) (uW b fun x hx=>p x (by simp [hx]))
theorem pt_rdv {K:W.Frag} {H:Hp}:∀ {v:V} {x:bF},PAt H false v x->oE x->cM K H v (lz x)
 | _,_,.s z,_=>.str z
 | _,_,.i n,_=>.int _
 | _,_,.e a,p=>iu p.1 a
 | _,_,.b l a,p=>.lst (am.of l) (trs_rdv a p)
 | _,_,.p ⟨t,us,e,h,hl,hat⟩,_=>by rw [e];exact .tup (ah.of h) (uP hl hat)
theorem trs_rdv {K:W.Frag} {H:Hp}:∀ {vs:List V} {ts:List Tr},LAt H false vs ts->AscTs ts->RdvA K H vs (trsD ts)
 | _,_,.nil,_=>by rw [trsD];exact .nil
 | _,_,.cons a b,p=>by
  rw [AscTs] at p
  rw [trsD];exact .cons (CB a p.1) (trs_rdv b p.2)
theorem CB {K:W.Frag} {H:Hp}:∀ {v:V} {t:Tr},OAt H false v t->eU t->cM K H v (ix t)
 | _,_,.plain _ a,p=>CA a p
 | _,_,.shared e _ _,_=>by cases e
end
theorem CC {t:Tr} {ts:List Tr} (h:bF.b ts∈t.parts):sizeOf ts<sizeOf t:=by
 cases t with
 | set r n e=>simp [Tr.parts] at h
 | tell r e=>simp [Tr.parts] at h
 | iff r e b o=>simp [Tr.parts] at h;rcases h with h | h<;>subst h<;>simp<;>omega
 | whl r e b=>simp [Tr.parts] at h;subst h;simp;omega
 | give r e=>simp [Tr.parts] at h
 | df r n k ps b=>simp [Tr.parts] at h;subst h;simp;omega
 | kd r n ps=>simp [Tr.parts] at h
mutual
theorem CD:∀ (t:Tr),eU t->bb (2*t.deep+9) (ix t)
 | t,p=>by
  rw [uV]
  refine bb.tuple (n:=2*t.deep+8) fun d hd=>?_
  obtain ⟨x,hx,rfl⟩:=QE hd
  have hpx:=p.parts x hx
  cases x with
  | s z=>exact gG hpx
  | i n=>exact (bb.int _).up (Qr _)
  | e e=>exact (iw e hpx.1).up (by have:=hpx.2;omega)
  | p ps=>exact (bb.tuple (Cz hpx)).up (by omega)
  | b ts =>
   have hdd:=jg hx
   have hsz:sizeOf ts<sizeOf t:=CC hx
   exact (bb.list (trs_shd ts hpx)).up (by omega)
termination_by t=>sizeOf t
theorem trs_shd:∀ (ts:List Tr),AscTs ts->∀ d∈trsD ts,bb (2*deeps ts+7) d
 | [],_,d,h=>by simp [trsD] at h
 | t::ts,p,d,h=>by
  rw [AscTs] at p
  have hd:deeps (t::ts)=max (t.deep+1) (deeps ts):=by simp [deeps]
  rw [hd]
  rw [trsD] at h
  rcases Qu h with rfl | h
  ·exact (CD t p.1).up (by omega)
  ·exact (trs_shd ts p.2 d h).up (by omega)
termination_by ts=>sizeOf ts
end
end
section
variable {P:Program} {w:World} {K:W.Frag} {mg:Str->Option Value} {base:Heap} {AA:bG} {DD:bH}
noncomputable abbrev jH:Str:="abc"
noncomputable def zQ (x:Int):Str:=⟨#[jH.cps.toList.getD (x / 8 % 3).toNat 0]⟩
noncomputable def eQ (R:Rc) (ks:List (Str × Str)) (x:Int):Ex:=cz R (ks.map (·.1)) (x / 2 % 4).toNat (aZ x 4)
noncomputable def bN (R:Rc) (ks:List (Str × Str)) (x:Int):Rw:=if (x % 2 == 0)=true then .tell (eQ R ks x) else .set (zQ x) (eQ R ks x)
structure Qs where
 ts:List Tr
 ks:List (Str × Str)
noncomputable def qN (R:Rc) (cs:List Int):Nat->Qs
 | 0=>⟨[],[]⟩
 | i+1=>⟨(qN R cs i).ts++[(bN R (qN R cs i).ks (aZ (cs.getD i 0) ((i:Nat):Int))).tr (5+i)],c8 R (qN R cs i).ks (bN R (qN R cs i).ks (aZ (cs.getD i 0) ((i:Nat):Int)))⟩
structure f7 (R:Rc):Prop where
 n7:R.ns.length=7
 ns:∀ z∈R.ns,aQ z
 l0:R.f0.length<=3
 l1:R.f1.length<=3
 a0:gE R.f0
 a1:gE R.f1
structure gI (R:Rc) (kn:List Str) (d:Nat) (e:Ex):Prop where
 gd:cA R kn e
 dp:e.deep<=d
 fi:e.good
 do_:e.dos
 ac:bx e
theorem uX {R:Rc} {kn:List Str} (h:∀ z∈kn,aQ z) (x:Int):gI R kn 0 (gC kn x):=by
 unfold gC
 split
 ·rename_i hc
  have hl:0<kn.length:=List.length_pos_iff.mpr hc.2
  have hj:(x / 15 % ((kn.length:Nat):Int)).toNat<kn.length:=by
   have h1:=Int.emod_lt_of_pos (x / 15) (show (0:Int)<((kn.length:Nat):Int) by omega)
   have h2:=Int.emod_nonneg (x / 15) (show ((kn.length:Nat):Int)≠0 by omega)
   omega
  refine ⟨?_,Qh _,trivial,trivial,?_⟩
  ·show kn.getD _ ""∈kn
   rw [Qg,Qb hj]
   exact QJ hj
  ·rw [bx];exact dS h _
 ·split
  ·refine ⟨trivial,Qh _,trivial,trivial,?_⟩
   rw [bx]
   exact dS (ns:=jC) (by unfold aQ;decide +kernel) _
  ·exact ⟨trivial,Qh _,trivial,trivial,by rw [bx];trivial⟩
theorem CF {R:Rc} (hO:cB R) {j:Nat} (hj:j<2):R.fz (R.ns.getD (4+j) "")=R.f j:=by
 rcases (show j=0∨j=1 by omega) with rfl | rfl
 ·exact if_pos rfl
 ·exact if_neg (Ne.symm hO.ne)
theorem iy {R:Rc} (hO:cB R) (hA:f7 R) {kn:List Str} (h:∀ z∈kn,aQ z):∀ (d:Nat) (x:Int),gI R kn d (cz R kn d x)
 | 0,x=>uX h x
 | d+1,x=>by
  unfold cz
  have up:∀ {e},gI R kn 0 e->gI R kn (d+1) e:=fun q=>⟨q.gd,QH q.dp (Qr _),q.fi,q.do_,q.ac⟩
  split
  ·exact up (uX h x)
  ·split
   ·have q:=iy hO hA h d (aZ x 1)
    exact ⟨q.gd,Nat.succ_le_succ q.dp,q.fi,q.do_,by rw [bx];exact ⟨dS hA.ns _,q.ac⟩⟩
   ·split
    ·obtain ⟨j,ej,hj⟩:=cI (a:=x / 15) (n:=2) (by decide)
     have ej:x / 15 % 2=((j:Nat):Int):=ej
     rw [ej,Int.toNat_natCast]
     have hf3:(R.f j).length<=3:=by
      unfold Rc.f
      split
      ·exact hA.l0
      ·exact hA.l1
     have hz:R.ns.getD (4+j) ""=R.n4∨R.ns.getD (4+j) ""=R.n5:=by
      rcases (show j=0∨j=1 by omega) with rfl | rfl
      ·exact .inl rfl
      ·exact .inr rfl
     have hm:∀ e∈(List.range (R.f j).length).map fun k=>cz R kn d (aZ x (2+((k:Nat):Int))),gI R kn d e:=fun e he=>by
      obtain ⟨k,_,rfl⟩:=QE he
      exact iy hO hA h d _
     refine ⟨⟨.inl ⟨rfl,hz,?_⟩,um fun e he=>(hm e he).gd⟩,?_,⟨.inr rfl,?_,uR fun e he=>(hm e he).fi⟩,⟨.inr rfl,uS fun e he=>(hm e he).do_⟩,?_⟩
     ·rw [Qf,List.length_range,CF hO hj]
     ·show cc _+1<=d+1
      exact Nat.succ_le_succ (uU fun e he=>(hm e he).dp)
     ·rw [Qf,List.length_range];omega
     ·rw [bx];exact ⟨by unfold aQ;decide +kernel,dS hA.ns _,uT fun e he=>(hm e he).ac⟩
    ·split
     ·have q:=iy hO hA h d (aZ x 1)
      refine ⟨⟨.inr ⟨rfl,rfl,rfl⟩,q.gd,trivial⟩,?_,⟨.inl rfl,by simp,q.fi,trivial⟩,⟨.inl rfl,q.do_,trivial⟩,?_⟩
      ·show max _ 0+1<=d+1
       have:=q.dp
       omega
      ·rw [bx];exact ⟨by unfold aQ;decide +kernel,dS hA.ns _,q.ac,trivial⟩
     ·have q:=iy hO hA h d (aZ x 1)
      have r:=iy hO hA h d (aZ x 2)
      obtain ⟨j,ej,hj⟩:=cI (a:=x % 15) (n:=2) (by decide)
      have ej:x % 15 % 2=((j:Nat):Int):=ej
      rw [ej,Int.toNat_natCast]
      have hw:eF.getD j ""="+"∨eF.getD j ""="and":=by
       rcases (show j=0∨j=1 by omega) with rfl | rfl
       ·exact .inl rfl
       ·exact .inr rfl
      have h7:eF.getD j ""∈hZ:=by
       rcases hw with e | e<;>rw [e]<;>decide +kernel
      refine ⟨⟨hw,q.gd,r.gd⟩,?_,⟨h7,q.fi,r.fi⟩,⟨h7,q.do_,r.do_⟩,?_⟩
      ·show max _ _+1<=d+1
       have:=q.dp
       have:=r.dp
       omega
      ·rw [bx];exact ⟨dS (ns:=eF) (by unfold aQ;decide +kernel) _,q.ac,r.ac⟩
theorem oF (k due:Str):(bS k due).length<=1:=by unfold bS;split<;>simp
theorem CG (R:Rc) (k n:Str):(eT R k n).length<=1:=by unfold eT;split<;>simp
mutual
theorem jI {R:Rc} (hO:cB R) (hA:f7 R) {kn:List Str} (ρ:Env):∀ (e:Ex),cA R kn e->(aR R ρ e).length+1<=4 ^ e.deep
 | .num _,_=>by rw [aR];simp [Ex.deep]
 | .truth _,_=>by rw [aR];simp [Ex.deep]
 | .name _,_=>by rw [aR];simp [Ex.deep]
 | .not _,h=>h.elim
 | .op w a b,h=>by
  have ha:=jI hO hA ρ a h.2.1
  have hb:=jI hO hA ρ b h.2.2
  have h1:=oF (kS (aL (az R) ρ a)) (dj (.op w a b))
  have h2:=oF (kS (aL (az R) ρ b)) (dj (.op w a b))
  have ma:4 ^ a.deep<=4 ^ (max a.deep b.deep):=Nat.pow_le_pow_right (by decide) (by omega)
  have mb:4 ^ b.deep<=4 ^ (max a.deep b.deep):=Nat.pow_le_pow_right (by decide) (by omega)
  rw [aR,show (Ex.op w a b).deep=max a.deep b.deep+1 from by rw [Ex.deep],Nat.pow_succ]
  simp only [Qv]
  have:0<4 ^ (max a.deep b.deep):=Nat.pow_pos (by decide)
  omega
 | .of n e,h=>by
  have he:=jI hO hA ρ e h
  have h1:=CG R (kS (aL (az R) ρ e)) n
  rw [aR,show (Ex.of n e).deep=e.deep+1 from by rw [Ex.deep],Nat.pow_succ]
  simp only [Qv]
  omega
 | .many w z es,h=>by
  have hl:es.length<=3:=by
   rcases h.1 with ⟨_,_,e⟩ | ⟨_,_,e⟩
   ·rw [e];unfold Rc.fz;split
    ·exact hA.l0
    ·exact hA.l1
   ·omega
  rw [aR,show (Ex.many w z es).deep=cc es+1 from by rw [Ex.deep],Nat.pow_succ]
  have h0:0<4 ^ cc es:=Nat.pow_pos (by decide)
  cases aF (br w,z) (az R) with
  | none=>simp;omega
  | some t =>
   have:=wrL_len hO hA ρ es t.prs h.2
   show (wrL R ρ es t.prs).length+1<=_
   have hm:es.length*4 ^ cc es<=3*4 ^ cc es:=Nat.mul_le_mul_right _ hl
   omega
theorem wrL_len {R:Rc} (hO:cB R) (hA:f7 R) {kn:List Str} (ρ:Env):∀ (es:List Ex) (qs:List (Str × Str)),il R kn es->(wrL R ρ es qs).length<=es.length*4 ^ cc es
 | [],qs,_=>by rw [wrL];simp
 | e::es,[],_=>by rw [wrL];simp
 | e::es,q::qs,h=>by
  have he:=jI hO hA ρ e h.1
  have hs:=wrL_len hO hA ρ es qs h.2
  have h1:=oF (kS (aL (az R) ρ e)) q.2
  have ma:4 ^ e.deep<=4 ^ cc (e::es):=Nat.pow_le_pow_right (by decide) (by rw [cc];omega)
  have mb:es.length*4 ^ cc es<=es.length*4 ^ cc (e::es):=Nat.mul_le_mul_left _ (Nat.pow_le_pow_right (by decide) (by rw [cc];omega))
  rw [wrL]
  simp only [Qv,List.length_cons,Nat.succ_mul]
  omega
end
noncomputable def w3:List Str:=["kind","field","tell"]
theorem oG {k due w:Str} (h:w∈bS k due):w∈w3:=by
 unfold bS at h
 split at h
 ·rw [List.mem_singleton.mp h];decide +kernel
 ·cases h
theorem CH {R:Rc} {k n w:Str} (h:w∈eT R k n):w∈w3:=by
 unfold eT at h
 split at h
 ·rw [List.mem_singleton.mp h];decide +kernel
 ·cases h
mutual
theorem iz (R:Rc) (ρ:Env):∀ (e:Ex) (w:Str),w∈aR R ρ e->w∈w3
 | .num _,w,h=>by rw [aR] at h;cases h
 | .truth _,w,h=>by rw [aR] at h;cases h
 | .name _,w,h=>by rw [aR] at h;cases h
 | .not _,w,h=>by rw [aR] at h;cases h
 | .op v a b,w,h=>by
  rw [aR] at h
  rcases Qy h with h | h
  ·exact iz R ρ a w h
  ·rcases Qy h with h | h
   ·exact oG h
   ·rcases Qy h with h | h
    ·exact iz R ρ b w h
    ·exact oG h
 | .of n e,w,h=>by
  rw [aR] at h
  rcases Qy h with h | h
  ·exact iz R ρ e w h
  ·exact CH h
 | .many v z es,w,h=>by
  rw [aR] at h
  cases hf:aF (br v,z) (az R) with
  | none=>rw [hf] at h;cases h
  | some t=>rw [hf] at h;exact uY R ρ es t.prs w h
theorem uY (R:Rc) (ρ:Env):∀ (es:List Ex) (qs:List (Str × Str)) (w:Str),w∈wrL R ρ es qs->w∈w3
 | [],qs,w,h=>by rw [wrL] at h;cases h
 | e::es,[],w,h=>by rw [wrL] at h;cases h
 | e::es,q::qs,w,h=>by
  rw [wrL] at h
  rcases Qy h with h | h
  ·exact iz R ρ e w h
  ·rcases Qy h with h | h
   ·exact oG h
   ·exact uY R ρ es qs w h
end
theorem lA {R:Rc} {ks:List (Str × Str)} {r:Rw} {w:Str} (h:w∈dE R ks r):w∈w3:=by
 cases r with
 | tell e =>
  rcases Qy h with h | h
  ·exact iz R _ e w h
  ·split at h
   ·rw [List.mem_singleton.mp h];decide +kernel
   ·cases h
 | set z e =>
  rcases Qy h with h | h
  ·exact iz R _ e w h
  ·split at h
   ·rw [List.mem_singleton.mp h];decide +kernel
   ·cases h
theorem oH {l:List Str} (nd:l.Nodup) (h:∀ w∈l,w∈w3):l.length<=3:=by
 match l,nd,h with
 | [],_,_=>simp
 | [_],_,_=>simp
 | [_,_],_,_=>simp
 | [_,_,_],_,_=>simp
 | a::b::c::d::l,nd,h =>
  exfalso
  simp only [List.nodup_cons,List.mem_cons,not_or] at nd
  obtain ⟨⟨ab,ac,ad,_⟩,⟨bc,bd,_⟩,⟨cd,_⟩,_⟩:=nd
  have e:∀ w,w∈w3->w="kind"∨w="field"∨w="tell":=fun w hw=>by simpa [w3] using hw
  rcases e a (h a (by simp)) with rfl | rfl | rfl<;>rcases e b (h b (by simp)) with rfl | rfl | rfl<;>first | exact ab rfl | skip
  all_goals rcases e c (h c (by simp)) with rfl | rfl | rfl<;>first | exact ac rfl | exact bc rfl | skip
  all_goals rcases e d (h d (by simp)) with rfl | rfl | rfl<;>first | exact ad rfl | exact bd rfl | exact cd rfl
structure QA (R:Rc) (q:Qs) (i:Nat):Prop where
 kA:oA R q.ks
 kz:∀ z∈q.ks.map (·.1),aQ z
 kl:q.ks.length<=i
 tl:q.ts.length=i
 tr:∀ t∈q.ts,∃ (r:Nat) (w:Rw) (kn:List Str),t=w.tr r/\5<=r/\r<5+i/\gI R kn 3 w.e/\(∀ z e,w=.set z e->aQ z)
 tp:q.ts.Pairwise fun a b=>a.row<b.row
theorem uZ (x:Int):aQ (zQ x):=by
 obtain ⟨j,ej,hj⟩:=cI (a:=x / 8) (n:=3) (by decide)
 have ej:x / 8 % 3=((j:Nat):Int):=ej
 unfold zQ
 rw [ej,Int.toNat_natCast]
 rcases (show j=0∨j=1∨j=2 by omega) with rfl | rfl | rfl<;>(unfold aQ;decide +kernel)
theorem lB {R:Rc} (hO:cB R) (hA:f7 R) {ks:List (Str × Str)} (h:∀ z∈ks.map (·.1),aQ z) (x:Int):gI R (ks.map (·.1)) 3 (eQ R ks x):=by
 obtain ⟨d,ed,hd⟩:=cI (a:=x / 2) (n:=4) (by decide)
 have ed:x / 2 % 4=((d:Nat):Int):=ed
 unfold eQ
 rw [ed,Int.toNat_natCast]
 have q:=iy hO hA h d (aZ x 4)
 exact ⟨q.gd,QH q.dp (by omega),q.fi,q.do_,q.ac⟩
theorem lC (R:Rc) (ks:List (Str × Str)) (x:Int):(bN R ks x).e=eQ R ks x:=by unfold bN;split<;>rfl
theorem oI (r:Nat) (w:Rw):(w.tr r).row=r:=by cases w<;>rfl
theorem gJ {R:Rc} (hO:cB R) (hA:f7 R) (cs:List Int):∀ i,QA R (qN R cs i) i
 | 0=>⟨fun p hp=>(by cases hp),fun z hz=>(by cases hz),Qh _,rfl,fun t ht=>(by cases ht),List.Pairwise.nil⟩
 | i+1=>by
  have q:=gJ hO hA cs i
  show QA R ⟨(qN R cs i).ts++[(bN R (qN R cs i).ks (aZ (cs.getD i 0) ((i:Nat):Int))).tr (5+i)],c8 R (qN R cs i).ks (bN R (qN R cs i).ks (aZ (cs.getD i 0) ((i:Nat):Int)))⟩ (i+1)
  generalize qN R cs i=s at q ⊢
  generalize aZ (cs.getD i 0) ((i:Nat):Int)=x
  have hg:=lB hO hA q.kz x
  have hz:∀ z e,bN R s.ks x=.set z e->z=zQ x/\e=eQ R s.ks x:=fun z e h=>by
   unfold bN at h
   split at h
   ·cases h
   ·cases h;exact ⟨rfl,rfl⟩
  have hks:c8 R s.ks (bN R s.ks x)=s.ks∨c8 R s.ks (bN R s.ks x)=s.ks++[(zQ x,dq R s.ks (eQ R s.ks x))]:=by
   unfold bN
   split
   ·exact .inl rfl
   ·show (if s.ks.lookup (zQ x)=none then _ else _)=_∨(if s.ks.lookup (zQ x)=none then _ else _)=_
    split
    ·exact .inr rfl
    ·exact .inl rfl
  refine ⟨fun p hp=>?_,fun z hz2=>?_,?_,by simp [q.tl],fun t ht=>?_,?_⟩
  ·have hp:p∈c8 R s.ks (bN R s.ks x):=hp
   rcases hks with h | h<;>rw [h] at hp
   ·exact q.kA p hp
   ·rcases Qy hp with hp | hp
    ·exact q.kA p hp
    ·rw [List.mem_singleton.mp hp]
     show dq R s.ks (eQ R s.ks x)=""∨oz R (dq R s.ks (eQ R s.ks x))
     obtain ⟨kd,ek,pk⟩:=fA hO hg.gd
     unfold dq
     cases kd with
     | none=>rw [ek];exact .inl rfl
     | some k0=>rw [ek];exact .inr (uJ hO q.kA hg.gd ek)
  ·have hz2:z∈(c8 R s.ks (bN R s.ks x)).map (·.1):=hz2
   rcases hks with h | h<;>rw [h] at hz2
   ·exact q.kz z hz2
   ·rw [QK] at hz2
    rcases Qy hz2 with hz2 | hz2
    ·exact q.kz z hz2
    ·rw [List.mem_singleton.mp hz2];exact uZ x
  ·show (c8 R s.ks (bN R s.ks x)).length<=i+1
   have:=q.kl
   rcases hks with h | h<;>rw [h]<;>simp<;>omega
  ·rcases Qy ht with ht | ht
   ·obtain ⟨r,w,kn,a,b,c,d,e⟩:=q.tr t ht
    exact ⟨r,w,kn,a,b,by omega,d,e⟩
   ·rw [List.mem_singleton.mp ht]
    exact ⟨5+i,_,s.ks.map (·.1),rfl,by omega,by omega,by rw [lC];exact hg,fun z e h=>by rw [(hz z e h).1];exact uZ x⟩
  ·refine List.pairwise_append.mpr ⟨q.tp,by simp,fun a ha b hb=>?_⟩
   obtain ⟨r,w,kn,rfl,_,hr,_⟩:=q.tr a ha
   rw [List.mem_singleton.mp hb,oI,oI];exact hr
theorem CI (r:Nat) (w:Rw):(w.tr r).hd=none:=by cases w<;>rfl
theorem CJ {R:Rc} {ts:List Tr} (h:∀ t∈ts,t.hd=none) (k:Str × Str):aF k (az R++ts)=aF k (az R):=by
 unfold aF
 rw [List.find?_append]
 have:ts.find? (fun t=>decide (t.hd=some k))=none:=List.find?_eq_none.mpr fun t ht=>by rw [h t ht];simp
 rw [this,Option.or_none]
theorem CK {R:Rc} {q:Qs} {i:Nat} (h:QA R q i):∀ t∈q.ts,t.hd=none:=fun t ht=>by
 obtain ⟨r,w,_,rfl,_⟩:=h.tr t ht
 exact CI r w
theorem u4 {R:Rc} (hO:cB R) (hA:f7 R) (cs:List Int) {tt:List Tr} (hT:∀ k,aF k tt=aF k (az R)):∀ i,(kfTs tt none (qN R cs i).ts (env0,[])).1=aJ (qN R cs i).ks
 | 0=>rfl
 | i+1=>by
  have ih:=u4 hO hA cs hT i
  have q:=gJ hO hA cs i
  show (kfTs tt none ((qN R cs i).ts++[_]) (env0,[])).1=aJ (c8 R (qN R cs i).ks _)
  rw [jx]
  have e:kfTs tt none (qN R cs i).ts (env0,[])=(aJ (qN R cs i).ks,(kfTs tt none (qN R cs i).ts (env0,[])).2):=by rw [<- ih]
  rw [e]
  exact (uK hO hT q.kA (5+i) _ (by rw [lC];exact (lB hO hA q.kz _).gd) _).1
theorem CL {R:Rc} (hO:cB R) (hA:f7 R) (cs:List Int) {tt:List Tr} (hT:∀ k,aF k tt=aF k (az R)) (i:Nat) (k:List ae):k∈(kfTs tt none (qN R cs (i+1)).ts (env0,[])).2↔cf (5+i) (kfTs tt none (qN R cs i).ts (env0,[])).2 (dE R (qN R cs i).ks (bN R (qN R cs i).ks (aZ (cs.getD i 0) ((i:Nat):Int)))) k:=by
 have ih:=u4 hO hA cs hT i
 have q:=gJ hO hA cs i
 show k∈(kfTs tt none ((qN R cs i).ts++[_]) (env0,[])).2↔_
 rw [jx]
 have e:kfTs tt none (qN R cs i).ts (env0,[])=(aJ (qN R cs i).ks,(kfTs tt none (qN R cs i).ts (env0,[])).2):=by rw [<- ih]
 rw [e]
 exact (uK hO hT q.kA (5+i) _ (by rw [lC];exact (lB hO hA q.kz _).gd) _).2 k
theorem CM (R:Rc) (tt:List Tr):kfTs tt none (az R) (env0,[])=(env0,[]):=by
 have hp:fV [("x",R.n4)] "x"=some (some R.n4):=by
  show (if ("x":Str)="x" then some (some R.n4) else env0 "x")=_
  rw [if_pos rfl]
 unfold az
 simp only [kfTs,bJ]
 have e1:dP 2 [.give 3 (.name "x")] []=[]:=rfl
 rw [e1]
 show (env0,dB 3 (fV [("x",R.n4)] "x") "kind" R.n4 (aP tt _ 3 (.name "x") []))=_
 rw [hp,aP]
 unfold dB cx
 simp [fits]
theorem u6:∀ {tt:List Tr} {ts:List Tr} {s:cV},(∀ t∈ts,∃ r w,t=Rw.tr r w)->s.2.Nodup->(kfTs tt none ts s).2.Nodup
 | tt,[],s,_,h=>by rw [kfTs];exact h
 | tt,t::ts,s,ht,h=>by
  rw [kfTs]
  refine u6 (fun u hu=>ht u (by simp [hu])) ?_
  have nda:∀ {fs:List (List ae)} {c:List ae},fs.Nodup->(bI fs c).Nodup:=fun {fs c} h=>by
   unfold bI
   split
   ·exact h
   ·rename_i hn
    refine List.nodup_append.mpr ⟨h,by simp,fun a ha b hb z=>?_⟩
    have hb:=List.mem_singleton.mp hb
    subst hb
    subst z
    exact hn (List.any_eq_true.mpr ⟨a,ha,Qp rfl⟩)
  have ndx:∀ r e,(aP tt s.1 r e s.2).Nodup:=fun r e=>by
   obtain ⟨us,e1,n1,h1⟩:=d8 tt s.1 r e s.2
   rw [e1]
   exact List.nodup_append.mpr ⟨h,n1,fun a ha b hb z=>(h1 b hb).1 (z ▸ ha)⟩
  obtain ⟨r,w,rfl⟩:=ht t (by simp)
  cases w with
  | tell e =>
   show (eR r _ (aP tt s.1 r e s.2)).Nodup
   unfold eR
   split
   ·exact nda (ndx r e)
   ·exact ndx r e
  | set z e =>
   show (fw r s.1 z _ (aP tt s.1 r e s.2)).Nodup
   unfold fw
   split
   ·unfold bP
    split
    ·exact ndx r e
    ·exact nda (ndx r e)
   ·exact ndx r e
end
section
variable {P:Program} {w:World} {K:W.Frag} {mg:Str->Option Value} {base:Heap} {AA:bG} {DD:bH}
theorem CN:bootBuiltins "set"=some (.type "set"):=by decide +kernel
noncomputable def o3 (tr a pd:Addr) (H:Hp):Hp:=fun b=>if b=tr∨b=a∨b=pd then none else H b
section
variable {tr a pd:Addr} {H H1 H2:Hp}
theorem gK {b:Addr} (h1:b≠tr) (h2:b≠a) (h3:b≠pd):o3 tr a pd H b=H b:=if_neg fun z=>z.elim h1 fun z=>z.elim h2 h3
theorem oJ {b:Addr} {o:HO} (h:o3 tr a pd H b=some o):b≠tr/\b≠a/\b≠pd:=by
 unfold o3 at h
 split at h
 ·cases h
 ·rename_i z
  exact ⟨fun q=>z (.inl q),fun q=>z (.inr (.inl q)),fun q=>z (.inr (.inr q))⟩
theorem lD:Same (o3 tr a pd H) H:=fun b o h=>by
 obtain ⟨h1,h2,h3⟩:=oJ h
 rw [gK h1 h2 h3] at h
 exact h
theorem lE (s:Same (o3 tr a pd H) H1):Same (o3 tr a pd H) (o3 tr a pd H1):=fun b o h=>by
 obtain ⟨h1,h2,h3⟩:=oJ h
 rw [gK h1 h2 h3]
 exact s _ _ h
theorem jJ (s:Same H H1):Same (o3 tr a pd H) H1:=fun b o h=>s _ _ (lD _ _ h)
theorem lF {b:Addr} {o:HO} (s:Same (o3 tr a pd H) H1) (h:b=tr∨b=a∨b=pd):Same (o3 tr a pd H) (af H1 b o):=fun c x hc=>by
 obtain ⟨h1,h2,h3⟩:=oJ hc
 rw [ar (fun z=>by rw [z] at h1 h2 h3;exact h.elim h1 fun q=>q.elim h2 h3)]
 exact s _ _ hc
theorem u7 {xs ys:List V} {kv:List (ae × V)} (h1:H tr=some (.lst xs)) (h2:H a=some (.dK kv)) (h3:H pd=some (.lst ys)):cT H (o3 tr a pd H):=fun b zs hb=>by
 rw [gK (fun z=>by rw [z,h1] at hb;cases hb) (fun z=>by rw [z,h2] at hb;cases hb) (fun z=>by rw [z,h3] at hb;cases hb)]
 exact hb
end
theorem iA {H H':Hp} {xs:List V} {ds:List (List ae)} (s:cT H H') (h:bQ H xs ds):bQ H' xs ds:=⟨h.1,fun i x d a b=>by obtain ⟨t,e,q⟩:=h.2 i x d a b;exact ⟨t,e,s _ _ q⟩⟩
theorem CO {H:Hp} {xs:List V} {ds:List (List ae)} {t:Addr} {d:List ae} (h:bQ H xs ds) (ht:H t=some (.tup (d.map kV))):bQ H (xs++[.ref t]) (ds++[d]):=by
 refine ⟨by simp [h.1],fun j y e hy he=>?_⟩
 by_cases hj:j<xs.length
 ·rw [Qw hj] at hy
  rw [Qw (by rw [<- h.1];exact hj)] at he
  exact h.2 j y e hy he
 ·rw [Qq (by omega)] at hy
  rw [Qq (by rw [<- h.1];omega),<- h.1] at he
  have hj2:=(Qc hy).1
  have hj0:j-xs.length=0:=by simpa using hj2
  rw [hj0] at hy he
  have y1:V.ref t=y:=by simpa using hy
  have e1:d=e:=by simpa using he
  exact ⟨t,y1.symm,by rw [<- e1];exact ht⟩
noncomputable def aS (is:List Int):List Int:=(is.drop 2).take 14
theorem oK (is:List Int):(aS is).length<=14:=by unfold aS;rw [Qx];omega
theorem CP (is:List Int):eK (is.map V.int) (some 2) (some 16)=(aS is).map V.int:=by
 unfold eK aS
 have h1:HT.sIx (is.map V.int).length 0 (some 2)=min 2 is.length:=by simp [HT.sIx]
 have h2:HT.sIx (is.map V.int).length (is.map V.int).length (some 16)=min 16 is.length:=by simp [HT.sIx]
 rw [h1,h2,<- List.map_drop,<- List.map_take]
 congr 1
 by_cases h:is.length<2
 ·rw [List.drop_of_length_le (by omega),List.drop_of_length_le (by omega)];simp
 ·rw [show min 2 is.length=2 by omega]
  by_cases h3:is.length<=16
  ·rw [show min 16 is.length=is.length by omega,QB (by simp),QB (by simp;omega)]
  ·rw [show min 16 is.length=16 by omega]
noncomputable def qE (is:List Int):Qs:=qN (ak is) (aS is) (aS is).length
noncomputable def b6 (is:List Int):List Tr:=az (ak is)++(qE is).ts
theorem oM {a b:Str} (h:aQ a) (h':aQ b):aQ (a++b):=fun c hc=>by
 rw [jA] at hc
 exact (Qy hc).elim (h c) (h' c)
theorem u9 {z:Str} (h:aQ z) (lo hi:Option Int):aQ (ff z lo hi):=fun c hc=>by
 rw [qb] at hc
 exact h c (List.mem_of_mem_drop (List.mem_of_mem_take hc))
theorem vc {z:Str} (h:aQ z) (j:Nat):aQ ⟨#[z.cps.toList.getD j 0]⟩:=fun c hc=>by
 have:c=z.cps.toList.getD j 0:=by simpa using hc
 rw [this,Qg]
 cases e:z.cps.toList[j]? with
 | none=>decide
 | some d=>exact h d (QD e)
theorem oN (x:Int):∀ i,aQ (wQ x i)
 | 0=>by unfold aQ wQ;decide +kernel
 | i+1=>oM (oN x i) (vc (show aQ eh from by unfold aQ;decide +kernel) _)
theorem vd (x:Int):∀ z∈cN x,aQ z:=fun z hz=>by
 obtain ⟨j,_,rfl⟩:=QE hz
 exact oM (oM (u9 (oN x _) _ _) (vc (by unfold aQ;decide +kernel) j)) (u9 (oN x _) _ _)
theorem vf (x y:Int):gE (eE (cN x) y):=fun q hq=>by
 obtain ⟨k,_,rfl⟩:=QE hq
 exact ⟨dS (vd x) _,dS (ns:=ce) (by unfold aQ;decide +kernel) _⟩
theorem iB (is:List Int):f7 (ak is):=⟨uf _,vd _,(fZ _ _).1,(fZ _ _).1,vf _ _,vf _ _⟩
theorem CQ (is:List Int):∀ k,aF k (b6 is)=aF k (az (ak is)):=CJ (CK (gJ (iq is) (iB is) (aS is) _))
noncomputable def fQ (is:List Int) (i:Nat):List (List ae):=(kfTs (b6 is) none (qN (ak is) (aS is) i).ts (env0,[])).2
theorem vg (is:List Int):fK (b6 is)=fQ is (aS is).length:=by
 unfold fK
 show (kfTs (b6 is) none (az (ak is)++(qE is).ts) (env0,[])).2=_
 rw [jx,CM];rfl
structure iC (is:List Int) (i:Nat) (ds:List (List ae)):Prop where
 nd:ds.Nodup
 me:∀ k,k∈ds↔k∈fQ is i
 ln:ds.length<=3*i
 rw:∀ k∈ds,∃ r w,r<5+i/\k=kk r w/\w∈w3
theorem vh {r s:Nat} {v w:Str} (h:kk r v=kk s w):r=s/\v=w:=by
 unfold kk at h
 injection h with h1 h2
 injection h2 with h3
 exact ⟨by injection h1 with h1;omega,by injection h3⟩
theorem iC.more {is:List Int} {i:Nat} {ds:List (List ae)} (h:iC is i ds) {rs:List Str} (hn:rs.Nodup) (hm:∀ z,z∈rs↔z∈dE (ak is) (qN (ak is) (aS is) i).ks (bN (ak is) (qN (ak is) (aS is) i).ks (aZ ((aS is).getD i 0) ((i:Nat):Int)))):iC is (i+1) (ds++rs.map (kk (5+i))):=by
 have h3:=oH hn fun w hw=>lA ((hm w).mp hw)
 refine ⟨List.nodup_append.mpr ⟨h.nd,?_,fun k hk k' hk' z=>?_⟩,fun k=>?_,?_,fun k hk=>?_⟩
 ·exact List.Pairwise.map _ (fun x y (hxy:x≠y) z=>hxy (vh z).2) hn
 ·obtain ⟨r,w,hr,rfl,_⟩:=h.rw k hk
  obtain ⟨v,_,rfl⟩:=QE hk'
  have:=(vh z).1
  omega
 ·unfold fQ
  rw [CL (iq is) (iB is) (aS is) (CQ is) i k,List.mem_append,h.me]
  unfold cf
  constructor
  ·rintro (q | q)
   ·exact .inl q
   ·obtain ⟨w,hw,rfl⟩:=QE q
    exact .inr ⟨w,(hm w).mp hw,rfl⟩
  ·rintro (q | ⟨w,hw,rfl⟩)
   ·exact .inl q
   ·exact .inr (List.mem_map.mpr ⟨w,(hm w).mpr hw,rfl⟩)
 ·rw [Qv,Qf]
  have:=h.ln
  omega
 ·rcases Qy hk with q | q
  ·obtain ⟨r,w,hr,e,hw⟩:=h.rw k q
   exact ⟨r,w,by omega,e,hw⟩
  ·obtain ⟨w,hw,rfl⟩:=QE q
   exact ⟨5+i,w,by omega,rfl,lA ((hm w).mp hw)⟩
structure BI (is:List Int) (B:Hp) (tr a pd:Addr) (i:Nat) (H:Hp):Prop where
 sb:Same B H
 ka:H a=some (.dK (bR (qN (ak is) (aS is) i).ks))
 tr:∃ xs,H tr=some (.lst xs)/\xs.length=3+i/\LAt (o3 tr a pd H) false xs (az (ak is)++(qN (ak is) (aS is) i).ts)
 du:∃ ys ds,H pd=some (.lst ys)/\bQ H ys ds/\iC is i ds
theorem BI.same {is:List Int} {B H H':Hp} {tr a pd:Addr} {i:Nat} (h:BI is B tr a pd i H) (s:Same H H'):BI is B tr a pd i H':=by
 obtain ⟨a1,a2,⟨xs,b1,b2,b3⟩,⟨ys,ds,c1,c2,c3⟩⟩:=h
 exact ⟨a1.trans s,s _ _ a2,⟨xs,s _ _ b1,b2,b3.kept (lE (jJ s)).ls⟩,⟨ys,ds,s _ _ c1,iA s.ls.1 c2,c3⟩⟩
noncomputable def CS (K:W.Frag):Sp:=fun vs H Q _=>∃ (s:Addr) (is:List Int),vs=[.ref s]/\am K H s (is.map V.int)/\is.length<=63/\∀ t l d xs ys H' ds,Same H H'->H' t=some (.tup [.ref l,.ref d])->H' l=some (.lst xs)->LAt H' false xs (b6 is)->H' d=some (.lst ys)->bQ H' ys (bu ds)->iC is (aS is).length ds->Q (.ref t) H'
noncomputable abbrev CT:List Str:=["_law_script","_law_names_here","_law_tree","_law_records","_law_known","_law_due","_law_k","_law_cell","_law_number","_law_e","_law_wrong","_law_kind_here","_law_name","_law_what"]
theorem vi:ba CT ["_law_script"] (aK nq):=⟨rfl,rfl,rfl,by decide +kernel,rfl,by decide +kernel,by decide +kernel⟩
theorem CU (T:All P w K mg AA DD):aE P w K mg base aI 8 AA.ZE DD.ZE ["_law_script"] (CS K):=by
 have GC:=tZ (base:=base) T
 have GX:=nZ (base:=base) T
 have GN:=BZ (base:=base) T
 have GH:=Cw (base:=base) T
 have GE:=uk (base:=base) T 4
 have GKD:=uG (base:=base) T 4
 refine T.F_ZE.ok vi (fun vs H Q E h=>?_) (fun cdv A outer s H vs Q E hr h=>?_)
 ·obtain ⟨sa,is,rfl,_⟩:=h
  rfl
 ·obtain ⟨sa,is,rfl,hS,h63,kq⟩:=h
  have nd:=vi.nd
  have hu:=QF (Nat.add_le_add_left (show 1<=64 by decide) _) hr.units
  have hr7:aA 7 _:=hr
  have hrK:aA (4+2) _:=hr7.mono (by omega)
  have hrE:aA (4+1) _:=hr7.mono (by omega)
  have hr2:aA 2 _:=hr7.mono (by omega)
  have hr1:aA 1 _:=hr7.mono (by omega)
  refine ⟨_,(av (@bf _ _ 1 _ _ _ _ nd rfl (Or.inl rfl) (aN GN hr1 rfl T.m_ZC T.k_ZC T.b_ZC .nil aB (aa (aN GX hr1 rfl T.m_ZB T.k_ZB T.b_ZB .nil aB (aa (aN GC hr1 rfl T.m_Zr T.k_Zr T.b_Zr .nil aB (aa (pv 0) (aa ai ag))) (aa ai ag))) ag)) (by rfl) (by first | exact .inl rfl | exact .inr rfl | assumption)) (av (oX (aN GH hr2 rfl T.m_ZJ T.k_ZJ T.b_ZJ .nil aB (aa (pv 0) (aa (pv 1) ag))) (dt rfl (a8 (aT (i:=2) nd rfl (Or.inl rfl)) (a8 (aT (i:=3) nd rfl (Or.inl rfl)) cg)))) (av (@bf _ _ 4 _ _ _ _ nd rfl (Or.inl rfl) j5 (by rfl) (by first | exact .inl rfl | exact .inr rfl | assumption)) (av (@bf _ _ 5 _ _ _ _ nd rfl (Or.inl rfl) (bB ag) (by rfl) (by first | exact .inl rfl | exact .inr rfl | assumption)) (av (cO PassesOwn.never rfl (yh rfl T.n_enumerate (aa (jV xa (pv 0) (iU ai) (iU ai)) ag)) (dt rfl (a8 (aT (i:=6) nd rfl (Or.inl rfl)) (a8 (aT (i:=7) nd rfl (Or.inl rfl)) cg))) (av (@bf _ _ 8 _ _ _ _ nd rfl (Or.inl rfl) (aN GX hr1 rfl T.m_ZB T.k_ZB T.b_ZB .nil aB (aa (pv 7) (aa (pv 6) ag))) (by rfl) (by first | exact .inl rfl | exact .inr rfl | assumption)) (av (@bf _ _ 9 _ _ _ _ nd rfl (Or.inl rfl) (aN GE hrE rfl T.m_ZH T.k_ZH T.b_ZH .nil aB (aa (aN GX hr1 rfl T.m_ZB T.k_ZB T.b_ZB .nil aB (aa (pv 8) (aa ai ag))) (aa (pv 4) (aa (pv 3) (aa (pv 1) (aa (aG cm (aG fE (pv 8) ai) ai) ag)))))) (by rfl) (by first | exact .inl rfl | exact .inr rfl | assumption)) (av (@bf _ _ 10 _ _ _ _ nd rfl (Or.inl rfl) (bB ag) (by rfl) (by first | exact .inl rfl | exact .inr rfl | assumption)) (av (@bf _ _ 11 _ _ _ _ nd rfl (Or.inl rfl) (aN GKD hrK rfl T.m_ZI T.k_ZI T.b_ZI .nil aB (aa (pv 9) (aa (pv 4) (aa (pv 3) (aa (pv 1) (aa (pv 10) ag)))))) (by rfl) (by first | exact .inl rfl | exact .inr rfl | assumption)) (av (@bf _ _ 12 _ _ _ _ nd rfl (Or.inl rfl) (au pR aD (aG cm (aG fE (pv 8) ai) ai) (fun _ _=>rfl)) (by rfl) (by first | exact .inl rfl | exact .inr rfl | assumption)) (av (be (aY bE (aG cm (pv 8) ai) ai (a6 _)) (av (bX (fc PySem.F.plainAttrs_list PySem.F.slot_list_append PySem.F.type_list_append fI (pv 2) (aa (aV (aa aD (aa (aG cP ai (pv 6)) (aa (pv 9) ag)))) ag)) (by rfl)) (aq (be (gO (qt hu (pv 11) (pv 3))) (aq (bX (fc PySem.F.plainAttrs_list PySem.F.slot_list_append PySem.F.type_list_append fI (pv 10) (aa aD ag)) (by rfl))) bo))) (av (bX (fc PySem.F.plainAttrs_list PySem.F.slot_list_append PySem.F.type_list_append fI (pv 2) (aa (aV (aa aD (aa (aG cP ai (pv 6)) (aa (pv 12) (aa (pv 9) ag))))) ag)) (by rfl)) (av (be (PW.pt (iH (aY eI (fN hu (pv 4) (pv 12) aD ⟨by rfl,by rfl,by rfl,by rfl⟩) aD (a6 _)) (iH (aY eI (pv 11) aD (a6 _)) (jN (aY eI (pv 11) (gp hu (pv 4) (pv 12) (fun _ _=>rfl)) (a6 _)))))) (aq (bX (fc PySem.F.plainAttrs_list PySem.F.slot_list_append PySem.F.type_list_append fI (pv 10) (aa aD ag)) (by rfl))) bo) (aq (be (gO (xV hu (pv 12) (pv 4))) (aq (i6 hu (pv 4) (pv 12) (pv 11) rfl)) bo))))) (aq (cO PassesOwn.never rfl (ci (dY (zW rfl) rfl T.n_sorted mK (aa (eY (zw (K:=K) rfl rfl) rfl T.n_set CN (aa (pv 10) ag)) ag))) (aT (i:=13) nd rfl (Or.inl rfl)) (aq (bX (fc PySem.F.plainAttrs_list PySem.F.slot_list_append PySem.F.type_list_append fI (pv 5) (aa (aV (aa (aG cP ai (pv 6)) (aa (pv 13) ag))) ag)) (by rfl))) (by intro _;rfl))))))))) (by intro _;rfl)) (aq (aO (aV (aa (pv 2) (aa (dY (yR (K:=K) rfl) rfl T.n_sorted mK (aa (pv 5) ag)) ag)))))))))),?_⟩
  have hO:=iq is
  have hA:=iB is
  refine ⟨_,rfl,sa,is,0,rfl,hS,_,_,rfl,aZ (dC is 0) 9,rfl,BV _ _,fun pn H1 hpn0 s1 hpn=>?_⟩
  dsimp only [aX]
  refine ⟨_,rfl,_,rfl,sa,pn,is,rfl,s1.seq hS,hpn,fun t0 tr rd xs0 H2 s2 htr0 hrd0 ht0 htr hL0 hR0=>?_⟩
  refine ⟨t0,_,rfl,ah.of ht0,rfl,_,_,rfl,_,_,rfl,rfl,?_⟩
  dsimp only [lP,aX,lO]
  refine fun a ha=>?_
  dsimp only [aX]
  refine ⟨(by show 0<=sizeLine;decide),fun pd hpd=>?_⟩
  dsimp only [aX]
  have sa1:=ao (o:=.dK []) ha
  have sd1:=ao (o:=.lst []) hpd
  have hta:tr≠a:=b5 htr ha
  have htd:tr≠pd:=b5 (sa1 _ _ htr) hpd
  have had:a≠pd:=b5 (H:=af H2 a (.dK [])) aj hpd
  have g1:af (af H2 a (.dK [])) pd (.lst []) tr=some (.lst xs0):=sd1 _ _ (sa1 _ _ htr)
  have g2:af (af H2 a (.dK [])) pd (.lst []) a=some (.dK []):=sd1 _ _ aj
  have g3:af (af H2 a (.dK [])) pd (.lst []) pd=some (.lst []):=aj
  have nT:H tr=none:=s1.free htr0
  have nA:H a=none:=s1.free (s2.free ha)
  have nD:H pd=none:=s1.free (s2.free (sa1.free hpd))
  have sO:Same (off H2 tr) (o3 tr a pd (af (af H2 a (.dK [])) pd (.lst []))):=fun b o hb=>by
   have h2:=gD _ _ hb
   rw [gK (jE hb) (b5 h2 ha) (b5 (sa1 _ _ h2) hpd)]
   exact sd1 _ _ (sa1 _ _ h2)
  have s02:=((s1.trans s2).trans sa1).trans sd1
  have hS5:=s02.seq hS
  generalize af (af H2 a (.dK [])) pd (.lst [])=H5 at g1 g2 g3 sO s02 hS5 ⊢
  refine d5 (fun σ' H'=>∃ x6 x7 x8 x9 x10 x11 x12 x13,σ'=[some (.ref sa),some (.ref pn),some (.ref tr),some (.ref rd),some (.ref a),some (.ref pd),x6,x7,x8,x9,x10,x11,x12,x13]/\Same H H'/\BI is (fun _=>none) tr a pd (aS is).length H') (fun RR hRR=>?_) ?_
  ·refine ⟨_,rfl,2,rfl,16,rfl,sa,_,rfl,hS5,fun ps hps=>?_⟩
   rw [CP]
   have sF:=ao (o:=.lst ((aS is).map V.int)) hps
   refine ⟨ps,_,rfl,am.of aj,?_⟩
   have f1:tr≠ps:=b5 g1 hps
   have f2:a≠ps:=b5 g2 hps
   have f3:pd≠ps:=b5 g3 hps
   obtain ⟨B,hB⟩:∃ B,B=o3 tr a pd (af H5 ps (.lst ((aS is).map V.int))):=⟨_,rfl⟩
   have hBR:RcAt B rd pn (ak is):=hR0.same (by rw [hB];exact sO.trans (lE (jJ sF)))
   have hBp:B ps=some (.lst ((aS is).map V.int)):=by rw [hB,gK (Ne.symm f1) (Ne.symm f2) (Ne.symm f3)];exact aj
   have hBT:B tr=none:=by rw [hB];exact if_pos (.inl rfl)
   have hBA:B a=none:=by rw [hB];exact if_pos (.inr (.inl rfl))
   have hBD:B pd=none:=by rw [hB];exact if_pos (.inr (.inr rfl))
   have hHB:Same H B:=fun b o hb=>by
    rw [hB,gK (b5 hb nT) (b5 hb nA) (b5 hb nD)]
    exact sF _ _ (s02 _ _ hb)
   have b0:BI is B tr a pd 0 (af H5 ps (.lst ((aS is).map V.int))):=by
    refine ⟨by rw [hB];exact lD,sF _ _ g2,⟨xs0,sF _ _ g1,?_,?_⟩,⟨[],[],sF _ _ g3,⟨rfl,fun i x d h=>by simp at h⟩,⟨List.nodup_nil,fun k=>Iff.rfl,Qh _,fun k hk=>by cases hk⟩⟩⟩
    ·have:=hL0.length;rw [this];rfl
    ·rw [show az (ak is)++(qN (ak is) (aS is) 0).ts=az (ak is) from List.append_nil _]
     exact hL0.kept (sO.trans (lE (jJ sF))).ls
   clear hL0 hR0
   refine yi (K:=K) (a:=ps) (xs:=(aS is).map V.int) (fun i σ' H'=>∃ x6 x7 x8 x9 x10 x11 x12 x13,σ'=[some (.ref sa),some (.ref pn),some (.ref tr),some (.ref rd),some (.ref a),some (.ref pd),x6,x7,x8,x9,x10,x11,x12,x13]/\BI is B tr a pd i H') ⟨_,_,_,_,_,_,_,_,rfl,b0⟩ (fun i σ' H' _ h=>by obtain ⟨x6,x7,x8,x9,x10,x11,x12,x13,_,h⟩:=h;exact am.of (h.sb _ _ hBp)) ?_ ?_
   ·rintro i y σ' H3 t9 hy ⟨x6,x7,x8,x9,x10,x11,x12,x13,rfl,hBI⟩ ht9
    have hil:=(Qc hy).1
    rw [Qf] at hil
    have hcl:=oK is
    have ey:y=.int ((aS is).getD i 0):=by
     rw [Qk,Qb hil] at hy
     rw [Qg,Qb hil]
     exact (Qo hy).symm
    subst ey
    have hB4:=hBI.same (ao (o:=.tup [.int ((i:Nat):Int),.int ((aS is).getD i 0)]) ht9)
    refine ⟨t9,_,rfl,ah.of aj,rfl,_,_,rfl,_,_,rfl,rfl,?_⟩
    generalize af H3 t9 (.tup [.int ((i:Nat):Int),.int ((aS is).getD i 0)])=Hs at hB4 ⊢
    clear hBI b0
    have hqa:=gJ hO hA (aS is) i
    obtain ⟨sBs,hka,⟨xs,htx,hxl,hLx⟩,⟨ys,ds,hpy,hT,hD⟩⟩:=hB4
    refine ⟨_,rfl,_,rfl,_,_,rfl,?_⟩
    have hmore:=fun rs=>hD.more (rs:=rs)
    have ets:(qN (ak is) (aS is) (i+1)).ts=(qN (ak is) (aS is) i).ts++[(bN (ak is) (qN (ak is) (aS is) i).ks (aZ ((aS is).getD i 0) ((i:Nat):Int))).tr (5+i)]:=rfl
    have eks:(qN (ak is) (aS is) (i+1)).ks=c8 (ak is) (qN (ak is) (aS is) i).ks (bN (ak is) (qN (ak is) (aS is) i).ks (aZ ((aS is).getD i 0) ((i:Nat):Int))):=rfl
    generalize aZ ((aS is).getD i 0) ((i:Nat):Int)=x at hmore ets eks ⊢
    generalize hqq:qN (ak is) (aS is) i=q at hqa hka hLx hmore ets eks
    dsimp only [aX]
    have hg:=lB hO hA hqa.kz x
    have hkl:=hqa.kl
    have hRs:RcAt Hs rd pn (ak is):=hBR.same sBs
    obtain ⟨dp,edp,hdp⟩:=cI (a:=x / 2) (n:=4) (by decide)
    have edp:x / 2 % 4=((dp:Nat):Int):=edp
    have ee:eQ (ak is) q.ks x=cz (ak is) (q.ks.map (·.1)) dp (aZ x 4):=by unfold eQ;rw [edp,Int.toNat_natCast]
    refine ⟨_,rfl,_,_,rfl,_,rfl,_,rfl,_,rfl,_,rfl,_,_,rfl,rfl,⟨by decide,by decide⟩,_,_,rfl,rfl,(by show (0:Int)<4;decide),aZ x 4,a,rd,pn,q.ks,ak is,dp,by rw [<- edp];rfl,hka,by omega,hRs,hdp,fun v H6 s6 hE6=>?_⟩
    rw [<- ee] at hE6
    generalize heq:eQ (ak is) q.ks x=e at hg hE6
    dsimp only [aX]
    refine ⟨(by show 0<=sizeLine;decide),fun wr hwr=>?_⟩
    dsimp only [aX]
    have s7:=ao (o:=.lst []) hwr
    have hoff:Same H6 (off (af H6 wr (.lst [])) wr):=fun b o hb=>by rw [fW (b5 hb hwr)];exact s7 _ _ hb
    have hlen:=jI hO hA (aJ q.ks) e hg.gd
    have h64:4 ^ e.deep<=4 ^ 3:=Nat.pow_le_pow_right (by decide) hg.dp
    have hdp3:=hg.dp
    refine ⟨_,rfl,_,rfl,_,rfl,_,rfl,_,rfl,v,e,a,rd,pn,wr,q.ks,ak is,[],rfl,hE6.kept s7.ls.1,hg.gd,hoff _ _ (s6 _ _ hka),(hRs.same s6).same hoff,hO,aj,by simp;omega,by omega,fun H8 s8 hw8=>?_⟩
    rw [List.nil_append] at hw8
    have s68:Same H6 H8:=hoff.trans s8
    have ss8:Same Hs H8:=s6.trans s68
    have hwS:Hs wr=none:=s6.free hwr
    have hwt:wr≠tr:=(b5 htx hwS).symm
    have hwa:wr≠a:=(b5 hka hwS).symm
    have hwd:wr≠pd:=(b5 hpy hwS).symm
    dsimp only [aX]
    obtain ⟨j,ej,hj⟩:=cI (a:=x / 8) (n:=3) (by decide)
    have ej:x / 8 % 3=((j:Nat):Int):=ej
    have hjl:j<jH.cps.toList.length:=hj
    have ezq:zQ x=⟨#[jH.cps.toList[j]]⟩:=by unfold zQ;rw [ej,Int.toNat_natCast,Qg,Qb hjl];rfl
    refine ⟨_,rfl,_,_,rfl,rfl,⟨by decide,by decide⟩,_,_,rfl,rfl,(by show (0:Int)<3;decide),jH,_,jH.cps.toList[j],rfl,rfl,(by decide),?_,?_⟩
    ·rw [ej];exact ap (Qb hjl)
    rw [<- ezq]
    dsimp only [aX]
    have hE8:=hE6.kept s68.ls.1
    have hka8:=ss8 _ _ hka
    have htx8:=ss8 _ _ htx
    have hpy8:=ss8 _ _ hpy
    have hR8:=hRs.same ss8
    have ekd:kS (aL (az (ak is)) (aJ q.ks) e)=dq (ak is) q.ks e:=rfl
    rw [ekd]
    generalize hkd:dq (ak is) q.ks e=kd
    have e5:((5:Int)+((i:Nat):Int))=((5+i:Nat):Int):=by omega
    have hwu:∀ {Hx:Hp} {o:HO},Same (o3 tr a pd Hs) Hx->Same (o3 tr a pd Hs) (af Hx wr o):=fun s b z hb=>by
     rw [ar (b5 (lD _ _ hb) hwS)];exact s _ _ hb
    have hxl':xs.length<=30:=by omega
    refine i8 (fun σ' H'=>(∃ x13,σ'=[some (.ref sa),some (.ref pn),some (.ref tr),some (.ref rd),some (.ref a),some (.ref pd),some (.int ((i:Nat):Int)),some (.int ((aS is).getD i 0)),some (.int x),some v,some (.ref wr),some (.str kd),some (.str (zQ x)),x13])/\Same (o3 tr a pd Hs) H'/\(∃ t1 vs,H' tr=some (.lst (xs++[.ref t1]))/\H' t1=some (.tup vs)/\∀ Hm,cT H' Hm->PsAt Hm false vs ((bN (ak is) q.ks x).tr (5+i)).parts)/\H' a=some (.dK (bR (c8 (ak is) q.ks (bN (ak is) q.ks x))))/\H' pd=some (.lst ys)/\H' wr=some (.lst ((dE (ak is) q.ks (bN (ak is) q.ks x)).map V.str))) (fun RR2 hRR2=>?_) ?_
    ·refine ⟨_,rfl,_,_,rfl,rfl,(by show (0:Int)<2;decide),rfl,_,rfl,?_⟩
     dsimp only
     rw [gR]
     refine gj (fun hev=>?_) (fun hev=>?_)
     ·have erw:bN (ak is) q.ks x=.tell e:=by unfold bN;rw [if_pos hev,heq]
      rw [erw] at hRR2
      refine ⟨_,rfl,.inl ⟨rfl,_,am.of htx8⟩,_,rfl,_,_,rfl,rfl,_,rfl,(by show 3<=sizeLine;decide),fun t1 ht1=>?_⟩
      have s9:=ao (o:=.tup [.str "tell",.int ((5:Int)+((i:Nat):Int)),v]) ht1
      refine ⟨tr,xs,_,rfl,rfl,s9 _ _ htx8,cR (by omega),?_⟩
      have k9:∀ b o,b≠tr->H8 b=some o->af (af H8 t1 (.tup [.str "tell",.int ((5:Int)+((i:Nat):Int)),v])) tr (.lst (xs++[.ref t1])) b=some o:=fun b o hb h=>by rw [ar hb];exact s9 _ _ h
      have ht9:af (af H8 t1 (.tup [.str "tell",.int ((5:Int)+((i:Nat):Int)),v])) tr (.lst (xs++[.ref t1])) t1=some (.tup [.str "tell",.int ((5:Int)+((i:Nat):Int)),v]):=by rw [ar (b5 htx8 ht1).symm];exact aj
      have hx9:af (af H8 t1 (.tup [.str "tell",.int ((5:Int)+((i:Nat):Int)),v])) tr (.lst (xs++[.ref t1])) tr=some (.lst (xs++[.ref t1])):=aj
      have S9:Same (o3 tr a pd Hs) (af (af H8 t1 (.tup [.str "tell",.int ((5:Int)+((i:Nat):Int)),v])) tr (.lst (xs++[.ref t1]))):=lF (jJ (ss8.trans s9)) (.inl rfl)
      have E9:a7 (af (af H8 t1 (.tup [.str "tell",.int ((5:Int)+((i:Nat):Int)),v])) tr (.lst (xs++[.ref t1]))) v e:=hE8.kept fun b zs hb=>k9 _ _ (fun z=>by rw [z,htx8] at hb;cases hb) hb
      have hka9:=k9 _ _ (Ne.symm hta) hka8
      have hpy9:=k9 _ _ (Ne.symm htd) hpy8
      have hw9:=k9 _ _ hwt hw8
      have hrdt:rd≠tr:=fun z=>by obtain ⟨_,_,hrd,_⟩:=hBR.rd;rw [z,hBT] at hrd;cases hrd
      obtain ⟨p0,p1,hrd,_⟩:=hR8.rd
      have hrd9:=k9 _ _ hrdt hrd
      generalize af (af H8 t1 (.tup [.str "tell",.int ((5:Int)+((i:Nat):Int)),v])) tr (.lst (xs++[.ref t1]))=H9 at ht9 hx9 S9 E9 hka9 hpy9 hw9 hrd9 ⊢
      rw [e5] at ht9
      have fin:∀ Hx,Same (o3 tr a pd Hs) Hx->cT H9 Hx->Hx tr=H9 tr->Hx a=H9 a->Hx pd=H9 pd->Hx wr=some (.lst ((dE (ak is) q.ks (.tell e)).map V.str))->((∃ y13,[some (.ref sa),some (.ref pn),some (.ref tr),some (.ref rd),some (.ref a),some (.ref pd),some (.int ((i:Nat):Int)),some (.int ((aS is).getD i 0)),some (.int x),some v,some (.ref wr),some (.str kd),some (.str (zQ x)),x13]=[some (.ref sa),some (.ref pn),some (.ref tr),some (.ref rd),some (.ref a),some (.ref pd),some (.int ((i:Nat):Int)),some (.int ((aS is).getD i 0)),some (.int x),some v,some (.ref wr),some (.str kd),some (.str (zQ x)),y13])/\Same (o3 tr a pd Hs) Hx/\(∃ t1 vs,Hx tr=some (.lst (xs++[.ref t1]))/\Hx t1=some (.tup vs)/\∀ Hm,cT Hx Hm->PsAt Hm false vs (Rw.tr (5+i) (.tell e)).parts)/\Hx a=some (.dK (bR (c8 (ak is) q.ks (.tell e))))/\Hx pd=some (.lst ys)/\Hx wr=some (.lst ((dE (ak is) q.ks (.tell e)).map V.str))):=fun Hx S T h1 h2 h3 h4=>⟨⟨_,rfl⟩,S,⟨t1,_,by rw [h1];exact hx9,T _ _ ht9,fun Hm Tm=>.cons (.s _) (.cons (.i _) (.cons (.e ((E9.kept T).kept Tm)) .nil))⟩,by rw [h2];exact hka9,by rw [h3];exact hpy9,h4⟩
      refine ⟨_,rfl,_,rfl,rd,_,rfl,bt.k (k:=.inr kd) hrd9,_,rfl,?_⟩
      have ewr:dE (ak is) q.ks (.tell e)=aR (ak is) (aJ q.ks) e++(if kd=(ak is).n4∨kd=(ak is).n5 then ["tell"] else []:List Str):=by rw [<- hkd];rfl
      by_cases hrec:kd=(ak is).n4∨kd=(ak is).n5
      ·refine bg ?_ ?_
       ·rcases hrec with h | h
        ·rw [h,cK rfl];rfl
        ·rw [h,cL (fun z=>hO.ne (Sum.inr.inj z)),cK rfl];rfl
       rw [if_pos hrec] at ewr
       refine ⟨_,rfl,.inl ⟨rfl,_,am.of hw9⟩,wr,_,_,rfl,rfl,hw9,?_,?_⟩
       ·rw [Qf];exact cR (by omega)
       exact hRR2 _ _ (fin _ (hwu S9) (fun b zs hb=>by rw [ar (fun z=>by rw [z,hw9] at hb;cases hb)];exact hb) (ar (Ne.symm hwt)) (ar (Ne.symm hwa)) (ar (Ne.symm hwd)) (by rw [aj,ewr];simp))
      ·refine aM ?_ ?_
       ·rw [cL (fun z=>hrec (.inl (Sum.inr.inj z).symm)),cL (fun z=>hrec (.inr (Sum.inr.inj z).symm))];rfl
       rw [if_neg hrec,List.append_nil] at ewr
       exact hRR2 _ _ (fin _ S9 (fun b zs hb=>hb) rfl rfl rfl (by rw [ewr];exact hw9))
     ·have erw:bN (ak is) q.ks x=.set (zQ x) e:=by unfold bN;rw [if_neg hev,heq]
      rw [erw] at hRR2
      generalize zQ x=zz at hRR2 ⊢
      refine ⟨_,rfl,.inl ⟨rfl,_,am.of htx8⟩,_,rfl,_,_,rfl,rfl,_,rfl,_,rfl,(by show 4<=sizeLine;decide),fun t1 ht1=>?_⟩
      have s9:=ao (o:=.tup [.str "set",.int ((5:Int)+((i:Nat):Int)),.str zz,v]) ht1
      refine ⟨tr,xs,_,rfl,rfl,s9 _ _ htx8,cR (by omega),?_⟩
      have k9:∀ b o,b≠tr->H8 b=some o->af (af H8 t1 (.tup [.str "set",.int ((5:Int)+((i:Nat):Int)),.str zz,v])) tr (.lst (xs++[.ref t1])) b=some o:=fun b o hb h=>by rw [ar hb];exact s9 _ _ h
      have ht9:af (af H8 t1 (.tup [.str "set",.int ((5:Int)+((i:Nat):Int)),.str zz,v])) tr (.lst (xs++[.ref t1])) t1=some (.tup [.str "set",.int ((5:Int)+((i:Nat):Int)),.str zz,v]):=by rw [ar (b5 htx8 ht1).symm];exact aj
      have hx9:af (af H8 t1 (.tup [.str "set",.int ((5:Int)+((i:Nat):Int)),.str zz,v])) tr (.lst (xs++[.ref t1])) tr=some (.lst (xs++[.ref t1])):=aj
      have S9:Same (o3 tr a pd Hs) (af (af H8 t1 (.tup [.str "set",.int ((5:Int)+((i:Nat):Int)),.str zz,v])) tr (.lst (xs++[.ref t1]))):=lF (jJ (ss8.trans s9)) (.inl rfl)
      have E9:a7 (af (af H8 t1 (.tup [.str "set",.int ((5:Int)+((i:Nat):Int)),.str zz,v])) tr (.lst (xs++[.ref t1]))) v e:=hE8.kept fun b zs hb=>k9 _ _ (fun z=>by rw [z,htx8] at hb;cases hb) hb
      have hka9:=k9 _ _ (Ne.symm hta) hka8
      have hpy9:=k9 _ _ (Ne.symm htd) hpy8
      have hw9:=k9 _ _ hwt hw8
      generalize af (af H8 t1 (.tup [.str "set",.int ((5:Int)+((i:Nat):Int)),.str zz,v])) tr (.lst (xs++[.ref t1]))=H9 at ht9 hx9 S9 E9 hka9 hpy9 hw9 ⊢
      rw [e5] at ht9
      have ewr:dE (ak is) q.ks (.set zz e)=aR (ak is) (aJ q.ks) e++(if (q.ks.lookup zz).getD ""≠""/\kd≠""/\kd≠(q.ks.lookup zz).getD "" then ["kind"] else []:List Str):=by rw [<- hkd];rfl
      have egd:(aU (bR q.ks) (.inr zz)).getD (.str "")=.str ((q.ks.lookup zz).getD ""):=by rw [io];cases q.ks.lookup zz<;>rfl
      dsimp only
      refine i8 (fun σ' Hx=>σ'=[some (.ref sa),some (.ref pn),some (.ref tr),some (.ref rd),some (.ref a),some (.ref pd),some (.int ((i:Nat):Int)),some (.int ((aS is).getD i 0)),some (.int x),some v,some (.ref wr),some (.str kd),some (.str zz),x13]/\Same (o3 tr a pd Hs) Hx/\cT H9 Hx/\Hx tr=H9 tr/\Hx a=H9 a/\Hx pd=H9 pd/\Hx wr=some (.lst ((dE (ak is) q.ks (.set zz e)).map V.str))) (fun RR3 hRR3=>?_) ?_
      ·have no:¬((q.ks.lookup zz).getD ""≠""/\kd≠""/\kd≠(q.ks.lookup zz).getD "")->RR3 [some (.ref sa),some (.ref pn),some (.ref tr),some (.ref rd),some (.ref a),some (.ref pd),some (.int ((i:Nat):Int)),some (.int ((aS is).getD i 0)),some (.int x),some v,some (.ref wr),some (.str kd),some (.str zz),x13] H9:=fun h=>hRR3 _ _ ⟨rfl,S9,fun b zs hb=>hb,rfl,rfl,rfl,by rw [ewr,if_neg h,List.append_nil];exact hw9⟩
       refine ⟨_,rfl,a,rfl,.inl ⟨_,.inl hka9⟩,_,rfl,_,bt.k (k:=.inr zz) hka9,?_⟩
       rw [egd]
       refine ⟨rfl,_,rfl,?_⟩
       by_cases h1:(q.ks.lookup zz).getD ""=""
       ·refine aM (by
         show (!decide (V.str ((q.ks.lookup zz).getD "")=V.str ""))=false
         rw [Qp (by rw [h1])];rfl) (dh ?_)
        exact no fun z=>z.1 h1
       refine bg (by
        show (!decide (V.str ((q.ks.lookup zz).getD "")=V.str ""))=true
        rw [Qi (fun z=>h1 (by injection z))];rfl) ?_
       refine ⟨_,rfl,rfl,_,rfl,?_⟩
       by_cases h2:kd=""
       ·refine aM (by
         show (!decide (V.str kd=V.str ""))=false
         rw [Qp (by rw [h2])];rfl) (dh ?_)
        exact no fun z=>z.2.1 h2
       refine bg (by
        show (!decide (V.str kd=V.str ""))=true
        rw [Qi (fun z=>h2 (by injection z))];rfl) ?_
       obtain ⟨k1,hk1⟩:∃ k1,q.ks.lookup zz=some k1:=by
        cases hl:q.ks.lookup zz with
        | none=>rw [hl] at h1;exact absurd rfl h1
        | some k1=>exact ⟨k1,rfl⟩
       have ek1:(q.ks.lookup zz).getD ""=k1:=by rw [hk1];rfl
       refine ⟨_,rfl,_,rfl,_,rfl,a,_,rfl,by rw [show some (V.str k1)=aU (bR q.ks) (.inr zz) from by rw [io,hk1];rfl];exact bt.k (k:=.inr zz) hka9,rfl,_,rfl,?_⟩
       rw [ek1] at ewr no
       by_cases h3:kd=k1
       ·refine aM (by
         show (!decide (V.str kd=V.str k1))=false
         rw [Qp (by rw [h3])];rfl) ?_
        exact no fun z=>z.2.2 h3
       refine bg (by
        show (!decide (V.str kd=V.str k1))=true
        rw [Qi (fun z=>h3 (by injection z))];rfl) ?_
       rw [if_pos ⟨by rw [<- ek1];exact h1,h2,h3⟩] at ewr
       refine ⟨_,rfl,.inl ⟨rfl,_,am.of hw9⟩,wr,_,_,rfl,rfl,hw9,?_,?_⟩
       ·rw [Qf];exact cR (by omega)
       exact hRR3 _ _ ⟨rfl,hwu S9,fun b zs hb=>by rw [ar (fun z=>by rw [z,hw9] at hb;cases hb)];exact hb,ar (Ne.symm hwt),ar (Ne.symm hwa),ar (Ne.symm hwd),by rw [aj,ewr];simp⟩
      rintro σ' Hx ⟨rfl,Sx,Tx,x1,x2,x3,x4⟩
      have hkax:Hx a=some (.dK (bR q.ks)):=by rw [x2];exact hka9
      have fin:∀ Hy,Same (o3 tr a pd Hs) Hy->cT Hx Hy->Hy tr=Hx tr->Hy a=some (.dK (bR (c8 (ak is) q.ks (.set zz e))))->Hy pd=Hx pd->Hy wr=Hx wr->((∃ y13,[some (.ref sa),some (.ref pn),some (.ref tr),some (.ref rd),some (.ref a),some (.ref pd),some (.int ((i:Nat):Int)),some (.int ((aS is).getD i 0)),some (.int x),some v,some (.ref wr),some (.str kd),some (.str zz),x13]=[some (.ref sa),some (.ref pn),some (.ref tr),some (.ref rd),some (.ref a),some (.ref pd),some (.int ((i:Nat):Int)),some (.int ((aS is).getD i 0)),some (.int x),some v,some (.ref wr),some (.str kd),some (.str zz),y13])/\Same (o3 tr a pd Hs) Hy/\(∃ t1 vs,Hy tr=some (.lst (xs++[.ref t1]))/\Hy t1=some (.tup vs)/\∀ Hm,cT Hy Hm->PsAt Hm false vs (Rw.tr (5+i) (.set zz e)).parts)/\Hy a=some (.dK (bR (c8 (ak is) q.ks (.set zz e))))/\Hy pd=some (.lst ys)/\Hy wr=some (.lst ((dE (ak is) q.ks (.set zz e)).map V.str))):=fun Hy S T h1 h2 h3 h4=>⟨⟨_,rfl⟩,S,⟨t1,_,by rw [h1,x1];exact hx9,T _ _ (Tx _ _ ht9),fun Hm Tm=>.cons (.s _) (.cons (.i _) (.cons (.s _) (.cons (.e (((E9.kept Tx).kept T).kept Tm)) .nil)))⟩,h2,by rw [h3,x3];exact hpy9,by rw [h4];exact x4⟩
      refine ⟨_,rfl,_,rfl,a,_,rfl,bt.k (k:=.inr zz) hkax,_,rfl,?_⟩
      rw [io]
      have eks2:c8 (ak is) q.ks (.set zz e)=if q.ks.lookup zz=none then q.ks++[(zz,kd)] else q.ks:=by rw [<- hkd];rfl
      cases hl:q.ks.lookup zz with
      | none =>
       refine fe ?_
       rw [hl,if_pos rfl] at eks2
       have ep:bO (bR q.ks) (.inr zz) (.str kd)=bR (q.ks++[(zz,kd)]):=by
        have hv:aU (bR q.ks) (.inr zz)=none:=by rw [io,hl];rfl
        unfold bO
        rw [if_neg (by rw [gY,hv];simp)]
        unfold bR
        rw [QK]
        rfl
       refine ⟨_,rfl,_,rfl,_,rfl,a,_,rfl,dw.k (k:=.inr zz) hkax (by unfold bR;rw [Qf];exact cR (by omega)),?_⟩
       rw [ep]
       exact hRR2 _ _ (fin _ (lF Sx (.inr (.inl rfl))) (fun b zs hb=>by rw [ar (fun z=>by rw [z,hkax] at hb;cases hb)];exact hb) (ar hta) (by rw [aj,eks2]) (ar (Ne.symm had)) (ar hwa))
      | some k1 =>
       refine dh ?_
       rw [hl,if_neg (by simp)] at eks2
       exact hRR2 _ _ (fin _ Sx (fun b zs hb=>hb) rfl (by rw [eks2];exact hkax) rfl rfl)
    rintro σ' H9 ⟨⟨x13,rfl⟩,S9,⟨t1,vs,htr9,ht19,hps9⟩,hka9,hpy9,hw9⟩
    have hwl:(dE (ak is) q.ks (bN (ak is) q.ks x)).length<=65:=by
     have:∀ w,w=bN (ak is) q.ks x->(dE (ak is) q.ks w).length<=65:=fun w hw=>by
      have hwe:w.e=e:=by rw [hw,lC,heq]
      cases w with
      | tell e' =>
       have he':e'=e:=hwe
       subst he'
       show (aR _ _ _++_).length<=65
       rw [Qv]
       have:(if dq (ak is) q.ks e'=(ak is).n4∨dq (ak is) q.ks e'=(ak is).n5 then ["tell"] else []:List Str).length<=1:=by split<;>simp
       omega
      | set z' e' =>
       have he':e'=e:=hwe
       subst he'
       show (aR _ _ _++_).length<=65
       rw [Qv]
       have:(if (q.ks.lookup z').getD ""≠""/\dq (ak is) q.ks e'≠""/\dq (ak is) q.ks e'≠(q.ks.lookup z').getD "" then ["kind"] else []:List Str).length<=1:=by split<;>simp
       omega
     exact this _ rfl
    generalize hwrs:dE (ak is) q.ks (bN (ak is) q.ks x)=ws at hw9 hwl hmore
    have h3o:(fP ws).length<=3:=oH (rH ws) fun w hw=>lA (by rw [hwrs];exact (rJ ws w).mp hw)
    refine ⟨_,rfl,wr,ws,rfl,am.of hw9,by omega,fun q0 hq0=>?_⟩
    generalize hX:kE _ _ q0 (fP ws)=so
    have sq:=ao (o:=so) hq0
    refine ⟨q0,fP ws,rfl,by rw [aj,<- hX],rH ws,by omega,fun pr rs hpr hrp hrm=>?_⟩
    have spr:=ao (o:=.lst (rs.map V.str)) hpr
    have s9p:=sq.trans spr
    have hrm':∀ z,z∈rs↔z∈ws:=fun z=>(hrm z).trans (rJ ws z)
    have hrn:rs.Nodup:=hrp.imp fun h e=>by rw [e] at h;exact absurd h (List.lt_irrefl _)
    have hr3:rs.length<=3:=oH hrn fun w hw=>lA (by rw [hwrs];exact (hrm' w).mp hw)
    have hfinal:=hmore rs hrn hrm'
    have htrp:=s9p _ _ htr9
    have hkap:=s9p _ _ hka9
    have hpyp:=s9p _ _ hpy9
    have Sp:Same (o3 tr a pd Hs) _:=S9.trans s9p
    have hprd:pr≠pd:=(b5 (sq _ _ hpy9) hpr).symm
    have htp9:=s9p _ _ ht19
    have hpsp:=fun Hm (Tm:cT _ Hm)=>hps9 Hm (fun b zs hb=>Tm _ _ (s9p _ _ hb))
    have hrl:=spr.trans (Same.refl _)
    have hpr9:af (af H9 q0 so) pr (.lst (rs.map V.str)) pr=some (.lst (rs.map V.str)):=aj
    have Tsp:bQ (af (af H9 q0 so) pr (.lst (rs.map V.str))) ys ds:=iA (fun b zs hb=>Sp _ _ ((u7 htx hka hpy) _ _ hb)) hT
    refine ⟨pr,rfl,⟨_,am.of hpr9⟩,?_⟩
    generalize af (af H9 q0 so) pr (.lst (rs.map V.str))=Hp at htrp hkap hpyp Sp htp9 hpsp hpr9 Tsp ⊢
    clear hrl s9p spr sq
    refine dW (K:=K) (a:=pr) (xs:=rs.map V.str) (fun m σ' H'=>(∃ x13,σ'=[some (.ref sa),some (.ref pn),some (.ref tr),some (.ref rd),some (.ref a),some (.ref pd),some (.int ((i:Nat):Int)),some (.int ((aS is).getD i 0)),some (.int x),some v,some (.ref wr),some (.str kd),some (.str (zQ x)),x13])/\H' pr=some (.lst (rs.map V.str))/\m<=3/\Same (o3 tr a pd Hs) H'/\cT Hp H'/\H' tr=some (.lst (xs++[.ref t1]))/\H' a=some (.dK (bR (c8 (ak is) q.ks (bN (ak is) q.ks x))))/\∃ ys',H' pd=some (.lst ys')/\bQ H' ys' (ds++(rs.take m).map (kk (5+i)))) ⟨⟨_,rfl⟩,hpr9,Qr _,Sp,fun b zs hb=>hb,htrp,hkap,ys,hpyp,by simpa using Tsp⟩ (fun m σ' H' _ h=>am.of h.2.1) ?_ ?_
    ·rintro m y σ' Hm hy ⟨⟨x13,rfl⟩,hprm,_,Sm,Tm,htrm,hkam,ys',hpym,Tsm⟩
     have hml:=(Qc hy).1
     rw [Qf] at hml
     rw [Qk,Qb hml] at hy
     cases (show V.str rs[m]=y from by simpa using hy)
     have hyl:=Tsm.1
     have hdl:=hD.ln
     rw [Qv,Qf,Qx] at hyl
     dsimp only [aX]
     refine ⟨_,rfl,.inl ⟨rfl,_,am.of hpym⟩,_,rfl,_,_,rfl,rfl,_,rfl,(by show 2<=sizeLine;decide),fun t2 ht2=>?_⟩
     have s2':=ao (o:=.tup [.int ((5:Int)+((i:Nat):Int)),.str rs[m]]) ht2
     refine ⟨pd,ys',_,rfl,rfl,s2' _ _ hpym,cR (by omega),?_⟩
     have tpd:cT (af Hm t2 (.tup [.int ((5:Int)+((i:Nat):Int)),.str rs[m]])) (af (af Hm t2 (.tup [.int ((5:Int)+((i:Nat):Int)),.str rs[m]])) pd (.lst (ys'++[.ref t2]))):=fun b zs hb=>by
      rw [ar (fun z=>by rw [z,s2' _ _ hpym] at hb;cases hb)];exact hb
     refine ⟨⟨_,rfl⟩,by rw [ar hprd];exact s2' _ _ hprm,by omega,lF (Sm.trans s2') (.inr (.inr rfl)),fun b zs hb=>tpd _ _ (s2' _ _ (Tm _ _ hb)),by rw [ar htd];exact s2' _ _ htrm,by rw [ar had];exact s2' _ _ hkam,_,aj,?_⟩
     rw [Qn hml,QK,<- QM]
     refine CO (iA (fun b zs hb=>tpd _ _ (s2' _ _ hb)) Tsm) (tpd _ _ ?_)
     rw [aj,e5];rfl
    ·rintro σ' Hm ⟨⟨x13,rfl⟩,hprm,_,Sm,Tm,htrm,hkam,ys',hpym,Tsm⟩
     rw [Qf,List.take_length] at Tsm
     refine ⟨_,_,_,_,_,_,_,_,rfl,⟨fun b o hb=>?_,by rw [eks];exact hkam,⟨_,htrm,by simp [hxl];omega,?_⟩,⟨ys',_,hpym,Tsm,hfinal⟩⟩⟩
     ·exact Sm _ _ (by rw [gK (b5 hb hBT) (b5 hb hBA) (b5 hb hBD)];exact sBs _ _ hb)
     ·rw [ets,<- QM]
      have to3:=u7 htrm hkam hpym
      exact (hLx.kept (lE Sm).ls).snoc (.plain rfl (.mk (to3 _ _ (Tm _ _ htp9)) (hpsp _ fun b zs hb=>to3 _ _ (Tm _ _ hb))))
   ·rintro σ' H3 ⟨x6,x7,x8,x9,x10,x11,x12,x13,rfl,hBI⟩
    rw [Qf] at hBI
    exact hRR _ _ ⟨x6,x7,x8,x9,x10,x11,x12,x13,rfl,hHB.trans hBI.sb,⟨fun b o hb=>(nomatch hb),hBI.ka,hBI.tr,hBI.du⟩⟩
  rintro σ' H3 ⟨x6,x7,x8,x9,x10,x11,x12,x13,rfl,sH,hBI⟩
  obtain ⟨_,hka,⟨xs,htx,hxl,hLx⟩,⟨ys,ds,hpy,hT,hD⟩⟩:=hBI
  have hcl:=oK is
  have hdl:=hD.ln
  have hyl:=hT.1
  refine ⟨_,rfl,_,rfl,pd,ys,ds,[true,false],rfl,am.of hpy,by omega,hT,fun d hd=>?_,by simp,fun p hp=>⟨(by show 2<=sizeLine;decide),fun t ht=>?_⟩⟩
  ·obtain ⟨r,w,_,rfl,_⟩:=hD.rw d hd
   rfl
  have sp:=ao (o:=.lst (bq ds ys)) hp
  have st:=ao (o:=.tup [.ref tr,.ref p]) ht
  have sA:=sp.trans st
  exact kq t tr p xs _ _ ds (sH.trans sA) aj (sA _ _ htx) ((hLx.kept lD.ls).kept sA.ls) (st _ _ aj) (iA sA.ls.1 (sG hT)) hD
end
section
variable {P:Program} {w:World} {K:W.Frag} {mg:Str->Option Value} {base:Heap} {AA:bG} {DD:bH}
noncomputable def gL:ae->PyData
 | .inl i=>.int i
 | .inr z=>.str z
noncomputable def kD (k:List ae):PyData:=.tuple (k.map gL)
theorem CV (a b:ae):PyData.eqv (gL a) (gL b)=decide (a=b):=by
 cases a<;>cases b<;>simp [gL,PyData.eqv,Bool.beq_eq_decide_eq]
theorem vj:∀ a b:List ae,PyData.eqvAll (a.map gL) (b.map gL)=decide (a=b)
 | [],[]=>by simp [PyData.eqvAll]
 | [],_::_=>by simp [PyData.eqvAll]
 | _::_,[]=>by simp [PyData.eqvAll]
 | x::a,y::b=>by
  have ih:=vj a b
  simp only [List.map_cons,PyData.eqvAll,CV,ih]
  by_cases h1:x=y<;>by_cases h2:a=b<;>simp [h1,h2]
theorem CW (a b:List ae):PyData.eqv (kD a) (kD b)=decide (a=b):=by
 unfold kD
 simp only [PyData.eqv]
 exact vj a b
theorem oO {K:W.Frag} {H:Hp}:∀ (k:List ae),RdvA K H (k.map kV) (k.map gL)
 | []=>.nil
 | .inl i::k=>.cons (.int i) (oO k)
 | .inr z::k=>.cons (.str z) (oO k)
theorem oP {K:W.Frag} {H:Hp}:∀ {xs:List V} {ds:List (List ae)},bQ H xs ds->RdvA K H xs (ds.map kD)
 | [],[],_=>.nil
 | [],_::_,h=>by simp [bQ] at h
 | _::_,[],h=>by simp [bQ] at h
 | x::xs,d::ds,h=>by
  obtain ⟨t,rfl,ht⟩:=h.2 0 x d rfl rfl
  exact .cons (.tup (ah.of ht) (oO d)) (oP ⟨by simpa using h.1,fun i y e a b=>h.2 (i+1) y e a b⟩)
theorem eqvAll_refl:∀ ds:List (List ae),PyData.eqvAll (ds.map kD) (ds.map kD)=true
 | []=>by simp [PyData.eqvAll]
 | d::ds=>by simp [PyData.eqvAll,CW,eqvAll_refl ds]
theorem vk {fs:List (List ae)} (hj:∀ j,j<fs.length->j∈b8 fs) {k:List ae} (h:k∈fs):k∈bu fs:=by
 obtain ⟨j,hl,e⟩:=List.getElem_of_mem h
 unfold bu
 refine List.mem_map.mpr ⟨j,hj j hl,?_⟩
 rw [Qg,Qb hl]
 exact e
theorem CY (is:List Int):(fK (b6 is)).Nodup:=by
 rw [vg]
 exact u6 (fun t ht=>by
  obtain ⟨r,w,_,e,_⟩:=(gJ (iq is) (iB is) (aS is) _).tr t ht
  exact ⟨r,w,e⟩) List.nodup_nil
theorem CZ (is:List Int) {ds:List (List ae)} (h:iC is (aS is).length ds):bu (fK (b6 is))=bu ds:=by
 obtain ⟨u1,u2,u3⟩:=mV (tS (b6 is)) (CY is)
 obtain ⟨v1,v2,v3⟩:=mV (ds:=ds) (sh:=[true,false]) (fun d hd=>by obtain ⟨r,w,_,rfl,_⟩:=h.rw d hd;rfl) h.nd
 have hm:∀ k,k∈fK (b6 is)↔k∈ds:=fun k=>by rw [vg];exact (h.me k).symm
 exact rC u1 v1 fun d=>⟨fun q=>vk v3 ((hm d).mp (lq q)),fun q=>vk u3 ((hm d).mpr (lq q))⟩
theorem vm {d:Nat}:∀ {ts:List Tr},(∀ t∈ts,t.deep<=d)->deeps ts<=d+1
 | [],_=>by simp [deeps]
 | t::ts,h=>by
  have h1:=h t (by simp)
  have h2:=vm (ts:=ts) fun x hx=>h x (by simp [hx])
  rw [deeps];omega
theorem vn {c:Nat}:∀ {ts:List Tr},(∀ t∈ts,t.cnt<=c)->cnts ts<=c*ts.length
 | [],_=>by simp [cnts]
 | t::ts,h=>by
  have h1:=h t (by simp)
  have h2:=vn (ts:=ts) fun x hx=>h x (by simp [hx])
  rw [cnts,List.length_cons,Nat.mul_succ];omega
theorem vq:∀ {ts:List Tr},(∀ t∈ts,t.asc)->ts.Pairwise (fun a b=>a.row<b.row)->ascs ts
 | [],_,_=>trivial
 | t::ts,h,p=>by
  rw [List.pairwise_cons] at p
  exact ⟨h t (by simp),p.1,vq (fun x hx=>h x (by simp [hx])) p.2⟩
theorem vt {du:Bool}:∀ {ts:List Tr},(∀ t∈ts,jy du t)->okTs du ts
 | [],_=>trivial
 | t::ts,h=>⟨h t (by simp),vt fun x hx=>h x (by simp [hx])⟩
theorem vv:∀ {ts:List Tr},(∀ t∈ts,eU t)->AscTs ts
 | [],_=>trivial
 | t::ts,h=>⟨h t (by simp),vv fun x hx=>h x (by simp [hx])⟩
theorem vx:∀ (a b:List Tr),cnts (a++b)=cnts a+cnts b
 | [],b=>by simp [cnts]
 | t::a,b=>by
  show cnts (t::(a++b))=_
  rw [cnts,cnts,vx a b];omega
theorem C0 (is:List Int):nY (b6 is)/\(fK (b6 is)).length<64/\AscTs (b6 is)/\deeps (b6 is)<=2:=by
 have q:=gJ (iq is) (iB is) (aS is) (aS is).length
 have hA:=iB is
 have hcl:=oK is
 have hmem:∀ t∈b6 is,t.deep<=1/\t.asc/\jy false t/\eU t:=fun t ht=>by
  rcases Qy ht with ht | ht
  ·have ht:t=.kd 0 (ak is).n4 (ak is).f0∨t=.kd 1 (ak is).n5 (ak is).f1∨t=.df 2 (ak is).n6 (ak is).n4 [("x",(ak is).n4)] [.give 3 (.name "x")]:=by simpa [az] using ht
   rcases ht with rfl | rfl | rfl
   ·exact ⟨by simp [Tr.deep],QH hA.l0 (by decide),trivial,dS hA.ns _,hA.a0⟩
   ·exact ⟨by simp [Tr.deep],QH hA.l1 (by decide),trivial,dS hA.ns _,hA.a1⟩
   ·exact ⟨by simp [Tr.deep,deeps],⟨by simp,by simp,⟨⟨trivial,by decide⟩,by simp,trivial⟩⟩,⟨⟨rfl,trivial⟩,trivial⟩,dS hA.ns _,dS hA.ns _,fun q hq=>by rw [List.mem_singleton.mp hq];exact ⟨(by show aQ ("x":Str);unfold aQ;decide +kernel),dS hA.ns _⟩,(by rw [eU,bx];unfold aQ;decide +kernel),trivial⟩
  ·obtain ⟨r,w,kn,rfl,_,_,hg,hz⟩:=q.tr t ht
   have hd:=hg.dp
   cases w with
   | tell e=>exact ⟨by simp [Rw.tr,Tr.deep],⟨hg.fi,by show e.deep<8;have:e.deep<=3:=hd;omega⟩,hg.do_,hg.ac,hd⟩
   | set z e=>exact ⟨by simp [Rw.tr,Tr.deep],⟨hg.fi,by show e.deep<8;have:e.deep<=3:=hd;omega⟩,hg.do_,hz z e rfl,hg.ac,hd⟩
 have hlen:(b6 is).length=3+(aS is).length:=by
  show (az (ak is)++(qE is).ts).length=_
  rw [Qv]
  have:(qE is).ts.length=(aS is).length:=q.tl
  rw [this];rfl
 have hcn:cnts (b6 is)<=4+(aS is).length:=by
  show cnts (az (ak is)++(qE is).ts)<=_
  rw [vx]
  have h1:cnts (az (ak is))<=4:=by simp [az,cnts,Tr.cnt]
  have h2:cnts (qE is).ts<=1*(qE is).ts.length:=vn fun t ht=>by
   obtain ⟨r,w,_,rfl,_⟩:=q.tr t ht
   cases w<;>simp [Rw.tr,Tr.cnt]
  have:(qE is).ts.length=(aS is).length:=q.tl
  omega
 have hpw:(b6 is).Pairwise fun a b=>a.row<b.row:=by
  refine List.pairwise_append.mpr ⟨by simp [az,Tr.row],q.tp,fun a ha b hb=>?_⟩
  obtain ⟨r,w,_,rfl,h5,_⟩:=q.tr b hb
  rw [oI]
  have ha:a=.kd 0 (ak is).n4 (ak is).f0∨a=.kd 1 (ak is).n5 (ak is).f1∨a=.df 2 (ak is).n6 (ak is).n4 [("x",(ak is).n4)] [.give 3 (.name "x")]:=by simpa [az] using ha
  rcases ha with rfl | rfl | rfl<;>simp [Tr.row]<;>omega
 have hdp:=vm fun t ht=>(hmem t ht).1
 have hfl:=kfTs_len (b6 is) none (b6 is) (env0,[])
 refine ⟨⟨by omega,by omega,vq (fun t ht=>(hmem t ht).2.1) hpw,vt fun t ht=>(hmem t ht).2.2.1,by omega⟩,?_,vv fun t ht=>(hmem t ht).2.2.2,hdp⟩
 have hfl:(fK (b6 is)).length<=0+3*cnts (b6 is):=hfl
 omega
noncomputable def lG (K:W.Frag):Sp:=fun vs H Q _=>∃ (a:Addr) (ns:List Int),vs=[.ref a]/\am K H a (ns.map V.int)/\ns.length<=63/\∀ H',Q (.bl true) H'
noncomputable abbrev vz:List Str:=["_law_script","_law_tree","_law_due","_law_found"]
theorem vA:ba vz ["_law_script"] (aK k7):=⟨rfl,rfl,rfl,by decide +kernel,rfl,by decide +kernel,by decide +kernel⟩
theorem C1 (T:All P w K mg AA DD) {f:Addr} {fd:FuncData} (F:a9 K "law" "law" k7 f fd):aE P w K mg base aI 45 f fd ["_law_script"] (lG K):=by
 have GB:=CU (base:=base) T
 have GPK:=BQ (base:=base) T
 refine F.ok vA (fun vs H Q E h=>?_) (fun cdv A outer s H vs Q E hr h=>?_)
 ·obtain ⟨a,ns,rfl,_⟩:=h
  rfl
 ·obtain ⟨a,is,rfl,hS,hlen,kq⟩:=h
  have nd:=vA.nd
  have hu:=hr.units
  have hrP:aA 39 _:=hr.mono (by decide)
  have hr8:aA 8 _:=hr.mono (by decide)
  refine ⟨_,(av (oX (aN GB hr8 rfl T.m_ZE T.k_ZE T.b_ZE .nil aB (aa (pv 0) ag)) (dt rfl (a8 (aT (i:=1) nd rfl (Or.inl rfl)) (a8 (aT (i:=2) nd rfl (Or.inl rfl)) cg)))) (av (@bf _ _ 3 _ _ _ _ nd rfl (Or.inl rfl) (aN GPK hrP rfl T.m_Zq T.k_Zq T.b_Zq .nil aB (aa (pv 1) ag)) (by rfl) (by first | exact .inl rfl | exact .inr rfl | assumption)) (av (be (PW.pt (lL (oT (gP (dY (ji (K:=K) (n:="list") rfl) rfl T.n_isinstance iY (aa (pv 3) (aa (iG (v:=.ty "list") rfl T.n_list iZ rfl) ag))))) (lK (aY (yL (K:=K) rfl hu) (fh (aK k7) vz [] [] rfl (by exact ⟨rfl,rfl,by decide +kernel,rfl,by decide +kernel,by decide +kernel,by decide +kernel,rfl,by decide +kernel⟩) rfl rfl (ci (pv 3)) (fun _ _ _ _=>gk (oT (gP (dY (ji (K:=K) (n:="tuple") rfl) rfl T.n_isinstance iY (aa (pv 0) (aa (iG (v:=.ty "tuple") rfl T.n_tuple i7 rfl) ag)))))) (fun _ _ _ _=>(pv 0))) (bB ag) (a6 _))))) (aq (aO vP)) bo) (aq (aO (oV (@lV _ _ _ _ _ _ _ _ (qF (K:=K) rfl hu) (pv 3) (pv 2) (a6 _)) (oU (@lV _ _ _ _ _ _ _ _ (qF (K:=K) rfl hu) (pv 1) (au (aH (K:=K) rfl) (aN GB hr8 rfl T.m_ZE T.k_ZE T.b_ZE .nil aB (aa (pv 0) ag)) ai (fun _ _=>rfl)) (a6 _))))))))),?_⟩
  obtain ⟨tok,tlen,hasc,hdp⟩:=C0 is
  have hshd:bb 20 (.list (trsD (b6 is))):=(bb.list (trs_shd _ hasc)).up (by omega)
  refine ⟨_,rfl,a,is,rfl,hS,hlen,fun t l d xs ys0 H1 ds s1 ht hl hL hd hD hDI=>?_⟩
  have efk:=CZ is hDI
  refine ⟨t,_,rfl,ah.of ht,rfl,_,_,rfl,_,_,rfl,rfl,?_⟩
  dsimp only [lP,aX,lO]
  refine ⟨_,rfl,l,xs,b6 is,rfl,hl,hL,tok,tlen,fun p ys H2 l2 hp hT hno=>?_⟩
  rw [efk] at hT
  dsimp only [aX]
  have hkd:∀ k∈bu ds,bb 1 (kD k):=fun k hk=>by
   obtain ⟨r,w,_,rfl,hw⟩:=hDI.rw k (lq hk)
   have hwa:aQ w:=by
    have:∀ w∈w3,aQ w:=by unfold aQ;decide +kernel
    exact this w hw
   refine bb.tuple fun d hd=>?_
   simp only [kk,List.map_cons,List.map_nil,List.mem_cons,List.not_mem_nil,or_false] at hd
   rcases hd with rfl | rfl
   ·exact .int _
   ·exact .str hwa
  have shl:SeqAt.shaped (.list ((bu ds).map kD))=true:=(bb.list (n:=1) fun d hd=>by obtain ⟨k,hk,rfl⟩:=QE hd;exact hkd k hk).ok (by decide)
  have er:PyData.eqv (.list ((bu ds).map kD)) (.list ((bu ds).map kD))=true:=by simp only [PyData.eqv];exact eqvAll_refl _
  refine i8 (fun σ' H'=>Same H2 H'/\σ'=[some (.ref a),some (.ref l),some (.ref d),some (.ref p)]) (fun R hR=>?_) ?_
  ·refine ⟨_,rfl,.ref p,_,true,rfl,.lst hp,by rfl,_,rfl,dh ?_⟩
   refine ⟨_,rfl,p,rfl,⟨_,am.of hp⟩,?_⟩
   refine j0 (K:=K) (a:=p) (xs:=ys) (fun i zs H'=>H'=H2/\zs=[]) ⟨rfl,rfl⟩ (fun i zs H' _ h=>by rw [h.1];exact am.of hp) ?_ ?_
   ·rintro i x zs H' hx ⟨rfl,rfl⟩
    obtain ⟨hi,ex⟩:=Qc hx
    have hik:i<(bu ds).length:=by rw [<- hT.1];exact hi
    obtain ⟨t,rfl,ht⟩:=hT.2 i x _ hx (Qb hik)
    refine ⟨_,rfl,.ref t,_,true,rfl,.tup ht,by rfl,_,rfl,?_⟩
    exact ⟨rfl,rfl⟩
   ·rintro zs H' ⟨rfl,rfl⟩ q hq
    have s3:=ao (o:=.lst []) hq
    refine ⟨Qr _,fun q2 hq2=>?_⟩
    have s4:=ao (o:=.lst []) hq2
    refine ⟨.list [],.list [],.lst (am.of (s4 _ _ aj)) .nil,.lst (am.of aj) .nil,by rfl,by rfl,_,rfl,?_⟩
    exact dh (hR _ _ ⟨s3.trans s4,rfl⟩)
  rintro σ' H3 ⟨s3,rfl⟩
  have l13:=l2.trans s3.ls
  have hS3:=l13.seq (s1.seq hS)
  refine ⟨_,rfl,_,rfl,.list ((bu ds).map kD),.list ((bu ds).map kD),.lst (am.of (s3 _ _ hp)) (oP (iA s3.ls.1 hT)),.lst (am.of (l13.2 _ _ hd)) (oP (iA l13.1 hD)),shl,shl,_,rfl,?_⟩
  rw [er]
  refine fe ?_
  refine ⟨_,rfl,_,rfl,a,is,rfl,hS3,hlen,fun t' l' d' xs' ds' H4 es' s4 ht' hl' hL' _ _ _=>?_⟩
  have l4:=l13.trans s4.ls
  refine ⟨t',_,_,_,rfl,rfl,ah.of ht',ap (j:=0) rfl,.list (trsD (b6 is)),.list (trsD (b6 is)),.lst (am.of (l4.2 _ _ hl)) (trs_rdv (hL.kept l4) hasc),.lst (am.of hl') (trs_rdv hL' hasc),hshd.ok (by decide),hshd.ok (by decide),?_⟩
  rw [hshd.refl]
  exact kq _
end
structure FB (K:W.Frag) (n q:Str) (st:Stmt) (ps:List Str) (f:Addr) (fd:FuncData):Prop where
 k:W.keepIn K (.ref f)=true
 F:a9 K n q st f fd
 b:Binds K fd ps []
noncomputable def FG (K:W.Frag) (n q:Str) (st:Stmt) (ps:List Str):Prop:=∃ f fd,W.nsIn K mainGlobals n=some (some (.ref f))/\FB K n q st ps f fd
noncomputable def MG (K:W.Frag) (c:Addr) (n q:Str) (st:Stmt) (ps:List Str):Prop:=∃ f fd,W.findIn K (.ref c) n=some (some (.ref f))/\W.isFn K (.ref f)=true/\FB K n q st ps f fd
noncomputable def DG (P:Program) (w:World) (K:W.Frag) (n:Str) (kvs:List (Str × Str)):Prop:=∃ d,W.nsIn K mainGlobals n=some (some (.ref d))/\gq P w K d kvs
section
variable {K:W.Frag} {n q:Str} {st:Stmt} {ps:List Str} {f c:Addr} {oc kV dc pm cd ct:Value} {od an:Option Addr} {sl:Array (Option Value)}
theorem fb (l:K.lookup f=some ⟨oc,od,.func (W.fnOf n q (gX st) (gi st) (aK st) .none kV dc pm an cd ct),sl⟩) (e:W.codeIn K cd q=true) (k:W.keepIn K (.ref f)=true)
  (b:∀ us:List Value,us.length=ps.length->bindArgs (W.fnOf n q (gX st) (gi st) (aK st) .none kV dc pm an cd ct) ⟨us,[]⟩=pure (ps.zip us)):FB K n q st ps f (W.fnOf n q (gX st) (gi st) (aK st) .none kV dc pm an cd ct) :=
 ⟨k,xz l e k,.all b⟩
theorem fg {fd:FuncData} (a:W.nsIn K mainGlobals n=some (some (.ref f))) (b:FB K n q st ps f fd):FG K n q st ps:=⟨f,fd,a,b⟩
theorem mg {fd:FuncData} (a:W.findIn K (.ref c) n=some (some (.ref f))) (i:W.isFn K (.ref f)=true) (b:FB K n q st ps f fd):MG K c n q st ps:=⟨f,fd,a,i,b⟩
end
noncomputable def vB (x:DictEntry):hV:=match x with
 | ⟨_,.str a b,.str c d⟩=>(a,b,c,d)
 | _=>("",0,"",0)
theorem dg {P:Program} {w:World} {K:W.Frag} {n:Str} {kvs:List (Str × Str)} {d:Addr} {ep:Nat} {A:Array DictEntry} (a:W.nsIn K mainGlobals n=some (some (.ref d))) (l:K.lookup d=some ⟨.type "dict",none,.dict A ep,#[]⟩) (s:(d == sysModules)=false)
  (e:A=((A.toList.map vB).map (kg w)).toArray) (k:(A.toList.map vB).map (fun e=>(e.1,e.2.2.1))=kvs) (nd:(kvs.map (·.1)).Nodup):DG P w K n kvs:=by
 refine ⟨d,a,?_⟩
 rw [<- k,List.map_map] at nd
 rw [<- k]
 exact yJ s (by rw [<- e];exact l) nd
theorem C2 {l:W.OpenLaw} {w:World} {K:W.Frag} {h:Heap} {mg:Str->Option Value} {fa c_KindLook q_PLAIN_KINDS:Addr} (X:K.In h) (G:h.Ns mainGlobals mg) (hfa:mg "law"=some (.ref fa))
  {t_PLAIN_KINDS_0 t_PLAIN_KINDS_1:Tok} {od_PLAIN_KINDS:Option Addr} {n_PLAIN_KINDS:Nat} {sl_PLAIN_KINDS:Array (Option Value)}
  (aC_KindLook:W.nsIn K mainGlobals "KindLook"=some (some (.ref c_KindLook)))
  (g_ZP:FG K "least" "least" mW ["mask"])
  (g_ZK:FG K "without" "without" mX ["mask","other"])
  (g_ZM:FG K "all_of" "all_of" mY ["pairs"])
  (g_Zs:FG K "kept_pairs" "kept_pairs" kI ["pairs","mask"])
  (g_ZN:FG K "add_to" "add_to" mZ ["found","key","mask"])
  (g_Zt:FG K "with_masks" "with_masks" kJ ["found"])
  (g_Zw:FG K "kept_tree" "kept_tree" kK ["tree","mask"])
  (g_Zj:FG K "kept_statement" "kept_statement" kL ["one","mask"])
  (g_Zk:FG K "row_and_least" "row_and_least" m4 ["pair"])
  (g_Zx:FG K "shared_of" "shared_of" kM ["tree"])
  (g_Zh:FG K "shared_statement" "shared_statement" kN ["one"])
  (g_Zy:FG K "blocks_of" "blocks_of" kO ["one"])
  (g_Zu:FG K "first_rows" "first_rows" m5 ["tree"])
  (g_ZF:FG K "pairs_of" "pairs_of" m6 ["one"])
  (g_ZL:FG K "expr_of" "expr_of" m7 ["one"])
  (g_ZG:FG K "exprs_in" "exprs_in" m8 ["e"])
  (g_ZQ:FG K "unfit" "unfit" kP ["kinds","due"])
  (g_ZA:FG K "is_record" "is_record" m9 ["kind"])
  (g_ZO:FG K "giving" "giving" ng ["body"])
  (g_Zn:FG K "shared_kinds" "shared_kinds" nh ["tree","mask"])
  (g_Zq:FG K "plain_kinds" "plain_kinds" kR ["tree"])
  (g_Zr:FG K "_law_cell_at" "_law_cell_at" ni ["_law_script","_law_k"])
  (g_ZB:FG K "_law_mixed" "_law_mixed" nj ["_law_cell","_law_k"])
  (g_ZC:FG K "_law_names" "_law_names" kT ["_law_number"])
  (g_Zv:FG K "_law_fields" "_law_fields" kU ["_law_number","_law_names_here"])
  (g_ZH:FG K "_law_expr" "_law_expr" nk ["_law_number","_law_known","_law_records","_law_names_here","_law_deep"])
  (g_ZD:FG K "_law_parts" "_law_parts" kW ["_law_e","_law_records","_law_names_here"])
  (g_ZI:FG K "_law_kind" "_law_kind" np ["_law_e","_law_known","_law_records","_law_names_here","_law_wrong"])
  (g_ZJ:FG K "_law_head" "_law_head" kY ["_law_script","_law_names_here"])
  (g_ZE:FG K "_law_built" "_law_built" nq ["_law_script"])
  (g_Zl:MG K c_KindLook "__init__" "KindLook.__init__" nr ["self","tree"])
  (g_Zm:MG K c_KindLook "note" "KindLook.note" nu ["self","mask","at","what"])
  (g_Zb:MG K c_KindLook "look_body" "KindLook.look_body" nv ["self","statements","names","due"])
  (g_Zd:MG K c_KindLook "look_def" "KindLook.look_def" kZ ["self","mask","one"])
  (g_Ze:MG K c_KindLook "look_row" "KindLook.look_row" k4 ["self","one","kinds","names","due"])
  (g_Zf:MG K c_KindLook "look_set" "KindLook.look_set" nw ["self","one","kinds","names"])
  (g_Zp:MG K c_KindLook "ask" "KindLook.ask" ny ["self","mask","e","due","at","names"])
  (g_Zg:MG K c_KindLook "kinds_of" "KindLook.kinds_of" jl ["self","mask","e","at","names"])
  (g_Zc:MG K c_KindLook "used_rows" "KindLook.used_rows" nz ["self","mask","e","word","at","names"])
  (g_Za:MG K c_KindLook "field_kinds" "KindLook.field_kinds" k6 ["self","mask","kind","field","at"])
  (g_law:FG K "law" "law" k7 ["_law_script"])
  (pg_KindLook:W.plainGet K c_KindLook Str.empty=true)
  (hd_KindLook:W.hasDictIn K c_KindLook=true)
  (po_KindLook:W.plainOver K c_KindLook=true)
  (sa_KindLook:W.findIn K (.ref c_KindLook) "__setattr__"=some (some (.builtin "object.__setattr__")))
  (mk_KindLook:W.makesIn K c_KindLook=true)
  (kc_KindLook:W.keepIn K (.ref c_KindLook)=true)
  (na_KindLook_faults:W.findIn K (.ref c_KindLook) "faults"=some none)
  (na_KindLook_firsts:W.findIn K (.ref c_KindLook) "firsts"=some none)
  (t1_KindLook:W.findIn K (.ref c_KindLook) "__class__"=some (some (.builtin "object.__class__")))
  (t2_KindLook:W.specialIn K (.builtin "object.__class__") "__get__"=some (some (.builtin "getset_descriptor.__get__")))
  (t3_KindLook:W.takesIn K (.builtin "object.__class__")=some true)
  (t4_KindLook:W.mroIn K c_KindLook (.type "object")=some true)
  (g_MAKES:DG l.prog w K "MAKES" [("num","num"),("truth","truth"),("+","num"),("-","num"),("*","num"),("less","truth"),("same","truth"),("and","truth"),("or","truth"),("not","truth")])
  (g_ASKS:DG l.prog w K "ASKS" [("+","num"),("-","num"),("*","num"),("less","num"),("same","num"),("and","truth"),("or","truth"),("not","truth")])
  (a_PLAIN_KINDS:W.nsIn K mainGlobals "PLAIN_KINDS"=some (some (.ref q_PLAIN_KINDS)))
  (l_PLAIN_KINDS:K.lookup q_PLAIN_KINDS=some ⟨.type "tuple",od_PLAIN_KINDS,.seq #[.str "num" t_PLAIN_KINDS_0,.str "truth" t_PLAIN_KINDS_1] n_PLAIN_KINDS,sl_PLAIN_KINDS⟩)
  (z_len:W.nsIn K mainGlobals "len"=some none)
  (z_range:W.nsIn K mainGlobals "range"=some none)
  (z_list:W.nsIn K mainGlobals "list"=some none)
  (z_dict:W.nsIn K mainGlobals "dict"=some none)
  (z_tuple:W.nsIn K mainGlobals "tuple"=some none)
  (z_sorted:W.nsIn K mainGlobals "sorted"=some none)
  (z_enumerate:W.nsIn K mainGlobals "enumerate"=some none)
  (z_isinstance:W.nsIn K mainGlobals "isinstance"=some none)
  (z_zip:W.nsIn K mainGlobals "zip"=some none)
  (z_set:W.nsIn K mainGlobals "set"=some none)
  :
  ∃ fd:FuncData,(∀ (s:Shared) (v:Value),BindsTo s fd ⟨[v],[]⟩ [("_law_script",v)])/\∀ base:Heap,K.In base->base.Ns mainGlobals mg->aE l.prog w K mg base aI 45 fa fd ["_law_script"] (lG K):=by
 obtain ⟨_,_,a_ZP,u_ZP⟩:=g_ZP
 obtain ⟨_,_,a_ZK,u_ZK⟩:=g_ZK
 obtain ⟨_,_,a_ZM,u_ZM⟩:=g_ZM
 obtain ⟨_,_,a_Zs,u_Zs⟩:=g_Zs
 obtain ⟨_,_,a_ZN,u_ZN⟩:=g_ZN
 obtain ⟨_,_,a_Zt,u_Zt⟩:=g_Zt
 obtain ⟨_,_,a_Zw,u_Zw⟩:=g_Zw
 obtain ⟨_,_,a_Zj,u_Zj⟩:=g_Zj
 obtain ⟨_,_,a_Zk,u_Zk⟩:=g_Zk
 obtain ⟨_,_,a_Zx,u_Zx⟩:=g_Zx
 obtain ⟨_,_,a_Zh,u_Zh⟩:=g_Zh
 obtain ⟨_,_,a_Zy,u_Zy⟩:=g_Zy
 obtain ⟨_,_,a_Zu,u_Zu⟩:=g_Zu
 obtain ⟨_,_,a_ZF,u_ZF⟩:=g_ZF
 obtain ⟨_,_,a_ZL,u_ZL⟩:=g_ZL
 obtain ⟨_,_,a_ZG,u_ZG⟩:=g_ZG
 obtain ⟨_,_,a_ZQ,u_ZQ⟩:=g_ZQ
 obtain ⟨_,_,a_ZA,u_ZA⟩:=g_ZA
 obtain ⟨_,_,a_ZO,u_ZO⟩:=g_ZO
 obtain ⟨_,_,a_Zn,u_Zn⟩:=g_Zn
 obtain ⟨_,_,a_Zq,u_Zq⟩:=g_Zq
 obtain ⟨_,_,a_Zr,u_Zr⟩:=g_Zr
 obtain ⟨_,_,a_ZB,u_ZB⟩:=g_ZB
 obtain ⟨_,_,a_ZC,u_ZC⟩:=g_ZC
 obtain ⟨_,_,a_Zv,u_Zv⟩:=g_Zv
 obtain ⟨_,_,a_ZH,u_ZH⟩:=g_ZH
 obtain ⟨_,_,a_ZD,u_ZD⟩:=g_ZD
 obtain ⟨_,_,a_ZI,u_ZI⟩:=g_ZI
 obtain ⟨_,_,a_ZJ,u_ZJ⟩:=g_ZJ
 obtain ⟨_,_,a_ZE,u_ZE⟩:=g_ZE
 obtain ⟨_,_,a_Zl,i_Zl,u_Zl⟩:=g_Zl
 obtain ⟨_,_,a_Zm,i_Zm,u_Zm⟩:=g_Zm
 obtain ⟨_,_,a_Zb,i_Zb,u_Zb⟩:=g_Zb
 obtain ⟨_,_,a_Zd,i_Zd,u_Zd⟩:=g_Zd
 obtain ⟨_,_,a_Ze,i_Ze,u_Ze⟩:=g_Ze
 obtain ⟨_,_,a_Zf,i_Zf,u_Zf⟩:=g_Zf
 obtain ⟨_,_,a_Zp,i_Zp,u_Zp⟩:=g_Zp
 obtain ⟨_,_,a_Zg,i_Zg,u_Zg⟩:=g_Zg
 obtain ⟨_,_,a_Zc,i_Zc,u_Zc⟩:=g_Zc
 obtain ⟨_,_,a_Za,i_Za,u_Za⟩:=g_Za
 obtain ⟨_,_,a_law,u_law⟩:=g_law
 obtain ⟨_,a_MAKES,D_MAKES⟩:=g_MAKES
 obtain ⟨_,a_ASKS,D_ASKS⟩:=g_ASKS
 have e:=hfa.symm.trans (W.mg_of X G a_law)
 cases e
 have T:All l.prog w K mg ⟨_,_,_,_,_,_,_,_,_,_,_,_,_,_,_,_,_,_,_,_,_,_,_,_,_,_,_,_,_,_,_,_,_,_,_,_,_,_,_,_,_,_,_,_⟩ ⟨_,_,_,_,_,_,_,_,_,_,_,_,_,_,_,_,_,_,_,_,_,_,_,_,_,_,_,_,_,_,_,_,_,_,_,_,_,_,_,_⟩:=⟨W.mg_of X G a_ZP,
  u_ZP.k,
  u_ZP.F,
  u_ZP.b,
  W.mg_of X G a_ZK,
  u_ZK.k,
  u_ZK.F,
  u_ZK.b,
  W.mg_of X G a_ZM,
  u_ZM.k,
  u_ZM.F,
  u_ZM.b,
  W.mg_of X G a_Zs,
  u_Zs.k,
  u_Zs.F,
  u_Zs.b,
  W.mg_of X G a_ZN,
  u_ZN.k,
  u_ZN.F,
  u_ZN.b,
  W.mg_of X G a_Zt,
  u_Zt.k,
  u_Zt.F,
  u_Zt.b,
  W.mg_of X G a_Zw,
  u_Zw.k,
  u_Zw.F,
  u_Zw.b,
  W.mg_of X G a_Zj,
  u_Zj.k,
  u_Zj.F,
  u_Zj.b,
  W.mg_of X G a_Zk,
  u_Zk.k,
  u_Zk.F,
  u_Zk.b,
  W.mg_of X G a_Zx,
  u_Zx.k,
  u_Zx.F,
  u_Zx.b,
  W.mg_of X G a_Zh,
  u_Zh.k,
  u_Zh.F,
  u_Zh.b,
  W.mg_of X G a_Zy,
  u_Zy.k,
  u_Zy.F,
  u_Zy.b,
  W.mg_of X G a_Zu,
  u_Zu.k,
  u_Zu.F,
  u_Zu.b,
  W.mg_of X G a_ZF,
  u_ZF.k,
  u_ZF.F,
  u_ZF.b,
  W.mg_of X G a_ZL,
  u_ZL.k,
  u_ZL.F,
  u_ZL.b,
  W.mg_of X G a_ZG,
  u_ZG.k,
  u_ZG.F,
  u_ZG.b,
  W.mg_of X G a_ZQ,
  u_ZQ.k,
  u_ZQ.F,
  u_ZQ.b,
  W.mg_of X G a_ZA,
  u_ZA.k,
  u_ZA.F,
  u_ZA.b,
  W.mg_of X G a_ZO,
  u_ZO.k,
  u_ZO.F,
  u_ZO.b,
  W.mg_of X G a_Zn,
  u_Zn.k,
  u_Zn.F,
  u_Zn.b,
  W.mg_of X G a_Zq,
  u_Zq.k,
  u_Zq.F,
  u_Zq.b,
  W.mg_of X G a_Zr,
  u_Zr.k,
  u_Zr.F,
  u_Zr.b,
  W.mg_of X G a_ZB,
  u_ZB.k,
  u_ZB.F,
  u_ZB.b,
  W.mg_of X G a_ZC,
  u_ZC.k,
  u_ZC.F,
  u_ZC.b,
  W.mg_of X G a_Zv,
  u_Zv.k,
  u_Zv.F,
  u_Zv.b,
  W.mg_of X G a_ZH,
  u_ZH.k,
  u_ZH.F,
  u_ZH.b,
  W.mg_of X G a_ZD,
  u_ZD.k,
  u_ZD.F,
  u_ZD.b,
  W.mg_of X G a_ZI,
  u_ZI.k,
  u_ZI.F,
  u_ZI.b,
  W.mg_of X G a_ZJ,
  u_ZJ.k,
  u_ZJ.F,
  u_ZJ.b,
  W.mg_of X G a_ZE,
  u_ZE.k,
  u_ZE.F,
  u_ZE.b,
  ⟨mk_KindLook,a_Zl,i_Zl,kc_KindLook⟩,
  u_Zl.k,
  u_Zl.F,
  u_Zl.b,
  ⟨a_Zm,i_Zm,u_Zm.k⟩,
  u_Zm.k,
  u_Zm.F,
  u_Zm.b,
  ⟨a_Zb,i_Zb,u_Zb.k⟩,
  u_Zb.k,
  u_Zb.F,
  u_Zb.b,
  ⟨a_Zd,i_Zd,u_Zd.k⟩,
  u_Zd.k,
  u_Zd.F,
  u_Zd.b,
  ⟨a_Ze,i_Ze,u_Ze.k⟩,
  u_Ze.k,
  u_Ze.F,
  u_Ze.b,
  ⟨a_Zf,i_Zf,u_Zf.k⟩,
  u_Zf.k,
  u_Zf.F,
  u_Zf.b,
  ⟨a_Zp,i_Zp,u_Zp.k⟩,
  u_Zp.k,
  u_Zp.F,
  u_Zp.b,
  ⟨a_Zg,i_Zg,u_Zg.k⟩,
  u_Zg.k,
  u_Zg.F,
  u_Zg.b,
  ⟨a_Zc,i_Zc,u_Zc.k⟩,
  u_Zc.k,
  u_Zc.F,
  u_Zc.b,
  ⟨a_Za,i_Za,u_Za.k⟩,
  u_Za.k,
  u_Za.F,
  u_Za.b,
  W.mg_of X G aC_KindLook,
  ⟨pg_KindLook,hd_KindLook,po_KindLook,sa_KindLook⟩,
  na_KindLook_faults,
  na_KindLook_firsts,
  fun H a dx fs e=>.ins e ⟨pg_KindLook,hd_KindLook,po_KindLook,sa_KindLook⟩ t1_KindLook t2_KindLook t3_KindLook t4_KindLook,
  xG _ _,
  W.mg_of X G a_MAKES,
  D_MAKES,
  W.mg_of X G a_ASKS,
  D_ASKS,
  W.mg_of X G a_PLAIN_KINDS,
  fun H=>.inr ⟨_,_,_,l_PLAIN_KINDS,rfl,rfl,(by show 2<=sizeLine;decide),.cons ⟨_,rfl⟩ (.cons ⟨_,rfl⟩ (.nil))⟩,
  W.mg_none_of X G z_len,
  W.mg_none_of X G z_range,
  W.mg_none_of X G z_list,
  W.mg_none_of X G z_dict,
  W.mg_none_of X G z_tuple,
  W.mg_none_of X G z_sorted,
  W.mg_none_of X G z_enumerate,
  W.mg_none_of X G z_isinstance,
  W.mg_none_of X G z_zip,
  W.mg_none_of X G z_set⟩
 obtain ⟨_,_,_,_,_,_,_,_,_,e,_⟩:=u_law.F.ex
 exact ⟨_,fun s v=>by rw [e];exact .of_eq rfl,fun base _ _=>C1 T u_law.F⟩
theorem C3 {l:W.OpenLaw} {q:Program} {loose:List Str} {XP:(Str->Option Value)->Heap->Prop} {YP:World->Heap->Prop} {d:DefRec} {K:Params->W.Frag} (hn:l.most=some 63) (hdf:d.params.defaults=[])
  (hY:∀ (w:World) (h:Heap),YP w h->(K w.params).In h)
  (F:∀ (w:World) (mg:Str->Option Value) (fa:Addr) (h:Heap),(K w.params).In h->h.Ns mainGlobals mg->mg d.name=some (.ref fa) ->
   ∃ fd:FuncData,(∀ (s:Shared) (u:Value),BindsTo s fd ⟨[u],[]⟩ [("_law_script",u)])/\∀ base:Heap,(K w.params).In base->base.Ns mainGlobals mg->aE l.prog w (K w.params) mg base aI 45 fa fd ["_law_script"] (lG (K w.params))) :
  W.WalkO q loose XP YP l.row.toRowW d [] (fun f vs=>PySem.call f vs) :=
 L2.xy (n:=63) (k:=45) (x:="_law_script") (CX:=fun _=>aI) (sp:=fun w=>lG (K w.params)) hn (by decide) hdf ⟨rfl,by decide,by decide⟩ hY F (fun _ _ a ns hl _ hS=>⟨a,ns,rfl,hS,hl,fun _=>rfl⟩) fun _ _ _ _ _ z=>z
end K44
open PySem PySem.W PyProof.Rows
set_option maxRecDepth 100000 in
set_option maxHeartbeats 0 in
theorem PySem.Challenge.cw_manymakes_k44_records_of_fields_holds : PySem.Challenge.rw_manymakes_k44_records_of_fields.Holds := by
 rw [<- K44.rwe]
 w_on;o_law
 refine PySem.W.holds_open (r:=OpenLaw.row K44.rw) (q:=K44.vw) (loose:=["MAKES","ASKS"]) (Xt:=K44.xt) (XP:=XL K44.vw [])
  (Yf:=(kHook K44.pre.heap_1 K44.as K44.ase).obs) (Ya:=(kHook K44.pre.heap_1 K44.as K44.ase).val) (YP:=(kHook K44.pre.heap_1 K44.as K44.ase).says)
  (N:=3678) (show LeftO K44.pw _ _ _ _ _ _ from K44.pwe ▸ K44.left)
  ((kHook K44.pre.heap_1 K44.as K44.ase).of) ((kHook K44.pre.heap_1 K44.as K44.ase).keeps) (fun s e=>xl_of s (Mm.both_true e).1)
  (XL.keeps) (by rfl) (by rfl) (by rfl) (fun s e=>recFacts_of (Mm.both_true e).2)
  (by rfl) (by assumption) (by decide +kernel)
  ⟨rfl,rfl,rfl,rfl,rfl,by decide +kernel⟩ ?hw ?hc
 (case hw=>exact ⟨[.list []],by decide +kernel,by decide +kernel⟩)
 k_fill
 refine K44.C3 (l:=K44.rw) rfl rfl (fun w h Y=>PySem.W.kIn_of Y) ?F
 case F =>
  intro w mg fa h KX G hmg
  apply K44.C2 KX G hmg
  all_goals first | (apply K44.fg;k_is;apply K44.fb;k_is;k_is;k_is;intro us hl;(rcases us with _ | ⟨_,_ | ⟨_,_ | ⟨_,_ | ⟨_,_ | ⟨_,_ | ⟨_,_ | _⟩⟩⟩⟩⟩⟩)<;>first | (simp at hl;done) | rfl) | (apply K44.mg;k_is;k_is;apply K44.fb;k_is;k_is;k_is;intro us hl;(rcases us with _ | ⟨_,_ | ⟨_,_ | ⟨_,_ | ⟨_,_ | ⟨_,_ | ⟨_,_ | _⟩⟩⟩⟩⟩⟩)<;>first | (simp at hl;done) | rfl) | (apply K44.dg;k_is;k_is;all_goals first | rfl | decide +kernel) | k_is
