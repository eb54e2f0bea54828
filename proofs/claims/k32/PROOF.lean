import PyProof.Rows.All
import Wide.All
import OpenK.AllK
import Wide.FinOn
import Lean
import PyProof.EqAt
import PyProof.EqKinds
import PyProof.TupleCall
import PyProof.Rows.BitMore
import KE.IntBitsLaws
import KE.KRevIter
import KE.KTryMore
import PyProof.StrLawsRepr
import KE.KIsAll
import KE.RegKIsAll
import KE.RegKTryMore
import PyProof.StrCalls2
import PyProof.StrLawsTight
import PyProof.StrLawsChain
import PyProof.Rows.StrItems
import PyProof.Rows.StrWeight2
import PyProof.EnumMake
import PyProof.EnumStmt
import PyProof.Rows.EnumRows
import PyProof.Rows.ZipGen
import PyProof.Rows.FactsT2
import PyProof.IsiH_list
import PyProof.AttrMiss
import KE.KDictOf
import PyProof.IsiH_tuple
import PyProof.Rows.EqDataRows
import PyProof.P3Eq
import PyProof.Rows.SortRev
import KE.KSortTup
import PyProof.StrWalks
import KE.KIntText
import KE.IntTextLaws
import PyProof.CallStr
import KE.KDictSum
import PySem.SetTable
import PyProof.Rows.SetFrom
import PySem.Challenge.RW_manymakes_k32_heads_of_defs_and_kinds
set_option Elab.async false
set_option maxRecDepth 100000
set_option linter.all false
set_option maxHeartbeats 4000000
section
open PySem PySem.Spec PyProof.Rows PySem.W
theorem Qa:type_of% @wpAny_bind:=@wpAny_bind
theorem Qb:type_of% @List.getElem?_eq_getElem:=@List.getElem?_eq_getElem
theorem Qc:type_of% @wpAny_pure:=@wpAny_pure
theorem Qd:type_of% @Heap.get?_push_of_some:=@Heap.get?_push_of_some
theorem Qe {α:Type _} {l:List α} {i:Nat} {a:α} (h:l[i]?=some a):∃ h:i<l.length,l[i]=a:=List.getElem?_eq_some_iff.mp h
theorem Qf:type_of% @List.getD_eq_getElem?_getD:=@List.getD_eq_getElem?_getD
theorem Qg:type_of% @List.length_map:=@List.length_map
theorem Qh:type_of% @Nat.le_refl:=@Nat.le_refl
theorem Qi:type_of% @decide_eq_false:=@decide_eq_false
theorem Qj:type_of% @Option.some.inj:=@Option.some.inj
theorem Qk:type_of% @List.getElem?_map:=@List.getElem?_map
theorem Ql {α:Type _} {l:List α} {a b:α} (h:a∈b::l):a=b∨a∈l:=List.mem_cons.mp h
theorem Qm:type_of% @Heap.get?_push_size:=@Heap.get?_push_size
theorem Qn:type_of% @List.mem_cons_of_mem:=@List.mem_cons_of_mem
theorem Qo:type_of% @Heap.lt_size:=@Heap.lt_size
theorem Qp:type_of% @List.take_succ_eq_append_getElem:=@List.take_succ_eq_append_getElem
theorem Qq:type_of% @List.size_toArray:=@List.size_toArray
theorem Qr:type_of% @List.length_take:=@List.length_take
theorem Qs:type_of% @Nat.zero_le:=@Nat.zero_le
theorem Qt:type_of% @List.mem_of_getElem?:=@List.mem_of_getElem?
theorem Qu:type_of% @List.take_of_length_le:=@List.take_of_length_le
theorem Qv:type_of% @decide_eq_true:=@decide_eq_true
theorem Qw:type_of% @List.length_append:=@List.length_append
theorem Qx:type_of% @Array.length_toList:=@Array.length_toList
theorem Qy:type_of% @List.getElem?_append_right:=@List.getElem?_append_right
theorem Qz:type_of% @Nat.ne_of_lt:=@Nat.ne_of_lt
theorem QA:type_of% @List.getElem?_append_left:=@List.getElem?_append_left
theorem QB:type_of% @List.mem_cons_self:=@List.mem_cons_self
theorem QC {α:Type _} {l r:List α} {a:α} (h:a∈l++r):a∈l∨a∈r:=List.mem_append.mp h
theorem QD:type_of% @Nat.le_trans:=@Nat.le_trans
theorem QE:type_of% @List.getElem_mem:=@List.getElem_mem
theorem QF {α β:Type _} {f:α->β} {l:List α} {b:β} (h:b∈l.map f):∃ a,a∈l∧f a=b:=List.mem_map.mp h
theorem QG:type_of% @List.map_append:=@List.map_append
theorem QH:type_of% @Nat.lt_of_le_of_lt:=@Nat.lt_of_le_of_lt
theorem QI:type_of% @List.append_assoc:=@List.append_assoc
theorem QJ:type_of% @wpAny_mono:=@wpAny_mono
theorem QK:type_of% @Heap.get?_update_ne:=@Heap.get?_update_ne
end
section
open PySem PySem.W
noncomputable def Mm.hdTr {α:Type} (_:α):Prop:=True
noncomputable def Mm.hdPk {α:Type} (s:α) (_:Mm.hdTr s):α:=s
theorem Mm.hdOf {α:Type} {a s:α} (_:a=s):Mm.hdTr s:=trivial
abbrev K32.g (i:Nat):Stmt:=PySem.Challenge.pw_manymakes_k32_heads_of_defs_and_kinds.main.body.getD i (Stmt.Pass ⟨0,0,0,0⟩)
noncomputable def K32.t0:Stmt:=Mm.hdPk (Stmt.Assign _ _ _) (Mm.hdOf (a:=K32.g 0) rfl)
noncomputable def K32.t1:Stmt:=Mm.hdPk (Stmt.FunctionDef _ _ _ _ _ _ _ _ _ _) (Mm.hdOf (a:=K32.g 1) rfl)
noncomputable def K32.t2:Stmt:=Mm.hdPk (Stmt.FunctionDef _ _ _ _ _ _ _ _ _ _) (Mm.hdOf (a:=K32.g 2) rfl)
noncomputable def K32.t3:Stmt:=Mm.hdPk (Stmt.FunctionDef _ _ _ _ _ _ _ _ _ _) (Mm.hdOf (a:=K32.g 3) rfl)
noncomputable def K32.t4:Stmt:=Mm.hdPk (Stmt.FunctionDef _ _ _ _ _ _ _ _ _ _) (Mm.hdOf (a:=K32.g 4) rfl)
noncomputable def K32.t5:Stmt:=Mm.hdPk (Stmt.FunctionDef _ _ _ _ _ _ _ _ _ _) (Mm.hdOf (a:=K32.g 5) rfl)
noncomputable def K32.t6:Stmt:=Mm.hdPk (Stmt.FunctionDef _ _ _ _ _ _ _ _ _ _) (Mm.hdOf (a:=K32.g 6) rfl)
noncomputable def K32.t7:Stmt:=Mm.hdPk (Stmt.Assign _ _ _) (Mm.hdOf (a:=K32.g 7) rfl)
noncomputable def K32.t8:Stmt:=Mm.hdPk (Stmt.FunctionDef _ _ _ _ _ _ _ _ _ _) (Mm.hdOf (a:=K32.g 8) rfl)
noncomputable def K32.t9:Stmt:=Mm.hdPk (Stmt.FunctionDef _ _ _ _ _ _ _ _ _ _) (Mm.hdOf (a:=K32.g 9) rfl)
noncomputable def K32.t10:Stmt:=Mm.hdPk (Stmt.FunctionDef _ _ _ _ _ _ _ _ _ _) (Mm.hdOf (a:=K32.g 10) rfl)
noncomputable def K32.t11:Stmt:=Mm.hdPk (Stmt.FunctionDef _ _ _ _ _ _ _ _ _ _) (Mm.hdOf (a:=K32.g 11) rfl)
noncomputable def K32.t12:Stmt:=Mm.hdPk (Stmt.FunctionDef _ _ _ _ _ _ _ _ _ _) (Mm.hdOf (a:=K32.g 12) rfl)
noncomputable def K32.t13:Stmt:=Mm.hdPk (Stmt.FunctionDef _ _ _ _ _ _ _ _ _ _) (Mm.hdOf (a:=K32.g 13) rfl)
noncomputable def K32.t14:Stmt:=Mm.hdPk (Stmt.Assign _ _ _) (Mm.hdOf (a:=K32.g 14) rfl)
noncomputable def K32.t15:Stmt:=Mm.hdPk (Stmt.Assign _ _ _) (Mm.hdOf (a:=K32.g 15) rfl)
noncomputable def K32.t16:Stmt:=Mm.hdPk (Stmt.ClassDef _ _ _ _ _ _ _ _ _ _ _) (Mm.hdOf (a:=K32.g 16) rfl)
noncomputable def K32.t17:Stmt:=Mm.hdPk (Stmt.FunctionDef _ _ _ _ _ _ _ _ _ _) (Mm.hdOf (a:=K32.g 17) rfl)
noncomputable def K32.t18:Stmt:=Mm.hdPk (Stmt.FunctionDef _ _ _ _ _ _ _ _ _ _) (Mm.hdOf (a:=K32.g 18) rfl)
noncomputable def K32.t19:Stmt:=Mm.hdPk (Stmt.FunctionDef _ _ _ _ _ _ _ _ _ _) (Mm.hdOf (a:=K32.g 19) rfl)
noncomputable def K32.t20:Stmt:=Mm.hdPk (Stmt.FunctionDef _ _ _ _ _ _ _ _ _ _) (Mm.hdOf (a:=K32.g 20) rfl)
noncomputable def K32.t21:Stmt:=Mm.hdPk (Stmt.FunctionDef _ _ _ _ _ _ _ _ _ _) (Mm.hdOf (a:=K32.g 21) rfl)
noncomputable def K32.t22:Stmt:=Mm.hdPk (Stmt.FunctionDef _ _ _ _ _ _ _ _ _ _) (Mm.hdOf (a:=K32.g 22) rfl)
noncomputable def K32.t23:Stmt:=Mm.hdPk (Stmt.Assign _ _ _) (Mm.hdOf (a:=K32.g 23) rfl)
noncomputable def K32.t24:Stmt:=Mm.hdPk (Stmt.FunctionDef _ _ _ _ _ _ _ _ _ _) (Mm.hdOf (a:=K32.g 24) rfl)
noncomputable def K32.t25:Stmt:=Mm.hdPk (Stmt.FunctionDef _ _ _ _ _ _ _ _ _ _) (Mm.hdOf (a:=K32.g 25) rfl)
noncomputable def K32.t26:Stmt:=Mm.hdPk (Stmt.FunctionDef _ _ _ _ _ _ _ _ _ _) (Mm.hdOf (a:=K32.g 26) rfl)
noncomputable def K32.t27:Stmt:=Mm.hdPk (Stmt.FunctionDef _ _ _ _ _ _ _ _ _ _) (Mm.hdOf (a:=K32.g 27) rfl)
noncomputable def K32.t28:Stmt:=Mm.hdPk (Stmt.FunctionDef _ _ _ _ _ _ _ _ _ _) (Mm.hdOf (a:=K32.g 28) rfl)
noncomputable def K32.t29:Stmt:=Mm.hdPk (Stmt.FunctionDef _ _ _ _ _ _ _ _ _ _) (Mm.hdOf (a:=K32.g 29) rfl)
noncomputable def K32.t30:Stmt:=Mm.hdPk (Stmt.FunctionDef _ _ _ _ _ _ _ _ _ _) (Mm.hdOf (a:=K32.g 30) rfl)
noncomputable def K32.t31:Stmt:=Mm.hdPk (Stmt.FunctionDef _ _ _ _ _ _ _ _ _ _) (Mm.hdOf (a:=K32.g 31) rfl)
noncomputable def K32.t32:Stmt:=Mm.hdPk (Stmt.FunctionDef _ _ _ _ _ _ _ _ _ _) (Mm.hdOf (a:=K32.g 32) rfl)
noncomputable def K32.t33:Stmt:=Mm.hdPk (Stmt.FunctionDef _ _ _ _ _ _ _ _ _ _) (Mm.hdOf (a:=K32.g 33) rfl)
noncomputable def K32.t34:Stmt:=Mm.hdPk (Stmt.FunctionDef _ _ _ _ _ _ _ _ _ _) (Mm.hdOf (a:=K32.g 34) rfl)
noncomputable def K32.t35:Stmt:=Mm.hdPk (Stmt.FunctionDef _ _ _ _ _ _ _ _ _ _) (Mm.hdOf (a:=K32.g 35) rfl)
noncomputable def K32.sc:Scope:=Mm.hdPk (Scope.mk _ _ _ _ _) (Mm.hdOf (a:=PySem.Challenge.pw_manymakes_k32_heads_of_defs_and_kinds.main.scope) rfl)
noncomputable def K32.pw:Program:=Mm.hdPk (Program.mk (Module.mk (K32.t0::K32.t1::K32.t2::K32.t3::K32.t4::K32.t5::K32.t6::K32.t7::K32.t8::K32.t9::K32.t10::K32.t11::K32.t12::K32.t13::K32.t14::K32.t15::K32.t16::K32.t17::K32.t18::K32.t19::K32.t20::K32.t21::K32.t22::K32.t23::K32.t24::K32.t25::K32.t26::K32.t27::K32.t28::K32.t29::K32.t30::K32.t31::K32.t32::K32.t33::K32.t34::K32.t35::List.nil) K32.sc _ _ _) _ _ _ _ _) (Mm.hdOf (a:=PySem.Challenge.pw_manymakes_k32_heads_of_defs_and_kinds) rfl)
noncomputable def K32.rw:OpenLaw:=Mm.hdPk { prog:=K32.pw,name:=_,about:=_,foot:=_,most:=_,bound:=_,writes:=_ } (Mm.hdOf (a:=PySem.Challenge.rw_manymakes_k32_heads_of_defs_and_kinds) rfl)
theorem K32.rwe:K32.rw=PySem.Challenge.rw_manymakes_k32_heads_of_defs_and_kinds:=rfl
end
section
open PySem PySem.W PyProof.Rows
theorem K32.pwe:PySem.Challenge.pw_manymakes_k32_heads_of_defs_and_kinds=K32.pw:=rfl
noncomputable def K32.vw:Program:={ K32.pw with main:={ K32.pw.main with body:=K32.t1::K32.t2::K32.t3::K32.t4::K32.t5::K32.t6::K32.t8::K32.t9::K32.t10::K32.t11::K32.t12::K32.t13::K32.t14::K32.t16::K32.t17::K32.t18::K32.t19::K32.t20::K32.t21::K32.t22::K32.t24::K32.t25::K32.t26::K32.t27::K32.t28::K32.t29::K32.t30::K32.t31::K32.t32::K32.t33::K32.t34::K32.t35::List.nil } }
theorem Mm.keepIt (_:Hook) {p:Prop} (h:p):p:=h
section
local macro_rules | `(tactic| o_head $H)=>`(tactic| exact Mm.keepIt $H (by assumption))
set_option maxHeartbeats 0 in
theorem K32.pre (h:(OpenLaw.row PySem.Challenge.rw_manymakes_k32_heads_of_defs_and_kinds).Holds):(OpenLaw.row PySem.Challenge.rw_manymakes_k32_heads_of_defs_and_kinds).Holds:=by k_head
end
def K32.as:List Addr:=[2,3,15,17,18,20,21,22,24,25,27,28,29,31,32,34,35,36,39,40,41,43,44,46,47,48,51,52,53,56,57,58,61,62,63,65,66,68,69,70,73,74,75,78,79,80,83,84,85,93,95,96,98,99,100,102,103,105,106,107,109,110,112,113,114,116,117,119,120,121,124,125,126,128,129,131,132,133,135,136,138,139,140,142,143,145,146,147,148,149,150,151,154,156,157,159,160,161,163,164,166,167,168,170,171,173,174,175,177,178,180,181,182,184,185,187,188,189,192,193,194,196,197,199,200,201,203,204,206,207,208,210,211,213,214,215,218,219,220,222,223,225,226,227,230,231,232,235,236,237,239,240,242,243,244,246,247,249,250,251,253,254,256,257,258,261,262,263,266,267]
theorem K32.ase (P:Params):K32.as=(K32.pre.heap_1 P).map (·.1):=by kernel_rfl
theorem Mm.both_true {a b:Bool} (h:(a&&b)=true):a=true/\b=true:=by cases a<;>cases b<;>simp_all
noncomputable abbrev K32.xt:Shared->Bool:=fun s=>(xlAt K32.vw [] s)&&(recOk (RowW.records (OpenRow.toRowW (OpenLaw.row K32.rw))) s)
noncomputable def K32.oe (w:World):Option Shared :=
 (importEnds treeTable (opening K32.pw) w 2874 (start (opening K32.pw)).1 (start (opening K32.pw)).2).bind fun s=>(fenceModules? K32.pw s).bind fun s₀ =>
 match s₀.heap.isNs mainGlobals&&s₀.gens.size == 0 with
 | true=>(topRun treeTable K32.pw w s₀.heap.objs.size (s₀.heap.nsMap mainGlobals "__annotations__") 2874 s₀ (topStub K32.pw)).bind fun s₁=>match staticsOk (importedModules K32.pw.main.body) s₀.heap s₁.heap&&namesBound K32.pw s₁.heap&&gensDone s₁&&laidKept s₀.heap s₁.heap with
   | true=>some s₁
   | false=>none
 | false=>none
theorem Mm.bindAss {α β γ:Type} (o:Option α) (f:α->Option β) (g:β->Option γ):(o.bind f).bind g=o.bind fun s=>(f s).bind g:=by cases o<;>rfl
theorem K32.oe_eq (w:World):openEnds treeTable PySem.Challenge.pw_manymakes_k32_heads_of_defs_and_kinds w 2874=K32.oe w:=by
 rw [K32.pwe]
 show ((importEnds _ _ _ _ _ _).bind _).bind _=_
 rw [Mm.bindAss]
 rfl
noncomputable def K32.ga (w:World):=Option.map (openSeen K32.vw [] (importedModules K32.pw.main.body) K32.xt true) (K32.oe w)
noncomputable def K32.gb:=some (openGood K32.vw [])
noncomputable def K32.oa (w:World):Option (List (Option Obj)):=Option.map (fun s=>K32.as.map s.heap.get?) (K32.oe w)
def Mm.hdTt {α:Type} (_:α):Bool:=true
theorem K32.lay1:Mm.hdTt K32.ga=true:=by k_qdec
theorem K32.lay2:Mm.hdTt K32.gb=true:=by k_qdec
theorem K32.lay3:Mm.hdTt K32.oa=true:=by k_qdec
theorem K32.la (w:World):PySem.W.Fast.tw15370662121901099290 w=PySem.W.Fast.tw2352251713473215564:=by kernel_rfl
theorem K32.lb (w:World):PySem.W.Fast.tw11487305472275103649 w=some ((K32.pre.heap_1 w.params).map fun p=>some p.2):=by kernel_rfl
theorem Mm.twoM {α β γ:Type} {o:Option α} {f:α->β} {g:α->γ} {b:β} {c:γ} (h1:o.map f=some b) (h2:o.map g=some c):o.map (fun s=>(f s,g s))=some (b,c):=by
 cases o with
 | none=>cases h1
 | some s =>
  have h1:=Qj h1
  have h2:=Qj h2
  show some (f s,g s)=_
  rw [h1,h2]
theorem K32.left:LeftO PySem.Challenge.pw_manymakes_k32_heads_of_defs_and_kinds K32.vw [] K32.xt (kHook K32.pre.heap_1 K32.as K32.ase).obs (kHook K32.pre.heap_1 K32.as K32.ase).val 2874:=fun w=>by
 rw [K32.oe_eq]
 exact Mm.twoM ((congrFun PySem.W.Fast.te15370662121901099290 w).trans ((K32.la w).trans PySem.W.Fast.te2352251713473215564.symm)) ((congrFun PySem.W.Fast.te11487305472275103649 w).trans (K32.lb w))
end
namespace L2
open PySem PySem.Spec PyProof.Rows
noncomputable abbrev aa:=Sum Int Str
noncomputable def fP:aa->Value->Bool
 | .inl k,v=>Value.isInt k v
 | .inr x,v=>Value.isStrOf x v
noncomputable def sI (w:World):aa->Int
 | .inl k=>hashInt k
 | .inr x=>hashStr w x
theorem dS:∀ {k:aa} {v:Value},fP k v=true->(∃ i t,k=Sum.inl i/\v=Value.int i t)∨(∃ x t,k=Sum.inr x/\v=Value.str x t)
 | .inl i,v,h=>by
  obtain ⟨t,e⟩:=Value.isInt_shape (k:=i) (v:=v) h
  exact .inl ⟨i,t,rfl,e⟩
 | .inr x,v,h=>by
  obtain ⟨t,e⟩:=Value.isStrOf_shape (x:=x) (v:=v) h
  exact .inr ⟨x,t,rfl,e⟩
theorem sJ (i:Int) (t:Tok):fP (.inl i) (.int i t)=true:=by simp [fP,Value.isInt]
theorem sK (x:Str) (t:Tok):fP (.inr x) (.str x t)=true:=by simp [fP,Value.isStrOf]
theorem sL (a b:Int):decide ((Sum.inl a:aa)=Sum.inl b)=(a == b):=by
 by_cases e:a=b
 ·subst e;simp
 ·have h:¬ (Sum.inl a:aa)=Sum.inl b:=fun q=>e (Sum.inl.inj q)
  rw [Qi h]
  exact (beq_eq_false_iff_ne.mpr e).symm
theorem sM (a b:Str):decide ((Sum.inr a:aa)=Sum.inr b)=decide (a=b):=by
 by_cases e:a=b
 ·subst e;simp
 ·have h:¬ (Sum.inr a:aa)=Sum.inr b:=fun q=>e (Sum.inr.inj q)
  rw [Qi h,Qi e]
theorem sN (a:Int) (b:Str):decide ((Sum.inl a:aa)=Sum.inr b)=false:=Qi (fun q=>nomatch q)
theorem sO (a:Str) (b:Int):decide ((Sum.inr a:aa)=Sum.inl b)=false:=Qi (fun q=>nomatch q)
noncomputable def bo (prog:Program) (w:World):PySem.KeyKind prog w aa where
 is:=fP
 hash:=sI w
 inj:=fun v a b ha hb=>by
  rcases dS ha with ⟨i,t,rfl,rfl⟩ | ⟨x,t,rfl,rfl⟩
  ·rcases dS hb with ⟨j,u,rfl,e⟩ | ⟨y,u,rfl,e⟩
   ·injection e with e1 _;rw [e1]
   ·exact nomatch e
  ·rcases dS hb with ⟨j,u,rfl,e⟩ | ⟨y,u,rfl,e⟩
   ·exact nomatch e
   ·injection e with e1 _;rw [e1]
 byValue:=fun k v h=>by
  rcases dS h with ⟨i,t,rfl,rfl⟩ | ⟨x,t,rfl,rfl⟩<;>rfl
 pyHash:=fun hv h=>by
  rcases dS hv with ⟨i,t,rfl,rfl⟩ | ⟨x,t,rfl,rfl⟩
  ·exact wpAny_pyHash_int h
  ·exact wpAny_pyHash_str h
 eqBool:=fun hu hv h=>by
  rcases dS hu with ⟨i,t,rfl,rfl⟩ | ⟨x,t,rfl,rfl⟩
  ·rcases dS hv with ⟨j,u,rfl,rfl⟩ | ⟨y,u,rfl,rfl⟩
   ·rw [sL] at h;exact wpAny_eqBool_int h
   ·rw [sN] at h;exact SeqAt.EqAt.int_str i t y u _ _ _ _ h
  ·rcases dS hv with ⟨j,u,rfl,rfl⟩ | ⟨y,u,rfl,rfl⟩
   ·rw [sO] at h;exact SeqAt.EqAt.str_int x t j u _ _ _ _ h
   ·rw [sM] at h;exact wpAny_eqBool_str h
 «strs»:=fun k x t v h=>by
  rcases dS h with ⟨i,u,rfl,e⟩ | ⟨y,u,rfl,e⟩
  ·exact nomatch e
  ·injection e with e1 _
   subst e1
   cases v<;>rfl
theorem mM (prog:Program) (w:World) (i:Int) (t:Tok):(bo prog w).is (.inl i) (.int i t)=true:=sJ i t
theorem mN (prog:Program) (w:World) (x:Str) (t:Tok):(bo prog w).is (.inr x) (.str x t)=true:=sK x t
end L2
namespace L2
open PySem PySem.Spec PyProof.Rows
inductive V where
 | non | bl (b:Bool) | int (i:Int) | str (x:Str) | byt (b:Array UInt8) | flt (b:UInt64) | ref (a:Addr) | ty (n:String)
 deriving DecidableEq
noncomputable def RelV:V->Value->Prop
 | .non,u=>u=Value.none
 | .bl b,u=>u=Value.bool b
 | .int i,u=>∃ t,u=Value.int i t
 | .str x,u=>∃ t,u=Value.str x t
 | .byt b,u=>∃ t,u=Value.bytes b t
 | .flt b,u=>∃ t,u=Value.float b t
 | .ref a,u=>u=Value.ref a
 | .ty n,u=>u=Value.type n
noncomputable abbrev ao:List V->List Value->Prop:=Paired RelV
theorem ao.length {xs:List V} {us:List Value} (r:ao xs us):xs.length=us.length:=Paired.length r
theorem ao.get:∀ {xs:List V} {us:List Value} {i:Nat} {x:V},ao xs us->xs[i]?=some x->∃ u,us[i]?=some u/\RelV x u
 | _,_,_,_,.nil,e=>by simp at e
 | _,_,0,_,.cons r _,e=>by simp at e;subst e;exact ⟨_,rfl,r⟩
 | _,_,i+1,x,.cons _ t,e=>by
  obtain ⟨u,h1,h2⟩:=ao.get (i:=i) (x:=x) t (by simpa using e)
  exact ⟨u,by simpa using h1,h2⟩
theorem ao.set {x:V} {u:Value} (r:RelV x u):∀ {xs:List V} {us:List Value} (i:Nat),ao xs us->ao (xs.set i x) (us.set i u)
 | _,_,_,.nil=>.nil
 | _,_,0,.cons _ t=>.cons r t
 | _,_,i+1,.cons q t=>.cons q (ao.set r i t)
theorem ao.append:∀ {xs ys:List V} {us ws:List Value},ao xs us->ao ys ws->ao (xs++ys) (us++ws)
 | _,_,_,_,.nil,s=>s
 | _,_,_,_,.cons r t,s=>.cons r (ao.append t s)
theorem ao.take:∀ {xs:List V} {us:List Value} (n:Nat),ao xs us->ao (xs.take n) (us.take n)
 | _,_,0,_=>.nil
 | _,_,_+1,.nil=>.nil
 | _,_,n+1,.cons r t=>.cons r (ao.take n t)
theorem ao.drop:∀ {xs:List V} {us:List Value} (n:Nat),ao xs us->ao (xs.drop n) (us.drop n)
 | _,_,0,r=>r
 | _,_,_+1,.nil=>.nil
 | _,_,n+1,.cons _ t=>ao.drop n t
noncomputable def cc:Option V->Option Value->Prop
 | some v,some u=>RelV v u
 | none,none=>True
 | _,_=>False
noncomputable def KV {κ:Type}:List (κ × V)->List (κ × Value)->Prop:=Paired fun (p:κ × V) (q:κ × Value)=>p.1=q.1/\RelV p.2 q.2
noncomputable def kV:aa->V
 | .inl i=>.int i
 | .inr x=>.str x
inductive HO where
 | lst (xs:List V)
 | tup (xs:List V)
 | dK (kvs:List (aa × V)) | dT (kvs:List (List aa × V))
 | set (S:Int->Bool) (n:Nat)
 | ins (C dx:Addr) (fs:List (Str × V))
 | own (x:Addr)
 | xd (fs:List (Str × V))
 | met (f x:Addr)
 | rng (lo hi:Int)
 | frz (o:Obj) (u:HO)
 | tbl (ps:Array Value)
 | ext (φ:Heap->Prop)
noncomputable abbrev Hp:=Addr->Option HO
noncomputable def af (H:Hp) (a:Addr) (o:HO):Hp:=fun b=>if b=a then some o else H b
theorem aj {H:Hp} {a:Addr} {o:HO}:af H a o a=some o:=by unfold af;rw [if_pos rfl]
theorem av {H:Hp} {a b:Addr} {o:HO} (h:b≠a):af H a o b=H b:=by unfold af;rw [if_neg h]
theorem sP {H:Hp} {a b:Addr} {o u:HO} (h:H a=some o) (h':H b=some u) (d:o≠u):a≠b:=by
 intro e;subst e;rw [h] at h';exact d (Qj h')
theorem cS {H:Hp} {a b:Addr} {o:HO} (h:H a=some o) (h':H b=none):a≠b:=by
 intro e;subst e;rw [h] at h';cases h'
noncomputable def gD (h:Heap) (a:Addr):Prop:=∃ o:Obj,h.get? a=some o/\o.dict=none
theorem gD.new (h:Heap) (items:Array Value):gD (h.push { cls:=.type "tuple",data:=.seq items }) h.objs.size:=⟨_,Qm _ rfl,rfl⟩
section
variable (P:Program) (w:World)
noncomputable def bp (H:Hp) (h:Heap) (a:Addr):HO->Prop
 | .lst xs=>xs.length<=sizeLine/\∃ (its:List Value) (n:Nat),ao xs its/\h.get? a=some { cls:=.type "list",data:=.seq its.toArray n }
 | .tup xs=>xs.length<=sizeLine/\∃ its:List Value,ao xs its/\IsTup h a its.toArray/\gD h a
 | .dK kvs=>kvs.length<=sizeLine/\(a == sysModules)=false/\∃ vs,KV kvs vs/\h.DictOf (bo P w) a vs
 | .dT kvs=>kvs.length<=sizeLine/\(a == sysModules)=false/\∃ xs:List (List aa × Addr × Value),
   Paired (fun (p:List aa × V) (q:List aa × Addr × Value)=>p.1=q.1/\H q.2.1=some (.tup (p.1.map kV))/\RelV p.2 q.2.2) kvs xs /\
   ∃ o es ep,h.get? a=some o/\o.ExactDict/\o.data=.dict es ep/\es.toList=xs.map (entryOfKey (tupleKind (bo P w)))/\(xs.map (·.1)).Nodup
 | .set S n=>h.SetOf (intKind P w) a S n
 | .ins C dx fs=>H dx=some (.own a)/\fs.length<=1000/\dx≠a/\h.get? a=some (PySem.W.instObj C dx) /\
   ∃ mA,h.Ns1 dx mA/\(∀ f,cc (fs.lookup f) (mA f))/\PySem.Within mA (fs.map (·.1))
 | .own _=>∃ o,h.get? a=some o
 | .xd fs=>∃ mA,h.Ns1 a mA/\∀ f,cc (fs.lookup f) (mA f)
 | .rng lo hi=>∃ t u v,h.get? a=some { cls:=.type "range",data:=.fields #[.int lo t,.int hi u,.int 1 v] }
 | .frz o u=>h.get? a=some o/\bp H h a u
 | .tbl ps=>h.get? a=some { cls:=.none,data:=.fields ps }
 | .met f x=>h.get? a=some (PySem.W.methodObj (.ref f) (.ref x))
 | .ext φ=>φ h/\(∃ o,h.get? a=some o)/\∀ h1 h2:Heap,φ h1->(∀ o,h1.get? a=some o->h2.get? a=some o)->φ h2
noncomputable def bh (H:Hp) (h:Heap):Prop:=∀ a o,H a=some o->bp P w H h a o
end
section
variable {P:Program} {w:World} {H H':Hp} {h h':Heap} {a:Addr} {o:HO}
theorem bp.lt (x:bp P w H h a o):a<h.objs.size:=by
 cases o with
 | lst xs=>obtain ⟨_,_,_,_,e⟩:=x;exact Qo e
 | tup xs=>obtain ⟨_,_,_,p,_⟩:=x;exact p.lt
 | dK kvs=>obtain ⟨_,_,_,_,o,_,_,e,_⟩:=x;exact Qo e
 | dT kvs=>obtain ⟨_,_,_,_,o,_,_,e,_⟩:=x;exact Qo e
 | set S n=>obtain ⟨o,_,_,_,e,_⟩:=x;exact Qo e
 | ins C dx fs=>obtain ⟨_,_,_,e,_⟩:=x;exact Qo e
 | own y=>obtain ⟨_,e⟩:=x;exact Qo e
 | xd fs=>obtain ⟨_,⟨_,_,_,e,_⟩,_⟩:=x;exact Qo e
 | rng lo hi=>obtain ⟨_,_,_,e⟩:=x;exact Qo e
 | frz ob u=>obtain ⟨e,_⟩:=x;exact Qo e
 | tbl ps=>exact Qo (show h.get? a=some _ from x)
 | met f y=>exact Qo (show h.get? a=some _ from x)
 | ext φ=>obtain ⟨_,⟨_,e⟩,_⟩:=x;exact Qo e
theorem Paired.mapP {α β:Type} {F G:α->β->Prop}:∀ {l₁:List α} {l₂:List β},Paired F l₁ l₂->(∀ a b,F a b->G a b)->Paired G l₁ l₂
 | _,_,.nil,_=>.nil
 | _,_,.cons r t,f=>.cons (f _ _ r) (Paired.mapP t f)
theorem bp.stay (x:bp P w H h a o) (k:∀ b u,(b=a∨H b=some (.own a))->h.get? b=some u->h'.get? b=some u)
  (ho:∀ b,H b=some (.own a)->H' b=some (.own a)) (ht:∀ b xs,H b=some (.tup xs)->H' b=some (.tup xs)):bp P w H' h' a o:=by
 induction o with
 | lst xs=>obtain ⟨z,its,n,r,e⟩:=x;exact ⟨z,its,n,r,k _ _ (.inl rfl) e⟩
 | tup xs=>obtain ⟨z,its,r,⟨ob,e,c⟩,ob2,e2,c2⟩:=x;exact ⟨z,its,r,⟨ob,k _ _ (.inl rfl) e,c⟩,ob2,k _ _ (.inl rfl) e2,c2⟩
 | dK kvs=>obtain ⟨z,y,vs,r,ob,es,ep,e,c⟩:=x;exact ⟨z,y,vs,r,ob,es,ep,k _ _ (.inl rfl) e,c⟩
 | dT kvs =>
  obtain ⟨z,y,xs,r,ob,es,ep,e,c⟩:=x
  exact ⟨z,y,xs,Paired.mapP r fun p q z=>⟨z.1,ht _ _ z.2.1,z.2.2⟩,ob,es,ep,k _ _ (.inl rfl) e,c⟩
 | set S n=>obtain ⟨ob,es,ep,t,e,c⟩:=x;exact ⟨ob,es,ep,t,k _ _ (.inl rfl) e,c⟩
 | ins C dx fs =>
  obtain ⟨d,z,ne,e,mA,⟨od,es,ep,e2,c⟩,r⟩:=x
  exact ⟨ho _ d,z,ne,k _ _ (.inl rfl) e,mA,⟨od,es,ep,k _ _ (.inr d) e2,c⟩,r⟩
 | own y=>obtain ⟨ob,e⟩:=x;exact ⟨ob,k _ _ (.inl rfl) e⟩
 | xd fs=>obtain ⟨mA,⟨od,es,ep,e,c⟩,r⟩:=x;exact ⟨mA,⟨od,es,ep,k _ _ (.inl rfl) e,c⟩,r⟩
 | rng lo hi=>obtain ⟨t,u,v,e⟩:=x;exact ⟨t,u,v,k _ _ (.inl rfl) e⟩
 | frz ob u ih=>obtain ⟨e,q⟩:=x;exact ⟨k _ _ (.inl rfl) e,ih q⟩
 | tbl ps =>
  have e:h.get? a=some { cls:=.none,data:=.fields ps }:=x
  show h'.get? a=some { cls:=.none,data:=.fields ps }
  exact k a _ (.inl rfl) e
 | met f y =>
  have e:h.get? a=some (PySem.W.methodObj (.ref f) (.ref y)):=x
  show h'.get? a=some (PySem.W.methodObj (.ref f) (.ref y))
  exact k a _ (.inl rfl) e
 | ext φ=>obtain ⟨p,⟨o,e⟩,st⟩:=x;exact ⟨st _ _ p fun o q=>k _ _ (.inl rfl) q,⟨o,k _ _ (.inl rfl) e⟩,st⟩
theorem bh.lt (x:bh P w H h) (e:H a=some o):a<h.objs.size:=(x a o e).lt
theorem bh.fresh (x:bh P w H h) (e:h.objs.size<=a):H a=none:=by
 cases q:H a with
 | none=>rfl
 | some u=>exact absurd (Nat.lt_of_lt_of_le (x.lt q) e) (Nat.lt_irrefl _)
theorem bh.kept (x:bh P w H h) (k:∀ b u,h.get? b=some u->h'.get? b=some u):bh P w H h':=fun a o e =>
 (x a o e).stay (fun b u _ q=>k b u q) (fun _ q=>q) fun _ _ q=>q
theorem bh.laid (x:bh P w H h) (k:∀ b u,h.get? b=some u->h'.get? b=some u) (hp:h.objs.size<=a) (new:bp P w (af H a o) h' a o):bh P w (af H a o) h':=fun b u e=>by
 have hn:=x.fresh hp
 by_cases hb:b=a
 ·subst hb;rw [aj] at e;cases e;exact new
 ·rw [av hb] at e
  exact (x b u e).stay (fun c v _ q=>k c v q) (fun c q=>by rw [av (cS q hn)];exact q) fun c xs q=>by rw [av (cS q hn)];exact q
end
noncomputable def Rd (H:Hp) (a:Addr) (u:HO):Prop:=H a=some u∨∃ o,H a=some (.frz o u)
theorem Rd.ok {P:Program} {w:World} {H:Hp} {h:Heap} {a:Addr} {u:HO} (r:Rd H a u) (x:bh P w H h):bp P w H h a u:=by
 rcases r with r | ⟨o,r⟩
 ·exact x a u r
 ·obtain ⟨_,q⟩:=x a _ r
  exact q
noncomputable def gE:Option HO->Prop
 | some (.lst _)=>True
 | some (.dK _)=>True
 | some (.dT _)=>True
 | some (.set _ _)=>True
 | some (.ins _ _ _)=>True
 | some (.ext _)=>True
 | _=>False
section
variable {P:Program} {w:World} {H:Hp} {h h':Heap} {x e:Addr} {o':HO}
theorem bh.write (ok:bh P w H h) (mu:gE (H x)) (he:e=x∨H e=some (.own x)) (k:∀ b u,b≠e->h.get? b=some u->h'.get? b=some u) (heo:∃ u,h'.get? e=some u)
  (new:bp P w (af H x o') h' x o'):bh P w (af H x o') h':=fun b u q=>by
 have nown:∀ c y,H c=some (.own y)->c≠x:=fun c y r z=>by subst z;rw [r] at mu;exact mu
 have ntup:∀ c xs,H c=some (.tup xs)->c≠x:=fun c xs r z=>by subst z;rw [r] at mu;exact mu
 by_cases hb:b=x
 ·subst hb;rw [aj] at q;cases q;exact new
 ·rw [av hb] at q
  by_cases hbe:b=e
  ·have q':H b=some (.own x):=by
    rcases he with z | z
    ·exact absurd (hbe.trans z) hb
    ·rw [hbe];exact z
   rw [q] at q';cases q'
   obtain ⟨v,hv⟩:=heo
   exact ⟨v,by rw [hbe];exact hv⟩
  ·refine (ok b u q).stay (fun c v hc r=>k c v ?_ r) (fun c r=>by rw [av (nown c b r)];exact r) fun c xs r=>by rw [av (ntup c xs r)];exact r
   rcases hc with rfl | hc
   ·exact hbe
   ·rintro rfl
    rcases he with z | z
    ·exact nown c b hc z
    ·rw [hc] at z;cases z;exact hb rfl
end
structure Un (fs ex:List Addr) (H H':Hp) (h h':Heap):Prop where
 keep:∀ b o,h.get? b=some o->H b=none->b∉fs->b∉ex->h'.get? b=some o
 slot:∀ b o,h.get? b=some o->H b=none->b∈fs->b∉ex->∃ sl,h'.get? b=some { o with slots:=sl }
 free:∀ b o,h.get? b=some o->H b=none->b∉ex->H' b=none
 there:∀ b o,h.get? b=some o->b∉ex->∃ o',h'.get? b=some o'
 tups:∀ b xs,H b=some (.tup xs)->H' b=some (.tup xs)
 frzs:∀ b o u,H b=some (.frz o u)->H' b=some (.frz o u)
 tbls:∀ b ps,H b=some (.tbl ps)->∃ more,H' b=some (.tbl (ps++more))
section
variable {fs fs' ex ex':List Addr} {H H1 H2:Hp} {h h1 h2 h':Heap} {a x e:Addr} {o:HO}
theorem Un.any (u:Un fs ex H H1 h h1) {b:Addr} {ob:Obj} (q:h.get? b=some ob) (n:H b=none) (hx:b∉ex):∃ sl,h1.get? b=some { ob with slots:=sl }:=by
 by_cases hb:b∈fs
 ·exact u.slot b ob q n hb hx
 ·exact ⟨ob.slots,u.keep b ob q n hb hx⟩
theorem Un.kept (k:∀ b u,h.get? b=some u->h'.get? b=some u):Un fs ex H H h h' :=
 ⟨fun b ob q _ _ _=>k b ob q,fun b ob q _ _ _=>⟨ob.slots,k b ob q⟩,fun _ _ _ n _=>n,fun b ob q _=>⟨ob,k b ob q⟩,fun _ _ q=>q,fun _ _ _ q=>q,fun _ ps q=>⟨#[],by rw [q];simp⟩⟩
theorem Un.refl:Un fs ex H H h h:=Un.kept fun _ _ q=>q
theorem Un.laid (k:∀ b u,h.get? b=some u->h'.get? b=some u) (hp:h.objs.size<=a) (hn:H a=none):Un fs ex H (af H a o) h h' where
 keep:=fun b u q _ _ _=>k b u q
 slot:=fun b u q _ _ _=>⟨u.slots,k b u q⟩
 free:=fun b u q n _=>by rw [av (Qz (Nat.lt_of_lt_of_le (Qo q) hp))];exact n
 there:=fun b u q _=>⟨u,k b u q⟩
 tups:=fun b xs q=>by rw [av (cS q hn)];exact q
 frzs:=fun b u xs q=>by rw [av (cS q hn)];exact q
 tbls:=fun b ps q=>⟨#[],by rw [av (cS q hn),q];simp⟩
theorem Un.write (mu:gE (H x)) (he:e=x∨H e=some (.own x)) (k:∀ b u,b≠e->h.get? b=some u->h'.get? b=some u) (heo:∃ u,h'.get? e=some u):Un fs ex H (af H x o) h h':=by
 have hx:∀ b,H b=none->b≠x:=fun b n z=>by subst z;rw [n] at mu;exact mu
 have hb:∀ b,H b=none->b≠e:=fun b n z=>by
  subst z
  rcases he with r | r
  ·exact hx b n r
  ·rw [n] at r;cases r
 have hm:∀ b u,H b=some u->¬ gE (some u)->b≠x:=fun b u q nm z=>by subst z;rw [q] at mu;exact nm mu
 refine ⟨fun b u q n _ _=>k b u (hb b n) q,fun b u q n _ _=>⟨u.slots,k b u (hb b n) q⟩,fun b u q n _=>by rw [av (hx b n)];exact n,fun b u q _=>?_,
  fun b xs q=>by rw [av (hm b _ q fun z=>z)];exact q,fun b u xs q=>by rw [av (hm b _ q fun z=>z)];exact q,fun b ps q=>⟨#[],by rw [av (hm b _ q fun z=>z),q];simp⟩⟩
 by_cases hbe:b=e
 ·subst hbe;exact heo
 ·exact ⟨u,k b u hbe q⟩
end
noncomputable def iM (h:Heap) (H:Hp):List Addr:=(List.range h.objs.size).filter fun a=>(H a).isSome
noncomputable def d9 (h:Heap) (H:Hp):Heap:=PySem.W.hideAll h (iM h H)
theorem sQ (h:Heap) (H:Hp):(d9 h H).objs.size=h.objs.size:=PySem.W.hideAll_size _ _
theorem sR {h:Heap} {H:Hp} {b:Addr} {o:Obj} (e:h.get? b=some o) (n:H b=none):(d9 h H).get? b=some o :=
 PySem.W.hideAll_get _ e fun hm=>by
  have q:(H b).isSome=true:=(List.mem_filter.mp hm).2
  rw [n] at q;simp at q
theorem sS {h:Heap} {H:Hp} {b:Addr} {o:Obj} (e:(d9 h H).get? b=some o):h.get? b=some o/\H b=none:=by
 have e':h.get? b=some o:=PySem.W.of_hideAll (iM h H) e
 refine ⟨e',?_⟩
 cases q:H b with
 | none=>rfl
 | some x =>
  have hm:b∈iM h H:=List.mem_filter.mpr ⟨List.mem_range.mpr (Qo e'),by simp [q]⟩
  have z:(d9 h H).get? b=none:=PySem.W.hideAll_none (iM h H) hm
  rw [z] at e;cases e
end L2
namespace L2
open PySem PySem.Spec PyProof.Rows
structure Mod (K:PySem.W.Frag) (mg:Str->Option Value) (base:Heap):Prop where
 kin:K.In base
 glob:base.Ns mainGlobals mg
 blt:∃ mb,base.Ns builtinsNs mb/\∀ x:Str,x≠"__name__"->mb x=bootBuiltins x
 nolimit:base.NoLimit
structure Cx where
 prog:Program
 w:World
 K:PySem.W.Frag
 mg:Str->Option Value
 base:Heap
 A:Around
 N:List Str
 s₀:Shared
 H₀:Hp
 env:Env
 outer:List Env
 stack:List Env
 ex:List Addr
 fn:Str->Bool
 calm:Bool
 pn:List (Addr × Obj)
 xe:Value->Shared->Prop
noncomputable def cZ (l:List Env):List Addr:=l.filterMap (·.frame)
noncomputable abbrev Cx.fs (X:Cx):List Addr:=cZ X.outer
noncomputable def j4 (sc:Scope) (x:Str):Prop:=sc.names.lookup x=some .local∨sc.names.lookup x=some .cell∨sc.names.lookup x=some .free
noncomputable def Loc (sc:Scope) (x:Str):Prop:=sc.names.lookup x=some .local∨sc.names.lookup x=some .cell
noncomputable def Look (env:Env) (h:Heap) (m:Str->Option Value) (x:Str) (u:Value):Prop :=
 (env.kindOf x=some .local/\m x=some u)∨((env.kindOf x=some .cell∨env.kindOf x=some .free)/\∃ c,env.cells.lookup x=some c/\h.IsCell c (some u))
structure Cx.Ok (X:Cx):Prop where
 mod:Mod X.K X.mg X.base
 kind:X.env.scope.kind=.function
 glob:X.env.globals=mainGlobals
 blt:X.env.builtins=builtinsNs
 above:X.s₀.heap.objs.size<=X.env.locals
 inj:∀ x y c,X.env.cells.lookup x=some c->X.env.cells.lookup y=some c->x=y
 has:∀ x,(X.env.kindOf x=some .cell∨X.env.kindOf x=some .free)->∃ c,X.env.cells.lookup x=some c
 cab:∀ x c,X.fn x=true->X.env.cells.lookup x=some c->X.s₀.heap.objs.size<=c
 hd:X.calm=true->X.A.handled=none
 frames:X.A.frames=some X.stack
 stk:X.stack=X.outer∨(X.stack=X.env::X.outer/\X.env.frame=some X.env.locals)
 exf:∀ b∈X.ex,b≠X.env.locals/\∀ x c,X.env.cells.lookup x=some c->c≠b
 bs:∀ b o,X.base.get? b=some o->X.s₀.heap.get? b=some o/\X.H₀ b=none
 bsz:X.base.objs.size<=X.s₀.heap.objs.size
 noex:∀ b o,X.base.get? b=some o->b∉X.ex
 exfs:∀ b∈X.ex,b∉X.fs
 funs:X.s₀.heap.FunFrames X.base X.outer
 frf:∀ b∈X.fs,X.H₀ b=none
structure Inv (X:Cx) (pins:List (Addr × Obj)) (σ:List (Option V)) (H:Hp) (s:Shared):Prop where
 ok:X.Ok
 os:s.os=X.s₀.os
 bare:AllBare s.gens
 base:Un X.fs X.ex X.H₀ H X.s₀.heap s.heap
 loc:∃ m,s.heap.Ns X.env.locals m/\∀ (i:Nat) (x:Str) (v:V),X.N[i]?=some x->σ[i]?=some (some v)->j4 X.env.scope x->∃ u,RelV v u/\Look X.env s.heap m x u
 cell:∀ x c,X.env.cells.lookup x=some c->∃ v,s.heap.IsCell c v
 free:H X.env.locals=none
 freeC:∀ x c,X.env.cells.lookup x=some c->H c=none
 pin:∀ p∈X.pn++pins,s.heap.get? p.1=some p.2/\H p.1=none/\p.1≠X.env.locals/\p.1∉X.fs/\∀ v,p.2.data≠.cell v
 hok:bh X.prog X.w H s.heap
 len:σ.length=X.N.length
section
variable {X:Cx} {pins:List (Addr × Obj)} {σ:List (Option V)} {H H':Hp} {s:Shared} {h':Heap}
theorem Cx.Ok.nofr (ok:X.Ok) {b:Addr} {o:Obj} (e:X.base.get? b=some o):b∉X.fs:=fun hb=>by
 have:=(ok.funs.mem hb).1
 rw [e] at this;cases this
theorem Inv.bs (I:Inv X pins σ H s):∀ b o,X.base.get? b=some o->s.heap.get? b=some o/\H b=none:=fun b o e =>
 ⟨I.base.keep b o (I.ok.bs b o e).1 (I.ok.bs b o e).2 (I.ok.nofr e) (I.ok.noex b o e),I.base.free b o (I.ok.bs b o e).1 (I.ok.bs b o e).2 (I.ok.noex b o e)⟩
theorem Inv.bk (I:Inv X pins σ H s):∀ b o,X.base.get? b=some o->s.heap.get? b=some o:=fun b o e=>(I.bs b o e).1
theorem Inv.mod (I:Inv X pins σ H s):Mod X.K X.mg X.base:=I.ok.mod
theorem Inv.kIn (I:Inv X pins σ H s):X.K.In s.heap:=I.ok.mod.kin.keeps I.bk
theorem Inv.lt (I:Inv X pins σ H s):X.env.locals<s.heap.objs.size:=by obtain ⟨_,hn,_⟩:=I.loc;exact hn.lt
theorem Inv.sz (I:Inv X pins σ H s):X.s₀.heap.objs.size<=s.heap.objs.size:=QD I.ok.above (Nat.le_of_lt I.lt)
theorem Inv.nofs (I:Inv X pins σ H s) {a:Addr} (h:s.heap.objs.size<=a):a∉X.fs:=fun hb=>by
 obtain ⟨_,o,ho,_⟩:=I.ok.funs.mem hb
 exact absurd (Nat.lt_of_lt_of_le (Qo ho) (QD I.sz h)) (Nat.lt_irrefl _)
theorem Inv.cne (I:Inv X pins σ H s):∀ x c,X.env.cells.lookup x=some c->c≠X.env.locals:=fun x c e z=>by
 obtain ⟨v,o,ho,hd⟩:=I.cell x c e
 obtain ⟨m,⟨o',es,ep,ho',hd',_⟩,_⟩:=I.loc
 rw [z,ho'] at ho;cases ho;rw [hd'] at hd;cases hd
theorem Inv.funs (I:Inv X pins σ H s):s.heap.FunFrames X.base X.outer:=by
 have all:∀ (l:List Env),(∀ b∈cZ l,b∈X.fs)->X.s₀.heap.FunFrames X.base l->s.heap.FunFrames X.base l:=by
  intro l
  induction l with
  | nil=>intro _ _;trivial
  | cons env r ih =>
   intro hs hl
   obtain ⟨hk,⟨L,o,hf,hn,ho,hd⟩,hr⟩:=hl
   have hL:L∈X.fs:=hs L (by unfold cZ;rw [List.filterMap_cons,hf];exact QB)
   obtain ⟨sl,e⟩:=I.base.slot L o ho (I.ok.frf L hL) hL fun z=>I.ok.exfs L z hL
   exact ⟨hk,⟨L,_,hf,hn,e,hd⟩,ih (fun b hb=>hs b (by unfold cZ;rw [List.filterMap_cons,hf];exact Qn _ hb)) hr⟩
 exact all X.outer (fun _ hb=>hb) I.ok.funs
theorem Inv.stack (I:Inv X pins σ H s):s.heap.FunFrames X.base X.stack:=by
 rcases I.ok.stk with e | ⟨e,hf⟩
 ·rw [e];exact I.funs
 ·rw [e]
  obtain ⟨m,hn,_⟩:=I.loc
  refine .cons (by rw [I.ok.kind];decide) hf hn ?_ I.funs
  exact Heap.get?_none_of_le (QD I.ok.bsz I.ok.above)
theorem Inv.stkSub (I:Inv X pins σ H s):∀ b∈cZ X.stack,b∈X.env.locals::X.fs:=fun b hb=>by
 rcases I.ok.stk with e | ⟨e,hf⟩
 ·rw [e] at hb;exact Qn _ hb
 ·rw [e] at hb
  unfold cZ at hb
  rw [List.filterMap_cons,hf] at hb
  exact hb
theorem Inv.stkFree (I:Inv X pins σ H s):∀ b∈cZ X.stack,H b=none:=fun b hb=>by
 rcases Ql (I.stkSub b hb) with e | hb
 ·rw [e];exact I.free
 ·obtain ⟨_,o,ho,_⟩:=I.ok.funs.mem hb
  exact I.base.free b o ho (I.ok.frf b hb) fun z=>I.ok.exfs b z hb
theorem Inv.step {g':Array GenState} {t':Nat} {d':Drawn} {ch:List Addr} (I:Inv X pins σ H s)
  (hch:∀ b∈ch,(b∈X.ex∨X.s₀.heap.objs.size<=b)/\b≠X.env.locals/\(∀ x c,X.env.cells.lookup x=some c->c≠b)/\∀ p∈X.pn++pins,p.1≠b)
  (keep:∀ b o,b≠X.env.locals->b∉X.fs->b∉ch->s.heap.get? b=some o->H b=none->h'.get? b=some o)
  (slot:∀ b o,b≠X.env.locals->b∈X.fs->b∉ch->s.heap.get? b=some o->H b=none->∃ sl,h'.get? b=some { o with slots:=sl }) (free:∀ b o,b∉ch->s.heap.get? b=some o->H b=none->H' b=none)
  (there:∀ b o,b∉ch->s.heap.get? b=some o->∃ o',h'.get? b=some o')
  (tups:∀ b xs,H b=some (.tup xs)->H' b=some (.tup xs)) (frzs:∀ b o u,H b=some (.frz o u)->H' b=some (.frz o u)) (tbls:∀ b ps,H b=some (.tbl ps)->∃ more,H' b=some (.tbl (ps++more)))
  (ns:∀ m,s.heap.Ns X.env.locals m->h'.Ns X.env.locals m) (hok:bh X.prog X.w H' h') (hg:AllBare g') :
  Inv X pins σ H' { s with heap:=h',gens:=g',drawn:=d',toks:=t' }:=by
 have neL:∀ b o,X.s₀.heap.get? b=some o->b≠X.env.locals:=fun b o e=>Qz (Nat.lt_of_lt_of_le (Qo e) I.ok.above)
 have neC:∀ b o,X.s₀.heap.get? b=some o->b∉X.ex->b∉ch:=fun b o e hx hb=>by
  rcases (hch b hb).1 with z | z
  ·exact hx z
  ·exact absurd (Nat.lt_of_lt_of_le (Qo e) z) (Nat.lt_irrefl _)
 have cellK:∀ x c,X.env.cells.lookup x=some c->∀ v,s.heap.IsCell c v->h'.IsCell c v:=fun x c e v ⟨o,ho,hd⟩=>by
  have nch:c∉ch:=fun z=>(hch c z).2.2.1 x c e rfl
  by_cases hc:c∈X.fs
  ·obtain ⟨sl,q⟩:=slot c o (I.cne x c e) hc nch ho (I.freeC x c e)
   exact ⟨_,q,hd⟩
  ·exact ⟨o,keep c o (I.cne x c e) hc nch ho (I.freeC x c e),hd⟩
 refine ⟨I.ok,I.os,hg,⟨fun b o e n hb hx=>?_,fun b o e n hb hx=>?_,fun b o e n hx=>?_,fun b o e hx=>?_,fun b xs e=>tups b xs (I.base.tups b xs e),fun b o xs e=>frzs b o xs (I.base.frzs b o xs e),fun b ps e=>?_⟩,?_,fun x c e=>?_,?_,fun x c e=>?_,fun p hp=>?_,hok,I.len⟩
 ·exact keep b o (neL b o e) hb (neC b o e hx) (I.base.keep b o e n hb hx) (I.base.free b o e n hx)
 ·obtain ⟨sl,e1⟩:=I.base.slot b o e n hb hx
  obtain ⟨sl',e2⟩:=slot b _ (neL b o e) hb (neC b o e hx) e1 (I.base.free b o e n hx)
  exact ⟨sl',e2⟩
 ·obtain ⟨o',e1⟩:=I.base.there b o e hx
  exact free b o' (neC b o e hx) e1 (I.base.free b o e n hx)
 ·obtain ⟨o',e1⟩:=I.base.there b o e hx
  exact there b o' (neC b o e hx) e1
 ·obtain ⟨m1,e1⟩:=I.base.tbls b ps e
  obtain ⟨m2,e2⟩:=tbls b _ e1
  exact ⟨m1++m2,by rw [e2,Array.append_assoc]⟩
 ·obtain ⟨m,hn,hl⟩:=I.loc
  refine ⟨m,ns m hn,fun i x v e1 e2 e3=>?_⟩
  obtain ⟨u,r,l⟩:=hl i x v e1 e2 e3
  refine ⟨u,r,?_⟩
  rcases l with l | ⟨k,c,e,z⟩
  ·exact .inl l
  ·exact .inr ⟨k,c,e,cellK x c e _ z⟩
 ·obtain ⟨v,z⟩:=I.cell x c e
  exact ⟨v,cellK x c e v z⟩
 ·obtain ⟨m,⟨o,_,_,ho,_⟩,_⟩:=I.loc
  exact free _ o (fun z=>(hch _ z).2.1 rfl) ho I.free
 ·obtain ⟨v,o,ho,hd⟩:=I.cell x c e
  exact free c o (fun z=>(hch c z).2.2.1 x c e rfl) ho (I.freeC x c e)
 ·obtain ⟨e,n,ne,nf,d⟩:=I.pin p hp
  have nch:p.1∉ch:=fun z=>(hch p.1 z).2.2.2 p hp rfl
  exact ⟨keep p.1 p.2 ne nf nch e n,free p.1 p.2 nch e n,ne,nf,d⟩
theorem Inv.un {t':Nat} (I:Inv X pins σ H s) (u:Un X.fs [] H H' s.heap h') (hok:bh X.prog X.w H' h'):Inv X pins σ H' { s with heap:=h',toks:=t' }:=by
 obtain ⟨m,⟨o,es,ep,ho,r⟩,_⟩:=id I.loc
 obtain ⟨sl,hL⟩:=u.any ho I.free (by simp)
 exact I.step (g':=s.gens) (d':=s.drawn) (ch:=[]) (fun _ z=>nomatch z) (fun b o _ hb _ e n=>u.keep b o e n hb (by simp)) (fun b o _ hb _ e n=>u.slot b o e n hb (by simp)) (fun b o _ e n=>u.free b o e n (by simp)) (fun b o _ e=>u.there b o e (by simp)) u.tups u.frzs u.tbls (fun m' hm=>by
  obtain ⟨o',es',ep',ho',r'⟩:=hm
  rw [ho] at ho';cases ho'
  exact ⟨_,es',ep',hL,r'⟩) hok I.bare
theorem Inv.call {g':Array GenState} {t':Nat} {d':Drawn} {ch:List Addr} (I:Inv X pins σ H s) (u:Un (cZ X.stack) ch H H' s.heap h') (hok:bh X.prog X.w H' h') (hg:AllBare g')
  (hch:∀ b∈ch,(b∈X.ex∨X.s₀.heap.objs.size<=b)/\b≠X.env.locals/\(∀ x c,X.env.cells.lookup x=some c->c≠b)/\∀ p∈X.pn++pins,p.1≠b) :
  Inv X pins σ H' { s with heap:=h',gens:=g',drawn:=d',toks:=t' }:=by
 obtain ⟨m,⟨o,es,ep,ho,r⟩,_⟩:=id I.loc
 obtain ⟨sl,hL⟩:=u.any ho I.free fun z=>(hch _ z).2.1 rfl
 exact I.step (ch:=ch) hch (fun b o hL hb hc e n=>u.keep b o e n (fun z=>(Ql (I.stkSub b z)).elim hL hb) hc) (fun b o _ _ hc e n=>u.any e n hc) (fun b o hc e n=>u.free b o e n hc) (fun b o hc e=>u.there b o e hc) u.tups u.frzs u.tbls (fun m' hm=>by
  obtain ⟨o',es',ep',ho',r'⟩:=hm
  rw [ho] at ho';cases ho'
  exact ⟨_,es',ep',hL,r'⟩) hok hg
theorem Inv.turned {t':Nat} {it:Addr} (I:Inv X pins σ H s) (k:∀ b o,b≠it->s.heap.get? b=some o->h'.get? b=some o) (hn:H it=none) (hL:it≠X.env.locals)
  (h1:it∈X.ex∨X.s₀.heap.objs.size<=it) (h2:∀ x c,X.env.cells.lookup x=some c->c≠it) (h3:∀ p∈X.pn++pins,p.1≠it):Inv X pins σ H { s with heap:=h',toks:=t' }:=by
 have nit:∀ b u,H b=some u->b≠it:=fun b u e z=>by rw [z,hn] at e;cases e
 refine I.step (g':=s.gens) (d':=s.drawn) (ch:=[it]) (fun b hb=>?_) (fun b o _ _ hc e _=>k b o (fun z=>hc (by simp [z])) e) (fun b o _ _ hc e _=>⟨o.slots,k b o (fun z=>hc (by simp [z])) e⟩) (fun _ _ _ _ n=>n)
  (fun b o hc e=>⟨o,k b o (fun z=>hc (by simp [z])) e⟩) (fun _ _ e=>e) (fun _ _ _ e=>e) (fun b ps e=>⟨#[],by rw [e];simp⟩) (fun m hm=>?_) (fun b u e=>?_) I.bare
 ·have e:b=it:=by simpa using hb
  subst e
  exact ⟨h1,hL,h2,h3⟩
 ·obtain ⟨o,es,ep,ho,r⟩:=hm
  exact ⟨o,es,ep,k _ o (Ne.symm hL) ho,r⟩
 ·refine (I.hok b u e).stay (fun c v hc q=>k c v ?_ q) (fun _ q=>q) fun _ _ q=>q
  rcases hc with z | z
  ·rw [z];exact nit b u e
  ·exact nit c _ z
theorem Inv.tok (I:Inv X pins σ H s) (t:Nat):Inv X pins σ H { s with toks:=t }:=I.un (h':=s.heap) (t':=t) Un.refl I.hok
theorem Inv.kept {t':Nat} (I:Inv X pins σ H s) (k:∀ b u,s.heap.get? b=some u->h'.get? b=some u):Inv X pins σ H { s with heap:=h',toks:=t' }:=I.un (Un.kept k) (I.hok.kept k)
theorem Inv.laid {a:Addr} {o:HO} {t':Nat} (I:Inv X pins σ H s) (k:∀ b u,s.heap.get? b=some u->h'.get? b=some u) (hp:s.heap.objs.size<=a) (new:bp X.prog X.w (af H a o) h' a o) :
  Inv X pins σ (af H a o) { s with heap:=h',toks:=t' }:=I.un (Un.laid k hp (I.hok.fresh hp)) (I.hok.laid k hp new)
theorem Inv.write {x e:Addr} {o:HO} {t':Nat} (I:Inv X pins σ H s) (mu:gE (H x)) (he:e=x∨H e=some (.own x)) (k:∀ b u,b≠e->s.heap.get? b=some u->h'.get? b=some u) (heo:∃ u,h'.get? e=some u)
  (new:bp X.prog X.w (af H x o) h' x o):Inv X pins σ (af H x o) { s with heap:=h',toks:=t' }:=I.un (Un.write mu he k heo) (I.hok.write mu he k heo new)
theorem Inv.pins_of {pins':List (Addr × Obj)} (I:Inv X pins σ H s) (h:∀ p∈pins',s.heap.get? p.1=some p.2/\H p.1=none/\p.1≠X.env.locals/\p.1∉X.fs/\∀ v,p.2.data≠.cell v):Inv X pins' σ H s :=
 ⟨I.ok,I.os,I.bare,I.base,I.loc,I.cell,I.free,I.freeC,fun p hp=>(QC hp).elim (fun z=>I.pin p (List.mem_append_left _ z)) (h p),I.hok,I.len⟩
theorem mO {N:List Str} (hN:N.Nodup) {i j:Nat} {x:Str} (a:N[i]?=some x) (b:N[j]?=some x):i=j:=by
 obtain ⟨h1,e1⟩:=Qe a
 obtain ⟨h2,e2⟩:=Qe b
 exact (List.getElem_inj hN).mp (e1.trans e2.symm)
theorem j5 {M:Model} {A:Around} {E:Value->Shared->Prop} {i:Nat} {x:Str} {v:V} {u:Value} {Q:Unit->Shared->Prop} (I:Inv X pins σ H s) (hN:X.N.Nodup) (hi:X.N[i]?=some x) (hx:Loc X.env.scope x) (r:RelV v u)
  (h:∀ s',Inv X pins (σ.set i (some v)) H s'->(∃ a,Heap.SameBut a s.heap s'.heap/\(a=X.env.locals∨X.env.cells.lookup x=some a))->Q () s') (hf:X.fn x=true∨X.env.scope.names.lookup x=some .local:=by first | exact .inl rfl | exact .inr rfl | assumption):wpAny M A (storeName X.env x u) Q E s:=by
 obtain ⟨m,hn,hl⟩:=id I.loc
 have hcls:(X.env.scope.kind == .class||(X.env.scope.kind == .module&&X.env.locals != X.env.globals))=false:=by rw [I.ok.kind];rfl
 have hiσ:i<σ.length:=by rw [I.len];exact (Qe hi).1
 have cne:=I.cne
 have tracked:∀ {a:Addr} {h':Heap},(∃ o,s.heap.get? a=some o/\H a=none)->Heap.SameBut a s.heap h'->bh X.prog X.w H h':=fun {a h'} ha hs b ob e=>by
  obtain ⟨_,_,hfree⟩:=ha
  refine (I.hok b ob e).stay (fun c w' hc q=>(hs.2 c ?_).trans q) (fun _ q=>q) fun _ _ q=>q
  rintro rfl
  rcases hc with rfl | hc
  ·rw [hfree] at e;cases e
  ·rw [hfree] at hc;cases hc
 rcases hx with hk | hk
 ·refine wpAny_storeName_local hk hn (fun h' hn' hs=>?_) hcls
  obtain ⟨oL,_,_,hoL,_⟩:=id hn
  refine h _ ⟨I.ok,I.os,I.bare,⟨fun b o e n hb hx=>?_,fun b o e n hb hx=>?_,I.base.free,fun b o e hx=>?_,I.base.tups,I.base.frzs,I.base.tbls⟩,⟨_,hn',fun j y v' e1 e2 e3=>?_⟩,fun y c e=>?_,I.free,I.freeC,fun p hp=>?_,tracked ⟨oL,hoL,I.free⟩ hs,by simpa using I.len⟩ ⟨_,hs,.inl rfl⟩
  ·exact (hs.2 b (Qz (Nat.lt_of_lt_of_le (Qo e) I.ok.above))).trans (I.base.keep b o e n hb hx)
  ·obtain ⟨sl,e1⟩:=I.base.slot b o e n hb hx
   exact ⟨sl,(hs.2 b (Qz (Nat.lt_of_lt_of_le (Qo e) I.ok.above))).trans e1⟩
  ·obtain ⟨o',e1⟩:=I.base.there b o e hx
   exact ⟨o',(hs.2 b (Qz (Nat.lt_of_lt_of_le (Qo e) I.ok.above))).trans e1⟩
  ·by_cases hj:j=i
   ·subst hj
    rw [hi] at e1;cases e1
    rw [List.getElem?_set_self hiσ] at e2
    cases e2
    exact ⟨u,r,.inl ⟨hk,by simp⟩⟩
   ·rw [List.getElem?_set_ne (Ne.symm hj)] at e2
    obtain ⟨u',r',q⟩:=hl j y v' e1 e2 e3
    refine ⟨u',r',?_⟩
    rcases q with ⟨k,e⟩ | ⟨k,c,e,z⟩
    ·refine .inl ⟨k,?_⟩
     have:y≠x:=fun e=>hj (mO hN e1 (e ▸ hi))
     simp [this,e]
    ·exact .inr ⟨k,c,e,z.sameBut hs (cne y c e)⟩
  ·obtain ⟨w',z⟩:=I.cell y c e
   exact ⟨w',z.sameBut hs (cne y c e)⟩
  ·obtain ⟨e,n,ne,nf,d⟩:=I.pin p hp
   exact ⟨(hs.2 p.1 ne).trans e,n,ne,nf,d⟩
 ·have hfn:X.fn x=true:=by
   rcases hf with z | z
   ·exact z
   ·rw [z] at hk;cases hk
  obtain ⟨c,hc⟩:=I.ok.has x (.inl hk)
  obtain ⟨w',z⟩:=I.cell x c hc
  refine wpAny_storeName_cell I.ok.kind hk hc z (fun h' hc' hs=>?_)
  obtain ⟨oc,hoc,hocd⟩:=id z
  refine h { s with heap:=h' } ⟨I.ok,I.os,I.bare,⟨fun b o e n hb hx=>?_,fun b o e n hb hx=>?_,I.base.free,fun b o e hx=>?_,I.base.tups,I.base.frzs,I.base.tbls⟩,⟨m,hn.sameBut hs (Ne.symm (cne x c hc)),fun j y v' e1 e2 e3=>?_⟩,fun y c' e=>?_,I.free,I.freeC,fun p hp=>?_,tracked ⟨oc,hoc,I.freeC x c hc⟩ hs,by simpa using I.len⟩ ⟨c,hs,.inr hc⟩
  ·exact (hs.2 b (Qz (Nat.lt_of_lt_of_le (Qo e) (I.ok.cab x c hfn hc)))).trans (I.base.keep b o e n hb hx)
  ·obtain ⟨sl,e1⟩:=I.base.slot b o e n hb hx
   exact ⟨sl,(hs.2 b (Qz (Nat.lt_of_lt_of_le (Qo e) (I.ok.cab x c hfn hc)))).trans e1⟩
  ·obtain ⟨o',e1⟩:=I.base.there b o e hx
   exact ⟨o',(hs.2 b (Qz (Nat.lt_of_lt_of_le (Qo e) (I.ok.cab x c hfn hc)))).trans e1⟩
  ·by_cases hj:j=i
   ·subst hj
    rw [hi] at e1;cases e1
    rw [List.getElem?_set_self hiσ] at e2
    cases e2
    exact ⟨u,r,.inr ⟨.inl hk,c,hc,hc'⟩⟩
   ·rw [List.getElem?_set_ne (Ne.symm hj)] at e2
    obtain ⟨u',r',q⟩:=hl j y v' e1 e2 e3
    refine ⟨u',r',?_⟩
    rcases q with q | ⟨k,c',e,z'⟩
    ·exact .inl q
    ·refine .inr ⟨k,c',e,z'.sameBut hs ?_⟩
     rintro rfl
     exact hj (mO hN e1 (I.ok.inj _ _ _ e hc ▸ hi))
  ·by_cases hcc:c'=c
   ·subst hcc;exact ⟨_,hc'⟩
   ·obtain ⟨w2,z2⟩:=I.cell y c' e
    exact ⟨w2,z2.sameBut hs hcc⟩
  ·obtain ⟨e,n,ne,nf,d⟩:=I.pin p hp
   refine ⟨(hs.2 p.1 ?_).trans e,n,ne,nf,d⟩
   intro q
   rw [q,hoc] at e
   have q':oc=p.2:=Qj e
   exact d w' (by rw [<- q'];exact hocd)
theorem mP {M:Model} {A:Around} {E:Value->Shared->Prop} {i:Nat} {x:Str} {v:V} {u:Value} {Q:Unit->Shared->Prop} (I:Inv X pins σ H s) (hN:X.N.Nodup) (hi:X.N[i]?=some x) (hx:Loc X.env.scope x) (r:RelV v u)
  (h:∀ s',Inv X pins (σ.set i (some v)) H s'->Q () s') (hf:X.fn x=true∨X.env.scope.names.lookup x=some .local:=by first | exact .inl rfl | exact .inr rfl | assumption):wpAny M A (storeName X.env x u) Q E s :=
 j5 I hN hi hx r (fun s' I' _=>h s' I') hf
theorem Inv.call' {s':Shared} {ch:List Addr} (I:Inv X pins σ H s) (ho:s'.os=s.os) (u:Un (cZ X.stack) ch H H' s.heap s'.heap) (hok:bh X.prog X.w H' s'.heap) (hg:AllBare s'.gens)
  (hch:∀ b∈ch,(b∈X.ex∨X.s₀.heap.objs.size<=b)/\b≠X.env.locals/\(∀ x c,X.env.cells.lookup x=some c->c≠b)/\∀ p∈X.pn++pins,p.1≠b):Inv X pins σ H' s':=by
 obtain ⟨h',g',d',t',o'⟩:=s'
 have e:o'=s.os:=ho
 subst e
 exact I.call (g':=g') (t':=t') (d':=d') u hok hg hch
end
noncomputable abbrev XK:=Value->Option Addr->Hp->Prop
noncomputable abbrev St:=List (Option V)
noncomputable abbrev VK:=V->Hp->Prop
noncomputable abbrev TE:=St->Hp->VK->Prop
noncomputable abbrev TT:=St->Hp->(Bool->Hp->Prop)->Prop
noncomputable abbrev TA:=St->Hp->(List V->Hp->Prop)->Prop
structure dr where
 nx:St->Hp->Prop
 rt:VK
 bk:St->Hp->Prop:=fun _ _=>False
 ct:St->Hp->Prop:=fun _ _=>False
noncomputable abbrev TS:=dr->St->Hp->Prop
noncomputable def EP (X:Cx) (pins:List (Addr × Obj)) (σ:St) (Q:VK) (u:Value) (s':Shared):Prop:=∃ v H',Inv X pins σ H' s'/\RelV v u/\Q v H'
noncomputable def TP (X:Cx) (pins:List (Addr × Obj)) (σ:St) (Q:Bool->Hp->Prop) (b:Bool) (s':Shared):Prop:=∃ H',Inv X pins σ H' s'/\Q b H'
noncomputable def AP (X:Cx) (pins:List (Addr × Obj)) (σ:St) (Q:List V->Hp->Prop) (us:List Value) (s':Shared):Prop:=∃ vs H',Inv X pins σ H' s'/\ao vs us/\Q vs H'
noncomputable def SP (X:Cx) (pins:List (Addr × Obj)) (D:dr) (f:Flow) (s':Shared):Prop :=
 match f with
 | .next=>∃ σ' H',Inv X pins σ' H' s'/\D.nx σ' H'
 | .brk=>∃ σ' H',Inv X pins σ' H' s'/\D.bk σ' H'
 | .cont=>∃ σ' H',Inv X pins σ' H' s'/\D.ct σ' H'
 | .ret u=>∃ v σ' H',Inv X pins σ' H' s'/\RelV v u/\D.rt v H'
noncomputable def PE (X:Cx) (e:Expr) (t:TE):Prop :=
 ∀ (pins:List (Addr × Obj)) (s:Shared) (σ:St) (H:Hp) (Q:VK),Inv X pins σ H s->t σ H Q->wpAny (model X.prog X.w) X.A (eval e X.env) (EP X pins σ Q) X.xe s
noncomputable def PT (X:Cx) (e:Expr) (t:TT):Prop :=
 ∀ (pins:List (Addr × Obj)) (s:Shared) (σ:St) (H:Hp) (Q:Bool->Hp->Prop),Inv X pins σ H s->t σ H Q->wpAny (model X.prog X.w) X.A (isTrue e X.env (eval e X.env)) (TP X pins σ Q) X.xe s
noncomputable def PW (X:Cx) (e:Expr) (t:TT):Prop :=
 ∀ (whole:Sem Value) (pins:List (Addr × Obj)) (s:Shared) (σ:St) (H:Hp) (Q:Bool->Hp->Prop),Inv X pins σ H s->t σ H Q->wpAny (model X.prog X.w) X.A (isTrue e X.env whole) (TP X pins σ Q) X.xe s
theorem PW.pt {X:Cx} {e:Expr} {t:TT} (h:PW X e t):PT X e t:=h _
noncomputable def PA (X:Cx) (es:List Expr) (t:TA):Prop :=
 ∀ (pos:Pos) (pins:List (Addr × Obj)) (s:Shared) (σ:St) (H:Hp) (Q:List V->Hp->Prop),Inv X pins σ H s->t σ H Q->wpAny (model X.prog X.w) X.A (spliced (backTo pos (starEach es X.env))) (AP X pins σ Q) X.xe s
noncomputable def PS (X:Cx) (st:Stmt) (t:TS):Prop :=
 ∀ (pins:List (Addr × Obj)) (s:Shared) (σ:St) (H:Hp) (D:dr),Inv X pins σ H s->t D σ H->wpAny (model X.prog X.w) X.A (exec st X.env) (SP X pins D) X.xe s
noncomputable def dt (X:Cx) (st:List Stmt) (t:TS):Prop :=
 ∀ (pins:List (Addr × Obj)) (s:Shared) (σ:St) (H:Hp) (D:dr),Inv X pins σ H s->t D σ H->wpAny (model X.prog X.w) X.A (execs st X.env) (SP X pins D) X.xe s
theorem ar {α:Type} {t:Sem α} {Q Q':α->Shared->Prop} {M:Model} {A:Around} {E:Value->Shared->Prop} {s:Shared} (h:wpAny M A t Q E s) (hQ:∀ a s,Q a s->Q' a s):wpAny M A t Q' E s:=QJ h hQ fun _ _ x=>x
end L2
namespace L2
open PySem PySem.Spec PyProof.Rows
section
variable {X:Cx}
noncomputable def mQ (i:Nat):TE:=fun σ H Q=>∃ v,σ[i]?=some (some v)/\Q v H
noncomputable def tC (v:V):TE:=fun _ H Q=>Q v H
theorem sT {i:Nat} {x:Str} {pos:Pos} (hN:X.N[i]?=some x) (hv:j4 X.env.scope x) (hd:(x == ("__debug__":Str))=false:=by decide) (hcd:(x == ("__classdict__":Str))=false:=by decide):PE X (.Name x pos) (mQ i):=by
 intro pins s σ H Q I h
 obtain ⟨v,e,h⟩:=h
 obtain ⟨m,hn,hl⟩:=I.loc
 obtain ⟨u,r,l⟩:=hl i x v hN e hv
 have fin:EP X pins σ Q u s:=⟨v,H,I,r,h⟩
 rcases l with ⟨hk,hm⟩ | ⟨hk,c,hc,hcell⟩
 ·exact wpAny_Name (wpAny_loadName_local I.ok.kind hk hn hm fin) hd
 ·rcases hk with hk | hk
  ·exact wpAny_Name (wpAny_loadName_cell I.ok.kind hk hc hcell fin) hd
  ·exact wpAny_Name (wpAny_loadName_free I.ok.kind hk hc hcell fin hcd) hd
theorem ah {i j pos}:PE X (.Constant (.int i) j pos) (tC (.int i)):=fun _ _ _ H _ I h=>wpAny_Constant_int ⟨.int i,H,I.tok _,⟨_,rfl⟩,h⟩
theorem sU {b j pos}:PE X (.Constant (.bool b) j pos) (tC (.bl b)):=fun _ _ _ H _ I h=>Constant_bool ⟨.bl b,H,I,rfl,h⟩
theorem mR {j pos}:PE X (.Constant .none j pos) (tC .non):=fun _ _ _ H _ I h=>Constant_none ⟨.non,H,I,rfl,h⟩
theorem aL {x j pos}:PE X (.Constant (.str x) j pos) (tC (.str x)):=fun _ _ _ H _ I h=>Calls.Constant_str ⟨.str x,H,I.tok _,⟨_,rfl⟩,h⟩
noncomputable def Gl (X:Cx) (x:Str):Prop:=X.env.kindOf x=some .globalImplicit
theorem iN {E:Value->Shared->Prop} {pins:List (Addr × Obj)} {s:Shared} {σ:St} {H:Hp} {x:Str} {u:Value} {pos:Pos} {Q:Value->Shared->Prop} (I:Inv X pins σ H s) (hg:Gl X x) (hm:X.mg x=some u) (h:Q u s)
  (hd:(x == ("__debug__":Str))=false:=by decide):wpAny (model X.prog X.w) X.A (eval (.Name x pos) X.env) Q E s :=
 Calls.Name_function_global I.ok.kind hg (Calls.loadGlobal_global (by rw [I.ok.glob];exact I.mod.glob.keeps I.bk) hm h) hd
theorem fQ {E:Value->Shared->Prop} {pins:List (Addr × Obj)} {s:Shared} {σ:St} {H:Hp} {x:Str} {u:Value} {pos:Pos} {Q:Value->Shared->Prop} (I:Inv X pins σ H s) (hg:Gl X x) (hm:X.mg x=none) (hv:bootBuiltins x=some u) (h:Q u s)
  (hn:x≠"__name__":=by decide) (hd:(x == ("__debug__":Str))=false:=by decide):wpAny (model X.prog X.w) X.A (eval (.Name x pos) X.env) Q E s:=by
 obtain ⟨mb,h1,h2⟩:=I.mod.blt
 exact Calls.Name_function_global I.ok.kind hg (Calls.loadGlobal_builtin (by rw [I.ok.glob];exact I.mod.glob.keeps I.bk) hm (by rw [I.ok.blt];exact h1.keeps I.bk) ((h2 x hn).trans hv) h) hd
theorem sV {x:Str} {v:V} {u:Value} {pos:Pos} (hg:Gl X x) (hm:X.mg x=some u) (r:RelV v u) (hd:(x == ("__debug__":Str))=false:=by decide):PE X (.Name x pos) (tC v) :=
 fun _ _ _ H _ I h=>iN I hg hm ⟨v,H,I,r,h⟩ hd
theorem gF {x:Str} {v:V} {u:Value} {pos:Pos} (hg:Gl X x) (hm:X.mg x=none) (hv:bootBuiltins x=some u) (r:RelV v u) (hn:x≠"__name__":=by decide) (hd:(x == ("__debug__":Str))=false:=by decide):PE X (.Name x pos) (tC v) :=
 fun _ _ _ H _ I h=>fQ I hg hm hv ⟨v,H,I,r,h⟩ hn hd
variable {a b:Expr} {ta tb:TE} {pos:Pos}
noncomputable def PC (X:Cx) (op:CmpOp) (a b:Expr) (t:TE):Prop :=
 ∀ (pins:List (Addr × Obj)) (s:Shared) (σ:St) (H:Hp) (Q:VK),Inv X pins σ H s->t σ H Q ->
  wpAny (model X.prog X.w) X.A (eval a X.env) (fun v s₁=>wpAny (model X.prog X.w) X.A (eval b X.env) (fun u s₂=>wpAny (model X.prog X.w) X.A (compareOp op v u) (EP X pins σ Q) X.xe s₂) X.xe s₁) X.xe s
theorem sW (b:Expr) {op:CmpOp} (h:op≠.In) (h2:op≠.NotIn):behindInMarks op b=false:=by
 have e1:(op == CmpOp.In)=false:=by cases op<;>first | rfl | exact absurd rfl h
 have e2:(op == CmpOp.NotIn)=false:=by cases op<;>first | rfl | exact absurd rfl h2
 cases b<;>simp [behindInMarks,e1,e2]
noncomputable def sX (ta:TE):TE:=fun σ H Q=>ta σ H fun x H1=>Q (.bl (decide (x=.non))) H1
theorem RelV.none_iff {x:V} {v:Value} (r:RelV x v):(v == Value.none)=decide (x=.non):=by
 cases x with
 | non=>cases r;rfl
 | bl _=>cases r;rfl
 | int _=>obtain ⟨t,rfl⟩:=r;rfl
 | str _=>obtain ⟨t,rfl⟩:=r;rfl
 | byt _=>obtain ⟨t,rfl⟩:=r;rfl
 | flt _=>obtain ⟨t,rfl⟩:=r;rfl
 | ref _=>cases r;rfl
 | ty _=>cases r;rfl
theorem j6 {j pos'} (ha:PE X a ta):PC X .Is a (.Constant .none j pos') (sX ta):=by
 intro pins s σ H Q I h
 refine ar (ha pins s σ H _ I h) fun v s1 hsl1=>?_
 obtain ⟨x,H1,I1,r1,q1⟩:=hsl1
 exact Constant_none (is_none_gen ⟨.bl _,H1,I1,by rw [r1.none_iff];rfl,q1⟩)
noncomputable def tB (t:TE):TT:=fun σ H Q=>t σ H fun x H1=>∃ c,x=.bl c/\Q c H1
theorem j7 {op:CmpOp} {t:TE} (h:PC X op a b t) (h1:behindInMarks op b=false:=by first | exact sW _ (by decide) (by decide) | rfl):PT X (.Compare a [op] [b] pos) (tB t):=by
 intro pins s σ H Q I hw
 refine wpAny_isTrue_Compare1 (ar (h pins s σ H _ I hw) fun v s1 h1=>ar h1 fun u s2 h2=>ar h2 fun c s3 hsl2=>?_) h1
 obtain ⟨x,H1,I1,r1,q1⟩:=hsl2
 obtain ⟨d,rfl,q⟩:=q1
 cases r1
 exact wpAny_truthy_bool ⟨H1,I1,q⟩
theorem gG {e:Expr} {t:TE} (h:PE X e t) (he:∀ whole,isTrue e X.env whole=(do let v <- whole;standAt e.pos;holding [v] (truthy v)):=by intro _;rfl):PT X e (tB t):=by
 intro pins s σ H Q I hw
 refine isTrue_plain (ar (h pins s σ H _ I hw) fun v s1 hsl3=>?_) (he _)
 obtain ⟨x,H1,I1,r1,q1⟩:=hsl3
 obtain ⟨d,rfl,q⟩:=q1
 cases r1
 exact wpAny_truthy_bool ⟨H1,I1,q⟩
variable {tA tB':TT} {rest:List Expr}
noncomputable def sY (t u:TT):TT:=fun σ H Q=>t σ H fun c H1=>if c=true then u σ H1 Q else Q false H1
noncomputable def sZ (t u:TT):TT:=fun σ H Q=>t σ H fun c H1=>if c=true then Q true H1 else u σ H1 Q
noncomputable def tm (t:TT):TT:=fun σ H Q=>t σ H fun c H1=>Q (!c) H1
theorem j8 (ha:PT X a tA):PW X (.BoolOp .And [a] pos) tA:=by
 intro wh pins s σ H Q I h
 refine isTrue_and (ar (ha pins s σ H Q I h) fun c s1 e=>?_)
 cases c with
 | true=>exact isTrue_and_nil e
 | false=>exact e
theorem tq (ha:PT X a tA):PW X (.BoolOp .Or [a] pos) tA:=by
 intro wh pins s σ H Q I h
 refine isTrue_or (ar (ha pins s σ H Q I h) fun c s1 e=>?_)
 cases c with
 | false=>exact isTrue_or_nil e
 | true=>exact e
theorem gH (ha:PT X a tA) (hb:PW X (.BoolOp .And (b::rest) pos) tB'):PW X (.BoolOp .And (a::b::rest) pos) (sY tA tB'):=by
 intro wh pins s σ H Q I h
 refine isTrue_and (ar (ha pins s σ H _ I h) fun c s1 hsl4=>?_)
 obtain ⟨H1,I1,q1⟩:=hsl4
 cases c with
 | true=>exact hb wh pins s1 σ H1 Q I1 q1
 | false=>exact ⟨H1,I1,q1⟩
theorem tu (ha:PT X a tA) (hb:PW X (.BoolOp .Or (b::rest) pos) tB'):PW X (.BoolOp .Or (a::b::rest) pos) (sZ tA tB'):=by
 intro wh pins s σ H Q I h
 refine isTrue_or (ar (ha pins s σ H _ I h) fun c s1 hsl5=>?_)
 obtain ⟨H1,I1,q1⟩:=hsl5
 cases c with
 | true=>exact ⟨H1,I1,q1⟩
 | false=>exact hb wh pins s1 σ H1 Q I1 q1
theorem mS (ha:PT X a tA):PT X (.UnaryOp .Not a pos) (tm tA):=by
 intro pins s σ H Q I h
 exact isTrue_not (ha pins s σ H (fun c H1=>Q (!c) H1) I h)
noncomputable def tz (t:TT) (ta tb:TE):TE:=fun σ H Q=>t σ H fun c H1=>if c=true then ta σ H1 Q else tb σ H1 Q
theorem iO {c:Expr} (hc:PT X c tA) (ha:PE X a ta) (hb:PE X b tb):PE X (.IfExp c a b pos) (tz tA ta tb):=by
 intro pins s σ H Q I h
 refine wpAny_IfExp (ar (hc pins s σ H _ I h) fun d s1 hsl6=>?_)
 obtain ⟨H1,I1,q1⟩:=hsl6
 cases d with
 | true=>exact ha pins s1 σ H1 Q I1 q1
 | false=>exact hb pins s1 σ H1 Q I1 q1
end
end L2
namespace L2
open PySem PySem.Spec PyProof.Rows
noncomputable def al (K:PySem.W.Frag) (H:Hp) (a:Addr) (xs:List V):Prop :=
 Rd H a (.lst xs) ∨
  ∃ (o:Obj) (its:Array Value) (n:Nat),K.lookup a=some o/\o.cls=.type "list"/\o.dict=none/\o.data=.seq its n/\its.size<=sizeLine/\ao xs its.toList
noncomputable def ai (K:PySem.W.Frag) (H:Hp) (a:Addr) (xs:List V):Prop :=
 Rd H a (.tup xs) ∨
  ∃ (o:Obj) (its:Array Value) (n:Nat),K.lookup a=some o/\o.cls=.type "tuple"/\o.data=.seq its n/\its.size<=sizeLine/\ao xs its.toList
noncomputable def tD:Value->Option V
 | .none=>some .non
 | .bool b=>some (.bl b)
 | .int i _=>some (.int i)
 | .str x _=>some (.str x)
 | .bytes b _=>some (.byt b)
 | .float b _=>some (.flt b)
 | .ref a=>some (.ref a)
 | .type n=>some (.ty n)
 | _=>none
theorem RelV.abs {x:V} {u:Value} (r:RelV x u):tD u=some x:=by
 cases x with
 | non=>cases r;rfl
 | bl _=>cases r;rfl
 | int _=>obtain ⟨t,rfl⟩:=r;rfl
 | str _=>obtain ⟨t,rfl⟩:=r;rfl
 | byt _=>obtain ⟨t,rfl⟩:=r;rfl
 | flt _=>obtain ⟨t,rfl⟩:=r;rfl
 | ref _=>cases r;rfl
 | ty _=>cases r;rfl
theorem RelV.inj {x y:V} {u:Value} (r:RelV x u) (q:RelV y u):x=y:=Qj (r.abs.symm.trans q.abs)
theorem ao.inj:∀ {xs ys:List V} {us:List Value},ao xs us->ao ys us->xs=ys
 | _,_,_,.nil,.nil=>rfl
 | _,_,_,.cons r t,.cons r' t'=>by rw [r.inj r',ao.inj t t']
section
variable {X:Cx} {pins:List (Addr × Obj)} {σ:St} {H:Hp} {s:Shared} {a:Addr} {xs ys:List V}
theorem al.of {K:PySem.W.Frag} (h:H a=some (.lst xs)):al K H a xs:=.inl (.inl h)
theorem ai.of {K:PySem.W.Frag} (h:H a=some (.tup xs)):ai K H a xs:=.inl (.inl h)
theorem Inv.list (I:Inv X pins σ H s) (h:al X.K H a xs):∃ its:List Value,ao xs its/\PlainL s.heap a its.toArray/\xs.length<=sizeLine:=by
 rcases h with h | ⟨o,its,n,hk,hc,hd,hs,hz,r⟩
 ·obtain ⟨z,its,n,r,e⟩:=h.ok I.hok
  exact ⟨its,r,⟨_,n,e,rfl,rfl,rfl⟩,z⟩
 ·refine ⟨its.toList,r,⟨o,n,I.kIn a o hk,hc,hd,by simpa using hs⟩,?_⟩
  have e:=r.length
  simp only [Qx] at e
  omega
theorem Inv.tuple (I:Inv X pins σ H s) (h:ai X.K H a xs):∃ its:List Value,ao xs its/\IsTup s.heap a its.toArray/\xs.length<=sizeLine:=by
 rcases h with h | ⟨o,its,n,hk,hc,hs,hz,r⟩
 ·obtain ⟨z,its,r,p,_⟩:=h.ok I.hok
  exact ⟨its,r,p,z⟩
 ·refine ⟨its.toList,r,⟨o,I.kIn a o hk,hc,n,by simpa using hs⟩,?_⟩
  have e:=r.length
  simp only [Qx] at e
  omega
theorem Inv.list_inj (I:Inv X pins σ H s) (h:al X.K H a xs) (h':al X.K H a ys):xs=ys:=by
 obtain ⟨its,r,⟨o,n,e,_,_,d⟩,_⟩:=I.list h
 obtain ⟨its',r',⟨o',n',e',_,_,d'⟩,_⟩:=I.list h'
 rw [e] at e';cases e'
 rw [d] at d'
 injection d' with d1 _
 have:its=its':=by simpa using congrArg Array.toList d1
 subst this
 exact r.inj r'
theorem Inv.tuple_inj (I:Inv X pins σ H s) (h:ai X.K H a xs) (h':ai X.K H a ys):xs=ys:=by
 obtain ⟨its,r,⟨o,e,_,n,d⟩,_⟩:=I.tuple h
 obtain ⟨its',r',⟨o',e',_,n',d'⟩,_⟩:=I.tuple h'
 rw [e] at e';cases e'
 rw [d] at d'
 injection d' with d1 _
 have:its=its':=by simpa using congrArg Array.toList d1
 subst this
 exact r.inj r'
end
noncomputable abbrev Cx.wish (X:Cx) (E:Value->Shared->Prop):Cx:={ X with xe:=E }
noncomputable abbrev Cx.nox (X:Cx):Cx:=X.wish fun _ _=>False
theorem Cx.Ok.wish {X:Cx} (ok:X.Ok) (E:Value->Shared->Prop):(X.wish E).Ok :=
 ⟨ok.mod,ok.kind,ok.glob,ok.blt,ok.above,ok.inj,ok.has,ok.cab,ok.hd,ok.frames,ok.stk,ok.exf,ok.bs,ok.bsz,ok.noex,ok.exfs,ok.funs,ok.frf⟩
theorem Cx.Ok.unwish {X:Cx} {E:Value->Shared->Prop} (ok:(X.wish E).Ok):X.Ok :=
 ⟨ok.mod,ok.kind,ok.glob,ok.blt,ok.above,ok.inj,ok.has,ok.cab,ok.hd,ok.frames,ok.stk,ok.exf,ok.bs,ok.bsz,ok.noex,ok.exfs,ok.funs,ok.frf⟩
section
variable {X:Cx} {pins:List (Addr × Obj)} {σ:St} {H:Hp} {s:Shared} {E:Value->Shared->Prop}
theorem Inv.wish (I:Inv X pins σ H s) (E:Value->Shared->Prop):Inv (X.wish E) pins σ H s:=⟨I.ok.wish E,I.os,I.bare,I.base,I.loc,I.cell,I.free,I.freeC,I.pin,I.hok,I.len⟩
theorem Inv.unwish (I:Inv (X.wish E) pins σ H s):Inv X pins σ H s:=⟨I.ok.unwish,I.os,I.bare,I.base,I.loc,I.cell,I.free,I.freeC,I.pin,I.hok,I.len⟩
theorem SP.unwish {D:dr} {f:Flow} {s':Shared} (h:SP (X.wish E) pins D f s'):SP X pins D f s':=by
 cases f with
 | next=>obtain ⟨σ',H',I,q⟩:=h;exact ⟨σ',H',I.unwish,q⟩
 | brk=>obtain ⟨σ',H',I,q⟩:=h;exact ⟨σ',H',I.unwish,q⟩
 | cont=>obtain ⟨σ',H',I,q⟩:=h;exact ⟨σ',H',I.unwish,q⟩
 | ret u=>obtain ⟨v,σ',H',I,r,q⟩:=h;exact ⟨v,σ',H',I.unwish,r,q⟩
theorem dt.nox {st:List Stmt} {t:TS} (h:dt X.nox st t):dt X st t:=fun pins s σ H D I hw =>
 QJ (h pins s σ H D (I.wish _) hw) (fun _ _ q=>q.unwish) fun _ _ z=>False.elim z
end
section
variable {X:Cx} {st:Stmt} {rest:List Stmt} {t u:TS} {e:Expr} {te:TE} {pos:Pos}
noncomputable def tE:TS:=fun D σ H=>D.nx σ H
noncomputable def gI (t u:TS):TS:=fun D σ H=>t { D with nx:=u D } σ H
theorem bx:dt X [] tE:=fun _ _ σ H _ I h=>wpAny_execs_nil ⟨σ,H,I,h⟩
theorem aH (h1:PS X st t) (h2:dt X rest u):dt X (st::rest) (gI t u):=by
 intro pins s σ H D I h
 refine wpAny_execs_cons (ar (h1 pins s σ H { D with nx:=u D } I h) fun f s1 q=>?_)
 cases f with
 | next =>
  obtain ⟨σ',H',I',q⟩:=q
  exact h2 pins s1 σ' H' D I' q
 | ret v=>exact q
 | brk=>exact q
 | cont=>exact q
theorem aq (h1:PS X st t):dt X [st] t:=by
 intro pins s σ H D I h
 refine wpAny_execs_cons (ar (h1 pins s σ H D I h) fun f s1 q=>?_)
 cases f with
 | next=>exact wpAny_execs_nil q
 | ret v=>exact q
 | brk=>exact q
 | cont=>exact q
theorem Inv.quiet {pins:List (Addr × Obj)} {σ:St} {H:Hp} {s:Shared} (I:Inv X pins σ H s):interactive X.env=false:=by simp [interactive,I.ok.kind]
noncomputable def tF (te:TE):TS:=fun D σ H=>te σ H fun _ H1=>D.nx σ H1
theorem bL (he:PE X e te) (hs:swapsWith e none pos.line X.env=pure false:=by rfl):PS X (.Expr e pos) (tF te):=by
 intro pins s σ H D I h
 exact wpAny_Expr_any (ar (he pins s σ H _ I h) fun v s1 hsl9=>by obtain ⟨x,H1,I1,r1,q1⟩:=hsl9;exact ⟨σ,H1,I1,q1⟩) I.quiet hs
noncomputable def mT (te:TE):TS:=fun D σ H=>te σ H D.rt
theorem aP (he:PE X e te):PS X (.Return (some e) pos) (mT te):=by
 intro pins s σ H D I h
 exact wpAny_Return_some (ar (he pins s σ H _ I h) fun v s1 hsl10=>by obtain ⟨x,H1,I1,r1,q1⟩:=hsl10;exact ⟨x,σ,H1,I1,r1,q1⟩)
noncomputable def j9 (c:TT) (t u:TS):TS:=fun D σ H=>c σ H fun b H1=>if b=true then t D σ H1 else u D σ H1
theorem be {c:Expr} {a b:List Stmt} {tc:TT} (hc:PT X c tc) (ha:dt X a t) (hb:dt X b u):PS X (.If c a b pos) (j9 tc t u):=by
 intro pins s σ H D I h
 refine wpAny_If (ar (hc pins s σ H _ I h) fun d s1 hsl11=>?_)
 obtain ⟨H1,I1,q1⟩:=hsl11
 cases d with
 | true=>exact ha pins s1 σ H1 D I1 q1
 | false=>exact hb pins s1 σ H1 D I1 q1
end
noncomputable abbrev TG:=V->St->Hp->(St->Hp->Prop)->Prop
noncomputable abbrev eE:=List V->St->Hp->(St->Hp->Prop)->Prop
noncomputable def PG (X:Cx) (target:Expr) (t:TG):Prop :=
 ∀ (pins:List (Addr × Obj)) (s:Shared) (σ:St) (H:Hp) (v:V) (u:Value) (Q:St->Hp->Prop),Inv X pins σ H s->RelV v u->t v σ H Q ->
  wpAny (model X.prog X.w) X.A (assign target X.env u) (fun _ s'=>∃ σ' H',Inv X pins σ' H' s'/\Q σ' H') X.xe s
noncomputable def gJ (X:Cx) (ts:List Expr) (t:eE):Prop :=
 ∀ (pins:List (Addr × Obj)) (s:Shared) (σ:St) (H:Hp) (vs:List V) (us:List Value) (Q:St->Hp->Prop),Inv X pins σ H s->ao vs us->t vs σ H Q ->
  wpAny (model X.prog X.w) X.A (assignInOrder ((assignEach ts X.env).map (·.2)) us) (fun _ s'=>∃ σ' H',Inv X pins σ' H' s'/\Q σ' H') X.xe s
noncomputable abbrev ka:=V->V->V->Hp->(Hp->Prop)->Prop
noncomputable def mU (X:Cx) (t:ka):Prop :=
 ∀ (pins:List (Addr × Obj)) (s:Shared) (σ:St) (H:Hp) (o i v:V) (ov iv u:Value) (Q:Hp->Prop),Inv X pins σ H s->RelV o ov->RelV i iv->RelV v u->t o i v H Q ->
  wpAny (model X.prog X.w) X.A (setItem ov iv u) (fun _ s'=>∃ H',Inv X pins σ H' s'/\Q H') X.xe s
section
variable {X:Cx} {pos:Pos}
noncomputable def aT (i:Nat):TG:=fun v σ H Q=>Q (σ.set i (some v)) H
theorem ba {i:Nat} {x:Str} (hN:X.N.Nodup) (hi:X.N[i]?=some x) (hx:Loc X.env.scope x) (hf:X.fn x=true∨X.env.scope.names.lookup x=some .local:=by first | exact .inl rfl | exact .inr rfl | assumption):PG X (.Name x pos) (aT i):=by
 intro pins s σ H v u Q I r h
 exact wpAny_assign_Name (mP I hN hi hx r (fun s' I'=>⟨_,H,I',h⟩) hf)
noncomputable def tG:eE:=fun vs σ H Q=>vs=[]/\Q σ H
noncomputable def tH (t:TG) (u:eE):eE:=fun vs σ H Q=>∃ v r,vs=v::r/\t v σ H fun σ' H'=>u r σ' H' Q
theorem dE:gJ X [] tG:=by
 intro pins s σ H vs us Q I r h
 obtain ⟨e,h⟩:=h
 subst e
 cases r
 exact assignInOrder_nil ⟨σ,H,I,h⟩
theorem bH {e:Expr} {es:List Expr} {t:TG} {u:eE} (h1:PG X e t) (h2:gJ X es u)
  (hs:(assignEach (e::es) X.env).map (·.2)=assign e X.env::(assignEach es X.env).map (·.2):=by rfl):gJ X (e::es) (tH t u):=by
 intro pins s σ H vs us Q I r h
 obtain ⟨v,vr,e1,h⟩:=h
 subst e1
 cases r with
 | cons r rr =>
  rw [hs]
  refine assignInOrder_cons (ar (h1 pins s σ H _ _ _ I r h) fun _ s1 hsl12=>?_)
  obtain ⟨σ1,H1,I1,q1⟩:=hsl12
  exact h2 pins s1 σ1 H1 _ _ Q I1 rr q1
noncomputable def mV (K:PySem.W.Frag) (n:Nat) (t:eE):TG:=fun v σ H Q=>∃ a xs,v=.ref a/\ai K H a xs/\xs.length=n/\t xs σ H Q
theorem fh {es:List Expr} {k:Nat} {t:eE} {n:Nat} (hc:X.calm=true) (h:gJ X es t)
  (hn:(assignEach es X.env).length=n:=by rfl) (hst:(assignEach es X.env).findIdx? (·.1)=none:=by rfl):PG X (.Tuple es k pos) (mV X.K n t):=by
 intro pins s σ H v u Q I r hw
 obtain ⟨a,xs,e1,hq,hl,hw⟩:=hw
 subst e1
 cases r
 obtain ⟨its,rv,ht,hz⟩:=I.tuple hq
 refine assign_Tuple_tuple (I.ok.hd hc) ht (by simp [hn,<- hl,rv.length]) hst fun h' hx=>?_
 have I1:Inv X pins σ H { s with heap:=h' }:=I.kept (t':=s.toks) fun b o e=>hx b o (Qz (Qo e)) e
 exact h pins _ σ H xs _ Q I1 (by simpa using rv) hw
noncomputable def tI (to ti:TE) (t:ka):TG:=fun v σ H Q=>to σ H fun o H1=>ti σ H1 fun i H2=>t o i v H2 fun H3=>Q σ H3
theorem tJ {o i:Expr} {to ti:TE} {t:ka} (ho:PE X o to) (hi:PE X i ti) (hs:mU X t)
  (ha:∀ v,assign (.Subscript o i pos) X.env v=(do
   let ov <- holding [v] (eval o X.env)
   let iv <- holding [v,ov] (eval i X.env)
   standAt pos
   holding [v,ov,iv] (setItem ov iv v)
   release [v,ov,iv] []):=by intro _;rfl):PG X (.Subscript o i pos) (tI to ti t):=by
 intro pins s σ H v u Q I r h
 rw [ha]
 refine Qa (wpAny_holding (ar (ho pins s σ H _ I h) fun ov s1 hsl13=>?_))
 obtain ⟨x,H1,I1,r1,q1⟩:=hsl13
 refine Qa (wpAny_holding (ar (hi pins s1 σ H1 _ I1 q1) fun iv s2 hsl14=>?_))
 obtain ⟨y,H2,I2,r2,q2⟩:=hsl14
 refine Qa (wpAny_standAt (Qa (wpAny_holding (ar (hs pins s2 σ H2 x y v ov iv u _ I2 r1 r2 r q2) fun _ s3 hsl15=>?_))))
 obtain ⟨H3,I3,q3⟩:=hsl15
 exact wpAny_release ⟨σ,H3,I3,q3⟩
noncomputable def gK (te:TE) (g:TG):TS:=fun D σ H=>te σ H fun x H1=>g x σ H1 D.nx
theorem tK {tg e:Expr} {te:TE} {g:TG} (he:PE X e te) (hg:PG X tg g) (hs:swapsWithSole [tg] e pos.line X.env=pure false:=by rfl) (hw:swappedStores [tg] e X.env=pure none:=by rfl)
  (h1:(assignEach [tg] X.env).map (·.2)=[assign tg X.env]:=by rfl):PS X (.Assign [tg] e pos) (gK te g):=by
 intro pins s σ H D I h
 refine wpAny_Assign_stores (ar (he pins s σ H _ I h) fun v s1 hsl16=>?_) hs hw
 obtain ⟨x,H1,I1,r1,q1⟩:=hsl16
 rw [h1]
 exact ar (hg pins s1 σ H1 x v _ I1 r1 q1) fun _ s2 q=>q
theorem bq {i:Nat} {x:Str} {e:Expr} {te:TE} {pos':Pos} (hN:X.N.Nodup) (hi:X.N[i]?=some x) (hx:Loc X.env.scope x) (he:PE X e te) (hs:swapsWith e (some (.Name x pos')) pos.line X.env=pure false:=by rfl) (hf:X.fn x=true∨X.env.scope.names.lookup x=some .local:=by first | exact .inl rfl | exact .inr rfl | assumption) :
  PS X (.Assign [.Name x pos'] e pos) (gK te (aT i)):=by
 intro pins s σ H D I h
 refine wpAny_Assign_Name (ar (he pins s σ H _ I h) fun v s1 hsl17=>?_) hs
 obtain ⟨y,H1,I1,r1,q1⟩:=hsl17
 exact mP I1 hN hi hx r1 (fun s2 I2=>⟨_,H1,I2,q1⟩) hf
end
section
variable {X:Cx} {pos:Pos}
end
structure It where
 go:Nat->Hp->Prop
 yld:Nat->Hp->V->Hp->Prop
 stop:Nat->Hp->Prop
noncomputable def b4 (X:Cx) (pins:List (Addr × Obj)) (H:Hp) (b:Addr):Prop :=
 H b=none/\b≠X.env.locals/\b∉X.fs/\(b∈X.ex∨X.s₀.heap.objs.size<=b)/\(∀ x c,X.env.cells.lookup x=some c->c≠b)/\∀ p∈X.pn++pins,p.1≠b
theorem Inv.fpOk {X:Cx} {pins:List (Addr × Obj)} {σ:St} {H H':Hp} {s:Shared} {b:Addr} (I:Inv X pins σ H s) (hb:s.heap.objs.size<=b) (hn:H' b=none):b4 X pins H' b:=by
 refine ⟨hn,Nat.ne_of_gt (Nat.lt_of_lt_of_le I.lt hb),I.nofs hb,.inr (QD I.sz hb),fun x c e z=>?_,fun p hp z=>?_⟩
 ·obtain ⟨v,q⟩:=I.cell x c e
  exact absurd (Nat.lt_of_lt_of_le q.lt (by rw [z];exact hb)) (Nat.lt_irrefl _)
 ·exact absurd (Nat.lt_of_lt_of_le (Qo (I.pin p hp).1) (by rw [z];exact hb)) (Nat.lt_irrefl _)
structure eF (P:Program) (w:World) (K:PySem.W.Frag) (tg:Expr) (J:It) (fp:List Addr) (it:Addr) (tn:Nat->Heap->Prop):Prop where
 mem:it∈fp
 obj:∀ i h,tn i h->∀ b∈fp,∃ o,h.get? b=some o/\∀ v,o.data≠.cell v
 keep:∀ i h h',tn i h->(∀ b∈fp,∀ o,h.get? b=some o->h'.get? b=some o)->tn i h'
 item:∀ (X:Cx),X.prog=P->X.w=w->X.K=K->X.calm=true->∀ (i:Nat) (pins:List (Addr × Obj)) (s:Shared) (σ:St) (H:Hp) (E:Value->Shared->Prop),Inv X pins σ H s->(∀ b∈fp,b4 X pins H b)->tn i s.heap->J.go i H ->
  wpAny (model P w) X.A (pyNext (.ref it)) (fun r s1=>∃ u,r=some u /\
   wpAny (model P w) X.A (letOwnedTupleGo tg (.ref it) u) (fun _ s2=>∃ x H',Inv X pins σ H' s2/\RelV x u/\J.yld i H x H'/\tn (i+1) s2.heap/\∀ b∈fp,H' b=none) E s1) E s
 done:∀ (X:Cx),X.prog=P->X.w=w->X.K=K->X.calm=true->∀ (i:Nat) (pins:List (Addr × Obj)) (s:Shared) (σ:St) (H:Hp) (E:Value->Shared->Prop),Inv X pins σ H s->(∀ b∈fp,b4 X pins H b)->tn i s.heap->J.stop i H ->
  wpAny (model P w) X.A (pyNext (.ref it)) (fun r s1=>r=none/\Inv X pins σ H s1) E s
 self:∀ (A:Around) (i:Nat) (s:Shared) (Q:Value->Shared->Prop) (E:Value->Shared->Prop),tn i s.heap->Q (.ref it) s->wpAny (model P w) A (pyIter (.ref it)) Q E s
noncomputable abbrev TI:=St->Hp->(It->Hp->Prop)->Prop
noncomputable def mW (X:Cx) (pins:List (Addr × Obj)) (σ:St) (tg:Expr) (R:It->Hp->Prop) (itv:Value) (s2:Shared):Prop :=
 ∃ (it:Addr) (fp:List Addr) (tn:Nat->Heap->Prop) (J:It) (H':Hp),itv=.ref it/\Inv X pins σ H' s2/\eF X.prog X.w X.K tg J fp it tn/\tn 0 s2.heap/\(∀ b∈fp,b4 X pins H' b)/\R J H'
noncomputable def PI (X:Cx) (tg iter:Expr) (wi:TI):Prop :=
 ∀ (pins:List (Addr × Obj)) (s:Shared) (σ:St) (H:Hp) (R:It->Hp->Prop),Inv X pins σ H s->wi σ H R ->
  wpAny (model X.prog X.w) X.A (eval iter X.env) (fun v s1=>wpAny (model X.prog X.w) X.A (pyIter v) (mW X pins σ tg R) X.xe s1) X.xe s
theorem iP {M:Model} {A:Around} {E:Value->Shared->Prop} {s:Shared} {tg:Expr} {it:Addr} {u:Value} {o:Obj} {n:String} {vs:Array Value} {Q:Unit->Shared->Prop} (ho:s.heap.get? it=some o) (hc:o.cls=.type n) (hd:o.data=.fields vs)
  (hn:["enumerate","zip","dict_itemiterator","dict_reverseitemiterator","odict_iterator","itertools.zip_longest","itertools.pairwise"].contains n=false) (hQ:Q () s):wpAny M A (letOwnedTupleGo tg (.ref it) u) Q E s:=by
 unfold letOwnedTupleGo
 cases tg<;>first
  | exact Qc hQ
  | (cases u<;>first
    | exact Qc hQ
    | (refine Qa (wpAny_load ho ?_)
       rw [hc,hd]
       show wpAny M A (if (["enumerate","zip","dict_itemiterator","dict_reverseitemiterator","odict_iterator","itertools.zip_longest","itertools.pairwise"].contains n&&vs[0]? == some (rawInt _))=true then _ else _) Q E s
       rw [if_neg (by intro h;rw [hn,Bool.false_and] at h;cases h)]
       exact Qc hQ))
noncomputable def fi (K:PySem.W.Frag) (a:Addr):It :=
 ⟨fun i H=>∃ xs x,al K H a xs/\xs[i]?=some x,fun i H x H'=>H'=H/\∀ xs,al K H a xs->xs[i]?=some x,fun i H=>∃ xs,al K H a xs/\xs.length<=i⟩
noncomputable def fj (K:PySem.W.Frag) (a:Addr):It :=
 ⟨fun i H=>∃ xs x,ai K H a xs/\xs[i]?=some x,fun i H x H'=>H'=H/\∀ xs,ai K H a xs->xs[i]?=some x,fun i H=>∃ xs,ai K H a xs/\xs.length<=i⟩
noncomputable def dU (lo:Int) (n:Nat):It:=⟨fun i _=>i<n,fun i H x H'=>H'=H/\x=.int (lo+i),fun i _=>n<=i⟩
theorem tL {P:Program} {w:World} {K:PySem.W.Frag} {tg:Expr} (a it:Addr):eF P w K tg (fi K a) [it] it (fun i h=>h.IsListIter it a i) where
 mem:=by simp
 obj:=fun i h st b hb=>by
  have e:b=it:=by simpa using hb
  subst e
  obtain ⟨o,e,c,d⟩:=st
  exact ⟨o,e,fun v z=>by rw [d] at z;cases z⟩
 keep:=fun i h h' st k=>st.at fun o e=>k it (by simp) o e
 item:=by
  intro X hP hw hK hc i pins s σ H E I hf st hg
  subst hP hw hK
  obtain ⟨xs,x,hq,hx⟩:=hg
  obtain ⟨its,rv,p,hz⟩:=I.list hq
  obtain ⟨u,hu,ru⟩:=rv.get hx
  obtain ⟨f0,f1,f2,f3,f4,f5⟩:=hf it (by simp)
  refine wpAny_pyNext_list_item st p.isList (x:=u) (by simpa using hu) fun h' st' sb=>?_
  have I1:Inv X pins σ H { s with heap:=h' }:=I.turned (t':=s.toks) (fun b o hb e=>(sb.2 b hb).trans e) f0 f1 f3 f4 f5
  obtain ⟨o,e,c,d⟩:=id st'
  exact ⟨u,rfl,iP (s:={ s with heap:=h' }) e c d (by decide) ⟨x,H,I1,ru,⟨rfl,fun ys hy=>by rw [I.list_inj hy hq];exact hx⟩,st',fun b hb=>(hf b hb).1⟩⟩
 done:=by
  intro X hP hw hK hc i pins s σ H E I hf st hg
  subst hP hw hK
  obtain ⟨xs,hq,hx⟩:=hg
  obtain ⟨its,rv,p,hz⟩:=I.list hq
  obtain ⟨f0,f1,f2,f3,f4,f5⟩:=hf it (by simp)
  have hl:=rv.length
  exact wpAny_pyNext_list_end (I.ok.hd hc) st p.isList (by simp;omega) fun h' eb=>⟨rfl,I.turned (t':=s.toks) (fun b o hb e=>eb b o hb e) f0 f1 f3 f4 f5⟩
 self:=fun _ _ _ _ _ st h=>wpAny_pyIter_listiter st h
theorem tM {P:Program} {w:World} {K:PySem.W.Frag} {tg:Expr} (a it:Addr):eF P w K tg (fj K a) [it] it (fun i h=>h.IsTupleIter it a i) where
 mem:=by simp
 obj:=fun i h st b hb=>by
  have e:b=it:=by simpa using hb
  subst e
  obtain ⟨o,e,c,d⟩:=st
  exact ⟨o,e,fun v z=>by rw [d] at z;cases z⟩
 keep:=fun i h h' st k=>st.at fun o e=>k it (by simp) o e
 item:=by
  intro X hP hw hK hc i pins s σ H E I hf st hg
  subst hP hw hK
  obtain ⟨xs,x,hq,hx⟩:=hg
  obtain ⟨its,rv,p,hz⟩:=I.tuple hq
  obtain ⟨u,hu,ru⟩:=rv.get hx
  obtain ⟨f0,f1,f2,f3,f4,f5⟩:=hf it (by simp)
  refine wpAny_pyNext_tuple_item st (show s.heap.IsTuple a its.toArray from p) (x:=u) (by simpa using hu) fun h' st' sb=>?_
  have I1:Inv X pins σ H { s with heap:=h' }:=I.turned (t':=s.toks) (fun b o hb e=>(sb.2 b hb).trans e) f0 f1 f3 f4 f5
  obtain ⟨o,e,c,d⟩:=id st'
  exact ⟨u,rfl,iP (s:={ s with heap:=h' }) e c d (by decide) ⟨x,H,I1,ru,⟨rfl,fun ys hy=>by rw [I.tuple_inj hy hq];exact hx⟩,st',fun b hb=>(hf b hb).1⟩⟩
 done:=by
  intro X hP hw hK hc i pins s σ H E I hf st hg
  subst hP hw hK
  obtain ⟨xs,hq,hx⟩:=hg
  obtain ⟨its,rv,p,hz⟩:=I.tuple hq
  obtain ⟨f0,f1,f2,f3,f4,f5⟩:=hf it (by simp)
  have hl:=rv.length
  exact wpAny_pyNext_tuple_end (I.ok.hd hc) st (show s.heap.IsTuple a its.toArray from p) (by simp;omega) fun h' eb=>⟨rfl,I.turned (t':=s.toks) (fun b o hb e=>eb b o hb e) f0 f1 f3 f4 f5⟩
 self:=fun _ _ _ _ _ st h=>wpAny_pyIter_tupleiter st h
theorem tN {P:Program} {w:World} {K:PySem.W.Frag} {tg:Expr} (it:Addr) (lo:Int) (n:Nat):eF P w K tg (dU lo n) [it] it (fun i h=>IsRangeIter h it (lo+(i:Nat)*1) ((n:Int)-(i:Nat)) 1) where
 mem:=by simp
 obj:=fun i h st b hb=>by
  have e:b=it:=by simpa using hb
  subst e
  exact ⟨_,st,fun v z=>by
   have z':Data.fields _=Data.cell v:=z
   cases z'⟩
 keep:=fun i h h' st k=>k it (by simp) _ st
 item:=by
  intro X hP hw hK hc i pins s σ H E I hf st hg
  subst hP hw hK
  obtain ⟨f0,f1,f2,f3,f4,f5⟩:=hf it (by simp)
  have W:=Walks.range (prog:=X.prog) (w:=X.w) (I.ok.hd hc) it lo 1 n
  refine W.item i s _ _ hg st fun v h' tk hv st' kk=>?_
  obtain ⟨t,rfl⟩:=hv
  have I1:Inv X pins σ H { s with heap:=h',toks:=tk }:=I.turned (fun b o hb e=>kk b o (by simpa using hb) e) f0 f1 f3 f4 f5
  refine ⟨_,rfl,iP (s:={ s with heap:=h',toks:=tk }) (n:="range_iterator") st' rfl rfl (by decide) ⟨.int (lo+i),H,I1,⟨t,?_⟩,⟨rfl,rfl⟩,st',fun b hb=>(hf b hb).1⟩⟩
  rw [Int.mul_one]
 done:=by
  intro X hP hw hK hc i pins s σ H E I hf st hg
  subst hP hw hK
  obtain ⟨f0,f1,f2,f3,f4,f5⟩:=hf it (by simp)
  exact wpAny_pyNext_range_end (I.ok.hd hc) st (by have:n<=i:=hg;omega) fun h' eb=>⟨rfl,I.turned (t':=s.toks) (fun b o hb e=>eb b o hb e) f0 f1 f3 f4 f5⟩
 self:=fun _ _ _ _ _ st h=>wpAny_pyIter_rangeiter st h
end L2
namespace L2
open PySem PySem.Spec PyProof.Rows
section
variable {X:Cx} {tg:Expr}
noncomputable def tO (K:PySem.W.Frag) (tl:TE):TI:=fun σ H R=>tl σ H fun x H1=>∃ a,x=.ref a/\(∃ xs,al K H1 a xs)/\R (fi K a) H1
noncomputable def tP (K:PySem.W.Frag) (tl:TE):TI:=fun σ H R=>tl σ H fun x H1=>∃ a,x=.ref a/\(∃ xs,ai K H1 a xs)/\R (fj K a) H1
theorem ck {l:Expr} {tl:TE} (hl:PE X l tl):PI X tg l (tO X.K tl):=by
 intro pins s σ H R I h
 refine ar (hl pins s σ H _ I h) fun v s1 hsl18=>?_
 obtain ⟨x,H1,I1,r1,q1⟩:=hsl18
 obtain ⟨a,e,⟨xs,hq⟩,q⟩:=q1
 subst e
 cases r1
 obtain ⟨its,rv,p,hz⟩:=I1.list hq
 refine wpAny_pyIter_list p.isList ?_
 refine ⟨s1.heap.objs.size,[s1.heap.objs.size],_,_,H1,rfl,I1.kept (t':=s1.toks) fun b o e=>Qd _ e,tL a _,⟨_,Qm _ rfl,rfl,rfl⟩,fun b hb=>?_,q⟩
 have e:b=s1.heap.objs.size:=by simpa using hb
 subst e
 exact I1.fpOk (Qh _) (I1.hok.fresh (Qh _))
theorem eG {l:Expr} {tl:TE} (hl:PE X l tl):PI X tg l (tP X.K tl):=by
 intro pins s σ H R I h
 refine ar (hl pins s σ H _ I h) fun v s1 hsl19=>?_
 obtain ⟨x,H1,I1,r1,q1⟩:=hsl19
 obtain ⟨a,e,⟨xs,hq⟩,q⟩:=q1
 subst e
 cases r1
 obtain ⟨its,rv,p,hz⟩:=I1.tuple hq
 refine wpAny_pyIter_tuple (show s1.heap.IsTuple a its.toArray from p) ?_
 refine ⟨s1.heap.objs.size,[s1.heap.objs.size],_,_,H1,rfl,I1.kept (t':=s1.toks) fun b o e=>Qd _ e,tM a _,⟨_,Qm _ rfl,rfl,rfl⟩,fun b hb=>?_,q⟩
 have e:b=s1.heap.objs.size:=by simpa using hb
 subst e
 exact I1.fpOk (Qh _) (I1.hok.fresh (Qh _))
theorem tQ {pins:List (Addr × Obj)} {σ:St} {H:Hp} {s:Shared} {R:It->Hp->Prop} {E:Value->Shared->Prop} {lo hi:Int} {t u v:Tok} {tk:Nat} (I:Inv X pins σ H s) (h1:-(2 ^ 62)<=lo) (h2:lo<2 ^ 62) (h3:-(2 ^ 62)<=hi) (h4:hi<2 ^ 62)
  (q:R (dU lo (hi-lo).toNat) H):wpAny (model X.prog X.w) X.A (pyIter (.ref s.heap.objs.size)) (mW X pins σ tg R) E { s with heap:=s.heap.push { cls:=.type "range",data:=.fields #[.int lo t,.int hi u,.int 1 v] },toks:=tk }:=by
 refine wpAny_pyIter_range (IsRange.new ..) (small_one h1 h2 h3 h4) ?_
 have I1:Inv X pins σ H { s with heap:=s.heap.push { cls:=.type "range",data:=.fields #[.int lo t,.int hi u,.int 1 v] },toks:=tk }:=I.kept fun b o e=>Qd _ e
 refine ⟨(s.heap.push { cls:=.type "range",data:=.fields #[.int lo t,.int hi u,.int 1 v] }).objs.size,[(s.heap.push { cls:=.type "range",data:=.fields #[.int lo t,.int hi u,.int 1 v] }).objs.size],_,_,H,rfl,
  I1.kept (t':=tk) fun b o e=>Qd _ e,tN _ lo (hi-lo).toNat,?_,fun b hb=>?_,q⟩
 ·have e1:lo+((0:Nat):Int)*1=lo:=by simp
  have e2:(((hi-lo).toNat:Nat):Int)-((0:Nat):Int)=Builtin.Range.rangeSize lo hi 1:=by rw [rangeSize_one];split<;>omega
  show IsRangeIter _ _ (lo+((0:Nat):Int)*1) ((((hi-lo).toNat:Nat):Int)-((0:Nat):Int)) 1
  rw [e1,e2]
  exact Qm _ rfl
 ·have e:b=(s.heap.push { cls:=.type "range",data:=.fields #[.int lo t,.int hi u,.int 1 v] }).objs.size:=by simpa using hb
  subst e
  exact I1.fpOk (Qh _) (I1.hok.fresh (Qh _))
noncomputable def tR (ta:TA):TI:=fun σ H R=>ta σ H fun vs H1=>∃ j:Int,vs=[.int j]/\-(2 ^ 62)<=j/\j<2 ^ 62/\R (dU 0 j.toNat) H1
theorem iQ {a:Expr} {ta:TA} {p pos:Pos} (hg:Gl X "range") (hm:X.mg "range"=none) (ha:PA X [a] ta) (hs:starEach [a] X.env=[(false,eval a X.env)]:=by rfl):PI X tg (.Call (.Name "range" p) [a] [] pos) (tR ta):=by
 intro pins s σ H R I h
 refine Call_ (fQ I hg hm boot_range (PyProof.Rows.callWith_type1 (ar (ha pos pins s σ H _ I h) fun us s1 hsl20=>?_) hs rfl))
 obtain ⟨vs,H1,I1,r1,q1⟩:=hsl20
 obtain ⟨j,e,q1,q2,q⟩:=q1
 subst e
 cases r1 with
 | cons r rr =>
  cases rr
  obtain ⟨t,rfl⟩:=r
  exact call_range_1 (tQ I1 (by omega) (by omega) q1 q2 (by simpa using q))
noncomputable def kc (wi:TI) (g:TG) (tb:TS):TS:=fun D σ H=>wi σ H fun J H1=>∃ W:Nat->Nat->St->Hp->Prop,(∃ m,W 0 m σ H1)/\∀ i m σ H,W i m σ H ->
 (J.stop i H/\D.nx σ H)∨(J.go i H/\∃ N:St->Hp->Prop,(∀ σ' H',N σ' H'->∃ m',m'<m/\W (i+1) m' σ' H')/\∀ x H',J.yld i H x H'->g x σ H' fun σ2 H2=>tb { D with nx:=N,ct:=N,bk:=D.nx } σ2 H2)
noncomputable def fk (fp:List Addr) (h:Heap):List (Addr × Obj):=fp.filterMap fun b=>(h.get? b).map fun o=>(b,o)
theorem eI {fp:List Addr} {h:Heap} {b:Addr} {o:Obj} (hb:b∈fp) (e:h.get? b=some o):(b,o)∈fk fp h:=List.mem_filterMap.mpr ⟨b,hb,by rw [e];rfl⟩
theorem mX {fp:List Addr} {h:Heap} {p:Addr × Obj} (hp:p∈fk fp h):p.1∈fp/\h.get? p.1=some p.2:=by
 obtain ⟨b,hb,e⟩:=List.mem_filterMap.mp hp
 cases q:h.get? b with
 | none=>rw [q] at e;cases e
 | some o =>
  rw [q] at e
  have e':(b,o)=p:=Qj e
  subst e'
  exact ⟨hb,q⟩
theorem Inv.pinned {pins:List (Addr × Obj)} {σ:St} {H:Hp} {s:Shared} {fp:List Addr} (I:Inv X pins σ H s) (hf:∀ b∈fp,b4 X pins H b) (ho:∀ b∈fp,∃ o,s.heap.get? b=some o/\∀ v,o.data≠.cell v):Inv X (pins++fk fp s.heap) σ H s :=
 I.pins_of fun p hp=>(QC hp).elim (fun z=>I.pin p (List.mem_append_right _ z)) fun z=>by
  obtain ⟨hb,e⟩:=mX z
  obtain ⟨f0,f1,f2,_⟩:=hf p.1 hb
  obtain ⟨o,e',d⟩:=ho p.1 hb
  rw [e] at e';cases e'
  exact ⟨e,f0,f1,f2,d⟩
theorem Inv.unpinned {pins pl:List (Addr × Obj)} {σ:St} {H:Hp} {s:Shared} (I:Inv X (pins++pl) σ H s):Inv X pins σ H s:=I.pins_of fun p hp=>I.pin p (List.mem_append_right _ (List.mem_append_left _ hp))
theorem cG {iter:Expr} {body:List Stmt} {wi:TI} {g:TG} {tb:TS} {pos:Pos} (hp:PassesOwn (model X.prog X.w) X.A X.env X.xe) (hc:X.calm=true) (hi:PI X tg iter wi) (hg:PG X tg g) (hb:dt X body tb)
  (hs:∀ x,foldedSetIterable iter X.env x=pure x:=by intro _;rfl):PS X (.For tg iter body [] pos) (kc wi g tb):=by
 intro pins s σ H D I h
 refine wpAny_For (ar (hi pins s σ H _ I h) fun v s1 h1=>ar h1 fun itv s2 h2=>?_) hs
 obtain ⟨it,fp,tn,J,H2,e,I2,T,st2,f2,W,⟨m0,w0⟩,turn⟩:=h2
 subst e
 have stat:∀ {H':Hp},(∀ b∈fp,H' b=none)->∀ b∈fp,b4 X pins H' b:=fun hn b hb=>⟨hn b hb,(f2 b hb).2⟩
 refine codeAny_forLoop_any (fun n s'=>∃ i σ' H',Inv X pins σ' H' s'/\tn i s'.heap/\(∀ b∈fp,H' b=none)/\W i n σ' H') ?_ m0 ⟨0,σ,H2,I2,st2,fun b hb=>(f2 b hb).1,w0⟩
 rintro n s3 ⟨i,σ3,H3,I3,st3,fr3,w3⟩
 rcases turn i n σ3 H3 w3 with ⟨stop,qn⟩ | ⟨go,N,hN,step⟩
 ·refine wpAny_passesOwn hp (ar (T.done X rfl rfl rfl hc i pins s3 σ3 H3 X.xe I3 (stat fr3) st3 stop) fun r s4 hsl21=>?_)
  obtain ⟨hr,I4⟩:=hsl21
  subst hr
  exact wpAny_execs_nil ⟨σ3,H3,I4,qn⟩
 ·refine wpAny_passesOwn hp (ar (T.item X rfl rfl rfl hc i pins s3 σ3 H3 X.xe I3 (stat fr3) st3 go) fun r s4 hsl22=>?_)
  obtain ⟨u,hr,h4⟩:=hsl22
  subst hr
  refine wpAny_passesOwn hp (ar h4 fun _ s5 hsl23=>?_)
  obtain ⟨x,H5,I5,r5,y5,st5,fr5⟩:=hsl23
  have I5':=I5.pinned (stat fr5) (T.obj _ _ st5)
  refine wpAny_passesOwn hp (ar (hg _ s5 σ3 H5 x u _ I5' r5 (step x H5 y5)) fun _ s6 hsl24=>?_)
  obtain ⟨σ6,H6,I6,q6⟩:=hsl24
  refine wpAny_passesOwn hp (ar (hb _ s6 σ6 H6 _ I6 q6) fun f s7 q7=>?_)
  have again:∀ {σ7:St} {H7:Hp},Inv X (pins++fk fp s5.heap) σ7 H7 s7->N σ7 H7->∃ m,m<n/\∃ i σ' H',Inv X pins σ' H' s7/\tn i s7.heap/\(∀ b∈fp,H' b=none)/\W i m σ' H':=fun {σ7 H7} I7 n7=>by
   obtain ⟨m',hm,w7⟩:=hN σ7 H7 n7
   refine ⟨m',hm,i+1,σ7,H7,I7.unpinned,T.keep _ _ _ st5 fun b hb o e=>(I7.pin (b,o) (List.mem_append_right _ (List.mem_append_right _ (eI hb e)))).1,fun b hb=>?_,w7⟩
   obtain ⟨o,e,d⟩:=T.obj _ _ st5 b hb
   exact (I7.pin (b,o) (List.mem_append_right _ (List.mem_append_right _ (eI hb e)))).2.1
  cases f with
  | next=>obtain ⟨σ7,H7,I7,n7⟩:=q7;exact again I7 n7
  | cont=>obtain ⟨σ7,H7,I7,n7⟩:=q7;exact again I7 n7
  | brk=>obtain ⟨σ7,H7,I7,q7⟩:=q7;exact ⟨σ7,H7,I7.unpinned,q7⟩
  | ret v=>obtain ⟨x7,σ7,H7,I7,r7,q7⟩:=q7;exact ⟨x7,σ7,H7,I7.unpinned,r7,q7⟩
end
theorem dF {K:PySem.W.Frag} {a:Addr} {xs:List V} {g:TG} {tb:TS} {D:dr} {σ:St} {H:Hp} (Pv:Nat->St->Hp->Prop) (h0:Pv 0 σ H) (hl:∀ i σ H,i<=xs.length->Pv i σ H->al K H a xs)
  (hs:∀ i x σ H,xs[i]?=some x->Pv i σ H->g x σ H fun σ2 H2=>tb { D with nx:=Pv (i+1),ct:=Pv (i+1),bk:=D.nx } σ2 H2) (hd:∀ σ H,Pv xs.length σ H->D.nx σ H) :
  ∃ W:Nat->Nat->St->Hp->Prop,(∃ m,W 0 m σ H)/\∀ i m σ H,W i m σ H ->
   ((fi K a).stop i H/\D.nx σ H)∨((fi K a).go i H/\∃ N:St->Hp->Prop,(∀ σ' H',N σ' H'->∃ m',m'<m/\W (i+1) m' σ' H')/\∀ x H',(fi K a).yld i H x H'->g x σ H' fun σ2 H2=>tb { D with nx:=N,ct:=N,bk:=D.nx } σ2 H2):=by
 refine ⟨fun i m σ H=>m=xs.length-i/\i<=xs.length/\Pv i σ H,⟨xs.length,by simp,Qs _,h0⟩,?_⟩
 rintro i m σ H ⟨rfl,hi,p⟩
 have q:=hl i σ H hi p
 by_cases hlt:i<xs.length
 ·refine .inr ⟨⟨xs,xs[i],q,by simp [hlt]⟩,Pv (i+1),fun σ' H' p'=>⟨xs.length-(i+1),by omega,rfl,hlt,p'⟩,fun x H' y=>?_⟩
  obtain ⟨e,y⟩:=y
  subst e
  exact hs i x σ _ (y xs q) p
 ·have e:i=xs.length:=by omega
  subst e
  exact .inl ⟨⟨xs,q,Qh _⟩,hd σ H p⟩
theorem mY {K:PySem.W.Frag} {a:Addr} {xs:List V} {g:TG} {tb:TS} {D:dr} {σ:St} {H:Hp} (Pv:Nat->St->Hp->Prop) (h0:Pv 0 σ H) (hl:∀ i σ H,i<=xs.length->Pv i σ H->ai K H a xs)
  (hs:∀ i x σ H,xs[i]?=some x->Pv i σ H->g x σ H fun σ2 H2=>tb { D with nx:=Pv (i+1),ct:=Pv (i+1),bk:=D.nx } σ2 H2) (hd:∀ σ H,Pv xs.length σ H->D.nx σ H) :
  ∃ W:Nat->Nat->St->Hp->Prop,(∃ m,W 0 m σ H)/\∀ i m σ H,W i m σ H ->
   ((fj K a).stop i H/\D.nx σ H)∨((fj K a).go i H/\∃ N:St->Hp->Prop,(∀ σ' H',N σ' H'->∃ m',m'<m/\W (i+1) m' σ' H')/\∀ x H',(fj K a).yld i H x H'->g x σ H' fun σ2 H2=>tb { D with nx:=N,ct:=N,bk:=D.nx } σ2 H2):=by
 refine ⟨fun i m σ H=>m=xs.length-i/\i<=xs.length/\Pv i σ H,⟨xs.length,by simp,Qs _,h0⟩,?_⟩
 rintro i m σ H ⟨rfl,hi,p⟩
 have q:=hl i σ H hi p
 by_cases hlt:i<xs.length
 ·refine .inr ⟨⟨xs,xs[i],q,by simp [hlt]⟩,Pv (i+1),fun σ' H' p'=>⟨xs.length-(i+1),by omega,rfl,hlt,p'⟩,fun x H' y=>?_⟩
  obtain ⟨e,y⟩:=y
  subst e
  exact hs i x σ _ (y xs q) p
 ·have e:i=xs.length:=by omega
  subst e
  exact .inl ⟨⟨xs,q,Qh _⟩,hd σ H p⟩
theorem tS {lo:Int} {n:Nat} {g:TG} {tb:TS} {D:dr} {σ:St} {H:Hp} (Pv:Nat->St->Hp->Prop) (h0:Pv 0 σ H)
  (hs:∀ i σ H,i<n->Pv i σ H->g (.int (lo+i)) σ H fun σ2 H2=>tb { D with nx:=Pv (i+1),ct:=Pv (i+1),bk:=D.nx } σ2 H2) (hd:∀ σ H,Pv n σ H->D.nx σ H) :
  ∃ W:Nat->Nat->St->Hp->Prop,(∃ m,W 0 m σ H)/\∀ i m σ H,W i m σ H ->
   ((dU lo n).stop i H/\D.nx σ H)∨((dU lo n).go i H/\∃ N:St->Hp->Prop,(∀ σ' H',N σ' H'->∃ m',m'<m/\W (i+1) m' σ' H')/\∀ x H',(dU lo n).yld i H x H'->g x σ H' fun σ2 H2=>tb { D with nx:=N,ct:=N,bk:=D.nx } σ2 H2):=by
 refine ⟨fun i m σ H=>m=n-i/\i<=n/\Pv i σ H,⟨n,by simp,Qs _,h0⟩,?_⟩
 rintro i m σ H ⟨rfl,hi,p⟩
 by_cases hlt:i<n
 ·refine .inr ⟨hlt,Pv (i+1),fun σ' H' p'=>⟨n-(i+1),by omega,rfl,hlt,p'⟩,fun x H' y=>?_⟩
  obtain ⟨e,y⟩:=y
  subst e y
  exact hs i σ _ hlt p
 ·have e:i=n:=by omega
  subst e
  exact .inl ⟨Qh _,hd σ H p⟩
end L2
namespace L2
open PySem PySem.Spec PyProof.Rows
noncomputable abbrev R2:=V->V->Hp->VK->Prop
noncomputable def bv (X:Cx) (f:Value->Value->Sem Value) (r:R2):Prop :=
 ∀ (pins:List (Addr × Obj)) (s:Shared) (σ:St) (H:Hp) (x y:V) (v u:Value) (Q:VK),Inv X pins σ H s->RelV x v->RelV y u->r x y H Q ->
  wpAny (model X.prog X.w) X.A (f v u) (EP X pins σ Q) X.xe s
noncomputable def ke (X:Cx) (f:Value->Sem Value) (r:V->Hp->VK->Prop):Prop :=
 ∀ (pins:List (Addr × Obj)) (s:Shared) (σ:St) (H:Hp) (x:V) (v:Value) (Q:VK),Inv X pins σ H s->RelV x v->r x H Q ->
  wpAny (model X.prog X.w) X.A (f v) (EP X pins σ Q) X.xe s
noncomputable def dG (X:Cx) (f:Value) (r:List V->Hp->VK->Prop):Prop :=
 ∀ (pins:List (Addr × Obj)) (s:Shared) (σ:St) (H:Hp) (xs:List V) (us:List Value) (Q:VK),Inv X pins σ H s->ao xs us->r xs H Q ->
  wpAny (model X.prog X.w) X.A (call f us) (EP X pins σ Q) X.xe s
noncomputable def iR (r:R2) (ta tb:TE):TE:=fun σ H Q=>ta σ H fun x H1=>tb σ H1 fun y H2=>r x y H2 Q
noncomputable def tT (r:V->Hp->VK->Prop) (ta:TE):TE:=fun σ H Q=>ta σ H fun x H1=>r x H1 Q
noncomputable def rI (C:Int->Int->Prop) (g:Int->Int->V):R2:=fun x y H Q=>∃ i j,x=.int i/\y=.int j/\C i j/\Q (g i j) H
noncomputable def ef (g:Int->Int->V):R2:=fun x y H Q=>∃ i j,x=.int i/\y=.int j/\Q (g i j) H
noncomputable def rU (g:Int->V):V->Hp->VK->Prop:=fun x H Q=>∃ i,x=.int i/\Q (g i) H
section
variable {X:Cx} {a b c:Expr} {ta tb tc:TE} {pos:Pos}
theorem kg (ha:PE X a ta) (hb:PE X b tb) {pins:List (Addr × Obj)} {s:Shared} {σ:St} {H:Hp} {R:V->V->Hp->Prop} (I:Inv X pins σ H s)
  (h:ta σ H fun x H1=>tb σ H1 fun y H2=>R x y H2) {Q:Value->Shared->Prop} {f:Value->Value->Sem Value}
  (hf:∀ v u s2 x y H2,Inv X pins σ H2 s2->RelV x v->RelV y u->R x y H2->wpAny (model X.prog X.w) X.A (f v u) Q X.xe s2) :
  wpAny (model X.prog X.w) X.A (eval a X.env) (fun v s₁=>wpAny (model X.prog X.w) X.A (eval b X.env) (fun u s₂=>wpAny (model X.prog X.w) X.A (f v u) Q X.xe s₂) X.xe s₁) X.xe s:=by
 refine ar (ha pins s σ H _ I h) fun v s1 hsl25=>?_
 obtain ⟨x,H1,I1,r1,q1⟩:=hsl25
 refine ar (hb pins s1 σ H1 _ I1 q1) fun u s2 hsl26=>?_
 obtain ⟨y,H2,I2,r2,q2⟩:=hsl26
 exact hf v u s2 x y H2 I2 r1 r2 q2
theorem aB {op:Operator} {r:R2} (ho:bv X (binaryOp op) r) (ha:PE X a ta) (hb:PE X b tb):PE X (.BinOp a op b pos) (iR r ta tb):=by
 intro pins s σ H Q I h
 exact wpAny_BinOp (kg ha hb I h fun v u s2 x y H2 I2 rx ry q=>ho pins s2 σ H2 x y v u Q I2 rx ry q)
theorem tU {op:UnaryOp} {r:V->Hp->VK->Prop} (ho:ke X (unaryOp op) r) (ha:PE X a ta):PE X (.UnaryOp op a pos) (tT r ta):=by
 intro pins s σ H Q I h
 exact UnaryOp_ (ar (ha pins s σ H _ I h) fun v s1 hsl27=>by obtain ⟨x,H1,I1,r1,q1⟩:=hsl27;exact ho pins s1 σ H1 x v Q I1 r1 q1)
theorem iS {f:Value->Value->Sem Value} {C:Int->Int->Prop} {g:Int->Int->Int}
  (rule:∀ (i j:Int) (t u:Tok) (s:Shared) (Q:Value->Shared->Prop) (E:Value->Shared->Prop),C i j->Q (.int (g i j) s.toks) { s with toks:=s.toks+1 }->wpAny (model X.prog X.w) X.A (f (.int i t) (.int j u)) Q E s) :
  bv X f (rI C fun i j=>.int (g i j)):=by
 intro pins s σ H x y v u Q I rx ry h
 obtain ⟨i,j,rfl,rfl,hc,q⟩:=h
 obtain ⟨t,rfl⟩:=rx
 obtain ⟨t',rfl⟩:=ry
 exact rule i j t t' s _ _ hc ⟨.int (g i j),H,I.tok _,⟨_,rfl⟩,q⟩
theorem gL {f:Value->Value->Sem Value} {g:Int->Int->Int}
  (rule:∀ (i j:Int) (t u:Tok) (s:Shared) (Q:Value->Shared->Prop) (E:Value->Shared->Prop),Q (.int (g i j) s.toks) { s with toks:=s.toks+1 }->wpAny (model X.prog X.w) X.A (f (.int i t) (.int j u)) Q E s) :
  bv X f (ef fun i j=>.int (g i j)):=by
 intro pins s σ H x y v u Q I rx ry h
 obtain ⟨i,j,rfl,rfl,q⟩:=h
 obtain ⟨t,rfl⟩:=rx
 obtain ⟨t',rfl⟩:=ry
 exact rule i j t t' s _ _ ⟨.int (g i j),H,I.tok _,⟨_,rfl⟩,q⟩
theorem mZ {f:Value->Value->Sem Value} {g:Int->Int->Bool}
  (rule:∀ (i j:Int) (t u:Tok) (s:Shared) (Q:Value->Shared->Prop) (E:Value->Shared->Prop),Q (.bool (g i j)) s->wpAny (model X.prog X.w) X.A (f (.int i t) (.int j u)) Q E s) :
  bv X f (ef fun i j=>.bl (g i j)):=by
 intro pins s σ H x y v u Q I rx ry h
 obtain ⟨i,j,rfl,rfl,q⟩:=h
 obtain ⟨t,rfl⟩:=rx
 obtain ⟨t',rfl⟩:=ry
 exact rule i j t t' s _ _ ⟨.bl (g i j),H,I,rfl,q⟩
noncomputable def tV (i j:Int):Prop:=0<j/\j<1073741824
noncomputable def tW (i j:Int):Prop:=0<=j/\j<=1000000/\i.natAbs<2 ^ 64
noncomputable def kh (i j:Int):Prop:=(-(2 ^ 64)<i/\i<2 ^ 64)∨(-(2 ^ 64)<j/\j<2 ^ 64)
theorem kh.ok {i j:Int} (h:kh i j):IntMulOk i j:=by
 rcases h with ⟨h1,h2⟩ | ⟨h1,h2⟩
 ·exact .of_left (intBits_le_64 h1 h2)
 ·exact .of_right (intBits_le_64 h1 h2)
theorem ei:bv X (binaryOp .Add) (ef fun i j=>.int (i+j)):=gL fun _ _ _ _ _ _ _ q=>add_int q
theorem iT:bv X (binaryOp .Sub) (ef fun i j=>.int (i-j)):=gL fun _ _ _ _ _ _ _ q=>sub_int q
theorem gM:bv X (binaryOp .Mult) (rI kh fun i j=>.int (i*j)):=iS fun _ _ _ _ _ _ _ hc q=>mul_int q hc.ok
theorem dH:bv X (binaryOp .FloorDiv) (rI tV fun i j=>.int (i / j)):=iS fun i j _ _ _ _ _ hc q=>by
 have h1:(0:Int)<j:=hc.1
 have h2:j<1073741824:=hc.2
 exact floordiv_int (by omega) (by rw [Int.fdiv_eq_ediv_of_nonneg i (by omega)];exact q) (.inl (PyProof.noPylong_small (by omega)))
theorem bR:bv X (binaryOp .Mod) (rI (fun _ j=>0<j) fun i j=>.int (i % j)):=iS fun i j _ _ _ _ _ hc q=>by
 have h1:(0:Int)<j:=hc
 exact mod_int' (by omega) (by rw [Int.fmod_eq_emod_of_nonneg i (by omega)];exact q)
theorem tX:bv X (binaryOp .Pow) (rI tW fun i j=>.int (i ^ j.toNat)):=iS fun _ _ _ _ _ _ _ hc q=>pow_int_small hc.1 hc.2.1 hc.2.2 q
theorem fR:bv X (binaryOp .BitAnd) (ef fun i j=>.int (Builtin.bitAnd i j)):=gL fun _ _ _ _ _ _ _ q=>and_int q
theorem m4:bv X (binaryOp .BitOr) (ef fun i j=>.int (Builtin.bitOr i j)):=gL fun _ _ _ _ _ _ _ q=>or_int q
theorem m5:bv X (binaryOp .BitXor) (ef fun i j=>.int (Builtin.bitXor i j)):=gL fun _ _ _ _ _ _ _ q=>xor_int q
theorem tY {f:Value->Sem Value} {g:Int->Int}
  (rule:∀ (i:Int) (t:Tok) (s:Shared) (Q:Value->Shared->Prop) (E:Value->Shared->Prop),Q (.int (g i) s.toks) { s with toks:=s.toks+1 }->wpAny (model X.prog X.w) X.A (f (.int i t)) Q E s) :
  ke X f (rU fun i=>.int (g i)):=by
 intro pins s σ H x v Q I rx h
 obtain ⟨i,rfl,q⟩:=h
 obtain ⟨t,rfl⟩:=rx
 exact rule i t s _ _ ⟨.int (g i),H,I.tok _,⟨_,rfl⟩,q⟩
theorem tZ:ke X (unaryOp .USub) (rU fun i=>.int (-i)):=tY fun _ _ _ _ _ q=>neg_int q
end
noncomputable def m6:V->V->Bool
 | .non,.non=>true | .non,.int _=>true | .int _,.non=>true | .non,.bl _=>true | .bl _,.non=>true | .non,.str _=>true | .str _,.non=>true
 | .int _,.int _=>true | .bl _,.bl _=>true | .str _,.str _=>true | .byt _,.byt _=>true
 | .int _,.str _=>true | .str _,.int _=>true | .bl _,.str _=>true | .str _,.bl _=>true
 | _,_=>false
noncomputable def ua:R2:=fun x y H Q=>m6 x y=true/\Q (.bl (decide (x=y))) H
noncomputable def ub:R2:=fun x y H Q=>m6 x y=true/\Q (.bl (!decide (x=y))) H
theorem gN {i j:Int}:decide (V.int i=V.int j)=(i == j):=by
 rw [Bool.eq_iff_iff]
 simp
theorem m7 {i j:Bool}:decide (V.bl i=V.bl j)=(i == j):=by
 rw [Bool.eq_iff_iff]
 simp
theorem m8 {i j:Str}:decide (V.str i=V.str j)=(i == j):=by
 rw [Bool.eq_iff_iff]
 simp
theorem m9 {i j:Array UInt8}:decide (V.byt i=V.byt j)=(i.toList == j.toList):=by
 rw [Bool.eq_iff_iff]
 cases i
 cases j
 simp
section
variable {X:Cx} {a b c:Expr} {ta tb tc:TE} {pos:Pos}
theorem br {pins:List (Addr × Obj)} {σ:St} {H:Hp} {s:Shared} {Q:VK} {k k':Bool} (I:Inv X pins σ H s) (q:Q (.bl k) H) (e:k=k'):EP X pins σ Q (.bool k') s:=by
 subst e
 exact ⟨.bl k,H,I,rfl,q⟩
theorem cf:bv X (compareOp .Eq) ua:=by
 intro pins s σ H x y v u Q I rx ry h
 obtain ⟨hs,q⟩:=h
 cases x with
 | non =>
  cases rx
  cases y with
  | non=>cases ry;exact PySem.EqNone.eq_none_none (br I q (by simp))
  | bl j=>cases ry;exact PySem.EqNone.eq_none_bool (br I q (by simp))
  | int j=>obtain ⟨t',rfl⟩:=ry;exact PySem.EqNone.eq_none_int (br I q (by simp))
  | str j=>obtain ⟨t',rfl⟩:=ry;exact PySem.EqNone.eq_none_str (br I q (by simp))
  | _=>exact absurd (show false=true from hs) Bool.false_ne_true
 | bl i =>
  cases rx
  cases y with
  | non=>cases ry;exact PySem.EqNone.eq_bool_none (br I q (by simp))
  | bl j=>cases ry;exact eq_bool (br I q m7)
  | str j=>obtain ⟨t',rfl⟩:=ry;exact PySem.EqMixed.eq_bool_str (br I q (by simp))
  | _=>exact absurd (show false=true from hs) Bool.false_ne_true
 | int i =>
  obtain ⟨t,rfl⟩:=rx
  cases y with
  | non=>cases ry;exact PySem.EqNone.eq_int_none (br I q (by simp))
  | int j=>obtain ⟨t',rfl⟩:=ry;exact eq_int (br I q gN)
  | str j=>obtain ⟨t',rfl⟩:=ry;exact PySem.EqMixed.eq_int_str (br I q (by simp))
  | _=>exact absurd (show false=true from hs) Bool.false_ne_true
 | str i =>
  obtain ⟨t,rfl⟩:=rx
  cases y with
  | non=>cases ry;exact PySem.EqNone.eq_str_none (br I q (by simp))
  | bl j=>cases ry;exact PySem.EqMixed.eq_str_bool (br I q (by simp))
  | int j=>obtain ⟨t',rfl⟩:=ry;exact PySem.EqMixed.eq_str_int (br I q (by simp))
  | str j=>obtain ⟨t',rfl⟩:=ry;exact eq_str (br I q m8)
  | _=>exact absurd (show false=true from hs) Bool.false_ne_true
 | byt i =>
  obtain ⟨t,rfl⟩:=rx
  cases y with
  | byt j=>obtain ⟨t',rfl⟩:=ry;exact PySem.W.eq_bytes (br I q m9)
  | _=>exact absurd (show false=true from hs) Bool.false_ne_true
 | _=>cases y<;>exact absurd (show false=true from hs) Bool.false_ne_true
theorem eA:bv X (compareOp .NotEq) ub:=by
 intro pins s σ H x y v u Q I rx ry h
 obtain ⟨hs,q⟩:=h
 cases x with
 | non =>
  cases rx
  cases y with
  | non=>cases ry;exact PySem.EqNone.ne_none_none (br I q (by simp))
  | bl j=>cases ry;exact PySem.EqNone.ne_none_bool (br I q (by simp))
  | int j=>obtain ⟨t',rfl⟩:=ry;exact PySem.EqNone.ne_none_int (br I q (by simp))
  | str j=>obtain ⟨t',rfl⟩:=ry;exact PySem.EqNone.ne_none_str (br I q (by simp))
  | _=>exact absurd (show false=true from hs) Bool.false_ne_true
 | bl i =>
  cases rx
  cases y with
  | non=>cases ry;exact PySem.EqNone.ne_bool_none (br I q (by simp))
  | bl j=>cases ry;exact ne_bool (br I q (congrArg not m7))
  | str j=>obtain ⟨t',rfl⟩:=ry;exact PySem.EqMixed.ne_bool_str (br I q (by simp))
  | _=>exact absurd (show false=true from hs) Bool.false_ne_true
 | int i =>
  obtain ⟨t,rfl⟩:=rx
  cases y with
  | non=>cases ry;exact PySem.EqNone.ne_int_none (br I q (by simp))
  | int j=>obtain ⟨t',rfl⟩:=ry;exact ne_int (br I q (congrArg not gN))
  | str j=>obtain ⟨t',rfl⟩:=ry;exact PySem.EqMixed.ne_int_str (br I q (by simp))
  | _=>exact absurd (show false=true from hs) Bool.false_ne_true
 | str i =>
  obtain ⟨t,rfl⟩:=rx
  cases y with
  | non=>cases ry;exact PySem.EqNone.ne_str_none (br I q (by simp))
  | bl j=>cases ry;exact PySem.EqMixed.ne_str_bool (br I q (by simp))
  | int j=>obtain ⟨t',rfl⟩:=ry;exact PySem.EqMixed.ne_str_int (br I q (by simp))
  | str j=>obtain ⟨t',rfl⟩:=ry;exact ne_str (br I q (congrArg not m8))
  | _=>exact absurd (show false=true from hs) Bool.false_ne_true
 | byt i =>
  obtain ⟨t,rfl⟩:=rx
  cases y with
  | byt j=>obtain ⟨t',rfl⟩:=ry;exact PySem.W.ne_bytes (br I q (congrArg not m9))
  | _=>exact absurd (show false=true from hs) Bool.false_ne_true
 | _=>cases y<;>exact absurd (show false=true from hs) Bool.false_ne_true
theorem ki:bv X (compareOp .Lt) (ef fun i j=>.bl (decide (i<j))):=mZ fun _ _ _ _ _ _ _ q=>lt_int q
theorem uc:bv X (compareOp .Gt) (ef fun i j=>.bl (decide (j<i))):=mZ fun _ _ _ _ _ _ _ q=>gt_int q
theorem bb (b:Expr) {op:CmpOp} (h:op≠.In:=by decide) (h2:op≠.NotIn:=by decide):behindInMarks op b=false:=by
 have e1:(op == CmpOp.In)=false:=by cases op<;>first | rfl | exact absurd rfl h
 have e2:(op == CmpOp.NotIn)=false:=by cases op<;>first | rfl | exact absurd rfl h2
 cases b<;>simp [behindInMarks,e1,e2]
theorem ud {op:CmpOp} {r:R2} (ho:bv X (compareOp op) r) (ha:PE X a ta) (hb:PE X b tb) (hm:behindInMarks op b=false):PE X (.Compare a [op] [b] pos) (iR r ta tb):=by
 intro pins s σ H Q I h
 exact wpAny_Compare1 (kg ha hb I h fun v u s2 x y H2 I2 rx ry q=>ho pins s2 σ H2 x y v u Q I2 rx ry q) hm
noncomputable def ue (t:TE):TT:=fun σ H Q=>t σ H fun x H'=>∃ k,x=.bl k/\Q k H'
theorem aU {op:CmpOp} {r:R2} (ho:bv X (compareOp op) r) (ha:PE X a ta) (hb:PE X b tb) (hm:behindInMarks op b=false):PT X (.Compare a [op] [b] pos) (ue (iR r ta tb)):=by
 intro pins s σ H Q I h
 refine wpAny_isTrue_Compare1 (ar (ha pins s σ H _ I h) fun v s1 ⟨x,H1,I1,r1,q1⟩=>ar (hb pins s1 σ H1 _ I1 q1) fun u s2 ⟨y,H2,I2,r2,q2⟩ =>
  ar (ho pins s2 σ H2 x y v u _ I2 r1 r2 q2) fun c s3 ⟨z,H3,I3,r3,k,e,q3⟩=>?_) hm
 subst e
 cases r3
 exact wpAny_truthy_bool ⟨H3,I3,q3⟩
theorem fS:(sizeLine:Nat)<2 ^ 63:=by rw [sizeLine_eq];decide
theorem iU:bv X (binaryOp .Add) (fun x y H Q=>∃ i j,x=.str i/\y=.str j/\i.length+j.length<=sizeLine/\Q (.str (i++j)) H):=by
 intro pins s σ H x y v u Q I rx ry h
 obtain ⟨i,j,rfl,rfl,hz,q⟩:=h
 obtain ⟨t,rfl⟩:=rx
 obtain ⟨t',rfl⟩:=ry
 exact add_str (fun t' tk=>⟨.str (i++j),H,I.tok _,⟨_,rfl⟩,q⟩) hz
theorem vals1 {x:V} {us:List Value} (r:ao [x] us):∃ u,us=[u]/\RelV x u:=by
 cases r with
 | cons r1 r2=>cases r2;exact ⟨_,rfl,r1⟩
theorem vals2 {x y:V} {us:List Value} (r:ao [x,y] us):∃ u w',us=[u,w']/\RelV x u/\RelV y w':=by
 cases r with
 | cons r1 r2 =>
  cases r2 with
  | cons r3 r4=>cases r4;exact ⟨_,_,rfl,r1,r3⟩
end
end L2
namespace L2
open PySem PySem.Spec PyProof.Rows
structure fm (h:Heap) (x dx C:Addr) (mA:Str->Option Value):Prop where
 obj:h.get? x=some (PySem.W.instObj C dx)
 ns:h.Ns1 dx mA
 ne:dx≠x
theorem uf {h:Heap} {dx:Addr} {mA:Str->Option Value} (n:h.Ns1 dx mA):∃ od,h.get? dx=some od/\∀ name,PySem.W.lookIn name od=some (mA name):=by
 obtain ⟨o,es,ep,ho,hd,hk,_,hm⟩:=n
 refine ⟨o,ho,fun name=>?_⟩
 have e:=hm name
 unfold nsFind findBy at e
 rw [<- Array.find?_toList] at e
 unfold PySem.W.lookIn
 rw [hd]
 dsimp only
 split
 ·rename_i y q
  rw [q] at e
  exact congrArg some e
 ·rename_i q
  rw [q] at e
  have a:es.toList.any (·.refKey)=false:=by
   rw [List.any_eq_false]
   intro y hy
   obtain ⟨z,t,hkey⟩:=hk y (Array.mem_toList_iff.mp hy)
   simp [DictEntry.refKey,hkey]
  have a':¬ es.toList.any (·.refKey)=true:=by rw [a];exact Bool.false_ne_true
  rw [if_neg a']
  exact congrArg some e
theorem fm.look {h:Heap} {x dx C:Addr} {mA:Str->Option Value} (I:fm h x dx C mA):∃ od,PySem.W.InstAt h x (PySem.W.instObj C dx) C (some od)/\∀ name,PySem.W.lookIn name od=some (mA name) :=
 let ⟨od,ho,hl⟩:=uf I.ns
 ⟨od,⟨I.obj,rfl,rfl,ho⟩,hl⟩
section
variable {prog:Program} {w:World} {A:Around} {E:Value->Shared->Prop} {s:Shared} {K:PySem.W.Frag} {x dx C f:Addr} {mA:Str->Option Value} {name:Str} {v:Value}
theorem ug {expr:Bool} {Q:Value->Shared->Prop} (X:K.In s.heap) (I:fm s.heap x dx C mA) (hg:PySem.W.plainGet K C name=true) (hh:PySem.W.hasDictIn K C=true)
  (ha:PySem.W.findIn K (.ref C) name=some none) (hv:mA name=some v) (hv':PySem.W.handedIn v=true) (h:Q v { s with toks:=s.toks+1 }) :
  wpAny (model prog w) A (getAttr (.ref x) name expr) Q E s:=by
 obtain ⟨od,J,hl⟩:=I.look
 exact PySem.W.get_value X J (PySem.W.plainGet_of hg).1 (PySem.W.findObj_own hh ha rfl (by rw [hl,hv])) hv' h
theorem uh {pl:Sem Bool} {Q:Value × List Value->Shared->Prop} (X:K.In s.heap) (I:fm s.heap x dx C mA) (hg:PySem.W.plainGet K C name=true)
  (hf:PySem.W.findIn K (.ref C) name=some (some (.ref f))) (ht:PySem.W.isFn K (.ref f)=true) (hv:mA name=none) (h:Q (.ref f,[.ref x]) s) :
  wpAny (model prog w) A (getMethod (.ref x) name pl) Q E s:=by
 obtain ⟨od,J,hl⟩:=I.look
 exact PySem.W.method_fn X J (PySem.W.plainGet_of hg).1 (PySem.W.plainGet_of hg).2 hf (beq_iff_eq.mp ht) (by show (PySem.W.lookIn name od).map (·.isSome)=some false;rw [hl,hv];rfl) h
theorem ui {ns:List Str} {Q:Unit->Shared->Prop} (X:K.In s.heap) (I:fm s.heap x dx C mA)
  (hs:PySem.W.findIn K (.ref C) "__setattr__"=some (some (.builtin "object.__setattr__"))) (hp:PySem.W.plainOver K C=true) (ht:PySem.W.takerIn K C name=some none) (hh:PySem.W.hasDictIn K C=true)
  (hw:PySem.Within mA ns) (hsz:ns.length<=sizeLine)
  (h:∀ h',fm h' x dx C (fun y=>if y=name then some v else mA y)->Heap.SameBut dx s.heap h'->Q () { s with heap:=h',toks:=s.toks+2 }) :
  wpAny (model prog w) A (setAttr (.ref x) name v) Q E s:=by
 obtain ⟨od,J,hl⟩:=I.look
 refine PySem.W.set_plain X J hs (PySem.W.osa_open (s:={ s with toks:=s.toks+1 }) (r:=none) X J hp ht fun b=>?_)
 obtain ⟨cd,hc,hd'⟩:=PySem.W.any_some hh
 have hx:s.heap.get? x=some ⟨.ref C,some dx,.plain,#[]⟩:=I.obj
 refine Qa (Qc (Qa (Qa (wpAny_loadPart hx (Qa (PySem.W.Looks.here (s:={ s with toks:=s.toks+1 }) (PySem.W.looks_clsIn X hc) ?_))))))
 rw [hd']
 refine Qc (a:=some dx) (Qa (Qc (Qa ?_)))
 refine wpAny_nsSet1 (s:={ s with toks:=s.toks+1 }) I.ns fun h' hn2 hs2=>?_
 obtain ⟨oD,esD,epD,hoD,hdD,hcD⟩:=hn2.count (PySem.Within.cons name v hw)
 refine Qa (wpAny_lookBehind hoD (by rw [hdD];exact pastItsLine_dict (QD hcD (by rw [List.length_cons];omega))) ?_)
 exact Qc (h _ ⟨(hs2.2 _ (Ne.symm I.ne)).trans I.obj,hn2,I.ne⟩ hs2)
theorem uj {R:Result->Shared->Prop} {vs:List Value} {kw:List (Str × Value)} (X:K.In s.heap) (hm:PySem.W.makesIn K C=true)
  (hi:PySem.W.findIn K (.ref C) "__init__"=some (some (.ref f))) (hf:PySem.W.typeIn K (.ref f)=some (.type "function"))
  (h:codeAny (model prog w) (A.under (.builtin "type.__call__" ⟨.ref C::vs,kw⟩)) (.call (.ref f) ⟨.ref (s.heap.objs.size+1)::vs,kw⟩) (PySem.W.InitBack (s.heap.objs.size+1) R)
   { s with heap:=(s.heap.push PySem.W.emptyDict).push (PySem.W.instObj C s.heap.objs.size) }) :
  codeAny (model prog w) A (.call (.ref C) ⟨vs,kw⟩) R s:=by
 obtain ⟨hh,g,d,t,os⟩:=s
 exact PySem.W.make_core (PySem.W.makes_of X hm) (PySem.W.looks_findIn X hi) (fun self=>PySem.W.bind_fn X self hf) (.inl rfl) h
end
noncomputable def cz (f:Str) (v:V):List (Str × V)->List (Str × V)
 | []=>[(f,v)]
 | (g,x)::r=>if g=f then (g,v)::r else (g,x)::cz f v r
theorem ng (f g:Str) (v:V):∀ fs:List (Str × V),(cz f v fs).lookup g=if g=f then some v else fs.lookup g
 | []=>by
  show List.lookup g [(f,v)]=_
  by_cases h:g=f
  ·have hb:(g == f)=true:=beq_iff_eq.mpr h
   simp only [List.lookup,hb,if_pos h]
  ·have hb:(g == f)=false:=beq_eq_false_iff_ne.mpr h
   simp only [List.lookup,hb,if_neg h]
 | (k,x)::r=>by
  have ih:=ng f g v r
  rw [show cz f v ((k,x)::r)=(if k=f then (k,v)::r else (k,x)::cz f v r) from rfl]
  by_cases hk:k=f
  ·rw [if_pos hk]
   by_cases h:g=k
   ·have hb:(g == k)=true:=beq_iff_eq.mpr h
    simp only [List.lookup,hb,if_pos (h.trans hk)]
   ·have hb:(g == k)=false:=beq_eq_false_iff_ne.mpr h
    simp only [List.lookup,hb,if_neg (fun e:g=f=>h (e.trans hk.symm))]
  ·rw [if_neg hk]
   by_cases h:g=k
   ·have hb:(g == k)=true:=beq_iff_eq.mpr h
    simp only [List.lookup,hb,if_neg (fun e:g=f=>hk (h.symm.trans e))]
   ·have hb:(g == k)=false:=beq_eq_false_iff_ne.mpr h
    simp only [List.lookup,hb]
    exact ih
theorem kj (f:Str) (v:V):∀ fs:List (Str × V),f∈(cz f v fs).map (·.1)/\∀ g,g∈fs.map (·.1)->g∈(cz f v fs).map (·.1)
 | []=>⟨by simp [cz],fun g h=>by simp at h⟩
 | (k,x)::r=>by
  obtain ⟨i1,i2⟩:=kj f v r
  rw [show cz f v ((k,x)::r)=(if k=f then (k,v)::r else (k,x)::cz f v r) from rfl]
  by_cases hk:k=f
  ·rw [if_pos hk]
   subst hk
   exact ⟨by simp,fun g h=>by simpa using h⟩
  ·rw [if_neg hk]
   refine ⟨?_,fun g h=>?_⟩
   ·rw [List.map_cons]
    exact Qn _ i1
   ·rw [List.map_cons] at h ⊢
    rcases Ql h with e | e
    ·exact List.mem_cons.mpr (.inl e)
    ·exact Qn _ (i2 g e)
theorem nh (f:Str) (v:V):∀ fs:List (Str × V),(cz f v fs).length<=fs.length+1
 | []=>by simp [cz]
 | (k,x)::r=>by
  have ih:=nh f v r
  rw [show cz f v ((k,x)::r)=(if k=f then (k,v)::r else (k,x)::cz f v r) from rfl]
  by_cases hk:k=f
  ·rw [if_pos hk,List.length_cons,List.length_cons];omega
  ·rw [if_neg hk,List.length_cons,List.length_cons];omega
theorem cc.some_of {v:V} {o:Option Value} (r:cc (some v) o):∃ u,o=some u/\RelV v u:=by
 cases o with
 | none=>exact (show False from r).elim
 | some u=>exact ⟨u,rfl,r⟩
theorem cc.none_of {o:Option Value} (r:cc none o):o=none:=by
 cases o with
 | none=>rfl
 | some u=>exact (show False from r).elim
theorem uk {v:V} {u:Value} (r:RelV v u):PySem.W.handedIn u=true:=by
 cases v with
 | non=>cases (show u=Value.none from r);rfl
 | bl b=>cases (show u=Value.bool b from r);rfl
 | int i=>obtain ⟨t,e⟩:=(show ∃ t,u=Value.int i t from r);cases e;rfl
 | str x=>obtain ⟨t,e⟩:=(show ∃ t,u=Value.str x t from r);cases e;rfl
 | byt b=>obtain ⟨t,e⟩:=(show ∃ t,u=Value.bytes b t from r);cases e;rfl
 | flt b=>obtain ⟨t,e⟩:=(show ∃ t,u=Value.float b t from r);cases e;rfl
 | ref a=>cases (show u=Value.ref a from r);rfl
 | ty n=>cases (show u=Value.type n from r);rfl
section
variable {P:Program} {w:World} {H H':Hp} {h h':Heap} {a C dx:Addr} {fs fs':List (Str × V)}
theorem iV (hok:bh P w H h) (e:H a=some (.ins C dx fs)):∃ mA,fm h a dx C mA/\(∀ f,cc (fs.lookup f) (mA f))/\PySem.Within mA (fs.map (·.1))/\fs.length<=1000/\H dx=some (.own a):=by
 obtain ⟨d,z,ne,ob,mA,n,r,q⟩:=(show bp P w H h a (.ins C dx fs) from hok a _ e)
 exact ⟨mA,⟨ob,n,ne⟩,r,q,z,d⟩
end
structure dW (K:PySem.W.Frag) (C:Addr):Prop where
 pg:PySem.W.plainGet K C Str.empty=true
 hd:PySem.W.hasDictIn K C=true
 po:PySem.W.plainOver K C=true
 sa:PySem.W.findIn K (.ref C) "__setattr__"=some (some (.builtin "object.__setattr__"))
theorem dW.get {K:PySem.W.Frag} {C:Addr} (c:dW K C) (f:Str):PySem.W.plainGet K C f=true:=c.pg
noncomputable def eJ (K:PySem.W.Frag) (C:Addr) (f:Str):Prop:=PySem.W.findIn K (.ref C) f=some none
theorem eJ.taker {K:PySem.W.Frag} {C:Addr} {f:Str} (n:eJ K C f):PySem.W.takerIn K C f=some none:=by
 unfold PySem.W.takerIn
 rw [show PySem.W.findIn K (.ref C) f=some none from n]
 rfl
structure eB (K:PySem.W.Frag) (C:Addr) (m:Str) (f:Addr):Prop where
 at_:PySem.W.findIn K (.ref C) m=some (some (.ref f))
 fn:PySem.W.isFn K (.ref f)=true
 kp:PySem.W.keepIn K (.ref f)=true
section
variable {X:Cx} {pins:List (Addr × Obj)} {σ:St} {H:Hp} {s:Shared} {a C dx:Addr} {fs:List (Str × V)} {f:Str} {v:V} {A:Around} {E:Value->Shared->Prop}
theorem ul {b:Bool} {Q:Value->Shared->Prop} (I:Inv X pins σ H s) (e:H a=some (.ins C dx fs)) (c:dW X.K C) (n:eJ X.K C f) (l:fs.lookup f=some v)
  (h:∀ u s',Inv X pins σ H s'->RelV v u->Q u s'):wpAny (model X.prog X.w) A (getAttr (.ref a) f b) Q E s:=by
 obtain ⟨mA,O,r,_,_,_⟩:=iV I.hok e
 obtain ⟨u,hu,ru⟩:=cc.some_of (v:=v) (o:=mA f) (by rw [<- l];exact r f)
 exact ug I.kIn O (c.get f) c.hd n hu (uk ru) (h u _ (I.tok _) ru)
theorem um {m:Str} {g:Addr} {pl:Sem Bool} {Q:Value × List Value->Shared->Prop} (I:Inv X pins σ H s) (e:H a=some (.ins C dx fs)) (c:dW X.K C) (k:eB X.K C m g) (l:fs.lookup m=none)
  (h:Q (.ref g,[.ref a]) s):wpAny (model X.prog X.w) A (getMethod (.ref a) m pl) Q E s:=by
 obtain ⟨mA,O,r,_,_,_⟩:=iV I.hok e
 have hn:mA m=none:=cc.none_of (by rw [<- l];exact r m)
 exact uh I.kIn O (c.get m) k.at_ k.fn hn h
theorem uo {y:V} {u:Value} {Q:Unit->Shared->Prop} (I:Inv X pins σ H s) (e:H a=some (.ins C dx fs)) (c:dW X.K C) (n:eJ X.K C f) (hl:fs.length<1000) (ry:RelV y u)
  (h:∀ s',Inv X pins σ (af H a (.ins C dx (cz f y fs))) s'->Q () s'):wpAny (model X.prog X.w) A (setAttr (.ref a) f u) Q E s:=by
 obtain ⟨mA,O,r,wi,_,ho⟩:=iV I.hok e
 have hz:(fs.map (·.1)).length<=sizeLine:=by rw [Qg,sizeLine_eq];omega
 refine ui I.kIn O c.sa c.po n.taker c.hd wi hz fun h' O' sb=>h _ ?_
 have hd:∃ o,h'.get? dx=some o:=by obtain ⟨o,_,_,e',_⟩:=O'.ns;exact ⟨o,e'⟩
 refine I.write (x:=a) (e:=dx) (by rw [e];exact True.intro) (.inr ho) (fun b q hb z=>(sb.2 b hb).trans z) hd ?_
 refine ⟨by rw [av O.ne];exact ho,?_,O.ne,O'.obj,_,O'.ns,fun g=>?_,fun g hg=>?_⟩
 ·have:=nh f y fs;omega
 ·show cc ((cz f y fs).lookup g) (if g=f then some u else mA g)
  rw [ng]
  by_cases q:g=f
  ·rw [if_pos q,if_pos q];exact ry
  ·rw [if_neg q,if_neg q];exact r g
 ·by_cases q:g=f
  ·rw [q];exact (kj f y fs).1
  ·refine (kj f y fs).2 g (wi g fun z=>hg ?_)
   show (if g=f then some u else mA g)=none
   rw [if_neg q];exact z
theorem Inv.made (I:Inv X pins σ H s):Inv X pins σ (af (af H s.heap.objs.size (.own (s.heap.objs.size+1))) (s.heap.objs.size+1) (.ins C s.heap.objs.size []))
  { s with heap:=(s.heap.push PySem.W.emptyDict).push (PySem.W.instObj C s.heap.objs.size) }:=by
 have e1:(s.heap.push PySem.W.emptyDict).get? s.heap.objs.size=some PySem.W.emptyDict:=Qm s.heap rfl
 have e2:((s.heap.push PySem.W.emptyDict).push (PySem.W.instObj C s.heap.objs.size)).get? (s.heap.objs.size+1)=some (PySem.W.instObj C s.heap.objs.size):=by
  have:=Qm (s.heap.push PySem.W.emptyDict) (o:=PySem.W.instObj C s.heap.objs.size) rfl
  rwa [Heap.size_push] at this
 have e3:(s.heap.push PySem.W.emptyDict).Ns s.heap.objs.size (fun _=>none):=⟨PySem.W.emptyDict,#[],_,e1,rfl,(fun e he=>absurd he (by simp)),fun _=>rfl⟩
 have I1:=I.laid (a:=s.heap.objs.size) (o:=.own (s.heap.objs.size+1)) (h':=s.heap.push PySem.W.emptyDict) (t':=s.toks) (fun b u q=>Qd _ q) (Qh _) ⟨_,e1⟩
 refine I1.laid (a:=s.heap.objs.size+1) (o:=.ins C s.heap.objs.size []) (t':=s.toks) (fun b u q=>Qd _ q) (Nat.le_of_eq (Heap.size_push _ _)) ?_
 have ne:s.heap.objs.size≠s.heap.objs.size+1:=Qz (Nat.lt_succ_self _)
 refine ⟨by rw [av ne,aj],Qs _,ne,e2,fun _=>none,(Heap.Ns1.of_empty e3).at fun o q=>Qd _ q,fun _=>True.intro,fun y hy=>absurd rfl hy⟩
theorem uq {prog:Program} {w:World} {env:Env} {e:Expr} {f:Str} {pos:Pos} {s:Shared} {Q:Value->Shared->Prop} (hb:attributeBase e f env (eval e env)=eval e env)
  (h:wpAny (model prog w) A (eval e env) (fun o s₁=>wpAny (model prog w) A (getAttr o f true) Q E s₁) E s):wpAny (model prog w) A (eval (.Attribute e f pos) env) Q E s :=
 Attribute_any_ h (by rw [arm_eval_Attribute,hb])
end
noncomputable def ur (K:PySem.W.Frag) (ta:TE) (f:Str):TE:=fun σ H Q=>ta σ H fun x H1=>∃ a C dx fs v,x=.ref a/\H1 a=some (.ins C dx fs)/\dW K C/\eJ K C f/\fs.lookup f=some v/\Q v H1
noncomputable def ut (K:PySem.W.Frag) (ta tv:TE) (f:Str):TS:=fun D σ H=>tv σ H fun y H1=>ta σ H1 fun x H2=>∃ a C dx fs,x=.ref a/\H2 a=some (.ins C dx fs)/\dW K C/\eJ K C f/\fs.length<1000 /\
 D.nx σ (af H2 a (.ins C dx (cz f y fs)))
section
variable {X:Cx} {o e value:Expr} {f:Str} {pos pos' tpos:Pos} {ta tv:TE}
theorem iW (he:PE X e ta) (hb:attributeBase e f X.env (eval e X.env)=eval e X.env):PE X (.Attribute e f pos) (ur X.K ta f):=by
 intro pins s σ H Q I h
 refine uq hb (ar (he pins s σ H _ I h) fun u s1 hsl28=>?_)
 obtain ⟨x,H1,I1,rx,a,C,dx,fs,v,ex,ea,c,n,l,q⟩:=hsl28
 subst ex
 obtain rfl:u=Value.ref a:=rx
 exact ul I1 ea c n l fun u' s2 I2 ru=>⟨v,H1,I2,ru,q⟩
theorem ni (ha:PE X o ta) (hv:PE X value tv) (hs:swapsWith value (some (.Attribute o f pos')) pos.line X.env=pure false):PS X (.Assign [.Attribute o f pos'] value pos) (ut X.K ta tv f):=by
 intro pins s σ H D I h
 refine plainObj_wpAny_Assign_Attribute (ar (hv pins s σ H _ I h) fun u s1 ⟨y,H1,I1,ry,q⟩=>ar (ha pins s1 σ H1 _ I1 q) fun ov s2 hsl29=>?_) hs
 obtain ⟨x,H2,I2,rx,a,C,dx,fs,ex,ea,c,n,l,q2⟩:=hsl29
 subst ex
 obtain rfl:ov=Value.ref a:=rx
 exact uo I2 ea c n l ry fun s3 I3=>⟨σ,_,I3,q2⟩
end
section
variable {X:Cx} {pins:List (Addr × Obj)} {σ:St} {H:Hp} {s:Shared} {A:Around} {E:Value->Shared->Prop} {Q:Value->Shared->Prop} {c:Value} {b:Bool}
inductive cm (K:PySem.W.Frag) (H:Hp):V->Value->Prop where
 | non:cm K H .non (.type "NoneType")
 | bl (x:Bool):cm K H (.bl x) (.type "bool")
 | int (i:Int):cm K H (.int i) (.type "int")
 | str (x:Str):cm K H (.str x) (.type "str")
 | flt (x:UInt64):cm K H (.flt x) (.type "float")
 | lst {a:Addr} {xs:List V} (e:H a=some (.lst xs)):cm K H (.ref a) (.type "list")
 | frz {a:Addr} {o:Obj} {xs:List V} (e:H a=some (.frz o (.lst xs))):cm K H (.ref a) (.type "list")
 | tup {a:Addr} {xs:List V} (e:H a=some (.tup xs)):cm K H (.ref a) (.type "tuple")
 | dK {a:Addr} {kvs:List (aa × V)} (e:H a=some (.dK kvs)):cm K H (.ref a) (.type "dict")
 | dT {a:Addr} {kvs:List (List aa × V)} (e:H a=some (.dT kvs)):cm K H (.ref a) (.type "dict")
 | ins {a C dx:Addr} {fs:List (Str × V)} (e:H a=some (.ins C dx fs)) (cl:dW K C) (ha:PySem.W.findIn K (.ref C) "__class__"=some (some (.builtin "object.__class__")))
   (hn:PySem.W.specialIn K (.builtin "object.__class__") "__get__"=some (some (.builtin "getset_descriptor.__get__"))) (htk:PySem.W.takesIn K (.builtin "object.__class__")=some true)
   (hm:PySem.W.mroIn K C (.type "object")=some true):cm K H (.ref a) (.ref C)
theorem uv {x:V} {u t:Value} (I:Inv X pins σ H s) (rx:RelV x u) (ty:cm X.K H x t) (e:PySem.W.kitOne X.K t c=some b) (h:∀ tk,Q (.bool b) { s with toks:=tk }) :
  wpAny (model X.prog X.w) A (call (.builtin "isinstance") [u,c]) Q E s:=by
 cases ty with
 | non=>cases (show u=Value.none from rx);exact PySem.W.kia_one PySem.W.kitx_none I.kIn True.intro e (fun z=>nomatch z) h
 | bl y=>cases (show u=Value.bool y from rx);exact PySem.W.kia_one PySem.W.kitx_bool I.kIn True.intro e (fun z=>nomatch z) h
 | int i=>obtain ⟨t,q⟩:=(show ∃ t,u=Value.int i t from rx);cases q;exact PySem.W.kia_one PySem.W.kitx_int I.kIn True.intro e (fun z=>nomatch z) h
 | str y=>obtain ⟨t,q⟩:=(show ∃ t,u=Value.str y t from rx);cases q;exact PySem.W.kia_one PySem.W.kitx_str I.kIn True.intro e (fun z=>nomatch z) h
 | flt y=>obtain ⟨t,q⟩:=(show ∃ t,u=Value.float y t from rx);cases q;exact PySem.W.kia_one PySem.W.kitx_float I.kIn True.intro e (fun z=>nomatch z) h
 | @lst a xs ea =>
  cases (show u=Value.ref a from rx)
  obtain ⟨_,_,n,_,h1⟩:=(show bp X.prog X.w H s.heap a (.lst xs) from I.hok a _ ea)
  exact PySem.W.kia_one PySem.W.kitx_list I.kIn ⟨_,h1,rfl⟩ e (fun z=>nomatch z) h
 | @frz a ob xs ea =>
  cases (show u=Value.ref a from rx)
  obtain ⟨_,_,_,n,_,h1⟩:=(show bp X.prog X.w H s.heap a (.frz ob (.lst xs)) from I.hok a _ ea)
  exact PySem.W.kia_one PySem.W.kitx_list I.kIn ⟨_,h1,rfl⟩ e (fun z=>nomatch z) h
 | @tup a xs ea =>
  cases (show u=Value.ref a from rx)
  obtain ⟨_,_,_,p,_⟩:=(show bp X.prog X.w H s.heap a (.tup xs) from I.hok a _ ea)
  obtain ⟨o,h1,h2,_⟩:=p
  exact PySem.W.kia_one PySem.W.kitx_tuple I.kIn ⟨o,h1,h2⟩ e (fun z=>nomatch z) h
 | @dK a kvs ea =>
  cases (show u=Value.ref a from rx)
  obtain ⟨_,_,vs,_,p⟩:=(show bp X.prog X.w H s.heap a (.dK kvs) from I.hok a _ ea)
  obtain ⟨o,es,ep,h1,h2,_⟩:=p
  exact PySem.W.kia_one PySem.W.kitx_dict I.kIn ⟨o,h1,h2.1⟩ e (fun z=>nomatch z) h
 | @dT a kvs ea =>
  cases (show u=Value.ref a from rx)
  obtain ⟨_,_,xs,_,o,es,ep,h1,h2,_⟩:=(show bp X.prog X.w H s.heap a (.dT kvs) from I.hok a _ ea)
  exact PySem.W.kia_one PySem.W.kitx_dict I.kIn ⟨o,h1,h2.1⟩ e (fun z=>nomatch z) h
 | @ins a C dx fs ea cl ha hn htk hm =>
  cases (show u=Value.ref a from rx)
  obtain ⟨mA,O,_⟩:=iV I.hok ea
  obtain ⟨od,J,_⟩:=O.look
  exact PySem.W.kia_one (PySem.W.kitx_own (cl.get _) cl.hd ha hn htk hm) I.kIn J e (fun z=>nomatch z) h
end
end L2
namespace L2
open PySem PySem.Spec PyProof.Rows
structure aw (k:Nat) (A:Around):Prop where
 hd:A.handled=none
 dp:A.depth+3*k+5<recursionLimit
 un:A.units+16*k+200<cLine
theorem aw.mono {j k:Nat} {A:Around} (r:aw k A) (h:j<=k):aw j A:=⟨r.hd,by have:=r.dp;omega,by have:=r.un;omega⟩
theorem aw.deeper {k:Nat} {A:Around} (r:aw (k+1) A) (env:Env):aw k (A.deeper env) :=
 ⟨r.hd,by have:=r.dp;show A.depth+1+3*k+5<_;omega,by have:=r.un;show A.units+3+16*k+200<_;omega⟩
theorem aw.in1 {k:Nat} {A:Around} (r:aw (k+1) A):aw k A.in1 :=
 ⟨r.hd,by have:=r.dp;show A.depth+3*k+5<_;omega,by have:=r.un;show A.units+1+16*k+200<_;omega⟩
theorem uw {A:Around} {C:Addr} {us:List Value} {kw:List (Str × Value)}:(A.under (.builtin "type.__call__" ⟨.ref C::us,kw⟩)).depth=A.depth+1:=by
 first | rfl | simp [Around.under,Code.weight,Code.isCreation,Code.isGuard,Code.isCaller,Code.frames,Code.isFrame,guardIds]
theorem ux {A:Around} {C:Addr} {us:List Value} {kw:List (Str × Value)}:(A.under (.builtin "type.__call__" ⟨.ref C::us,kw⟩)).units=A.units+1:=by
 first | rfl | simp [Around.under,Code.cUnits,Code.frames,Code.isFrame]
theorem aw.make {k:Nat} {A:Around} (r:aw (k+1) A) (C:Addr) (us:List Value) (kw:List (Str × Value)):aw k (A.under (.builtin "type.__call__" ⟨.ref C::us,kw⟩)) :=
 ⟨r.hd,by have:=r.dp;rw [uw];omega,by have:=r.un;rw [ux];omega⟩
theorem aw.depth {k:Nat} {A:Around} (r:aw k A):A.depth<recursionLimit:=by have:=r.dp;omega
theorem aw.units {k:Nat} {A:Around} (r:aw k A):A.units+64<cLine:=by have:=r.un;omega
noncomputable def nj:TA:=fun _ H Q=>Q [] H
noncomputable def nk (ta:TE) (tr:TA):TA:=fun σ H Q=>ta σ H fun x H1=>tr σ H1 fun xs H2=>Q (x::xs) H2
section
variable {X:Cx} {e:Expr} {es:List Expr} {te:TE} {t:TA} {pos:Pos}
theorem ag:PA X [] nj:=fun _ _ _ _ H Q I h=>Calls.spliced_nil ⟨[],H,I,.nil,h⟩
theorem ae (ha:PE X e te) (hr:PA X es t) (hs:starEach (e::es) X.env=(false,eval e X.env)::starEach es X.env:=by rfl):PA X (e::es) (nk te t):=by
 intro pos pins s σ H Q I h
 rw [hs]
 show wpAny _ _ (spliced ((false,eval e X.env)::backTo pos (starEach es X.env))) _ _ s
 refine Calls.spliced_cons (ar (ha pins s σ H _ I h) fun u s1 hsl31=>?_)
 obtain ⟨x,H1,I1,r1,q1⟩:=hsl31
 exact ar (hr pos pins s1 σ H1 _ I1 q1) fun us s2 hsl32=>by obtain ⟨xs,H2,I2,r2,q2⟩:=hsl32;exact ⟨x::xs,H2,I2,.cons r1 r2,q2⟩
noncomputable def uy (t:TA):TE:=fun σ H Q=>t σ H fun xs H1=>xs.length<=sizeLine/\∀ p,H1 p=none->Q (.ref p) (af H1 p (.tup xs))
noncomputable def uz (t:TA):TE:=fun σ H Q=>t σ H fun xs H1=>xs.length<=sizeLine/\∀ p,H1 p=none->Q (.ref p) (af H1 p (.lst xs))
theorem bm {x1} (h:PA X es t):PE X (.Tuple es x1 pos) (uy t):=by
 intro pins s σ H Q I hq
 refine wpAny_Tuple_spliced (ar (h pos pins s σ H _ I hq) fun us s1 ⟨xs,H1,I1,r,z,q⟩=>⟨by rw [<- r.length];exact z,?_⟩)
 have hf:H1 s1.heap.objs.size=none:=I1.hok.fresh (Qh _)
 refine ⟨.ref s1.heap.objs.size,af H1 s1.heap.objs.size (.tup xs),I1.laid (t':=s1.toks) (fun b u e=>Qd _ e) (Qh _) ?_,rfl,q _ hf⟩
 exact ⟨z,us,r,⟨_,Qm _ rfl,rfl,_,rfl⟩,_,Qm _ rfl,rfl⟩
theorem b5 (h:PA X es t):PE X (.List es pos) (uz t):=by
 intro pins s σ H Q I hq
 refine wpAny_List_spliced (ar (h pos pins s σ H _ I hq) fun us s1 ⟨xs,H1,I1,r,z,q⟩=>⟨by rw [<- r.length];exact z,?_⟩)
 have hf:H1 s1.heap.objs.size=none:=I1.hok.fresh (Qh _)
 refine ⟨.ref s1.heap.objs.size,af H1 s1.heap.objs.size (.lst xs),I1.laid (t':=s1.toks) (fun b u e=>Qd _ e) (Qh _) ?_,rfl,q _ hf⟩
 exact ⟨z,us,0,r,Qm _ rfl⟩
end
noncomputable abbrev Sp:=List V->Hp->VK->XK->Prop
noncomputable abbrev cT:=List Env->Hp->Shared->XK->Value->Shared->Prop
structure dv (P:Program) (w:World) (K:PySem.W.Frag) (mg:Str->Option Value) (base:Heap) (A:Around) (outer:List Env) (s:Shared) (H:Hp):Prop where
 frames:A.frames=some outer
 mod:Mod K mg base
 bs:∀ b o,base.get? b=some o->s.heap.get? b=some o/\H b=none
 bsz:base.objs.size<=s.heap.objs.size
 funs:s.heap.FunFrames base outer
 frf:∀ b∈cZ outer,H b=none
 hok:bh P w H s.heap
 bare:AllBare s.gens
noncomputable def CE (outer:List Env) (P:Program) (w:World) (H:Hp) (s:Shared) (Q:VK) (u:Value) (s':Shared):Prop :=
 ∃ v H',s'.os=s.os/\AllBare s'.gens/\Un (cZ outer) [] H H' s.heap s'.heap/\bh P w H' s'.heap/\RelV v u/\Q v H'
noncomputable def CR (CX:cT) (outer:List Env) (P:Program) (w:World) (H:Hp) (s:Shared) (Q:VK) (E:XK) (r:Result) (s':Shared):Prop :=
 match r with
 | .ok (.ret u)=>CE outer P w H s Q u s'
 | .ok _=>False
 | .error e=>CX outer H s E e s'
structure az (P:Program) (w:World) (K:PySem.W.Frag) (mg:Str->Option Value) (base:Heap) (CX:cT) (k:Nat) (f:Addr) (fd:FuncData) (ps:List Str) (sp:Sp):Prop where
 len:∀ vs H Q E,sp vs H Q E->vs.length=ps.length
 run:∀ (A:Around) (outer:List Env) (s:Shared) (H:Hp) (args:Args) (us:List Value) (vs:List V) (Q:VK) (E:XK),aw k A->dv P w K mg base A outer s H->BindsTo s fd args (ps.zip us)->ao vs us->sp vs H Q E ->
  codeAny (model P w) A (.call (.ref f) args) (CR CX outer P w H s Q E) s
theorem dv.make {P:Program} {w:World} {K:PySem.W.Frag} {mg:Str->Option Value} {base:Heap} {A:Around} {outer:List Env} {s:Shared} {H:Hp} (e:dv P w K mg base A outer s H) (C:Addr) (us:List Value) (kw:List (Str × Value)) :
  dv P w K mg base (A.under (.builtin "type.__call__" ⟨.ref C::us,kw⟩)) outer s H:=⟨by first | exact e.frames | (simpa [Around.under,Code.envs,Code.isFrame,pushEnvs] using e.frames),e.mod,e.bs,e.bsz,e.funs,e.frf,e.hok,e.bare⟩
theorem dv.in1 {P:Program} {w:World} {K:PySem.W.Frag} {mg:Str->Option Value} {base:Heap} {A:Around} {outer:List Env} {s:Shared} {H:Hp} (e:dv P w K mg base A outer s H) :
  dv P w K mg base A.in1 outer s H:=⟨e.frames,e.mod,e.bs,e.bsz,e.funs,e.frf,e.hok,e.bare⟩
section
variable {X:Cx} {pins:List (Addr × Obj)} {σ:St} {H:Hp} {s s':Shared}
theorem Inv.env0 (I:Inv X pins σ H s):dv X.prog X.w X.K X.mg X.base X.A X.stack s H :=
 ⟨I.ok.frames,I.ok.mod,I.bs,QD I.ok.bsz I.sz,I.stack,I.stkFree,I.hok,I.bare⟩
theorem Inv.after {Q:VK} {u:Value} (I:Inv X pins σ H s) (h:CE X.stack X.prog X.w H s Q u s'):EP X pins σ Q u s':=by
 obtain ⟨v,H',os,bare,un,hok,r,q⟩:=h
 obtain ⟨hh,g,d,t,os'⟩:=s'
 obtain rfl:os'=s.os:=os
 exact ⟨v,H',I.call (h':=hh) (g':=g) (d':=d) (t':=t) (ch:=[]) un hok bare (fun b z=>absurd z (by simp)),r,q⟩
end
noncomputable def uA (sp:Sp) (dvs:List V) (E:XK) (t:TA):TE:=fun σ H Q=>t σ H fun vs H1=>sp (vs++dvs) H1 Q E
noncomputable def uB (C:Addr) (m:Str) (sp:Sp) (dvs:List V) (E:XK) (ta:TE) (t:TA):TE:=fun σ H Q=>ta σ H fun x H1=>∃ a dx fs,x=.ref a/\H1 a=some (.ins C dx fs)/\fs.lookup m=none /\
 t σ H1 fun vs H2=>sp (x::(vs++dvs)) H2 Q E
noncomputable def uC (C:Addr) (sp:Sp) (dvs:List V) (E:XK) (t:TA):TE:=fun σ H Q=>t σ H fun vs H1=>∀ x dx,H1 x=none->H1 dx=none->dx≠x ->
 sp (.ref x::(vs++dvs)) (af (af H1 dx (.own x)) x (.ins C dx [])) (fun v H2=>v=.non/\Q (.ref x) H2) E
noncomputable def Binds (K:PySem.W.Frag) (fd:FuncData) (ps:List Str) (ds:List Value):Prop :=
 ∀ (s:Shared) (us:List Value),K.In s.heap->(us++ds).length=ps.length->BindsTo s fd ⟨us,[]⟩ (ps.zip (us++ds))
theorem Binds.all {K:PySem.W.Frag} {fd:FuncData} {ps:List Str} (h:∀ us:List Value,us.length=ps.length->bindArgs fd ⟨us,[]⟩=pure (ps.zip us)):Binds K fd ps []:=fun s us _ hl=>by
 rw [List.append_nil] at hl ⊢
 exact .of_eq (h us hl)
noncomputable def fT (CX:cT) (X:Cx) (E:XK):Prop:=∀ (pins:List (Addr × Obj)) (σ:St) (H:Hp) (s:Shared) (e:Value) (s':Shared),Inv X pins σ H s->CX X.stack H s E e s'->X.xe e s'
section
variable {X:Cx} {CX:cT} {k:Nat} {f C:Addr} {fd:FuncData} {ps:List Str} {sp:Sp} {dvs:List V} {ds:List Value} {E:XK} {x m:Str} {p pos apos:Pos} {e o:Expr} {es:List Expr} {ta:TE} {t:TA}
theorem nq {pins:List (Addr × Obj)} {σ:St} {H:Hp} {s:Shared} {Q:VK} {us:List Value} {vs:List V} (F:az X.prog X.w X.K X.mg X.base CX k f fd ps sp) (hr:aw k X.A) (hb:Binds X.K fd ps ds) (hd:ao dvs ds) (hx:fT CX X E)
  (I:Inv X pins σ H s) (r:ao vs us) (h:sp (vs++dvs) H Q E):wpAny (model X.prog X.w) X.A (call (.ref f) us) (EP X pins σ Q) X.xe s:=by
 have r2:ao (vs++dvs) (us++ds):=r.append hd
 have hl:(us++ds).length=ps.length:=by rw [<- r2.length];exact F.len _ _ _ _ h
 refine wpAny_call (codeAny_mono (F.run X.A X.stack s H ⟨us,[]⟩ (us++ds) (vs++dvs) Q E hr I.env0 (hb s us I.kIn hl) r2 h) fun r s' hq=>?_)
 cases r with
 | error e=>exact hx pins σ H s e s' I hq
 | ok fl =>
  cases fl with
  | ret u=>exact I.after hq
  | next=>exact False.elim hq
  | brk=>exact False.elim hq
  | cont=>exact False.elim hq
theorem aN (F:az X.prog X.w X.K X.mg X.base CX k f fd ps sp) (hr:aw k X.A) (hg:Gl X x) (hm:X.mg x=some (.ref f)) (hk:PySem.W.keepIn X.K (.ref f)=true) (hb:Binds X.K fd ps ds) (hd:ao dvs ds) (hx:fT CX X E)
  (ha:PA X (e::es) t) (hdb:(x == ("__debug__":Str))=false:=by decide) (he:starEach (e::es) X.env=(false,eval e X.env)::starEach es X.env:=by rfl) (hpl:(backTo pos (starEach es X.env)).any (·.1)=false:=by rfl) :
  PE X (.Call (.Name x p) (e::es) [] pos) (uA sp dvs E t):=by
 intro pins s σ H Q I h
 refine wpAny_Call_Name_kw (iN I hg hm ?_ hdb)
 refine PySem.W.callWith_K (h₀:=X.base) I.ok.mod.kin hk (ar (ha pos pins s σ H _ I h) fun us s1 ⟨vs,H1,I1,r,q⟩=>⟨I1.kIn,?_⟩) he hpl
 exact nq F hr hb hd hx I1 r q
theorem cH {pl:Sem Bool} (he:PE X o ta) (c:dW X.K C) (hm:eB X.K C m f) (F:az X.prog X.w X.K X.mg X.base CX k f fd ps sp) (hr:aw k X.A) (hb:Binds X.K fd ps ds) (hd:ao dvs ds) (hx:fT CX X E) (ha:PA X (e::es) t)
  (hst:starEach (e::es) X.env=(false,eval e X.env)::starEach es X.env:=by rfl) (hpl:(backTo pos (starEach es X.env)).any (·.1)=false:=by rfl)
  (ht:eval (.Call (.Attribute o m apos) (e::es) [] pos) X.env=(do
   let ov <- eval o X.env
   standAt apos.atName
   let (f,first) <- holding [ov] (getMethod ov m pl)
   callWith pos f first (backTo pos (starEach (e::es) X.env)) (backToKw pos (keywordEach [] X.env))):=by rfl) :
  PE X (.Call (.Attribute o m apos) (e::es) [] pos) (uB C m sp dvs E ta t):=by
 intro pins s σ H Q I h
 refine PySem.W.methodCall_KW (pl:=pl) (ar (he pins s σ H _ I h) fun u s1 hsl33=>?_) ht
 obtain ⟨x,H1,I1,rx,a,dx,fs,ex,ea,l,q⟩:=hsl33
 subst ex
 obtain rfl:u=Value.ref a:=rx
 refine um I1 ea c hm l ?_
 refine PySem.W.callWith_K (first:=[.ref a]) (h₀:=X.base) I.ok.mod.kin hm.kp (ar (ha pos pins s1 σ H1 _ I1 q) fun us s2 ⟨vs,H2,I2,r,q2⟩=>⟨I2.kIn,?_⟩) hst hpl
 exact nq (us:=.ref a::us) (vs:=.ref a::vs) F hr hb hd hx I2 (.cons rfl r) q2
structure Mk (K:PySem.W.Frag) (C f:Addr):Prop where
 makes:PySem.W.makesIn K C=true
 init:PySem.W.findIn K (.ref C) "__init__"=some (some (.ref f))
 fn:PySem.W.isFn K (.ref f)=true
 kp:PySem.W.keepIn K (.ref C)=true
theorem uD {pins:List (Addr × Obj)} {σ:St} {H:Hp} {s:Shared} {Q:VK} {us:List Value} {vs:List V} (M:Mk X.K C f) (F:az X.prog X.w X.K X.mg X.base CX k f fd ps sp) (hr:aw (k+1) X.A) (hb:Binds X.K fd ps ds) (hd:ao dvs ds)
  (hx:fT CX X E) (I:Inv X pins σ H s) (r:ao vs us)
  (h:∀ x dx,H x=none->H dx=none->dx≠x->sp (.ref x::(vs++dvs)) (af (af H dx (.own x)) x (.ins C dx [])) (fun v H2=>v=.non/\Q (.ref x) H2) E) :
  wpAny (model X.prog X.w) X.A (call (.ref C) us) (EP X pins σ Q) X.xe s:=by
 have hq:=h (s.heap.objs.size+1) s.heap.objs.size (I.hok.fresh (Nat.le_succ _)) (I.hok.fresh (Qh _)) (Qz (Nat.lt_succ_self _))
 have I2:=Inv.made (C:=C) I
 have r2:ao (V.ref (s.heap.objs.size+1)::(vs++dvs)) (Value.ref (s.heap.objs.size+1)::(us++ds)):=.cons rfl (r.append hd)
 have hl:(Value.ref (s.heap.objs.size+1)::us++ds).length=ps.length:=by
  have e:=r2.length
  rw [F.len _ _ _ _ hq] at e
  exact e.symm
 refine wpAny_call (uj (f:=f) I.kIn M.makes M.init (beq_iff_eq.mp M.fn) (codeAny_mono (F.run _ X.stack _ _ ⟨Value.ref (s.heap.objs.size+1)::us,[]⟩ (Value.ref (s.heap.objs.size+1)::(us++ds)) _ _ E (hr.make C us [])
  (I2.env0.make C us []) (hb _ (Value.ref (s.heap.objs.size+1)::us) I2.kIn hl) r2 hq) fun r s' hq'=>?_))
 cases r with
 | error e=>exact hx pins σ _ _ e s' I2 hq'
 | ok fl =>
  cases fl with
  | ret u =>
   obtain ⟨v,H',I3,rv,ev,q3⟩:=I2.after hq'
   subst ev
   exact ⟨rv,⟨V.ref (s.heap.objs.size+1),H',I3,rfl,q3⟩⟩
  | next=>exact False.elim hq'
  | brk=>exact False.elim hq'
  | cont=>exact False.elim hq'
theorem uE (M:Mk X.K C f) (F:az X.prog X.w X.K X.mg X.base CX k f fd ps sp) (hr:aw (k+1) X.A) (hg:Gl X x) (hm:X.mg x=some (.ref C)) (hb:Binds X.K fd ps ds) (hd:ao dvs ds) (hx:fT CX X E)
  (ha:PA X (e::es) t) (hdb:(x == ("__debug__":Str))=false:=by decide) (he:starEach (e::es) X.env=(false,eval e X.env)::starEach es X.env:=by rfl) (hpl:(backTo pos (starEach es X.env)).any (·.1)=false:=by rfl) :
  PE X (.Call (.Name x p) (e::es) [] pos) (uC C sp dvs E t):=by
 intro pins s σ H Q I h
 refine wpAny_Call_Name_kw (iN I hg hm ?_ hdb)
 refine PySem.W.callWith_K (h₀:=X.base) I.ok.mod.kin M.kp (ar (ha pos pins s σ H _ I h) fun us s1 ⟨vs,H1,I1,r,q⟩=>⟨I1.kIn,?_⟩) he hpl
 exact uD M F hr hb hd hx I1 r q
end
noncomputable def PK (X:Cx) (kws:List Keyword) (t:TA):Prop :=
 ∀ (pos:Pos) (pins:List (Addr × Obj)) (s:Shared) (σ:St) (H:Hp) (Q:List V->Hp->Prop),Inv X pins σ H s->t σ H Q->wpAny (model X.prog X.w) X.A (evalAll ((backToKw pos (keywordEach kws X.env)).map (·.2))) (AP X pins σ Q) X.xe s
section
variable {X:Cx} {CX:cT} {k:Nat} {f C:Addr} {fd:FuncData} {ps ks:List Str} {sp:Sp} {E:XK} {x m:Str} {p pos apos kpos:Pos} {e o:Expr} {es:List Expr} {kws:List Keyword} {te ta:TE} {t tk:TA} {nm:Option Str}
theorem uF:PK X [] nj:=fun _ _ _ _ H Q I h=>wpAny_evalAll_nil ⟨[],H,I,.nil,h⟩
theorem uG (ha:PE X e te) (hr:PK X kws t):PK X (⟨nm,e,kpos⟩::kws) (nk te t):=by
 intro pos pins s σ H Q I h
 show wpAny _ _ (evalAll ((do let v <- eval e X.env;standAt pos;pure v)::(backToKw pos (keywordEach kws X.env)).map (·.2))) _ _ s
 refine wpAny_evalAll_cons (Qa (ar (ha pins s σ H _ I h) fun u s1 ⟨x,H1,I1,r1,q1⟩=>Qa (wpAny_standAt (Qc ?_))))
 exact ar (hr pos pins s1 σ H1 _ I1 q1) fun us s2 hsl34=>by obtain ⟨xs,H2,I2,r2,q2⟩:=hsl34;exact ⟨x::xs,H2,I2,.cons r1 r2,q2⟩
variable {g:List Value->List Value->List Value} {gV:List V->List V->List V}
end
structure aS (N P:List Str) (sc:Scope):Prop where
 kind:sc.kind=.function
 co:sc.isCoroutine=false
 gen:sc.isGenerator=false
 nd:N.Nodup
 pre:N.take P.length=P
 par:∀ x∈P,sc.names.lookup x=some .local∨sc.names.lookup x=some .cell
 nofree:∀ y∈sc.names,y.2≠.free
theorem nr {kindOf:Str->Option NameKind} {x:Str}:∀ {binds:List (Str × Value)} {m:Str->Option Value},(∀ v,(x,v)∉binds)->bindL kindOf binds m x=m x
 | [],_,_=>rfl
 | (n,v)::r,m,h=>by
  unfold bindL
  rw [nr fun w hw=>h w (Qn _ hw)]
  split
  ·have:x≠n:=by rintro rfl;exact h v QB
   simp [this]
  ·rfl
theorem nu {kindOf:Str->Option NameKind} {x:Str}:∀ {binds:List (Str × Value)} {m:Str->Option Value},(∀ v,(x,v)∉binds)->bindC kindOf binds m x=m x
 | [],_,_=>rfl
 | (n,v)::r,m,h=>by
  unfold bindC
  rw [nu fun w hw=>h w (Qn _ hw)]
  split
  ·rfl
  ·have:x≠n:=by rintro rfl;exact h v QB
   simp [this]
theorem nv {kindOf:Str->Option NameKind} {x:Str} {v:Value}:∀ {P:List Str} {vs:List Value} {i:Nat} {m:Str->Option Value},P.Nodup->P[i]?=some x->vs[i]?=some v->kindOf x=some .local ->
  bindL kindOf (P.zip vs) m x=some v
 | [],_,_,_,_,h,_,_=>by simp at h
 | _::_,[],_,_,_,_,h,_=>by simp at h
 | p::P,w::vs,0,m,nd,h1,h2,hk=>by
  simp at h1 h2;subst h1;subst h2
  show bindL kindOf ((p,w)::P.zip vs) m p=_
  unfold bindL
  rw [nr fun v hv=>(List.nodup_cons.mp nd).1 (List.of_mem_zip hv).1,if_pos hk]
  simp
 | p::P,w::vs,i+1,m,nd,h1,h2,hk=>by
  show bindL kindOf ((p,w)::P.zip vs) m x=_
  unfold bindL
  exact nv (i:=i) (List.nodup_cons.mp nd).2 (by simpa using h1) (by simpa using h2) hk
theorem nw {kindOf:Str->Option NameKind} {x:Str} {v:Value}:∀ {P:List Str} {vs:List Value} {i:Nat} {m:Str->Option Value},P.Nodup->P[i]?=some x->vs[i]?=some v->kindOf x≠some .local ->
  bindC kindOf (P.zip vs) m x=some v
 | [],_,_,_,_,h,_,_=>by simp at h
 | _::_,[],_,_,_,_,h,_=>by simp at h
 | p::P,w::vs,0,m,nd,h1,h2,hk=>by
  simp at h1 h2;subst h1;subst h2
  show bindC kindOf ((p,w)::P.zip vs) m p=_
  unfold bindC
  rw [nu fun v hv=>(List.nodup_cons.mp nd).1 (List.of_mem_zip hv).1,if_neg hk]
  simp
 | p::P,w::vs,i+1,m,nd,h1,h2,hk=>by
  show bindC kindOf ((p,w)::P.zip vs) m x=_
  unfold bindC
  exact nw (i:=i) (List.nodup_cons.mp nd).2 (by simpa using h1) (by simpa using h2) hk
noncomputable def start (N:List Str) (vs:List V):St:=vs.map some++List.replicate (N.length-vs.length) none
noncomputable def fU (CX:cT) (P:Program) (w:World) (K:PySem.W.Frag) (mg:Str->Option Value) (base:Heap) (N:List Str) (qual:Str) (scope:Scope) (f:Addr) (cd:Value) (A:Around) (outer:List Env) (s:Shared) (H:Hp) (E:XK):Cx where
 prog:=P
 w:=w
 K:=K
 mg:=mg
 base:=base
 A:=A.deeper (envOfC qual scope s.heap.objs.size f cd)
 N:=N
 s₀:=s
 H₀:=H
 env:=envOfC qual scope s.heap.objs.size f cd
 outer:=outer
 stack:=envOfC qual scope s.heap.objs.size f cd::outer
 ex:=[]
 calm:=true
 fn:=fun _=>true
 pn:=[]
 xe:=fun e s'=>wpAny (model P w) (A.deeper (envOfC qual scope s.heap.objs.size f cd)) (leaving (envOfC qual scope s.heap.objs.size f cd) e) (fun _ s''=>CX outer H s E e s'') (fun e' s''=>CX outer H s E e' s'') s'
theorem ny {sc:Scope} {n:Nat} {x:Str} (h:sc.names.lookup x=some .cell):∃ c,(cellsFrom n sc.names []).lookup x=some c:=by
 have q:=PySem.W.cellsFrom_some sc.names n [] (.inl h)
 exact Option.isSome_iff_exists.mp q
theorem uH {CX:cT} {P:Program} {w:World} {K:PySem.W.Frag} {mg:Str->Option Value} {base:Heap} {N ps:List Str} {qual:Str} {scope:Scope} {f:Addr} {cd:Value} {A:Around} {outer:List Env} {s s1:Shared} {H:Hp} {E:XK} {us:List Value} {vs:List V}
  (S:aS N ps scope) (hd:A.handled=none) (e0:dv P w K mg base A outer s H) (hl:vs.length=ps.length) (r:ao vs us)
  (x:InCallC s s.heap.objs.size (bindL (envOfC qual scope s.heap.objs.size f cd).kindOf (ps.zip us) fun _=>none) (cellsFrom (s.heap.objs.size+1) scope.names []) (bindC (envOfC qual scope s.heap.objs.size f cd).kindOf (ps.zip us) fun _=>none) s1) :
  Inv (fU CX P w K mg base N qual scope f cd A outer s H E) [] (start N vs) H s1:=by
 have hpl:ps.length<=N.length:=by have:=congrArg List.length S.pre;rw [Qr] at this;omega
 obtain ⟨h1,tk,rfl,hk⟩:=x.done
 have noA:∀ b:Addr,b∉(fU CX P w K mg base N qual scope f cd A outer s H E).ex:=fun b z=>absurd (show b∈([]:List Addr) from z) (by simp)
 refine ⟨⟨e0.mod,S.kind,rfl,rfl,Qh _,fun y z c h1 h2=>?_,fun y hy=>?_,fun y c _ h=>?_,fun _=>hd,Around.frames_deeper e0.frames,.inr ⟨rfl,rfl⟩,fun b z=>absurd z (noA b),e0.bs,e0.bsz,fun b _ _=>noA b,fun b z=>absurd z (noA b),e0.funs,e0.frf⟩,
  rfl,e0.bare,Un.kept hk,⟨_,x.toInCall.ns,fun i y v h1 h2 h3=>?_⟩,fun y c h=>⟨_,x.cell y c h⟩,e0.hok.fresh (Qh _),fun y c h=>?_,fun p hp=>absurd (show p∈([]:List (Addr × Obj)) from hp) (by simp),e0.hok.kept hk,?_⟩
 ·exact name_of_addr x.apart (PySem.mem_of_lookup h1) (PySem.mem_of_lookup h2)
 ·have hy:scope.names.lookup y=some .cell∨scope.names.lookup y=some .free:=hy
  rcases hy with hy | hy
  ·exact ny hy
  ·exact absurd rfl (S.nofree _ (PySem.mem_of_lookup hy))
 ·exact Nat.le_of_lt (x.above y c (PySem.mem_of_lookup h))
 ·have hi:i<vs.length:=by
   unfold start at h2
   by_cases hi:i<vs.length
   ·exact hi
   ·rw [Qy (by simpa using hi)] at h2
    rw [List.getElem?_replicate] at h2
    split at h2<;>cases h2
  have ha:vs[i]?=some v:=by
   unfold start at h2
   rw [QA (by simpa using hi),Qk] at h2
   cases e:vs[i]? with
   | none=>rw [e] at h2;cases h2
   | some a=>rw [e] at h2;cases h2;rfl
  obtain ⟨u,hu,rv⟩:=r.get ha
  have hp:ps[i]?=some y:=by
   rw [<- S.pre,List.getElem?_take_of_lt (by omega)];exact h1
  have ndP:ps.Nodup:=by rw [<- S.pre];exact S.nd.sublist (List.take_sublist _ _)
  refine ⟨u,rv,?_⟩
  rcases S.par y (Qt hp) with k | k
  ·exact .inl ⟨k,nv ndP hp hu k⟩
  ·obtain ⟨c,e⟩:=ny (n:=s.heap.objs.size+1) k
   refine .inr ⟨.inl k,c,e,?_⟩
   have q:=x.cell y c e
   rw [nw ndP hp hu (by show scope.names.lookup y≠_;rw [k];decide)] at q
   exact q
 ·exact e0.hok.fresh (Nat.le_of_lt (x.above y c (PySem.mem_of_lookup h)))
 ·unfold start
  show _=N.length
  rw [Qw,Qg,List.length_replicate]
  omega
theorem uI {CX:cT} {P:Program} {w:World} {K:PySem.W.Frag} {mg:Str->Option Value} {base:Heap} {k:Nat} {f:Addr} {name qual:Str} {params:Arguments} {body:List Stmt} {scope:Scope} {dV kV doc pm cdv ct oc:Value} {an od:Option Addr}
  {osl:Array (Option Value)} {N ps:List Str} {sp:Sp} (lk:K.lookup f=some ⟨oc,od,.func (PySem.W.fnOf name qual params body scope dV kV doc pm an cdv ct),osl⟩) (hcd:PySem.W.codeIn K cdv qual=true) (S:aS N ps scope)
  (len:∀ vs H Q E,sp vs H Q E->vs.length=ps.length)
  (hbody:∀ (A:Around) (outer:List Env) (s:Shared) (H:Hp) (vs:List V) (Q:VK) (E:XK),aw k (A.deeper (envOfC qual scope s.heap.objs.size f cdv))->sp vs H Q E ->
   ∃ t,dt (fU CX P w K mg base N qual scope f cdv A outer s H E) body t/\t { nx:=fun _ H'=>Q .non H',rt:=Q } (start N vs) H) :
  az P w K mg base CX (k+1) f (PySem.W.fnOf name qual params body scope dV kV doc pm an cdv ct) ps sp:=by
 refine ⟨len,fun A outer s H args us vs Q E hr e0 hb r hsp=>?_⟩
 have hl:=len _ _ _ _ hsp
 have KX:K.In s.heap:=e0.mod.kin.keeps fun b o e=>(e0.bs b o e).1
 have lim:s.heap.NoLimit:=e0.mod.nolimit.keeps fun b o e=>(e0.bs b o e).1
 have hkind:∀ y∈ps.zip us,scope.names.lookup y.1=some .local∨(scope.names.lookup y.1=some .cell/\((cellsFrom (s.heap.objs.size+1) scope.names []).lookup y.1).isSome=true):=fun ⟨n,v⟩ hy=>by
  rcases S.par n (List.of_mem_zip hy).1 with q | q
  ·exact .inl q
  ·exact .inr ⟨q,PySem.W.cellsFrom_some _ _ _ (.inl q)⟩
 refine codeAny_call_function hr.depth (KX _ _ lk) rfl S.co S.gen rfl (PySem.W.codeRec_of KX hcd) (hb _ _ _ _ ?_)
 refine wpAny_newFunctionEnv_cells S.kind hkind fun env he s1 x=>?_
 subst he
 refine ⟨lim.keeps x.toInCall.keep,codeAny_func ?_⟩
 obtain ⟨t,ht,hq⟩:=hbody A outer s H vs Q E (hr.deeper _) hsp
 have I:Inv (fU CX P w K mg base N qual scope f cdv A outer s H E) [] (start N vs) H s1:=uH S hr.hd e0 hl r x
 refine QJ (ht [] s1 (start N vs) H _ I hq) (fun fl s' hs=>?_) fun e s' hs=>hs
 have fin:∀ {σ':St} {H':Hp} {v:V} {u:Value},Inv (fU CX P w K mg base N qual scope f cdv A outer s H E) [] σ' H' s'->RelV v u->Q v H'->CE outer P w H s Q u s' :=
  fun {σ' H' v u} J rv q=>⟨v,H',J.os,J.bare,J.base,J.hok,rv,q⟩
 cases fl with
 | ret u =>
  obtain ⟨v,σ',H',J,rv,q⟩:=hs
  exact fin J rv q
 | next =>
  obtain ⟨σ',H',J,q⟩:=hs
  exact fin (v:=V.non) (u:=Value.none) J rfl q
 | brk =>
  obtain ⟨_,_,_,q⟩:=hs
  exact False.elim q
 | cont =>
  obtain ⟨_,_,_,q⟩:=hs
  exact False.elim q
end L2
namespace L2
open PySem PySem.Spec PyProof.Rows
section
variable {X:Cx} {x:Str} {p pos:Pos} {e:Expr} {es:List Expr} {t:TA} {id T:String} {r:List V->Hp->VK->Prop}
noncomputable def nz (r:List V->Hp->VK->Prop) (t:TA):TE:=fun σ H Q=>t σ H fun vs H1=>r vs H1 Q
theorem c6 (hc:dG X (.builtin id) r) (hg:Gl X x) (hm:X.mg x=none) (hv:bootBuiltins x=some (.builtin id)) (ha:PA X (e::es) t) (hn:x≠"__name__":=by decide) (hdb:(x == ("__debug__":Str))=false:=by decide)
  (he:starEach (e::es) X.env=(false,eval e X.env)::starEach es X.env:=by rfl) (hpl:(backTo pos (starEach es X.env)).any (·.1)=false:=by rfl):PE X (.Call (.Name x p) (e::es) [] pos) (nz r t):=by
 intro pins s σ H Q I h
 refine wpAny_Call_Name_kw (fQ I hg hm hv ?_ hn hdb)
 exact PyProof.Rows.callWith_builtin1 (ar (ha pos pins s σ H _ I h) fun us s1 hsl35=>by obtain ⟨vs,H1,I1,r1,q1⟩:=hsl35;exact hc pins s1 σ H1 vs us Q I1 r1 q1) he hpl
theorem fo (hc:dG X (.type T) r) (hg:Gl X x) (hm:X.mg x=none) (hv:bootBuiltins x=some (.type T)) (ha:PA X (e::es) t) (hn:x≠"__name__":=by decide) (hdb:(x == ("__debug__":Str))=false:=by decide)
  (he:starEach (e::es) X.env=(false,eval e X.env)::starEach es X.env:=by rfl) (hpl:(backTo pos (starEach es X.env)).any (·.1)=false:=by rfl):PE X (.Call (.Name x p) (e::es) [] pos) (nz r t):=by
 intro pins s σ H Q I h
 refine wpAny_Call_Name_kw (fQ I hg hm hv ?_ hn hdb)
 exact PyProof.Rows.callWith_type1 (ar (ha pos pins s σ H _ I h) fun us s1 hsl36=>by obtain ⟨vs,H1,I1,r1,q1⟩:=hsl36;exact hc pins s1 σ H1 vs us Q I1 r1 q1) he hpl
end
end L2
namespace HT
open PySem PyProof.Rows
section
open PySem.SeqAt
open PySem.AutoSeq1 (wpAny_loadPart')
open PySem.MeetsSeq PySem.MeetsSeq2 PySem.MeetsSeq3
end
section
variable {prog:Program} {w:World} {A:Around} {E:Value->Shared->Prop} {s:Shared}
theorem cat_tup {t b:Addr} {vs ws:List Value} {Q:Value->Shared->Prop} (ht:IsTup s.heap t vs.toArray) (hb:IsTup s.heap b ws.toArray) (hv:vs≠[])
  (h1:ws=[]->Q (.ref t) s) (h2:ws≠[]->Q (.ref s.heap.objs.size) { s with heap:=s.heap.push { cls:=.type "tuple",data:=.seq (vs++ws).toArray } })
  (hsz:vs.length+ws.length<=sizeLine):wpAny (model prog w) A (binaryOp .Add (.ref t) (.ref b)) Q E s:=by
 obtain ⟨⟨cls,dd,data,sl⟩,ho,hc,n,hd⟩:=id ht
 obtain ⟨⟨cls2,dd2,data2,sl2⟩,ho2,hc2,n2,hd2⟩:=id hb
 simp only at hc hd hc2 hd2
 subst hc hd hc2 hd2
 have e:vs.toArray++ws.toArray=(vs++ws).toArray:=by simp
 by_cases hw:ws=[]
 ·exact concat_meets ⟨_,ho,rfl⟩ ⟨_,ho2,rfl⟩ noFill_tuple_add seq_tuple_add PySem.F.slot_tuple_add PySem.F.entry_tuple_add (PySem.F.args_tuple_add_2 _ _)
   (tuple_addW1 t b vs.toArray ws.toArray n n2 dd dd2 sl sl2 (by simpa using hv) (by simp [hw])) ⟨ho,ho2,h1 hw⟩
 ·refine concat_meets ⟨_,ho,rfl⟩ ⟨_,ho2,rfl⟩ noFill_tuple_add seq_tuple_add PySem.F.slot_tuple_add PySem.F.entry_tuple_add (PySem.F.args_tuple_add_2 _ _)
   (tuple_addW2 t b vs.toArray ws.toArray n n2 dd dd2 sl sl2 (by simpa using hv) (by simpa using hw) (by rw [Qq,Qq];exact hsz)) ⟨ho,ho2,?_⟩
  rw [e]
  exact h2 hw
noncomputable def sIx (n d:Nat):Option Int->Nat
 | none=>d
 | some v=>if v<0 then (v+(n:Int)).toNat else min v.toNat n
theorem sIx_none (n d:Nat):sIx n d none=d:=rfl
theorem sIx_nat (n d k:Nat):sIx n d (some (k:Int))=min k n:=by
 show (if (k:Int)<0 then ((k:Int)+(n:Int)).toNat else min (k:Int).toNat n)=min k n
 rw [if_neg (by omega),Int.toNat_natCast]
theorem sIx_le (n d:Nat) (hd:d<=n) (o:Option Int):sIx n d o<=n:=by
 cases o with
 | none=>exact hd
 | some v =>
  show (if v<0 then (v+(n:Int)).toNat else min v.toNat n)<=n
  by_cases hv:v<0
  ·rw [if_pos hv];omega
  ·rw [if_neg hv];exact Nat.min_le_right _ _
end
end HT
namespace L2
open PySem PySem.Spec PyProof.Rows
noncomputable abbrev TO:=St->Hp->(Option Int->Hp->Prop)->Prop
noncomputable def PO (X:Cx) (e:Option Expr) (t:TO):Prop :=
 ∀ (pins:List (Addr × Obj)) (s:Shared) (σ:St) (H:Hp) (Q:Option Int->Hp->Prop),Inv X pins σ H s->t σ H Q ->
  wpAny (model X.prog X.w) X.A (evalPart e X.env) (fun u s'=>∃ o H',Inv X pins σ H' s'/\IsPart u o/\Q o H') X.xe s
noncomputable def uJ:TO:=fun _ H Q=>Q none H
noncomputable def uK (t:TE):TO:=fun σ H Q=>t σ H fun x H1=>∃ i,x=.int i/\Q (some i) H1
section
variable {X:Cx} {e:Expr} {te:TE} {lo hi:Option Expr} {tl th:TO} {pos p2:Pos}
theorem km:PO X none uJ:=by
 intro pins s σ H Q I h
 rw [evalPart_none]
 exact Qc ⟨none,H,I,.none,h⟩
theorem gO (h:PE X e te):PO X (some e) (uK te):=by
 intro pins s σ H Q I hw
 rw [evalPart_some]
 refine ar (h pins s σ H _ I hw) fun u s1 hsl37=>?_
 obtain ⟨x,H1,I1,r1,q1⟩:=hsl37
 obtain ⟨i,rfl,q⟩:=q1
 obtain ⟨t,rfl⟩:=r1
 exact ⟨some i,H1,I1,.int i t,q⟩
noncomputable def ko (X:Cx) (r:V->Option Int->Option Int->Hp->VK->Prop):Prop :=
 ∀ (pins:List (Addr × Obj)) (s:Shared) (σ:St) (H:Hp) (x:V) (v vl vu:Value) (lo hi:Option Int) (sl:Addr) (Q:VK),Inv X pins σ H s->RelV x v->s.heap.IsSliceOf sl vl vu .none->IsPart vl lo->IsPart vu hi->r x lo hi H Q ->
  ∃ T id,typeLookup (.type T) "__getitem__"=pure (some (.builtin id))/\s.TypeIs v T/\wpAny (model X.prog X.w) X.A (getItem v (.ref sl)) (EP X pins σ Q) X.xe s
noncomputable def uL (r:V->Option Int->Option Int->Hp->VK->Prop) (te:TE) (tl th:TO):TE:=fun σ H Q=>te σ H fun x H1=>tl σ H1 fun l H2=>th σ H2 fun u H3=>r x l u H3 Q
theorem iX {r:V->Option Int->Option Int->Hp->VK->Prop} (hr:ko X r) (he:PE X e te) (hl:PO X lo tl) (hu:PO X hi th):PE X (.Subscript e (.Slice lo hi none p2) pos) (uL r te tl th):=by
 intro pins s σ H Q I h
 refine Subscript_ (ar (he pins s σ H _ I h) fun v s1 hsl38=>?_)
 obtain ⟨x,H1,I1,r1,q1⟩:=hsl38
 refine wpAny_Slice (ar (hl pins s1 σ H1 _ I1 q1) fun vl s2 ⟨l,H2,I2,pl,q2⟩=>ar (hu pins s2 σ H2 _ I2 q2) fun vu s3 hsl39=>?_)
 obtain ⟨u,H3,I3,pu,q3⟩:=hsl39
 rw [evalPart_none]
 refine Qc ?_
 have I4:Inv X pins σ H3 { s3 with heap:=s3.heap.push { cls:=.type "slice",data:=.fields #[vl,vu,.none] } }:=I3.kept (t':=s3.toks) fun b ob q=>Qd _ q
 obtain ⟨T,id,hT,ht,hg⟩:=hr pins { s3 with heap:=s3.heap.push { cls:=.type "slice",data:=.fields #[vl,vu,.none] } } σ H3 x v vl vu l u s3.heap.objs.size Q I4 r1 (Heap.IsSliceOf.new ..) pl pu q3
 show wpAny (model X.prog X.w) X.A (subscriptTail e (.Slice lo hi none p2) v (.ref s3.heap.objs.size)) (EP X pins σ Q) X.xe { s3 with heap:=s3.heap.push { cls:=.type "slice",data:=.fields #[vl,vu,.none] } }
 exact tail_any (ops:=[.ref s3.heap.objs.size,v]) ht hT hg (by with_unfolding_all rfl)
noncomputable def fV (xs:List V) (lo hi:Option Int):List V:=(xs.drop (HT.sIx xs.length 0 lo)).take (HT.sIx xs.length xs.length hi-HT.sIx xs.length 0 lo)
theorem uM (xs:List V) (lo hi:Option Int):(fV xs lo hi).length<=xs.length:=by
 unfold fV
 rw [Qr,List.length_drop]
 omega
noncomputable def nA (K:PySem.W.Frag):R2:=fun x y H Q=>∃ a b xs ys,x=.ref a/\y=.ref b/\ai K H a xs/\ai K H b ys/\xs≠[]/\xs.length+ys.length<=sizeLine /\
 (ys=[]->Q (.ref a) H)/\(ys≠[]->∀ p,H p=none->Q (.ref p) (af H p (.tup (xs++ys))))
theorem ao.nil_iff {xs:List V} {us:List Value} (r:ao xs us):us=[]↔xs=[]:=by
 cases r with
 | nil=>simp
 | cons _ _=>simp
theorem uN:bv X (binaryOp .Add) (nA X.K):=by
 intro pins s σ H x y v u Q I rx ry h
 obtain ⟨a,b,xs,ys,rfl,rfl,ha,hb,hx,hz,q1,q2⟩:=h
 cases rx
 cases ry
 obtain ⟨its,r1,p1,_⟩:=I.tuple ha
 obtain ⟨its2,r2,p2,_⟩:=I.tuple hb
 refine HT.cat_tup p1 p2 (fun z=>hx (r1.nil_iff.mp z)) (fun z=>⟨.ref a,H,I,rfl,q1 (r2.nil_iff.mp z)⟩) (fun z=>?_) (by rw [<- r1.length,<- r2.length];exact hz)
 refine ⟨.ref s.heap.objs.size,_,I.laid (t':=s.toks) (o:=.tup (xs++ys)) (fun b ob q=>Qd _ q) (Qh _) ?_,rfl,q2 (fun w=>z (r2.nil_iff.mpr w)) _ (I.hok.fresh (Qh _))⟩
 exact ⟨by rw [Qw];exact hz,_,r1.append r2,IsTup.new _ _,gD.new _ _⟩
end
end L2
namespace L2
open PySem PySem.Spec PyProof.Rows
noncomputable def eK (n:Nat) (i:Int):Option Nat:=if 0<=i then (if i<n then some i.toNat else none) else if -(n:Int)<=i then some (i+n).toNat else none
noncomputable def dw {α:Type} (xs:List α) (i:Int):Option α:=(eK xs.length i).bind fun j=>xs[j]?
theorem nB {n:Nat} {i:Int} {j:Nat} (h:eK n i=some j):seqIndex? i n=some j/\j<n/\-(n:Int)<=i/\i<n:=by
 unfold eK at h
 by_cases h0:0<=i
 ·rw [if_pos h0] at h
  by_cases h1:i<n
  ·rw [if_pos h1] at h
   have e:i.toNat=j:=Qj h
   exact ⟨by rw [seqIndex_of h0 h1,e],by omega,by omega,h1⟩
  ·rw [if_neg h1] at h;cases h
 ·rw [if_neg h0] at h
  by_cases h1:-(n:Int)<=i
  ·rw [if_pos h1] at h
   have e:(i+n).toNat=j:=Qj h
   exact ⟨by rw [seqIndex_neg (by omega) h1,e],by omega,h1,by omega⟩
  ·rw [if_neg h1] at h;cases h
theorem kr {α:Type} {xs:List α} {i:Int} {v:α} (h:dw xs i=some v):∃ j,seqIndex? i xs.length=some j/\xs[j]?=some v/\j<xs.length/\-(xs.length:Int)<=i/\i<xs.length:=by
 unfold dw at h
 cases e:eK xs.length i with
 | none=>rw [e] at h;cases h
 | some j =>
  rw [e] at h
  obtain ⟨h1,h2,h3,h4⟩:=nB e
  exact ⟨j,h1,h,h2,h3,h4⟩
theorem aA {α:Type} {xs:List α} {j:Nat} {v:α} (h:xs[j]?=some v):dw xs (j:Int)=some v:=by
 have hj:j<xs.length:=(Qe h).1
 have e:eK xs.length (j:Int)=some j:=by
  unfold eK
  rw [if_pos (by omega),if_pos (by omega)];simp
 unfold dw;rw [e];exact h
noncomputable def uO (b:Expr):Prop:=∀ o i,subscripted b false o i=operate [o,i] (getItem o i)
noncomputable def fW (X:Cx) (r:R2):Prop :=
 ∀ (value slice:Expr) (pins:List (Addr × Obj)) (s:Shared) (σ:St) (H:Hp) (x y:V) (v u:Value) (Q:VK),Inv X pins σ H s->RelV x v->RelV y u->r x y H Q ->
  subscripted slice false v u=operate [v,u] (getItem v u)->wpAny (model X.prog X.w) X.A (subscriptTail value slice v u) (EP X pins σ Q) X.xe s
noncomputable def ku (X:Cx) (id:String) (r:V->List V->Hp->VK->Prop):Prop :=
 ∀ (pins:List (Addr × Obj)) (s:Shared) (σ:St) (H:Hp) (x:V) (xs:List V) (v:Value) (us:List Value) (Q:VK),Inv X pins σ H s->RelV x v->ao xs us->r x xs H Q ->
  wpAny (model X.prog X.w) X.A (call (.builtin id) (v::us)) (EP X pins σ Q) X.xe s
section
variable {X:Cx} {a b:Expr} {ta tb:TE} {pos:Pos}
theorem aD {r:R2} (hr:fW X r) (ha:PE X a ta) (hb:PE X b tb) (hs:uO b):PE X (.Subscript a b pos) (iR r ta tb):=by
 intro pins s σ H Q I h
 exact Subscript_ (kg ha hb I h fun v u s2 x y H2 I2 rx ry q=>hr a b pins s2 σ H2 x y v u Q I2 rx ry q (hs _ _))
noncomputable def nC (K:PySem.W.Frag):R2:=fun x y H Q=>∃ p xs i v,x=.ref p/\y=.int i/\al K H p xs/\dw xs i=some v/\Q v H
noncomputable def nE (K:PySem.W.Frag):R2:=fun x y H Q=>∃ p xs i v,x=.ref p/\y=.int i/\ai K H p xs/\dw xs i=some v/\Q v H
noncomputable def uP:R2:=fun x y H Q=>∃ z i c,x=.str z/\y=.int i/\z.length<=sizeLine/\dw z.cps.toList i=some c/\Q (.str ⟨#[c]⟩) H
theorem uQ:fW X (nC X.K):=by
 intro value slice pins s σ H x y v u Q I rx ry h hs
 obtain ⟨p,xs,i,z,rfl,rfl,hq,he,q⟩:=h
 cases rx
 obtain ⟨t,rfl⟩:=ry
 obtain ⟨its,r,pl,hz⟩:=I.list hq
 obtain ⟨j,h1,h2,h3,h4,h5⟩:=kr he
 obtain ⟨w,ew,rw'⟩:=r.get h2
 have hl:=r.length
 have hn:=fS
 have fin:EP X pins σ Q w s:=⟨z,H,I,rw',q⟩
 by_cases h0:0<=i
 ·have hj:i.toNat=j:=by
   rw [seqIndex_of h0 h5] at h1
   exact Qj h1
  exact item_listR pl.isList h0 (by omega) (by rw [hj];simpa using ew) fin hs
 ·have hj:(i+(its.toArray.size:Int)).toNat=j:=by
   rw [seqIndex_neg (by omega) h4] at h1
   rw [Qq,<- hl]
   exact Qj h1
  exact subscriptTail_builtinR (x:=w) pl.isList.typeIs slot_list_getitem.lookup
   (wpAny_getItem_list_neg (Q:=fun r s'=>r=w/\EP X pins σ Q r s') pl.isList (by omega) (by rw [Qq]<;>omega) (by omega) (by rw [hj];simpa using ew) ⟨rfl,fin⟩) hs
theorem uR:fW X (nE X.K):=by
 intro value slice pins s σ H x y v u Q I rx ry h hs
 obtain ⟨p,xs,i,z,rfl,rfl,hq,he,q⟩:=h
 cases rx
 obtain ⟨t,rfl⟩:=ry
 obtain ⟨its,r,pl,hz⟩:=I.tuple hq
 obtain ⟨j,h1,h2,h3,h4,h5⟩:=kr he
 obtain ⟨w,ew,rw'⟩:=r.get h2
 have hl:=r.length
 have hn:=fS
 have fin:EP X pins σ Q w s:=⟨z,H,I,rw',q⟩
 exact subscriptTail_builtinR (x:=w) pl.typeIs slot_tuple_getitem.lookup
  (getItem_tuple (j:=j) (Q:=fun r s'=>r=w/\EP X pins σ Q r s') pl (by omega) (by omega) (by rw [Qq,<- hl];exact h1) (by simpa using ew) ⟨rfl,fin⟩) hs
theorem ky:fW X uP:=by
 intro value slice pins s σ H x y v u Q I rx ry h hs
 obtain ⟨z,i,c,rfl,rfl,hz,he,q⟩:=h
 obtain ⟨t,rfl⟩:=rx
 obtain ⟨t',rfl⟩:=ry
 obtain ⟨j,h1,h2,h3,h4,h5⟩:=kr he
 have hl:z.cps.toList.length=z.length:=by simp [Str.length]
 rw [hl] at h1 h4 h5
 have hn:=fS
 exact tail_any (typeIs_str s z t) slot_str_getitem.lookup (getItem_str (c:=c) (by
  have e1:decide (i < -(2 ^ 63:Int))=false:=Qi (by omega)
  have e2:decide (i ≥ 2 ^ 63)=false:=Qi (by omega)
  rw [e1,e2,Bool.or_false]) (by rw [h1];simpa using h2) ⟨.str ⟨#[c]⟩,H,I.tok _,⟨_,rfl⟩,q⟩) hs
theorem uS (its:List Value) (n j:Nat) (u:Value):Obj.mapSeq (·.setIfInBounds j u) { cls:=.type "list",data:=.seq its.toArray n }={ cls:=.type "list",data:=.seq (its.set j u).toArray n }:=by
 simp [Obj.mapSeq]
theorem Inv.lst {pins:List (Addr × Obj)} {σ:St} {H:Hp} {s:Shared} {p:Addr} {xs:List V} (I:Inv X pins σ H s) (h:H p=some (.lst xs)) :
  ∃ (its:List Value) (n:Nat),ao xs its/\s.heap.get? p=some { cls:=.type "list",data:=.seq its.toArray n }/\xs.length<=sizeLine:=by
 obtain ⟨z,its,n,r,e⟩:=I.hok p _ h
 exact ⟨its,n,r,e,z⟩
theorem Inv.lstUpd {pins:List (Addr × Obj)} {σ:St} {H:Hp} {s:Shared} {p:Addr} {xs ys:List V} {its its':List Value} {n n':Nat} {f:Obj->Obj} (I:Inv X pins σ H s) (h:H p=some (.lst xs))
  (ho:s.heap.get? p=some { cls:=.type "list",data:=.seq its.toArray n }) (hf:f { cls:=.type "list",data:=.seq its.toArray n }={ cls:=.type "list",data:=.seq its'.toArray n' }) (r:ao ys its') (hz:ys.length<=sizeLine) (t:Nat) :
  Inv X pins σ (af H p (.lst ys)) { s with heap:=s.heap.update p f,toks:=t }:=by
 have e:(s.heap.update p f).get? p=some { cls:=.type "list",data:=.seq its'.toArray n' }:=by
  rw [Heap.get?_update_self f ho (by rw [hf]<;>rfl),hf]
 refine I.write (x:=p) (e:=p) (by rw [h];trivial) (.inl rfl) (fun b u hb q=>(Heap.get?_update_other _ _ (Ne.symm hb)).trans q) ⟨_,e⟩ ?_
 exact ⟨hz,its',n',r,e⟩
noncomputable def uT:V->V->V->Hp->(Hp->Prop)->Prop:=fun o i v H Q=>∃ p xs k j,o=.ref p/\i=.int k/\H p=some (.lst xs)/\eK xs.length k=some j/\Q (af H p (.lst (xs.set j v)))
theorem uU:mU X uT:=by
 intro pins s σ H o i v ov iv u Q I ro ri rv h
 obtain ⟨p,xs,k,j,rfl,rfl,hp,hj,q⟩:=h
 cases ro
 obtain ⟨t,rfl⟩:=ri
 obtain ⟨its,n,r,ho,hz⟩:=I.lst hp
 obtain ⟨h1,h2,h3,h4⟩:=nB hj
 have hl:=r.length
 have hn:=fS
 have I':Inv X pins σ (af H p (.lst (xs.set j v))) { s with heap:=s.heap.update p (Obj.mapSeq (·.setIfInBounds j u)) } :=
  I.lstUpd hp ho (uS its n j u) (r.set rv j) (by rw [List.length_set];exact hz) s.toks
 by_cases h0:0<=k
 ·have hk:k.toNat=j:=by
   rw [seqIndex_of h0 h4] at h1
   exact Qj h1
  exact PySem.W.ki_setAt ho h0 (by omega) (by rw [Qq,<- hl];exact h4) (by rw [hk];exact ⟨_,I',q⟩)
 ·have hk:(k+(its.toArray.size:Int)).toNat=j:=by
   rw [seqIndex_neg (by omega) h3] at h1
   rw [Qq,<- hl]
   exact Qj h1
  exact PySem.W.ki_setBack ho (by omega) (by rw [Qq,<- hl];exact h3) (by omega) (by rw [hk];exact ⟨_,I',q⟩)
theorem uV (lo hi:Option Int) (n:Nat):(sliceBounds lo hi none n).1=((HT.sIx n 0 lo:Nat):Int)/\(sliceBounds lo hi none n).2.1=((HT.sIx n n hi:Nat):Int)/\(sliceBounds lo hi none n).2.2=1:=by
 refine ⟨?_,?_,rfl⟩
 ·cases lo with
  | none=>simp [sliceBounds,HT.sIx]
  | some i =>
   simp only [sliceBounds,HT.sIx,Option.getD_none,show (1:Int)>0 by decide,if_true]
   by_cases h:i<0
   ·simp only [h,if_true]<;>omega
   ·simp only [h,if_false]<;>omega
 ·cases hi with
  | none=>simp [sliceBounds,HT.sIx]
  | some i =>
   simp only [sliceBounds,HT.sIx,Option.getD_none,show (1:Int)>0 by decide,if_true]
   by_cases h:i<0
   ·simp only [h,if_true]<;>omega
   ·simp only [h,if_false]<;>omega
theorem uW (its:List Value) (lo hi:Option Int):slicePick its.toArray lo hi none=((its.drop (HT.sIx its.length 0 lo)).take (HT.sIx its.length its.length hi-HT.sIx its.length 0 lo)).toArray:=by
 obtain ⟨h1,h2,h3⟩:=uV lo hi its.toArray.size
 unfold slicePick
 rw [h1,h2,h3]
 simp only [sliceRange_one,pick_run,Qq]<;>rfl
noncomputable def uX (K:PySem.W.Frag):V->Option Int->Option Int->Hp->VK->Prop:=fun x lo hi H Q=>∃ a xs,x=.ref a/\al K H a xs/\∀ p,H p=none->Q (.ref p) (af H p (.lst (fV xs lo hi)))
theorem uY:ko X (uX X.K):=by
 intro pins s σ H x v vl vu lo hi sl Q I rx hs pl pu h
 obtain ⟨a,xs,rfl,hx,q⟩:=h
 cases rx
 obtain ⟨its,r,ht,hz⟩:=I.list hx
 have hlen:=r.length
 refine ⟨"list",_,slot_list_getitem.lookup,ht.isList.typeIs,?_⟩
 refine wpAny_getItem_list_slice ht.isList hs pl pu .none (by simp) ?_ (by rw [Qq]<;>omega)
 rw [uW,<- hlen]
 refine ⟨.ref s.heap.objs.size,_,I.laid (t':=s.toks) (o:=.lst (fV xs lo hi)) (fun b ob q=>Qd _ q) (Qh _) ?_,rfl,q _ (I.hok.fresh (Qh _))⟩
 exact ⟨QD (uM xs lo hi) hz,_,0,(r.drop (HT.sIx xs.length 0 lo)).take (HT.sIx xs.length xs.length hi-HT.sIx xs.length 0 lo),Qm _ rfl⟩
noncomputable def eL:V->Bool
 | .non=>true
 | .bl _=>true
 | .int _=>true
 | .str _=>true
 | _=>false
noncomputable def eM:V->V->Bool
 | .non,.non=>true
 | .bl a,.bl b=>a == b
 | .bl a,.int b=>(if a then 1 else 0) == b
 | .int a,.bl b=>a == (if b then 1 else 0)
 | .int a,.int b=>a == b
 | .str a,.str b=>a == b
 | _,_=>false
theorem uZ {A:Around} {s:Shared} {y x:V} {u v:Value} (ry:RelV y u) (rx:RelV x v) (fy:eL y=true) (fx:eL x=true):SeqAt.EqAt A s u v (eM y x):=by
 cases y with
 | non =>
  cases ry
  cases x with
  | non=>cases rx;exact SeqAt.EqAt.same _
  | bl b=>cases rx;exact SeqAt.EqAt.none_bool b
  | int b=>obtain ⟨t,rfl⟩:=rx;exact SeqAt.EqAt.none_int b t
  | str b=>obtain ⟨t,rfl⟩:=rx;exact SeqAt.EqAt.none_str b t
  | _=>exact absurd (show false=true from fx) Bool.false_ne_true
 | bl a =>
  cases ry
  cases x with
  | non=>cases rx;exact SeqAt.EqAt.bool_none a
  | bl b=>cases rx;exact SeqAt.EqAt.bool_bool a b
  | int b=>obtain ⟨t,rfl⟩:=rx;exact SeqAt.EqAt.bool_int a b t
  | str b=>obtain ⟨t,rfl⟩:=rx;exact SeqAt.EqAt.bool_str a b t
  | _=>exact absurd (show false=true from fx) Bool.false_ne_true
 | int a =>
  obtain ⟨t',rfl⟩:=ry
  cases x with
  | non=>cases rx;exact SeqAt.EqAt.int_none a t'
  | bl b=>cases rx;exact SeqAt.EqAt.int_bool a t' b
  | int b=>obtain ⟨t,rfl⟩:=rx;exact SeqAt.EqAt.int_int a t' b t
  | str b=>obtain ⟨t,rfl⟩:=rx;exact SeqAt.EqAt.int_str a t' b t
  | _=>exact absurd (show false=true from fx) Bool.false_ne_true
 | str a =>
  obtain ⟨t',rfl⟩:=ry
  cases x with
  | non=>cases rx;exact SeqAt.EqAt.str_none a t'
  | bl b=>cases rx;exact SeqAt.EqAt.str_bool a t' b
  | int b=>obtain ⟨t,rfl⟩:=rx;exact SeqAt.EqAt.str_int a t' b t
  | str b=>obtain ⟨t,rfl⟩:=rx;exact SeqAt.EqAt.str_str a t' b t
  | _=>exact absurd (show false=true from fx) Bool.false_ne_true
 | _=>exact absurd (show false=true from fy) Bool.false_ne_true
noncomputable def cI (x:V) (u:Value):Bool:=match u with
 | .none=>eM .non x
 | .bool b=>eM (.bl b) x
 | .int i _=>eM (.int i) x
 | .str z _=>eM (.str z) x
 | _=>false
theorem nF {x y:V} {u:Value} (r:RelV y u) (f:eL y=true):cI x u=eM y x:=by
 cases y with
 | non=>cases r;rfl
 | bl b=>cases r;rfl
 | int i=>obtain ⟨t,rfl⟩:=r;rfl
 | str z=>obtain ⟨t,rfl⟩:=r;rfl
 | _=>exact absurd (show false=true from f) Bool.false_ne_true
theorem gP {x:V}:∀ {xs:List V} {us:List Value},ao xs us->xs.all eL=true->us.any (cI x)=xs.any fun y=>eM y x
 | _,_,.nil,_=>rfl
 | y::xs,u::us,.cons r t,f=>by
  rw [List.all_cons,Bool.and_eq_true] at f
  rw [List.any_cons,List.any_cons,nF r f.1,gP t f.2]
theorem gQ {A:Around} {s:Shared} {x:V} {v:Value} (rx:RelV x v) (fx:eL x=true):∀ {xs:List V} {us:List Value},ao xs us->xs.all eL=true->∀ u∈us,SeqAt.EqAt A s u v (cI x u)
 | _,_,.nil,_=>fun u hu=>by cases hu
 | y::xs,u::us,.cons r t,f=>fun u' hu=>by
  rw [List.all_cons,Bool.and_eq_true] at f
  rcases Ql hu with rfl | hu
  ·rw [nF r f.1];exact uZ r rx f.1 fx
  ·exact gQ rx fx t f.2 u' hu
noncomputable def eN (x:V) (xs:List V):Bool:=xs.any fun y=>eM y x
noncomputable def iY (K:PySem.W.Frag) (neg:Bool):R2:=fun x y H Q=>∃ p xs,y=.ref p/\(al K H p xs∨ai K H p xs)/\eL x=true/\xs.all eL=true/\Q (.bl (if neg then !eN x xs else eN x xs)) H
theorem u0:bv X (compareOp .In) (iY X.K false):=by
 intro pins s σ H x y v u Q I rx ry h
 obtain ⟨p,xs,rfl,hq,fx,fs,q⟩:=h
 cases ry
 rcases hq with hq | hq
 ·obtain ⟨its,r,pl,hz⟩:=I.list hq
  refine SeqAt.in_listAt (cI x) pl.isList (fun w hw=>gQ rx fx r fs w (by simpa using hw)) ⟨.bl _,H,I,rfl,?_⟩
  rw [show its.toArray.any (cI x)=its.any (cI x) by simp,gP r fs]
  exact q
 ·obtain ⟨its,r,pl,hz⟩:=I.tuple hq
  refine SeqAt.in_tupleAt (cI x) pl (fun w hw=>gQ rx fx r fs w (by simpa using hw)) ⟨.bl _,H,I,rfl,?_⟩
  rw [show its.toArray.any (cI x)=its.any (cI x) by simp,gP r fs]
  exact q
theorem u4:bv X (compareOp .NotIn) (iY X.K true):=by
 intro pins s σ H x y v u Q I rx ry h
 obtain ⟨p,xs,rfl,hq,fx,fs,q⟩:=h
 cases ry
 rcases hq with hq | hq
 ·obtain ⟨its,r,pl,hz⟩:=I.list hq
  refine SeqAt.notIn_listAt (cI x) pl.isList (fun w hw=>gQ rx fx r fs w (by simpa using hw)) ⟨.bl _,H,I,rfl,?_⟩
  rw [show its.toArray.any (cI x)=its.any (cI x) by simp,gP r fs]
  exact q
 ·obtain ⟨its,r,pl,hz⟩:=I.tuple hq
  refine SeqAt.notIn_tupleAt (cI x) pl (fun w hw=>gQ rx fx r fs w (by simpa using hw)) ⟨.bl _,H,I,rfl,?_⟩
  rw [show its.toArray.any (cI x)=its.any (cI x) by simp,gP r fs]
  exact q
theorem gR:dG X (.builtin "len") (fun xs H Q=>∃ p ys,xs=[.ref p]/\(al X.K H p ys∨ai X.K H p ys)/\Q (.int ys.length) H):=by
 intro pins s σ H xs us Q I r h
 obtain ⟨p,ys,rfl,hq,q⟩:=h
 obtain ⟨u,rfl,rx⟩:=vals1 r
 cases rx
 have hn:=fS
 rcases hq with hq | hq
 ·obtain ⟨its,r',pl,hz⟩:=I.list hq
  have hlen:=r'.length
  exact Calls.call_len_list pl.isList (by simp only [Qq]<;>omega) ⟨.int ys.length,H,I.tok _,⟨s.toks+1,by rw [Qq,hlen]⟩,q⟩
 ·obtain ⟨its,r',pl,hz⟩:=I.tuple hq
  have hlen:=r'.length
  exact len_tuple pl (by simp only [Qq]<;>omega) ⟨.int ys.length,H,I.tok _,⟨s.toks+1,by rw [Qq,hlen]⟩,q⟩
theorem u5:dG X (.builtin "len") (fun xs H Q=>∃ z,xs=[.str z]/\z.length<=sizeLine/\Q (.int z.length) H):=by
 intro pins s σ H xs us Q I r h
 obtain ⟨z,rfl,hz,q⟩:=h
 obtain ⟨u,rfl,t,rfl⟩:=vals1 r
 have hn:=fS
 exact len_str (by omega) ⟨.int z.length,H,I.tok _,⟨_,rfl⟩,q⟩
theorem gS:dG X (.type "tuple") (fun xs H Q=>∃ p ys,xs=[.ref p]/\((al X.K H p ys/\∀ l,H l=none->Q (.ref l) (af H l (.tup ys)))∨(ai X.K H p ys/\Q (.ref p) H))):=by
 intro pins s σ H xs us Q I r h
 obtain ⟨p,ys,rfl,h⟩:=h
 obtain ⟨u,rfl,rx⟩:=vals1 r
 cases rx
 rcases h with ⟨hq,q⟩ | ⟨hq,q⟩
 ·obtain ⟨its,r',pl,hz⟩:=I.list hq
  have hlen:=r'.length
  refine call_tuple_list pl.isList (fun h' kp=>?_) (by simp only [Qq]<;>omega)
  have I1:Inv X pins σ H { s with heap:=h' }:=I.kept (t':=s.toks) kp
  have I2:Inv X pins σ (af H h'.objs.size (.tup ys)) { s with heap:=h'.push { cls:=.type "tuple",data:=.seq its.toArray } } :=
   I1.laid (t':=s.toks) (fun b o e=>Qd _ e) (Qh _) (show bp X.prog X.w _ _ _ (.tup ys) from ⟨hz,its,r',IsTup.new _ _,gD.new _ _⟩)
  exact ⟨.ref h'.objs.size,_,I2,rfl,q _ (I1.hok.fresh (Qh _))⟩
 ·obtain ⟨its,r',pl,hz⟩:=I.tuple hq
  exact call_tuple_same pl ⟨.ref p,H,I,rfl,q⟩
noncomputable def kA (K:PySem.W.Frag) (T:String) (x:V) (H:Hp):Prop:=match x with
 | .str _=>T="str"
 | .int _=>T="int"
 | .ref p=>(T="list"/\∃ xs,al K H p xs)∨(T="tuple"/\∃ o,K.lookup p=some o/\o.cls=.type "tuple"/\o.dict=none) ∨
   (T="dict"/\((∃ kvs,H p=some (.dK kvs))∨∃ kvs,H p=some (.dT kvs)))∨(T="set"/\∃ S n,H p=some (.set S n))
 | _=>False
theorem nG {pins:List (Addr × Obj)} {σ:St} {H:Hp} {s:Shared} {T:String} {x:V} {v:Value} (I:Inv X pins σ H s) (r:RelV x v) (ty:kA X.K T x H) :
  s.TypeIs v T/\∀ a,v=.ref a->∃ ob,s.heap.get? a=some ob/\ob.dict=none:=by
 cases x with
 | str z =>
  obtain ⟨t,rfl⟩:=r
  cases (show T="str" from ty)
  exact ⟨typeIs_str s z t,fun _ e=>nomatch e⟩
 | int i =>
  obtain ⟨t,rfl⟩:=r
  cases (show T="int" from ty)
  exact ⟨typeIs_int s i t,fun _ e=>nomatch e⟩
 | ref p =>
  cases r
  rcases ty with ⟨rfl,xs,hq⟩ | ⟨rfl,o,hk,hc,hd⟩ | ⟨rfl,hk⟩ | ⟨rfl,S,n,hk⟩
  ·obtain ⟨its,_,pl,_⟩:=I.list hq
   refine ⟨pl.isList.typeIs,fun a e=>?_⟩
   cases e
   obtain ⟨o,n,e,c,hd,_⟩:=pl
   exact ⟨o,e,hd⟩
  ·refine ⟨⟨o,I.kIn p o hk,hc⟩,fun a e=>?_⟩
   cases e
   exact ⟨o,I.kIn _ o hk,hd⟩
  ·have z:∃ o,s.heap.get? p=some o/\o.ExactDict:=by
    rcases hk with ⟨kvs,hk⟩ | ⟨kvs,hk⟩
    ·obtain ⟨_,_,_,_,o,_,_,e,ex,_⟩:=I.hok p _ hk
     exact ⟨o,e,ex⟩
    ·obtain ⟨_,_,_,_,o,_,_,e,ex,_⟩:=I.hok p _ hk
     exact ⟨o,e,ex⟩
   obtain ⟨o,e,ex⟩:=z
   refine ⟨⟨o,e,ex.1⟩,fun a e2=>?_⟩
   cases e2
   exact ⟨o,e,ex.2.1⟩
  ·obtain ⟨o,_,_,_,e,ex,_⟩:=I.hok p _ hk
   refine ⟨⟨o,e,ex.1⟩,fun a e2=>?_⟩
   cases e2
   exact ⟨o,e,ex.2.1⟩
 | _=>exact False.elim ty
noncomputable def u6 (K:PySem.W.Frag) (T:String) (r:V->List V->Hp->VK->Prop) (to:TE):TE:=fun σ H Q=>to σ H fun x H1=>kA K T x H1/\r x [] H1 Q
noncomputable def u7 (K:PySem.W.Frag) (T:String) (r:V->List V->Hp->VK->Prop) (to:TE) (t:TA):TE:=fun σ H Q=>to σ H fun x H1=>kA K T x H1/\t σ H1 fun xs H2=>r x xs H2 Q
variable {o e:Expr} {es:List Expr} {to:TE} {t:TA} {name:Str} {apos cpos:Pos} {T id:String} {r:V->List V->Hp->VK->Prop}
theorem u9 (pa:PlainAttrs T) (slot:Slot T name id) (hty:typeOf (.builtin id)=pure (.type "method_descriptor")) (hm:ku X id r) (ho:PE X o to)
  (hbase:attributeBase o name X.env (eval o X.env)=eval o X.env:=by rfl) (hline:(apos.endLine == cpos.line)=true:=by rfl):PE X (.Call (.Attribute o name apos) [] [] cpos) (u6 X.K T r to):=by
 intro pins s σ H Q I h
 refine wpAny_Call_method0_late hbase hline (ar (ho pins s σ H _ I h) fun v s1 hsl40=>?_)
 obtain ⟨x,H1,I1,r1,ty,q1⟩:=hsl40
 obtain ⟨h1,h2⟩:=nG I1 r1 ty
 exact ⟨T,id,pa,slot,hty,h1,h2,Calls.callWith_builtin rfl (PySem.evalArgs_none (hm pins s1 σ H1 x [] v [] Q I1 r1 .nil q1))⟩
theorem gT (pa:PlainAttrs T) (slot:Slot T name id) (hty:typeOf (.builtin id)=pure (.type "method_descriptor")) (hm:ku X id r) (ho:PE X o to) (ha:PA X (e::es) t)
  (hbase:attributeBase o name X.env (eval o X.env)=eval o X.env:=by rfl)
  (hfew:((backTo cpos (starEach (e::es) X.env)).all (fun x=>!x.1)&&(backToKw cpos (keywordEach [] X.env)).all (fun x=>x.1.isSome)
   && decide ((e::es).length+([]:List Keyword).length+(if ([]:List Keyword).isEmpty then 0 else 1)<30))=true:=by rfl)
  (hline:(apos.endLine == cpos.line)=true:=by rfl) (hs:starEach (e::es) X.env=(false,eval e X.env)::starEach es X.env:=by rfl) (hplain:(backTo cpos (starEach es X.env)).any (·.1)=false:=by rfl) :
  PE X (.Call (.Attribute o name apos) (e::es) [] cpos) (u7 X.K T r to t):=by
 intro pins s σ H Q I h
 refine wpAny_Call_method_late hbase hfew hline rfl (ar (ho pins s σ H _ I h) fun v s1 hsl41=>?_)
 obtain ⟨x,H1,I1,r1,ty,q1⟩:=hsl41
 obtain ⟨h1,h2⟩:=nG I1 r1 ty
 refine ⟨T,id,pa,slot,hty,h1,h2,?_⟩
 have hA:=ha cpos pins s1 σ H1 _ I1 q1
 rw [hs] at hA ⊢
 refine Calls.callWith_builtin (by show (false||(backTo cpos (starEach es X.env)).any (·.1))=false;rw [hplain]<;>rfl) (Calls.evalArgs_plain ?_)
 exact ar hA fun us s2 hsl42=>by obtain ⟨vs,H2,I2,r2,q2⟩:=hsl42;exact hm pins s2 σ H2 x vs v us Q I2 r1 r2 q2
end
end L2
namespace L2
open PySem PySem.Spec PyProof.Rows
noncomputable def va (X:Cx) (id:String) (r:V->List V->Hp->VK->Prop):Prop :=
 ∀ (pins:List (Addr × Obj)) (s:Shared) (σ:St) (H:Hp) (x:V) (xs:List V) (v:Value) (us:List Value) (Q:VK),Inv X pins σ H s->RelV x v->ao xs us->r x xs H Q ->
  wpAny (model X.prog X.w) X.A (call (.builtin id) (v::us)) (EP X pins σ Q) X.xe s
theorem ao.one:∀ {x:V} {us:List Value},ao [x] us->∃ u,us=[u]/\RelV x u
 | _,_,.cons r .nil=>⟨_,rfl,r⟩
section
variable {X:Cx} {pins:List (Addr × Obj)} {σ:St} {H:Hp} {s:Shared} {l b:Addr} {xs ys zs:List V}
theorem Inv.lset {its its':List Value} {n:Nat} {f:Array Value->Array Value} {t':Nat} (I:Inv X pins σ H s) (hH:H l=some (.lst xs))
  (e:s.heap.get? l=some { cls:=.type "list",data:=.seq its.toArray n }) (hf:f its.toArray=its'.toArray) (hv:ao ys its') (hz:ys.length<=sizeLine) :
  Inv X pins σ (af H l (.lst ys)) { s with heap:=s.heap.update l (Obj.mapSeq f),toks:=t' }:=by
 have q:=PySem.IsL.update e f
 rw [hf] at q
 refine I.write (x:=l) (e:=l) (by rw [hH];exact trivial) (.inl rfl) (fun b' u hb hu=>(Heap.get?_update_other s.heap (Obj.mapSeq f) (Ne.symm hb)).trans hu) ⟨_,q⟩ ?_
 exact ⟨hz,its',_,hv,q⟩
theorem Inv.lnew {its:List Value} {t':Nat} (I:Inv X pins σ H s) (hv:ao ys its) (hz:ys.length<=sizeLine) :
  Inv X pins σ (af H s.heap.objs.size (.lst ys)) { s with heap:=s.heap.push { cls:=.type "list",data:=.seq its.toArray },toks:=t' } :=
 I.laid (fun _ _ q=>Qd _ q) (Qh _) ⟨hz,its,0,hv,Qm _ rfl⟩
theorem Inv.fresh (I:Inv X pins σ H s):H s.heap.objs.size=none:=I.hok.fresh (Qh _)
theorem Inv.lstM (I:Inv X pins σ H s) (hH:H l=some (.lst xs)):xs.length<=sizeLine/\∃ (its:List Value) (n:Nat),ao xs its/\xs.length=its.length/\s.heap.get? l=some { cls:=.type "list",data:=.seq its.toArray n }:=by
 obtain ⟨z,its,n,r,e⟩:=I.hok l _ hH
 exact ⟨z,its,n,r,r.length,e⟩
end
section
variable {X:Cx}
noncomputable def vc:V->List V->Hp->VK->Prop:=fun x vs H Q=>∃ l xs y,x=.ref l/\vs=[y]/\H l=some (.lst xs)/\xs.length<sizeLine/\Q .non (af H l (.lst (xs++[y])))
theorem gU:va X "list.append" vc:=by
 intro pins s σ H x vs v us Q I rx rv h
 obtain ⟨l,xs,y,rfl,rfl,hH,hz,q⟩:=h
 cases rx
 obtain ⟨u,rfl,ru⟩:=rv.one
 obtain ⟨z,its,n,r,hl,e⟩:=I.lstM hH
 refine call_meets F.slot_list_append ⟨_,e,rfl⟩ F.entry_list_append (F.args_list_append_2 _ _) (PySem.list_append l its.toArray n u (by rw [Qq];omega)) ⟨e,?_⟩
 refine ⟨.non,_,I.lset (its':=its++[u]) hH e (by simp) (r.append (.cons ru .nil)) ?_,rfl,q⟩
 rw [Qw,List.length_singleton]
 omega
noncomputable def vd:R2:=fun x y H Q=>∃ l b xs zs,x=.ref l/\y=.ref b/\H l=some (.lst xs)/\H b=some (.lst zs)/\xs.length+zs.length<=sizeLine/\∀ p,H p=none->Q (.ref p) (af H p (.lst (xs++zs)))
theorem gW:bv X (binaryOp .Add) vd:=by
 intro pins s σ H x y v u Q I rx ry h
 obtain ⟨l,b,xs,zs,rfl,rfl,hH,hB,hz,q⟩:=h
 cases rx
 cases ry
 obtain ⟨z,its,n,r,hl,e⟩:=I.lstM hH
 obtain ⟨z2,its2,n2,r2,hl2,e2⟩:=I.lstM hB
 refine PySem.P.add_list e e2 ?_ (by rw [Qq,Qq];omega)
 have ea:its.toArray++its2.toArray=(its++its2).toArray:=by simp
 rw [ea]
 exact ⟨.ref _,_,I.lnew (t':=s.toks) (r.append r2) (by rw [Qw];omega),rfl,q _ I.fresh⟩
end
section
variable {prog:Program} {w:World} {A:Around} {E:Value->Shared->Prop} {s:Shared}
end
section
variable {X:Cx}
end
end L2
namespace Att
open PySem PySem.W PySem.Calls PyProof.Rows
theorem vf {P:Params} {h:Heap}:∀ (ns:List Int) (vs:List Value),WellAll P h vs (ns.map WData.int)->IntsAre vs ns:=by
 intro ns
 induction ns with
 | nil =>
  intro vs w
  rw [List.map_nil] at w
  cases w
  exact .nil
 | cons n ns ih =>
  intro vs w
  rw [List.map_cons] at w
  cases w with
  | cons a b =>
   cases a
   exact .cons _ _ (ih _ b)
theorem vh {l:OpenLaw} {n:Nat} (hn:l.most=some n) {P:Params} {h:Heap} {args:List WData} {vals:List Value}
  (hpre:l.row.toRowW.claim.pre args=true) (hwl:WellAll P h vals args) :
  ∃ a vs ns,vals=[Value.ref a]/\args=[WData.list (ns.map WData.int)]/\h.get? a=some { cls:=.type "list",data:=.seq vs.toArray }/\IntsAre vs ns/\ns.length<=n:=by
 have hsh:WShape.hasAll [] args [.list .int]=true:=(pre_splitW hpre).1
 have hc:l.pre.holds [] { args:=args }=true:=(pre_splitW hpre).2
 obtain ⟨d,r,rfl,h1,h2⟩:=hasAllW_cons hsh
 obtain rfl:=hasAllW_nil h2
 obtain ⟨xs,rfl,h3⟩:=hasW_list h1
 obtain ⟨ns,rfl⟩:=items_int h3
 have hlen:ns.length<=n:=by
  unfold OpenLaw.pre at hc
  have h4:(WTm.not (.lt (.lit (.int (n:Int))) (.len (.arg 0)))).holds [] { args:=[.list (ns.map .int)] }=true:=by
   have h4:=(holds_andW hc).1
   rw [hn] at h4
   exact h4
  have h5:=condW_of h4 (w_not (w_lt w_lit (w_len_list (w_arg rfl))))
  rw [Qg] at h5
  refine Nat.le_of_not_lt fun q=>?_
  have q':(n:Int)<((ns.length:Nat):Int):=by omega
  first
   | (rw [Qv q'] at h5;exact absurd h5 (by decide))
   | (simp at h5;omega)
 cases hwl with
 | cons w1 w2 =>
  cases w2
  cases w1 with
  | list ho hall=>exact ⟨_,_,ns,rfl,rfl,ho,vf ns _ hall,hlen⟩
theorem vi (l:OpenLaw) (args:List WData):l.row.toRowW.claim.post args (.bool true) args=true :=
 postW_of (r:=l.row.toRowW) (X:=(true == true))
  (show WShape.has [] (.bool true) .bool=true by first | rfl | decide | simp [WShape.has,WShape.arms,WShape.armsAll])
  (show (WTm.eq .res (.lit (.bool true))).value [] { args:=args,res:=some (.bool true),after:=args }=some (.bool (true == true)) from w_eq_bool (w_res rfl) w_lit) rfl
theorem attach_call {l:OpenLaw} {n:Nat} {q:Program} {loose:List Str} {XP:(Str->Option Value)->Heap->Prop} {YP:World->Heap->Prop} {d:DefRec}
  (hn:l.most=some n) (hdf:d.params.defaults=[])
  (call:∀ (w:World) (s₀ s₁:Shared) (mg mb:Str->Option Value) (fa:Addr) (o:Obj) (pm cd doc:Value) (a:Addr) (vs:List Value) (ns:List Int),
   Ground q loose [] XP w s₀ mg mb s₁.heap->YP w s₁.heap ->
   s₁.heap.get? fa=some o->o.data=.func (docDef d.name d.params d.body d.scope pm cd doc)->s₁.heap.CodeRec cd d.name->mg d.name=some (.ref fa) ->
   s₁.heap.get? a=some { cls:=.type "list",data:=.seq vs.toArray }->IntsAre vs ns->ns.length<=n->s₁.gens=#[] ->
   codeAny (model l.prog w) callerA (.call (.ref fa) ⟨[.ref a],[]⟩) (fun r s'=>r=.ok (.ret (.bool true))/\OldK s₁.heap s'.heap/\s'.os=s₁.os/\AllBare s'.gens) s₁) :
  WalkO q loose XP YP l.row.toRowW d [] (fun f vs=>PySem.call f vs):=by
 intro w s₀ s₁ mg mb G Y fa o pm cd doc dV kV ho hd hcd hD hmg hg args vals as hpre hlay hrd hwl hlo
 obtain rfl:dV=.none:=Dflts.none hD hdf
 obtain rfl:kV=.none:=Dflts.noKw hD
 obtain ⟨a,vs,ns,rfl,rfl,hobj,hints,hlen⟩:=vh hn hpre hwl
 refine enter_call (codeAny_mono (call w s₀ s₁ mg mb fa o pm cd doc a vs ns G Y ho (fd_plain hd) hcd hmg hobj hints hlen hg) fun r s' hq=>?_)
 obtain ⟨rfl,h2,h3,h4⟩:=hq
 exact ⟨.inl ⟨.bool true,.bool true,[],rfl,fun _=>rfl,.bool true,vi l _,fun _=>⟨List.Pairwise.nil,fun _ hm=>(nomatch hm)⟩⟩,h2,h3,h4⟩
section
variable {prog:Program} {w:World} {A:Around} {E:Value->Shared->Prop} {s:Shared} {K:Frag}
end
end Att
namespace L2
open PySem PySem.Spec PyProof.Rows
theorem nH:∀ {vs:List Value} {ns:List Int},IntsAre vs ns->ao (ns.map V.int) vs
 | _,_,.nil=>.nil
 | _,_,.cons n t h=>.cons ⟨t,rfl⟩ (nH h)
noncomputable def kB (H:Hp):Prop:=∀ b,H b=none∨∃ o xs,H b=some (.frz o (.lst xs))
theorem ZD {P:Program} {w:World} {K:PySem.W.Frag} {mg mb:Str->Option Value} {CX:cT} {k:Nat} {fa a:Addr} {fd:FuncData} {x:Str} {sp:Sp} {s₁:Shared} {vs:List Value} {ns:List Int}
  (KX:K.In s₁.heap) (hns:s₁.heap.Ns mainGlobals mg) (hb:s₁.heap.Ns builtinsNs mb) (hbb:∀ x:Str,x≠"__name__"->mb x=bootBuiltins x) (hlim:s₁.heap.NoLimit) (hg:s₁.gens=#[])
  (ha:s₁.heap.get? a=some { cls:=.type "list",data:=.seq vs.toArray }) (hi:IntsAre vs ns) (hl:ns.length<=sizeLine) (hr:aw k callerA)
  (F:∀ base:Heap,K.In base->base.Ns mainGlobals mg->az P w K mg base CX k fa fd [x] sp) (hbind:∀ (s:Shared) (u:Value),BindsTo s fd ⟨[u],[]⟩ [(x,u)])
  (hsp:∀ H:Hp,kB H->al K H a (ns.map V.int)->sp [.ref a] H (fun v _=>v=.bl true) fun _ _ _=>False)
  (hCX:∀ H e s',CX [] H s₁ (fun _ _ _=>False) e s'->False) :
  codeAny (model P w) callerA (.call (.ref fa) ⟨[.ref a],[]⟩) (fun r s'=>r=.ok (.ret (.bool true))/\OldK s₁.heap s'.heap/\s'.os=s₁.os/\AllBare s'.gens) s₁:=by
 have rv:=nH hi
 have lenV:=hi.length
 have core:∀ H:Hp,kB H->al K H a (ns.map V.int)->bh P w H s₁.heap->(∀ b,H b≠none->b=a)->(H a≠none->K.lookup a=none) ->
   codeAny (model P w) callerA (.call (.ref fa) ⟨[.ref a],[]⟩) (fun r s'=>r=.ok (.ret (.bool true))/\OldK s₁.heap s'.heap/\s'.os=s₁.os/\AllBare s'.gens) s₁:=by
  intro H hO hS hok hA hK
  have base_of:∀ {b:Addr} {o:Obj},s₁.heap.get? b=some o->H b=none->(d9 s₁.heap H).get? b=some o:=fun e n=>sR e n
  have noA:∀ {b:Addr} {o:Obj} {es:Array DictEntry} {ep:Nat},s₁.heap.get? b=some o->o.data=.dict es ep->H b=none:=fun {b o es ep} e d=>by
   cases q:H b with
   | none=>rfl
   | some u =>
    have e':b=a:=hA b (by rw [q];simp)
    subst e'
    rw [ha] at e;cases e
    have d':Data.seq vs.toArray _=Data.dict es ep:=d
    cases d'
  have nsK:∀ {b:Addr} {m:Str->Option Value},s₁.heap.Ns b m->(d9 s₁.heap H).Ns b m:=fun {b m} ⟨o,es,ep,e,d,r⟩=>⟨o,es,ep,base_of e (noA e d),d,r⟩
  have hKb:K.In (d9 s₁.heap H):=fun b o e=>base_of (KX b o e) (by
   cases q:H b with
   | none=>rfl
   | some u =>
    have e':b=a:=hA b (by rw [q];simp)
    subst e'
    rw [hK (by rw [q];simp)] at e;cases e)
  have hM:Mod K mg (d9 s₁.heap H):=⟨hKb,nsK hns,⟨mb,nsK hb,hbb⟩,by obtain ⟨mc,h1,h2⟩:=hlim;exact ⟨mc,nsK h1,h2⟩⟩
  have e0:dv P w K mg (d9 s₁.heap H) callerA [] s₁ H:=⟨rfl,hM,fun b o e=>sS e,Nat.le_of_eq (sQ _ _),trivial,fun b hb=>absurd (show b∈([]:List Addr) from hb) (by simp),hok,.of_eq hg⟩
  refine codeAny_mono ((F _ hKb (nsK hns)).run callerA [] s₁ H ⟨[.ref a],[]⟩ [.ref a] [.ref a] _ _ hr e0 (hbind s₁ (.ref a)) (.cons rfl .nil) (hsp H hO hS)) fun r s' h=>?_
  cases r with
  | error e=>exact (hCX H e s' h).elim
  | ok fl =>
   cases fl with
   | next=>exact False.elim h
   | brk=>exact False.elim h
   | cont=>exact False.elim h
   | ret u =>
    obtain ⟨v,H',os,bare,un,hok',r',q⟩:=h
    have q':v=.bl true:=q
    subst q'
    obtain rfl:u=Value.bool true:=r'
    refine ⟨rfl,OldK.of_keep fun b o e=>?_,os,bare⟩
    cases q:H b with
    | none=>exact un.keep b o e q (by intro z;exact absurd (show b∈([]:List Addr) from z) (by simp)) (by simp)
    | some u =>
     rcases hO b with z | ⟨ob,xs,z⟩
     ·rw [q] at z;cases z
     ·have z2:=un.frzs b ob _ z
      obtain ⟨e1,_⟩:=hok b _ z
      obtain ⟨e2,_⟩:=hok' b _ z2
      rw [e] at e1;cases e1
      exact e2
 cases hk:K.lookup a with
 | some o =>
  have e:=KX a o hk
  rw [ha] at e
  cases e
  refine core (fun _=>none) (fun _=>.inl rfl) (.inr ⟨_,vs.toArray,_,hk,rfl,rfl,rfl,by rw [Qq,lenV];exact hl,by simpa using rv⟩) (fun b u z=>by have z':(none:Option HO)=some u:=z;cases z') (fun b z=>absurd rfl z) fun z=>absurd rfl z
 | none =>
  refine core (fun b=>if b=a then some (.frz { cls:=.type "list",data:=.seq vs.toArray } (.lst (ns.map V.int))) else none) (fun b=>?_) (.inl (.inr ⟨{ cls:=.type "list",data:=.seq vs.toArray },if_pos rfl⟩)) (fun b u z=>?_) (fun b z=>?_) fun _=>hk
  ·by_cases hb:b=a
   ·exact .inr ⟨_,_,if_pos hb⟩
   ·exact .inl (if_neg hb)
  ·by_cases hb:b=a
   ·have z':=(if_pos hb).symm.trans z
    cases z'
    subst hb
    exact ⟨ha,by rw [Qg];exact hl,vs,_,rv,ha⟩
   ·have z':=(if_neg hb).symm.trans z
    cases z'
  ·by_cases hb:b=a
   ·exact hb
   ·exact absurd (if_neg hb) z
end L2
namespace L2
open PySem PySem.Spec PyProof.Rows
theorem vj {l:PySem.W.OpenLaw} {n k:Nat} {q:Program} {loose:List Str} {XP:(Str->Option Value)->Heap->Prop} {YP:World->Heap->Prop} {d:DefRec} {K:Params->PySem.W.Frag} {CX:World->cT} {sp:World->Sp} {x:Str}
  (hn:l.most=some n) (hn2:n<=sizeLine) (hdf:d.params.defaults=[]) (hr:aw k callerA)
  (hY:∀ (w:World) (h:Heap),YP w h->(K w.params).In h)
  (F:∀ (w:World) (mg:Str->Option Value) (fa:Addr) (h:Heap),(K w.params).In h->h.Ns mainGlobals mg->mg d.name=some (.ref fa) ->
   ∃ fd:FuncData,(∀ (s:Shared) (u:Value),BindsTo s fd ⟨[u],[]⟩ [(x,u)]) /\
    ∀ base:Heap,(K w.params).In base->base.Ns mainGlobals mg->az l.prog w (K w.params) mg base (CX w) k fa fd [x] (sp w))
  (hsp:∀ (w:World) (H:Hp) (a:Addr) (ns:List Int),ns.length<=n->kB H->al (K w.params) H a (ns.map V.int)->sp w [.ref a] H (fun v _=>v=.bl true) fun _ _ _=>False)
  (hCX:∀ (w:World) (H:Hp) (s:Shared) (e:Value) (s':Shared),CX w [] H s (fun _ _ _=>False) e s'->False) :
  PySem.W.WalkO q loose XP YP l.row.toRowW d [] (fun f vs=>PySem.call f vs):=by
 refine Att.attach_call hn hdf fun w s₀ s₁ mg mb fa o pm cd doc a vs ns G Y ho hd hcd hmg hobj hints hlen hg=>?_
 have KX:=hY w _ Y
 obtain ⟨fd,hb,hF⟩:=F w mg fa _ KX G.T.g hmg
 exact ZD KX G.T.g G.T.b G.T.builtins G.T.nolimit hg hobj hints (QD hlen hn2) hr hF hb (fun H hO hS=>hsp w H a ns hlen hO hS) fun H e s'=>hCX w H s₁ e s'
end L2
namespace L2
open PySem PySem.Spec PyProof.Rows
noncomputable def eO (s:Stmt) (j:Nat):Stmt:=match s with
 | .ClassDef _ _ _ body _ _ _ _ _ _ _=>body.getD j (.Pass ⟨0,0,0,0⟩)
 | _=>.Pass ⟨0,0,0,0⟩
noncomputable def fX (s:Stmt):Arguments:=match s with
 | .FunctionDef _ a _ _ _ _ _ _ _ _=>a
 | _=>{ posonlyargs:=[],args:=[],vararg:=none,kwonlyargs:=[],kw_defaults:=[],kwarg:=none,defaults:=[] }
noncomputable def fq (s:Stmt):List Stmt:=match s with
 | .FunctionDef _ _ b _ _ _ _ _ _ _=>b
 | _=>[]
noncomputable def aG (s:Stmt):Scope:=match s with
 | .FunctionDef _ _ _ _ _ _ sc _ _ _=>sc
 | _=>{ kind:=.function,names:=[],isGenerator:=false,isCoroutine:=false }
noncomputable abbrev aE:cT:=fun _ _ _ _ _ _=>False
noncomputable abbrev E0:XK:=fun _ _ _=>False
theorem aI {X:Cx}:fT aE X E0:=fun _ _ _ _ _ _ _ h=>h.elim
structure aR (K:PySem.W.Frag) (x qual:Str) (st:Stmt) (f:Addr) (fd:FuncData):Prop where
 ex:∃ (oc:Value) (od:Option Addr) (kV doc pm:Value) (an:Option Addr) (cdv ct:Value) (osl:Array (Option Value)),
  fd=PySem.W.fnOf x qual (fX st) (fq st) (aG st) .none kV doc pm an cdv ct/\K.lookup f=some ⟨oc,od,.func fd,osl⟩/\PySem.W.codeIn K cdv qual=true
 kp:PySem.W.keepIn K (.ref f)=true
section
variable {P:Program} {w:World} {K:PySem.W.Frag} {mg:Str->Option Value} {base:Heap}
theorem aR.ok {x qual:Str} {st:Stmt} {f:Addr} {fd:FuncData} {N ps:List Str} {k:Nat} {sp:Sp} (F:aR K x qual st f fd) (S:aS N ps (aG st)) (len:∀ vs H Q E,sp vs H Q E->vs.length=ps.length)
  (hbody:∀ (cdv:Value) (A:Around) (outer:List Env) (s:Shared) (H:Hp) (vs:List V) (Q:VK) (E:XK),aw k (A.deeper (envOfC qual (aG st) s.heap.objs.size f cdv))->sp vs H Q E ->
   ∃ t,dt (fU aE P w K mg base N qual (aG st) f cdv A outer s H E).nox (fq st) t/\t { nx:=fun _ H'=>Q .non H',rt:=Q } (start N vs) H):az P w K mg base aE (k+1) f fd ps sp:=by
 obtain ⟨oc,od,kV,doc,pm,an,cdv,ct,osl,rfl,lk,hcd⟩:=F.ex
 refine uI lk hcd S len fun A outer s H vs Q E hr hsp=>?_
 obtain ⟨t,h,q⟩:=hbody cdv A outer s H vs Q E hr hsp
 exact ⟨t,h.nox,q⟩
theorem vk {x qual:Str} {st:Stmt} {f:Addr} {oc:Value} {od an:Option Addr} {osl:Array (Option Value)} {kV doc pm cdv ct:Value} (l:K.lookup f=some ⟨oc,od,.func (PySem.W.fnOf x qual (fX st) (fq st) (aG st) .none kV doc pm an cdv ct),osl⟩)
  (c:PySem.W.codeIn K cdv qual=true) (k:PySem.W.keepIn K (.ref f)=true):aR K x qual st f (PySem.W.fnOf x qual (fX st) (fq st) (aG st) .none kV doc pm an cdv ct):=⟨⟨oc,od,kV,doc,pm,an,cdv,ct,osl,rfl,l,c⟩,k⟩
end
theorem cp {n:Nat} (h:n<=1000):n<sizeLine:=QH h (by decide)
section
variable {X:Cx}
theorem pv (i:Nat) {x:Str} {pos:Pos} (hN:X.N[i]?=some x:=by rfl) (hv:j4 X.env.scope x:=by first | exact Or.inl rfl | exact Or.inr (Or.inl rfl) | exact Or.inr (Or.inr rfl)) (hd:(x == ("__debug__":Str))=false:=by decide)
  (hcd:(x == ("__classdict__":Str))=false:=by decide):PE X (.Name x pos) (mQ i):=sT hN hv hd hcd
end
theorem c7 {A B:Prop} (h:B):if false=true then A else B:=by
 rw [if_neg Bool.false_ne_true]
 exact h
theorem iZ {A B:Prop} (h:A):if true=true then A else B:=by
 rw [if_pos rfl]
 exact h
theorem fY {c A B:Prop} [Decidable c] (h1:c->A) (h2:¬ c->B):if c then A else B:=by
 by_cases h:c
 ·rw [if_pos h]
  exact h1 h
 ·rw [if_neg h]
  exact h2 h
noncomputable def Same (H H':Hp):Prop:=∀ b o,H b=some o->H' b=some o
theorem Same.refl (H:Hp):Same H H:=fun _ _ h=>h
theorem Same.trans {H H1 H2:Hp} (a:Same H H1) (b:Same H1 H2):Same H H2:=fun c o h=>b c o (a c o h)
theorem Same.free {H H':Hp} (e:Same H H') {l:Addr} (h:H' l=Option.none):H l=Option.none:=by
 cases q:H l with
 | none=>rfl
 | some o =>
  rw [e l o q] at h
  cases h
theorem Same.seq {K:PySem.W.Frag} {H H':Hp} {a:Addr} {xs:List V} (e:Same H H') (h:al K H a xs):al K H' a xs:=by
 rcases h with (h | ⟨o,h⟩) | h
 ·exact .inl (.inl (e _ _ h))
 ·exact .inl (.inr ⟨o,e _ _ h⟩)
 ·exact .inr h
end L2
namespace L2
open PySem PySem.Spec PyProof.Rows
noncomputable abbrev nI (ifs:List Expr) (env:Env):Sem Bool :=
 forIn ifs true fun c r=>if r=true then do let ok <- isTrue c env (eval c env);pure (ForInStep.yield ok) else pure (ForInStep.yield r)
noncomputable def bM (cells:List (Str × Addr)):List (Str × NameKind)->List (Str × Addr)->List (Str × Addr)
 | [],acc=>acc
 | (n,k)::r,acc=>bM cells r (if k == .free then (n,(cells.lookup n).getD 0)::acc else acc)
theorem kC {env:Env}:∀ (ns:List (Str × NameKind)) (acc:List (Str × Addr)),(∀ y∈ns,y.2=.free->∃ c,env.cells.lookup y.1=some c) ->
  (forIn ns acc fun (p:Str × NameKind) (cs:List (Str × Addr))=>(if p.2 == .free then (do let c <- cellOf env p.1;pure (ForInStep.yield ((p.1,c)::cs))) else pure (ForInStep.yield cs):Sem (ForInStep (List (Str × Addr)))))=(pure (bM env.cells ns acc):Sem (List (Str × Addr)))
 | [],acc,_=>rfl
 | (n,k)::r,acc,h=>by
  rw [List.forIn_cons]
  by_cases hk:k=.free
  ·subst hk
   obtain ⟨c,hc⟩:=h (n,.free) QB rfl
   have e1:cellOf env n=pure c:=by unfold cellOf;rw [show env.cells.lookup n=some c from hc]
   simp only [beq_self_eq_true,if_true,e1,bM,hc,Option.getD_some]
   exact kC r ((n,c)::acc) fun y hy=>h y (Qn _ hy)
  ·have hb:(k == NameKind.free)=false:=by simpa using hk
   simp only [hb,Bool.false_eq_true,if_false,bM]
   exact kC r acc fun y hy=>h y (Qn _ hy)
theorem i3 {env:Env} {sc:Scope} (h:∀ y∈sc.names,y.2=.free->∃ c,env.cells.lookup y.1=some c):closureFor sc env=pure (bM env.cells sc.names []):=by
 unfold closureFor
 have q:=kC (env:=env) sc.names [] h
 have e:(forIn sc.names [] fun (p:Str × NameKind) (cs:List (Str × Addr))=>(match p with | (name,kind)=>if kind == .free then (do let c <- cellOf env name;pure (ForInStep.yield ((name,c)::cs))) else pure (ForInStep.yield cs):Sem (ForInStep (List (Str × Addr)))))=(pure (bM env.cells sc.names []):Sem (List (Str × Addr))):=q
 simp only [e]
 rfl
theorem kE {cells:List (Str × Addr)}:∀ (ns:List (Str × NameKind)) (acc:List (Str × Addr)),(∀ y∈ns,y.2=.free->∃ c,cells.lookup y.1=some c)->(∀ y c,acc.lookup y=some c->cells.lookup y=some c) ->
  (∀ y c,(bM cells ns acc).lookup y=some c->cells.lookup y=some c)/\(∀ y,(acc.lookup y).isSome=true->((bM cells ns acc).lookup y).isSome=true)/\(∀ y,(y,NameKind.free)∈ns->((bM cells ns acc).lookup y).isSome=true)
 | [],acc,_,h2=>⟨h2,fun _ h=>h,fun _ h=>nomatch h⟩
 | (n,k)::r,acc,h1,h2=>by
  have h1':∀ y∈r,y.2=.free->∃ c,cells.lookup y.1=some c:=fun y hy=>h1 y (Qn _ hy)
  by_cases hk:k=.free
  ·subst hk
   obtain ⟨c,hc⟩:=h1 (n,.free) QB rfl
   have hc':cells.lookup n=some c:=hc
   have e:bM cells ((n,.free)::r) acc=bM cells r ((n,c)::acc):=by simp only [bM,beq_self_eq_true,if_true,hc',Option.getD_some]
   have ih:=kE (cells:=cells) r ((n,c)::acc) h1' (fun y d hy=>by
    rw [List.lookup_cons] at hy
    cases q:y == n with
    | true=>rw [q] at hy;cases hy;rw [eq_of_beq q];exact hc'
    | false=>rw [q] at hy;exact h2 y d hy)
   rw [e]
   refine ⟨ih.1,fun y hy=>ih.2.1 y ?_,fun y hy=>?_⟩
   ·rw [List.lookup_cons];split
    ·rfl
    ·exact hy
   ·rcases Ql hy with z | z
    ·cases z;exact ih.2.1 n (by rw [List.lookup_cons];simp)
    ·exact ih.2.2 y z
  ·have hb:(k == NameKind.free)=false:=by simpa using hk
   have e:bM cells ((n,k)::r) acc=bM cells r acc:=by simp only [bM,hb,Bool.false_eq_true,if_false]
   have ih:=kE (cells:=cells) r acc h1' h2
   rw [e]
   refine ⟨ih.1,ih.2.1,fun y hy=>?_⟩
   rcases Ql hy with z | z
   ·cases z;exact absurd rfl hk
   ·exact ih.2.2 y z
structure gX (scX sc:Scope) (NX:List Str) (x:Str) (fv:List Str) (js:List Nat):Prop where
 kind:sc.kind=.function
 kindX:scX.kind=.function
 cell:∀ y∈sc.names,y.2≠.cell
 own:sc.names.lookup x=some .local
 names:∀ y∈sc.names,y.2=.local->sc.names.lookup y.1=some .local
 free:∀ y∈sc.names,y.2=.free->scX.names.lookup y.1=some .cell
 nd:(x::fv).Nodup
 at':js.map (fun j=>NX[j]?)=fv.map some
 fr:∀ y∈fv,sc.names.lookup y=some .free
theorem nJ {env:Env} (hk:env.scope.kind=.function):∀ {ns:List (Str × NameKind)} {y:Str},ns.lookup y=some .free->env.kindOf y=some .cell ->
  (ns.map fun (n,k)=>if (k == NameKind.free&&env.scope.kind == .function&&env.kindOf n == some .cell) then (n,NameKind.cell) else (n,k)).lookup y=some .cell
 | [],_,h,_=>by simp at h
 | (n,k)::r,y,h,hc=>by
  have ih:=@nJ env hk r y
  show List.lookup y ((if (k == NameKind.free&&env.scope.kind == .function&&env.kindOf n == some .cell)=true then (n,NameKind.cell) else (n,k))::_)=_
  cases hx:y == n with
  | true =>
   simp only [List.lookup_cons,hx] at h
   cases h
   have e:y=n:=eq_of_beq hx
   subst e
   simp [List.lookup_cons,hc,hk]
  | false =>
   simp only [List.lookup_cons,hx] at h
   split<;>(simp only [List.lookup_cons,hx];exact ih h hc)
theorem nK {env:Env}:∀ {ns:List (Str × NameKind)} {y:Str},(∀ z∈ns,z.2≠.cell) ->
  ((ns.map fun (n,k)=>if (k == NameKind.free&&env.scope.kind == .function&&env.kindOf n == some .cell) then (n,NameKind.cell) else (n,k)).lookup y=some .cell ∨
   (ns.map fun (n,k)=>if (k == NameKind.free&&env.scope.kind == .function&&env.kindOf n == some .cell) then (n,NameKind.cell) else (n,k)).lookup y=some .free)->(y,NameKind.free)∈ns
 | [],_,_,h=>by simp at h
 | (n,k)::r,y,hz,h=>by
  have ih:=@nK env r y fun z hm=>hz z (Qn _ hm)
  have hk:k≠.cell:=hz (n,k) QB
  rw [List.map_cons] at h
  by_cases hc:(k == NameKind.free&&env.scope.kind == .function&&env.kindOf n == some .cell)=true
  ·have hf:k=.free:=by
    rw [Bool.and_eq_true,Bool.and_eq_true] at hc
    exact eq_of_beq hc.1.1
   simp only [hc,if_true,List.lookup_cons] at h
   cases hx:y == n with
   | true=>rw [eq_of_beq hx,hf];exact QB
   | false=>rw [hx] at h;exact Qn _ (ih h)
  ·rw [Bool.not_eq_true] at hc
   simp only [hc,Bool.false_eq_true,if_false,List.lookup_cons] at h
   cases hx:y == n with
   | true =>
    rw [hx] at h
    rcases h with h | h
    ·exact absurd (Qj h) hk
    ·have:k=.free:=Qj h
     rw [eq_of_beq hx,this];exact QB
   | false=>rw [hx] at h;exact Qn _ (ih h)
noncomputable def bO (js:List Nat) (σ:St):St:=js.map fun j=>(σ[j]?).getD none
noncomputable abbrev xc (X:Cx) (sc:Scope) (x:Str) (fv:List Str) (C:Addr) (s0:Shared) (H0:Hp) (ex:List Addr):Cx :=
 { X with N:=x::fv,s₀:=s0,H₀:=H0,env:=compEnvC sc (bM X.env.cells sc.names []) C X.env,outer:=X.stack,ex:=ex,fn:=fun _=>false,pn:=[],xe:=fun _ _=>False }
noncomputable def eP (X:Cx) (ifs:List Expr) (t:TT):Prop :=
 ∀ (pins:List (Addr × Obj)) (s:Shared) (σ:St) (H:Hp) (Q:Bool->Hp->Prop),Inv X pins σ H s->t σ H Q->wpAny (model X.prog X.w) X.A (nI ifs X.env) (TP X pins σ Q) X.xe s
noncomputable def nM:TT:=fun _ H Q=>Q true H
theorem dy {σ:St} {H:Hp} {Q:Bool->Hp->Prop} (h:Q true H):nM σ H Q:=h
theorem dz {X:Cx}:eP X [] nM:=fun _ _ _ H _ I h=>wpAny_tests_nil ⟨H,I,h⟩
theorem i4 {X:Cx} {c:Expr} {t:TT} (hc:PT X c t):eP X [c] t:=fun pins s σ H Q I h=>wpAny_tests_one (hc pins s σ H Q I h)
noncomputable def eQ (J:It) (js:List Nat) (tt:TT) (te:TE):TE:=fun σ H1 Q=>∃ W:Nat->Nat->List V->Hp->Prop,(∃ m,W 0 m [] H1)/\∀ i m ys H,W i m ys H ->
 (J.stop i H/\∀ p,H p=none->Q (.ref p) (af H p (.lst ys))) ∨
 (J.go i H/\∃ N:List V->Hp->Prop,(∀ ys' H',N ys' H'->∃ m',m'<m/\W (i+1) m' ys' H') /\
  ∀ x H',J.yld i H x H'->tt (some x::bO js σ) H' fun b H2=>if b=true then te (some x::bO js σ) H2 fun y H3=>ys.length<sizeLine/\N (ys++[y]) H3 else N ys H2)
noncomputable def nN (wi:TI) (js:List Nat) (tt:TT) (te:TE):TE:=fun σ H Q=>wi σ H fun J H1=>eQ J js tt te σ H1 Q
section
variable {X:Cx} {pins:List (Addr × Obj)} {σ:St} {H2:Hp} {s2:Shared} {elt iter:Expr} {x:Str} {px:Pos} {ifs:List Expr} {sc scX:Scope} {pos:Pos} {fv:List Str} {js:List Nat} {tt:TT} {te:TE}
theorem kF {lo:Int} {n:Nat} {σ:St} {H:Hp} {Q:VK} (Pv:Nat->List V->Hp->Prop) (h0:Pv 0 [] H)
  (hs:∀ i ys H,i<n->Pv i ys H->tt (some (.int (lo+i))::bO js σ) H fun b H2=>if b=true then te (some (.int (lo+i))::bO js σ) H2 fun y H3=>ys.length<sizeLine/\Pv (i+1) (ys++[y]) H3 else Pv (i+1) ys H2)
  (hd:∀ ys H,Pv n ys H->∀ p,H p=none->Q (.ref p) (af H p (.lst ys))) :
  eQ (dU lo n) js tt te σ H Q:=by
 refine ⟨fun i m ys H=>m=n-i/\i<=n/\Pv i ys H,⟨n,by simp,Qs _,h0⟩,?_⟩
 rintro i m ys H ⟨rfl,hi,p⟩
 by_cases hlt:i<n
 ·refine .inr ⟨hlt,Pv (i+1),fun ys' H' p'=>⟨n-(i+1),by omega,rfl,hlt,p'⟩,fun x H' y=>?_⟩
  obtain ⟨e,y⟩:=y
  subst e y
  exact hs i ys _ hlt p
 ·have e:i=n:=by omega
  subst e
  exact .inl ⟨Qh _,hd ys H p⟩
theorem kG {K:PySem.W.Frag} {a:Addr} {xs:List V} {σ:St} {H:Hp} {Q:VK} (Pv:Nat->List V->Hp->Prop) (h0:Pv 0 [] H) (hl:∀ i ys H,i<=xs.length->Pv i ys H->al K H a xs)
  (hs:∀ i x ys H,xs[i]?=some x->Pv i ys H->tt (some x::bO js σ) H fun b H2=>if b=true then te (some x::bO js σ) H2 fun y H3=>ys.length<sizeLine/\Pv (i+1) (ys++[y]) H3 else Pv (i+1) ys H2)
  (hd:∀ ys H,Pv xs.length ys H->∀ p,H p=none->Q (.ref p) (af H p (.lst ys))) :
  eQ (fi K a) js tt te σ H Q:=by
 refine ⟨fun i m ys H=>m=xs.length-i/\i<=xs.length/\Pv i ys H,⟨xs.length,by simp,Qs _,h0⟩,?_⟩
 rintro i m ys H ⟨rfl,hi,p⟩
 have q:=hl i ys H hi p
 by_cases hlt:i<xs.length
 ·refine .inr ⟨⟨xs,xs[i],q,by simp [hlt]⟩,Pv (i+1),fun ys' H' p'=>⟨xs.length-(i+1),by omega,rfl,hlt,p'⟩,fun x H' y=>?_⟩
  obtain ⟨e,y⟩:=y
  subst e
  exact hs i x ys _ (y xs q) p
 ·have e:i=xs.length:=by omega
  subst e
  exact .inl ⟨⟨xs,q,Qh _⟩,hd ys H p⟩
end
end L2
namespace Mm
open PySem
theorem nO:∀ (n a b:Nat),a<=n->(a ||| b)=(a ^^^ b)+(a &&& b)
 | 0,a,b,h=>by
  have:a=0:=by omega
  subst this
  simp
 | n+1,a,b,h=>by
  by_cases ha:a=0
  ·subst ha;simp
  ·have ih:=nO n (a / 2) (b / 2) (by omega)
   have e1:(a ||| b) / 2=a / 2 ||| b / 2:=Nat.or_div_two
   have e2:(a ^^^ b) / 2=a / 2 ^^^ b / 2:=Nat.xor_div_two
   have e3:(a &&& b) / 2=a / 2 &&& b / 2:=Nat.and_div_two
   have m1:(a ||| b) % 2=(a % 2 ||| b % 2):=by simpa using Nat.or_mod_two_pow (a:=a) (b:=b) (n:=1)
   have m2:(a ^^^ b) % 2=(a % 2 ^^^ b % 2):=by simpa using Nat.xor_mod_two_pow (a:=a) (b:=b) (n:=1)
   have m3:(a &&& b) % 2=(a % 2 &&& b % 2):=by simpa using Nat.and_mod_two_pow (a:=a) (b:=b) (n:=1)
   have d:∀ x<2,∀ y<2,(x ||| y)=(x ^^^ y)+(x &&& y):=by decide
   have dd:=d (a % 2) (by omega) (b % 2) (by omega)
   omega
theorem i5 (a b:Nat):Builtin.bitAnd (a:Int) (b:Int)=((a &&& b:Nat):Int):=by
 rw [PyProof.Rows.bitAnd_pp (by omega) (by omega)]
 simp
theorem vm (a b:Nat):Builtin.bitOr (a:Int) (b:Int)=((a ||| b:Nat):Int):=by
 have ha:¬ 0<=Builtin.bitNot (a:Int):=by unfold Builtin.bitNot;omega
 have hb:¬ 0<=Builtin.bitNot (b:Int):=by unfold Builtin.bitNot;omega
 unfold Builtin.bitOr
 rw [PyProof.Rows.bitAnd_nn ha hb,PyProof.Rows.bitNot_bitNot,PyProof.Rows.bitNot_bitNot,PyProof.Rows.bitNot_bitNot]
 simp
theorem vn (a b:Nat):Builtin.bitXor (a:Int) (b:Int)=((a ^^^ b:Nat):Int):=by
 unfold Builtin.bitXor
 rw [vm,i5]
 have:=nO a a b (Qh _)
 omega
end Mm
namespace L2
open PySem PySem.Spec PyProof.Rows
section
variable {X:Cx}
theorem vq {n:String}:dG X (.builtin "isinstance") (fun xs H Q=>∃ x t b,xs=[x,.ty n]/\cm X.K H x t/\PySem.W.kitOne X.K t (.type n)=some b/\Q (.bl b) H):=by
 intro pins s σ H xs us Q I r h
 obtain ⟨x,t,b,rfl,ty,e,q⟩:=h
 obtain ⟨u,w',rfl,rx,rw'⟩:=vals2 r
 cases (show w'=Value.type n from rw')
 exact uv I rx ty e fun tk=>⟨.bl b,H,I.tok _,rfl,q⟩
end
theorem fZ:bootBuiltins "len"=some (.builtin "len"):=by decide +kernel
theorem gY:bootBuiltins "isinstance"=some (.builtin "isinstance"):=by decide +kernel
theorem f6 {X:Cx} {K:PySem.W.Frag} (h:X.K=K):fW X (nC K):=by subst h;exact uQ
end L2
namespace L2
open PySem PySem.Spec PyProof.Rows
section
variable {X:Cx}
theorem vt:ku X "int.bit_length" (fun x xs H Q=>∃ i,x=.int i/\xs=[]/\Q (.int ((Builtin.Int.intBits i:Nat):Int)) H):=by
 intro pins s σ H x xs v us Q I rx rs h
 obtain ⟨i,rfl,rfl,q⟩:=h
 obtain ⟨t,rfl⟩:=rx
 cases rs
 exact call_int_bit_length ⟨.int _,H,I.tok _,⟨_,rfl⟩,q⟩
end
theorem i6:bootBuiltins "list"=some (.type "list"):=by decide +kernel
end L2
namespace L2
open PySem PySem.Spec PyProof.Rows
section
variable {X:Cx}
noncomputable def dI (z:Str) (lo hi:Option Int):Str:=⟨((z.cps.toList.drop (HT.sIx z.length 0 lo)).take (HT.sIx z.length z.length hi-HT.sIx z.length 0 lo)).toArray⟩
theorem nP (n d:Nat) (v:Option Int):(match v with | none=>(d:Int) | some i=>max 0 (min (if i<0 then i+(n:Int) else i) (n:Int)))=((HT.sIx n d v:Nat):Int):=by
 cases v with
 | none=>rfl
 | some i =>
  show max 0 (min (if i<0 then i+(n:Int) else i) (n:Int))=(((if i<0 then (i+(n:Int)).toNat else min i.toNat n):Nat):Int)
  by_cases h:i<0
  ·simp only [if_pos h];omega
  ·simp only [if_neg h];omega
theorem vv (lo hi:Option Int) (n:Nat):Builtin.Str.strSliceIndices lo hi 1 n=(List.range (HT.sIx n n hi-HT.sIx n 0 lo)).map (HT.sIx n 0 lo+·):=by
 rw [<- sliceRange_one]
 have e1:=nP n 0 lo
 have e2:=nP n n hi
 rw [<- e1,<- e2]
 rfl
theorem vx (z:Str) (lo hi:Option Int):Txt.slice z lo hi=dI z lo hi:=by
 have hL:=HT.sIx_le z.length 0 (Qs _) lo
 have hH:=HT.sIx_le z.length z.length (Qh _) hi
 have hz:z.cps.toList.length=z.length:=by simp [Str.length]
 unfold Txt.slice dI
 rw [vv]
 split
 ·rename_i h
  have h':HT.sIx z.length z.length hi-HT.sIx z.length 0 lo=z.length:=by simpa using h
  rw [h']
  by_cases h0:HT.sIx z.length 0 lo=0
  ·rw [h0,List.drop_zero,Qu (by omega)]
  ·have:z.length=0:=by omega
   omega
 ·rw [pick_run]
theorem nQ (z:Str) (lo hi:Option Int):(dI z lo hi).cps.toList=(z.cps.toList.drop (HT.sIx z.length 0 lo)).take (HT.sIx z.length z.length hi-HT.sIx z.length 0 lo):=rfl
theorem vz (z:Str) (k:Nat):(dI z none (some (k:Int))).cps.toList=z.cps.toList.take k:=by
 rw [nQ,HT.sIx_none,HT.sIx_nat,List.drop_zero,Nat.sub_zero]
 have hz:z.cps.toList.length=z.length:=by simp [Str.length]
 rw [<- hz,<- List.take_take,Qu (Qh _)]
theorem kH (z:Str) (lo hi:Option Int):(dI z lo hi).length<=z.length:=by
 show ((z.cps.toList.drop (HT.sIx z.length 0 lo)).take (HT.sIx z.length z.length hi-HT.sIx z.length 0 lo)).toArray.size<=z.length
 rw [Qq,Qr,List.length_drop]
 have hz:z.cps.toList.length=z.length:=by simp [Str.length]
 omega
theorem kI:ko X (fun x lo hi H Q=>∃ z,x=.str z/\z.length<=sizeLine/\Q (.str (dI z lo hi)) H):=by
 intro pins s σ H x v vl vu lo hi sl Q I rx hs pl pu h
 obtain ⟨z,rfl,hz,q⟩:=h
 obtain ⟨t,rfl⟩:=rx
 rw [<- vx] at q
 refine ⟨"str",_,slot_str_getitem.lookup,typeIs_str s z t,?_⟩
 have key:∀ (l u:Option (Int × Tok)),s.heap.IsSliceOf sl (partValue l) (partValue u) .none->l.map (·.1)=lo->u.map (·.1)=hi->wpAny (model X.prog X.w) X.A (getItem (.str z t) (.ref sl)) (EP X pins σ Q) X.xe s:=by
  intro l u hs' hl hu
  subst hl hu
  exact wpAny_getItem_str_slice (l:=l) (u:=u) (st:=none) hs' rfl (post_val_or_str ⟨QD (Txt.slice_le z _ _) hz,fun t' k=>⟨.str (Txt.slice z (l.map (·.1)) (u.map (·.1))),H,I.tok k,⟨t',rfl⟩,q⟩⟩)
 cases pl with
 | none=>cases pu with
  | none=>exact key none none hs rfl rfl
  | int j tj=>exact key none (some (j,tj)) hs rfl rfl
 | int i ti=>cases pu with
  | none=>exact key (some (i,ti)) none hs rfl rfl
  | int j tj=>exact key (some (i,ti)) (some (j,tj)) hs rfl rfl
noncomputable def kJ (n:Nat) (y:Nat->V):It:=⟨fun i _=>i<n,fun i H x H'=>H'=H/\x=y i,fun i _=>n<=i⟩
end
end L2
namespace PySem.F
end PySem.F
namespace PySem
section
variable {prog:Program} {w:World} {A:Around} {E:Value->Shared->Prop} {s:Shared}
end
end PySem
namespace L2
open PySem PySem.Spec PyProof.Rows
section
variable {X:Cx} {tg:Expr}
end
end L2
namespace L2
open PySem PySem.Spec PyProof.Rows
section
variable {X:Cx} {a:Addr} {kvs:List (Str × Int)} {x:Str} {p pos apos cpos:Pos} {e f:Expr} {ty tx:TE}
end
end L2
namespace L2
open PySem PySem.Spec PyProof.Rows
section
variable {X:Cx}
end
theorem vA (K:PySem.W.Frag) (C:Addr):PySem.W.kitOne K (.ref C) (.ref C)=some true:=by
 unfold PySem.W.kitOne
 rw [if_pos (by simp)]
end L2
namespace L2
open PySem PySem.Spec PyProof.Rows
section
variable {X:Cx}
end
section
variable {X:Cx} {pins:List (Addr × Obj)} {σ:St} {H H':Hp} {s s':Shared} {B h'':Heap}
end
section
variable {P:Program} {w:World} {K:PySem.W.Frag} {mg:Str->Option Value} {base:Heap} {N:List Str} {qual:Str} {scope:Scope} {f:Addr} {cd:Value} {A:Around} {outer:List Env} {s₀:Shared} {H₀:Hp} {E:XK}
end
section
variable {X:Cx}
end
end L2
namespace L2
open PySem PySem.Spec PyProof.Rows
section
variable {prog:Program} {w:World} {A:Around} {E:Value->Shared->Prop} {s:Shared} {K:PySem.W.Frag} {x D:Addr} {name:Str}
end
section
variable {X:Cx}
end
section
variable {X:Cx} {CX:cT} {k:Nat} {f C:Addr} {fd:FuncData} {ps:List Str} {sp:Sp} {dvs:List V} {ds:List Value} {x m:Str} {p pos apos:Pos} {e o:Expr} {es:List Expr} {ta:TE} {t:TA}
end
section
variable {X:Cx} {pins:List (Addr × Obj)} {σ:St} {H:Hp} {s:Shared}
end
section
variable {X:Cx}
end
end L2
namespace L2
open PySem PySem.Spec PyProof.Rows
section
variable {X:Cx} {CX:cT} {e:Expr} {te:XK->TE} {pos:Pos}
end
section
variable {X:Cx} {CX:cT} {k:Nat} {f C:Addr} {fd:FuncData} {ps:List Str} {sp:Sp} {dvs:List V} {ds:List Value} {x m:Str} {p pos apos:Pos} {e o:Expr} {es:List Expr} {ta:TE} {t:TA}
end
section
variable {X:Cx}
end
end L2
namespace L2
open PySem PySem.Spec PyProof.Rows
theorem vB {prog:Program} {w:World} {A:Around} {R:Result->Shared->Prop} {s:Shared} {elt iter:Expr} {tg:Expr} {ifs:List Expr} {sc:Scope} {pos:Pos} {it acc:Value} {env:Env} (J:Nat->Shared->Prop)
  (one:∀ k st,J k st->wpAny (model prog w) A (pyNext it) (fun r s₁=>match r with
   | none=>R (.ok .next) s₁
   | some v=>wpAny (model prog w) A (letOwnedTupleGo tg it v) (fun _ sg=>wpAny (model prog w) A (assign tg env v) (fun _ s₂ =>
     wpAny (model prog w) A (nI ifs env) (fun ok s₃ =>
      if ok=true then wpAny (model prog w) A (eval elt env) (fun y s₄=>wpAny (model prog w) A (call (.builtin "list.append") [acc,y]) (fun _ s₅=>∃ m,m<k/\J m s₅) (fun _ _=>False) s₄) (fun _ _=>False) s₃
      else ∃ m,m<k/\J m s₃) (fun _ _=>False) s₂) (fun _ _=>False) sg) (fun _ _=>False) s₁) (fun _ _=>False) st)
  (k0:Nat) (h0:J k0 s):codeAny (model prog w) A (.compLoop (.ListComp elt [⟨tg,iter,ifs,0⟩] sc pos) 0 it acc env) R s:=by
 refine codeAny_loop rfl J (fun k st hk=>?_) k0 h0
 show wpAny _ A ((compTurn (.ListComp elt [⟨tg,iter,ifs,0⟩] sc pos) 0 it acc env).onRaise (fun y=>do noteFrame y env;theTreesLotGoes y)) _ _ st
 refine wpAny_noted ?_
 rw [compTurn_list]
 refine Qa (wpAny_standAt (Qa (QJ (one k st hk) (fun r s₁ h₁=>?_) fun _ _ z=>z.elim)))
 cases r with
 | none=>exact Qc h₁
 | some v =>
  refine Qa (QJ h₁ (fun _ sg hg=>?_) fun _ _ z=>z.elim)
  refine Qa (QJ hg (fun _ s₂ h₂=>?_) fun _ _ z=>z.elim)
  refine Qa (QJ h₂ (fun ok s₃ h₃=>?_) fun _ _ z=>z.elim)
  cases ok with
  | false=>exact Qc ⟨rfl,h₃⟩
  | true =>
   refine Qa (Qa (QJ h₃ (fun y s₄ h₄=>?_) fun _ _ z=>z.elim))
   exact Qa (QJ h₄ (fun _ s₅ h₅=>Qc (Qc ⟨rfl,h₅⟩)) fun _ _ z=>z.elim)
structure i7 (scX sc:Scope) (NX:List Str) (xs:List Str) (fv:List Str) (js:List Nat):Prop where
 kind:sc.kind=.function
 kindX:scX.kind=.function
 cell:∀ y∈sc.names,y.2≠.cell
 own:∀ x∈xs,sc.names.lookup x=some .local
 names:∀ y∈sc.names,y.2=.local->sc.names.lookup y.1=some .local
 free:∀ y∈sc.names,y.2=.free->scX.names.lookup y.1=some .cell
 nd:(xs++fv).Nodup
 at':js.map (fun j=>NX[j]?)=fv.map some
 fr:∀ y∈fv,sc.names.lookup y=some .free
noncomputable abbrev cJ (X:Cx) (sc:Scope) (xs:List Str) (fv:List Str) (C:Addr) (s0:Shared) (H0:Hp) (ex:List Addr):Cx :=
 { X with N:=xs++fv,s₀:=s0,H₀:=H0,env:=compEnvC sc (bM X.env.cells sc.names []) C X.env,outer:=X.stack,ex:=ex,fn:=fun _=>false,pn:=[],xe:=fun _ _=>False }
noncomputable def i8 (k:Nat) (js:List Nat) (g:TG) (tt:TT) (te:TE) (σ:St) (ys:List V) (N:List V->Hp->Prop) (x:V) (H':Hp):Prop :=
 ∀ os:List (Option V),os.length=k->g x (os++bO js σ) H' fun σ6 H6=>(∃ os':List (Option V),os'.length=k/\σ6=os'++bO js σ) /\
  tt σ6 H6 fun b H2=>if b=true then te σ6 H2 fun y H3=>ys.length<sizeLine/\N (ys++[y]) H3 else N ys H2
noncomputable def kK (J:It) (k:Nat) (js:List Nat) (g:TG) (tt:TT) (te:TE):TE:=fun σ H1 Q=>∃ W:Nat->Nat->List V->Hp->Prop,(∃ m,W 0 m [] H1)/\∀ i m ys H,W i m ys H ->
 (J.stop i H/\∀ p,H p=none->Q (.ref p) (af H p (.lst ys))) ∨
 (J.go i H/\∃ N:List V->Hp->Prop,(∀ ys' H',N ys' H'->∃ m',m'<m/\W (i+1) m' ys' H')/\∀ x H',J.yld i H x H'->i8 k js g tt te σ ys N x H')
noncomputable def nR (wi:TI) (k:Nat) (js:List Nat) (g:TG) (tt:TT) (te:TE):TE:=fun σ H Q=>wi σ H fun J H1=>kK J k js g tt te σ H1 Q
section
variable {X:Cx} {pins:List (Addr × Obj)} {σ:St} {H2:Hp} {s2:Shared} {elt iter tg:Expr} {xs:List Str} {ifs:List Expr} {sc scX:Scope} {pos:Pos} {fv:List Str} {js:List Nat} {g:TG} {tt:TT} {te:TE}
theorem kL (S:i7 scX sc X.N xs fv js) (hsx:X.env.scope=scX) (hcalm:X.calm=true) (hgg:∀ C s0 H0 ex,PG (cJ X sc xs fv C s0 H0 ex) tg g)
  (ht:∀ C s0 H0 ex,eP (cJ X sc xs fv C s0 H0 ex) ifs tt) (he:∀ C s0 H0 ex,PE (cJ X sc xs fv C s0 H0 ex) elt te)
  {it:Addr} {fp:List Addr} {tn:Nat->Heap->Prop} {J:It} (I2:Inv X pins σ H2 s2) (T:eF X.prog X.w X.K tg J fp it tn) (st2:tn 0 s2.heap) (f2:∀ b∈fp,b4 X pins H2 b)
  {Q:VK} {W:Nat->Nat->List V->Hp->Prop} (w0:∃ m,W 0 m [] H2)
  (step:∀ i m ys H,W i m ys H->(J.stop i H/\∀ p,H p=none->Q (.ref p) (af H p (.lst ys))) ∨
   (J.go i H/\∃ N:List V->Hp->Prop,(∀ ys' H',N ys' H'->∃ m',m'<m/\W (i+1) m' ys' H') /\
    ∀ x H',J.yld i H x H'->i8 xs.length js g tt te σ ys N x H'))
  {RR:Value->Addr->Result->Shared->Prop} {E:Value->Shared->Prop}
  (fin:∀ (D C:Addr) (s':Shared) (H':Hp),Inv X pins σ H' s'->Q (.ref D) H'->(∃ m,s'.heap.Ns C m)->b4 X pins H' C->RR (.ref D) C (.ok .next) s') :
  wpAny (model X.prog X.w) X.A (newList []) (fun acc s₃=>wpAny (model X.prog X.w) X.A (newFunctionEnv sc X.env.globals (bM X.env.cells sc.names []) [] X.env.qual none .none (some X.env)) (fun cenv s₄ =>
   codeAny (model X.prog X.w) X.A (.compStart (.ListComp elt [⟨tg,iter,ifs,0⟩] sc pos) 0 (.ref it) acc { cenv with scope:=relabel sc X.env }) (RR acc cenv.locals) s₄) E s₃) E s2:=by
 have hfree:∀ y∈sc.names,y.2=.free->∃ c,X.env.cells.lookup y.1=some c:=fun y hy hf=>I2.ok.has y.1 (.inl (by show X.env.scope.names.lookup y.1=_;rw [hsx];exact S.free y hy hf))
 obtain ⟨cl1,_,cl3⟩:=kE (cells:=X.env.cells) sc.names [] hfree (fun y c h=>by simp at h)
 refine wpAny_newObj_type (wpAny_newFunctionEnv S.cell (by intro y hy;simp at hy) (fun h₁ hns₁ hsb₁=>?_) S.kind)
 dsimp only at hns₁ hsb₁ ⊢
 generalize hG:s2.heap.push { cls:=.type "list",dict:=none,data:=.seq ([]:List Value).toArray }=G at hns₁ hsb₁ ⊢
 have hGz:G.objs.size=s2.heap.objs.size+1:=by rw [<- hG,Heap.size_push]
 have upG:∀ b o,s2.heap.get? b=some o->G.get? b=some o:=fun b o e=>hG ▸ Qd _ e
 have upH:∀ b o,G.get? b=some o->h₁.get? b=some o:=fun b o e=>hsb₁.extBut b o (Qz (Qo e)) (Qd _ e)
 have ltD:∀ b o,s2.heap.get? b=some o->b≠s2.heap.objs.size:=fun b o e=>Qz (Qo e)
 have fpo:∀ b∈fp,∃ o,s2.heap.get? b=some o:=fun b hb=>by obtain ⟨o,e,_⟩:=T.obj 0 _ st2 b hb;exact ⟨o,e⟩
 have fpD:∀ b∈fp,b≠s2.heap.objs.size:=fun b hb=>by obtain ⟨o,e⟩:=fpo b hb;exact ltD b o e
 have fpC:∀ b∈fp,b≠G.objs.size:=fun b hb=>by obtain ⟨o,e⟩:=fpo b hb;exact Qz (Qo (upG b o e))
 have cellO:∀ y c,(bM X.env.cells sc.names []).lookup y=some c->∃ v,s2.heap.IsCell c v:=fun y c e=>I2.cell y c (cl1 y c e)
 have cellD:∀ y c,(bM X.env.cells sc.names []).lookup y=some c->c≠s2.heap.objs.size:=fun y c e=>by obtain ⟨v,q⟩:=cellO y c e;exact Qz q.lt
 have Dfs:s2.heap.objs.size∉cZ X.stack:=fun hb=>by
  rcases Ql (I2.stkSub _ hb) with z | z
  ·exact absurd I2.lt (by rw [<- z];exact Nat.lt_irrefl _)
  ·exact I2.nofs (Qh _) z
 have fpfs:∀ b∈fp,b∉cZ X.stack:=fun b hb hz=>by
  obtain ⟨_,f1,f2',_⟩:=f2 b hb
  rcases Ql (I2.stkSub _ hz) with z | z
  ·exact f1 z
  ·exact f2' z
 have HD:H2 s2.heap.objs.size=none:=I2.hok.fresh (Qh _)
 have HC:H2 G.objs.size=none:=I2.hok.fresh (by rw [hGz];exact Nat.le_succ _)
 have DC:s2.heap.objs.size≠G.objs.size:=by rw [hGz];exact Qz (Nat.lt_succ_self _)
 have okC:Cx.Ok (cJ X sc xs fv G.objs.size { s2 with heap:=G } H2 (s2.heap.objs.size::fp)):=by
  refine ⟨I2.ok.mod,S.kind,I2.ok.glob,I2.ok.blt,Qh _,fun y z c h1 h2=>I2.ok.inj y z c (cl1 _ _ h1) (cl1 _ _ h2),fun y hy=>?_,fun y c hfn _=>(by cases hfn),I2.ok.hd,I2.ok.frames,.inl rfl,fun b hb=>?_,fun b o e=>?_,?_,fun b o e hb=>?_,fun b hb=>?_,?_,I2.stkFree⟩
  ·exact Option.isSome_iff_exists.mp (cl3 y (nK S.cell hy))
  ·rcases Ql hb with z | z
   ·subst z;exact ⟨DC,cellD⟩
   ·refine ⟨fpC b z,fun y c e=>?_⟩
    obtain ⟨_,_,_,_,f4,_⟩:=f2 b z
    exact f4 y c (cl1 y c e)
  ·exact ⟨upG b o (I2.bs b o e).1,(I2.bs b o e).2⟩
  ·show X.base.objs.size<=G.objs.size
   rw [hGz];exact Nat.le_succ_of_le (QD I2.ok.bsz I2.sz)
  ·rcases Ql hb with z | z
   ·exact ltD b o (I2.bk b o e) z
   ·obtain ⟨_,_,_,f3,_⟩:=f2 b z
    rcases f3 with q | q
    ·exact I2.ok.noex b o e q
    ·exact absurd (Nat.lt_of_lt_of_le (Qo e) (QD I2.ok.bsz q)) (Nat.lt_irrefl _)
  ·rcases Ql hb with z | z
   ·subst z;exact Dfs
   ·exact fpfs b z
  ·exact (I2.stack).of_keeps fun b o e _=>⟨o,upG b o e,rfl⟩
 have lenC:∀ os:List (Option V),os.length=xs.length->(os++bO js σ).length=(xs++fv).length:=fun os ho=>by
  have:=congrArg List.length S.at'
  simp only [Qg] at this
  simp [bO,this,ho]
 have hacc:h₁.get? s2.heap.objs.size=some { cls:=.type "list",dict:=none,data:=.seq ([]:List Value).toArray }:=upH _ _ (hG ▸ Qm _ rfl)
 have I4:Inv (cJ X sc xs fv G.objs.size { s2 with heap:=G } H2 (s2.heap.objs.size::fp)) [(s2.heap.objs.size,{ cls:=.type "list",dict:=none,data:=.seq ([]:List Value).toArray })] (xs.map (fun _=>none)++bO js σ) H2 { s2 with heap:=h₁,toks:=s2.toks+([]:List (Str × Value)).length }:=by
  refine ⟨okC,rfl,I2.bare,Un.kept upH,⟨_,hns₁,fun i y v e1 e2 e3=>?_⟩,fun y c e=>?_,HC,fun y c e=>I2.freeC y c (cl1 y c e),fun p hp=>?_,I2.hok.kept fun b u e=>upH b u (upG b u e),lenC _ (by simp)⟩
  ·by_cases hix:i<xs.length
   ·have:(xs.map (fun _=>(none:Option V))++bO js σ)[i]?=some none:=by
     rw [QA (by simpa using hix),Qk,Qb hix];rfl
    rw [this] at e2
    cases e2
   ·obtain ⟨i',rfl⟩:∃ i',i=xs.length+i':=⟨i-xs.length,by omega⟩
    have e1':fv[i']?=some y:=by
     have e1a:(xs++fv)[xs.length+i']?=some y:=e1
     rw [Qy (by omega),Nat.add_sub_cancel_left] at e1a
     exact e1a
    have e2':(bO js σ)[i']?=some (some v):=by
     have e2a:=e2
     rw [Qy (by simp),Qg,Nat.add_sub_cancel_left] at e2a
     exact e2a
    have q:=congrArg (fun l=>l[i']?) S.at'
    simp only [Qk,e1',Option.map_some] at q
    cases hj:js[i']? with
    | none=>rw [hj] at q;cases q
    | some j =>
     rw [hj] at q
     have hj':X.N[j]?=some y:=Qj q
     unfold bO at e2'
     rw [Qk,hj] at e2'
     have e2'':(σ[j]?).getD none=some v:=Qj e2'
     have e2b:σ[j]?=some (some v):=by
      cases hh:σ[j]? with
      | none=>rw [hh] at e2'';cases e2''
      | some o=>rw [hh] at e2'';exact congrArg some e2''
     have hm:y∈fv:=Qt e1'
     have hcX:scX.names.lookup y=some .cell:=S.free (y,.free) (PySem.mem_of_lookup (S.fr y hm)) rfl
     have kX:X.env.kindOf y=some .cell:=by show X.env.scope.names.lookup y=_;rw [hsx];exact hcX
     obtain ⟨m,hn,hl⟩:=I2.loc
     obtain ⟨u,r,lk⟩:=hl j y v hj' e2b (.inr (.inl kX))
     refine ⟨u,r,?_⟩
     rcases lk with ⟨k,_⟩ | ⟨_,c,ec,z⟩
     ·rw [kX] at k;cases k
     ·refine .inr ⟨.inl (nJ (by rw [hsx];exact S.kindX) (S.fr y hm) kX),c,?_,?_⟩
      ·obtain ⟨c',ec'⟩:=Option.isSome_iff_exists.mp (cl3 y (PySem.mem_of_lookup (S.fr y hm)))
       have:=cl1 y c' ec'
       rw [ec] at this;cases this
       exact ec'
      ·obtain ⟨o,ho,hd⟩:=z
       exact ⟨o,upH c o (upG c o ho),hd⟩
  ·obtain ⟨v,o,ho,hd⟩:=cellO y c e
   exact ⟨v,o,upH c o (upG c o ho),hd⟩
  ·have hp':p=(s2.heap.objs.size,{ cls:=.type "list",dict:=none,data:=.seq ([]:List Value).toArray }):=by simpa using hp
   subst hp'
   exact ⟨hacc,HD,DC,Dfs,fun v z=>by cases z⟩
 have loop:codeAny (model X.prog X.w) X.A (.compLoop (.ListComp elt [⟨tg,iter,ifs,0⟩] sc pos) 0 (.ref it) (.ref s2.heap.objs.size) (compEnvC sc (bM X.env.cells sc.names []) G.objs.size X.env)) (RR (.ref s2.heap.objs.size) G.objs.size) { s2 with heap:=h₁,toks:=s2.toks+([]:List (Str × Value)).length }:=by
  obtain ⟨m0,w0⟩:=w0
  have fok:∀ {H':Hp} {o:Obj},(∀ b∈fp,H' b=none)->∀ b∈fp,b4 (cJ X sc xs fv G.objs.size { s2 with heap:=G } H2 (s2.heap.objs.size::fp)) [(s2.heap.objs.size,o)] H' b:=fun {H' o} hn b hb=>by
   refine ⟨hn b hb,fpC b hb,fpfs b hb,.inl (Qn _ hb),fun y c e=>?_,fun p hp=>?_⟩
   ·obtain ⟨_,_,_,_,f4,_⟩:=f2 b hb
    exact f4 y c (cl1 y c e)
   ·have hp':p=(s2.heap.objs.size,o):=by simpa using hp
    subst hp'
    exact (fpD b hb).symm
  refine vB (fun k st=>∃ (i:Nat) (ys:List V) (its:List Value) (n:Nat) (os:List (Option V)) (H':Hp),os.length=xs.length/\Inv (cJ X sc xs fv G.objs.size { s2 with heap:=G } H2 (s2.heap.objs.size::fp)) [(s2.heap.objs.size,{ cls:=.type "list",data:=.seq its.toArray n })] (os++bO js σ) H' st /\
   ao ys its/\ys.length<=sizeLine/\tn i st.heap/\(∀ b∈fp,H' b=none)/\W i k ys H') ?_ m0
   ⟨0,[],[],_,xs.map (fun _=>none),H2,by simp,I4,.nil,Qs _,T.keep _ _ _ st2 fun b _ o e=>upH b o (upG b o e),fun b hb=>(f2 b hb).1,w0⟩
  rintro k s3 ⟨i,ys,its,n,os,H3,hos,I3,rv,hz,st3,fr3,w3⟩
  rcases step i k ys H3 w3 with ⟨stop,q⟩ | ⟨go,N,hN,hgo⟩
  ·refine ar (T.done (cJ X sc xs fv G.objs.size { s2 with heap:=G } H2 (s2.heap.objs.size::fp)) rfl rfl rfl hcalm i _ s3 _ H3 _ I3 (fok fr3) st3 stop) fun r s4 hsl43=>?_
   obtain ⟨hr,I4⟩:=hsl43
   subst hr
   obtain ⟨pD,pn,_,_,_⟩:=I4.pin _ (List.mem_append_right _ QB)
   have B:=I4.base
   have nD:∀ b o,s2.heap.get? b=some o->b∉fp->b∉s2.heap.objs.size::fp:=fun b o e hx hm=>(Ql hm).elim (ltD b o e) hx
   have neH:∀ b u,H2 b=some u->b≠s2.heap.objs.size:=fun b u e z=>by rw [z,HD] at e;cases e
   have JX:Inv X pins σ (af H3 s2.heap.objs.size (.lst ys)) s4:=by
    refine I2.call' (ch:=fp) I4.os ⟨fun b o e hn hb hx=>B.keep b o (upG b o e) hn hb (nD b o e hx),fun b o e hn hb hx=>B.slot b o (upG b o e) hn hb (nD b o e hx),fun b o e hn hx=>?_,fun b o e hx=>B.there b o (upG b o e) (nD b o e hx),fun b xs e=>?_,fun b o u e=>?_,fun b ps e=>?_⟩ (fun b u e=>?_) I4.bare fun b hb=>?_
    ·rw [av (ltD b o e)];exact B.free b o (upG b o e) hn (nD b o e hx)
    ·rw [av (neH b _ e)];exact B.tups b xs e
    ·rw [av (neH b _ e)];exact B.frzs b o u e
    ·rw [av (neH b _ e)];exact B.tbls b ps e
    ·by_cases hb:b=s2.heap.objs.size
     ·subst hb
      rw [aj] at e;cases e
      exact ⟨hz,its,n,rv,pD⟩
     ·rw [av hb] at e
      exact (I4.hok b u e).stay (fun _ _ _ z=>z) (fun c z=>by rw [av (cS z pn)];exact z) fun c xs z=>by rw [av (cS z pn)];exact z
    ·obtain ⟨_,f1,_,f3,f4,f5⟩:=f2 b hb
     exact ⟨f3,f1,f4,f5⟩
   refine fin _ _ s4 _ JX (q _ pn) (by obtain ⟨m,hm,_⟩:=I4.loc;exact ⟨m,hm⟩) (I2.fpOk (by rw [hGz];exact Nat.le_succ _) ?_)
   rw [av DC.symm];exact I4.free
  ·refine ar (T.item (cJ X sc xs fv G.objs.size { s2 with heap:=G } H2 (s2.heap.objs.size::fp)) rfl rfl rfl hcalm i _ s3 _ H3 _ I3 (fok fr3) st3 go) fun r s4 hsl44=>?_
   obtain ⟨u,hr,h4⟩:=hsl44
   subst hr
   refine ar h4 fun _ s5 hsl45=>?_
   obtain ⟨y,H5,I5,r5,y5,st5,fr5⟩:=hsl45
   have I5':=I5.pinned (fok fr5) (T.obj _ _ st5)
   refine ar (hgg _ _ _ _ _ s5 _ H5 y u _ I5' r5 (hgo y _ y5 os hos)) fun _ s6 hsl46=>?_
   obtain ⟨σ6,H6,I6,⟨os',hos',eσ⟩,q6⟩:=hsl46
   subst eσ
   refine ar (ht _ _ _ _ _ s6 _ _ _ I6 q6) fun b s7 hsl47=>?_
   obtain ⟨H7,I7,q7⟩:=hsl47
   cases b with
   | false =>
    rw [if_neg Bool.false_ne_true] at q7 ⊢
    obtain ⟨m',hm,w7⟩:=hN ys H7 q7
    exact ⟨m',hm,i+1,ys,its,n,os',H7,hos',I7.unpinned,rv,hz,T.keep _ _ _ st5 fun b hb o e=>(I7.pin (b,o) (List.mem_append_right _ (List.mem_append_right _ (eI hb e)))).1,fun b hb=>by
     obtain ⟨o,e,d⟩:=T.obj _ _ st5 b hb
     exact (I7.pin (b,o) (List.mem_append_right _ (List.mem_append_right _ (eI hb e)))).2.1,w7⟩
   | true =>
    rw [if_pos rfl] at q7 ⊢
    refine ar (he _ _ _ _ _ s7 _ H7 _ I7 q7) fun u8 s8 hsl48=>?_
    obtain ⟨y8,H8,I8,r8,hl8,q8⟩:=hsl48
    obtain ⟨m',hm,w8⟩:=hN _ H8 q8
    obtain ⟨pD,pn,pC,pf,_⟩:=I8.pin _ (List.mem_append_right _ (List.mem_append_left _ QB))
    refine wpAny_list_append_plain (items:=its.toArray) ⟨n,pD⟩ (fun h9 hl9 sb9=>?_) (by rw [Qq,<- rv.length];exact Nat.le_of_lt hl8)
    have pinF:∀ p∈fk fp s5.heap,p∈[(s2.heap.objs.size,({ cls:=.type "list",data:=.seq its.toArray n }:Obj))]++fk fp s5.heap:=fun p hp=>List.mem_append_right _ hp
    have I8a:=I8.pins_of (pins':=fk fp s5.heap) fun p hp=>I8.pin p (List.mem_append_right _ (pinF p hp))
    have I9:=I8a.turned (it:=s2.heap.objs.size) (h':=h9) (t':=s8.toks) (fun b o hb e=>(sb9.2 b hb).trans e) pn DC (.inl QB) (fun y c e=>cellD y c e) fun p hp=>fpD p.1 (mX (by simpa using hp)).1
    obtain ⟨n9,e9⟩:=hl9
    have e9':h9.get? s2.heap.objs.size=some { cls:=.type "list",data:=.seq (its++[u8]).toArray n9 }:=by
     rw [e9,show (its++[u8]).toArray=its.toArray.push u8 by simp]
    refine ⟨m',hm,i+1,ys++[y8],its++[u8],n9,os',H8,hos',I9.pins_of fun p hp=>?_,rv.append (.cons r8 .nil),by rw [Qw];exact hl8,T.keep _ _ _ st5 fun b hb o e=>(I9.pin (b,o) (List.mem_append_right _ (eI hb e))).1,fun b hb=>?_,w8⟩
    ·have hp':p=(s2.heap.objs.size,{ cls:=.type "list",data:=.seq (its++[u8]).toArray n9 }):=by simpa using hp
     subst hp'
     exact ⟨e9',pn,DC,pf,fun v z=>by cases z⟩
    ·obtain ⟨o,e,d⟩:=T.obj _ _ st5 b hb
     exact (I9.pin (b,o) (List.mem_append_right _ (eI hb e))).2.1
 exact codeAny_compStart_list loop (T.self _ 0 _ _ _ (T.keep _ _ _ st2 fun b _ o e=>upH b o (upG b o e)) loop)
theorem i9 {wi:TI} (scX:Scope) (NX fv:List Str) (js:List Nat) (hNX:X.N=NX) (S:i7 scX sc NX xs fv js) (hsx:X.env.scope=scX) (hcalm:X.calm=true) (hi:PI X tg iter wi) (hgg:∀ C s0 H0 ex,PG (cJ X sc xs fv C s0 H0 ex) tg g)
  (ht:∀ C s0 H0 ex,eP (cJ X sc xs fv C s0 H0 ex) ifs tt) (he:∀ C s0 H0 ex,PE (cJ X sc xs fv C s0 H0 ex) elt te)
  (hs:∀ v,foldedSetIterable iter X.env v=pure v:=by intro _;rfl):PE X (.ListComp elt [⟨tg,iter,ifs,0⟩] sc pos) (nR wi xs.length js g tt te):=by
 intro pins s σ H Q I h
 rw [<- hNX] at S
 have hfree:∀ y∈sc.names,y.2=.free->∃ c,X.env.cells.lookup y.1=some c:=fun y hy hf=>I.ok.has y.1 (.inl (by show X.env.scope.names.lookup y.1=_;rw [hsx];exact S.free y hy hf))
 rw [eval_ListComp]
 refine wpAny_comprehension_free (use:=none) rfl hs (i3 hfree) S.kind S.names (ar (hi pins s σ H _ I h) fun v s1 h1=>ar h1 fun itv s2 h2=>?_)
 obtain ⟨it,fp,tn,J,H2,e,I2,T,st2,f2,W,w0,step⟩:=h2
 subst e
 refine kL (RR:=fun acc C=>compPost (model X.prog X.w) X.A X.xe none (EP X pins σ Q) acc C) S hsx hcalm hgg ht he I2 T st2 f2 w0 step fun D C s' H' I' q hsl49 hC=>?_
 obtain ⟨m,hm⟩:=hsl49
 obtain ⟨f0,f1,_,f3,f4,f5⟩:=hC
 exact ⟨m,hm,fun h' sb=>⟨.ref D,H',I'.turned (t':=s'.toks) (fun b o hb e=>(sb.2 b hb).trans e) f0 f1 f3 f4 f5,rfl,q⟩⟩
theorem vC {wi:TI} {i:Nat} {y:Str} {py spos:Pos} (scX:Scope) (NX fv:List Str) (js:List Nat) (hNX:X.N=NX) (S:i7 scX sc NX xs fv js) (hsx:X.env.scope=scX) (hcalm:X.calm=true) (hi:PI X tg iter wi) (hgg:∀ C s0 H0 ex,PG (cJ X sc xs fv C s0 H0 ex) tg g)
  (ht:∀ C s0 H0 ex,eP (cJ X sc xs fv C s0 H0 ex) ifs tt) (he:∀ C s0 H0 ex,PE (cJ X sc xs fv C s0 H0 ex) elt te)
  (hN:X.N.Nodup) (hy:X.N[i]?=some y) (hl:X.env.scope.names.lookup y=some .local) (hsw:swapsWith (.ListComp elt [⟨tg,iter,ifs,0⟩] sc pos) (some (.Name y py)) spos.line X.env=pure true)
  (hs:∀ v,foldedSetIterable iter X.env v=pure v:=by intro _;rfl):PS X (.Assign [.Name y py] (.ListComp elt [⟨tg,iter,ifs,0⟩] sc pos) spos) (gK (nR wi xs.length js g tt te) (aT i)):=by
 intro pins s σ H D I h
 rw [<- hNX] at S
 have hfree:∀ y∈sc.names,y.2=.free->∃ c,X.env.cells.lookup y.1=some c:=fun y hy hf=>I.ok.has y.1 (.inl (by show X.env.scope.names.lookup y.1=_;rw [hsx];exact S.free y hy hf))
 rw [exec_Assign_Name_used _ _ _ _ hsw]
 refine Qa (wpAny_standAt (Qa ?_))
 show wpAny _ _ (do let _ <- comprehension (.ListComp elt [⟨tg,iter,ifs,0⟩] sc pos) sc X.env _ (newList []) false (eval iter X.env) (some (assign (.Name y py) X.env))) _ _ s
 refine Qa (QJ (wpAny_comprehension_free (use:=some (assign (.Name y py) X.env)) (Q:=fun _ st=>SP X pins D .next st) rfl hs (i3 hfree) S.kind S.names
  (ar (hi pins s σ H _ I h) fun v s1 h1=>ar h1 fun itv s2 h2=>?_)) (fun _ st hq=>Qc (Qc hq)) fun _ _ e=>e)
 obtain ⟨it,fp,tn,J,H2,e,I2,T,st2,f2,W,w0,step⟩:=h2
 subst e
 refine kL (Q:=fun v H1=>aT i v σ H1 D.nx) (RR:=fun acc C=>compPost (model X.prog X.w) X.A X.xe (some (assign (.Name y py) X.env)) (fun _ st=>SP X pins D .next st) acc C) S hsx hcalm hgg ht he I2 T st2 f2 w0 step fun Dl C s' H' I' q hsl50 hC=>?_
 obtain ⟨m,hm⟩:=hsl50
 obtain ⟨f0,f1,_,f3,f4,f5⟩:=hC
 refine wpAny_assign_Name (j5 I' hN hy (.inl hl) (show RelV (.ref Dl) (.ref Dl) from rfl) (fun s'' I'' hsl51=>?_) (.inr hl))
 obtain ⟨a,sb,ha⟩:=hsl51
 have aC:C≠a:=fun z=>by
  rcases ha with ha | ha
  ·exact f1 (z.trans ha)
  ·exact f4 y a ha z.symm
 refine ⟨m,hm.sameBut sb aC,fun h' sb'=>?_⟩
 exact ⟨_,_,I''.turned (t':=s''.toks) (fun b o hb e=>(sb'.2 b hb).trans e) f0 f1 f3 f4 f5,q⟩
end
theorem gX.two {scX sc:Scope} {NX:List Str} {x:Str} {fv:List Str} {js:List Nat} (S:gX scX sc NX x fv js):i7 scX sc NX [x] fv js :=
 ⟨S.kind,S.kindX,S.cell,fun y hy=>by rw [List.mem_singleton.mp hy];exact S.own,S.names,S.free,S.nd,S.at',S.fr⟩
section
variable {X:Cx} {pins:List (Addr × Obj)} {σ:St} {H2:Hp} {s2:Shared} {elt iter:Expr} {x:Str} {px:Pos} {ifs:List Expr} {sc scX:Scope} {pos:Pos} {fv:List Str} {js:List Nat} {tt:TT} {te:TE}
theorem nS (S:gX scX sc X.N x fv js) (hsx:X.env.scope=scX) (hcalm:X.calm=true)
  (ht:∀ C s0 H0 ex,eP (xc X sc x fv C s0 H0 ex) ifs tt) (he:∀ C s0 H0 ex,PE (xc X sc x fv C s0 H0 ex) elt te)
  {it:Addr} {fp:List Addr} {tn:Nat->Heap->Prop} {J:It} (I2:Inv X pins σ H2 s2) (T:eF X.prog X.w X.K (.Name x px) J fp it tn) (st2:tn 0 s2.heap) (f2:∀ b∈fp,b4 X pins H2 b)
  {Q:VK} {W:Nat->Nat->List V->Hp->Prop} (w0:∃ m,W 0 m [] H2)
  (step:∀ i m ys H,W i m ys H->(J.stop i H/\∀ p,H p=none->Q (.ref p) (af H p (.lst ys))) ∨
   (J.go i H/\∃ N:List V->Hp->Prop,(∀ ys' H',N ys' H'->∃ m',m'<m/\W (i+1) m' ys' H') /\
    ∀ x H',J.yld i H x H'->tt (some x::bO js σ) H' fun b H2=>if b=true then te (some x::bO js σ) H2 fun y H3=>ys.length<sizeLine/\N (ys++[y]) H3 else N ys H2))
  {RR:Value->Addr->Result->Shared->Prop} {E:Value->Shared->Prop}
  (fin:∀ (D C:Addr) (s':Shared) (H':Hp),Inv X pins σ H' s'->Q (.ref D) H'->(∃ m,s'.heap.Ns C m)->b4 X pins H' C->RR (.ref D) C (.ok .next) s') :
  wpAny (model X.prog X.w) X.A (newList []) (fun acc s₃=>wpAny (model X.prog X.w) X.A (newFunctionEnv sc X.env.globals (bM X.env.cells sc.names []) [] X.env.qual none .none (some X.env)) (fun cenv s₄ =>
   codeAny (model X.prog X.w) X.A (.compStart (.ListComp elt [⟨.Name x px,iter,ifs,0⟩] sc pos) 0 (.ref it) acc { cenv with scope:=relabel sc X.env }) (RR acc cenv.locals) s₄) E s₃) E s2:=by
 refine kL (xs:=[x]) (g:=aT 0) (RR:=RR) S.two hsx hcalm (fun C s0 H0 ex=>ba S.nd rfl (.inl (lookup_relabel_local S.own)) (.inr (lookup_relabel_local S.own))) ht he I2 T st2 f2 w0 (fun i m ys H w=>?_) fin
 rcases step i m ys H w with h | ⟨go,N,hN,st⟩
 ·exact .inl h
 ·refine .inr ⟨go,N,hN,fun y H' hy os hos=>?_⟩
  obtain ⟨o,rfl⟩:=List.length_eq_one_iff.mp hos
  exact ⟨⟨[some y],rfl,rfl⟩,st y H' hy⟩
theorem eR {wi:TI} (scX:Scope) (NX fv:List Str) (js:List Nat) (hNX:X.N=NX) (S:gX scX sc NX x fv js) (hsx:X.env.scope=scX) (hcalm:X.calm=true) (hi:PI X (.Name x px) iter wi)
  (ht:∀ C s0 H0 ex,eP (xc X sc x fv C s0 H0 ex) ifs tt) (he:∀ C s0 H0 ex,PE (xc X sc x fv C s0 H0 ex) elt te)
  (hs:∀ v,foldedSetIterable iter X.env v=pure v:=by intro _;rfl):PE X (.ListComp elt [⟨.Name x px,iter,ifs,0⟩] sc pos) (nN wi js tt te):=by
 intro pins s σ H Q I h
 rw [<- hNX] at S
 have hfree:∀ y∈sc.names,y.2=.free->∃ c,X.env.cells.lookup y.1=some c:=fun y hy hf=>I.ok.has y.1 (.inl (by show X.env.scope.names.lookup y.1=_;rw [hsx];exact S.free y hy hf))
 rw [eval_ListComp]
 refine wpAny_comprehension_free (use:=none) rfl hs (i3 hfree) S.kind S.names (ar (hi pins s σ H _ I h) fun v s1 h1=>ar h1 fun itv s2 h2=>?_)
 obtain ⟨it,fp,tn,J,H2,e,I2,T,st2,f2,W,w0,step⟩:=h2
 subst e
 refine nS (RR:=fun acc C=>compPost (model X.prog X.w) X.A X.xe none (EP X pins σ Q) acc C) S hsx hcalm ht he I2 T st2 f2 w0 step fun D C s' H' I' q hsl52 hC=>?_
 obtain ⟨m,hm⟩:=hsl52
 obtain ⟨f0,f1,_,f3,f4,f5⟩:=hC
 exact ⟨m,hm,fun h' sb=>⟨.ref D,H',I'.turned (t':=s'.toks) (fun b o hb e=>(sb.2 b hb).trans e) f0 f1 f3 f4 f5,rfl,q⟩⟩
theorem kM {wi:TI} {i:Nat} {y:Str} {py spos:Pos} (scX:Scope) (NX fv:List Str) (js:List Nat) (hNX:X.N=NX) (S:gX scX sc NX x fv js) (hsx:X.env.scope=scX) (hcalm:X.calm=true) (hi:PI X (.Name x px) iter wi)
  (ht:∀ C s0 H0 ex,eP (xc X sc x fv C s0 H0 ex) ifs tt) (he:∀ C s0 H0 ex,PE (xc X sc x fv C s0 H0 ex) elt te)
  (hN:X.N.Nodup) (hy:X.N[i]?=some y) (hl:X.env.scope.names.lookup y=some .local) (hsw:swapsWith (.ListComp elt [⟨.Name x px,iter,ifs,0⟩] sc pos) (some (.Name y py)) spos.line X.env=pure true)
  (hs:∀ v,foldedSetIterable iter X.env v=pure v:=by intro _;rfl):PS X (.Assign [.Name y py] (.ListComp elt [⟨.Name x px,iter,ifs,0⟩] sc pos) spos) (gK (nN wi js tt te) (aT i)):=by
 intro pins s σ H D I h
 rw [<- hNX] at S
 have hfree:∀ y∈sc.names,y.2=.free->∃ c,X.env.cells.lookup y.1=some c:=fun y hy hf=>I.ok.has y.1 (.inl (by show X.env.scope.names.lookup y.1=_;rw [hsx];exact S.free y hy hf))
 rw [exec_Assign_Name_used _ _ _ _ hsw]
 refine Qa (wpAny_standAt (Qa ?_))
 show wpAny _ _ (do let _ <- comprehension (.ListComp elt [⟨.Name x px,iter,ifs,0⟩] sc pos) sc X.env _ (newList []) false (eval iter X.env) (some (assign (.Name y py) X.env))) _ _ s
 refine Qa (QJ (wpAny_comprehension_free (use:=some (assign (.Name y py) X.env)) (Q:=fun _ st=>SP X pins D .next st) rfl hs (i3 hfree) S.kind S.names
  (ar (hi pins s σ H _ I h) fun v s1 h1=>ar h1 fun itv s2 h2=>?_)) (fun _ st hq=>Qc (Qc hq)) fun _ _ e=>e)
 obtain ⟨it,fp,tn,J,H2,e,I2,T,st2,f2,W,w0,step⟩:=h2
 subst e
 refine nS (Q:=fun v H1=>aT i v σ H1 D.nx) (RR:=fun acc C=>compPost (model X.prog X.w) X.A X.xe (some (assign (.Name y py) X.env)) (fun _ st=>SP X pins D .next st) acc C) S hsx hcalm ht he I2 T st2 f2 w0 step fun Dl C s' H' I' q hsl53 hC=>?_
 obtain ⟨m,hm⟩:=hsl53
 obtain ⟨f0,f1,_,f3,f4,f5⟩:=hC
 refine wpAny_assign_Name (j5 I' hN hy (.inl hl) (show RelV (.ref Dl) (.ref Dl) from rfl) (fun s'' I'' hsl54=>?_) (.inr hl))
 obtain ⟨a,sb,ha⟩:=hsl54
 have aC:C≠a:=fun z=>by
  rcases ha with ha | ha
  ·exact f1 (z.trans ha)
  ·exact f4 y a ha z.symm
 refine ⟨m,hm.sameBut sb aC,fun h' sb'=>?_⟩
 exact ⟨_,_,I''.turned (t':=s''.toks) (fun b o hb e=>(sb'.2 b hb).trans e) f0 f1 f3 f4 f5,q⟩
end
end L2
namespace L2
open PySem PySem.Spec PyProof.Rows
section
variable {κ:Type} [DecidableEq κ]
noncomputable def bn (kvs:List (κ × V)) (k:κ):Option V:=(kvs.find? fun kv=>decide (kv.1=k)).map (·.2)
noncomputable def bN (kvs:List (κ × V)) (k:κ) (v:V):List (κ × V) :=
 if (kvs.any fun kv=>decide (kv.1=k))=true then kvs.map (fun kv=>if kv.1=k then (kv.1,v) else kv) else kvs++[(k,v)]
theorem dJ {p:κ × V} {r:List (κ × V)} {k:κ} (e:p.1=k):bn (p::r) k=some p.2:=by simp [bn,List.find?_cons,e]
theorem dL {p:κ × V} {r:List (κ × V)} {k:κ} (e:¬ p.1=k):bn (p::r) k=bn r k:=by simp [bn,List.find?_cons,e]
theorem gZ (k:κ):∀ kvs:List (κ × V),(kvs.any fun kv=>decide (kv.1=k))=(bn kvs k).isSome
 | []=>rfl
 | p::r=>by
  rw [List.any_cons]
  by_cases e:p.1=k
  ·simp only [dJ e,Qv e,Bool.true_or,Option.isSome_some]
  ·rw [dL e,Qi e,Bool.false_or];exact gZ k r
theorem nT (k j:κ) (y:V):∀ kvs:List (κ × V),bn (kvs.map fun kv=>if kv.1=k then (kv.1,y) else kv) j=(bn kvs j).map fun x=>if j=k then y else x
 | []=>rfl
 | p::r=>by
  have ih:=nT k j y r
  rw [List.map_cons]
  by_cases h:p.1=k
  ·rw [if_pos h]
   by_cases e:p.1=j
   ·rw [dJ (p:=(p.1,y)) e,dJ e,Option.map_some,if_pos (e.symm.trans h)]
   ·rw [dL (p:=(p.1,y)) e,dL e,ih]
  ·rw [if_neg h]
   by_cases e:p.1=j
   ·rw [dJ (p:=p) e,dJ e,Option.map_some,if_neg (fun z=>h (e.trans z))]
   ·rw [dL (p:=p) e,dL e,ih]
theorem nU (k j:κ) (y:V):∀ kvs:List (κ × V),bn kvs k=none->bn (kvs++[(k,y)]) j=if j=k then some y else bn kvs j
 | [],_=>by
  by_cases e:k=j
  ·rw [if_pos e.symm];exact dJ (p:=(k,y)) e
  ·rw [if_neg (fun z=>e z.symm)];exact dL (p:=(k,y)) e
 | p::r,hn=>by
  rw [List.cons_append]
  have hk:¬ p.1=k:=fun z=>by rw [dJ z] at hn;cases hn
  rw [dL hk] at hn
  have ih:=nU k j y r hn
  by_cases e:p.1=j
  ·rw [dJ e,dJ e,if_neg (fun z=>hk (e.trans z))]
  ·rw [dL e,dL e,ih]
theorem nV (kvs:List (κ × V)) (k j:κ) (y:V):bn (bN kvs k y) j=if j=k then some y else bn kvs j:=by
 unfold bN
 by_cases a:(kvs.any fun kv=>decide (kv.1=k))=true
 ·rw [if_pos a,nT]
  rw [gZ] at a
  by_cases e:j=k
  ·obtain ⟨x,hx⟩:=Option.isSome_iff_exists.mp a
   rw [if_pos e,e,hx,Option.map_some,if_pos rfl]
  ·rw [if_neg e]
   cases bn kvs j with
   | none=>rfl
   | some x=>rw [Option.map_some,if_neg e]
 ·rw [if_neg a]
  refine nU k j y kvs ?_
  rw [gZ] at a
  cases q:bn kvs k with
  | none=>rfl
  | some x=>rw [q] at a;exact (a rfl).elim
theorem g9 (kvs:List (κ × V)) (k:κ) (v:V):(bN kvs k v).length<=kvs.length+1:=by
 unfold bN
 split
 ·rw [Qg];omega
 ·rw [Qw,List.length_cons,List.length_nil];omega
theorem cc.isSome_eq {o:Option V} {u:Option Value} (r:cc o u):o.isSome=u.isSome:=by
 cases o with
 | none=>cases u with
  | none=>rfl
  | some _=>exact (show False from r).elim
 | some _=>cases u with
  | none=>exact (show False from r).elim
  | some _=>rfl
theorem cc.getD {o:Option V} {u:Option Value} {d:V} {d':Value} (r:cc o u) (rd:RelV d d'):RelV (o.getD d) (u.getD d'):=by
 cases o with
 | none=>cases u with
  | none=>exact rd
  | some _=>exact (show False from r).elim
 | some _=>cases u with
  | none=>exact (show False from r).elim
  | some _=>exact r
theorem KV.val {kvs:List (κ × V)} {vs:List (κ × Value)} (r:KV kvs vs) (k:κ):cc (bn kvs k) (valueAt vs k):=by
 unfold KV at r
 induction r with
 | nil=>exact True.intro
 | @cons p q ps qs h t ih =>
  obtain ⟨h1,h2⟩:=h
  by_cases e:p.1=k
  ·have e':q.1=k:=h1.symm.trans e
   have b:valueAt (q::qs) k=some q.2:=by simp [valueAt,List.find?_cons,e']
   rw [dJ e,b];exact h2
  ·have e':¬ q.1=k:=fun z=>e (h1.trans z)
   have b:valueAt (q::qs) k=valueAt qs k:=by simp [valueAt,List.find?_cons,e']
   rw [dL e,b];exact ih
theorem KV.any {kvs:List (κ × V)} {vs:List (κ × Value)} (r:KV kvs vs) (k:κ):(kvs.any fun kv=>decide (kv.1=k))=vs.any fun kv=>decide (kv.1=k):=by
 unfold KV at r
 induction r with
 | nil=>rfl
 | cons h t ih=>rw [List.any_cons,List.any_cons,ih,h.1]
theorem KV.repl {kvs:List (κ × V)} {vs:List (κ × Value)} (r:KV kvs vs) (k:κ) {y:V} {u:Value} (ry:RelV y u) :
  KV (kvs.map fun kv=>if kv.1=k then (kv.1,y) else kv) (vs.map fun kv=>if kv.1=k then (kv.1,u) else kv):=by
 unfold KV at r ⊢
 induction r with
 | nil=>exact .nil
 | @cons p q ps qs h t ih =>
  rw [List.map_cons,List.map_cons]
  refine .cons ?_ ih
  obtain ⟨h1,h2⟩:=h
  by_cases e:p.1=k
  ·rw [if_pos e,if_pos (h1.symm.trans e)];exact ⟨h1,ry⟩
  ·rw [if_neg e,if_neg (fun z=>e (h1.trans z))];exact ⟨h1,h2⟩
theorem KV.put {kvs:List (κ × V)} {vs:List (κ × Value)} (r:KV kvs vs) (k:κ) {y:V} {u:Value} (ry:RelV y u):KV (bN kvs k y) (stored vs k u):=by
 unfold bN stored
 rw [r.any k]
 by_cases e:(vs.any fun kv=>decide (kv.1=k))=true
 ·rw [if_pos e,if_pos e];exact r.repl k ry
 ·rw [if_neg e,if_neg e];exact Paired.snoc r ⟨rfl,ry⟩
theorem KV.length {kvs:List (κ × V)} {vs:List (κ × Value)} (r:KV kvs vs):kvs.length=vs.length:=Paired.length r
end
theorem fw {P:Program} {w:World} {k:aa} {u:Value} (r:RelV (kV k) u):(bo P w).is k u=true:=by
 cases k with
 | inl i=>obtain ⟨t,e⟩:=(show ∃ t,u=Value.int i t from r);subst e;exact mM P w i t
 | inr x=>obtain ⟨t,e⟩:=(show ∃ t,u=Value.str x t from r);subst e;exact mN P w x t
theorem vD {a b:aa} (e:kV a=kV b):a=b:=by
 cases a with
 | inl i=>cases b with
  | inl j=>have e':V.int i=V.int j:=e;injection e' with e';rw [e']
  | inr y=>exact nomatch (show V.int i=V.str y from e)
 | inr x=>cases b with
  | inl j=>exact nomatch (show V.str x=V.int j from e)
  | inr y=>have e':V.str x=V.str y:=e;injection e' with e';rw [e']
theorem nW:∀ {a b:List aa},a.map kV=b.map kV->a=b
 | [],[],_=>rfl
 | [],_::_,e=>by simp at e
 | _::_,[],e=>by simp at e
 | x::xs,y::ys,e=>by
  rw [List.map_cons,List.map_cons] at e
  injection e with e1 e2
  rw [vD e1,nW e2]
theorem nX {P:Program} {w:World}:∀ {ks:List aa} {us:List Value},ao (ks.map kV) us->ItemsAre (bo P w) ks us
 | [],_,r=>by rw [List.map_nil] at r;cases r;exact .nil
 | k::ks,_,r=>by
  rw [List.map_cons] at r
  cases r with
  | cons h t=>exact .cons (fw h) (nX t)
noncomputable abbrev KT (H:Hp):List (List aa × V)->List (List aa × Addr × Value)->Prop:=Paired fun p q=>p.1=q.1/\H q.2.1=some (.tup (p.1.map kV))/\RelV p.2 q.2.2
theorem KT.val {H:Hp} {kvs:List (List aa × V)} {xs:List (List aa × Addr × Value)} (r:KT H kvs xs) (k:List aa):cc (bn kvs k) ((atKey xs k).map (·.2)):=by
 induction r with
 | nil=>exact True.intro
 | @cons p q ps qs h t ih =>
  obtain ⟨h1,_,h2⟩:=h
  by_cases e:p.1=k
  ·have e':q.1=k:=h1.symm.trans e
   have b:atKey (q::qs) k=some q.2:=by simp [atKey,List.find?_cons,e']
   rw [dJ e,b];exact h2
  ·have e':¬ q.1=k:=fun z=>e (h1.trans z)
   have b:atKey (q::qs) k=atKey qs k:=by simp [atKey,List.find?_cons,e']
   rw [dL e,b];exact ih
theorem KT.repl {H:Hp} {kvs:List (List aa × V)} {xs:List (List aa × Addr × Value)} (r:KT H kvs xs) (k:List aa) {y:V} {u:Value} (ry:RelV y u) :
  KT H (kvs.map fun kv=>if kv.1=k then (kv.1,y) else kv) (xs.map (putAt k u)):=by
 induction r with
 | nil=>exact .nil
 | @cons p q ps qs h t ih =>
  rw [List.map_cons,List.map_cons]
  refine .cons ?_ ih
  obtain ⟨h1,h2,h3⟩:=h
  unfold putAt
  by_cases e:p.1=k
  ·rw [if_pos e,if_pos (h1.symm.trans e)];exact ⟨h1,h2,ry⟩
  ·rw [if_neg e,if_neg (fun z=>e (h1.trans z))];exact ⟨h1,h2,h3⟩
theorem KT.put {H:Hp} {kvs:List (List aa × V)} {xs:List (List aa × Addr × Value)} (r:KT H kvs xs) (k:List aa) {b:Addr} {y:V} {u:Value} (hb:H b=some (.tup (k.map kV))) (ry:RelV y u) :
  KT H (bN kvs k y) (storedH xs k b u):=by
 have e:(kvs.any fun kv=>decide (kv.1=k))=(atKey xs k).isSome:=by
  rw [gZ,(r.val k).isSome_eq,Option.isSome_map]
 unfold bN storedH
 rw [e]
 by_cases q:(atKey xs k).isSome=true
 ·rw [if_pos q,if_pos q];exact r.repl k ry
 ·rw [if_neg q,if_neg q];exact Paired.snoc r ⟨rfl,hb,ry⟩
theorem KT.keeps {H H':Hp} {kvs:List (List aa × V)} {xs:List (List aa × Addr × Value)} (r:KT H kvs xs) (ht:∀ b ys,H b=some (.tup ys)->H' b=some (.tup ys)):KT H' kvs xs :=
 Paired.mapP r fun _ _ z=>⟨z.1,ht _ _ z.2.1,z.2.2⟩
section
variable {P:Program} {w:World} {H:Hp} {h:Heap} {a:Addr}
theorem nY {u:HO} (ok:bh P w H h) (e:Rd H a u):bp P w H h a u:=e.ok ok
theorem hU {kvs:List (aa × V)} (ok:bh P w H h) (e:Rd H a (.dK kvs)):kvs.length<=sizeLine/\(a == sysModules)=false/\∃ vs,KV kvs vs/\h.DictOf (bo P w) a vs :=
 show bp P w H h a (.dK kvs) from nY ok e
theorem vE {kvs:List (aa × V)} (ok:bh P w H h) (e:H a=some (.dK kvs)):kvs.length<=sizeLine/\(a == sysModules)=false/\∃ vs,KV kvs vs/\h.DictOf (bo P w) a vs:=hU ok (.inl e)
theorem ja {ks:List aa} (ok:bh P w H h) (e:H a=some (.tup (ks.map kV))):(tupleKind (bo P w)).is h ks a:=by
 obtain ⟨_,its,r,⟨o,h1,h2,n,h3⟩,_⟩:=(show bp P w H h a (.tup (ks.map kV)) from ok a _ e)
 exact ⟨o,its.toArray,n,h1,h2,h3,by simpa using nX r⟩
theorem hV {kvs:List (List aa × V)} (ok:bh P w H h) (e:Rd H a (.dT kvs)):kvs.length<=sizeLine/\(a == sysModules)=false /\
  ∃ xs,KT H kvs xs/\h.DictOfH (tupleKind (bo P w)) a xs:=by
 obtain ⟨z,y,xs,r,o,es,ep,h1,h2,h3,h4,h5⟩:=(show bp P w H h a (.dT kvs) from nY ok e)
 refine ⟨z,y,xs,r,o,es,ep,h1,h2,h3,h4,fun x hx=>?_,h5⟩
 have all:∀ {l:List (List aa × V)} {m:List (List aa × Addr × Value)},KT H l m->∀ x∈m,(tupleKind (bo P w)).is h x.1 x.2.1:=by
  intro l m q
  induction q with
  | nil=>intro x hx;exact nomatch hx
  | @cons p q ps qs hq t ih =>
   intro x hx
   rcases Ql hx with e | hx
   ·subst e
    exact ja ok (by rw [<- hq.1];exact hq.2.1)
   ·exact ih x hx
 exact all r x hx
theorem nZ {kvs:List (List aa × V)} (ok:bh P w H h) (e:H a=some (.dT kvs)):kvs.length<=sizeLine/\(a == sysModules)=false /\
  ∃ xs,KT H kvs xs/\h.DictOfH (tupleKind (bo P w)) a xs:=hV ok (.inl e)
end
noncomputable def cq (H:Hp) (a:Addr) (y:V) (r:Option V):Prop :=
 (∃ kvs k,Rd H a (.dK kvs)/\y=kV k/\r=bn kvs k)∨∃ kvs k b,Rd H a (.dT kvs)/\y=.ref b/\H b=some (.tup (k.map kV))/\r=bn kvs k
noncomputable def dX (H:Hp) (a:Addr) (y v:V) (H':Hp):Prop :=
 (∃ kvs k,H a=some (.dK kvs)/\y=kV k/\kvs.length<sizeLine/\H'=af H a (.dK (bN kvs k v))) ∨
 ∃ kvs k b,H a=some (.dT kvs)/\y=.ref b/\H b=some (.tup (k.map kV))/\kvs.length<sizeLine/\H'=af H a (.dT (bN kvs k v))
theorem cq.k {H:Hp} {a:Addr} {kvs:List (aa × V)} {k:aa} (e:H a=some (.dK kvs)):cq H a (kV k) (bn kvs k):=.inl ⟨kvs,k,.inl e,rfl,rfl⟩
theorem cq.t {H:Hp} {a b:Addr} {kvs:List (List aa × V)} {k:List aa} (e:H a=some (.dT kvs)) (eb:H b=some (.tup (k.map kV))):cq H a (.ref b) (bn kvs k):=.inr ⟨kvs,k,b,.inl e,rfl,eb,rfl⟩
theorem dX.k {H:Hp} {a:Addr} {kvs:List (aa × V)} {k:aa} {v:V} (e:H a=some (.dK kvs)) (hl:kvs.length<sizeLine):dX H a (kV k) v (af H a (.dK (bN kvs k v))):=.inl ⟨kvs,k,e,rfl,hl,rfl⟩
theorem dX.t {H:Hp} {a b:Addr} {kvs:List (List aa × V)} {k:List aa} {v:V} (e:H a=some (.dT kvs)) (eb:H b=some (.tup (k.map kV))) (hl:kvs.length<sizeLine) :
  dX H a (.ref b) v (af H a (.dT (bN kvs k v))):=.inr ⟨kvs,k,b,e,rfl,eb,hl,rfl⟩
section
variable {X:Cx} {pins:List (Addr × Obj)} {σ:St} {H:Hp} {s:Shared} {a:Addr} {y v:V} {u r:Value} {o:Option V} {A:Around} {E:Value->Shared->Prop}
theorem Inv.big (I:Inv X pins σ H s):sysModules<s.heap.objs.size:=by
 have h:mainGlobals<s.heap.objs.size:=(I.mod.glob.keeps I.bk).lt
 exact Nat.lt_trans (by decide) h
theorem vF {Q:Value->Shared->Prop} (hu:A.units+1<cLine) (I:Inv X pins σ H s) (g:cq H a y (some v)) (ry:RelV y u) (h:∀ w' s',Inv X pins σ H s'->RelV v w'->Q w' s') :
  wpAny (model X.prog X.w) A (getItem (.ref a) u) Q E s:=by
 rcases g with ⟨kvs,k,e,ey,l⟩ | ⟨kvs,k,b,e,ey,eb,l⟩
 ·subst ey
  obtain ⟨z,hd,vs,rel,dd⟩:=hU I.hok e
  obtain ⟨w',hw,rw'⟩:=cc.some_of (v:=v) (o:=valueAt vs k) (by rw [l];exact rel.val k)
  exact wpAny_getItem_of (fw ry) dd.mapOf hw (h w' _ (I.tok _) rw')
 ·subst ey
  cases (show u=Value.ref b from ry)
  obtain ⟨z,hd,xs,rel,dd⟩:=hV I.hok e
  obtain ⟨w',hw,rw'⟩:=cc.some_of (v:=v) (o:=(atKey xs k).map (·.2)) (by rw [l];exact rel.val k)
  obtain ⟨p,hp,hp2⟩:=Option.map_eq_some_iff.mp hw
  refine wpAny_getItem_heap (tupleKind_room_in1 hu) (ja I.hok eb) dd hp ?_
  rw [hp2]
  exact h w' _ (I.tok _) rw'
theorem n0 {h':Heap} {t':Nat} {ob:HO} (I:Inv X pins σ H s) (mu:gE (H a)) (hs:Heap.SameBut a s.heap h') (he:∃ q,h'.get? a=some q) (new:bp X.prog X.w (af H a ob) h' a ob) :
  Inv X pins σ (af H a ob) { s with heap:=h',toks:=t' } :=
 I.write (x:=a) (e:=a) mu (.inl rfl) (fun b q hb z=>(hs.2 b hb).trans z) he new
theorem n4 {P:Program} {w:World} {H':Hp} {h':Heap} {kvs:List (aa × V)} {vs:List (aa × Value)} (z:kvs.length<=sizeLine) (hd:(a == sysModules)=false) (rel:KV kvs vs) (dd:h'.DictOf (bo P w) a vs) :
  bp P w H' h' a (.dK kvs):=⟨z,hd,vs,rel,dd⟩
theorem vG {H':Hp} {Q:Unit->Shared->Prop} (hu:A.units+1<cLine) (I:Inv X pins σ H s) (g:dX H a y v H') (ry:RelV y u) (rv:RelV v r) (h:∀ s',Inv X pins σ H' s'->Q () s') :
  wpAny (model X.prog X.w) A (setItem (.ref a) u r) Q E s:=by
 rcases g with ⟨kvs,k,e,ey,l,eH⟩ | ⟨kvs,k,b,e,ey,eb,l,eH⟩
 ·subst ey eH
  obtain ⟨z,hd,vs,rel,dd⟩:=vE I.hok e
  have hz:vs.length<=sizeLine:=by rw [<- rel.length];exact z
  have hl:(bN kvs k v).length<=sizeLine:=by have:=g9 kvs k v;omega
  refine wpAny_setItem_pairs (hsz:=hz) (fw ry) dd fun h' dd' hs=>h _ ?_
  have he:∃ q,h'.get? a=some q:=by obtain ⟨q,_,_,hq,_⟩:=dd';exact ⟨q,hq⟩
  exact n0 I (by rw [e];exact True.intro) hs he (n4 hl hd (rel.put k rv) dd')
 ·subst ey eH
  cases (show u=Value.ref b from ry)
  obtain ⟨z,hd,xs,rel,dd⟩:=nZ I.hok e
  have hz:xs.length<=sizeLine:=by rw [<- Paired.length rel];exact z
  have hl:(bN kvs k v).length<=sizeLine:=by have:=g9 kvs k v;omega
  refine wpAny_setItem_heap (hsz:=hz) (tupleKind_room_in1 hu) (ja I.hok eb) dd fun h' dd' hs=>h _ ?_
  obtain ⟨q,es,ep,hq,h2,h3,h4,_,h5⟩:=dd'
  refine n0 I (by rw [e];exact True.intro) hs ⟨q,hq⟩ ⟨hl,hd,_,(rel.put k eb rv).keeps fun c ys ec=>?_,q,es,ep,hq,h2,h3,h4,h5⟩
  rw [av (sP ec e (fun z=>nomatch z))]
  exact ec
end
section
variable {X:Cx} {pins:List (Addr × Obj)} {σ:St} {H:Hp} {s:Shared} {a:Addr} {kvs:List (aa × V)} {k:aa} {u:Value} {A:Around} {E:Value->Shared->Prop}
end
noncomputable def n5 (i:Expr):Prop:=∀ ov iv,subscripted i false ov iv=operate [ov,iv] (getItem ov iv)
theorem vH {prog:Program} {w:World} {A:Around} {E:Value->Shared->Prop} {s:Shared} {env:Env} {value slice:Expr} {pos:Pos} {T id:String} {Q:Value->Shared->Prop}
  (hl:typeLookup (.type T) "__getitem__"=pure (some (.builtin id))) (hs:n5 slice)
  (h:wpAny (model prog w) A (eval value env) (fun o s₁=>wpAny (model prog w) A (eval slice env) (fun i s₂=>s₂.TypeIs o T/\wpAny (model prog w) A (getItem o i) Q E s₂) E s₁) E s) :
  wpAny (model prog w) A (eval (.Subscript value slice pos) env) Q E s:=by
 refine Subscript_ (QJ h (fun o s₁ h₁=>QJ h₁ (fun i s₂ h₂=>?_) fun _ _ x=>x) fun _ _ x=>x)
 obtain ⟨hT,h₂⟩:=h₂
 unfold subscriptTail
 refine Qa ?_
 rw [getitemInPython_of_ne hT.not_modules]
 refine Qa (wpAny_specialOf hT hl ?_)
 have fin:wpAny (model prog w) A (subscripted slice false o i) (fun r s₃=>wpAny (model prog w) A (letTemporaryGo value o r >>= fun _=>pure r) Q E s₃) E s₂:=by
  rw [hs o i]
  exact wpAny_operating (QJ h₂ (fun r s₃ h₃=>Qa (wpAny_letTemporaryGo (Qc h₃))) fun _ _ x=>x)
 first
  | exact Qc (Qa fin)
  | exact Qa (Qc (Qa fin))
  | exact Qa fin
theorem vI {X:Cx} {pins:List (Addr × Obj)} {σ:St} {H:Hp} {s:Shared} {a:Addr} {y:V} {o:Option V} (I:Inv X pins σ H s) (g:cq H a y o):s.TypeIs (.ref a) "dict":=by
 rcases g with ⟨kvs,k,e,_,_⟩ | ⟨kvs,k,b,e,_,_,_⟩
 ·obtain ⟨_,_,vs,_,dd⟩:=hU I.hok e
  exact dd.typeIs
 ·obtain ⟨_,_,xs,_,dd⟩:=hV I.hok e
  exact dd.typeIs
noncomputable def vJ (td ty:TE):TE:=fun σ H Q=>td σ H fun x H1=>ty σ H1 fun y H2=>∃ a v,x=.ref a/\cq H2 a y (some v)/\Q v H2
noncomputable def vK (td ty tv:TE):TS:=fun D σ H=>tv σ H fun v H1=>td σ H1 fun x H2=>ty σ H2 fun y H3=>∃ a H4,x=.ref a/\dX H3 a y v H4/\D.nx σ H4
section
variable {X:Cx} {o i e value:Expr} {pos pos' tpos:Pos} {td ty tv:TE}
theorem vL (hu:X.A.units+1<cLine) (ho:PE X o td) (hi:PE X i ty) (hs:n5 i):PE X (.Subscript o i pos) (vJ td ty):=by
 intro pins s σ H Q I h
 refine vH PySem.F.slot_dict_getitem.lookup hs (ar (ho pins s σ H _ I h) fun u s1 ⟨x,H1,I1,rx,q1⟩=>ar (hi pins s1 σ H1 _ I1 q1) fun iv s2 hsl55=>?_)
 obtain ⟨y,H2,I2,ry,a,v,ex,g,q2⟩:=hsl55
 subst ex
 obtain rfl:u=Value.ref a:=rx
 exact ⟨vI I2 g,vF hu I2 g ry fun w' s3 I3 rw'=>⟨v,H2,I3,rw',q2⟩⟩
theorem n6 (hu:X.A.units+1<cLine) (ho:PE X o td) (hi:PE X i ty) (hv:PE X value tv) (hs:swapsWith value (some (.Subscript o i pos')) pos.line X.env=pure false) :
  PS X (.Assign [.Subscript o i pos'] value pos) (vK td ty tv):=by
 intro pins s σ H D I h
 refine wpAny_Assign_Subscript (ar (hv pins s σ H _ I h) fun r s1 ⟨v,H1,I1,rv,q1⟩=>ar (ho pins s1 σ H1 _ I1 q1) fun u s2 ⟨x,H2,I2,rx,q2⟩=>ar (hi pins s2 σ H2 _ I2 q2) fun iv s3 hsl56=>?_) hs
 obtain ⟨y,H3,I3,ry,a,H4,ex,g,q3⟩:=hsl56
 subst ex
 obtain rfl:u=Value.ref a:=rx
 exact vG hu I3 g ry rv fun s4 I4=>⟨σ,H4,I4,q3⟩
end
theorem vM {P:Program} {w:World} {H:Hp} (h:Heap) (hb:sysModules<h.objs.size):bp P w H (h.push { cls:=.type "dict",data:=.dict #[] }) h.objs.size (.dK []) :=
 ⟨Qs _,beq_eq_false_iff_ne.mpr (Ne.symm (Qz hb)),[],.nil,Heap.DictOf.new h⟩
theorem vN {P:Program} {w:World} {H:Hp} (h:Heap) (hb:sysModules<h.objs.size):bp P w H (h.push { cls:=.type "dict",data:=.dict #[] }) h.objs.size (.dT []) :=
 ⟨Qs _,beq_eq_false_iff_ne.mpr (Ne.symm (Qz hb)),[],.nil,_,#[],0,Qm _ rfl,⟨rfl,rfl,rfl⟩,rfl,rfl,List.nodup_nil⟩
noncomputable def vO:TE:=fun _ H Q=>∀ p,H p=none->Q (.ref p) (af H p (.dK []))
noncomputable def vP:TE:=fun _ H Q=>∀ p,H p=none->Q (.ref p) (af H p (.dT []))
section
variable {X:Cx} {pos:Pos}
theorem n8:PE X (.Dict [] [] pos) vO:=fun pins s σ H Q I h =>
 wpAny_Dict_empty ⟨.ref s.heap.objs.size,_,I.laid (a:=s.heap.objs.size) (o:=.dK []) (t':=s.toks) (fun _ _ q=>Qd _ q) (Qh _) (vM s.heap I.big),rfl,h _ (I.hok.fresh (Qh _))⟩
theorem og:PE X (.Dict [] [] pos) vP:=fun pins s σ H Q I h =>
 wpAny_Dict_empty ⟨.ref s.heap.objs.size,_,I.laid (a:=s.heap.objs.size) (o:=.dT []) (t':=s.toks) (fun _ _ q=>Qd _ q) (Qh _) (vN s.heap I.big),rfl,h _ (I.hok.fresh (Qh _))⟩
end
structure M2 (X:Cx) (o:Expr) (m:Str) (apos:Pos) (e f:Expr) (cpos:Pos):Prop where
 base:attributeBase o m X.env (eval o X.env)=eval o X.env
 few:((backTo cpos (starEach [e,f] X.env)).all (fun x=>!x.1)&&(backToKw cpos (keywordEach [] X.env)).all (fun x=>x.1.isSome)
  && decide (([e,f]:List Expr).length+([]:List Keyword).length+(if ([]:List Keyword).isEmpty then 0 else 1)<30))=true
 line:(apos.endLine == cpos.line)=true
 trees:backTo cpos (starEach [e,f] X.env)=[(false,eval e X.env),(false,eval f X.env)]
noncomputable def kN (H:Hp) (a:Addr):Prop:=(∃ kvs,Rd H a (.dK kvs))∨∃ kvs,Rd H a (.dT kvs)
theorem vQ {X:Cx} {pins:List (Addr × Obj)} {σ:St} {H:Hp} {s:Shared} {a:Addr} (I:Inv X pins σ H s) (d:kN H a) :
  s.TypeIs (.ref a) "dict"/\(∀ b,Value.ref a=.ref b->∃ ob,s.heap.get? b=some ob/\ob.dict=none)/\(a == sysModules)=false:=by
 rcases d with ⟨kvs,e⟩ | ⟨kvs,e⟩
 ·obtain ⟨_,hd,vs,_,dd⟩:=hU I.hok e
  refine ⟨dd.typeIs,fun b q=>?_,hd⟩
  cases q
  obtain ⟨ob,_,_,h1,h2,_⟩:=dd
  exact ⟨ob,h1,h2.2.1⟩
 ·obtain ⟨_,hd,xs,_,dd⟩:=hV I.hok e
  refine ⟨dd.typeIs,fun b q=>?_,hd⟩
  cases q
  obtain ⟨ob,_,_,h1,h2,_⟩:=dd
  exact ⟨ob,h1,h2.2.1⟩
section
variable {X:Cx} {pins:List (Addr × Obj)} {σ:St} {H:Hp} {s:Shared} {a:Addr} {y d:V} {u r:Value} {o:Option V} {A:Around} {E:Value->Shared->Prop}
theorem vR {Q:Value->Shared->Prop} (hu:A.units+1<cLine) (I:Inv X pins σ H s) (g:cq H a y o) (ry:RelV y u) (rd:RelV d r) (h:∀ w' s',Inv X pins σ H s'->RelV (o.getD d) w'->Q w' s') :
  wpAny (model X.prog X.w) A (call (.builtin "dict.get") [.ref a,u,r]) Q E s:=by
 rcases g with ⟨kvs,k,e,ey,l⟩ | ⟨kvs,k,b,e,ey,eb,l⟩
 ·subst ey
  obtain ⟨z,hd,vs,rel,dd⟩:=hU I.hok e
  refine call_meetsIn PySem.F.slot_dict_get dd.typeIs PySem.F.entry_dict_get (PySem.F.args_dict_get_3 _ _ _) (meets_dict_get_default (bo X.prog X.w) a (fw ry) hd r) ⟨_,dd.mapOf,h _ _ (I.tok _) ?_⟩
  rw [l]
  exact (rel.val k).getD rd
 ·subst ey
  cases (show u=Value.ref b from ry)
  obtain ⟨z,hd,xs,rel,dd⟩:=hV I.hok e
  refine call_meetsIn PySem.F.slot_dict_get dd.typeIs PySem.F.entry_dict_get (PySem.F.args_dict_get_3 _ _ _) (meetsH_dict_get_default (tupleKind (bo X.prog X.w)) a b hd r) ⟨tupleKind_room_in1 hu,k,xs,ja I.hok eb,dd,h _ _ (I.tok _) ?_⟩
  rw [l]
  exact (rel.val k).getD rd
end
noncomputable def vS (td ty tx:TE):TE:=fun σ H Q=>td σ H fun x H1=>∃ a,x=.ref a/\kN H1 a/\ty σ H1 fun y H2=>tx σ H2 fun z H3=>∃ o,cq H3 a y o/\Q (o.getD z) H3
section
variable {X:Cx} {o e f:Expr} {apos cpos:Pos} {td ty tx:TE}
theorem hW (hu:X.A.units+1<cLine) (ho:PE X o td) (he:PE X e ty) (hf:PE X f tx) (m:M2 X o "get" apos e f cpos):PE X (.Call (.Attribute o "get" apos) [e,f] [] cpos) (vS td ty tx):=by
 intro pins s σ H Q I h
 refine wpAny_Call_method m.base m.few m.line PySem.F.plainAttrs_dict PySem.F.slot_dict_get PySem.F.type_dict_get (ar (ho pins s σ H _ I h) fun u s1 hsl57=>?_)
 obtain ⟨x,H1,I1,rx,a,ex,d,q1⟩:=hsl57
 subst ex
 obtain rfl:u=Value.ref a:=rx
 obtain ⟨t1,t2,_⟩:=vQ I1 d
 refine ⟨t1,t2,?_⟩
 rw [m.trees]
 refine Calls.callWith_builtin rfl (Calls.evalArgs_plain (Calls.spliced_cons (ar (he pins s1 σ H1 _ I1 q1) fun iv s2 ⟨y,H2,I2,ry,q2⟩ =>
  Calls.spliced_cons (ar (hf pins s2 σ H2 _ I2 q2) fun fv s3 ⟨z,H3,I3,rz,ov,g,q3⟩=>Calls.spliced_nil ?_))))
 exact vR hu I3 g ry rz fun w' s4 I4 rw'=>⟨_,H3,I4,rw',q3⟩
end
section
variable {X:Cx} {pins:List (Addr × Obj)} {σ:St} {H:Hp} {s:Shared} {a:Addr} {kvs:List (aa × V)} {A:Around} {E:Value->Shared->Prop}
end
section
variable {X:Cx} {pins:List (Addr × Obj)} {σ:St} {H:Hp} {s:Shared} {a:Addr} {y:V} {u:Value} {A:Around} {E:Value->Shared->Prop}
end
end L2
namespace L2
open PySem PySem.Spec PyProof.Rows
section
variable {X:Cx}
end
section
variable {κ:Type} [DecidableEq κ]
end
end L2
namespace Mm
open PySem
end Mm
namespace Mm
open PySem L2
theorem aJ {X:Cx} {K:PySem.W.Frag} (h:X.K=K):fW X (nE K):=by subst h;exact uR
theorem f7:bootBuiltins "tuple"=some (.type "tuple"):=by decide +kernel
theorem jb {js:List Nat} {tt:TT} {te:TE} {K:PySem.W.Frag} {a:Addr} {xs:List V} {σ:St} {H:Hp} {Q:VK} (Pv:Nat->List V->Hp->Prop) (h0:Pv 0 [] H) (hl:∀ i ys H,i<=xs.length->Pv i ys H->ai K H a xs)
  (hs:∀ i x ys H,xs[i]?=some x->Pv i ys H->tt (some x::bO js σ) H fun b H2=>if b=true then te (some x::bO js σ) H2 fun y H3=>ys.length<sizeLine/\Pv (i+1) (ys++[y]) H3 else Pv (i+1) ys H2)
  (hd:∀ ys H,Pv xs.length ys H->∀ p,H p=none->Q (.ref p) (af H p (.lst ys))) :
  eQ (fj K a) js tt te σ H Q:=by
 refine ⟨fun i m ys H=>m=xs.length-i/\i<=xs.length/\Pv i ys H,⟨xs.length,by simp,Qs _,h0⟩,?_⟩
 rintro i m ys H ⟨rfl,hi,p⟩
 have q:=hl i ys H hi p
 by_cases hlt:i<xs.length
 ·refine .inr ⟨⟨xs,xs[i],q,by simp [hlt]⟩,Pv (i+1),fun ys' H' p'=>⟨xs.length-(i+1),by omega,rfl,hlt,p'⟩,fun x H' y=>?_⟩
  obtain ⟨e,y⟩:=y
  subst e
  exact hs i x ys _ (y xs q) p
 ·have e:i=xs.length:=by omega
  subst e
  exact .inl ⟨⟨xs,q,Qh _⟩,hd ys H p⟩
theorem kO {v:V} {i:Nat} {b:TS} {D:dr} {σ:St} {H:Hp} (h:b D (σ.set i (some v)) H):gI (gK (tC v) (aT i)) b D σ H:=h
theorem fz {c:TT} {t u b:TS} {D:dr} {σ:St} {H:Hp} (P:St->Hp->Prop) (h1:∀ R:St->Hp->Prop,(∀ σ' H',P σ' H'->R σ' H')->j9 c t u { D with nx:=R } σ H) (h2:∀ σ' H',P σ' H'->b D σ' H'):gI (j9 c t u) b D σ H:=h1 (b D) h2
theorem eS {wi:TI} {g:TG} {tb b:TS} {D:dr} {σ:St} {H:Hp} (P:St->Hp->Prop) (h1:∀ R:St->Hp->Prop,(∀ σ' H',P σ' H'->R σ' H')->kc wi g tb { D with nx:=R } σ H) (h2:∀ σ' H',P σ' H'->b D σ' H'):gI (kc wi g tb) b D σ H:=h1 (b D) h2
end Mm
namespace L2
open PySem PySem.Spec PyProof.Rows
section
variable {X:Cx}
end
end L2
namespace L2
open PySem PySem.Spec PyProof.Rows
noncomputable def hX (K:PySem.W.Frag) (a:Addr):It:=⟨fun i H=>∃ xs x,al K H a xs/\xs[i]?=some x,fun i H x H'=>∃ (t:Addr) (y:V),(∀ xs,al K H a xs->xs[i]?=some y)/\H t=none/\x=.ref t/\H'=af H t (.tup [.int ((i:Nat):Int),y]),fun i H=>∃ xs,al K H a xs/\xs.length<=i⟩
theorem vT {P:Program} {w:World} {K:PySem.W.Frag} {elts:List Expr} {k:Nat} {tpos:Pos} (a e it:Addr) (hei:e≠it) :
  eF P w K (.Tuple elts k tpos) (hX K a) [e,it] e (fun i h=>(∃ old,IsEnum h e it i old)/\h.IsListIter it a i) where
 mem:=by simp
 obj:=fun i h st b hb=>by
  rcases (show b=e∨b=it by simpa using hb) with z | z
  ·subst z
   obtain ⟨⟨old,he⟩,_⟩:=st
   exact ⟨_,he,fun v z=>by cases z⟩
  ·subst z
   obtain ⟨_,o,e,c,d⟩:=st
   exact ⟨o,e,fun v z=>by rw [d] at z;cases z⟩
 keep:=fun i h h' st kk=>⟨by obtain ⟨old,he⟩:=st.1;exact ⟨old,kk e (by simp) _ he⟩,st.2.at fun o q=>kk it (by simp) o q⟩
 item:=by
  intro X hP hw hK hc i pins s σ H E I hf st hg
  subst hP hw hK
  obtain ⟨xs,x,hq,hx⟩:=hg
  obtain ⟨its,rv,p,hz⟩:=I.list hq
  obtain ⟨u,hu,ru⟩:=rv.get hx
  obtain ⟨⟨old,he⟩,hit⟩:=st
  obtain ⟨e0,e1,e2,e3,e4,e5⟩:=hf e (by simp)
  obtain ⟨f0,f1,f2,f3,f4,f5⟩:=hf it (by simp)
  refine wpAny_pyNext_enum_item he hit p.isList (x:=u) (by simpa using hu) hei fun h1 ho hit1 ht hsz kk=>?_
  refine ⟨_,rfl,?_⟩
  have hel:e<s.heap.objs.size:=Qo he
  have hil:it<s.heap.objs.size:=by obtain ⟨_,q,_⟩:=hit;exact Qo q
  refine wpAny_letOwnedTupleGo_enum (s:={ s with heap:=h1,toks:=s.toks+1 }) ho fun h2 he2 hs2=>?_
  have hs2:Heap.SameBut e h1 h2:=hs2
  have kk2:∀ b o,b≠e->b≠it->s.heap.get? b=some o->h2.get? b=some o:=fun b o q1 q2 q=>(hs2.2 b q1).trans (kk b o q1 q2 q)
  have ht2:h2.get? s.heap.objs.size=some { cls:=.type "tuple",data:=.seq #[.int i s.toks,u] }:=(hs2.2 _ (Nat.ne_of_gt hel)).trans ht
  have hT:H s.heap.objs.size=none:=I.fresh
  have I2:Inv X pins σ (af H s.heap.objs.size (.tup [.int ((i:Nat):Int),x])) { s with heap:=h2,toks:=s.toks+1 }:=by
   refine I.call' (ch:=[e,it]) rfl ⟨fun b o q hn hb hx=>?_,fun b o q hn hb hx=>?_,fun b o q hn hx=>?_,fun b o q hx=>?_,fun b ys q=>?_,fun b o v q=>?_,fun b ps q=>?_⟩ (fun b v q=>?_) I.bare fun b hb=>?_
   ·exact kk2 b o (fun z=>hx (by simp [z])) (fun z=>hx (by simp [z])) q
   ·exact ⟨o.slots,kk2 b o (fun z=>hx (by simp [z])) (fun z=>hx (by simp [z])) q⟩
   ·rw [av (Qz (Qo q))];exact hn
   ·exact ⟨o,kk2 b o (fun z=>hx (by simp [z])) (fun z=>hx (by simp [z])) q⟩
   ·rw [av (cS q hT)];exact q
   ·rw [av (cS q hT)];exact q
   ·exact ⟨#[],by rw [av (cS q hT)];simpa using q⟩
   ·by_cases hb:b=s.heap.objs.size
    ·subst hb
     rw [aj] at q
     cases q
     exact ⟨(by show 2<=sizeLine;decide),[.int i s.toks,u],.cons ⟨_,rfl⟩ (.cons ru .nil),⟨_,ht2,rfl,_,rfl⟩,_,ht2,rfl⟩
    ·rw [av hb] at q
     have hne:b≠e:=fun z=>by rw [z,e0] at q;cases q
     have hni:b≠it:=fun z=>by rw [z,f0] at q;cases q
     refine (I.hok b v q).stay (fun c o hcb z=>kk2 c o (fun y=>?_) (fun y=>?_) z) (fun c z=>by rw [av (cS z hT)];exact z) fun c ys z=>by rw [av (cS z hT)];exact z
     ·rcases hcb with r | r
      ·exact hne (r ▸ y)
      ·rw [y,e0] at r;cases r
     ·rcases hcb with r | r
      ·exact hni (r ▸ y)
      ·rw [y,f0] at r;cases r
   ·rcases (show b=e∨b=it by simpa using hb) with z | z
    ·subst z;exact ⟨e3,e1,e4,e5⟩
    ·subst z;exact ⟨f3,f1,f4,f5⟩
  refine ⟨.ref s.heap.objs.size,_,I2,rfl,⟨_,x,fun ys hy=>by rw [I.list_inj hy hq];exact hx,hT,rfl,rfl⟩,⟨⟨u,by simpa using he2⟩,hit1.at fun o q=>(hs2.2 it hei.symm).trans q⟩,fun b hb=>?_⟩
  rcases (show b=e∨b=it by simpa using hb) with z | z
  ·subst z;rw [av (Qz hel)];exact e0
  ·subst z;rw [av (Qz hil)];exact f0
 done:=by
  intro X hP hw hK hc i pins s σ H E I hf st hg
  subst hP hw hK
  obtain ⟨xs,hq,hx⟩:=hg
  obtain ⟨its,rv,p,hz⟩:=I.list hq
  obtain ⟨f0,f1,f2,f3,f4,f5⟩:=hf it (by simp)
  obtain ⟨⟨old,he⟩,hit⟩:=st
  have hl:=rv.length
  exact wpAny_pyNext_enum_end (I.ok.hd hc) he hit p.isList (by simp;omega) fun h' eb=>⟨rfl,I.turned (t':=s.toks) (fun b o hb q=>eb b o hb q) f0 f1 f3 f4 f5⟩
 self:=fun _ _ _ _ _ st h=>by obtain ⟨⟨old,he⟩,_⟩:=st;exact wpAny_pyIter_enum he h
section
variable {X:Cx}
noncomputable def vU (K:PySem.W.Frag) (ta:TA):TI:=fun σ H R=>ta σ H fun vs H1=>∃ a xs,vs=[.ref a]/\al K H1 a xs/\R (hX K a) H1
theorem vV {a:Expr} {ta:TA} {p pos tpos:Pos} {elts:List Expr} {k:Nat} (hg:Gl X "enumerate") (hm:X.mg "enumerate"=none) (ha:PA X [a] ta) (hs:starEach [a] X.env=[(false,eval a X.env)]:=by rfl) :
  PI X (.Tuple elts k tpos) (.Call (.Name "enumerate" p) [a] [] pos) (vU X.K ta):=by
 intro pins s σ H R I h
 refine Call_ (fQ I hg hm boot_enumerate (PyProof.Rows.callWith_type1 (ar (ha pos pins s σ H _ I h) fun us s1 hsl58=>?_) hs rfl))
 obtain ⟨vs,H1,I1,r1,q1⟩:=hsl58
 obtain ⟨l,xs,e,hq,q⟩:=q1
 subst e
 obtain ⟨u,rfl,ru⟩:=vals1 r1
 cases ru
 obtain ⟨its,rv,pp,hz⟩:=I1.list hq
 refine call_enumerate_list pp.isList fun h' he hit hsz kk=>?_
 refine wpAny_pyIter_enum (s:={ s1 with heap:=h' }) he ?_
 refine ⟨s1.heap.objs.size+1,[s1.heap.objs.size+1,s1.heap.objs.size],_,_,H1,rfl,I1.kept (t':=s1.toks) kk,vT l _ _ (Nat.succ_ne_self _),⟨⟨_,he⟩,hit⟩,fun b hb=>?_,q⟩
 rcases (show b=s1.heap.objs.size+1∨b=s1.heap.objs.size by simpa using hb) with z | z
 ·subst z;exact I1.fpOk (Nat.le_succ _) (I1.hok.fresh (Nat.le_succ _))
 ·subst z;exact I1.fpOk (Qh _) (I1.hok.fresh (Qh _))
end
theorem hZ {X:Cx} {K:PySem.W.Frag} {es:List Expr} {k:Nat} {pos:Pos} {t:eE} {n:Nat} (hK:X.K=K) (hc:X.calm=true) (h:gJ X es t)
  (hn:(assignEach es X.env).length=n:=by rfl) (hst:(assignEach es X.env).findIdx? (·.1)=none:=by rfl):PG X (.Tuple es k pos) (mV K n t):=by
 subst hK
 exact fh hc h hn hst
section
variable {k:Nat} {js:List Nat} {g:TG} {tt:TT} {te:TE}
theorem kP {K:PySem.W.Frag} {a:Addr} {xs:List V} {σ:St} {H:Hp} {Q:VK} (Pv:Nat->List V->Hp->Prop) (h0:Pv 0 [] H) (hl:∀ i ys H,i<=xs.length->Pv i ys H->al K H a xs)
  (hs:∀ i x ys H,xs[i]?=some x->Pv i ys H->i8 k js g tt te σ ys (Pv (i+1)) x H)
  (hd:∀ ys H,Pv xs.length ys H->∀ p,H p=none->Q (.ref p) (af H p (.lst ys))):kK (fi K a) k js g tt te σ H Q:=by
 refine ⟨fun i m ys H=>m=xs.length-i/\i<=xs.length/\Pv i ys H,⟨xs.length,by simp,Qs _,h0⟩,?_⟩
 rintro i m ys H ⟨rfl,hi,p⟩
 have q:=hl i ys H hi p
 by_cases hlt:i<xs.length
 ·refine .inr ⟨⟨xs,xs[i],q,by simp [hlt]⟩,Pv (i+1),fun ys' H' p'=>⟨xs.length-(i+1),by omega,rfl,hlt,p'⟩,fun x H' y=>?_⟩
  obtain ⟨e,y⟩:=y
  subst e
  exact hs i x ys _ (y xs q) p
 ·have e:i=xs.length:=by omega
  subst e
  exact .inl ⟨⟨xs,q,Qh _⟩,hd ys H p⟩
end
end L2
namespace L2
open PySem PySem.Spec PyProof.Rows
theorem vW {K:PySem.W.Frag} {a:Addr} {xs:List V} {g:TG} {tb:TS} {D:dr} {σ:St} {H:Hp} (Pv:Nat->St->Hp->Prop) (h0:Pv 0 σ H) (hl:∀ i σ H,i<=xs.length->Pv i σ H->al K H a xs)
  (hs:∀ i x σ H t,xs[i]?=some x->Pv i σ H->H t=none->g (.ref t) σ (af H t (.tup [.int ((i:Nat):Int),x])) fun σ2 H2=>tb { D with nx:=Pv (i+1),ct:=Pv (i+1),bk:=D.nx } σ2 H2) (hd:∀ σ H,Pv xs.length σ H->D.nx σ H) :
  ∃ W:Nat->Nat->St->Hp->Prop,(∃ m,W 0 m σ H)/\∀ i m σ H,W i m σ H ->
   ((hX K a).stop i H/\D.nx σ H)∨((hX K a).go i H/\∃ N:St->Hp->Prop,(∀ σ' H',N σ' H'->∃ m',m'<m/\W (i+1) m' σ' H')/\∀ x H',(hX K a).yld i H x H'->g x σ H' fun σ2 H2=>tb { D with nx:=N,ct:=N,bk:=D.nx } σ2 H2):=by
 refine ⟨fun i m σ H=>m=xs.length-i/\i<=xs.length/\Pv i σ H,⟨xs.length,by simp,Qs _,h0⟩,?_⟩
 rintro i m σ H ⟨rfl,hi,p⟩
 have q:=hl i σ H hi p
 by_cases hlt:i<xs.length
 ·refine .inr ⟨⟨xs,xs[i],q,by simp [hlt]⟩,Pv (i+1),fun σ' H' p'=>⟨xs.length-(i+1),by omega,rfl,hlt,p'⟩,fun x H' y=>?_⟩
  obtain ⟨t,y,hy,hn,rfl,rfl⟩:=y
  exact hs i y σ _ t (hy xs q) p hn
 ·have e:i=xs.length:=by omega
  subst e
  exact .inl ⟨⟨xs,q,Qh _⟩,hd σ H p⟩
end L2
namespace L2
open PySem PySem.Spec PyProof.Rows
section
variable {prog:Program} {w:World} {A:Around} {E:Value->Shared->Prop} {s:Shared}
noncomputable def f8 (l:Bool) (h:Heap) (b:Addr) (ys:Array Value):Prop:=∃ o,h.get? b=some o/\o.cls=.type (bif l then "list" else "tuple")/\∃ n,o.data=.seq ys n
noncomputable def vX (l:Bool) (h:Heap) (d b:Addr) (k:Nat):Prop:=∃ o,h.get? d=some o/\o.cls=.type (bif l then "list_iterator" else "tuple_iterator")/\o.data=.fields #[.ref b,.int k 0]
end
section
variable {prog:Program} {w:World} {A:Around} {E:Value->Shared->Prop} {s:Shared}
noncomputable abbrev vY (l:Bool) (t:Addr):Obj:={ cls:=.type (bif l then "list_iterator" else "tuple_iterator"),data:=.fields #[.ref t,.int 0 0] }
end
section
variable {X:Cx}
end
section
variable {k:Nat} {js:List Nat} {g:TG} {tt:TT} {te:TE}
end
end L2
namespace L2
open PySem PySem.Spec PyProof.Rows
theorem vZ:typeLookup (.type "list") "keys"=pure none:=by rw [typeLookup_type,builtinLookup_eq_fast];kernel_rfl
theorem v0:typeLookup (.type "list") "__getattr__"=pure none:=by rw [typeLookup_type,builtinLookup_eq_fast];kernel_rfl
section
variable {prog:Program} {w:World} {A:Around} {E:Value->Shared->Prop} {h:Heap} {g:Array GenState} {d:Drawn} {t:Nat} {os:OsState} {a:Addr} {its:Array Value} {nn:Nat} {sl:Array (Option Value)}
noncomputable abbrev jc (its:Array Value) (nn:Nat) (sl:Array (Option Value)):Obj:={ cls:=.type "list",dict:=none,data:=.seq its nn,slots:=sl }
theorem v3 {tk:Tok} {Q:Fin->Shared->Prop} (hx:h.get? a=some (jc its nn sl)) (hh:A.handled=none)
  (hq:∀ hp tk e,Heap.NewAttrErr h hp e (.ref a) "keys"->E (.ref e) ⟨hp,g,d,tk,os⟩):wpAny (model prog w) A (Builtin.«object.__getattribute__» ⟨[.ref a,.str "keys" tk],[]⟩) Q E ⟨h,g,d,t,os⟩:=by
 have hT:(⟨h,g,d,t,os⟩:Shared).TypeIs (.ref a) "list":=⟨_,hx,rfl⟩
 have f4:=vZ
 repeat (any_goals (first | assumption | wp_step))
 exact wpAny_raiseAttrError hh hq (attrMsg_fits (by decide +kernel) (by decide +kernel))
theorem v4 {tk:Tok} {R:Result->Shared->Prop} (hx:h.get? a=some (jc its nn sl)) (hh:A.handled=none) (hq:∀ hp tk e,Heap.NewAttrErr h hp e (.ref a) "keys"->R (.error (.ref e)) ⟨hp,g,d,tk,os⟩) :
  codeAny (model prog w) A (.call (.builtin "list.__getattribute__") ⟨[.ref a,.str "keys" tk],[]⟩) R ⟨h,g,d,t,os⟩:=by
 refine codeAny_call_builtin F.slot_list_getattribute.plain F.entry_list_ga (F.slot_list_getattribute.check _ _ _ _ _ _ _ _ (show (⟨h,g,d,t,os⟩:Shared).TypeIs (.ref a) "list" from ⟨_,hx,rfl⟩) (F.args_list_getattribute_2 _ _) (v3 hx (by simpa using hh) hq))
theorem v5 {tk:Tok} {Q:Value->Shared->Prop} (hx:h.get? a=some (jc its nn sl)) (hh:A.handled=none) (hq:∀ hp tk e,Heap.NewAttrErr h hp e (.ref a) "keys"->E (.ref e) ⟨hp,g,d,tk,os⟩) :
  wpAny (model prog w) A (getAttrBy (.ref a) (.str "keys" tk) false) Q E ⟨h,g,d,t,os⟩:=by
 have hT:(⟨h,g,d,t,os⟩:Shared).TypeIs (.ref a) "list":=⟨_,hx,rfl⟩
 have f1:=sub_AttributeError
 have f2:=F.slot_list_getattribute.lookup
 have f3:=F.slot_list_getattribute.bind (.ref a)
 have f5:=v0
 unfold getAttrBy
 repeat (any_goals (first | assumption | wp_step))
 refine v4 hx hh fun hp tk' e hn=>?_
 obtain ⟨t',u',he⟩:=hn.there
 show wpAny _ _ (getattributeRaised _ _ _ _ _ _ _) _ _ _
 unfold getattributeRaised
 repeat (any_goals (first | assumption | wp_step))
 exact hq _ _ _ hn
theorem v6 {Q:Option Value->Shared->Prop} (hx:h.get? a=some (jc its nn sl)) (hh:A.handled=none) (hq:∀ hp tk e,Heap.NewAttrErr h hp e (.ref a) "keys"->Q none ⟨hp,g,d,tk,os⟩) :
  wpAny (model prog w) A (getAttr? (.ref a) "keys") Q E ⟨h,g,d,t,os⟩:=by
 unfold getAttr? getAttrBy?
 refine Qa (wpAny_mkText (Qa (wpAny_attempt (v5 hx hh fun hp tk' e hn=>?_))))
 obtain ⟨t',u',he⟩:=hn.there
 have f1:=sub_AttributeError
 repeat (any_goals (first | assumption | wp_step))
 exact hq _ _ _ hn
end
theorem v7:typeLookup (.type "tuple") "keys"=pure none:=by rw [typeLookup_type,builtinLookup_eq_fast];kernel_rfl
theorem v8:typeLookup (.type "tuple") "__getattr__"=pure none:=by rw [typeLookup_type,builtinLookup_eq_fast];kernel_rfl
section
variable {prog:Program} {w:World} {A:Around} {E:Value->Shared->Prop} {h:Heap} {g:Array GenState} {d:Drawn} {t:Nat} {os:OsState} {a:Addr} {its:Array Value} {nn:Nat} {sl:Array (Option Value)}
noncomputable abbrev jd (its:Array Value) (nn:Nat) (sl:Array (Option Value)):Obj:={ cls:=.type "tuple",dict:=none,data:=.seq its nn,slots:=sl }
theorem v9 {tk:Tok} {Q:Fin->Shared->Prop} (hx:h.get? a=some (jd its nn sl)) (hh:A.handled=none)
  (hq:∀ hp tk e,Heap.NewAttrErr h hp e (.ref a) "keys"->E (.ref e) ⟨hp,g,d,tk,os⟩):wpAny (model prog w) A (Builtin.«object.__getattribute__» ⟨[.ref a,.str "keys" tk],[]⟩) Q E ⟨h,g,d,t,os⟩:=by
 have hT:(⟨h,g,d,t,os⟩:Shared).TypeIs (.ref a) "tuple":=⟨_,hx,rfl⟩
 have f4:=v7
 repeat (any_goals (first | assumption | wp_step))
 exact wpAny_raiseAttrError hh hq (attrMsg_fits (by decide +kernel) (by decide +kernel))
theorem wa {tk:Tok} {R:Result->Shared->Prop} (hx:h.get? a=some (jd its nn sl)) (hh:A.handled=none) (hq:∀ hp tk e,Heap.NewAttrErr h hp e (.ref a) "keys"->R (.error (.ref e)) ⟨hp,g,d,tk,os⟩) :
  codeAny (model prog w) A (.call (.builtin "tuple.__getattribute__") ⟨[.ref a,.str "keys" tk],[]⟩) R ⟨h,g,d,t,os⟩:=by
 refine codeAny_call_builtin F.slot_tuple_getattribute.plain F.entry_tuple_ga (F.slot_tuple_getattribute.check _ _ _ _ _ _ _ _ (show (⟨h,g,d,t,os⟩:Shared).TypeIs (.ref a) "tuple" from ⟨_,hx,rfl⟩) (F.args_tuple_getattribute_2 _ _) (v9 hx (by simpa using hh) hq))
theorem wb {tk:Tok} {Q:Value->Shared->Prop} (hx:h.get? a=some (jd its nn sl)) (hh:A.handled=none) (hq:∀ hp tk e,Heap.NewAttrErr h hp e (.ref a) "keys"->E (.ref e) ⟨hp,g,d,tk,os⟩) :
  wpAny (model prog w) A (getAttrBy (.ref a) (.str "keys" tk) false) Q E ⟨h,g,d,t,os⟩:=by
 have hT:(⟨h,g,d,t,os⟩:Shared).TypeIs (.ref a) "tuple":=⟨_,hx,rfl⟩
 have f1:=sub_AttributeError
 have f2:=F.slot_tuple_getattribute.lookup
 have f3:=F.slot_tuple_getattribute.bind (.ref a)
 have f5:=v8
 unfold getAttrBy
 repeat (any_goals (first | assumption | wp_step))
 refine wa hx hh fun hp tk' e hn=>?_
 obtain ⟨t',u',he⟩:=hn.there
 show wpAny _ _ (getattributeRaised _ _ _ _ _ _ _) _ _ _
 unfold getattributeRaised
 repeat (any_goals (first | assumption | wp_step))
 exact hq _ _ _ hn
theorem wc {Q:Option Value->Shared->Prop} (hx:h.get? a=some (jd its nn sl)) (hh:A.handled=none) (hq:∀ hp tk e,Heap.NewAttrErr h hp e (.ref a) "keys"->Q none ⟨hp,g,d,tk,os⟩) :
  wpAny (model prog w) A (getAttr? (.ref a) "keys") Q E ⟨h,g,d,t,os⟩:=by
 unfold getAttr? getAttrBy?
 refine Qa (wpAny_mkText (Qa (wpAny_attempt (wb hx hh fun hp tk' e hn=>?_))))
 obtain ⟨t',u',he⟩:=hn.there
 have f1:=sub_AttributeError
 repeat (any_goals (first | assumption | wp_step))
 exact hq _ _ _ hn
end
theorem oh:entryFor table "dict.update.loop"=some Builtin.«dict.update.loop»:=entryFor_of_tree (by kernel_rfl)
theorem je:plainId "dict.update.loop"=true:=by decide +kernel
noncomputable def dM (ps:List (aa × Value)):List (aa × Value):=ps.foldl (fun q p=>stored q p.1 p.2) []
theorem wd (ps:List (aa × Value)) (p:aa × Value):dM (ps++[p])=stored (dM ps) p.1 p.2:=by
 unfold dM;rw [List.foldl_append];rfl
section
variable {prog:Program} {w:World} {A:Around} {E:Value->Shared->Prop} {s:Shared} {R:Result->Shared->Prop} {I:Addr} {fp wr:List Addr} {G:Array GenState->Array GenState->Prop} {n:Nat} {P:Nat->Value->Prop} {St:Nat->Shared->Prop}
theorem we (W:WalksS prog w A.in1 I fp wr G n P St) (S:Addr) (hSf:S∉fp) (ps:List (aa × Value)) (hn:ps.length=n) (tp:Nat->Addr) (kyv:Nat->Value) (hky:∀ i p,ps[i]?=some p->(bo prog w).is p.1 (kyv i)=true)
  (hval:∀ i v,P i v->v=.ref (tp i)) (hw:∀ i,tp i∉wr/\tp i≠S) (hsz:∀ i,(dM (ps.take i)).length<=sizeLine) :
  ∀ (k i:Nat) (j:Tok) (s:Shared),n-i=k->i<=n->St i s->s.heap.DictOf (bo prog w) S (dM (ps.take i))->(∀ i p,ps[i]?=some p->s.heap.IsTuple (tp i) #[kyv i,p.2]) ->
   (∀ s',Moved (S::wr) G s s'->s'.heap.DictOf (bo prog w) S (dM ps)->R (.ok (.ret .none)) s') ->
   codeAny (model prog w) A (.builtin "dict.update.loop" ⟨[.ref S,.ref I,.int i j,.none],[]⟩) R s:=by
 have hSw:S∉wr:=fun h=>hSf (W.sub _ h)
 have hsub:∀ b∈wr,b∈S::wr:=fun b hb=>Qn _ hb
 have dk:∀ {s s':Shared} {q},Moved wr G s s'->s.heap.DictOf (bo prog w) S q->s'.heap.DictOf (bo prog w) S q:=fun hm hD=>by
  obtain ⟨o,es,ep,ho,rest⟩:=hD
  exact ⟨o,es,ep,hm.heap S _ hSw ho,rest⟩
 intro k
 induction k with
 | zero =>
  intro i j s hk hi hst hS hT hR
  have hin:i=n:=by omega
  subst hin
  refine codeAny_builtin oh ?_
  rw [Around.under_plainId je _]
  show wpAny _ A.in1 (pyNext (.ref I) >>= _) _ _ s
  refine Qa (W.done s _ _ hst fun s' hm=>?_)
  show wpAny _ _ (Builtin.Dict.addKeywords S [] >>= _) _ _ _
  refine Qa (Qc (Qc (hR s' (hm.mono hsub) ?_)))
  rw [Qu (by omega)] at hS
  exact dk hm hS
 | succ k ih =>
  intro i j s hk hi hst hS hT hR
  have hlt:i<n:=by omega
  have hip:i<ps.length:=by omega
  refine codeAny_builtin oh ?_
  rw [Around.under_plainId je _]
  show wpAny _ A.in1 (pyNext (.ref I) >>= _) _ _ s
  refine Qa (W.item i s _ _ hlt hst fun v s' hP hst' hm=>?_)
  obtain rfl:=hval i v hP
  have hT1:∀ i p,ps[i]?=some p->s'.heap.IsTuple (tp i) #[kyv i,p.2]:=fun i p h=>(hT i p h).at fun o r=>hm.heap _ o (hw i).1 r
  have hti:=hT1 i ps[i] (Qb hip)
  have hky:=hky i ps[i] (Qb hip)
  refine Qa (wpAny_holding (Qa (wpAny_tryCatch ?_)))
  unfold Builtin.Dict.pairItems
  refine Qa (wpAny_typeOf hti.typeIs ?_)
  obtain ⟨ot,h1,h2,nt,h3⟩:=id hti
  rw [if_pos (by decide)]
  refine Qa (wpAny_seqItems h1 h3 (Qc ?_))
  show wpAny _ _ (holding [kyv i,ps[i].2] (dictSet S (kyv i) ps[i].2)) _ _ _
  refine wpAny_holding (wpAny_dictSet_pairs (hsz:=hsz i) hky (dk hm hS) fun h' dd hs=>?_)
  rw [<- wd,<- Qp hip] at dd
  refine Qc ⟨plainId_quiet je _,ih (i+1) _ _ (by omega) hlt (W.frame _ s' _ _ hst' (Nat.le_succ _) fun b hb o e=>?_) dd (fun i p h=>(hT1 i p h).at fun o r=>?_) fun s2 hm2 hS3=>?_⟩
  ·rw [hs.2 b (fun h:b=S=>hSf (by rw [<- h];exact hb))];exact e
  ·exact (hs.2 _ (hw i).2).trans r
  ·refine hR s2 (Moved.trans W.gtrans ((hm.mono hsub).then_heap (Nat.le_succ _) fun b o hb e=>?_) hm2) hS3
   rw [hs.2 b (fun h:b=S=>hb (by rw [h];exact QB))];exact e
end
theorem f8.at {l:Bool} {h h':Heap} {b:Addr} {ys:Array Value} (p:f8 l h b ys) (e:∀ o,h.get? b=some o->h'.get? b=some o):f8 l h' b ys :=
 let ⟨o,q,r⟩:=p;⟨o,e o q,r⟩
theorem wf {prog:Program} {w:World} {A:Around} {E:Value->Shared->Prop} {s:Shared} {l:Bool} {a:Addr} {its:Array Value} {Q:Value->Shared->Prop} (h:f8 l s.heap a its) (hq:Q (.ref s.heap.objs.size) { s with heap:=s.heap.push (vY l a) }):wpAny (model prog w) A (pyIter (.ref a)) Q E s:=by
 cases l
 ·exact wpAny_pyIter_tuple h hq
 ·exact wpAny_pyIter_list h hq
theorem wg (l:Bool) {prog:Program} {w:World} {A:Around} (hh:A.handled=none) (I ax:Addr) (hne:ax≠I) (items:Array Value) :
  Walks prog w A I [I,ax] [I] items.size (fun i v=>items[i]?=some v) (fun i h=>vX l h I ax i/\f8 l h ax items):=by
 cases l
 ·exact .tuple hh I ax hne items
 ·exact .list hh I ax hne items
section
variable {prog:Program} {w:World} {A:Around} {E:Value->Shared->Prop} {s:Shared}
noncomputable abbrev kR (l:Bool) (its:Array Value) (nn:Nat) (sl:Array (Option Value)):Obj:={ cls:=.type (bif l then "list" else "tuple"),dict:=none,data:=.seq its nn,slots:=sl }
noncomputable abbrev f9:Obj:={ cls:=.type "dict",data:=.dict #[] }
theorem wj {c:Bool} {l:Addr} {items:Array Value} {nn:Nat} {sl:Array (Option Value)} {Q:Value->Shared->Prop} (hl:s.heap.get? l=some (kR c items nn sl)) (hh:A.handled=none) (ps:List (aa × Value)) (tp:Nat->Addr) (kyv:Nat->Value)
  (hlen:ps.length=items.size) (hky:∀ i p,ps[i]?=some p->(bo prog w).is p.1 (kyv i)=true) (hit:∀ (i:Nat) (v:Value),items[i]?=some v->v=.ref (tp i)) (htp:∀ i,tp i<s.heap.objs.size) (hsz:∀ i,(dM (ps.take i)).length<=sizeLine)
  (hT:∀ i p,ps[i]?=some p->s.heap.IsTuple (tp i) #[kyv i,p.2])
  (k:∀ (hp:Heap) (tk:Nat),hp.DictOf (bo prog w) s.heap.objs.size (dM ps)->(∀ b o,s.heap.get? b=some o->hp.get? b=some o)->Q (.ref s.heap.objs.size) { s with heap:=hp,toks:=tk }) :
  wpAny (model prog w) A (call (.type "dict") [.ref l]) Q E s:=by
 refine callType_codes (Q₁:=fun obj s₁=>obj=.ref s.heap.objs.size/\s₁={ s with heap:=s.heap.push f9 }) F.kt_called_dict (F.kt_typeCall_dict_1 _) F.entry_dict_init (kt_code_dict_new _ ⟨rfl,rfl⟩) ?_
 rintro obj s₁ ⟨rfl,rfl⟩
 have hnew:(s.heap.push f9).DictOf (bo prog w) s.heap.objs.size []:=Heap.DictOf.new s.heap
 have hl1:(s.heap.push f9).get? l=some (kR c items nn sl):=Qd _ hl
 have hll:l<s.heap.objs.size:=Qo hl
 refine ⟨hnew.typeIs,F.args_dict_init_2 _ _,?_⟩
 unfold Builtin.«dict.__init__»
 refine Qa ?_
 unfold Builtin.Dict.selfAndRest
 refine Qa (wpAny_notOrdered_dict hnew.typeIs (Qc ?_))
 change wpAny _ _ (Builtin.Dict.updateFrom "dict.__init__" s.heap.objs.size (.ref l) [] .none) _ _ _
 unfold Builtin.Dict.updateFrom
 have ty:Shared.TypeIs { s with heap:=s.heap.push f9 } (.ref l) (bif c then "list" else "tuple"):=⟨_,hl1,rfl⟩
 refine Qa (wpAny_typeOf ty ?_)
 rw [if_pos (by cases c<;>decide)]
 have kn:∀ {Q:Option Value->Shared->Prop} {E:Value->Shared->Prop},(∀ hp tk e,Heap.NewAttrErr (s.heap.push f9) hp e (.ref l) "keys"->Q none ⟨hp,s.gens,s.drawn,tk,s.os⟩)->wpAny (model prog w) A.in1.in1 (getAttr? (.ref l) "keys") Q E { s with heap:=s.heap.push f9 }:=fun hq=>by
  cases c
  ·exact wc hl1 (by simpa using hh) hq
  ·exact v6 hl1 (by simpa using hh) hq
 refine Qa (kn fun hp tk e hn=>?_)
 have kp:∀ b o,s.heap.get? b=some o->hp.get? b=some o:=fun b o r=>hn.keeps b o (Qd _ r)
 have hD:hp.DictOf (bo prog w) s.heap.objs.size []:=by
  obtain ⟨o,es,ep,ho,rest⟩:=hnew
  exact ⟨o,es,ep,hn.keeps _ _ ho,rest⟩
 have hSl:s.heap.objs.size<hp.objs.size:=by
  obtain ⟨o,es,ep,ho,rest⟩:=hD
  exact Qo ho
 rw [if_pos (by rfl)]
 refine Qa (wpAny_rule ?_)
 have hlp:f8 c hp l items:=⟨_,kp _ _ hl,rfl,nn,rfl⟩
 refine Qa (wf (s:=⟨hp,s.gens,s.drawn,tk,s.os⟩) hlp ?_)
 refine Qc ⟨plainId_quiet je _,?_⟩
 have hneI:l≠hp.objs.size:=Qz (Nat.lt_trans hll hSl)
 have hSf:s.heap.objs.size∉[hp.objs.size,l]:=by
  simp only [List.mem_cons,List.mem_singleton,List.not_mem_nil,or_false,not_or]
  exact ⟨Qz hSl,Nat.ne_of_gt hll⟩
 have W:=(wg c (prog:=prog) (w:=w) (A:=A.in1.in1) (by simp [hh]) hp.objs.size l hneI items).toS
 refine we W s.heap.objs.size hSf ps hlen tp kyv hky hit (fun i=>?_) hsz (items.size-0) 0 0 _ (by omega) (Qs _) ⟨⟨_,Qm _ rfl,rfl,rfl⟩,hlp.at fun o r=>Qd _ r⟩ ?_ (fun i p h=>((hT i p h).at fun o r=>kp _ o r).push _) fun s' hm hS'=>?_
 ·refine ⟨?_,Qz (htp i)⟩
  simp only [List.mem_cons,List.mem_singleton,List.not_mem_nil,or_false]
  exact Qz (Nat.lt_trans (htp i) hSl)
 ·obtain ⟨o,es,ep,ho,rest⟩:=hD
  exact ⟨o,es,ep,Qd _ ho,rest⟩
 ·obtain ⟨h',g',d',tk',os'⟩:=s'
  have eg:g'=s.gens:=hm.gens
  have ed:d'=s.drawn:=hm.drawn
  have eo:os'=s.os:=hm.os
  subst eg;subst ed;subst eo
  refine ⟨rfl,k h' tk' hS' fun b o r=>?_⟩
  have hb:b<s.heap.objs.size:=Qo r
  refine hm.heap b o ?_ (Qd _ (kp b o r))
  simp only [List.mem_cons,List.mem_singleton,List.not_mem_nil,or_false,not_or]
  exact ⟨Qz hb,Qz (Nat.lt_trans hb hSl)⟩
end
theorem wk:bootBuiltins "dict"=some (.type "dict"):=by decide +kernel
noncomputable def eT (ps:List (aa × V)):List (aa × V):=ps.foldl (fun q p=>bN q p.1 p.2) []
theorem oi (ps:List (aa × V)):(eT ps).length<=ps.length:=by
 have go:∀ (ps:List (aa × V)) (q:List (aa × V)),(ps.foldl (fun q p=>bN q p.1 p.2) q).length<=q.length+ps.length:=fun ps=>by
  induction ps with
  | nil=>intro q;simp
  | cons p ps ih=>intro q;have h1:=ih (bN q p.1 p.2);have h2:=g9 q p.1 p.2;simp only [List.foldl_cons,List.length_cons];omega
 simpa [eT] using go ps []
theorem oj:∀ {ps:List (aa × V)} {qs:List (aa × Value)},ps.length=qs.length->(∀ (i:Nat) (p:aa × V) (q:aa × Value),ps[i]?=some p->qs[i]?=some q->p.1=q.1/\RelV p.2 q.2)->KV (eT ps) (dM qs):=by
 have go:∀ (ps:List (aa × V)) (qs:List (aa × Value)) (a:List (aa × V)) (b:List (aa × Value)),KV a b->ps.length=qs.length->(∀ (i:Nat) (p:aa × V) (q:aa × Value),ps[i]?=some p->qs[i]?=some q->p.1=q.1/\RelV p.2 q.2) ->
   KV (ps.foldl (fun q p=>bN q p.1 p.2) a) (qs.foldl (fun q p=>stored q p.1 p.2) b):=fun ps=>by
  induction ps with
  | nil=>intro qs a b h hl _;cases qs with | nil=>exact h | cons _ _=>simp at hl
  | cons p ps ih =>
   intro qs a b h hl hr
   cases qs with
   | nil=>simp at hl
   | cons q qs =>
    obtain ⟨e,r⟩:=hr 0 p q rfl rfl
    simp only [List.foldl_cons]
    refine ih qs _ _ ?_ (by simpa using hl) fun i p' q' h1 h2=>hr (i+1) p' q' (by simpa using h1) (by simpa using h2)
    rw [e];exact h.put q.1 r
 intro ps qs hl hr
 exact go ps qs [] [] .nil hl hr
section
variable {X:Cx}
theorem wl (c:Bool) (hc:X.calm=true):dG X (.type "dict") (fun xs H Q=>∃ (l:Addr) (ts:List Addr) (ps:List (aa × V)),xs=[V.ref l]/\H l=some (bif c then .lst (ts.map V.ref) else .tup (ts.map V.ref))/\ts.length=ps.length /\
  (∀ (i:Nat) (t:Addr) (p:aa × V),ts[i]?=some t->ps[i]?=some p->H t=some (.tup [kV p.1,p.2]))/\∀ q,H q=none->Q (.ref q) (af H q (.dK (eT ps)))):=by
 intro pins s σ H xs us Q I r h
 obtain ⟨l,ts,ps,rfl,hl,htl,hat,kq⟩:=h
 obtain ⟨u,rfl,ru⟩:=vals1 r
 cases (show u=Value.ref l from ru)
 obtain ⟨its,rv,n,sl,ho,hz⟩:∃ its,ao (ts.map V.ref) its/\∃ n sl,s.heap.get? l=some (kR c its.toArray n sl)/\(ts.map V.ref).length<=sizeLine:=by
  cases c
  ·obtain ⟨hz,its,rv,⟨o,ho,hcl,n,hda⟩,o2,ho2,hd⟩:=(show bp X.prog X.w H s.heap l (.tup (ts.map V.ref)) from I.hok l _ hl)
   rw [ho] at ho2
   cases ho2
   obtain ⟨ocls,odict,odata,oslots⟩:=o
   simp only at hcl hd hda
   subst hcl;subst hd;subst hda
   exact ⟨its,rv,n,_,ho,hz⟩
  ·obtain ⟨its,rv,⟨o,n,ho,hcl,hd,hda⟩,hz⟩:=I.list (al.of hl)
   obtain ⟨ocls,odict,odata,oslots⟩:=o
   simp only at hcl hd hda
   subst hcl;subst hd;subst hda
   exact ⟨its,rv,n,_,ho,hz⟩
 have hil:its.length=ts.length:=by rw [<- rv.length,Qg]
 obtain ⟨tp,htpe⟩:∃ tp:Nat->Addr,∀ i,tp i=ts.getD i l:=⟨_,fun _=>rfl⟩
 have pr:∀ i:Nat,∃ q:Value × Value,i<ps.length->its[i]?=some (.ref (tp i))/\IsTup s.heap (tp i) #[q.1,q.2]/\∀ p,ps[i]?=some p->RelV (kV p.1) q.1/\RelV p.2 q.2:=fun i=>by
  by_cases hi:i<ps.length
  ·have hti:i<ts.length:=by omega
   have h1:ts[i]?=some ts[i]:=Qb hti
   have h2:ps[i]?=some ps[i]:=Qb hi
   have et:tp i=ts[i]:=by rw [htpe,Qf,h1];rfl
   obtain ⟨v,hv,rvv⟩:=rv.get (i:=i) (x:=.ref ts[i]) (by rw [Qk,h1];rfl)
   cases (show v=Value.ref ts[i] from rvv)
   obtain ⟨jts,rj,pj,_⟩:=I.tuple (ai.of (hat i _ _ h1 h2))
   cases rj with
   | cons ra r2 =>
   cases r2 with
   | cons rb r3 =>
   cases r3
   refine ⟨(_,_),fun _=>⟨by rw [et];exact hv,by rw [et];exact pj,fun p hp=>?_⟩⟩
   rw [h2] at hp;cases hp;exact ⟨ra,rb⟩
  ·exact ⟨(.none,.none),fun h=>absurd h hi⟩
 obtain ⟨qv,spec⟩:=Classical.axiomOfChoice pr
 obtain ⟨qs,hqs⟩:∃ qs:List (aa × Value),qs=(List.range ps.length).map fun i=>((ps.getD i (.inl 0,.non)).1,(qv i).2):=⟨_,rfl⟩
 have qsl:qs.length=ps.length:=by rw [hqs];simp
 have qsg:∀ (i:Nat) (q:aa × Value),qs[i]?=some q->i<ps.length/\∃ p,ps[i]?=some p/\q=(p.1,(qv i).2):=fun i q h=>by
  have hi:i<ps.length:=by have:=(Qe h).1;omega
  refine ⟨hi,ps[i],Qb hi,?_⟩
  rw [hqs,Qk,List.getElem?_range hi] at h
  have h:=Qj h
  rw [<- h]
  show ((ps.getD i (.inl 0,.non)).1,(qv i).2)=_
  rw [Qf,Qb hi];rfl
 have rel:KV (eT ps) (dM qs):=oj qsl.symm fun i p q h1 h2=>by
  obtain ⟨hi,p',hp',rfl⟩:=qsg i q h2
  rw [h1] at hp';cases hp'
  exact ⟨rfl,((spec i hi).2.2 p h1).2⟩
 have relT:∀ i,KV (eT (ps.take i)) (dM (qs.take i)):=fun i=>oj (by simp [qsl]) fun j p q h1 h2=>by
  rw [List.getElem?_take] at h1 h2
  split at h1
  ·rename_i hj
   rw [if_pos hj] at h2
   obtain ⟨hi,p',hp',rfl⟩:=qsg j q h2
   rw [h1] at hp';cases hp'
   exact ⟨rfl,((spec j hi).2.2 p h1).2⟩
  ·cases h1
 have hpz:ps.length<=sizeLine:=by rw [Qg] at hz;omega
 refine wj ho (I.ok.hd hc) qs tp (fun i=>(qv i).1) (by rw [qsl];simp;omega) (fun i q h=>?_) (fun i v h=>?_) (fun i=>?_) (fun i=>?_) (fun i q h=>?_) fun hp tk hD kk=>?_
 ·obtain ⟨hi,p,hp,rfl⟩:=qsg i q h
  exact fw ((spec i hi).2.2 p hp).1
 ·have hi:i<ps.length:=by
   have:=(Array.getElem?_eq_some_iff.mp h).1
   simp at this;omega
  have:=(spec i hi).1
  have h:its[i]?=some v:=by simpa using h
  rw [this] at h;exact (Qj h).symm
 ·by_cases hi:i<ps.length
  ·obtain ⟨_,⟨o,r,_⟩,_⟩:=spec i hi
   exact Qo r
  ·have:tp i=l:=by
    rw [htpe,Qf,List.getElem?_eq_none (by omega)];rfl
   rw [this];exact Qo ho
 ·rw [<- (relT i).length]
  have:=oi (ps.take i)
  rw [Qr] at this
  omega
 ·obtain ⟨hi,p,hp,rfl⟩:=qsg i q h
  exact (spec i hi).2.1
 ·have hf:=oi ps
  refine ⟨.ref s.heap.objs.size,_,I.laid (a:=s.heap.objs.size) (o:=.dK (eT ps)) (t':=tk) kk (Qh _) (n4 (by omega) (beq_eq_false_iff_ne.mpr (Ne.symm (Qz I.big))) rel hD),rfl,kq _ I.fresh⟩
end
end L2
namespace L2
open PySem PySem.Spec PyProof.Rows
mutual
inductive cr (K:PySem.W.Frag) (H:Hp):V->PyData->Prop
 | non:cr K H .non .none
 | bl (b:Bool):cr K H (.bl b) (.bool b)
 | int (i:Int):cr K H (.int i) (.int i)
 | str (x:Str):cr K H (.str x) (.str x)
 | lst {a:Addr} {xs:List V} {ds:List PyData}:al K H a xs->RdvA K H xs ds->cr K H (.ref a) (.list ds)
 | tup {a:Addr} {xs:List V} {ds:List PyData}:ai K H a xs->RdvA K H xs ds->cr K H (.ref a) (.tuple ds)
inductive RdvA (K:PySem.W.Frag) (H:Hp):List V->List PyData->Prop
 | nil:RdvA K H [] []
 | cons {x:V} {d:PyData} {xs:List V} {ds:List PyData}:cr K H x d->RdvA K H xs ds->RdvA K H (x::xs) (d::ds)
end
section
variable {X:Cx} {pins:List (Addr × Obj)} {σ:St} {H:Hp} {s:Shared}
mutual
theorem cr.reads (I:Inv X pins σ H s):∀ {x:V} {d:PyData} {u:Value},cr X.K H x d->RelV x u->∃ as,Reads s.heap u d as
 | _,_,_,.non,r=>by cases r;exact ⟨_,.none⟩
 | _,_,_,.bl b,r=>by cases r;exact ⟨_,.bool b⟩
 | _,_,_,.int i,r=>by obtain ⟨t,rfl⟩:=r;exact ⟨_,.int i t⟩
 | _,_,_,.str x,r=>by obtain ⟨t,rfl⟩:=r;exact ⟨_,.str x t⟩
 | _,_,_,.lst hq ha,r=>by
  cases r
  obtain ⟨its,rv,p,_⟩:=I.list hq
  obtain ⟨as,ra⟩:=RdvA.reads I ha rv
  obtain ⟨o,ho,hc,n,hd⟩:=p.isList
  exact ⟨_,.list ho hc hd (by simpa using ra)⟩
 | _,_,_,.tup hq ha,r=>by
  cases r
  obtain ⟨its,rv,p,_⟩:=I.tuple hq
  obtain ⟨as,ra⟩:=RdvA.reads I ha rv
  obtain ⟨o,ho,hc,n,hd⟩:=p
  exact ⟨_,.tuple ho hc hd (by simpa using ra)⟩
theorem RdvA.reads (I:Inv X pins σ H s):∀ {xs:List V} {ds:List PyData} {us:List Value},RdvA X.K H xs ds->ao xs us->∃ as,ReadsAll s.heap us ds as
 | _,_,_,.nil,r=>by cases r;exact ⟨_,.nil⟩
 | _,_,_,.cons h t,r=>by
  cases r with
  | cons r1 r2 =>
   obtain ⟨as,ra⟩:=cr.reads I h r1
   obtain ⟨bs,rb⟩:=RdvA.reads I t r2
   exact ⟨_,.cons ra rb⟩
end
end
section
variable {X:Cx}
theorem wm {K:PySem.W.Frag} (hK:X.K=K) (hu:X.A.units+64<cLine):bv X (compareOp .Eq) (fun x y H Q=>∃ d e,cr K H x d/\cr K H y e/\SeqAt.shaped d=true/\SeqAt.shaped e=true/\Q (.bl (PyData.eqv d e)) H):=by
 intro pins s σ H x y v u Q I rx ry h
 subst hK
 obtain ⟨d,e,h1,h2,s1,s2,q⟩:=h
 obtain ⟨as,ra⟩:=h1.reads I rx
 obtain ⟨bs,rb⟩:=h2.reads I ry
 exact eq_dataH ra rb s1 s2 hu ⟨.bl _,H,I,rfl,q⟩
theorem om {K:PySem.W.Frag} (hK:X.K=K) (hu:X.A.units+64<cLine):bv X (compareOp .NotEq) (fun x y H Q=>∃ d e,cr K H x d/\cr K H y e/\SeqAt.shaped d=true/\SeqAt.shaped e=true/\Q (.bl (!PyData.eqv d e)) H):=by
 intro pins s σ H x y v u Q I rx ry h
 subst hK
 obtain ⟨d,e,h1,h2,s1,s2,q⟩:=h
 obtain ⟨as,ra⟩:=h1.reads I rx
 obtain ⟨bs,rb⟩:=h2.reads I ry
 exact ne_dataH ra rb s1 s2 hu ⟨.bl _,H,I,rfl,q⟩
end
section
variable {X:Cx}
end
noncomputable def bS (n:Nat) (d:PyData):Prop:=d.canLay0=true/\d.depth<=n
theorem bS.int (i:Int):bS 0 (.int i):=⟨rfl,Qh _⟩
theorem bS.str {z:Str} (h:∀ c∈z.cps.toList,c<128):bS 0 (.str z):=⟨by
 show PyData.strOk z=true
 unfold PyData.strOk
 rw [Array.all_eq_true]
 intro i hi
 have:=h z.cps[i] (by simp)
 simp only [decide_eq_true_eq]
 omega,Qh _⟩
theorem h8 {n:Nat}:∀ {ds:List PyData},(∀ d∈ds,bS n d)->PyData.canLayAll0 ds=true/\PyData.depthAll ds<=n
 | [],_=>⟨rfl,Qs _⟩
 | d::r,h=>by
  obtain ⟨a,b⟩:=h d QB
  obtain ⟨c,e⟩:=h8 (ds:=r) fun x hx=>h x (Qn _ hx)
  exact ⟨by simp only [PyData.canLayAll0];rw [a,c];rfl,by simp only [PyData.depthAll];omega⟩
theorem bS.list {n:Nat} {ds:List PyData} (h:∀ d∈ds,bS n d):bS (n+1) (.list ds):=⟨by simp only [PyData.canLay0];exact (h8 h).1,by simp only [PyData.depth];have:=(h8 h).2;omega⟩
theorem bS.tuple {n:Nat} {ds:List PyData} (h:∀ d∈ds,bS n d):bS (n+1) (.tuple ds):=⟨by simp only [PyData.canLay0];exact (h8 h).1,by simp only [PyData.depth];have:=(h8 h).2;omega⟩
theorem bS.ok {n:Nat} {d:PyData} (h:bS n d) (hn:n<=64):SeqAt.shaped d=true:=by
 show (d.canLay0&&decide (d.depth<=64))=true
 rw [h.1,Qv (QD h.2 hn)];rfl
end L2
namespace L2
open PySem PySem.Spec PyProof.Rows
theorem wn (a v:Value):argsOk "list.sort" ⟨[a],[(Str.ofString "key",v)]⟩:=by unfold argsOk;kernel_rfl
theorem wo (a v:Value):argsOk "sorted" ⟨[a],[(Str.ofString "key",v)]⟩:=by unfold argsOk;kernel_rfl
theorem wp (a f:Addr):Builtin.«list.sort» ⟨[.ref a],[(Str.ofString "key",.ref f)]⟩=(do
  let items <- Builtin.List.listItems (.ref a)
  Builtin.List.listUpdate (.ref a) fun _=>#[]
  let before <- seqEpoch a
  let held <- newTuple items.toList
  let keyStore <- newList []
  holding [held,keyStore] do
   rule "list.sort.key"
   for x in items do
    match <- (call (.ref f) [x]).attempt with
    | .ok k=>Builtin.List.listUpdate keyStore (·.push k)
    | .error e =>
     rule "list.sort.key-raised"
     let made <- Builtin.List.listItems keyStore
     Builtin.List.listUpdate keyStore fun _=>#[]
     letGo made.toList.reverse [e]
     Builtin.List.listUpdate (.ref a) fun _=>items;throw e
   let keys <- Builtin.List.listItems keyStore
   let kind <- if items.size<2 then pure general' else keyKind' keys
   let ((),s) <- (if items.size<2 then pure () else sortRuns').run (SortSt.mk' kind (keys.zip items) #[] 7 none)
   let sorted:=(arrOf s).map (·.2)
   Builtin.List.listUpdate keyStore fun _=>#[]
   letGo ((arrOf s).map (·.1)).toList (failedOf s).toList
   let touched:=(<- seqEpoch a) != before
   Builtin.List.listUpdate (.ref a) fun _=>sorted
   if let some e:=failedOf s then rule "list.sort.comparison-raised";throw e
   if touched then rule "list.sort.modified";raiseError "ValueError" "list modified during sort"
   ret .none):=by
 first | rfl | (fail "not by rfl")
theorem Inv.adopt {X:Cx} {pins:List (Addr × Obj)} {σ:St} {H:Hp} {s:Shared} {a:Addr} {o:HO} (I:Inv X pins σ H s) (f:b4 X pins H a) (new:bp X.prog X.w (af H a o) s.heap a o):Inv X pins σ (af H a o) s:=by
 obtain ⟨f0,f1,f2,f3,f4,f5⟩:=f
 have ne:∀ b u,H b=some u->b≠a:=fun b u e=>cS e f0
 have hok:bh X.prog X.w (af H a o) s.heap:=fun b u e=>by
  by_cases hb:b=a
  ·subst hb;rw [aj] at e;cases e;exact new
  ·rw [av hb] at e
   exact (I.hok b u e).stay (fun c v _ q=>q) (fun c q=>by rw [av (ne c _ q)];exact q) fun c xs q=>by rw [av (ne c _ q)];exact q
 have nc:∀ {b:Addr},b∉[a]->b≠a:=fun h z=>h (by simp [z])
 exact I.step (g':=s.gens) (d':=s.drawn) (t':=s.toks) (h':=s.heap) (ch:=[a]) (fun b hb=>by
   have e:b=a:=by simpa using hb
   subst e
   exact ⟨f3,f1,f4,f5⟩)
  (fun b o _ _ _ e _=>e) (fun b o _ _ _ e _=>⟨o.slots,e⟩) (fun b o hc e n=>by rw [av (nc hc)];exact n) (fun b o _ e=>⟨o,e⟩)
  (fun b xs e=>by rw [av (ne b _ e)];exact e) (fun b o u e=>by rw [av (ne b _ e)];exact e) (fun b ps e=>⟨#[],by rw [av (ne b _ e),e];simp⟩) (fun m hm=>hm) hok I.bare
section
variable {X:Cx} {k:Nat} {f:Addr} {fd:FuncData} {ps:List Str} {sp:Sp} {dvs:List V} {ds:List Value} {pins:List (Addr × Obj)} {σ:St} {H:Hp} {s:Shared} {xs:List V} {ks:List Int}
end
end L2
namespace L2
open PySem PySem.Spec PyProof.Rows
section
variable {prog:Program} {w:World} {K:Type} [DecidableEq K] {knd:HeapKind prog w K} {A:Around} {E:Value->Shared->Prop} {s:Shared} {d:Addr} {xs:List (K × Addr × Value)}
end
section
variable {X:Cx}
end
end L2
namespace L2
open PySem PySem.Spec PyProof.Rows PySem.W
noncomputable def aM (n:Nat) (p:Array Nat):Prop:=∀ x∈p.toList,x<n
theorem aM.at {n:Nat} {p:Array Nat} (h0:0<n) (h:aM n p) (k:Nat):p.getD k 0<n:=by
 rw [Array.getD_eq_getD_getElem?]
 cases e:p[k]? with
 | none=>exact h0
 | some x =>
  refine h x ?_
  rw [<- Array.getElem?_toList] at e
  exact Qt e
end L2
namespace L2
open PySem PySem.Spec PyProof.Rows PySem.W
structure Ev where
 κ:SortKind
 it:Array Keyed
noncomputable def kS (n:Nat) (lt:Nat->Nat->Bool) (e:Ev) (prog:Program) (w:World) (A:Around) (s:Shared):Prop :=
 ∀ i j,i<n->j<n->∀ C:Bool->Shared->Prop,C (lt i j) s->kas_cmp prog w A e.κ e.it i j C s
noncomputable def ay (n:Nat) (lt:Nat->Nat->Bool) {α:Type} (m:Ev->StateT SortSt Sem α) (x:Ev->SortSt) (R:(Ev->α)->(Ev->SortSt)->Prop):Prop :=
 ∃ (a:Ev->α) (y:Ev->SortSt),R a y/\∀ (e:Ev) (prog:Program) (w:World) (A:Around) (E:Value->Shared->Prop) (s:Shared),kS n lt e prog w A s ->
  ∀ Q:α->SortSt->Shared->Prop,Q (a e) (y e) s->kasC (model prog w) A E (m e) Q (x e) s
section
variable {n:Nat} {lt:Nat->Nat->Bool} {α β:Type} {x:Ev->SortSt}
theorem au {a:Ev->α} {R:(Ev->α)->(Ev->SortSt)->Prop} (h:R a x):ay n lt (fun e=>pure (a e)) x R :=
 ⟨a,x,h,fun e prog w A E s _ Q q=>kasC_pure q⟩
theorem am {m:Ev->StateT SortSt Sem α} {f:Ev->α->StateT SortSt Sem β} {R:(Ev->β)->(Ev->SortSt)->Prop} (h:ay n lt m x (fun a y=>ay n lt (fun e=>f e (a e)) y R)):ay n lt (fun e=>m e >>= f e) x R:=by
 obtain ⟨a,y,⟨b,z,r,h2⟩,h1⟩:=h
 exact ⟨b,z,r,fun e prog w A E s ho Q q=>kasC_bind (h1 e prog w A E s ho _ (h2 e prog w A E s ho Q q))⟩
theorem ay.mono {m:Ev->StateT SortSt Sem α} {R R':(Ev->α)->(Ev->SortSt)->Prop} (h:ay n lt m x R) (hr:∀ a y,R a y->R' a y):ay n lt m x R':=by
 obtain ⟨a,y,r,h1⟩:=h
 exact ⟨a,y,hr a y r,h1⟩
theorem oo {R:(Ev->SortSt)->(Ev->SortSt)->Prop} (h:R x x):ay n lt (fun _=>(get:StateT SortSt Sem SortSt)) x R :=
 ⟨x,x,h,fun e prog w A E s _ Q q=>kasC_get q⟩
theorem gc {f:Ev->SortSt->SortSt} {R:(Ev->PUnit)->(Ev->SortSt)->Prop} (h:R (fun _=>⟨⟩) (fun e=>f e (x e))):ay n lt (fun e=>(modify (f e):StateT SortSt Sem PUnit)) x R :=
 ⟨_,_,h,fun e prog w A E s _ Q q=>kasC_modify q⟩
theorem wq {f:Ev->SortSt} {R:(Ev->PUnit)->(Ev->SortSt)->Prop} (h:R (fun _=>⟨⟩) f):ay n lt (fun e=>(set (f e):StateT SortSt Sem PUnit)) x R :=
 ⟨_,_,h,fun e prog w A E s _ Q q=>by unfold kasC;rw [StateT.run_set];exact Qc q⟩
theorem gf {t:String} {R:(Ev->Unit)->(Ev->SortSt)->Prop} (h:R (fun _=>()) x):ay n lt (fun _=>(liftM (rule t):StateT SortSt Sem Unit)) x R :=
 ⟨_,_,h,fun e prog w A E s _ Q q=>kasC_lift (wpAny_rule q)⟩
theorem aQ {c:Prop} {inst:Ev->Decidable c} {p q:Ev->StateT SortSt Sem α} {R:(Ev->α)->(Ev->SortSt)->Prop} (h1:c->ay n lt p x R) (h2:¬c->ay n lt q x R):ay n lt (fun e=>@ite _ c (inst e) (p e) (q e)) x R:=by
 by_cases h:c
 ·simp only [if_pos h];exact h1 h
 ·simp only [if_neg h];exact h2 h
theorem oq {β:Type} {f:Ev->Nat->β->StateT SortSt Sem (ForInStep β)} (I:List Nat->(Ev->β)->(Ev->SortSt)->Prop) (Q:(Ev->β)->(Ev->SortSt)->Prop)
  (hstep:∀ i l c y,I (i::l) c y->ay n lt (fun e=>f e i (c e)) y (fun r z=>(∃ c',r=(fun e=>.done (c' e))/\Q c' z)∨(∃ c',r=(fun e=>.yield (c' e))/\I l c' z)))
  (hend:∀ c y,I [] c y->Q c y):∀ (l:List Nat) (c:Ev->β) (x:Ev->SortSt),I l c x->ay n lt (fun e=>forIn l (c e) (f e)) x Q
 | [],c,x,h=>⟨c,x,hend c x h,fun e prog w A E s _ Q q=>kasC_nil q⟩
 | i::l,c,x,h=>by
  obtain ⟨r,z,hr,h1⟩:=hstep i l c x h
  rcases hr with ⟨c',rfl,hq⟩ | ⟨c',rfl,hi⟩
  ·exact ⟨c',z,hq,fun e prog w A E s ho Q q=>kasC_cons (h1 e prog w A E s ho _ q)⟩
  ·obtain ⟨b,y,r,h2⟩:=oq I Q hstep hend l c' z hi
   exact ⟨b,y,r,fun e prog w A E s ho Q q=>kasC_cons (h1 e prog w A E s ho _ (h2 e prog w A E s ho Q q))⟩
theorem b6 {β:Type} {a b:Nat} {c:Ev->β} {f:Ev->Nat->β->StateT SortSt Sem (ForInStep β)} (I:Nat->(Ev->β)->(Ev->SortSt)->Prop) (Q:(Ev->β)->(Ev->SortSt)->Prop)
  (hstep:∀ i c y,a<=i->i<b->I i c y->ay n lt (fun e=>f e i (c e)) y (fun r z=>(∃ c',r=(fun e=>.done (c' e))/\Q c' z)∨(∃ c',r=(fun e=>.yield (c' e))/\I (i+1) c' z)))
  (hend:∀ c y,I (max a b) c y->Q c y) (h:I a c x):ay n lt (fun e=>forIn [a:b] (c e) (f e)) x Q:=by
 have key:ay n lt (fun e=>forIn (List.range' a (b-a)) (c e) (f e)) x Q:=by
  refine oq (fun l c y=>∃ i,a<=i/\i<=max a b/\l=List.range' i (max a b-i) 1/\I i c y) Q ?_ ?_ _ c x ⟨a,Qh _,by omega,by congr 1;omega,h⟩
  ·rintro j l c y ⟨i,hai,hib,hl,hI⟩
   have hlt:i<max a b:=by
    rcases Nat.lt_or_ge i (max a b) with h' | h'
    ·exact h'
    ·rw [show max a b-i=0 by omega] at hl;simp at hl
   obtain ⟨k,hk⟩:∃ k,max a b-i=k+1:=⟨max a b-i-1,by omega⟩
   rw [hk,List.range'_succ] at hl
   obtain ⟨rfl,rfl⟩:=List.cons.inj hl
   refine (hstep j c y hai (by omega) hI).mono fun r z hr=>?_
   rcases hr with hr | ⟨c',e',h'⟩
   ·exact .inl hr
   ·exact .inr ⟨c',e',j+1,by omega,by omega,by congr 1;omega,h'⟩
  ·rintro c y ⟨i,hai,hib,hl,hI⟩
   have:i=max a b:=by
    rcases Nat.lt_or_ge i (max a b) with h' | h'
    ·obtain ⟨k,hk⟩:∃ k,max a b-i=k+1:=⟨max a b-i-1,by omega⟩
     rw [hk,List.range'_succ] at hl;simp at hl
    ·omega
   subst this
   exact hend _ _ hI
 obtain ⟨b',y,r,h1⟩:=key
 exact ⟨b',y,r,fun e prog w A E s ho Q q=>kasC_range (h1 e prog w A E s ho Q q)⟩
end
noncomputable def cA (e:Ev) (i:Nat):Keyed:=kas_item e.it i
noncomputable def aK (e:Ev) (p:Array Nat):Array Keyed:=p.map (cA e)
noncomputable def ak (p:Array Nat) (pend:Array (Nat × Nat × Nat)) (g:Nat):Ev->SortSt:=fun e=>SortSt.mk' e.κ (aK e p) pend g none
theorem cB {e:Ev} {p:Array Nat}:(aK e p).size=p.size:=Array.size_map ..
section
variable {n:Nat} {lt:Nat->Nat->Bool} {p:Array Nat} {pend:Array (Nat × Nat × Nat)} {g:Nat}
theorem wt {e:Ev} {i:Nat} (hi:i<p.size):(aK e p)[i]?=some (cA e (p.getD i 0)):=by
 have e1:p.getD i 0=p[i]:=by simp [Array.getD,hi]
 rw [e1]
 simp [aK,hi]
theorem bI {i:Nat} {x:Ev->SortSt} {R:(Ev->Keyed)->(Ev->SortSt)->Prop} (hi:i<p.size) (h:R (fun e=>cA e (p.getD i 0)) x):ay n lt (fun e=>elem' (aK e p) i) x R:=by
 refine ⟨_,_,h,fun e prog w A E s _ Q q=>?_⟩
 show kasC _ _ _ (elem' (aK e p) i) _ _ _
 rw [elem'_eq,wt hi]
 exact kasC_pure q
theorem ic {i j:Nat} {R:(Ev->Option Bool)->(Ev->SortSt)->Prop} (hi:i<n) (hj:j<n) (h:R (fun _=>some (lt i j)) (ak p pend g)):ay n lt (fun e=>lt' (cA e i) (cA e j)) (ak p pend g) R:=by
 refine ⟨_,_,h,fun e prog w A E s ho Q q=>?_⟩
 show kasC _ _ _ (lt' (cA e i) (cA e j)) _ _ _
 rw [lt'_eq]
 refine kasC_bind (kasC_get ?_)
 refine kasC_bind (kasC_lift (wpAny_attempt (QJ (ho i j hi hj (fun b s'=>b=lt i j/\s'=s) ⟨rfl,rfl⟩) (fun c s' hc=>?_) fun _ _ hF=>hF.elim)))
 obtain ⟨rfl,rfl⟩:=hc
 exact kasC_pure q
theorem gg {i j:Nat} {R:(Ev->Option Bool)->(Ev->SortSt)->Prop} (h0:0<n) (hp:aM n p) (hi:i<p.size) (hj:j<p.size) (h:R (fun _=>some (lt (p.getD i 0) (p.getD j 0))) (ak p pend g)):ay n lt (fun _=>ltAt' i j) (ak p pend g) R:=by
 refine am (oo ?_)
 refine am (bI (p:=p) hi ?_)
 refine am (bI (p:=p) hj ?_)
 exact ic (hp.at h0 _) (hp.at h0 _) h
theorem jf {i j:Nat} {R:(Ev->Unit)->(Ev->SortSt)->Prop} (h:R (fun _=>()) (ak (kas_rev p i j) pend g)):ay n lt (fun _=>reverseSlice' i j) (ak p pend g) R:=by
 simp only [reverseSlice'_eq]
 refine gc ?_
 have e:(fun e=>setArr (ak p pend g e) (mirror (arrOf (ak p pend g e)) i j ((j-i) / 2)))=ak (kas_rev p i j) pend g:=by
  funext e
  show SortSt.mk' e.κ (mirror (aK e p) i j ((j-i) / 2)) pend g none=SortSt.mk' e.κ (aK e (kas_rev p i j)) pend g none
  have e1:mirror (aK e p) i j ((j-i) / 2)=aK e (kas_rev p i j):=kas_swaps_map (cA e) (fun k=>i+k) (fun k=>j-1-k) _ p
  rw [e1]
 rw [e]
 exact h
theorem wu {k l:Nat} {R:(Ev->Unit)->(Ev->SortSt)->Prop} (h:R (fun _=>()) (ak (bubble p k (k-l)) pend g)):ay n lt (fun _=>moveDown' k l) (ak p pend g) R:=by
 simp only [moveDown'_eq]
 refine gc ?_
 have e:(fun e=>setArr (ak p pend g e) (bubble (arrOf (ak p pend g e)) k (k-l)))=ak (bubble p k (k-l)) pend g:=by
  funext e
  show SortSt.mk' e.κ (bubble (aK e p) k (k-l)) pend g none=SortSt.mk' e.κ (aK e (bubble p k (k-l))) pend g none
  have e1:bubble (aK e p) k (k-l)=aK e (bubble p k (k-l)):=kas_swaps_map (cA e) (fun i=>k-i) (fun i=>k-i-1) _ p
  rw [e1]
 rw [e]
 exact h
end
noncomputable def wv:Bool->Keyed->Array Keyed->Nat->Nat->Nat->StateT SortSt Sem (Option Nat):=sortPriv% PySem.Builtin.gallop
noncomputable def ww:Array Keyed->Array Keyed->StateT SortSt Sem (Array Keyed):=sortPriv% PySem.Builtin.mergeLo
noncomputable def wx:Array Keyed->Array Keyed->StateT SortSt Sem (Array Keyed):=sortPriv% PySem.Builtin.mergeHi
section
variable {n:Nat} {lt:Nat->Nat->Bool} {p P:Array Nat} {pend:Array (Nat × Nat × Nat)} {g:Nat}
end
end L2
namespace L2
open PySem PySem.Spec PyProof.Rows PySem.W
noncomputable def wy:Nat->StateT SortSt Sem Unit:=sortPriv% PySem.Builtin.setMinGallop
theorem cU {e:Ev} {p:Array Nat} {i:Nat}:(aK e p).push (cA e i)=aK e (p.push i):=by simp [aK]
theorem cV {e:Ev} {p q:Array Nat}:aK e p++aK e q=aK e (p++q):=by simp [aK]
theorem cK {e:Ev} {p:Array Nat} {i j:Nat}:(aK e p).extract i j=aK e (p.extract i j):=by simp [aK]
theorem cW {e:Ev} {i:Nat}:#[cA e i]=aK e #[i]:=by simp [aK]
theorem fA {e:Ev} {p:Array Nat}:(aK e p).reverse=aK e p.reverse:=by simp [aK]
theorem aM.push {n:Nat} {p:Array Nat} (h:aM n p) {i:Nat} (hi:i<n):aM n (p.push i):=by
 intro x hx
 rw [Array.toList_push,List.mem_append] at hx
 rcases hx with hx | hx
 ·exact h x hx
 ·rw [List.mem_singleton] at hx;exact hx ▸ hi
theorem aM.app {n:Nat} {p q:Array Nat} (h:aM n p) (h':aM n q):aM n (p++q):=by
 intro x hx
 rw [Array.toList_append,List.mem_append] at hx
 exact hx.elim (h x) (h' x)
theorem aM.ext {n:Nat} {p:Array Nat} (h:aM n p) (i j:Nat):aM n (p.extract i j):=by
 intro x hx
 rw [Array.toList_extract] at hx
 exact h x (List.mem_of_mem_drop (List.mem_of_mem_take hx))
theorem aM.reverse {n:Nat} {p:Array Nat} (h:aM n p):aM n p.reverse:=by
 intro x hx
 rw [Array.toList_reverse,List.mem_reverse] at hx
 exact h x hx
section
variable {n:Nat} {lt:Nat->Nat->Bool} {α:Type} {x:Ev->SortSt} {P:Array Nat} {pend:Array (Nat × Nat × Nat)} {g:Nat}
theorem cL {a b:Nat} {inst:Ev->Decidable ((a == b)=true)} {p q:Ev->StateT SortSt Sem α} {R:(Ev->α)->(Ev->SortSt)->Prop} (h1:a=b->ay n lt p x R) (h2:a≠b->ay n lt q x R):ay n lt (fun e=>@ite _ ((a == b)=true) (inst e) (p e) (q e)) x R :=
 aQ (fun h=>h1 (by simpa using h)) (fun h=>h2 (by simpa using h))
theorem jg {k:Nat} {R:(Ev->Unit)->(Ev->SortSt)->Prop} (h:R (fun _=>()) (ak P pend k)):ay n lt (fun _=>wy k) (ak P pend g) R:=gc h
theorem dY {γ:Type} {f:Ev->SortSt->StateT SortSt Sem γ} {R:(Ev->γ)->(Ev->SortSt)->Prop} (h:ay n lt (fun e=>f e (SortSt.mk' e.κ (aK e P) pend g none)) (ak P pend g) R):ay n lt (fun e=>get >>= f e) (ak P pend g) R:=am (oo h)
theorem ou {c:Prop} {inst:Ev->Decidable c} {q:Ev->StateT SortSt Sem α} {R:(Ev->α)->(Ev->SortSt)->Prop} {X:Nat->Ev->StateT SortSt Sem α} (v:Nat) (e:q=X v) (h:∀ v,ay n lt (X v) x R):∀ m1,ay n lt (fun e=>@ite _ c (inst e) (X m1 e) (q e)) x R :=
 fun m1=>aQ (fun _=>h m1) (fun _=>e ▸ h v)
variable {pa pb:Array Nat}
end
end L2
namespace L2
open PySem PySem.Spec PyProof.Rows PySem.W
section
variable {n:Nat} {lt:Nat->Nat->Bool} {P:Array Nat} {pend:Array (Nat × Nat × Nat)} {g:Nat} {pa pb:Array Nat}
end
end L2
namespace L2
open PySem PySem.Spec PyProof.Rows PySem.W
theorem wz (p:Array Nat) (i j:Nat):(kas_rev p i j).size=p.size:=mirror_size _ _ _ _
noncomputable def putN (po:List Nat) (k:Nat) (s:Nat) (p:Array Nat):Array Nat:=(po.zipIdx k).foldl (fun a x=>a.setIfInBounds (s+x.2) x.1) p
theorem ow {α:Type} (f:Nat->α) (s:Nat):∀ (po:List Nat) (k:Nat) (p:Array Nat),((po.map f).zipIdx k).foldl (fun a (x:α × Nat)=>a.setIfInBounds (s+x.2) x.1) (p.map f)=(putN po k s p).map f
 | [],k,p=>rfl
 | a::po,k,p=>by
  show ((po.map f).zipIdx (k+1)).foldl _ ((p.map f).setIfInBounds (s+k) (f a))=(putN po (k+1) s (p.setIfInBounds (s+k) a)).map f
  rw [<- ow f s po (k+1),Array.map_setIfInBounds]
theorem ox (s:Nat):∀ (po:List Nat) (k:Nat) (p:Array Nat),(putN po k s p).size=p.size
 | [],k,p=>rfl
 | a::po,k,p=>by
  show (putN po (k+1) s (p.setIfInBounds (s+k) a)).size=p.size
  rw [ox s po,Array.size_setIfInBounds]
noncomputable def Ch:Nat->List (Nat × Nat × Nat)->Nat->Prop
 | s,[],e=>s=e
 | s,(a,k,_)::l,e=>a=s/\0<k/\Ch (s+k) l e
theorem Ch.le:∀ {s:Nat} {l:List (Nat × Nat × Nat)} {e:Nat},Ch s l e->s<=e
 | s,[],e,h=>Nat.le_of_eq h
 | s,(a,k,_)::l,e,h=>QD (Nat.le_add_right s k) h.2.2.le
theorem Ch.two:∀ {s:Nat} {l:List (Nat × Nat × Nat)} {e:Nat} (i:Nat),Ch s l e->i+1<l.length->∃ a k u m v,l[i]?=some (a,k,u)/\l[i+1]?=some (a+k,m,v)/\0<k/\0<m/\a+k+m<=e/\Ch s ((l.set i (a,k+m,u)).eraseIdx (i+1)) e
 | s,[],e,i,h,hi=>absurd hi (by simp)
 | s,[x],e,i,h,hi=>absurd hi (by simp)
 | s,(a,k,u)::(b,m,v)::l,e,0,h,hi=>by
  obtain ⟨rfl,hk,rfl,hm,h⟩:=h
  exact ⟨a,k,u,m,v,rfl,rfl,hk,hm,h.le,rfl,by omega,by rw [<- Nat.add_assoc];exact h⟩
 | s,(a,k,u)::y::l,e,i+1,h,hi=>by
  obtain ⟨rfl,hk,h⟩:=h
  obtain ⟨b,m,v,m2,v2,e1,e2,h1,h2,h3,h4⟩:=Ch.two i h (by simpa using hi)
  exact ⟨b,m,v,m2,v2,e1,e2,h1,h2,h3,rfl,hk,h4⟩
theorem Ch.push:∀ {s:Nat} {l:List (Nat × Nat × Nat)} {e:Nat} (k u:Nat),Ch s l e->0<k->Ch s (l++[(e,k,u)]) (e+k)
 | s,[],e,k,u,h,hk=>by cases (show s=e from h);exact ⟨rfl,hk,rfl⟩
 | s,(a,m,v)::l,e,k,u,h,hk=>⟨h.1,h.2.1,Ch.push k u h.2.2 hk⟩
theorem Ch.mod:∀ {s:Nat} {l:List (Nat × Nat × Nat)} {e:Nat} (i u:Nat),Ch s l e->Ch s (l.modify i fun x=>(x.1,x.2.1,u)) e
 | s,[],e,i,u,h=>by cases i<;>exact h
 | s,(a,m,v)::l,e,0,u,h=>h
 | s,(a,m,v)::l,e,i+1,u,h=>⟨h.1,h.2.1,Ch.mod i u h.2.2⟩
section
variable {n:Nat} {lt:Nat->Nat->Bool} {α:Type} {x:Ev->SortSt} {p:Array Nat} {pend:Array (Nat × Nat × Nat)} {g:Nat}
theorem wA {pend':Array (Nat × Nat × Nat)} {R:(Ev->PUnit)->(Ev->SortSt)->Prop} (h:R (fun _=>⟨⟩) (ak p pend' g)):ay n lt (fun e=>(set (SortSt.mk' e.κ (aK e p) pend' g none):StateT SortSt Sem PUnit)) x R:=wq h
theorem wB {f:Ev->SortSt->SortSt} {p':Array Nat} {pend':Array (Nat × Nat × Nat)} {g':Nat} {R:(Ev->PUnit)->(Ev->SortSt)->Prop} (e:∀ e,f e (ak p pend g e)=ak p' pend' g' e) (h:R (fun _=>⟨⟩) (ak p' pend' g')):ay n lt (fun e=>(modify (f e):StateT SortSt Sem PUnit)) (ak p pend g) R :=
 gc (by rw [funext e];exact h)
theorem wC {c:Prop} {inst:Decidable c} {a b:Nat} (h:a+1<b):(@ite _ c inst (a-1) a)+1<b:=by
 by_cases hc:c
 ·rw [if_pos hc];omega
 ·rw [if_neg hc];exact h
theorem jh {v:Nat × Nat × Nat} {R:(Ev->PUnit)->(Ev->SortSt)->Prop} (h:R (fun _=>⟨⟩) (ak p (pend.push v) g)):ay n lt (fun _=>(modify fun s=>setPending s ((pendingOf s).push v):StateT SortSt Sem PUnit)) (ak p pend g) R:=gc h
theorem oy {f:Nat × Nat × Nat->Nat × Nat × Nat} {R:(Ev->PUnit)->(Ev->SortSt)->Prop} (h:R (fun _=>⟨⟩) (ak p (pend.modify (pend.size-1) f) g)):ay n lt (fun _=>(modify fun s=>setPending s ((pendingOf s).modify ((pendingOf s).size-1) f):StateT SortSt Sem PUnit)) (ak p pend g) R:=gc h
end
end L2
namespace L2
open PySem PySem.Spec PyProof.Rows PySem.W
noncomputable def aX (left:Bool) (lt:Nat->Nat->Bool) (p:Array Nat) (k base i:Nat):Bool:=if left=true then lt (p.getD (base+i) 0) k else !(lt k (p.getD (base+i) 0))
section
variable {n:Nat} {lt:Nat->Nat->Bool} {p P:Array Nat} {pend:Array (Nat × Nat × Nat)} {g:Nat}
theorem ie {left:Bool} {k base i:Nat} {R:(Ev->Option Bool)->(Ev->SortSt)->Prop} (h0:0<n) (hk:k<n) (hp:aM n p) (hb:base+i<p.size) (h:R (fun _=>some (aX left lt p k base i)) (ak P pend g)) :
  ay n lt (fun e=>elem' (aK e p) (base+i) >>= fun x=>if left=true then lt' x (cA e k) else lt' (cA e k) x >>= fun r=>pure (r.map (!·))) (ak P pend g) R:=by
 refine am (bI (p:=p) hb (aQ (fun z=>ic (hp.at h0 _) hk ?_) (fun z=>am (ic hk (hp.at h0 _) (au ?_)))))
 ·rw [aX,if_pos z] at h;exact h
 ·rw [aX,if_neg z] at h;exact h
theorem gh {left:Bool} {k base m hint:Nat} {R:(Ev->Option Nat)->(Ev->SortSt)->Prop} (h0:0<n) (hk:k<n) (hp:aM n p) (hh:hint<m) (hb:base+m<=p.size)
  (hm:∀ i j,i<=j->j<m->aX left lt p k base j=true->aX left lt p k base i=true)
  (h:∀ r,r<=m->(∀ i,i<r->aX left lt p k base i=true)->(∀ i,r<=i->i<m->aX left lt p k base i=false)->R (fun _=>some r) (ak P pend g)) :
  ay n lt (fun e=>wv left (cA e k) (aK e p) base m hint) (ak P pend g) R:=by
 have hm':∀ i j,i<=j->j<m->aX left lt p k base i=false->aX left lt p k base j=false:=fun i j hij hj z=>by
  cases e:aX left lt p k base j with
  | false=>rfl
  | true=>rw [hm i j hij hj e] at z;cases z
 refine am (ie h0 hk hp (by omega) ?_)
 dsimp only
 refine aQ (fun z=>?_) (fun z=>?_)
 ·refine am (ay.mono (b6 (fun i c y=>∃ la of:Nat,c=(fun _=>(none,la,of))/\y=ak P pend g/\la<of/\i+1<=of/\hint+la<m/\aX left lt p k base (hint+la)=true)
   (fun c y=>∃ la of:Nat,c=(fun _=>(none,la,of))/\y=ak P pend g/\la<of/\hint+la<m/\aX left lt p k base (hint+la)=true/\(m-hint<=of∨(hint+of<m/\aX left lt p k base (hint+of)=false))) ?_ ?_ ⟨_,_,rfl,rfl,by omega,by omega,by omega,z⟩) ?_)
  ·rintro i _ _ _ _ ⟨la,of,rfl,rfl,h1,h2,h3,hb1⟩
   dsimp only
   refine aQ (fun hge=>au (.inl ⟨_,rfl,_,_,rfl,rfl,h1,h3,hb1,.inl hge⟩)) (fun hlt=>?_)
   refine am (ie h0 hk hp (by omega) ?_)
   dsimp only
   exact aQ (fun q=>au (.inl ⟨_,rfl,_,_,rfl,rfl,h1,h3,hb1,.inr ⟨by omega,by simpa using q⟩⟩)) (fun q=>au (.inr ⟨_,rfl,_,_,rfl,rfl,by omega,by omega,by omega,by simpa using q⟩))
  ·rintro _ _ ⟨la,of,rfl,rfl,h1,h2,h3,hb1⟩
   exact ⟨la,of,rfl,rfl,h1,h3,hb1,.inl (by omega)⟩
  ·rintro _ _ ⟨la,of,rfl,rfl,h1,h3,hb1,hex⟩
   dsimp only
   refine am (ay.mono (b6 (fun i c y=>∃ lo hi,c=(fun _=>(none,lo,hi))/\y=ak P pend g/\lo<=hi/\hi<=m/\hi-lo<=m-i/\(∀ i,i<lo->aX left lt p k base i=true)/\(∀ i,hi<=i->i<m->aX left lt p k base i=false))
    (fun c y=>∃ lo hi,c=(fun _=>(none,lo,hi))/\y=ak P pend g/\lo=hi/\hi<=m/\(∀ i,i<lo->aX left lt p k base i=true)/\(∀ i,hi<=i->i<m->aX left lt p k base i=false)) ?_ ?_ ⟨_,_,rfl,rfl,by omega,by omega,by omega,?_,?_⟩) ?_)
   ·rintro i _ _ _ _ ⟨lo,hi,rfl,rfl,h1,h2,h3,hA,hB⟩
    dsimp only
    refine aQ (fun hge=>au (.inl ⟨_,rfl,_,_,rfl,rfl,by omega,h2,hA,hB⟩)) (fun hlt=>?_)
    refine am (ie h0 hk hp (by omega) ?_)
    dsimp only
    refine aQ (fun q=>au (.inr ⟨_,rfl,_,_,rfl,rfl,by omega,h2,by omega,fun i hi=>hm i _ (by omega) (by omega) q,hB⟩)) (fun q=>au (.inr ⟨_,rfl,_,_,rfl,rfl,by omega,by omega,by omega,hA,fun i h1 h2=>hm' _ i h1 h2 (by simpa using q)⟩))
   ·rintro _ _ ⟨lo,hi,rfl,rfl,h1,h2,h3,hA,hB⟩
    exact ⟨lo,hi,rfl,rfl,by omega,h2,hA,hB⟩
   ·exact fun i hi=>hm i _ (by omega) h3 hb1
   ·intro i h4 h5
    rcases hex with hex | ⟨hex,hex2⟩
    ·omega
    ·exact hm' _ i (by omega) h5 hex2
   ·rintro _ _ ⟨lo,hi,rfl,rfl,rfl,h2,hA,hB⟩
    exact au (h _ h2 hA hB)
 ·refine am (ay.mono (b6 (fun i c y=>∃ la of:Nat,c=(fun _=>(none,la,of))/\y=ak P pend g/\la<of/\i+1<=of/\la<=hint/\aX left lt p k base (hint-la)=false)
   (fun c y=>∃ la of:Nat,c=(fun _=>(none,la,of))/\y=ak P pend g/\la<of/\la<=hint/\aX left lt p k base (hint-la)=false/\(hint+1<=of∨(of<=hint/\aX left lt p k base (hint-of)=true))) ?_ ?_ ⟨_,_,rfl,rfl,by omega,by omega,by omega,by simpa using z⟩) ?_)
  ·rintro i _ _ _ _ ⟨la,of,rfl,rfl,h1,h2,h3,hb1⟩
   dsimp only
   refine aQ (fun hge=>au (.inl ⟨_,rfl,_,_,rfl,rfl,h1,h3,hb1,.inl hge⟩)) (fun hlt=>?_)
   refine am (ie h0 hk hp (by omega) ?_)
   dsimp only
   exact aQ (fun q=>au (.inl ⟨_,rfl,_,_,rfl,rfl,h1,h3,hb1,.inr ⟨by omega,q⟩⟩)) (fun q=>au (.inr ⟨_,rfl,_,_,rfl,rfl,by omega,by omega,by omega,by simpa using q⟩))
  ·rintro _ _ ⟨la,of,rfl,rfl,h1,h2,h3,hb1⟩
   exact ⟨la,of,rfl,rfl,h1,h3,hb1,.inl (by omega)⟩
  ·rintro _ _ ⟨la,of,rfl,rfl,h1,h3,hb1,hex⟩
   dsimp only
   refine am (ay.mono (b6 (fun i c y=>∃ lo hi,c=(fun _=>(none,lo,hi))/\y=ak P pend g/\lo<=hi/\hi<=m/\hi-lo<=m-i/\(∀ i,i<lo->aX left lt p k base i=true)/\(∀ i,hi<=i->i<m->aX left lt p k base i=false))
    (fun c y=>∃ lo hi,c=(fun _=>(none,lo,hi))/\y=ak P pend g/\lo=hi/\hi<=m/\(∀ i,i<lo->aX left lt p k base i=true)/\(∀ i,hi<=i->i<m->aX left lt p k base i=false)) ?_ ?_ ⟨_,_,rfl,rfl,by omega,by omega,by omega,?_,?_⟩) ?_)
   ·rintro i _ _ _ _ ⟨lo,hi,rfl,rfl,h1,h2,h3,hA,hB⟩
    dsimp only
    refine aQ (fun hge=>au (.inl ⟨_,rfl,_,_,rfl,rfl,by omega,h2,hA,hB⟩)) (fun hlt=>?_)
    refine am (ie h0 hk hp (by omega) ?_)
    dsimp only
    refine aQ (fun q=>au (.inr ⟨_,rfl,_,_,rfl,rfl,by omega,h2,by omega,fun i hi=>hm i _ (by omega) (by omega) q,hB⟩)) (fun q=>au (.inr ⟨_,rfl,_,_,rfl,rfl,by omega,by omega,by omega,hA,fun i h1 h2=>hm' _ i h1 h2 (by simpa using q)⟩))
   ·rintro _ _ ⟨lo,hi,rfl,rfl,h1,h2,h3,hA,hB⟩
    exact ⟨lo,hi,rfl,rfl,by omega,h2,hA,hB⟩
   ·intro i h4
    rcases hex with hex | ⟨hex,hex2⟩
    ·omega
    ·exact hm i _ (by omega) (by omega) hex2
   ·exact fun i h4 h5=>hm' _ i h4 h5 hb1
   ·rintro _ _ ⟨lo,hi,rfl,rfl,rfl,h2,hA,hB⟩
    exact au (h _ h2 hA hB)
end
end L2
namespace L2
open PySem PySem.Spec PyProof.Rows PySem.W
noncomputable def b7 (lt:Nat->Nat->Bool) (l:List Nat):Prop:=l.Pairwise fun a b=>lt b a=false
structure dA (lt:Nat->Nat->Bool):Prop where
 as:∀ a b,lt a b=true->lt b a=false
 tr:∀ a b c,lt b a=false->lt c b=false->lt c a=false
structure MM (lt:Nat->Nat->Bool) (A o a b:List Nat):Prop where
 pm:(o++(a++b)).Perm A
 so:b7 lt o
 sa:b7 lt a
 sb:b7 lt b
 le:∀ x∈o,∀ y∈a++b,lt y x=false
structure MF (lt:Nat->Nat->Bool) (A o:List Nat):Prop where
 pm:o.Perm A
 so:b7 lt o
section
variable {lt:Nat->Nat->Bool} {A o a b t:List Nat}
theorem dZ:b7 lt (a++b)↔b7 lt a/\b7 lt b/\∀ x∈a,∀ y∈b,lt y x=false:=List.pairwise_append
theorem MM.takeA (h:MM lt A o (t++a) b) (hb:∀ x∈t,∀ y∈b,lt y x=false):MM lt A (o++t) a b:=by
 obtain ⟨p,s1,s2,s3,l⟩:=h
 obtain ⟨q1,q2,q3⟩:=dZ.mp s2
 refine ⟨by simpa [QI] using p,dZ.mpr ⟨s1,q1,fun x hx y hy=>l x hx y (by simp [hy])⟩,q2,s3,fun x hx y hy=>?_⟩
 rcases QC hx with hx | hx
 ·exact l x hx y (by rcases QC hy with z | z<;>simp [z])
 ·rcases QC hy with z | z
  ·exact q3 x hx y z
  ·exact hb x hx y z
theorem MM.takeB (h:MM lt A o a (t++b)) (ha:∀ x∈t,∀ y∈a,lt y x=false):MM lt A (o++t) a b:=by
 obtain ⟨p,s1,s2,s3,l⟩:=h
 obtain ⟨q1,q2,q3⟩:=dZ.mp s3
 refine ⟨?_,dZ.mpr ⟨s1,q1,fun x hx y hy=>l x hx y (by simp [hy])⟩,s2,q2,fun x hx y hy=>?_⟩
 ·refine List.Perm.trans ?_ p
  rw [QI]
  refine List.Perm.append_left o ?_
  rw [<- QI,<- QI]
  exact List.Perm.append_right b List.perm_append_comm
 rcases QC hx with hx | hx
 ·exact l x hx y (by rcases QC hy with z | z<;>simp [z])
 ·rcases QC hy with z | z
  ·exact ha x hx y z
  ·exact q3 x hx y z
theorem MM.endA (h:MM lt A o a []):MF lt A (o++a):=by
 obtain ⟨p,s1,s2,s3,l⟩:=h
 exact ⟨by simpa using p,dZ.mpr ⟨s1,s2,fun x hx y hy=>l x hx y (by simpa using hy)⟩⟩
theorem MM.endB (h:MM lt A o [] b):MF lt A (o++b):=by
 obtain ⟨p,s1,s2,s3,l⟩:=h
 exact ⟨by simpa using p,dZ.mpr ⟨s1,s3,fun x hx y hy=>l x hx y (by simpa using hy)⟩⟩
theorem MM.endBA (h:MM lt A o a b) (hb:∀ x∈b,∀ y∈a,lt y x=false):MF lt A (o++(b++a)):=by
 obtain ⟨p,s1,s2,s3,l⟩:=h
 refine ⟨List.Perm.trans (List.Perm.append_left o List.perm_append_comm) p,dZ.mpr ⟨s1,dZ.mpr ⟨s3,s2,hb⟩,fun x hx y hy=>l x hx y ?_⟩⟩
 rcases QC hy with z | z<;>simp [z]
end
theorem oz {p:Array Nat} {i:Nat} (h:i<p.size):p.toList.drop i=p.getD i 0::p.toList.drop (i+1):=by
 have e1:p.getD i 0=p[i]:=by simp [Array.getD,h]
 rw [e1,List.drop_eq_getElem_cons (by simpa using h)]
 simp
theorem ji {p:Array Nat} {i k:Nat} (h:i+k<=p.size):p.toList.drop i=(p.extract i (i+k)).toList++p.toList.drop (i+k):=by
 rw [Array.toList_extract]
 simp only [List.extract]
 rw [show i+k-i=k by omega,<- List.drop_drop]
 exact (List.take_append_drop k _).symm
theorem gi {p:Array Nat} {i:Nat}:(p.extract i p.size).toList=p.toList.drop i:=by
 rw [Array.toList_extract]
 simp only [List.extract]
 rw [Qu (by simp)]
theorem jj {p:Array Nat} {i:Nat} {y:Nat} (h:y∈p.toList.drop i):∃ j,i<=j/\j<p.size/\y=p.getD j 0:=by
 obtain ⟨j,hj,e⟩:=List.mem_iff_getElem.mp h
 rw [List.length_drop,Qx] at hj
 refine ⟨i+j,by omega,by omega,?_⟩
 rw [List.getElem_drop] at e
 rw [<- e]
 simp [Array.getD,show i+j<p.size by omega]
theorem ig {p:Array Nat} {i k:Nat} {y:Nat} (h:y∈(p.extract i (i+k)).toList):∃ j,j<k/\i+j<p.size/\y=p.getD (i+j) 0:=by
 obtain ⟨j,hj,e⟩:=List.mem_iff_getElem.mp h
 simp at hj
 refine ⟨j,by omega,by omega,?_⟩
 rw [<- e]
 simp [Array.getD,show i+j<p.size by omega]
theorem fB {lt:Nat->Nat->Bool} {p:Array Nat} (h:b7 lt p.toList) {i j:Nat} (hij:i<j) (hj:j<p.size):lt (p.getD j 0) (p.getD i 0)=false:=by
 have:=List.pairwise_iff_getElem.mp h i j (by simpa using Nat.lt_trans hij hj) (by simpa using hj) hij
 simpa [Array.getD,hj,Nat.lt_trans hij hj] using this
structure bf (n:Nat) (lt:Nat->Nat->Bool) (pa pb po:Array Nat) (ia ib:Nat):Prop where
 en:aM n po
 mm:MM lt (pa.toList++pb.toList) po.toList (pa.toList.drop ia) (pb.toList.drop ib)
structure GF (n:Nat) (lt:Nat->Nat->Bool) (A:List Nat) (po:Array Nat):Prop where
 en:aM n po
 mf:MF lt A po.toList
section
variable {n:Nat} {lt:Nat->Nat->Bool} {pa pb po:Array Nat} {ia ib k:Nat}
theorem bf.pushB (h0:0<n) (hb:aM n pb) (h:bf n lt pa pb po ia ib) (hi:ib<pb.size) (q:∀ y∈pa.toList.drop ia,lt y (pb.getD ib 0)=false):bf n lt pa pb (po.push (pb.getD ib 0)) ia (ib+1):=by
 obtain ⟨e,m⟩:=h
 rw [oz hi] at m
 refine ⟨e.push (hb.at h0 _),?_⟩
 rw [Array.toList_push]
 exact MM.takeB (t:=[pb.getD ib 0]) m fun x hx y hy=>by rw [List.mem_singleton.mp hx];exact q y hy
theorem bf.pushA (h0:0<n) (ha:aM n pa) (h:bf n lt pa pb po ia ib) (hi:ia<pa.size) (q:∀ y∈pb.toList.drop ib,lt y (pa.getD ia 0)=false):bf n lt pa pb (po.push (pa.getD ia 0)) (ia+1) ib:=by
 obtain ⟨e,m⟩:=h
 rw [oz hi] at m
 refine ⟨e.push (ha.at h0 _),?_⟩
 rw [Array.toList_push]
 exact MM.takeA (t:=[pa.getD ia 0]) m fun x hx y hy=>by rw [List.mem_singleton.mp hx];exact q y hy
theorem bf.extB (hb:aM n pb) (h:bf n lt pa pb po ia ib) (hi:ib+k<=pb.size) (q:∀ j,j<k->∀ y∈pa.toList.drop ia,lt y (pb.getD (ib+j) 0)=false):bf n lt pa pb (po++pb.extract ib (ib+k)) ia (ib+k):=by
 obtain ⟨e,m⟩:=h
 rw [ji hi] at m
 refine ⟨e.app (hb.ext _ _),?_⟩
 rw [Array.toList_append]
 refine MM.takeB m fun x hx y hy=>?_
 obtain ⟨j,h1,h2,rfl⟩:=ig hx
 exact q j h1 y hy
theorem bf.extA (ha:aM n pa) (h:bf n lt pa pb po ia ib) (hi:ia+k<=pa.size) (q:∀ j,j<k->∀ y∈pb.toList.drop ib,lt y (pa.getD (ia+j) 0)=false):bf n lt pa pb (po++pa.extract ia (ia+k)) (ia+k) ib:=by
 obtain ⟨e,m⟩:=h
 rw [ji hi] at m
 refine ⟨e.app (ha.ext _ _),?_⟩
 rw [Array.toList_append]
 refine MM.takeA m fun x hx y hy=>?_
 obtain ⟨j,h1,h2,rfl⟩:=ig hx
 exact q j h1 y hy
theorem oA {p:Array Nat} {i:Nat} (h:p.size<=i):p.toList.drop i=[]:=List.drop_eq_nil_of_le (by simpa using h)
theorem bf.finB (ha:aM n pa) (hb:aM n pb) (h:bf n lt pa pb po ia ib) (e:pb.size<=ib):GF n lt (pa.toList++pb.toList) (po++pa.extract ia pa.size++pb.extract ib pb.size):=by
 obtain ⟨en,m⟩:=h
 refine ⟨(en.app (ha.ext _ _)).app (hb.ext _ _),?_⟩
 rw [Array.toList_append,Array.toList_append,gi,gi]
 rw [oA e] at m ⊢
 rw [List.append_nil]
 exact m.endA
theorem bf.finA (ha:aM n pa) (hb:aM n pb) (h:bf n lt pa pb po ia ib) (e:pa.size<=ia):GF n lt (pa.toList++pb.toList) (po++pa.extract ia pa.size++pb.extract ib pb.size):=by
 obtain ⟨en,m⟩:=h
 refine ⟨(en.app (ha.ext _ _)).app (hb.ext _ _),?_⟩
 rw [Array.toList_append,Array.toList_append,gi,gi]
 rw [oA e] at m ⊢
 rw [List.append_nil]
 exact m.endB
theorem bf.finL (ha:aM n pa) (hb:aM n pb) (hl:∀ y∈pb.toList,lt (pa.getD (pa.size-1) 0) y=false) (h:bf n lt pa pb po ia ib) (e:ia+1=pa.size):GF n lt (pa.toList++pb.toList) (po++pb.extract ib pb.size++pa.extract ia pa.size):=by
 obtain ⟨en,m⟩:=h
 refine ⟨(en.app (hb.ext _ _)).app (ha.ext _ _),?_⟩
 rw [Array.toList_append,Array.toList_append,gi,gi,QI]
 refine m.endBA fun x hx y hy=>?_
 obtain ⟨j,h1,h2,rfl⟩:=jj hy
 rw [show j=pa.size-1 by omega]
 exact hl x (List.mem_of_mem_drop hx)
theorem gj (O:dA lt) (sa:b7 lt pa.toList) {x:Nat} (h:lt (pa.getD ia 0) x=false):∀ y∈pa.toList.drop ia,lt y x=false:=fun y hy=>by
 obtain ⟨j,h1,h2,rfl⟩:=jj hy
 by_cases e:j=ia
 ·subst e;exact h
 ·exact O.tr _ _ _ h (fB sa (by omega) h2)
end
section
variable {n:Nat} {lt:Nat->Nat->Bool} {α:Type} {x:Ev->SortSt}
theorem oB {c:Prop} {i0:Ev->Decidable c} {q:Ev->StateT SortSt Sem α} {R:(Ev->α)->(Ev->SortSt)->Prop} {X d:Array Nat->Nat->Ev->StateT SortSt Sem α} {c1:Nat->Prop} {i1:∀ v,Ev->Decidable (c1 v)}
  (po:Array Nat) (ia:Nat) (e:q=X po ia) (C J:Array Nat->Nat->Prop) (c0:¬c->C po ia) (h:∀ po ia,C po ia->ay n lt (X po ia) x R) (hd:∀ po ia,J po ia->c1 ia->ay n lt (d po ia) x R) (hx:∀ po ia,J po ia->¬c1 ia->C po ia) :
  ∀ po1 ia1,J po1 ia1->ay n lt (fun e=>@ite _ c (i0 e) (@ite _ (c1 ia1) (i1 ia1 e) (d po1 ia1 e) (X po1 ia1 e)) (q e)) x R :=
 fun po1 ia1 hj=>aQ (fun _=>aQ (fun z=>hd _ _ hj z) (fun z=>h _ _ (hx _ _ hj z))) (fun z=>e ▸ h _ _ (c0 z))
theorem oC {c:Prop} {i0:Ev->Decidable c} {q:Ev->StateT SortSt Sem α} {R:(Ev->α)->(Ev->SortSt)->Prop} {X d d2:Array Nat->Nat->Ev->StateT SortSt Sem α} {c1 c2:Nat->Prop} {i1:∀ v,Ev->Decidable (c1 v)} {i2:∀ v,Ev->Decidable (c2 v)}
  (po:Array Nat) (ia:Nat) (e:q=X po ia) (C J:Array Nat->Nat->Prop) (c0:¬c->C po ia) (h:∀ po ia,C po ia->ay n lt (X po ia) x R) (hd:∀ po ia,J po ia->c1 ia->ay n lt (d po ia) x R) (hd2:∀ po ia,J po ia->c2 ia->ay n lt (d2 po ia) x R) (hx:∀ po ia,J po ia->¬c1 ia->¬c2 ia->C po ia) :
  ∀ po1 ia1,J po1 ia1->ay n lt (fun e=>@ite _ c (i0 e) (@ite _ (c1 ia1) (i1 ia1 e) (d po1 ia1 e) (@ite _ (c2 ia1) (i2 ia1 e) (d2 po1 ia1 e) (X po1 ia1 e))) (q e)) x R :=
 fun po1 ia1 hj=>aQ (fun _=>aQ (fun z=>hd _ _ hj z) (fun z=>aQ (fun z2=>hd2 _ _ hj z2) (fun z2=>h _ _ (hx _ _ hj z z2)))) (fun z=>e ▸ h _ _ (c0 z))
end
end L2
namespace L2
open PySem PySem.Spec PyProof.Rows PySem.W
section
variable {n:Nat} {lt:Nat->Nat->Bool} {P pa pb:Array Nat} {pend:Array (Nat × Nat × Nat)} {g:Nat}
theorem wD {R:(Ev->Array Keyed)->(Ev->SortSt)->Prop} (O:dA lt) (h0:0<n) (ha:aM n pa) (hb:aM n pb) (ha0:0<pa.size) (hb0:0<pb.size) (sa:b7 lt pa.toList) (sb:b7 lt pb.toList)
  (hf:lt (pb.getD 0 0) (pa.getD 0 0)=true) (hl:∀ y∈pb.toList,lt (pa.getD (pa.size-1) 0) y=false) (h:∀ po g',GF n lt (pa.toList++pb.toList) po->R (fun e=>aK e po) (ak P pend g')) :
  ay n lt (fun e=>ww (aK e pa) (aK e pb)) (ak P pend g) R:=by
 have G0:bf n lt pa pb #[pb.getD 0 0] 0 1:=by
  have G:bf n lt pa pb #[] 0 0:=⟨fun x hx=>by simp at hx,by simp,List.Pairwise.nil,by simpa using sa,by simpa using sb,fun x hx=>by simp at hx⟩
  simpa using G.pushB h0 hb hb0 (gj O sa (O.as _ _ hf))
 refine am (gf ?_)
 refine am (bI (p:=pb) hb0 ?_)
 dsimp only
 try simp only [cB,cU,cV,cK,cW]
 refine cL (fun z=>au (h _ _ (G0.finB ha hb (by omega)))) (fun hb1=>cL (fun z=>au (h _ _ (G0.finL ha hb hl (by omega)))) (fun ha1=>dY ?_))
 dsimp only
 refine am (ay.mono (b6
  (fun i c y=>∃ po ia ib mg g',c=(fun e=>(none,aK e po,ia,ib,mg))/\y=ak P pend g'/\bf n lt pa pb po ia ib/\ia+1<pa.size/\ib<pb.size/\i+1<=ia+ib)
  (fun c y=>∃ po,∃ r:Ev->Array Keyed × Nat × Nat × Nat,∃ g',c=(fun e=>(some (aK e po),r e))/\y=ak P pend g'/\GF n lt (pa.toList++pb.toList) po) ?_ ?_ ⟨_,_,_,_,_,rfl,rfl,G0,by omega,by omega,by omega⟩) ?_)
 ·rintro t _ _ _ htt ⟨po,ia,ib,mg,g',rfl,rfl,hpo,hia,hib,hpr⟩
  dsimp only
  refine am (ay.mono (b6
   (fun i c y=>∃ po ia ib ac bc g',c=(fun e=>(none,aK e po,ia,ib,ac,bc))/\y=ak P pend g'/\bf n lt pa pb po ia ib/\ia+1<pa.size/\ib<pb.size/\i+t+1<=ia+ib)
   (fun c y=>(∃ po,∃ r:Ev->Array Keyed × Nat × Nat × Nat × Nat,∃ g',c=(fun e=>(some (aK e po),r e))/\y=ak P pend g'/\GF n lt (pa.toList++pb.toList) po)∨∃ po ia ib ac bc g',c=(fun e=>(none,aK e po,ia,ib,ac,bc))/\y=ak P pend g'/\bf n lt pa pb po ia ib/\ia+1<pa.size/\ib<pb.size/\t+2<=ia+ib) ?_ ?_ ⟨_,_,_,_,_,_,rfl,rfl,hpo,hia,hib,by omega⟩) ?_)
  ·rintro i _ _ _ _ ⟨po,ia,ib,ac,bc,g',rfl,rfl,hpo,hia,hib,hpr⟩
   dsimp only
   refine am (bI hib (am (bI (by omega) (am (ic (hb.at h0 _) (ha.at h0 _) ?_)))))
   dsimp only
   refine aQ (fun zl=>am (bI hib ?_)) (fun zl=>am (bI (by omega) ?_))
   ·have G:=hpo.pushB h0 hb hib (gj O sa (O.as _ _ zl))
    dsimp only
    try simp only [cB,cU,cV,cK,cW]
    exact cL (fun z=>au (.inl ⟨_,rfl,.inl ⟨_,_,_,rfl,rfl,G.finB ha hb (by omega)⟩⟩)) (fun _=>aQ (fun _=>au (.inl ⟨_,rfl,.inr ⟨_,_,_,_,_,_,rfl,rfl,G,by omega,by omega,by omega⟩⟩)) (fun _=>au (.inr ⟨_,rfl,⟨_,_,_,_,_,_,rfl,rfl,G,by omega,by omega,by omega⟩⟩)))
   ·have G:=hpo.pushA h0 ha (by omega) (gj O sb (by simpa using zl))
    dsimp only
    try simp only [cB,cU,cV,cK,cW]
    exact cL (fun z=>au (.inl ⟨_,rfl,.inl ⟨_,_,_,rfl,rfl,G.finL ha hb hl (by omega)⟩⟩)) (fun _=>aQ (fun _=>au (.inl ⟨_,rfl,.inr ⟨_,_,_,_,_,_,rfl,rfl,G,by omega,by omega,by omega⟩⟩)) (fun _=>au (.inr ⟨_,rfl,⟨_,_,_,_,_,_,rfl,rfl,G,by omega,by omega,by omega⟩⟩)))
  ·rintro _ _ ⟨po,ia,ib,ac,bc,g',rfl,rfl,hpo,hia,hib,hpr⟩
   exact .inr ⟨po,ia,ib,ac,bc,g',rfl,rfl,hpo,hia,hib,by omega⟩
  ·rintro _ _ (⟨po,r,g',rfl,rfl,hpo⟩ | ⟨po,ia,ib,ac,bc,g',rfl,rfl,hpo,hia,hib,hpr⟩)
   ·exact au (.inl ⟨_,rfl,_,_,_,rfl,rfl,hpo⟩)
   refine am (gf ?_)
   dsimp only
   refine am (ay.mono (b6
    (fun i c y=>∃ po ia ib mg ac bc g',c=(fun e=>(none,aK e po,ia,ib,mg,ac,bc))/\y=ak P pend g'/\bf n lt pa pb po ia ib/\ia+1<pa.size/\ib<pb.size/\t+2<=ia+ib)
    (fun c y=>(∃ po,∃ r:Ev->Array Keyed × Nat × Nat × Nat × Nat × Nat,∃ g',c=(fun e=>(some (aK e po),r e))/\y=ak P pend g'/\GF n lt (pa.toList++pb.toList) po)∨∃ po ia ib mg ac bc g',c=(fun e=>(none,aK e po,ia,ib,mg,ac,bc))/\y=ak P pend g'/\bf n lt pa pb po ia ib/\ia+1<pa.size/\ib<pb.size/\t+2<=ia+ib) ?_ (fun _ _ z=>.inr z) ⟨_,_,_,_,_,_,_,rfl,rfl,hpo,hia,hib,hpr⟩) ?_)
   ·rintro i _ _ _ _ ⟨po,ia,ib,mg,ac,bc,g',rfl,rfl,hpo,hia,hib,hpr⟩
    dsimp only
    dsimp +instances only
    generalize mg-1=m1
    revert m1
    refine ou mg rfl fun mg=>?_
    refine am (jg (am (bI hib (am (gh h0 (hb.at h0 _) ha (by omega) (by omega) ?_ fun k hk hA hB=>?_)))))
    ·intro i j hij hj
     simp only [aX,Bool.false_eq_true,if_false,Bool.not_eq_true']
     intro z
     by_cases e:i=j
     ·subst e;exact z
     ·exact O.tr _ _ _ (fB sa (by omega) (by omega)) z
    dsimp +instances only
    try simp only [cB,cU,cV,cK,cW]
    simp only [aX,Bool.false_eq_true,if_false,Bool.not_eq_true',Bool.not_eq_false'] at hA hB
    have hJ:bf n lt pa pb (po++pa.extract ia (ia+k)) (ia+k) ib/\ia<=ia+k/\ia+k<=pa.size/\(∀ y∈pa.toList.drop (ia+k),lt y (pb.getD ib 0)=false):=by
     refine ⟨hpo.extA ha (by omega) fun j hj=>gj O sb (hA j hj),by omega,by omega,fun y hy=>?_⟩
     obtain ⟨j,h1,h2,rfl⟩:=jj hy
     have:=hB (j-ia) (by omega) (by omega)
     rw [show ia+(j-ia)=j by omega] at this
     exact O.as _ _ this
    have hK:¬k>0->bf n lt pa pb po ia ib/\ia+1<pa.size/\t+2<=ia+ib/\(∀ y∈pa.toList.drop ia,lt y (pb.getD ib 0)=false):=fun z=>by
     have e:ia+k=ia:=by omega
     exact ⟨hpo,hia,hpr,by have:=hJ.2.2.2;rwa [e] at this⟩
    clear hA hB
    generalize po++pa.extract ia (ia+k)=po1 at hJ ⊢
    generalize ia+k=ia1 at hJ ⊢
    revert hJ
    revert ia1
    revert po1
    refine oC po ia rfl (fun po ia=>bf n lt pa pb po ia ib/\ia+1<pa.size/\t+2<=ia+ib/\(∀ y∈pa.toList.drop ia,lt y (pb.getD ib 0)=false)) (fun po1 ia1=>bf n lt pa pb po1 ia1 ib/\ia<=ia1/\ia1<=pa.size/\(∀ y∈pa.toList.drop ia1,lt y (pb.getD ib 0)=false)) hK ?_
     (fun po ia hj z=>au (.inl ⟨_,rfl,.inl ⟨_,_,_,rfl,rfl,hj.1.finL ha hb hl (by simpa using z)⟩⟩)) (fun po ia hj z=>au (.inl ⟨_,rfl,.inl ⟨_,_,_,rfl,rfl,hj.1.finA ha hb (by simp only [beq_iff_eq] at z;omega)⟩⟩)) (fun po ia hj z1 z2=>by simp only [beq_iff_eq] at z1 z2;exact ⟨hj.1,by omega,by omega,hj.2.2.2⟩)
    rintro po ia ⟨hpo,hia,hpr,hq⟩
    refine am (bI hib ?_)
    have G:=hpo.pushB h0 hb hib hq
    dsimp +instances only
    try simp only [cB,cU,cV,cK,cW]
    refine cL (fun z=>au (.inl ⟨_,rfl,.inl ⟨_,_,_,rfl,rfl,G.finB ha hb (by omega)⟩⟩)) fun hnb=>am (bI (by omega) (am (gh h0 (ha.at h0 _) hb (by omega) (by omega) ?_ fun k' hk' hA hB=>?_)))
    ·intro i j hij hj
     simp only [aX,if_true]
     intro z
     by_cases e:i=j
     ·subst e;exact z
     ·have h1:=fB sb (i:=ib+1+i) (j:=ib+1+j) (by omega) (by omega)
      cases e2:lt (pb.getD (ib+1+i) 0) (pa.getD ia 0) with
      | true=>rfl
      | false=>rw [O.tr _ _ _ e2 h1] at z;cases z
    dsimp +instances only
    try simp only [cB,cU,cV,cK,cW]
    simp only [aX,if_true] at hA hB
    have hb2:ib+1<pb.size/\t+3<=ia+(ib+1):=⟨by omega,by omega⟩
    generalize po.push (pb.getD ib 0)=po at G ⊢
    clear hq hpo
    generalize ib+1=ib at hb2 hk' hA hB G ⊢
    have hJ:bf n lt pa pb (po++pb.extract ib (ib+k')) ia (ib+k')/\ib<=ib+k'/\ib+k'<=pb.size/\(∀ y∈pb.toList.drop (ib+k'),lt y (pa.getD ia 0)=false):=by
     refine ⟨G.extB hb (by omega) fun j hj=>gj O sa (O.as _ _ (hA j hj)),by omega,by omega,fun y hy=>?_⟩
     obtain ⟨j,h1,h2,rfl⟩:=jj hy
     have:=hB (j-ib) (by omega) (by omega)
     rwa [show ib+(j-ib)=j by omega] at this
    have hK:¬k'>0->bf n lt pa pb po ia ib/\ib<pb.size/\t+2<=ia+ib/\(∀ y∈pb.toList.drop ib,lt y (pa.getD ia 0)=false):=fun z=>by
     have e:ib+k'=ib:=by omega
     exact ⟨G,hb2.1,by omega,by have:=hJ.2.2.2;rwa [e] at this⟩
    clear hA hB
    generalize po++pb.extract ib (ib+k')=po1 at hJ ⊢
    generalize ib+k'=ib1 at hJ ⊢
    revert hJ
    revert ib1
    revert po1
    refine oB po ib rfl (fun po ib=>bf n lt pa pb po ia ib/\ib<pb.size/\t+2<=ia+ib/\(∀ y∈pb.toList.drop ib,lt y (pa.getD ia 0)=false)) (fun po1 ib1=>bf n lt pa pb po1 ia ib1/\ib<=ib1/\ib1<=pb.size/\(∀ y∈pb.toList.drop ib1,lt y (pa.getD ia 0)=false)) hK ?_
     (fun po ib hj z=>au (.inl ⟨_,rfl,.inl ⟨_,_,_,rfl,rfl,hj.1.finB ha hb (by simp only [beq_iff_eq] at z;omega)⟩⟩)) (fun po ib hj z1=>by simp only [beq_iff_eq] at z1;exact ⟨hj.1,by omega,by omega,hj.2.2.2⟩)
    rintro po ib ⟨hpo,hib,hpr,hq⟩
    refine am (bI (by omega) ?_)
    have G:=hpo.pushA h0 ha (by omega) hq
    dsimp +instances only
    try simp only [cB,cU,cV,cK,cW]
    exact cL (fun z=>au (.inl ⟨_,rfl,.inl ⟨_,_,_,rfl,rfl,G.finL ha hb hl (by omega)⟩⟩)) fun _=>aQ (fun _=>au (.inl ⟨_,rfl,.inr ⟨_,_,_,_,_,_,_,rfl,rfl,G,by omega,by omega,by omega⟩⟩)) (fun _=>au (.inr ⟨_,rfl,⟨_,_,_,_,_,_,_,rfl,rfl,G,by omega,by omega,by omega⟩⟩))
   ·rintro _ _ (⟨po,r,g',rfl,rfl,hpo⟩ | ⟨po,ia,ib,mg,ac,bc,g',rfl,rfl,hpo,hia,hib,hpr⟩)
    ·exact au (.inl ⟨_,rfl,_,_,_,rfl,rfl,hpo⟩)
    dsimp only
    exact am (jg (au (.inr ⟨_,rfl,_,_,_,_,_,rfl,rfl,hpo,hia,hib,by omega⟩)))
 ·rintro _ _ ⟨po,ia,ib,mg,g',rfl,rfl,hpo,hia,hib,hpr⟩
  exfalso
  omega
 ·rintro _ _ ⟨po,r,g',rfl,rfl,hpo⟩
  exact au (h _ _ hpo)
end
end L2
namespace L2
open PySem PySem.Spec PyProof.Rows PySem.W
noncomputable def ii (lt:Nat->Nat->Bool):Nat->Nat->Bool:=fun a b=>lt b a
section
variable {lt:Nat->Nat->Bool} {A o a b t:List Nat}
theorem MM.endAB (h:MM lt A o a b) (hb:∀ x∈a,∀ y∈b,lt y x=false):MF lt A (o++(a++b)):=by
 obtain ⟨p,s1,s2,s3,l⟩:=h
 exact ⟨p,dZ.mpr ⟨s1,dZ.mpr ⟨s2,s3,hb⟩,l⟩⟩
theorem oE {l:List Nat} (h:b7 lt l):b7 (ii lt) l.reverse:=List.pairwise_reverse.mpr h
theorem MF.rev (h:MF (ii lt) A o):MF lt A o.reverse:=⟨(List.reverse_perm o).trans h.pm,List.pairwise_reverse.mpr h.so⟩
end
theorem oF {p:Array Nat} {i:Nat} (h0:0<i) (h:i<=p.size):(p.toList.take i).reverse=p.getD (i-1) 0::(p.toList.take (i-1)).reverse:=by
 obtain ⟨j,rfl⟩:∃ j,i=j+1:=⟨i-1,by omega⟩
 have hj:j<p.size:=by omega
 have e1:p.getD j 0=p[j]:=by simp [Array.getD,hj]
 rw [show j+1-1=j by omega,e1,Qp (by simpa using hj),List.reverse_append]
 simp
theorem oG {p:Array Nat} {i j:Nat} (h:i<=j) (hj:j<=p.size):(p.toList.take j).reverse=((p.extract i j).reverse).toList++(p.toList.take i).reverse:=by
 rw [Array.toList_reverse,Array.toList_extract,<- List.reverse_append]
 simp only [List.extract]
 congr 1
 obtain ⟨k,rfl⟩:∃ k,j=i+k:=⟨j-i,by omega⟩
 rw [show i+k-i=k by omega,List.take_add]
theorem gk {p:Array Nat} {i:Nat}:(p.extract 0 i).toList=p.toList.take i:=by
 rw [Array.toList_extract]
 simp [List.extract]
theorem ij {p:Array Nat} {i y:Nat} (h:y∈(p.toList.take i).reverse):∃ j,j<i/\j<p.size/\y=p.getD j 0:=by
 obtain ⟨j,hj,e⟩:=List.mem_iff_getElem.mp (List.mem_reverse.mp h)
 rw [Qr,Qx] at hj
 refine ⟨j,by omega,by omega,?_⟩
 rw [List.getElem_take] at e
 rw [<- e]
 simp [Array.getD,show j<p.size by omega]
theorem oH {p:Array Nat} {i j y:Nat} (h:y∈((p.extract i j).reverse).toList):∃ k,i<=k/\k<j/\k<p.size/\y=p.getD k 0:=by
 rw [Array.toList_reverse] at h
 obtain ⟨k,hk,e⟩:=List.mem_iff_getElem.mp (List.mem_reverse.mp h)
 simp at hk
 refine ⟨i+k,by omega,by omega,by omega,?_⟩
 rw [<- e]
 simp [Array.getD,show i+k<p.size by omega]
structure bg (n:Nat) (lt:Nat->Nat->Bool) (pa pb po:Array Nat) (na nb:Nat):Prop where
 en:aM n po
 mm:MM (ii lt) (pa.toList++pb.toList) po.toList (pa.toList.take na).reverse (pb.toList.take nb).reverse
section
variable {n:Nat} {lt:Nat->Nat->Bool} {pa pb po:Array Nat} {na nb k:Nat}
theorem bg.pushB (h0:0<n) (hb:aM n pb) (h:bg n lt pa pb po na nb) (hi:0<nb) (hj:nb<=pb.size) (q:∀ y∈(pa.toList.take na).reverse,lt (pb.getD (nb-1) 0) y=false):bg n lt pa pb (po.push (pb.getD (nb-1) 0)) na (nb-1):=by
 obtain ⟨e,m⟩:=h
 rw [oF hi hj] at m
 refine ⟨e.push (hb.at h0 _),?_⟩
 rw [Array.toList_push]
 exact MM.takeB (t:=[pb.getD (nb-1) 0]) m fun x hx y hy=>by rw [List.mem_singleton.mp hx];exact q y hy
theorem bg.pushA (h0:0<n) (ha:aM n pa) (h:bg n lt pa pb po na nb) (hi:0<na) (hj:na<=pa.size) (q:∀ y∈(pb.toList.take nb).reverse,lt (pa.getD (na-1) 0) y=false):bg n lt pa pb (po.push (pa.getD (na-1) 0)) (na-1) nb:=by
 obtain ⟨e,m⟩:=h
 rw [oF hi hj] at m
 refine ⟨e.push (ha.at h0 _),?_⟩
 rw [Array.toList_push]
 exact MM.takeA (t:=[pa.getD (na-1) 0]) m fun x hx y hy=>by rw [List.mem_singleton.mp hx];exact q y hy
theorem bg.extB (hb:aM n pb) (h:bg n lt pa pb po na nb) (hi:k<=nb) (hj:nb<=pb.size) (q:∀ j,k<=j->j<nb->∀ y∈(pa.toList.take na).reverse,lt (pb.getD j 0) y=false):bg n lt pa pb (po++(pb.extract k nb).reverse) na k:=by
 obtain ⟨e,m⟩:=h
 rw [oG hi hj] at m
 refine ⟨e.app (hb.ext _ _).reverse,?_⟩
 rw [Array.toList_append]
 refine MM.takeB m fun x hx y hy=>?_
 obtain ⟨j,h1,h2,_,rfl⟩:=oH hx
 exact q j h1 h2 y hy
theorem bg.extA (ha:aM n pa) (h:bg n lt pa pb po na nb) (hi:k<=na) (hj:na<=pa.size) (q:∀ j,k<=j->j<na->∀ y∈(pb.toList.take nb).reverse,lt (pa.getD j 0) y=false):bg n lt pa pb (po++(pa.extract k na).reverse) k nb:=by
 obtain ⟨e,m⟩:=h
 rw [oG hi hj] at m
 refine ⟨e.app (ha.ext _ _).reverse,?_⟩
 rw [Array.toList_append]
 refine MM.takeA m fun x hx y hy=>?_
 obtain ⟨j,h1,h2,_,rfl⟩:=oH hx
 exact q j h1 h2 y hy
theorem bg.finA (ha:aM n pa) (hb:aM n pb) (h:bg n lt pa pb po na nb) (e:na=0):GF n lt (pa.toList++pb.toList) (pa.extract 0 na++pb.extract 0 nb++po.reverse):=by
 subst e
 obtain ⟨en,m⟩:=h
 refine ⟨((ha.ext _ _).app (hb.ext _ _)).app en.reverse,?_⟩
 rw [Array.toList_append,Array.toList_append,gk,gk,Array.toList_reverse]
 have m':MM (ii lt) (pa.toList++pb.toList) po.toList [] (pb.toList.take nb).reverse:=by simpa using m
 have q:=m'.endB.rev
 rw [List.reverse_append,List.reverse_reverse] at q
 simpa using q
theorem bg.finB (ha:aM n pa) (hb:aM n pb) (h:bg n lt pa pb po na nb) (e:nb=0):GF n lt (pa.toList++pb.toList) (pa.extract 0 na++pb.extract 0 nb++po.reverse):=by
 subst e
 obtain ⟨en,m⟩:=h
 refine ⟨((ha.ext _ _).app (hb.ext _ _)).app en.reverse,?_⟩
 rw [Array.toList_append,Array.toList_append,gk,gk,Array.toList_reverse]
 have m':MM (ii lt) (pa.toList++pb.toList) po.toList (pa.toList.take na).reverse []:=by simpa using m
 have q:=m'.endA.rev
 rw [List.reverse_append,List.reverse_reverse] at q
 simpa using q
theorem bg.finL (ha:aM n pa) (hb:aM n pb) (hl:∀ y∈pa.toList,lt y (pb.getD 0 0)=false) (h:bg n lt pa pb po na nb) (e:nb=1):GF n lt (pa.toList++pb.toList) (pb.extract 0 nb++pa.extract 0 na++po.reverse):=by
 subst e
 obtain ⟨en,m⟩:=h
 refine ⟨((hb.ext _ _).app (ha.ext _ _)).app en.reverse,?_⟩
 rw [Array.toList_append,Array.toList_append,gk,gk,Array.toList_reverse]
 have:=(m.endAB fun x hx y hy=>by
  obtain ⟨j,h1,h2,rfl⟩:=ij hy
  rw [show j=0 by omega]
  exact hl x (List.mem_of_mem_take (List.mem_reverse.mp hx))).rev
 simpa using this
theorem jk (O:dA lt) (sa:b7 lt pa.toList) {x:Nat} (hn:na<=pa.size) (h:lt x (pa.getD (na-1) 0)=false):∀ y∈(pa.toList.take na).reverse,lt x y=false:=fun y hy=>by
 obtain ⟨j,h1,h2,rfl⟩:=ij hy
 by_cases e:j=na-1
 ·subst e;exact h
 ·exact O.tr _ _ _ (fB sa (i:=j) (j:=na-1) (by omega) (by omega)) h
end
section
variable {n:Nat} {lt:Nat->Nat->Bool} {P pa pb:Array Nat} {pend:Array (Nat × Nat × Nat)} {g:Nat}
theorem wE {R:(Ev->Array Keyed)->(Ev->SortSt)->Prop} (O:dA lt) (h0:0<n) (ha:aM n pa) (hb:aM n pb) (ha0:0<pa.size) (hb0:0<pb.size) (sa:b7 lt pa.toList) (sb:b7 lt pb.toList)
  (hf:lt (pb.getD 0 0) (pa.getD 0 0)=true) (hl:∀ y∈pb.toList,lt (pa.getD (pa.size-1) 0) y=false) (h:∀ po g',GF n lt (pa.toList++pb.toList) po->R (fun e=>aK e po) (ak P pend g')) :
  ay n lt (fun e=>wx (aK e pa) (aK e pb)) (ak P pend g) R:=by
 have hl0:∀ y∈pa.toList,lt y (pb.getD 0 0)=false:=by simpa using gj O sa (ia:=0) (O.as _ _ hf)
 have G0:bg n lt pa pb #[pa.getD (pa.size-1) 0] (pa.size-1) pb.size:=by
  have G:bg n lt pa pb #[] pa.size pb.size:=by
   refine ⟨fun x hx=>by simp at hx,?_,List.Pairwise.nil,?_,?_,fun x hx=>by simp at hx⟩
   ·rw [Qu (by simp),Qu (by simp)]
    simp only [List.nil_append]
    exact (List.reverse_perm _).append (List.reverse_perm _)
   ·rw [Qu (by simp)];exact oE sa
   ·rw [Qu (by simp)];exact oE sb
  simpa using G.pushA h0 ha ha0 (Qh _) fun y hy=>by
   obtain ⟨j,h1,h2,rfl⟩:=ij hy
   exact hl _ (by simp [Array.getD,h2])
 refine am (gf ?_)
 dsimp only
 simp only [cB]
 refine am (bI (p:=pa) (by omega) ?_)
 dsimp only
 try simp only [cB,cU,cV,cK,cW,fA]
 refine cL (fun z=>au (h _ _ (G0.finA ha hb (by omega)))) (fun ha1=>cL (fun z=>au (h _ _ (G0.finL ha hb hl0 (by omega)))) (fun hb1=>dY ?_))
 dsimp only
 refine am (ay.mono (b6
  (fun i c y=>∃ na nb po mg g',c=(fun e=>(none,na,nb,aK e po,mg))/\y=ak P pend g'/\bg n lt pa pb po na nb/\0<na/\na<=pa.size/\1<nb/\nb<=pb.size/\na+nb+i+1<=pa.size+pb.size)
  (fun c y=>∃ po,∃ r:Ev->Nat × Nat × Array Keyed × Nat,∃ g',c=(fun e=>(some (aK e po),r e))/\y=ak P pend g'/\GF n lt (pa.toList++pb.toList) po) ?_ ?_ ⟨_,_,_,_,_,rfl,rfl,G0,by omega,by omega,by omega,by omega,by omega⟩) ?_)
 ·rintro t _ _ _ htt ⟨na,nb,po,mg,g',rfl,rfl,hpo,hna,hnA,hnb,hnB,hpr⟩
  dsimp only
  refine am (ay.mono (b6
   (fun i c y=>∃ na nb po ac bc g',c=(fun e=>(none,na,nb,aK e po,ac,bc))/\y=ak P pend g'/\bg n lt pa pb po na nb/\0<na/\na<=pa.size/\1<nb/\nb<=pb.size/\na+nb+t+i+1<=pa.size+pb.size)
   (fun c y=>(∃ po,∃ r:Ev->Nat × Nat × Array Keyed × Nat × Nat,∃ g',c=(fun e=>(some (aK e po),r e))/\y=ak P pend g'/\GF n lt (pa.toList++pb.toList) po)∨∃ na nb po ac bc g',c=(fun e=>(none,na,nb,aK e po,ac,bc))/\y=ak P pend g'/\bg n lt pa pb po na nb/\0<na/\na<=pa.size/\1<nb/\nb<=pb.size/\na+nb+t+2<=pa.size+pb.size) ?_ ?_ ⟨_,_,_,_,_,_,rfl,rfl,hpo,hna,hnA,hnb,hnB,by omega⟩) ?_)
  ·rintro i _ _ _ _ ⟨na,nb,po,ac,bc,g',rfl,rfl,hpo,hna,hnA,hnb,hnB,hpr⟩
   dsimp only
   refine am (bI (by omega) (am (bI (by omega) (am (ic (hb.at h0 _) (ha.at h0 _) ?_)))))
   dsimp only
   refine aQ (fun zl=>am (bI (by omega) ?_)) (fun zl=>am (bI (by omega) ?_))
   ·have G:=hpo.pushA h0 ha hna hnA (jk O sb hnB (O.as _ _ zl))
    dsimp only
    try simp only [cB,cU,cV,cK,cW,fA]
    exact cL (fun z=>au (.inl ⟨_,rfl,.inl ⟨_,_,_,rfl,rfl,G.finA ha hb (by omega)⟩⟩)) (fun _=>aQ (fun _=>au (.inl ⟨_,rfl,.inr ⟨_,_,_,_,_,_,rfl,rfl,G,by omega,by omega,by omega,by omega,by omega⟩⟩)) (fun _=>au (.inr ⟨_,rfl,⟨_,_,_,_,_,_,rfl,rfl,G,by omega,by omega,by omega,by omega,by omega⟩⟩)))
   ·have G:=hpo.pushB h0 hb (by omega) hnB (jk O sa hnA (by simpa using zl))
    dsimp only
    try simp only [cB,cU,cV,cK,cW,fA]
    exact cL (fun z=>au (.inl ⟨_,rfl,.inl ⟨_,_,_,rfl,rfl,G.finL ha hb hl0 (by omega)⟩⟩)) (fun _=>aQ (fun _=>au (.inl ⟨_,rfl,.inr ⟨_,_,_,_,_,_,rfl,rfl,G,by omega,by omega,by omega,by omega,by omega⟩⟩)) (fun _=>au (.inr ⟨_,rfl,⟨_,_,_,_,_,_,rfl,rfl,G,by omega,by omega,by omega,by omega,by omega⟩⟩)))
  ·rintro _ _ ⟨na,nb,po,ac,bc,g',rfl,rfl,hpo,hna,hnA,hnb,hnB,hpr⟩
   exact .inr ⟨na,nb,po,ac,bc,g',rfl,rfl,hpo,hna,hnA,hnb,hnB,by omega⟩
  ·rintro _ _ (⟨po,r,g',rfl,rfl,hpo⟩ | ⟨na,nb,po,ac,bc,g',rfl,rfl,hpo,hna,hnA,hnb,hnB,hpr⟩)
   ·exact au (.inl ⟨_,rfl,_,_,_,rfl,rfl,hpo⟩)
   refine am (gf ?_)
   dsimp only
   refine am (ay.mono (b6
    (fun i c y=>∃ na nb po mg ac bc g',c=(fun e=>(none,na,nb,aK e po,mg,ac,bc))/\y=ak P pend g'/\bg n lt pa pb po na nb/\0<na/\na<=pa.size/\1<nb/\nb<=pb.size/\na+nb+t+2<=pa.size+pb.size)
    (fun c y=>(∃ po,∃ r:Ev->Nat × Nat × Array Keyed × Nat × Nat × Nat,∃ g',c=(fun e=>(some (aK e po),r e))/\y=ak P pend g'/\GF n lt (pa.toList++pb.toList) po)∨∃ na nb po mg ac bc g',c=(fun e=>(none,na,nb,aK e po,mg,ac,bc))/\y=ak P pend g'/\bg n lt pa pb po na nb/\0<na/\na<=pa.size/\1<nb/\nb<=pb.size/\na+nb+t+2<=pa.size+pb.size) ?_ (fun _ _ z=>.inr z) ⟨_,_,_,_,_,_,_,rfl,rfl,hpo,hna,hnA,hnb,hnB,hpr⟩) ?_)
   ·rintro i _ _ _ _ ⟨na,nb,po,mg,ac,bc,g',rfl,rfl,hpo,hna,hnA,hnb,hnB,hpr⟩
    dsimp only
    dsimp +instances only
    generalize mg-1=m1
    revert m1
    refine ou mg rfl fun mg=>?_
    refine am (jg (am (bI (by omega) (am (gh h0 (hb.at h0 _) ha (by omega) (by omega) ?_ fun at1 hk hA hB=>?_)))))
    ·intro i j hij hj
     simp only [aX,Bool.false_eq_true,if_false,Bool.not_eq_true',Nat.zero_add]
     intro z
     by_cases e:i=j
     ·subst e;exact z
     ·exact O.tr _ _ _ (fB sa (by omega) (by omega)) z
    dsimp +instances only
    try simp only [cB,cU,cV,cK,cW,fA]
    simp only [aX,Bool.false_eq_true,if_false,Bool.not_eq_true',Bool.not_eq_false',Nat.zero_add] at hA hB
    generalize hkk:na-at1=k
    have hJ:bg n lt pa pb (po++(pa.extract at1 na).reverse) at1 nb/\at1<=na/\na-at1=k/\(∀ y∈(pa.toList.take at1).reverse,lt (pb.getD (nb-1) 0) y=false):=by
     refine ⟨hpo.extA ha hk hnA fun j h1 h2=>jk O sb hnB (O.as _ _ (hB j h1 h2)),hk,hkk,fun y hy=>?_⟩
     obtain ⟨j,h1,h2,rfl⟩:=ij hy
     exact hA j h1
    have hK:¬k>0->bg n lt pa pb po na nb/\0<na/\na<=pa.size/\na+nb+t+2<=pa.size+pb.size/\(∀ y∈(pa.toList.take na).reverse,lt (pb.getD (nb-1) 0) y=false):=fun z=>by
     have e:at1=na:=by omega
     exact ⟨hpo,hna,hnA,hpr,by have:=hJ.2.2.2;rwa [e] at this⟩
    clear hA hB hk hkk
    generalize po++(pa.extract at1 na).reverse=po1 at hJ ⊢
    revert hJ
    revert at1
    revert po1
    refine oB po na rfl (fun po na=>bg n lt pa pb po na nb/\0<na/\na<=pa.size/\na+nb+t+2<=pa.size+pb.size/\(∀ y∈(pa.toList.take na).reverse,lt (pb.getD (nb-1) 0) y=false)) (fun po1 at1=>bg n lt pa pb po1 at1 nb/\at1<=na/\na-at1=k/\(∀ y∈(pa.toList.take at1).reverse,lt (pb.getD (nb-1) 0) y=false)) hK ?_
     (fun po na hj z=>au (.inl ⟨_,rfl,.inl ⟨_,_,_,rfl,rfl,hj.1.finA ha hb (by simpa using z)⟩⟩)) (fun po na hj z1=>by simp only [beq_iff_eq] at z1;exact ⟨hj.1,by omega,by omega,by omega,hj.2.2.2⟩)
    rintro po na ⟨hpo,hna,hnA,hpr,hq⟩
    refine am (bI (by omega) ?_)
    have G:=hpo.pushB h0 hb (by omega) hnB hq
    dsimp +instances only
    try simp only [cB,cU,cV,cK,cW,fA]
    refine cL (fun z=>au (.inl ⟨_,rfl,.inl ⟨_,_,_,rfl,rfl,G.finL ha hb hl0 (by omega)⟩⟩)) fun hnb1=>am (bI (by omega) (am (gh h0 (ha.at h0 _) hb (by omega) (by omega) ?_ fun at2 hk' hA hB=>?_)))
    ·intro i j hij hj
     simp only [aX,if_true,Nat.zero_add]
     intro z
     by_cases e:i=j
     ·subst e;exact z
     ·have h1:=fB sb (i:=i) (j:=j) (by omega) (by omega)
      cases e2:lt (pb.getD i 0) (pa.getD (na-1) 0) with
      | true=>rfl
      | false=>rw [O.tr _ _ _ e2 h1] at z;cases z
    dsimp +instances only
    try simp only [cB,cU,cV,cK,cW,fA]
    simp only [aX,if_true,Nat.zero_add] at hA hB
    generalize po.push (pb.getD (nb-1) 0)=po at G ⊢
    clear hq hpo
    have hb2:1<nb-1/\nb-1<=pb.size/\na+(nb-1)+t+2<=pa.size+pb.size:=⟨by omega,by omega,by omega⟩
    generalize nb-1=nb at hb2 hk' hA hB G ⊢
    generalize hkk:nb-at2=k2
    have hJ:bg n lt pa pb (po++(pb.extract at2 nb).reverse) na at2/\at2<=nb/\nb-at2=k2/\(∀ y∈(pb.toList.take at2).reverse,lt (pa.getD (na-1) 0) y=false):=by
     refine ⟨G.extB hb hk' hb2.2.1 fun j h1 h2=>jk O sa hnA (hB j h1 h2),hk',hkk,fun y hy=>?_⟩
     obtain ⟨j,h1,h2,rfl⟩:=ij hy
     exact O.as _ _ (hA j h1)
    have hK:¬k2>0->bg n lt pa pb po na nb/\1<nb/\nb<=pb.size/\na+nb+t+2<=pa.size+pb.size/\(∀ y∈(pb.toList.take nb).reverse,lt (pa.getD (na-1) 0) y=false):=fun z=>by
     have e:at2=nb:=by omega
     exact ⟨G,hb2.1,hb2.2.1,hb2.2.2,by have:=hJ.2.2.2;rwa [e] at this⟩
    clear hA hB hk' hkk
    generalize po++(pb.extract at2 nb).reverse=po1 at hJ ⊢
    revert hJ
    revert at2
    revert po1
    refine oC po nb rfl (fun po nb=>bg n lt pa pb po na nb/\1<nb/\nb<=pb.size/\na+nb+t+2<=pa.size+pb.size/\(∀ y∈(pb.toList.take nb).reverse,lt (pa.getD (na-1) 0) y=false)) (fun po1 at2=>bg n lt pa pb po1 na at2/\at2<=nb/\nb-at2=k2/\(∀ y∈(pb.toList.take at2).reverse,lt (pa.getD (na-1) 0) y=false)) hK ?_
     (fun po nb hj z=>au (.inl ⟨_,rfl,.inl ⟨_,_,_,rfl,rfl,hj.1.finL ha hb hl0 (by simpa using z)⟩⟩)) (fun po nb hj z=>au (.inl ⟨_,rfl,.inl ⟨_,_,_,rfl,rfl,hj.1.finB ha hb (by simpa using z)⟩⟩)) (fun po nb hj z1 z2=>by simp only [beq_iff_eq] at z1 z2;exact ⟨hj.1,by omega,by omega,by omega,hj.2.2.2⟩)
    rintro po nb ⟨hpo,hnb,hnB,hpr,hq⟩
    refine am (bI (by omega) ?_)
    have G:=hpo.pushA h0 ha hna hnA hq
    dsimp +instances only
    try simp only [cB,cU,cV,cK,cW,fA]
    exact cL (fun z=>au (.inl ⟨_,rfl,.inl ⟨_,_,_,rfl,rfl,G.finA ha hb (by omega)⟩⟩)) fun _=>aQ (fun _=>au (.inl ⟨_,rfl,.inr ⟨_,_,_,_,_,_,_,rfl,rfl,G,by omega,by omega,by omega,by omega,by omega⟩⟩)) (fun _=>au (.inr ⟨_,rfl,⟨_,_,_,_,_,_,_,rfl,rfl,G,by omega,by omega,by omega,by omega,by omega⟩⟩))
   ·rintro _ _ (⟨po,r,g',rfl,rfl,hpo⟩ | ⟨na,nb,po,mg,ac,bc,g',rfl,rfl,hpo,hna,hnA,hnb,hnB,hpr⟩)
    ·exact au (.inl ⟨_,rfl,_,_,_,rfl,rfl,hpo⟩)
    dsimp only
    exact am (jg (au (.inr ⟨_,rfl,_,_,_,_,_,rfl,rfl,hpo,hna,hnA,hnb,hnB,by omega⟩)))
 ·rintro _ _ ⟨na,nb,po,mg,g',rfl,rfl,hpo,hna,hnA,hnb,hnB,hpr⟩
  exfalso
  omega
 ·rintro _ _ ⟨po,r,g',rfl,rfl,hpo⟩
  exact au (h _ _ hpo)
end
end L2
namespace L2
open PySem PySem.Spec PyProof.Rows PySem.W
noncomputable def Sg (lt:Nat->Nat->Bool) (p:Array Nat) (i j:Nat):Prop:=∀ a b,i<=a->a<b->b<j->lt (p.getD b 0) (p.getD a 0)=false
noncomputable def Dg (lt:Nat->Nat->Bool) (p:Array Nat) (i j:Nat):Prop:=∀ a b,i<=a->a<b->b<j->lt (p.getD a 0) (p.getD b 0)=false
structure Kp (p p':Array Nat) (lo hi:Nat):Prop where
 sz:p'.size=p.size
 pm:p'.Perm p
 out:∀ k,k<lo∨hi<=k->p'.getD k 0=p.getD k 0
theorem getD_at {p q:Array Nat} {i j:Nat} (h:p[i]?=q[j]?):p.getD i 0=q.getD j 0:=by
 rw [Array.getD_eq_getD_getElem?,Array.getD_eq_getD_getElem?,h]
theorem dN {p:Array Nat} {i j:Nat} (hj:j<=p.size) (k:Nat):(kas_rev p i j).getD k 0=if i<=k/\k<j then p.getD (i+j-1-k) 0 else p.getD k 0:=by
 have e:=getElem?_mirror_all (xs:=p) (i:=i) hj k
 unfold kas_rev
 split at e<;>rename_i h
 ·rw [if_pos h];exact getD_at e
 ·rw [if_neg h];exact getD_at e
theorem kT {p:Array Nat} {s l:Nat} (hs:s<p.size) (hl:l<=s) (k:Nat):(bubble p s (s-l)).getD k 0=if k=l then p.getD s 0 else if l<k/\k<=s then p.getD (k-1) 0 else p.getD k 0:=by
 have e:=getElem?_bubble hs (s-l) (by (exact Nat.sub_le _ _)) k
 rw [show s-(s-l)=l by (clear hs;omega)] at e
 split at e<;>rename_i h
 ·rw [if_pos h];exact getD_at e
 ·rw [if_neg h]
  split at e<;>rename_i h2
  ·rw [if_pos h2];exact getD_at e
  ·rw [if_neg h2];exact getD_at e
section
variable {n:Nat} {lt:Nat->Nat->Bool} {p p' p'':Array Nat} {lo hi i j k:Nat}
theorem Kp.refl:Kp p p lo hi:=⟨rfl,Array.Perm.refl _,fun _ _=>rfl⟩
theorem Kp.trans (h:Kp p p' lo hi) (h':Kp p' p'' lo hi):Kp p p'' lo hi:=⟨h'.sz.trans h.sz,h'.pm.trans h.pm,fun k hk=>(h'.out k hk).trans (h.out k hk)⟩
theorem Kp.ent (h:Kp p p' lo hi) (e:aM n p):aM n p':=fun x hx=>e x ((Array.perm_iff_toList_perm.mp h.pm).mem_iff.mp hx)
theorem Kp.rev (h1:lo<=i) (h2:j<=hi) (hj:j<=p.size):Kp p (kas_rev p i j) lo hi:=⟨wz _ _ _,mirror_perm _ _ _ _,fun k hk=>by rw [dN hj,if_neg (by (clear hj;omega))]⟩
theorem Kp.bub (h1:lo<=i) (h2:j<hi) (hij:i<=j) (hj:j<p.size):Kp p (bubble p j (j-i)) lo hi:=⟨bubble_size _ _ _,bubble_perm _ _ _,fun k hk=>by rw [kT hj hij,if_neg (by omega),if_neg (by (clear hj hij;omega))]⟩
theorem Sg.out (h:Sg lt p i j) (q:Kp p p' lo hi) (d:j<=lo∨hi<=i):Sg lt p' i j:=fun a b h1 h2 h3=>by
 rw [q.out a (by omega),q.out b (by omega)];exact h a b h1 h2 h3
theorem Sg.snoc (O:dA lt) (h:Sg lt p i j) (e:i<j->lt (p.getD j 0) (p.getD (j-1) 0)=false):Sg lt p i (j+1):=fun a b h1 h2 h3=>by
 by_cases hb:b<j
 ·exact h a b h1 h2 hb
 ·obtain rfl:b=j:=by (clear h2 h1 e;omega)
  by_cases ha:a=b-1
  ·subst ha;exact e (by (exact QH (by assumption) (by assumption)))
  ·exact O.tr _ _ _ (h a (b-1) h1 (by (clear hb h3 e h1;omega)) (by (clear ha hb h3 e h1;omega))) (e (by (exact QH (by assumption) (by assumption))))
theorem Dg.snoc (O:dA lt) (h:Dg lt p i j) (e:i<j->lt (p.getD (j-1) 0) (p.getD j 0)=false):Dg lt p i (j+1):=fun a b h1 h2 h3=>by
 by_cases hb:b<j
 ·exact h a b h1 h2 hb
 ·obtain rfl:b=j:=by omega
  by_cases ha:a=b-1
  ·subst ha;exact e (by omega)
  ·exact O.tr _ _ _ (e (by (exact QH (by assumption) (by assumption)))) (h a (b-1) h1 (by omega) (by omega))
theorem Sg.one:Sg lt p i (i+1):=fun a b h1 h2 h3=>by omega
theorem Dg.one:Dg lt p i (i+1):=fun a b h1 h2 h3=>by omega
theorem Sg.rev (h:Sg lt p i j) (hj:j<=p.size):Dg lt (kas_rev p i j) i j:=fun a b h1 h2 h3=>by
 rw [dN hj,dN hj,if_pos (by (clear hj;omega)),if_pos (by (clear hj;omega))]
 exact h _ _ (by (clear h2 h1 hj;omega)) (by (clear h1 hj;omega)) (by (clear h2 hj;omega))
theorem Dg.rev (h:Dg lt p i j) (hj:j<=p.size):Sg lt (kas_rev p i j) i j:=fun a b h1 h2 h3=>by
 rw [dN hj,dN hj,if_pos (by omega),if_pos (by omega)]
 exact h _ _ (by omega) (by omega) (by omega)
theorem Dg.tail (h:Dg lt p i j) (t:Sg lt p k j) (hk:i<=k) (hj:j<=p.size):Dg lt (kas_rev p k j) i j:=fun a b h1 h2 h3=>by
 rw [dN hj,dN hj]
 by_cases ha:k<=a
 ·rw [if_pos (by (clear h1 hj hk;omega)),if_pos (by (clear h1 hj hk;omega))]
  exact t _ _ (by (clear ha h2 h1 hj hk;omega)) (by (clear ha h1 hj hk;omega)) (by (clear h2 h1 hj hk;omega))
 ·rw [if_neg (by (clear h3 h2 h1 hj hk;omega))]
  by_cases hb:k<=b
  ·rw [if_pos (by (solve_by_elim (maxDepth:=4) only [*,Nat.lt_of_lt_of_le,Nat.le_of_lt,Nat.succ_le_of_lt,Qh]))];exact h _ _ h1 (by (clear hb h2 h1 hj hk;omega)) (by (clear ha h2 h1 hj hk;omega))
  ·rw [if_neg (by (clear ha h3 h2 h1 hj hk;omega))];exact h _ _ h1 h2 h3
end
section
variable {n:Nat} {lt:Nat->Nat->Bool} {p:Array Nat} {pend:Array (Nat × Nat × Nat)} {g:Nat}
theorem kU {α:Type} {c:Prop} {inst:Ev->Decidable c} {q r:Ev->StateT SortSt Sem α} {R:(Ev->α)->(Ev->SortSt)->Prop} (C:Array Nat->Prop) (c0:¬c->C p) (h:∀ p',C p'->ay n lt q (ak p' pend g) R) (h1:c->(∀ p',C p'->ay n lt q (ak p' pend g) R)->ay n lt r (ak p pend g) R):ay n lt (fun e=>@ite _ c (inst e) (r e) (q e)) (ak p pend g) R :=
 aQ (fun z=>h1 z h) (fun z=>h p (c0 z))
theorem wG {lo m:Nat} {R:(Ev->Option Nat)->(Ev->SortSt)->Prop} (O:dA lt) (h0:0<n) (hp:aM n p) (hm:0<m) (hlo:lo+m<=p.size) (h:∀ p' k,Kp p p' lo (lo+m)->0<k->k<=m->Sg lt p' lo (lo+k)->(Sg lt p lo (lo+m)->p'=p/\k=m)->R (fun _=>some k) (ak p' pend g)) :
  ay n lt (fun _=>countRun' lo m) (ak p pend g) R:=by
 refine am (ay.mono (b6 (fun i c y=>∃ k,c=(fun _=>(none,k))/\y=ak p pend g/\0<k/\k=i/\Sg lt p lo (lo+k)) (fun c y=>∃ k,c=(fun _=>(none,k))/\y=ak p pend g/\0<k/\k<=m/\Sg lt p lo (lo+k)/\(k<m->lt (p.getD (lo+k) 0) (p.getD (lo+k-1) 0)=true)) ?_ ?_ ⟨_,rfl,rfl,by (exact Nat.lt_succ_self _),by (rfl),Sg.one⟩) ?_)
 ·rintro i _ _ _ _ ⟨k,rfl,rfl,h1,h2,hS⟩
  refine am (gg h0 hp (by dsimp only;(clear h1 h hm h0;omega)) (by dsimp only;(clear h1 h hm h0;omega)) ?_)
  dsimp only
  exact aQ (fun z=>au (.inl ⟨_,rfl,_,rfl,rfl,h1,by (clear h1 h hlo hm h0;omega),hS,fun _=>z⟩)) (fun z=>au (.inr ⟨_,rfl,_,rfl,rfl,by (exact Nat.lt_succ_of_lt (by assumption)),by (clear z h1 h hlo hm h0;omega),hS.snoc O fun _=>by simpa using z⟩))
 ·rintro _ _ ⟨k,rfl,rfl,h1,h2,hS⟩
  exact ⟨k,rfl,rfl,h1,by (clear h1 h hlo h0;omega),hS,fun z=>by omega⟩
 rintro _ _ ⟨k,rfl,rfl,h1,h2,hS,hx⟩
 dsimp only
 refine cL (fun e=>au (h _ _ Kp.refl h1 h2 hS fun _=>⟨rfl,e⟩)) fun hne=>?_
 have hx:=hx (by (clear hx h1 h hlo hm h0;omega))
 have no:¬Sg lt p lo (lo+m):=fun q=>by have:=q (lo+k-1) (lo+k) (by (clear hne h2 h hlo hm h0;omega)) (by (clear hne h2 h hlo hm h0;omega)) (by (clear h1 h hlo hm h0;omega));rw [hx] at this;cases this
 refine kU (fun p'=>Kp p p' lo (lo+m)/\Dg lt p' lo (lo+k+1)) (fun hk=>⟨Kp.refl,?_⟩) ?_ (fun hk key=>am (gg h0 hp (by (clear key hk no hne h2 h1 h h0;omega)) (by (clear key hk no hne h1 h h0;omega)) ?_))
 ·obtain rfl:k=1:=by (clear no hne h2 h hlo hm h0;omega)
  exact Dg.one.snoc O fun _=>O.as _ _ hx
 rotate_left
 ·dsimp only
  refine aQ (fun _=>au (h _ _ Kp.refl h1 h2 hS fun q=>absurd q no)) (fun z=>am (jf (key _ ⟨Kp.rev (Qh _) (by (clear z key hk no hne h1 h hlo hm h0;omega)) (by (clear z key hk no hne h1 h hm h0;omega)),?_⟩)))
  refine (hS.rev (by omega)).snoc O fun _=>?_
  rw [dN (by omega),dN (by omega),if_pos (by (clear z key hk no hne h2 h1 h hlo hm h0;omega)),if_neg (by (simp;done)),show lo+(lo+k)-1-(lo+k-1)=lo by (clear z key hk no hne h2 h1 h hlo hm h0;omega)]
  exact O.tr _ _ _ (O.as _ _ hx) (by simpa using z)
 rintro p1 ⟨hk1,hD1⟩
 refine am (gf ?_)
 refine am (ay.mono (b6 (fun i c y=>∃ p' j q,c=(fun _=>(none,j,q))/\y=ak p' pend g/\Kp p p' lo (lo+m)/\j=i/\q+1<=j/\Dg lt p' lo (lo+j)/\Sg lt p' (lo+j-(q+1)) (lo+j))
  (fun c y=>∃ p' j q,c=(fun _=>(none,j,q))/\y=ak p' pend g/\Kp p p' lo (lo+m)/\j<=m/\q+1<=j/\Dg lt p' lo (lo+j)/\Sg lt p' (lo+j-(q+1)) (lo+j)) ?_ ?_ ⟨_,_,_,rfl,rfl,hk1,by (rfl),by (exact Nat.lt_succ_of_lt (by assumption)),hD1,fun a b h1 h2 h3=>by (clear no hne h hlo hm h0;omega)⟩) ?_)
 ·rintro i _ _ _ _ ⟨p2,j,q,rfl,rfl,hk2,h3,h4,hD,hS⟩
  have hp2:=hk2.ent hp
  have hs2:=hk2.sz
  dsimp only
  refine am (gg h0 hp2 (by (clear h4 no hne h2 h1 h hm h0;omega)) (by (clear h4 no hne h2 h1 h hm h0;omega)) ?_)
  dsimp only
  refine aQ (fun z=>kU (fun p'=>Kp p p' lo (lo+m)/\Dg lt p' lo (lo+j+1)) (fun _=>⟨hk2,hD.snoc O fun _=>O.as _ _ z⟩) (fun p' hp'=>au (.inr ⟨_,rfl,_,_,_,rfl,rfl,hp'.1,by (clear hp' hs2 h4 no hne h2 h1 h hlo hm h0;omega),by (exact Nat.le_add_left _ _),hp'.2,fun a b h1 h2 h3=>by (clear hp' hs2 h4 no hne h hlo hm h0;omega)⟩)) (fun _ key=>am (jf (key _ ⟨hk2.trans (Kp.rev (by (clear key hs2 h3 no hne h2 h1 h hlo hm h0;omega)) (by (clear key hs2 h4 no hne h2 h1 h hlo hm h0;omega)) (by (clear key h4 no hne h2 h1 h hm h0;omega))),?_⟩)))) (fun z=>?_)
  ·refine (hD.tail hS (by omega) (by omega)).snoc O fun _=>?_
   rw [dN (by omega),dN (by omega),if_pos (by (clear key hs2 h4 h3 no hne h2 h1 h hlo hm h0;omega)),if_neg (by (simp;done)),show lo+j-(q+1)+(lo+j)-1-(lo+j-1)=lo+j-(q+1) by (clear key hs2 h4 h3 no hne h2 h1 h hlo hm h0;omega)]
   by_cases hq:q=0
   ·subst hq;exact O.as _ _ z
   ·exact O.tr _ _ _ (O.as _ _ z) (hD _ _ (by omega) (by (clear hq key hs2 h4 no hne h2 h hlo hm h0;omega)) (by (clear hq key hs2 h4 h3 no hne h2 h1 h hlo hm h0;omega)))
  refine am (gg h0 hp2 (by omega) (by omega) ?_)
  dsimp only
  exact aQ (fun _=>au (.inl ⟨_,rfl,_,_,_,rfl,rfl,hk2,by (clear z hs2 h4 no hne h2 h1 h hlo hm h0;omega),h4,hD,hS⟩)) (fun z2=>au (.inr ⟨_,rfl,_,_,_,rfl,rfl,hk2,by omega,by (exact Nat.lt_succ_of_le (by assumption)),hD.snoc O fun _=>by simpa using z2,by
   rw [show lo+(j+1)-(q+1+1)=lo+j-(q+1) by omega]
   exact hS.snoc O fun _=>by simpa using z⟩))
 ·rintro _ _ ⟨p2,j,q,rfl,rfl,hk2,h3,h4,hD,hS⟩
  exact ⟨p2,j,q,rfl,rfl,hk2,by (clear h4 no h1 h hlo hm h0;omega),h4,hD,hS⟩
 rintro _ _ ⟨p2,j,q,rfl,rfl,hk2,h3,h4,hD,hS⟩
 have hs2:=hk2.sz
 dsimp only
 refine kU (fun p'=>Kp p p' lo (lo+m)/\Dg lt p' lo (lo+j)) (fun _=>⟨hk2,hD⟩) ?_ (fun _ key=>am (jf (key _ ⟨hk2.trans (Kp.rev (by (clear key hs2 h3 no hne h2 h1 h hlo hm h0;omega)) (by (clear key hs2 h4 no hne h2 h1 h hlo hm h0;omega)) (by (clear key h4 no hne h2 h1 h hm h0;omega))),hD.tail hS (by omega) (by omega)⟩)))
 rintro p3 ⟨hk3,hD3⟩
 have hs3:=hk3.sz
 refine am (jf ?_)
 have hk4:Kp p (kas_rev p3 lo (lo+j)) lo (lo+m):=hk3.trans (Kp.rev (Qh _) (by (clear hs3 hs2 h4 no hne h2 h1 h hlo hm h0;omega)) (by (clear hs2 h4 no hne h2 h1 h hm h0;omega)))
 have hS4:=hD3.rev (by omega)
 generalize kas_rev p3 lo (lo+j)=p4 at hk4 hS4 ⊢
 have hs4:=hk4.sz
 have hp4:=hk4.ent hp
 refine am (ay.mono (b6 (fun i c y=>∃ k,c=(fun _=>(none,k))/\y=ak p4 pend g/\0<k/\k=i/\Sg lt p4 lo (lo+k)) (fun c y=>∃ k,c=(fun _=>(none,k))/\y=ak p4 pend g/\0<k/\k<=m/\Sg lt p4 lo (lo+k)) ?_ ?_ ⟨_,rfl,rfl,by (clear hs4 hs3 hs2 h3 no hne h2 h1 h hlo hm h0;omega),by (rfl),hS4⟩) ?_)
 ·rintro i _ _ _ _ ⟨k,rfl,rfl,h1,h2,hS⟩
  refine am (gg h0 hp4 (by dsimp only;(clear h1 hs3 hs2 h4 h3 no hne h hm h0;omega)) (by dsimp only;(clear h1 hs3 hs2 h4 h3 no hne h hm h0;omega)) ?_)
  dsimp only
  exact aQ (fun _=>au (.inl ⟨_,rfl,_,rfl,rfl,h1,by (clear h1 hs4 hs3 hs2 h4 h3 no hne h hlo hm h0;omega),hS⟩)) (fun z=>au (.inr ⟨_,rfl,_,rfl,rfl,by (exact Nat.lt_succ_of_lt (by assumption)),by (clear z h1 hs4 hs3 hs2 h4 h3 no hne h hlo hm h0;omega),hS.snoc O fun _=>by simpa using z⟩))
 ·rintro _ _ ⟨k,rfl,rfl,h1,h2,hS⟩
  exact ⟨k,rfl,rfl,h1,by (clear h1 hs4 hs3 hs2 h4 no hne h hlo hm h0;omega),hS⟩
 rintro _ _ ⟨k,rfl,rfl,h1,h2,hS⟩
 exact au (h _ _ hk4 h1 h2 hS fun q=>absurd q no)
theorem wH {lo m ok:Nat} {R:(Ev->Bool)->(Ev->SortSt)->Prop} (O:dA lt) (h0:0<n) (hp:aM n p) (hlo:lo+m<=p.size) (hok:0<ok) (hm:ok<=m) (hS0:Sg lt p lo (lo+ok)) (h:∀ p',Kp p p' lo (lo+m)->Sg lt p' lo (lo+m)->(ok=m->p'=p)->R (fun _=>true) (ak p' pend g)) :
  ay n lt (fun _=>binarySort' lo m ok) (ak p pend g) R:=by
 refine am (ay.mono (b6 (fun i c y=>∃ p',c=(fun _=>(none,()))/\y=ak p' pend g/\Kp p p' lo (lo+m)/\Sg lt p' lo (lo+i)/\(i<=ok->p'=p)) (fun c y=>∃ p',c=(fun _=>(none,()))/\y=ak p' pend g/\Kp p p' lo (lo+m)/\Sg lt p' lo (lo+m)/\(ok=m->p'=p)) ?_ ?_ ⟨_,rfl,rfl,Kp.refl,by rw [show max ok 1=ok by (clear h hm hlo h0;omega)];exact hS0,fun _=>rfl⟩) ?_)
 ·rintro i _ _ hi0 hi ⟨p1,rfl,rfl,hk1,hS1,_⟩
  have hp1:=hk1.ent hp
  have hs1:=hk1.sz
  dsimp only
  refine am (ay.mono (b6 (fun t c y=>∃ l r,c=(fun _=>(none,l,r))/\y=ak p1 pend g/\l<=r/\r<=i/\r-l<=i-t/\(∀ a,a<l->lt (p1.getD (lo+i) 0) (p1.getD (lo+a) 0)=false)/\(∀ a,r<=a->a<i->lt (p1.getD (lo+i) 0) (p1.getD (lo+a) 0)=true))
   (fun c y=>∃ l r:Nat,c=(fun _=>(none,l,r))/\y=ak p1 pend g/\l<=i/\(∀ a,a<l->lt (p1.getD (lo+i) 0) (p1.getD (lo+a) 0)=false)/\(∀ a,l<=a->a<i->lt (p1.getD (lo+i) 0) (p1.getD (lo+a) 0)=true)) ?_ ?_ ⟨_,_,rfl,rfl,Qs _,Qh _,by (exact Nat.sub_le _ _),fun a h=>by (contradiction),fun a h1 h2=>by (clear hs1 hi hi0 h hm hok hlo h0;omega)⟩) ?_)
  ·rintro k _ _ _ hk ⟨l,r,rfl,rfl,h1,h2,h3,hA,hB⟩
   dsimp only
   refine aQ (fun z=>au (.inl ⟨_,rfl,_,_,rfl,rfl,by (exact QD (by assumption) (by assumption)),hA,fun a q=>hB a (by (exact QD (by assumption) (by assumption)))⟩)) (fun hlr=>am (gg h0 hp1 (by (clear hlr hB hA h3 h2 h1 hk hi0 h hm hok h0;omega)) (by (clear hlr hB hA h3 hk hi0 h hm hok h0;omega)) ?_))
   dsimp only
   refine aQ (fun z=>au (.inr ⟨_,rfl,_,_,rfl,rfl,by (clear hlr hB hA h3 h2 hk hs1 hi hi0 h hm hok hlo h0;omega),by (clear hlr hB hA h3 hk hs1 hi hi0 h hm hok hlo h0;omega),by (clear hlr hB hA h2 h1 hk hs1 hi hi0 h hm hok hlo h0;omega),hA,fun a q1 q2=>?_⟩)) (fun z=>au (.inr ⟨_,rfl,_,_,rfl,rfl,by (clear z hB hA h3 h2 h1 hk hs1 hi hi0 h hm hok hlo h0;omega),by (assumption),by (clear z hlr hB hA h2 h1 hk hs1 hi hi0 h hm hok hlo h0;omega),fun a q1=>?_,hB⟩))
   ·by_cases e:a=(l+r) / 2
    ·subst e;exact z
    ·cases e2:lt (p1.getD (lo+i) 0) (p1.getD (lo+a) 0) with
     | true=>rfl
     | false=>rw [O.tr _ _ _ (hS1 (lo+(l+r) / 2) (lo+a) (by (exact Nat.le_add_right _ _)) (by (clear q2 hlr hB hA h3 h2 h1 hk hs1 hi hi0 h hm hok hlo h0;omega)) (by (clear e q1 hlr hB hA h3 h2 h1 hk hs1 hi hi0 h hm hok hlo h0;omega))) e2] at z;cases z
   ·by_cases e:a=(l+r) / 2
    ·subst e;simpa using z
    ·exact O.tr _ _ _ (hS1 (lo+a) (lo+(l+r) / 2) (by (exact Nat.le_add_right _ _)) (by (clear z hlr hB hA h3 h2 h1 hk hs1 hi hi0 h hm hok hlo h0;omega)) (by (clear e q1 z hB hA h3 h1 hk hs1 hi hi0 h hm hok hlo h0;omega))) (by simpa using z)
  ·rintro _ _ ⟨l,r,rfl,rfl,h1,h2,h3,hA,hB⟩
   exact ⟨l,r,rfl,rfl,by (exact QD (by assumption) (by assumption)),hA,fun a q=>hB a (by (clear hB hA h2 h1 hs1 hi hi0 h hm hok hlo h0;omega))⟩
  rintro _ _ ⟨l,r,rfl,rfl,hl,hA,hB⟩
  dsimp only
  refine am (wu (au (.inr ⟨_,rfl,_,rfl,rfl,hk1.trans (Kp.bub (by (exact Nat.le_add_right _ _)) (by (clear hB hA hl hs1 hi0 h hm hok hlo h0;omega)) (by (clear hB hA hs1 hi hi0 h hm hok hlo h0;omega)) (by (clear hB hA hl hi0 h hm hok h0;omega))),fun a b h1 h2 h3=>?_,fun q=>absurd q (by (clear q hB hA hl hs1 hi h hm hok hlo h0;omega))⟩)))
  rw [kT (by omega) (by (clear h3 h2 h1 hB hA hs1 hi hi0 h hm hok hlo h0;omega)),kT (by omega) (by omega)]
  have key:∀ a,lo<=a->a<lo+l->lt (p1.getD (lo+i) 0) (p1.getD a 0)=false:=fun a q1 q2=>by have:=hA (a-lo) (by (clear h3 h2 h1 hB hA hl hs1 hi hi0 h hm hok hlo h0;omega));rwa [show lo+(a-lo)=a by (clear q2 h3 h2 h1 hB hA hl hs1 hi hi0 h hm hok hlo h0;omega)] at this
  have key2:∀ a,lo+l<=a->a<lo+i->lt (p1.getD (lo+i) 0) (p1.getD a 0)=true:=fun a q1 q2=>by have:=hB (a-lo) (by (clear q2 key h3 h2 h1 hB hA hl hs1 hi hi0 h hm hok hlo h0;omega)) (by omega);rwa [show lo+(a-lo)=a by (clear q2 key h3 h2 h1 hB hA hl hs1 hi hi0 h hm hok hlo h0;omega)] at this
  by_cases ea:a=lo+l
  ·rw [if_pos ea,if_neg (by (clear key2 key h3 h1 hB hA hl hs1 hi hi0 h hm hok hlo h0;omega)),if_pos (by (clear key2 key h1 hB hA hl hs1 hi hi0 h hm hok hlo h0;omega))]
   exact O.as _ _ (key2 _ (by (clear key2 key h3 h1 hB hA hl hs1 hi hi0 h hm hok hlo h0;omega)) (by (clear ea key2 key h2 h1 hB hA hl hs1 hi h hm hok hlo h0;omega)))
  ·rw [if_neg ea]
   by_cases eb:b=lo+l
   ·rw [if_pos eb,if_neg (by (clear ea key2 key h3 h1 hB hA hl hs1 hi hi0 h hm hok hlo h0;omega))]
    exact key a h1 (by (clear ea key2 key h3 h1 hB hA hl hs1 hi hi0 h hm hok hlo h0;omega))
   ·rw [if_neg eb]
    by_cases ha:lo+l<a
    ·rw [if_pos (by (clear eb ea key2 key h1 hB hA hl hs1 hi hi0 h hm hok hlo h0;omega)),if_pos (by (clear eb ea key2 key h1 hB hA hl hs1 hi hi0 h hm hok hlo h0;omega))]
     exact hS1 _ _ (by (clear eb ea key2 key h3 h2 h1 hB hA hl hs1 hi hi0 h hm hok hlo h0;omega)) (by (clear eb ea key2 key h3 h1 hB hA hl hs1 hi hi0 h hm hok hlo h0;omega)) (by omega)
    ·rw [if_neg (show ¬(lo+l<a/\a<=lo+i) by (clear eb ea key2 key h3 h2 h1 hB hA hl hs1 hi hi0 h hm hok hlo h0;omega))]
     by_cases hb:lo+l<b
     ·rw [if_pos (by (clear ha eb ea key2 key h2 h1 hB hA hl hs1 hi hi0 h hm hok hlo h0;omega))];exact hS1 _ _ (by (assumption)) (by (clear eb key2 key h3 h2 h1 hB hA hl hs1 hi hi0 h hm hok hlo h0;omega)) (by omega)
     ·rw [if_neg (by (clear ha eb ea key2 key h3 h2 h1 hB hA hl hs1 hi hi0 h hm hok hlo h0;omega))];exact hS1 _ _ (by (assumption)) (by (assumption)) (by (clear ha ea key2 key h3 h2 h1 hB hA hs1 hi hi0 h hm hok hlo h0;omega))
 ·rintro _ _ ⟨p1,rfl,rfl,hk1,hS1,he⟩
  exact ⟨p1,rfl,rfl,hk1,by rwa [show max (max ok 1) m=m by (clear he h hlo h0;omega)] at hS1,fun q=>he (by (clear he h hm hlo h0;omega))⟩
 rintro _ _ ⟨p1,rfl,rfl,hk1,hS1,he⟩
 exact au (h _ hk1 hS1 he)
end
end L2
namespace L2
open PySem PySem.Spec PyProof.Rows PySem.W
theorem oI (s:Nat):∀ (po:List Nat) (k:Nat) (p:Array Nat) (j:Nat),s+k+po.length<=p.size->(putN po k s p).getD j 0=if s+k<=j/\j<s+k+po.length then po.getD (j-(s+k)) 0 else p.getD j 0
 | [],k,p,j,h=>by rw [if_neg (fun q=>by have:=q.2;simp at this;(clear h;omega))];rfl
 | a::po,k,p,j,h=>by
  show (putN po (k+1) s (p.setIfInBounds (s+k) a)).getD j 0=_
  rw [List.length_cons] at h ⊢
  rw [oI s po (k+1) _ j (by rw [Array.size_setIfInBounds];omega)]
  by_cases h1:j=s+k
  ·subst h1
   rw [if_neg (by (clear h;omega)),if_pos (by (simp;done))]
   simp [Array.getD,show s+k<p.size by omega]
  ·have e:(p.setIfInBounds (s+k) a).getD j 0=p.getD j 0:=getD_at (by rw [Array.getElem?_setIfInBounds];rw [if_neg (by (solve_by_elim (maxDepth:=4) only [*,Nat.lt_of_lt_of_le,Nat.le_of_lt,Nat.succ_le_of_lt,Qh]))])
   rw [e]
   by_cases h2:s+k<=j/\j<s+k+(po.length+1)
   ·rw [if_pos h2,if_pos (by (clear e h;omega)),show j-(s+k)=(j-(s+(k+1)))+1 by (clear e h;omega),List.getD_cons_succ]
   ·rw [if_neg h2,if_neg (by (clear e h1 h;omega))]
theorem oJ (s:Nat):∀ (po:List Nat) (k:Nat) (p:Array Nat),s+k+po.length<=p.size->(putN po k s p).toList=p.toList.take (s+k)++po++p.toList.drop (s+k+po.length)
 | [],k,p,h=>by simp [putN]
 | a::po,k,p,h=>by
  show (putN po (k+1) s (p.setIfInBounds (s+k) a)).toList=_
  rw [List.length_cons] at h ⊢
  rw [oJ s po (k+1) _ (by rw [Array.size_setIfInBounds];omega),Array.toList_setIfInBounds,List.set_eq_take_append_cons_drop,if_pos (by simp;omega)]
  have hl:(p.toList.take (s+k)).length=s+k:=by rw [Qr,Qx];omega
  have e1:(p.toList.take (s+k)++a::p.toList.drop (s+k+1)).take (s+(k+1))=p.toList.take (s+k)++[a]:=by
   rw [show s+(k+1)=(p.toList.take (s+k)).length+1 by (clear h;omega),List.take_length_add_append]
   simp
  have e2:(p.toList.take (s+k)++a::p.toList.drop (s+k+1)).drop (s+(k+1)+po.length)=p.toList.drop (s+k+(po.length+1)):=by
   rw [show s+(k+1)+po.length=(p.toList.take (s+k)).length+(1+po.length) by (clear h;omega),List.drop_length_add_append,show 1+po.length=po.length+1 by (simp only [Nat.add_comm];done),List.drop_succ_cons,List.drop_drop]
   congr 1
   (clear hl h;omega)
  rw [e1,e2]
  simp
theorem Ch.ge:∀ {s:Nat} {l:List (Nat × Nat × Nat)} {e:Nat},Ch s l e->∀ x∈l,s<=x.1
 | s,[],e,h,x,hx=>by simp at hx
 | s,(a,k,u)::l,e,h,x,hx=>by
  obtain ⟨rfl,hk,h⟩:=h
  rcases Ql hx with z | z
  ·subst z;exact Qh _
  ·exact QD (Nat.le_add_right _ _) (h.ge x z)
theorem Ch.two2 {S S':Nat × Nat × Nat->Prop}:∀ {s:Nat} {l:List (Nat × Nat × Nat)} {e:Nat} (i a k u m v:Nat),Ch s l e->l[i]?=some (a,k,u)->l[i+1]?=some (a+k,m,v)->(∀ x∈l,S x)->(∀ x,S x->(x.1+x.2.1<=a∨a+k+m<=x.1)->S' x)->S' (a,k+m,u) ->
  ∀ x∈(l.set i (a,k+m,u)).eraseIdx (i+1),S' x
 | s,[],e,i,a,k,u,m,v,h,h1,h2,hS,hk,hn,x,hx=>by simp at h1
 | s,[y],e,i,a,k,u,m,v,h,h1,h2,hS,hk,hn,x,hx=>by cases i<;>simp at h1 h2
 | s,(a',k',u')::(b',m',v')::l,e,0,a,k,u,m,v,h,h1,h2,hS,hk,hn,x,hx=>by
  have e1:=Qj (show some (a',k',u')=some (a,k,u) from h1)
  have e2:=Qj (show some (b',m',v')=some (a+k,m,v) from h2)
  simp only [Prod.mk.injEq] at e1 e2
  obtain ⟨g1,g2,g3,g4,h⟩:=h
  have hx:x∈(a,k+m,u)::l:=hx
  rcases Ql hx with z | z
  ·subst z;exact hn
  ·refine hk x (hS x (by simp [z])) (.inr ?_)
   have:=h.ge x z
   omega
 | s,(a',k',u')::y::l,e,i+1,a,k,u,m,v,h,h1,h2,hS,hk,hn,x,hx=>by
  obtain ⟨rfl,hk',h⟩:=h
  have hx:x∈(a',k',u')::((y::l).set i (a,k+m,u)).eraseIdx (i+1):=hx
  rcases Ql hx with z | z
  ·subst z
   refine hk _ (hS _ (by simp)) (.inl ?_)
   have h1':(y::l)[i]?=some (a,k,u):=h1
   exact h.ge _ (Qt h1')
  ·exact Ch.two2 i a k u m v h h1 h2 (fun x hx=>hS x (Qn _ hx)) hk hn x z
theorem kW {p:Array Nat} {i j k:Nat} (hj:j<=p.size) (hk:i+k<j):(p.extract i j).getD k 0=p.getD (i+k) 0:=by
 have h1:k<(p.extract i j).size:=by simp;omega
 simp [Array.getD,show k<min j p.size-i by omega,show i+k<p.size by (exact Nat.lt_of_lt_of_le (by assumption) (by assumption))]
theorem Sg.asc {lt:Nat->Nat->Bool} {p:Array Nat} {i j:Nat} (h:Sg lt p i j) (hj:j<=p.size):b7 lt (p.extract i j).toList:=by
 refine List.pairwise_iff_getElem.mpr fun a b ha hb hab=>?_
 simp at ha hb
 have:=h (i+a) (i+b) (by (exact Nat.le_add_right _ _)) (by (clear hb ha hj;omega)) (by (clear ha hab hj;omega))
 simpa [Array.getD,show i+a<p.size by omega,show i+b<p.size by omega] using this
noncomputable def Rs (lt:Nat->Nat->Bool) (p:Array Nat) (l:List (Nat × Nat × Nat)):Prop:=∀ x∈l,Sg lt p x.1 (x.1+x.2.1)
section
variable {n:Nat} {lt:Nat->Nat->Bool} {p:Array Nat} {pend:Array (Nat × Nat × Nat)} {g:Nat}
theorem wI (O:dA lt) {sa na nb k k2:Nat} {po:Array Nat} (hz:sa+na+nb<=p.size) (hk:k<na) (hk2:0<k2) (hk3:k2<=nb) (sA:Sg lt p sa (sa+na)) (sB:Sg lt p (sa+na) (sa+na+nb))
  (hA:∀ i,i<k->lt (p.getD (sa+na) 0) (p.getD (sa+i) 0)=false) (hB:∀ i,k2<=i->i<nb->lt (p.getD (sa+na+i) 0) (p.getD (sa+na-1) 0)=false)
  (G:GF n lt ((p.extract (sa+k) (sa+na)).toList++(p.extract (sa+na) (sa+na+k2)).toList) po) :
  Kp p (putN po.toList 0 (sa+k) p) sa (sa+na+nb)/\Sg lt (putN po.toList 0 (sa+k) p) sa (sa+na+nb):=by
 have hl:po.toList.length=na-k+k2:=by
  rw [G.mf.pm.length_eq,Qw,Qx,Qx,Array.size_extract,Array.size_extract,Nat.min_eq_left (QD (Nat.le_add_right _ nb) hz),Nat.min_eq_left (QD (Nat.add_le_add_left hk3 _) hz),Nat.add_sub_add_left,Nat.add_sub_cancel_left]
 have at_:∀ j,(putN po.toList 0 (sa+k) p).getD j 0=if sa+k<=j/\j<sa+na+k2 then po.getD (j-(sa+k)) 0 else p.getD j 0:=fun j=>by
  rw [oI (sa+k) po.toList 0 p j (by omega)]
  by_cases h:sa+k<=j/\j<sa+na+k2
  ·rw [if_pos h,if_pos (by (clear hB hA hk3 hk2 hk hz;omega)),Nat.add_zero]
   have h2:j-(sa+k)<po.size:=by rw [<- Qx];(clear hB hA hk3 hk2 hk hz;omega)
   simp [Array.getD,List.getD,h2]
  ·rw [if_neg h,if_neg (by (clear hB hA hk3 hk2 hz;omega))]
 have mem:∀ j,sa+k<=j->j<sa+na+k2->∃ i,sa+k<=i/\i<sa+na+k2/\po.getD (j-(sa+k)) 0=p.getD i 0:=fun j h1 h2=>by
  have h3:j-(sa+k)<po.size:=by rw [<- Qx];(clear h1 at_ hB hA hk3 hk2 hz;omega)
  have hm:po.getD (j-(sa+k)) 0∈po.toList:=by simp [Array.getD,h3]
  rcases QC (G.mf.pm.mem_iff.mp hm) with z | z
  ·rw [show sa+na=sa+k+(na-k) by (clear h3 h2 h1 at_ hl hB hA hk3 hk2 hz;omega)] at z
   obtain ⟨i,q1,q2,q3⟩:=ig z
   exact ⟨sa+k+i,by (exact Nat.le_add_right _ _),by (clear q3 q2 h3 h2 h1 at_ hl hB hA hk3 hk2 hk hz;omega),q3⟩
  ·obtain ⟨i,q1,q2,q3⟩:=ig z
   exact ⟨sa+na+i,by (clear q3 q2 q1 h3 h2 h1 at_ hl hB hA hk3 hk2 hz;omega),by (clear q3 q2 h3 h2 h1 at_ hl hB hA hk3 hk2 hk hz;omega),q3⟩
 have low:∀ a i,sa<=a->a<sa+k->a<i->i<sa+na+nb->lt (p.getD i 0) (p.getD a 0)=false:=fun a i h1 h2 h3 h4=>by
  by_cases hi:i<sa+na
  ·exact sA a i h1 h3 hi
  ·have e:=hA (a-sa) (by (clear hi h4 h3 mem at_ hl hB hA hk3 hk2 hk hz;omega))
   rw [show sa+(a-sa)=a by (clear hi h4 h3 h2 mem at_ hl hB hA hk3 hk2 hk hz;omega)] at e
   by_cases h:i=sa+na
   ·subst h;exact e
   ·exact O.tr _ _ _ e (sB (sa+na) i (Qh _) (by (clear h4 h3 h2 h1 mem at_ hl hB hA hk3 hk2 hk hz;omega)) h4)
 have high:∀ b i,sa+na+k2<=b->b<sa+na+nb->sa<=i->i<b->lt (p.getD b 0) (p.getD i 0)=false:=fun b i h1 h2 h3 h4=>by
  by_cases hi:i<sa+na
  ·have e:=hB (b-(sa+na)) (by (clear hi h4 h3 h2 low mem at_ hl hB hA hk3 hk2 hk hz;omega)) (by (clear hi h4 h3 h1 low mem at_ hl hB hA hk hz;omega))
   rw [show sa+na+(b-(sa+na))=b by (clear hi h4 h3 h2 low mem at_ hl hB hA hk3 hk2 hk hz;omega)] at e
   by_cases h:i=sa+na-1
   ·subst h;exact e
   ·exact O.tr _ _ _ (sA i (sa+na-1) h3 (by (clear h4 h3 h2 h1 low mem at_ hl hB hA hk3 hk2 hk hz;omega)) (by (clear h hi h4 h3 h2 h1 low mem at_ hl hB hA hk3 hk2 hz;omega))) e
  ·exact sB i b (by (exact Nat.le_of_not_lt (by assumption))) h4 h2
 refine ⟨⟨ox _ _ _ _,Array.perm_iff_toList_perm.mpr ?_,fun j hj=>by rw [at_,if_neg (by (clear high low mem at_ hl hB hA hk2 hk hz;omega))]⟩,fun a b h1 h2 h3=>?_⟩
 ·rw [oJ (sa+k) po.toList 0 p (by omega),Nat.add_zero]
  have e:p.toList=p.toList.take (sa+k)++((p.extract (sa+k) (sa+na)).toList++(p.extract (sa+na) (sa+na+k2)).toList)++p.toList.drop (sa+k+po.toList.length):=by
   have e1:=ji (p:=p) (i:=sa+k) (k:=na-k) (by (clear high low mem at_ hl hB hA hk3 hk2;omega))
   rw [show sa+k+(na-k)=sa+na by (clear high low mem at_ hl hB hA hk3 hk2 hz;omega),ji (p:=p) (i:=sa+na) (k:=k2) (by (clear high low mem at_ hl hB hA hk2 hk;omega))] at e1
   rw [hl,show sa+k+(na-k+k2)=sa+na+k2 by omega,QI,QI,<- e1,List.take_append_drop]
  conv=>rhs;rw [e]
  exact List.Perm.append_right _ (List.Perm.append_left _ G.mf.pm)
 ·rw [at_,at_]
  by_cases ha:sa+k<=a/\a<sa+na+k2
  ·rw [if_pos ha]
   by_cases hb:sa+k<=b/\b<sa+na+k2
   ·rw [if_pos hb]
    exact fB G.mf.so (by (clear hb h3 h1 high low mem at_ hl hB hA hk3 hk2 hk hz;omega)) (by rw [<- Qx];(clear ha h3 h2 h1 high low mem at_ hB hA hk3 hk2 hk hz;omega))
   ·rw [if_neg hb]
    obtain ⟨i,q1,q2,q3⟩:=mem a ha.1 ha.2
    rw [q3]
    exact high b i (by (clear q3 q2 q1 h3 h1 high low mem at_ hl hB hA hk3 hk2 hk hz;omega)) h3 (by (clear q3 q2 hb ha h3 h2 h1 high low mem at_ hl hB hA hk3 hk2 hk hz;omega)) (by (clear q3 q1 h3 h1 high low mem at_ hl hB hA hk3 hk2 hk hz;omega))
  ·rw [if_neg ha]
   by_cases hb:sa+k<=b/\b<sa+na+k2
   ·rw [if_pos hb]
    obtain ⟨i,q1,q2,q3⟩:=mem b hb.1 hb.2
    rw [q3]
    exact low a i h1 (by (clear q3 q2 q1 h3 h1 high low mem at_ hl hB hA hk3 hk2 hk hz;omega)) (by (clear q3 q2 h3 h1 high low mem at_ hl hB hA hk3 hk2 hk hz;omega)) (by (clear q3 q1 hb ha h3 h2 h1 high low mem at_ hl hB hA hk2 hk hz;omega))
   ·rw [if_neg hb]
    by_cases h:a<sa+k
    ·exact low a b h1 h h2 h3
    ·exact high b a (by (clear hb h3 h1 high low mem at_ hl hB hA hk3 hk2 hk hz;omega)) h3 h1 h2
theorem kY {i lo:Nat} {R:(Ev->Bool)->(Ev->SortSt)->Prop} (O:dA lt) (h0:0<n) (hp:aM n p) (hc:Ch 0 pend.toList lo) (hr:Rs lt p pend.toList) (hlo:lo<=p.size) (hi:i+1<pend.size)
  (h:∀ p' pend' g',Kp p p' 0 lo->Ch 0 pend'.toList lo->Rs lt p' pend'.toList->pend'.size+1=pend.size->R (fun _=>true) (ak p' pend' g')):ay n lt (fun _=>mergeAt' i) (ak p pend g) R:=by
 obtain ⟨sa,na,u,nb,v,e1,e2,hna,hnb,hle,hc'⟩:=hc.two i (by simpa using hi)
 have sA:=hr _ (Qt e1)
 have sB:=hr _ (Qt e2)
 dsimp only at sA sB
 have e3:((pend.setIfInBounds i (sa,na+nb,u)).eraseIdxIfInBounds (i+1)).toList=(pend.toList.set i (sa,na+nb,u)).eraseIdx (i+1):=by simp
 have hr':∀ p',Kp p p' sa (sa+na+nb)->Sg lt p' sa (sa+na+nb)->Rs lt p' ((pend.setIfInBounds i (sa,na+nb,u)).eraseIdxIfInBounds (i+1)).toList:=fun p' hk hS=>by
  rw [e3]
  exact Ch.two2 (S:=fun x=>Sg lt p x.1 (x.1+x.2.1)) (S':=fun x=>Sg lt p' x.1 (x.1+x.2.1)) i sa na u nb v hc e1 e2 hr (fun x hx d=>hx.out hk d) (by show Sg lt p' sa (sa+(na+nb));rw [<- Nat.add_assoc];exact hS)
 rw [<- e3] at hc'
 have hz':((pend.setIfInBounds i (sa,na+nb,u)).eraseIdxIfInBounds (i+1)).size+1=pend.size:=by
  have:((pend.setIfInBounds i (sa,na+nb,u)).eraseIdxIfInBounds (i+1)).toList.length+1=pend.size:=by
   rw [e3,List.length_eraseIdx,List.length_set,Qx,if_pos hi];(clear hr' hle hnb hna h hlo h0;omega)
  rwa [Qx] at this
 rw [Array.getElem?_toList] at e1 e2
 have up:∀ {p'},Kp p p' sa (sa+na+nb)->Kp p p' 0 lo:=fun q=>⟨q.sz,q.pm,fun k hk=>q.out k (by (clear hz' hr' hnb hna h hi hlo h0;omega))⟩
 refine dY ?_
 dsimp only
 simp only [e1,e2]
 refine am (wA ?_)
 generalize (pend.setIfInBounds i (sa,na+nb,u)).eraseIdxIfInBounds (i+1)=pend' at hc' hr' hz' ⊢
 refine am (bI (by (clear hz' hr' up hna h hi h0;omega)) (am (gh h0 (hp.at h0 _) hp hna (by (clear hz' hr' up hnb hna h hi h0;omega)) ?_ fun k hk hA hB=>?_)))
 ·intro i j hij hj
  simp only [aX,Bool.false_eq_true,if_false,Bool.not_eq_true']
  intro z
  by_cases e:i=j
  ·subst e;exact z
  ·exact O.tr _ _ _ (sA (sa+i) (sa+j) (by (exact Nat.le_add_right _ _)) (by (clear hj hz' hr' up hle hnb hna h hi hlo h0;omega)) (by (clear e hij hz' hr' up hle hnb hna h hi hlo h0;omega))) z
 simp only [aX,Bool.false_eq_true,if_false,Bool.not_eq_true',Bool.not_eq_false'] at hA hB
 dsimp only
 refine cL (fun z=>au (h _ _ _ Kp.refl hc' (hr' _ Kp.refl ?_) hz')) fun hk2=>am (bI (by (clear hk2 hB hA hz' hr' up hnb h hi h0;omega)) (am (gh h0 (hp.at h0 _) hp (by (exact Nat.sub_lt_sub_left (by assumption) (Nat.lt_succ_self _))) (by (exact QD (by assumption) (by assumption))) ?_ fun k2 hk3 hA2 hB2=>?_)))
 ·intro a b h1 h2 h3
  by_cases hb:b<sa+na
  ·exact sA a b h1 h2 hb
  ·by_cases ha:a<sa+na
   ·have e:=hA (a-sa) (by (clear hb h3 h2 h1 hB hA hk hz' hr' up hle hnb h hi hlo h0;omega))
    rw [show sa+(a-sa)=a by (clear ha hb h3 h2 z hB hA hk hz' hr' up hle hnb hna h hi hlo h0;omega)] at e
    by_cases q:b=sa+na
    ·subst q;exact e
    ·exact O.tr _ _ _ e (sB (sa+na) b (Qh _) (by (clear ha h3 h2 h1 z hB hA hk hz' hr' up hle hnb hna h hi hlo h0;omega)) h3)
   ·exact sB a b (by (exact Nat.le_of_not_lt (by assumption))) h2 h3
 ·intro i j hij hj
  simp only [aX,if_true]
  intro z
  by_cases e:i=j
  ·subst e;exact z
  ·have q1:=sB (sa+na+i) (sa+na+j) (by (exact Nat.le_add_right _ _)) (by (clear hj hk2 hB hA hk hz' hr' up hle hnb hna h hi hlo h0;omega)) (by (clear e hij hk2 hB hA hk hz' hr' up hle hnb hna h hi hlo h0;omega))
   cases e2:lt (p.getD (sa+na+i) 0) (p.getD (sa+k+(na-k)-1) 0) with
   | true=>rfl
   | false=>rw [O.tr _ _ _ e2 q1] at z;cases z
 simp only [aX,if_true] at hA2 hB2
 rw [show sa+k+(na-k)-1=sa+na-1 by omega] at hA2 hB2
 dsimp only
 refine cL (fun z=>au (h _ _ _ Kp.refl hc' (hr' _ Kp.refl ?_) hz')) fun hk4=>?_
 ·intro a b h1 h2 h3
  by_cases hb:b<sa+na
  ·exact sA a b h1 h2 hb
  ·by_cases ha:a<sa+na
   ·have e:=hB2 (b-(sa+na)) (by (clear ha hb h3 h2 h1 hB2 hA2 hk3 hk2 hB hA hk hz' hr' up hle hnb hna h hi hlo h0;omega)) (by (clear ha hb h2 h1 z hB2 hA2 hk3 hk2 hB hA hk hz' hr' up hle hna h hi hlo h0;omega))
    rw [show sa+na+(b-(sa+na))=b by (clear ha h3 h2 h1 z hB2 hA2 hk3 hk2 hB hA hk hz' hr' up hle hnb hna h hi hlo h0;omega)] at e
    by_cases q:a=sa+na-1
    ·subst q;exact e
    ·exact O.tr _ _ _ (sA a (sa+na-1) h1 (by (clear hb h3 h2 h1 z hB2 hA2 hk3 hk2 hB hA hk hz' hr' up hle hnb hna h hi hlo h0;omega)) (by (clear q ha hb h3 h2 h1 z hB2 hA2 hk3 hk2 hB hA hk hz' hr' up hle hnb h hi hlo h0;omega))) e
   ·exact sB a b (by (exact Nat.le_of_not_lt (by assumption))) h2 h3
 simp only [cK]
 have fin:∀ (po:Array Nat) (g':Nat),GF n lt ((p.extract (sa+k) (sa+na)).toList++(p.extract (sa+na) (sa+na+k2)).toList) po->R (fun _=>true) (ak (putN po.toList 0 (sa+k) p) pend' g'):=fun po g' hpo=>by
  obtain ⟨q1,q2⟩:=wI O (by (exact QD (by assumption) (by assumption))) (by (clear hk4 hB2 hA2 hk3 hB hA hk hz' hr' up hle hnb hna h hi hlo h0;omega)) (by (exact Nat.pos_of_ne_zero (by assumption))) hk3 sA sB hA hB2 hpo
  exact h _ _ _ (up q1) hc' (hr' _ q1 q2) hz'
 have put:∀ (e:Ev) (po:Array Nat),(aK e po).toList.zipIdx.foldl (fun a (x:Keyed × Nat)=>a.setIfInBounds (sa+k+x.2) x.1) (aK e p)=aK e (putN po.toList 0 (sa+k) p):=fun e po=>by
  rw [show (aK e po).toList=po.toList.map (cA e) from Array.toList_map]
  exact ow (cA e) (sa+k) po.toList 0 p
 have last:∀ (po:Array Nat) (g':Nat),GF n lt ((p.extract (sa+k) (sa+na)).toList++(p.extract (sa+na) (sa+na+k2)).toList) po->ay n lt (fun e=>(do
   modify fun s=>SortSt.mk' (kindOf s) ((aK e po).toList.zipIdx.foldl (fun a (x:Keyed × Nat)=>a.setIfInBounds (sa+k+x.2) x.1) (arrOf s)) (pendingOf s) (gallopOf s) (failedOf s)
   let s <- get
   pure (failedOf s).isNone:StateT SortSt Sem Bool)) (ak p pend' g') R:=fun po g' hpo =>
  am (wB (p':=putN po.toList 0 (sa+k) p) (pend':=pend') (g':=g') (fun e=>congrArg (fun a=>SortSt.mk' e.κ a pend' g' none) (put e po)) (dY (au (fin po g' hpo))))
 have hz:sa+na+nb<=p.size:=QD hle hlo
 have z1:(p.extract (sa+k) (sa+na)).size=na-k:=by rw [Array.size_extract,Nat.min_eq_left (QD (Nat.le_add_right _ nb) hz),Nat.add_sub_add_left]
 have z2:(p.extract (sa+na) (sa+na+k2)).size=k2:=by rw [Array.size_extract,Nat.min_eq_left (QD (Nat.add_le_add_left hk3 _) hz),Nat.add_sub_cancel_left]
 have s1:b7 lt (p.extract (sa+k) (sa+na)).toList:=Sg.asc (fun a b q1 q2 q3=>sA a b (by (clear q3 q2 z2 z1 hz last put fin hk4 hB2 hA2 hk3 hk2 hB hA hk hz' hr' up hle hnb hna h hi hlo h0;omega)) q2 q3) (by (clear z2 z1 hz last put fin hk4 hB2 hA2 hk3 hk2 hB hA hk hz' hr' up hnb hna h hi h0;omega))
 have s2:b7 lt (p.extract (sa+na) (sa+na+k2)).toList:=Sg.asc (fun a b q1 q2 q3=>sB a b (by (assumption)) q2 (by (clear q2 q1 z2 z1 hz last put fin hk4 hB2 hA2 hk2 hB hA hk hz' hr' up hle hnb hna h hi hlo h0;omega))) (by (clear z2 z1 hz last put fin hk4 hB2 hA2 hk2 hB hA hk hz' hr' up hnb hna h hi h0;omega))
 have hf:lt ((p.extract (sa+na) (sa+na+k2)).getD 0 0) ((p.extract (sa+k) (sa+na)).getD 0 0)=true:=by
  rw [kW (by omega) (by (clear z2 z1 hz last put fin hB2 hA2 hk3 hk2 hB hA hk hz' hr' up hle hnb hna h hi hlo h0;omega)),kW (by omega) (by (clear z2 z1 hz last put fin hk4 hB2 hA2 hk3 hB hA hk hz' hr' up hle hnb hna h hi hlo h0;omega))]
  exact hB k (Qh _) (by (clear z2 z1 hz last put fin hk4 hB2 hA2 hk3 hB hA hk hz' hr' up hle hnb hna h hi hlo h0;omega))
 have hl:∀ y∈(p.extract (sa+na) (sa+na+k2)).toList,lt ((p.extract (sa+k) (sa+na)).getD ((p.extract (sa+k) (sa+na)).size-1) 0) y=false:=fun y hy=>by
  obtain ⟨j,q1,q2,rfl⟩:=ig hy
  rw [z1,kW (by (clear q2 q1 z2 z1 hz last put fin hk4 hB2 hA2 hk3 hk2 hB hA hk hz' hr' up hnb hna h hi h0;omega)) (by (clear q2 q1 z2 z1 hz last put fin hk4 hB2 hA2 hk3 hB hA hk hz' hr' up hle hnb hna h hi hlo h0;omega)),show sa+k+(na-k-1)=sa+na-1 by (clear q2 q1 z2 z1 hz last put fin hk4 hB2 hA2 hk3 hB hA hk hz' hr' up hle hnb hna h hi hlo h0;omega)]
  exact O.as _ _ (hA2 j q1)
 refine aQ (fun _=>am (wD O h0 (hp.ext _ _) (hp.ext _ _) (by (clear hl z2 hz last put fin hk4 hB2 hA2 hk3 hB hA hk hz' hr' up hle hnb hna h hi hlo h0;omega)) (by (clear hl z1 hz last put fin hk4 hB2 hA2 hk3 hB hA hk hz' hr' up hle hnb hna h hi hlo h0;omega)) s1 s2 hf hl fun po g' hpo=>?_)) (fun _=>am (wE O h0 (hp.ext _ _) (hp.ext _ _) (by (clear hl z2 hz last put fin hk4 hB2 hA2 hk3 hk2 hB hA hk hz' hr' up hle hnb hna h hi hlo h0;omega)) (by omega) s1 s2 hf hl fun po g' hpo=>?_))
 ·exact last po g' hpo
 ·exact last po g' hpo
end
end L2
namespace L2
open PySem PySem.Spec PyProof.Rows PySem.W
theorem Rs.push {lt:Nat->Nat->Bool} {p:Array Nat} {l:List (Nat × Nat × Nat)} {a k:Nat} (u:Nat) (h:Rs lt p l) (q:Sg lt p a (a+k)):Rs lt p (l++[(a,k,u)]):=fun x hx=>by
 rcases QC hx with z | z
 ·exact h x z
 ·rw [List.mem_singleton.mp z];exact q
theorem Rs.mod {lt:Nat->Nat->Bool} {p:Array Nat}:∀ {l:List (Nat × Nat × Nat)} (i u:Nat),Rs lt p l->Rs lt p (l.modify i fun x=>(x.1,x.2.1,u))
 | [],i,u,h=>by cases i<;>exact h
 | y::l,0,u,h=>fun x hx=>by
  have hx:x∈(y.1,y.2.1,u)::l:=hx
  rcases Ql hx with z | z
  ·subst z;exact h y (by simp)
  ·exact h x (by simp [z])
 | y::l,i+1,u,h=>fun x hx=>by
  have hx:x∈y::l.modify i fun x=>(x.1,x.2.1,u):=hx
  rcases Ql hx with z | z
  ·subst z;exact h x (by simp)
  ·exact Rs.mod i u (fun x hx=>h x (Qn _ hx)) x z
theorem Rs.out {lt:Nat->Nat->Bool} {p p':Array Nat} {l:List (Nat × Nat × Nat)} {lo hi:Nat} (h:Rs lt p l) (hc:Ch 0 l lo) (q:Kp p p' lo hi):Rs lt p' l:=fun x hx=>by
 refine (h x hx).out q (.inl ?_)
 have go:∀ {s:Nat} {l:List (Nat × Nat × Nat)} {e:Nat},Ch s l e->∀ x∈l,x.1+x.2.1<=e:=by
  intro s l
  induction l generalizing s with
  | nil=>intro e _ x hx;simp at hx
  | cons y l ih =>
   intro e h x hx
   obtain ⟨a,k,u⟩:=y
   obtain ⟨rfl,hk,h⟩:=h
   rcases Ql hx with z | z
   ·subst z;exact h.le
   ·exact ih h x z
 exact go hc x hx
theorem Ch.len:∀ {s:Nat} {l:List (Nat × Nat × Nat)} {e:Nat},Ch s l e->s+l.length<=e
 | s,[],e,h=>by simpa using Nat.le_of_eq h
 | s,(a,k,u)::l,e,h=>by have:=h.2.2.len;have:=h.2.1;simp;omega
section
variable {n:Nat} {lt:Nat->Nat->Bool} {p:Array Nat} {g:Nat}
theorem wJ {R:(Ev->Unit)->(Ev->SortSt)->Prop} (O:dA lt) (h0:0<n) (hp:aM n p) (hs:p.size=n) (h:∀ p' pend' g',p'.Perm p->Sg lt p' 0 n->(Sg lt p 0 n->p'=p)->R (fun _=>()) (ak p' pend' g')) :
  ay n lt (fun _=>sortRuns') (ak p #[] g) R:=by
 refine dY ?_
 dsimp only
 simp only [cB,hs]
 refine am (ay.mono (b6 (fun i c y=>∃ p' pend' g' lo,c=(fun _=>(none,lo))/\y=ak p' pend' g'/\Kp p p' 0 n/\Ch 0 pend'.toList lo/\Rs lt p' pend'.toList/\lo<=n/\i<=lo/\(Sg lt p 0 n->p'=p/\(lo=0∨lo=n/\pend'.size<=1))) (fun c y=>∃ p' pend' g' lo,c=(fun _=>(none,lo))/\y=ak p' pend' g'/\Kp p p' 0 n/\Ch 0 pend'.toList lo/\Rs lt p' pend'.toList/\lo=n/\(Sg lt p 0 n->p'=p/\pend'.size<=1)) ?_ ?_ ⟨_,_,_,_,rfl,rfl,Kp.refl,rfl,fun x hx=>by simp at hx,Qs _,Qs _,fun _=>⟨rfl,.inl rfl⟩⟩) ?_)
 ·rintro i _ _ _ _ ⟨p1,pe1,g1,lo,rfl,rfl,hk1,hc1,hr1,hl1,hi1,hT⟩
  have hs1:=hk1.sz
  dsimp only
  refine aQ (fun _=>au (.inl ⟨_,rfl,_,_,_,_,rfl,rfl,hk1,hc1,hr1,by (exact Nat.le_antisymm (by assumption) (by assumption)),fun q=>⟨(hT q).1,by rcases (hT q).2 with z | z<;>omega⟩⟩)) (fun hlt=>?_)
  refine am (wG O h0 (hk1.ent hp) (by (clear hs1 hT hi1 hl1 h hs h0;omega)) (by (clear hlt hT hi1 h h0;omega)) fun p2 k hk2 hkp hkm hS2 hE=>?_)
  have hq:Sg lt p 0 n->p2=p/\lo=0/\k=n/\pe1=#[]:=fun q=>by
   obtain ⟨e1,e2⟩:=hT q
   obtain rfl:lo=0:=by (clear hE hkm hkp hs1 hT hi1 hl1 h hs h0;omega)
   have e3:=hE (by rw [e1];simpa using q)
   have e4:=hc1.len
   exact ⟨e3.1.trans e1,rfl,by (clear e4 e2 hE hkm hlt hT hi1 hl1 hkp hs1 h hs h0;omega),by apply Array.eq_empty_of_size_eq_zero;rw [<- Qx];(clear e3 e2 hE hkm hlt hT hi1 hl1 hkp hs1 h hs h0;omega)⟩
  have hs2:=hk2.sz
  have hk2':Kp p p2 0 n:=hk1.trans ⟨hk2.sz,hk2.pm,fun k hk=>hk2.out k (by (clear hs2 hq hE hkm hkp hlt hs1 hT hi1 hl1 h hs h0;omega))⟩
  have hr2:=hr1.out hc1 hk2
  dsimp only
  refine aQ (fun hmr=>am (gf (am (wH O h0 (hk2'.ent hp) (by omega) hkp (by (clear hs2 hq hE hkp hlt hs1 hT hi1 hl1 h hs h0;omega)) hS2 fun p5 hk5 hSP hE5=>?_)))) (fun _=>?_)
  ·have hP:Kp p p5 0 n:=hk2'.trans ⟨hk5.sz,hk5.pm,fun k hk=>hk5.out k (by (clear hE5 hmr hs2 hq hE hkm hkp hlt hs1 hT hi1 hl1 h hs h0;omega))⟩
   have hrP:=hr2.out hc1 hk5
   have hqP:Sg lt p 0 n->p5=p/\lo=0/\min (n-lo) ((sortPriv% PySem.Builtin.minRun) n n 0)=n/\pe1=#[]:=fun q=>by
    obtain ⟨e1,e2,e3,e4⟩:=hq q
    exact ⟨(hE5 (by (clear e2 hE5 hs2 hq hE hkp hlt hs1 hT hi1 hl1 h hs h0;omega))).trans e1,e2,by (clear e2 hE5 hs2 hq hE hkp hlt hs1 hT hi1 hl1 h hs h0;omega),e4⟩
   refine aQ (fun z=>absurd z (by decide)) (fun _=>?_)
   have hkk:0<min (n-lo) ((sortPriv% PySem.Builtin.minRun) n n 0):=by (clear hqP hE5 hs2 hq hE hkm hkp hs1 hT hi1 hl1 h hs h0;omega)
   have hkl:lo+min (n-lo) ((sortPriv% PySem.Builtin.minRun) n n 0)<=n:=by (clear hkk hqP hE5 hmr hs2 hq hE hkm hkp hlt hs1 hT hi1 h hs h0;omega)
   refine dY ?_
   dsimp only
   cases hb:pe1.back? with
   | none =>
    simp only [hb]
    exact am (jh (au (.inr ⟨_,rfl,_,_,_,_,rfl,rfl,hP,by rw [Array.toList_push];exact hc1.push _ 0 hkk,by rw [Array.toList_push];exact hrP.push 0 hSP,hkl,by omega,fun q=>by
     obtain ⟨e1,e2,e3,e4⟩:=hqP q
     exact ⟨e1,.inr ⟨by omega,by rw [e4];simp⟩⟩⟩)))
   | some y =>
    obtain ⟨s1,n1,u1⟩:=y
    simp only [hb]
    refine am (ay.mono (b6 (fun _ c y=>∃ p' pend' g',c=(fun _=>(none,()))/\y=ak p' pend' g'/\Kp p p' 0 n/\Ch 0 pend'.toList lo/\Rs lt p' pend'.toList/\Sg lt p' lo (lo+min (n-lo) ((sortPriv% PySem.Builtin.minRun) n n 0))) (fun c y=>∃ p' pend' g',c=(fun _=>(none,()))/\y=ak p' pend' g'/\Kp p p' 0 n/\Ch 0 pend'.toList lo/\Rs lt p' pend'.toList/\Sg lt p' lo (lo+min (n-lo) ((sortPriv% PySem.Builtin.minRun) n n 0))) ?_ (fun _ _ z=>z) ⟨_,_,_,rfl,rfl,hP,hc1,hrP,hSP⟩) ?_)
    ·rintro j _ _ _ _ ⟨p3,pe3,g3,rfl,rfl,hk3,hc3,hr3,hS3⟩
     have hs3:=hk3.sz
     refine dY ?_
     dsimp only
     by_cases hz:pe3.size>1
     ·obtain ⟨a,b,u,m,v,e1,_⟩:=hc3.two (pe3.size-2) (by rw [Qx];(clear hs3 hkl hkk hqP hE5 hmr hs2 hq hE hkm hkp hlt hs1 hT hi1 hl1 h hs h0;omega))
      rw [Array.getElem?_toList] at e1
      simp only [if_pos hz,e1]
      refine aQ (fun _=>au (.inl ⟨_,rfl,_,_,_,rfl,rfl,hk3,hc3,hr3,hS3⟩)) (fun _=>am (kY O h0 (hk3.ent hp) hc3 hr3 (by (clear hz hkl hkk hqP hE5 hmr hs2 hq hE hkm hkp hlt hs1 hT hi1 h h0;omega)) (by (clear hs3 hkl hkk hqP hE5 hmr hs2 hq hE hkm hkp hlt hs1 hT hi1 hl1 h hs h0;omega)) fun p4 pe4 g4 hk4 hc4 hr4 _=>?_))
      exact aQ (fun z=>absurd z (by decide)) (fun _=>au (.inr ⟨_,rfl,_,_,_,rfl,rfl,hk3.trans ⟨hk4.sz,hk4.pm,fun k hk=>hk4.out k (by (clear hz hs3 hkl hkk hqP hE5 hmr hs2 hq hE hkm hkp hlt hs1 hT hi1 h hs h0;omega))⟩,hc4,hr4,hS3.out hk4 (.inr (Qh _))⟩))
     ·simp only [if_neg hz]
      exact au (.inl ⟨_,rfl,_,_,_,rfl,rfl,hk3,hc3,hr3,hS3⟩)
    ·rintro _ _ ⟨p3,pe3,g3,rfl,rfl,hk3,hc3,hr3,hS3⟩
     dsimp only
     refine am (oy ?_)
     refine am (jh (au (.inr ⟨_,rfl,_,_,_,_,rfl,rfl,hk3,?_,?_,hkl,by omega,fun q=>by
      obtain ⟨e1,e2,e3,e4⟩:=hqP q
      rw [e4] at hb
      simp at hb⟩)))
     ·rw [Array.toList_push,Array.toList_modify]
      exact (hc3.mod _ _).push _ _ hkk
     ·rw [Array.toList_push,Array.toList_modify]
      exact (hr3.mod _ _).push _ hS3
  ·have hqP:=hq
   have hP:=hk2'
   have hrP:=hr2
   have hSP:=hS2
   have hkk:=hkp
   have hkl:lo+k<=n:=by (clear hkk hqP hs2 hq hE hkp hlt hs1 hT hi1 h hs h0;omega)
   refine dY ?_
   dsimp only
   cases hb:pe1.back? with
   | none =>
    simp only [hb]
    exact am (jh (au (.inr ⟨_,rfl,_,_,_,_,rfl,rfl,hP,by rw [Array.toList_push];exact hc1.push _ 0 hkk,by rw [Array.toList_push];exact hrP.push 0 hSP,hkl,by (clear hkl hkk hqP hs2 hq hE hkm hlt hs1 hT hl1 h hs h0;omega),fun q=>by
     obtain ⟨e1,e2,e3,e4⟩:=hqP q
     exact ⟨e1,.inr ⟨by (clear e2 hkl hkk hqP hs2 hq hE hkp hlt hs1 hT hi1 hl1 h hs h0;omega),by rw [e4];simp⟩⟩⟩)))
   | some y =>
    obtain ⟨s1,n1,u1⟩:=y
    simp only [hb]
    refine am (ay.mono (b6 (fun _ c y=>∃ p' pend' g',c=(fun _=>(none,()))/\y=ak p' pend' g'/\Kp p p' 0 n/\Ch 0 pend'.toList lo/\Rs lt p' pend'.toList/\Sg lt p' lo (lo+k)) (fun c y=>∃ p' pend' g',c=(fun _=>(none,()))/\y=ak p' pend' g'/\Kp p p' 0 n/\Ch 0 pend'.toList lo/\Rs lt p' pend'.toList/\Sg lt p' lo (lo+k)) ?_ (fun _ _ z=>z) ⟨_,_,_,rfl,rfl,hP,hc1,hrP,hSP⟩) ?_)
    ·rintro j _ _ _ _ ⟨p3,pe3,g3,rfl,rfl,hk3,hc3,hr3,hS3⟩
     have hs3:=hk3.sz
     refine dY ?_
     dsimp only
     by_cases hz:pe3.size>1
     ·obtain ⟨a,b,u,m,v,e1,_⟩:=hc3.two (pe3.size-2) (by rw [Qx];omega)
      rw [Array.getElem?_toList] at e1
      simp only [if_pos hz,e1]
      refine aQ (fun _=>au (.inl ⟨_,rfl,_,_,_,rfl,rfl,hk3,hc3,hr3,hS3⟩)) (fun _=>am (kY O h0 (hk3.ent hp) hc3 hr3 (by omega) (by omega) fun p4 pe4 g4 hk4 hc4 hr4 _=>?_))
      exact aQ (fun z=>absurd z (by decide)) (fun _=>au (.inr ⟨_,rfl,_,_,_,rfl,rfl,hk3.trans ⟨hk4.sz,hk4.pm,fun k hk=>hk4.out k (by omega)⟩,hc4,hr4,hS3.out hk4 (.inr (Qh _))⟩))
     ·simp only [if_neg hz]
      exact au (.inl ⟨_,rfl,_,_,_,rfl,rfl,hk3,hc3,hr3,hS3⟩)
    ·rintro _ _ ⟨p3,pe3,g3,rfl,rfl,hk3,hc3,hr3,hS3⟩
     dsimp only
     refine am (oy ?_)
     refine am (jh (au (.inr ⟨_,rfl,_,_,_,_,rfl,rfl,hk3,?_,?_,hkl,by omega,fun q=>by
      obtain ⟨e1,e2,e3,e4⟩:=hqP q
      rw [e4] at hb
      simp at hb⟩)))
     ·rw [Array.toList_push,Array.toList_modify]
      exact (hc3.mod _ _).push _ _ hkk
     ·rw [Array.toList_push,Array.toList_modify]
      exact (hr3.mod _ _).push _ hS3
 ·rintro _ _ ⟨p1,pe1,g1,lo,rfl,rfl,hk1,hc1,hr1,hl1,hi1,hT⟩
  exact ⟨p1,pe1,g1,lo,rfl,rfl,hk1,hc1,hr1,by (exact Nat.le_antisymm (by assumption) (by assumption)),fun q=>⟨(hT q).1,by rcases (hT q).2 with z | z<;>omega⟩⟩
 rintro _ _ ⟨p1,pe1,g1,lo,rfl,rfl,hk1,hc1,hr1,rfl,hT⟩
 dsimp only
 have hlen:=hc1.len
 rw [Qx] at hlen
 refine am (ay.mono (b6 (fun j c y=>∃ p' pend' g',c=(fun _=>(none,()))/\y=ak p' pend' g'/\Kp p p' 0 lo/\Ch 0 pend'.toList lo/\Rs lt p' pend'.toList/\pend'.size+j<=lo/\(Sg lt p 0 lo->p'=p/\pend'.size<=1)) (fun c y=>∃ p' pend' g',c=(fun _=>(none,()))/\y=ak p' pend' g'/\Kp p p' 0 lo/\Ch 0 pend'.toList lo/\Rs lt p' pend'.toList/\pend'.size<=1/\(Sg lt p 0 lo->p'=p)) ?_ ?_ ⟨_,_,_,rfl,rfl,hk1,hc1,hr1,by (clear hT h hs h0;omega),hT⟩) ?_)
 ·rintro j _ _ _ _ ⟨p3,pe3,g3,rfl,rfl,hk3,hc3,hr3,hz3,hT3⟩
  have hs3:=hk3.sz
  refine dY ?_
  dsimp +instances only
  refine aQ (fun z=>au (.inl ⟨_,rfl,_,_,_,rfl,rfl,hk3,hc3,hr3,z,fun q=>(hT3 q).1⟩)) (fun hz=>am (kY O h0 (hk3.ent hp) hc3 hr3 (by (clear hz hT3 hz3 hlen hT h h0;omega)) ?_ fun p4 pe4 g4 hk4 hc4 hr4 hz4=>?_))
  ·exact wC (by (clear hs3 hT3 hz3 hlen hT h hs h0;omega))
  ·exact aQ (fun z=>absurd z (by decide)) (fun _=>au (.inr ⟨_,rfl,_,_,_,rfl,rfl,hk3.trans hk4,hc4,hr4,by (clear hz hs3 hT3 hlen hT h hs h0;omega),fun q=>absurd (hT3 q).2 hz⟩))
 ·rintro _ _ ⟨p3,pe3,g3,rfl,rfl,hk3,hc3,hr3,hz3,hT3⟩
  exact ⟨p3,pe3,g3,rfl,rfl,hk3,hc3,hr3,by (clear hT3 hlen hT h hs h0;omega),fun q=>(hT3 q).1⟩
 ·rintro _ _ ⟨p3,pe3,g3,rfl,rfl,hk3,hc3,hr3,hz3,hT3⟩
  refine au (h _ _ _ hk3.pm ?_ hT3)
  rw [<- Qx] at hz3
  match hq:pe3.toList,hz3,hc3,hr3 with
  | [],_,hc,_=>exact absurd (show 0=lo from hc) (by (exact Qz (by assumption)))
  | [(a,k,u)],_,hc,hr =>
   obtain ⟨rfl,_,rfl⟩:=hc
   exact hr (0,k,u) (by simp)
end
theorem oK (n:Nat) (lt:Nat->Nat->Bool) (h0:0<n) (as:∀ a b,a<n->b<n->lt a b=true->lt b a=false) (tr:∀ a b c,a<n->b<n->c<n->lt b a=false->lt c b=false->lt c a=false) :
  ∃ P:Array Nat,(P.Perm (List.range n).toArray/\Sg lt P 0 n/\(Sg lt (List.range n).toArray 0 n->P=(List.range n).toArray))/\∃ (pend:Array (Nat × Nat × Nat)) (g:Nat),∀ (e:Ev) (prog:Program) (w:World) (A:Around) (E:Value->Shared->Prop) (s:Shared),kS n lt e prog w A s ->
  ∀ Q:Unit->SortSt->Shared->Prop,Q () (ak P pend g e) s->kasC (model prog w) A E sortRuns' Q (ak (List.range n).toArray #[] 7 e) s:=by
 obtain ⟨c,hc⟩:∃ c:Nat->Nat,∀ i,c i=if i<n then i else 0:=⟨_,fun _=>rfl⟩
 have cn:∀ i,c i<n:=fun i=>by rw [hc];split<;>(assumption)
 have ce:∀ i,i<n->c i=i:=fun i h=>by rw [hc,if_pos h]
 have O:dA fun i j=>lt (c i) (c j):=⟨fun a b h=>as _ _ (cn a) (cn b) h,fun a b d h1 h2=>tr _ _ _ (cn a) (cn b) (cn d) h1 h2⟩
 obtain ⟨a,y,⟨P,pend,g,h1,h2,h4,rfl⟩,h3⟩:=wJ (n:=n) (g:=7) (p:=(List.range n).toArray) (R:=fun _ y=>∃ P pend g,P.Perm (List.range n).toArray/\Sg (fun i j=>lt (c i) (c j)) P 0 n/\(Sg (fun i j=>lt (c i) (c j)) (List.range n).toArray 0 n->P=(List.range n).toArray)/\y=ak P pend g) O h0 (fun x hx=>by simpa using hx) (by simp) fun p' pend' g' h1 h2 h4=>⟨p',pend',g',h1,h2,h4,rfl⟩
 have hz:P.size=n:=by rw [h1.size_eq];simp
 have ent:∀ i,i<n->P.getD i 0<n:=fun i hi=>by
  have hm:P.getD i 0∈P.toList:=by simp [Array.getD,show i<P.size by omega]
  simpa using (Array.perm_iff_toList_perm.mp h1).mem_iff.mp hm
 refine ⟨P,⟨h1,fun i j q1 q2 q3=>?_,fun q=>h4 fun i j q1 q2 q3=>?_⟩,pend,g,fun e prog w A E s ho=>h3 e prog w A E s fun i j hi hj C hC=>ho i j hi hj C (by have hC:C (lt (c i) (c j)) s:=hC;rwa [ce i hi,ce j hj] at hC)⟩
 ·have:=(show lt (c (P.getD j 0)) (c (P.getD i 0))=false from h2 i j q1 q2 q3)
  rwa [ce _ (ent i (by (exact Nat.lt_trans (by assumption) (by assumption)))),ce _ (ent j q3)] at this
 ·have e:∀ i,i<n->(List.range n).toArray.getD i 0=i:=fun i h=>by simp [Array.getD,h]
  have:=q i j q1 q2 q3
  show lt (c _) (c _)=false
  rw [e i (by (exact Nat.lt_trans (by assumption) (by assumption))),e j q3] at this ⊢
  rwa [ce i (by (exact Nat.lt_trans (by assumption) (by assumption))),ce j q3]
end L2
namespace L2
open PySem PySem.Spec PyProof.Rows PySem.W
noncomputable def bF:aa->Bool
 | .inl _=>true
 | .inr _=>false
noncomputable def c8:aa->aa->Bool
 | .inl i,.inl j=>decide (i<j)
 | .inr a,.inr c=>decide (a.cps.toList<c.cps.toList)
 | _,_=>false
noncomputable def bw:List aa->List aa->Bool
 | a::r,b::q=>if a=b then bw r q else c8 a b
 | _,_=>false
theorem wK {a c:Str} (h:a.cps.toList=c.cps.toList):a=c:=by
 obtain ⟨x⟩:=a
 obtain ⟨y⟩:=c
 have:x=y:=Array.toList_inj.mp h
 rw [this]
theorem wL {a b c:aa} (h:c8 a b=true) (g:c8 b c=true):c8 a c=true:=by
 cases a<;>cases b<;>cases c<;>simp only [c8,decide_eq_true_eq] at*<;>first | omega | exact List.lt_trans h g | cases h | cases g
theorem oM {a b:aa} (h:c8 a b=true):c8 b a=false:=by
 cases a<;>cases b<;>simp only [c8,decide_eq_true_eq,decide_eq_false_iff_not] at*<;>first | omega | exact List.lt_asymm h | cases h
theorem wM {a b:aa} (hs:bF a=bF b) (hn:a≠b) (h:c8 a b=false):c8 b a=true:=by
 cases a<;>cases b<;>simp only [c8,decide_eq_true_eq,decide_eq_false_iff_not] at *
 ·rename_i i j
  have:i≠j:=fun e=>hn (by rw [e])
  omega
 ·cases hs
 ·cases hs
 ·rename_i x y
  refine Classical.byContradiction fun g=>hn ?_
  rw [wK (List.le_antisymm (List.not_lt.mp g) (List.not_lt.mp h))]
theorem oN:∀ {a b c:List aa},bw a b=true->bw b c=true->bw a c=true
 | a::r,b::q,c::p,h,g=>by
  unfold bw at h g ⊢
  by_cases e1:a=b
  ·subst e1
   rw [if_pos rfl] at h
   by_cases e2:a=c
   ·subst e2
    rw [if_pos rfl] at g ⊢
    exact oN h g
   ·rw [if_neg e2] at g ⊢
    exact g
  ·rw [if_neg e1] at h
   by_cases e2:b=c
   ·subst e2
    rw [if_neg e1]
    exact h
   ·rw [if_neg e2] at g
    have e3:a≠c:=fun z=>by
     subst z
     rw [oM h] at g
     cases g
    rw [if_neg e3]
    exact wL h g
 | [],_,_,h,_=>by unfold bw at h;cases h
 | _::_,[],_,h,_=>by unfold bw at h;cases h
 | _::_,_::_,[],_,g=>by unfold bw at g;cases g
theorem gl:∀ {a b:List aa},bw a b=true->bw b a=false
 | a::r,b::q,h=>by
  unfold bw at h ⊢
  by_cases e1:a=b
  ·subst e1
   rw [if_pos rfl] at h ⊢
   exact gl h
  ·rw [if_neg e1] at h
   rw [if_neg (Ne.symm e1)]
   exact oM h
 | [],_,h=>by unfold bw at h;cases h
 | _::_,[],h=>by unfold bw at h;cases h
theorem jl:∀ {a b:List aa},a.map bF=b.map bF->a≠b->bw a b=false->bw b a=true
 | a::r,b::q,hs,hn,h=>by
  unfold bw at h ⊢
  have hs':=List.cons.inj hs
  by_cases e1:a=b
  ·subst e1
   rw [if_pos rfl] at h ⊢
   exact jl hs'.2 (fun z=>hn (by rw [z])) h
  ·rw [if_neg e1] at h
   rw [if_neg (Ne.symm e1)]
   exact wM hs'.1 e1 h
 | [],[],_,hn,_=>absurd rfl hn
 | [],_::_,hs,_,_=>by cases hs
 | _::_,[],hs,_,_=>by cases hs
theorem wN {prog:Program} {w:World} {A:Around} {E:Value->Shared->Prop} {fl:Bool} {Q:Bool->Shared->Prop} {s:Shared} {a b:aa} {u v:Value} (ra:RelV (kV a) u) (rb:RelV (kV b) v) (h:bF a=bF b) (q:Q (c8 a b) s):wpAny (model prog w) A (oneLt' fl u v) Q E s:=by
 cases a with
 | inl i =>
  cases b with
  | inr y=>cases h
  | inl j =>
   obtain ⟨t,rfl⟩:=(show ∃ t,u=Value.int i t from ra)
   obtain ⟨t',rfl⟩:=(show ∃ t,v=Value.int j t from rb)
   cases fl with
   | true=>exact kat_lt_int q
   | false=>exact kat_one _ _ (lt_int q)
 | inr x =>
  cases b with
  | inl j=>cases h
  | inr y =>
   obtain ⟨t,rfl⟩:=(show ∃ t,u=Value.str x t from ra)
   obtain ⟨t',rfl⟩:=(show ∃ t,v=Value.str y t from rb)
   cases fl with
   | true=>exact kas_lt_str q
   | false=>exact kat_one _ _ (lt_str q)
theorem kZ {prog:Program} {w:World} {A:Around} {fl:Bool} {Q:Bool->Shared->Prop} {s:Shared}:∀ {a b:List aa} {us vs:List Value} (i:Nat),ao (a.map kV) us->ao (b.map kV) vs->a.map bF=b.map bF->Q (bw a b) s->KatLex prog w A fl false Q (us.zip vs) i s
 | [],[],us,vs,i,ra,rb,h,q=>by cases ra;cases rb;unfold KatLex;exact q
 | [],_::_,us,vs,i,ra,rb,h,q=>by cases h
 | _::_,[],us,vs,i,ra,rb,h,q=>by cases h
 | a::r,b::t,us,vs,i,ra,rb,h,q=>by
  cases ra with
  | @cons _ u _ us ra1 ra2 =>
   cases rb with
   | @cons _ v _ vs rb1 rb2 =>
    simp only [List.map_cons,List.cons.injEq] at h
    show KatLex prog w A fl false Q ((u,v)::us.zip vs) i s
    unfold KatLex
    refine (bo prog w).eqBool (fw ra1) (fw rb1) ?_
    unfold bw at q
    by_cases e:a=b
    ·rw [if_pos e] at q
     rw [if_pos (Qv e)]
     exact kZ (i+1) ra2 rb2 h.2 q
    ·rw [if_neg e] at q
     rw [if_neg (by rw [Qi e];exact Bool.false_ne_true)]
     exact wN ra1 rb1 h.1 q
noncomputable def dB (ds:List (List aa)) (i j:Nat):Bool:=bw (ds.getD i []) (ds.getD j [])
structure gm (n:Nat) (lt:Nat->Nat->Bool):Prop where
 as:∀ a b,a<n->b<n->lt a b=true->lt b a=false
 tr:∀ a b c,a<n->b<n->c<n->lt b a=false->lt c b=false->lt c a=false
open Classical in
noncomputable def b8 (n:Nat) (lt:Nat->Nat->Bool):Array Nat:=if h:0<n/\gm n lt then Classical.choose (oK n lt h.1 h.2.as h.2.tr) else (List.range n).toArray
theorem jm {n:Nat} {lt:Nat->Nat->Bool} (h0:0<n) (o:gm n lt):((b8 n lt).Perm (List.range n).toArray/\Sg lt (b8 n lt) 0 n/\(Sg lt (List.range n).toArray 0 n->b8 n lt=(List.range n).toArray))/\∃ (pend:Array (Nat × Nat × Nat)) (g:Nat),∀ (e:Ev) (prog:Program) (w:World) (A:Around) (E:Value->Shared->Prop) (s:Shared),kS n lt e prog w A s ->
  ∀ Q:Unit->SortSt->Shared->Prop,Q () (ak (b8 n lt) pend g e) s->kasC (model prog w) A E sortRuns' Q (ak (List.range n).toArray #[] 7 e) s:=by
 unfold b8
 rw [dif_pos ⟨h0,o⟩]
 exact Classical.choose_spec (oK n lt h0 o.as o.tr)
theorem oO (n:Nat) (lt:Nat->Nat->Bool):(b8 n lt).Perm (List.range n).toArray:=by
 by_cases h:0<n/\gm n lt
 ·exact (jm h.1 h.2).1.1
 ·unfold b8
  rw [dif_neg h]
theorem oP (n:Nat) (lt:Nat->Nat->Bool):(b8 n lt).size=n:=by rw [(oO n lt).size_eq];simp
theorem k4 {n:Nat} (lt:Nat->Nat->Bool) (h0:0<n):aM n (b8 n lt):=fun x hx=>by simpa using (Array.perm_iff_toList_perm.mp (oO n lt)).mem_iff.mp hx
theorem k5 {ds:List (List aa)} {sh:List Bool} (hsh:∀ d∈ds,d.map bF=sh):gm ds.length (dB ds):=by
 have gd:∀ i,i<ds.length->(ds.getD i []).map bF=sh:=fun i hi=>hsh _ (by
  rw [Qf,Qb hi]
  exact QE hi)
 have ir:∀ x:List aa,bw x x=false:=fun x=>by
  cases e:bw x x with
  | false=>rfl
  | true=>rw [gl e] at e;cases e
 refine ⟨fun a b _ _ h=>gl h,fun a b c ha hb hc h1 h2=>?_⟩
 unfold dB at h1 h2 ⊢
 have s1:=gd a ha
 have s2:=gd b hb
 have s3:=gd c hc
 generalize ds.getD a []=x at *
 generalize ds.getD b []=y at *
 generalize ds.getD c []=z at *
 by_cases e1:y=x
 ·subst e1;exact h2
 by_cases e2:z=y
 ·subst e2;exact h1
 exact gl (oN (jl (s2.trans s1.symm) e1 h1) (jl (s3.trans s2.symm) e2 h2))
theorem oQ {prog:Program} {w:World} {A:Around} {E:Value->Shared->Prop} {κ:SortKind} {ks vs:List Value} {lt:Nat->Nat->Bool} {s:Shared} (hl:ks.length=vs.length) (h2:2<=vs.length) (ho:gm vs.length lt)
  (hc:∀ i j,i<vs.length->j<vs.length->∀ C:Bool->Shared->Prop,C (lt i j) s->kas_ask prog w A κ ks i j C s) :
  wpAny (model prog w) A ((sortRuns').run (SortSt.mk' κ (ks.toArray.zip vs.toArray) #[] 7 none)) (fun r s'=>s'=s/\failedOf r.2=none/\(arrOf r.2).size=vs.length/\arrOf r.2=Array.map (kas_item (ks.toArray.zip vs.toArray)) (b8 vs.length lt)) E s:=by
 obtain ⟨⟨h3,h4⟩,pend,g,run⟩:=jm (n:=vs.length) (lt:=lt) (by omega) ho
 have est:SortSt.mk' κ (ks.toArray.zip vs.toArray) #[] 7 none=ak (List.toArray (List.range vs.length)) #[] 7 ⟨κ,ks.toArray.zip vs.toArray⟩:=by
  have e:=kas_range (ks.toArray.zip vs.toArray)
  rw [show (ks.toArray.zip vs.toArray).size=vs.length by simp [hl]] at e
  exact congrArg (fun a=>SortSt.mk' κ a #[] 7 none) e.symm
 rw [est]
 rw [kat_ask_eq hl] at hc
 exact run ⟨κ,ks.toArray.zip vs.toArray⟩ prog w A E s hc (fun r st' s'=>s'=s/\failedOf st'=none/\(arrOf st').size=vs.length/\arrOf st'=Array.map (kas_item (ks.toArray.zip vs.toArray)) (b8 vs.length lt)) ⟨rfl,rfl,by show (Array.map _ _).size=_;rw [Array.size_map];exact oP _ _,rfl⟩
noncomputable def bJ (ds:List (List aa)):List Nat:=if ds.length<2 then List.range ds.length else (b8 ds.length (dB ds)).toList
noncomputable def bB (ds:List (List aa)) (xs:List V):List V:=(bJ ds).map fun i=>xs.getD i .non
noncomputable def aY (H:Hp) (xs:List V) (ds:List (List aa)):Prop:=xs.length=ds.length/\∀ (i:Nat) (x:V) (d:List aa),xs[i]?=some x->ds[i]?=some d->∃ t,x=.ref t/\H t=some (.tup (d.map kV))
theorem jn {X:Cx} {pins:List (Addr × Obj)} {σ:St} {H:Hp} {s:Shared} (I:Inv X pins σ H s) {t:Addr} {d:List aa} (h:H t=some (.tup (d.map kV))):∃ (o:Obj) (vs:List Value) (n:Nat),s.heap.get? t=some o/\o.cls=.type "tuple"/\o.data=.seq vs.toArray n/\ao (d.map kV) vs:=by
 obtain ⟨_,its,rv,⟨o,ho,hc,n,hd⟩,_⟩:=I.hok t _ h
 exact ⟨o,its,n,ho,hc,hd,rv⟩
theorem k6 {X:Cx} {pins:List (Addr × Obj)} {σ:St} {H:Hp} {s:Shared} (I:Inv X pins σ H s):∀ {xs:List V} {ds:List (List aa)} {its:List Value},ao xs its->aY H xs ds->(∀ d∈ds,d≠[])->∃ fs:List Value,KatTups s.heap its fs/\fs.length=ds.length/\∀ (i:Nat) (f:Value) (d:List aa),fs[i]?=some f->ds[i]?=some d->∃ k r,d=k::r/\RelV (kV k) f
 | [],[],_,rv,h,_=>by cases rv;exact ⟨[],KatTups.nil,rfl,fun i f d h=>by simp at h⟩
 | [],_::_,_,_,h,_=>by simp [aY] at h
 | _::_,[],_,_,h,_=>by simp [aY] at h
 | x::xs,d::ds,_,rv,h,hn=>by
  cases rv with
  | @cons _ u _ us r1 r2 =>
   obtain ⟨t,rfl,ht⟩:=h.2 0 x d rfl rfl
   cases (show u=Value.ref t from r1)
   obtain ⟨o,vs,n,ho,hc,hd,rd⟩:=jn I ht
   obtain ⟨fs,k1,k2,k3⟩:=k6 I r2 (ds:=ds) ⟨by simpa using h.1,fun i y e a b=>h.2 (i+1) y e a b⟩ fun e he=>hn e (Qn _ he)
   cases d with
   | nil=>exact absurd rfl (hn [] (by simp))
   | cons k r =>
    cases rd with
    | @cons _ f _ gs q1 q2 =>
     refine ⟨f::fs,KatTups.cons ho hc hd (by simp) k1,by simp [k2],fun i g e a b=>?_⟩
     cases i with
     | zero =>
      have e1:f=g:=by simpa using a
      have e2:k::r=e:=by simpa using b
      subst e1 e2
      exact ⟨k,r,rfl,q1⟩
     | succ i=>exact k3 i g e a b
theorem jo:∀ {xs:List V} {vs:List Value},ao xs vs->∀ i,i<xs.length->RelV (xs.getD i .non) (vs.getD i Value.none)
 | _,_,.nil,i,h=>by simp at h
 | _,_,.cons r1 r2,0,_=>r1
 | _,_,.cons r1 r2,i+1,h=>jo r2 i (by simpa using h)
theorem k7 {xs:List V} {vs:List Value} (r:ao xs vs):∀ p:List Nat,(∀ i∈p,i<xs.length)->ao (p.map fun i=>xs.getD i .non) (p.map fun i=>vs.getD i Value.none)
 | [],_=>.nil
 | i::p,h=>.cons (jo r i (h i (by simp))) (k7 r p fun j hj=>h j (Qn _ hj))
theorem ik {α:Type} (d:α):∀ xs:List α,(List.range xs.length).map (fun i=>xs.getD i d)=xs:=by
 intro xs
 refine List.ext_getElem (by simp) fun i h1 h2=>?_
 simp [Qb h2]
section
variable {X:Cx} {pins:List (Addr × Obj)} {σ:St} {H:Hp} {s:Shared} {xs:List V} {ds:List (List aa)} {sh:List Bool}
theorem oR {A:Around} {E:Value->Shared->Prop} {a:Addr} {its:List Value} {n:Nat} {P:Fin->Shared->Prop}
  (I:Inv X pins σ H s) (fa:b4 X pins H a) (ho:s.heap.get? a=some (seqObj "list" its.toArray n)) (rv:ao xs its) (hz:xs.length<=sizeLine) (ht:aY H xs ds) (hsh:∀ d∈ds,d.map bF=sh) (hne:sh≠[])
  (fin:∀ (s':Shared) (out:Array Value) (n':Nat),Inv X pins σ H s'->s'.heap.get? a=some (seqObj "list" out n')->out.size<=sizeLine->ao (bB ds xs) out.toList->P (.done (.ret .none)) s') :
  wpAny (model X.prog X.w) A (Builtin.«list.sort» ⟨[.ref a],[]⟩) P E s:=by
 have hil:its.length=xs.length:=rv.length.symm
 rw [<- hil] at hz
 obtain ⟨f0,f1,f2,f3,f4,f5⟩:=id fa
 rw [list_sort_plain]
 refine Qa (listItems_at ho rfl ?_)
 refine Qa (listUpdate_at ho rfl ?_ (by rw [Qq];exact hz) (by show (#[]:Array Value).size<=_;simp))
 obtain ⟨e1,ho1⟩:∃ e1,(s.heap.update a (Obj.mapSeq fun _=>#[])).get? a=some (seqObj "list" #[] e1):=⟨_,get?_update_seq ho (fun _=>#[])⟩
 have I1:Inv X pins σ H { s with heap:=s.heap.update a (Obj.mapSeq fun _=>#[]) }:=I.turned (t':=s.toks) (fun b o hb e=>by rw [QK _ _ _ _ hb];exact e) f0 f1 f3 f4 f5
 generalize s.heap.update a (Obj.mapSeq fun _=>#[])=h1 at ho1 I1
 refine Qa (seqEpoch_at (s:={ s with heap:=h1 }) ho1 rfl ?_)
 refine Qa (wpAny_newTuple (s:={ s with heap:=h1 }) ?_ (by simpa using hz))
 have ho2:=Qd (seqObj "tuple" its.toArray.toList.toArray 0) ho1
 have I2:Inv X pins σ H { s with heap:=h1.push (seqObj "tuple" its.toArray.toList.toArray 0) }:=I1.kept (t':=s.toks) fun b o e=>Qd _ e
 change wpAny _ _ _ _ _ { s with heap:=h1.push (seqObj "tuple" its.toArray.toList.toArray 0) }
 generalize h1.push (seqObj "tuple" its.toArray.toList.toArray 0)=h2 at ho2 I2
 refine Qa (wpAny_newList (s:={ s with heap:=h2 }) ?_ (by simp))
 have ho3:=Qd (seqObj "list" #[] 0) ho2
 have I3:Inv X pins σ H { s with heap:=h2.push (seqObj "list" #[] 0) }:=I2.kept (t':=s.toks) fun b o e=>Qd _ e
 change wpAny _ _ _ _ _ { s with heap:=h2.push (seqObj "list" #[] 0) }
 generalize h2.push (seqObj "list" #[] 0)=h3 at ho3 I3
 dsimp only
 refine wpAny_holding ?_
 have ho3:({ s with heap:=h3 }:Shared).heap.get? a=some (seqObj "list" #[] e1):=ho3
 generalize { s with heap:=h3 }=s3 at I3 ho3 ⊢
 have last:∀ st':SortSt,failedOf st'=none->((arrOf st').map (·.2)).size<=sizeLine->ao (bB ds xs) ((arrOf st').map (·.2)).toList->wpAny (model X.prog X.w) A (do
   let __do_lift <- seqEpoch a
   Builtin.List.listUpdate (Value.ref a) fun x=>Array.map (fun x=>x.snd) (arrOf st')
   match failedOf st' with
    | some e=>do
     rule "list.sort.comparison-raised"
     throw e
     if (__do_lift != e1)=true then do
         rule "list.sort.modified"
         raiseErrorWords "ValueError" "list modified during sort"
         ret Value.none
      else ret Value.none
    | x =>
     if (__do_lift != e1)=true then do
      rule "list.sort.modified"
      raiseErrorWords "ValueError" "list modified during sort"
      ret Value.none
     else ret Value.none) P E s3:=by
  intro st' hf hsz hv
  refine Qa (seqEpoch_at ho3 rfl ?_)
  refine Qa (listUpdate_at ho3 rfl ?_ (by simp) (Nat.le_succ_of_le hsz))
  rw [hf]
  simp only [bne_self_eq_false,Bool.false_eq_true,if_false]
  exact Qc (fin _ _ _ (I3.turned (t':=s3.toks) (fun b o hb e=>by rw [QK _ _ _ _ hb];exact e) f0 f1 f3 f4 f5) (get?_update_seq ho3 (fun _=>(arrOf st').map (·.2))) hsz hv)
 have hdl:ds.length=its.length:=by rw [hil];exact ht.1.symm
 by_cases h2:its.toArray.size<2
 ·rw [if_pos h2]
  refine Qa (Qc ?_)
  rw [if_pos h2,StateT.run_pure]
  refine Qa (Qc ?_)
  have e:((arrOf (SortSt.mk' general' (its.toArray.zip its.toArray) #[] 7 none)).map (·.2))=its.toArray:=by
   show (its.toArray.zip its.toArray).map (·.2)=its.toArray
   rw [<- Array.toList_inj]
   simp [List.map_snd_zip]
  refine last _ rfl (by rw [e,Qq];exact hz) ?_
  rw [e]
  rw [Qq] at h2
  unfold bB bJ
  rw [if_pos (by rw [hdl];exact h2),hdl,hil,ik]
  exact rv
 ·rw [if_neg h2]
  rw [Qq] at h2
  have hnn:∀ d∈ds,d≠[]:=fun d hd z=>hne (by rw [<- hsh d hd,z];rfl)
  obtain ⟨fs,kt,kl,kf⟩:=k6 I3 rv ht hnn
  have hds:2<=its.length:=by omega
  obtain ⟨b0,sh',rfl⟩:∃ b r,sh=b::r:=by
   cases sh with
   | nil=>exact absurd rfl hne
   | cons b r=>exact ⟨b,r,rfl⟩
  refine Qa (kat_kind (T:=if b0=true then Value.type "int" else Value.type "str") kt (by rw [kl,hdl];omega) (fun v hv=>?_) (by cases b0<;>rfl) ?_)
  ·obtain ⟨i,hi⟩:=List.mem_iff_getElem?.mp hv
   have hil2:=(Qe hi).1
   have hid:i<ds.length:=by rw [<- kl];exact hil2
   obtain ⟨k,r,ed,rk⟩:=kf i v ds[i] hi (Qb hid)
   have hs:=hsh ds[i] (QE hid)
   rw [ed,List.map_cons] at hs
   have hb:bF k=b0:=(List.cons.inj hs).1
   cases k with
   | inl m =>
    obtain ⟨t,rfl⟩:=(show ∃ t,v=Value.int m t from rk)
    rw [<- hb]
    exact fun A Q E s _ q=>Qc q
   | inr z =>
    obtain ⟨t,rfl⟩:=(show ∃ t,v=Value.str z t from rk)
    rw [<- hb]
    exact fun A Q E s _ q=>Qc q
  rw [if_neg (by rw [Qq];exact h2)]
  refine Qa (QJ (oQ (vs:=its) (ks:=its) (lt:=dB ds) rfl hds (by rw [hil,ht.1];exact k5 hsh) fun i j hi hj C hC=>?_) ?_ fun _ _ e=>e)
  ·have one:∀ i,i<its.length->∃ (t:Addr) (o:Obj) (vs:List Value) (m:Nat),its.getD i Value.none=.ref t/\s3.heap.get? t=some o/\o.data=.seq vs.toArray m/\ao ((ds.getD i []).map kV) vs/\(ds.getD i []).map bF=b0::sh':=fun i hi=>by
    have hix:i<xs.length:=by rw [<- hil];exact hi
    have hid:i<ds.length:=by rw [hdl];exact hi
    obtain ⟨t,ex,hH⟩:=ht.2 i xs[i] ds[i] (Qb hix) (Qb hid)
    obtain ⟨o,vs,m,ho,hc,hd,rd⟩:=jn I3 hH
    have rg:=jo rv i hix
    have e1:xs.getD i .non=.ref t:=by rw [Qf,Qb hix,ex];rfl
    have e2:ds.getD i []=ds[i]:=by rw [Qf,Qb hid];rfl
    rw [e1] at rg
    exact ⟨t,o,vs,m,rg,ho,hd,by rw [e2];exact rd,by rw [e2];exact hsh _ (QE hid)⟩
   obtain ⟨t1,o1,v1,m1,a1,a2,a3,a4,a5⟩:=one i hi
   obtain ⟨t2,o2,v2,m2,c1,c2,c3,c4,c5⟩:=one j hj
   show wpAny (model X.prog X.w) A (keyLt' _ (its.getD i Value.none) (its.getD j Value.none)) C _ s3
   rw [a1,c1]
   have hl:v1.length=v2.length:=by
    have q1:=a4.length
    have q2:=c4.length
    have q3:=congrArg List.length (a5.trans c5.symm)
    simp only [Qg] at q1 q2 q3
    omega
   refine kat_lt a2 a3 c2 c3 ?_
   rw [Qi (by simp [hl])]
   exact kZ 0 a4 c4 (a5.trans c5.symm) hC
  rintro ⟨⟨⟩,st'⟩ s2 ⟨rfl,hf,hsz,ha⟩
  have hp:aM its.length (b8 its.length (dB ds)):=k4 _ (by omega)
  have em:((arrOf st').map (·.2)).toList=(b8 its.length (dB ds)).toList.map fun i=>its.getD i Value.none:=by
   rw [ha,Array.toList_map,Array.toList_map,List.map_map]
   refine List.map_congr_left fun i _=>?_
   show (kas_item (its.toArray.zip its.toArray) i).2=_
   rw [kat_item rfl]
  refine last st' hf ?_ ?_
  ·rw [Array.size_map,hsz];exact hz
  ·rw [em]
   unfold bB bJ
   rw [if_neg (by rw [hdl];exact h2),hdl]
   exact k7 rv _ fun i hi=>by rw [<- hil];exact hp i hi
end
end L2
namespace L2
open PySem PySem.Spec PyProof.Rows PySem.W
section
variable {X:Cx} {k:Nat} {f:Addr} {fd:FuncData} {ps:List Str} {sp:Sp} {dvs:List V} {ds:List Value} {pins:List (Addr × Obj)} {σ:St} {H:Hp} {s:Shared} {xs:List V} {ds':List (List aa)} {sh:List Bool}
theorem wO {A:Around} {E:Value->Shared->Prop} {a:Addr} {its:List Value} {n:Nat} {P:Fin->Shared->Prop} (F:az X.prog X.w X.K X.mg X.base aE k f fd ps sp) (hr:aw k A)
  (hA:∀ s H,dv X.prog X.w X.K X.mg X.base X.A X.stack s H->dv X.prog X.w X.K X.mg X.base A X.stack s H) (hb:Binds X.K fd ps ds) (hd:ao dvs ds)
  (I:Inv X pins σ H s) (fa:b4 X pins H a) (ho:s.heap.get? a=some (seqObj "list" its.toArray n)) (rv:ao xs its) (h64:xs.length<64) (hl:ds'.length=xs.length) (hsh:∀ d∈ds',d.map bF=sh) (hne:sh≠[])
  (hk:∀ (i:Nat) (x:V) (d:List aa) (H':Hp),Same H H'->xs[i]?=some x->ds'[i]?=some d->∀ Q':VK,(∀ t H2,Same H' H2->H2 t=some (.tup (d.map kV))->Q' (.ref t) H2)->sp ([x]++dvs) H' Q' E0)
  (fin:∀ (s':Shared) (H':Hp) (out:Array Value) (n':Nat),Same H H'->H' a=none->Inv X pins σ H' s'->s'.heap.get? a=some (seqObj "list" out n')->out.size<=sizeLine->ao (bB ds' xs) out.toList->P (.done (.ret .none)) s') :
  wpAny (model X.prog X.w) A (Builtin.«list.sort» ⟨[.ref a],[(Str.ofString "key",.ref f)]⟩) P E s:=by
 have hil:its.length=xs.length:=rv.length.symm
 have hz:its.length<=sizeLine:=by rw [sizeLine_eq];omega
 obtain ⟨f0,f1,f2,f3,f4,f5⟩:=id fa
 rw [wp]
 refine Qa (listItems_at ho rfl ?_)
 refine Qa (listUpdate_at ho rfl ?_ (by rw [Qq];exact hz) (by show (#[]:Array Value).size<=_;simp))
 obtain ⟨e1,ho1⟩:∃ e1,(s.heap.update a (Obj.mapSeq fun _=>#[])).get? a=some (seqObj "list" #[] e1):=⟨_,get?_update_seq ho (fun _=>#[])⟩
 have I1:Inv X pins σ H { s with heap:=s.heap.update a (Obj.mapSeq fun _=>#[]) }:=I.turned (t':=s.toks) (fun b o hb e=>by rw [QK _ _ _ _ hb];exact e) f0 f1 f3 f4 f5
 generalize s.heap.update a (Obj.mapSeq fun _=>#[])=h1 at ho1 I1
 refine Qa (seqEpoch_at (s:={ s with heap:=h1 }) ho1 rfl ?_)
 refine Qa (wpAny_newTuple (s:={ s with heap:=h1 }) ?_ (by simpa using hz))
 have ho2:=Qd (seqObj "tuple" its.toArray.toList.toArray 0) ho1
 have I2:Inv X pins σ H { s with heap:=h1.push (seqObj "tuple" its.toArray.toList.toArray 0) }:=I1.kept (t':=s.toks) fun b o e=>Qd _ e
 change wpAny _ _ _ _ _ { s with heap:=h1.push (seqObj "tuple" its.toArray.toList.toArray 0) }
 generalize h1.push (seqObj "tuple" its.toArray.toList.toArray 0)=h2 at ho2 I2
 refine Qa (wpAny_newList (s:={ s with heap:=h2 }) ?_ (by simp))
 have ho3:=Qd (seqObj "list" #[] 0) ho2
 have hK3:(h2.push (seqObj "list" #[] 0)).get? h2.objs.size=some (seqObj "list" #[] 0):=Qm _ rfl
 have fK:b4 X pins H h2.objs.size:=I2.fpOk (Qh _) (I2.hok.fresh (Qh _))
 have naK:a≠h2.objs.size:=Qz (Qo ho2)
 have I3:Inv X pins σ H { s with heap:=h2.push (seqObj "list" #[] 0) }:=I2.kept (t':=s.toks) fun b o e=>Qd _ e
 change wpAny _ _ _ _ _ { s with heap:=h2.push (seqObj "list" #[] 0) }
 generalize h2.push (seqObj "list" #[] 0)=h3 at ho3 hK3 I3
 dsimp only
 generalize h2.objs.size=K at hK3 fK naK
 obtain ⟨g0,g1,g2,g3,g4,g5⟩:=id fK
 refine wpAny_holding ?_
 refine Qa (wpAny_rule ?_)
 refine Qa ?_
 rw [<- Array.forIn_toList]
 refine wpAny_forIn_list _ (fun rest _ s'=>∃ (i:Nat) (kv:List Value) (kx:List V) (n':Nat) (H':Hp),rest=its.drop i/\Same H H'/\H' a=none/\H' K=none/\Inv X pins σ H' s'/\s'.heap.get? a=some (seqObj "list" #[] e1)/\s'.heap.get? K=some (seqObj "list" kv.toArray n')/\ao kx kv/\aY H' kx (ds'.take i)/\i<=its.length) _ ?_ ?_ _ _
  ⟨0,[],[],0,H,by simp,Same.refl _,f0,g0,I3,ho3,hK3,.nil,⟨by simp,fun i x d h=>by simp at h⟩,Qs _⟩
 ·rintro x rest b s' ⟨i,kv,kx,n',H1,er,sm,na1,nK1,I',hoa,hoK,rk,tk,hi⟩
  have hlt:i<its.length:=by
   have:=congrArg List.length er
   simp at this
   omega
  have e2:its[i]?=some x/\its.drop (i+1)=rest:=by
   rw [List.drop_eq_getElem_cons hlt] at er
   obtain ⟨z1,z2⟩:=List.cons.inj er
   exact ⟨by rw [Qb hlt,z1],z2.symm⟩
  have hix:i<xs.length:=by omega
  have hik:i<ds'.length:=by omega
  obtain ⟨u,eu,ru⟩:=rv.get (Qb hix)
  rw [e2.1] at eu
  cases eu
  have r1:ao ([xs[i]]++dvs) ([x]++ds):=ao.append (.cons ru .nil) hd
  have hsp:=hk i xs[i] ds'[i] H1 sm (Qb hix) (Qb hik) (fun v H2=>∃ t,v=.ref t/\Same H1 H2/\H2 t=some (.tup (ds'[i].map kV))) fun t H2 a b=>⟨t,rfl,a,b⟩
  have hlen:([x]++ds).length=ps.length:=by rw [<- r1.length];exact F.len _ _ _ _ hsp
  have ho2':∀ b∈[a,K],∃ o,s'.heap.get? b=some o/\∀ v,o.data≠.cell v:=by
   intro b hb
   rcases Ql hb with z | z
   ·subst z;exact ⟨_,hoa,fun v z=>nomatch z⟩
   ·have z:b=K:=by simpa using z
    subst z;exact ⟨_,hoK,fun v z=>nomatch z⟩
  have hf2:∀ b∈[a,K],b4 X pins H1 b:=by
   intro b hb
   rcases Ql hb with z | z
   ·subst z;exact ⟨na1,fa.2⟩
   ·have z:b=K:=by simpa using z
    subst z;exact ⟨nK1,fK.2⟩
  have Ip:=I'.pinned hf2 ho2'
  refine Qa (wpAny_attempt ?_)
  refine wpAny_call (codeAny_mono (F.run A X.stack s' H1 ⟨[x],[]⟩ ([x]++ds) ([xs[i]]++dvs) _ E0 hr (hA _ _ I'.env0) (hb s' [x] I'.kIn hlen) r1 hsp) fun r s2 hq=>?_)
  cases r with
  | error e=>exact False.elim hq
  | ok fl =>
   cases fl with
   | next=>exact False.elim hq
   | brk=>exact False.elim hq
   | cont=>exact False.elim hq
   | ret u =>
    obtain ⟨v,H2,os,bare,un,hok,rr,t,ev,sm2,ht2⟩:=(show CE X.stack X.prog X.w H1 s' _ u s2 from hq)
    subst ev
    cases (show u=Value.ref t from rr)
    have I2':=Ip.call' os un hok bare (fun b z=>absurd z (by simp))
    have pa:=I2'.pin (a,_) (List.mem_append_right _ (List.mem_append_right _ (eI (by simp) hoa)))
    have pK:=I2'.pin (K,_) (List.mem_append_right _ (List.mem_append_right _ (eI (by simp) hoK)))
    have hoa2:=pa.1
    have hoK2:=pK.1
    have I3':=I2'.unpinned
    have hxl:kx.length=i:=by
     have:=tk.1
     rw [Qr] at this
     omega
    have hkl:kv.length<=64:=by
     have:=rk.length
     omega
    dsimp only
    refine Qa (listUpdate_at hoK2 rfl ?_ (by rw [Qq,sizeLine_eq];omega) (by rw [Array.size_push,Qq,sizeLine_eq];omega))
    obtain ⟨n2,hn2⟩:∃ n2,(s2.heap.update K (Obj.mapSeq (·.push (Value.ref t)))).get? K=some (seqObj "list" (kv++[Value.ref t]).toArray n2):=⟨_,(get?_update_seq hoK2 (·.push (Value.ref t))).trans (by rw [List.push_toArray])⟩
    refine Qc ⟨i+1,kv++[Value.ref t],kx++[.ref t],n2,H2,e2.2.symm,sm.trans sm2,pa.2.1,pK.2.1,I3'.turned (t':=s2.toks) (fun b o hb e=>by rw [QK _ _ _ _ hb];exact e) pK.2.1 g1 g3 g4 g5,?_,hn2,rk.append (.cons (show RelV (.ref t) (Value.ref t) from rfl) .nil),?_,hlt⟩
    ·show (s2.heap.update K _).get? a=_
     rw [QK _ _ _ _ naK];exact hoa2
    ·rw [Qp hik]
     refine ⟨by simp only [Qw,Qr,List.length_cons,List.length_nil];omega,fun j y d hy hd'=>?_⟩
     by_cases hj:j<i
     ·rw [QA (by omega)] at hy
      rw [QA (by rw [Qr];omega)] at hd'
      obtain ⟨t',a1,a2⟩:=tk.2 j y d hy hd'
      exact ⟨t',a1,sm2 _ _ a2⟩
     ·rw [Qy (by omega)] at hy
      rw [Qy (by rw [Qr];omega)] at hd'
      have hj2:=(Qe hy).1
      have hji:j-kx.length=0:=by simp at hj2;omega
      rw [hji] at hy
      rw [show j-(List.take i ds').length=0 by rw [Qr];omega] at hd'
      have y1:V.ref t=y:=by simpa using hy
      have d1:ds'[i]=d:=by simpa using hd'
      exact ⟨t,y1.symm,by rw [<- d1];exact ht2⟩
 ·rintro b s' ⟨i,kv,kx,n',H1,er,sm,na1,nK1,I',hoa,hoK,rk,tk,hi⟩
  have hi':i=its.length:=by
   have:=congrArg List.length er
   simp at this
   omega
  have tk':aY H1 kx ds':=by
   rw [hi',Qu (by omega)] at tk
   exact tk
  have hkl:kv.length=its.length:=by rw [<- rk.length,tk'.1];omega
  clear tk er hi hi'
  have hdl:ds'.length=its.length:=by omega
  refine Qa (listItems_at hoK rfl ?_)
  have last:∀ st':SortSt,failedOf st'=none->((arrOf st').map (·.2)).size=its.length->ao (bB ds' xs) ((arrOf st').map (·.2)).toList->wpAny (model X.prog X.w) A (do
    Builtin.List.listUpdate (.ref K) fun _=>#[]
    letGo ((arrOf st').map (·.1)).toList (failedOf st').toList
    let touched:=(<- seqEpoch a) != e1
    Builtin.List.listUpdate (.ref a) fun _=>(arrOf st').map (·.2)
    if let some e:=failedOf st' then rule "list.sort.comparison-raised";throw e
    if touched then rule "list.sort.modified";raiseError "ValueError" "list modified during sort"
    ret .none) P E s':=by
   intro st' hf hsz vy
   refine Qa (listUpdate_at hoK rfl ?_ (by rw [Qq];omega) (by show (#[]:Array Value).size<=_;simp))
   refine Qa (wpAny_letGo ?_)
   have hoa2:(s'.heap.update K (Obj.mapSeq fun _=>#[])).get? a=some (seqObj "list" #[] e1):=by rw [QK _ _ _ _ naK];exact hoa
   have I2:Inv X pins σ H1 { s' with heap:=s'.heap.update K (Obj.mapSeq fun _=>#[]) }:=I'.turned (t':=s'.toks) (fun b o hb e=>by rw [QK _ _ _ _ hb];exact e) nK1 g1 g3 g4 g5
   refine Qa (seqEpoch_at (s:={ s' with heap:=s'.heap.update K (Obj.mapSeq fun _=>#[]) }) hoa2 rfl ?_)
   refine Qa (listUpdate_at (s:={ s' with heap:=s'.heap.update K (Obj.mapSeq fun _=>#[]) }) hoa2 rfl ?_ (by simp) (by rw [hsz];omega))
   rw [hf]
   simp only [bne_self_eq_false,Bool.false_eq_true,if_false]
   exact Qc (fin _ H1 _ _ sm na1 (I2.turned (t':=s'.toks) (fun b o hb e=>by rw [QK _ _ _ _ hb];exact e) na1 f1 f3 f4 f5) (get?_update_seq hoa2 (fun _=>(arrOf st').map (·.2))) (by show ((arrOf st').map (·.2)).size<=_;rw [hsz];exact hz) vy)
  by_cases h2:its.toArray.size<2
  ·rw [if_pos h2,if_pos h2]
   refine Qa (Qc ?_)
   rw [StateT.run_pure]
   refine Qa (Qc ?_)
   have e:((arrOf (SortSt.mk' general' (kv.toArray.zip its.toArray) #[] 7 none)).map (·.2))=its.toArray:=by
    show (kv.toArray.zip its.toArray).map (·.2)=its.toArray
    rw [<- Array.toList_inj]
    simp [List.map_snd_zip,hkl]
   refine last _ rfl (by rw [e,Qq]) ?_
   rw [e]
   rw [Qq] at h2
   unfold bB bJ
   rw [if_pos (by rw [hdl];exact h2),hdl,hil,ik]
   exact rv
  ·rw [if_neg h2,if_neg h2]
   rw [Qq] at h2
   have hnn:∀ d∈ds',d≠[]:=fun d hd z=>hne (by rw [<- hsh d hd,z];rfl)
   obtain ⟨fs,kt,kl,kf⟩:=k6 I' rk tk' hnn
   have hds:2<=its.length:=by omega
   obtain ⟨b0,sh',rfl⟩:∃ b r,sh=b::r:=by
    cases sh with
    | nil=>exact absurd rfl hne
    | cons b r=>exact ⟨b,r,rfl⟩
   refine Qa (kat_kind (T:=if b0=true then Value.type "int" else Value.type "str") kt (by rw [kl,hdl];omega) (fun v hv=>?_) (by cases b0<;>rfl) ?_)
   ·obtain ⟨i,hi⟩:=List.mem_iff_getElem?.mp hv
    have hil2:=(Qe hi).1
    have hid:i<ds'.length:=by rw [<- kl];exact hil2
    obtain ⟨k,r,ed,rk⟩:=kf i v ds'[i] hi (Qb hid)
    have hs:=hsh ds'[i] (QE hid)
    rw [ed,List.map_cons] at hs
    have hb:bF k=b0:=(List.cons.inj hs).1
    cases k with
    | inl m =>
     obtain ⟨t,rfl⟩:=(show ∃ t,v=Value.int m t from rk)
     rw [<- hb]
     exact fun A Q E s _ q=>Qc q
    | inr z =>
     obtain ⟨t,rfl⟩:=(show ∃ t,v=Value.str z t from rk)
     rw [<- hb]
     exact fun A Q E s _ q=>Qc q
   refine Qa (QJ (oQ (vs:=its) (ks:=kv) (lt:=dB ds') hkl hds (by rw [hil,<- hl];exact k5 hsh) fun i j hi hj C hC=>?_) ?_ fun _ _ e=>e)
   ·have one:∀ i,i<its.length->∃ (t:Addr) (o:Obj) (vs:List Value) (m:Nat),kv.getD i Value.none=.ref t/\s'.heap.get? t=some o/\o.data=.seq vs.toArray m/\ao ((ds'.getD i []).map kV) vs/\(ds'.getD i []).map bF=b0::sh':=fun i hi=>by
     have hix:i<kx.length:=by rw [tk'.1,hdl];exact hi
     have hid:i<ds'.length:=by rw [hdl];exact hi
     obtain ⟨t,ex,hH⟩:=tk'.2 i kx[i] ds'[i] (Qb hix) (Qb hid)
     obtain ⟨o,vs,m,ho,hc,hd,rd⟩:=jn I' hH
     have rg:=jo rk i hix
     have e1:kx.getD i .non=.ref t:=by rw [Qf,Qb hix,ex];rfl
     have e2:ds'.getD i []=ds'[i]:=by rw [Qf,Qb hid];rfl
     rw [e1] at rg
     exact ⟨t,o,vs,m,rg,ho,hd,by rw [e2];exact rd,by rw [e2];exact hsh _ (QE hid)⟩
    obtain ⟨t1,o1,v1,m1,a1,a2,a3,a4,a5⟩:=one i hi
    obtain ⟨t2,o2,v2,m2,c1,c2,c3,c4,c5⟩:=one j hj
    show wpAny (model X.prog X.w) A (keyLt' _ (kv.getD i Value.none) (kv.getD j Value.none)) C _ s'
    rw [a1,c1]
    have hl:v1.length=v2.length:=by
     have q1:=a4.length
     have q2:=c4.length
     have q3:=congrArg List.length (a5.trans c5.symm)
     simp only [Qg] at q1 q2 q3
     omega
    refine kat_lt a2 a3 c2 c3 ?_
    rw [Qi (by simp [hl])]
    exact kZ 0 a4 c4 (a5.trans c5.symm) hC
   rintro ⟨⟨⟩,st'⟩ s2 ⟨rfl,hf,hsz,ha⟩
   have hp:aM its.length (b8 its.length (dB ds')):=k4 _ (by omega)
   have em:((arrOf st').map (·.2)).toList=(b8 its.length (dB ds')).toList.map fun i=>its.getD i Value.none:=by
    rw [ha,Array.toList_map,Array.toList_map,List.map_map]
    refine List.map_congr_left fun i _=>?_
    show (kas_item (kv.toArray.zip its.toArray) i).2=_
    rw [kat_item hkl]
   refine last st' hf (by rw [Array.size_map,hsz]) ?_
   rw [em]
   unfold bB bJ
   rw [if_neg (by rw [hdl];exact h2),hdl]
   exact k7 rv _ fun i hi=>by rw [<- hil];exact hp i hi
theorem wP {Q:VK} {l:Addr} (F:az X.prog X.w X.K X.mg X.base aE k f fd ps sp) (hr:aw (k+2) X.A) (hb:Binds X.K fd ps ds) (hd:ao dvs ds)
  (I:Inv X pins σ H s) (hq:al X.K H l xs) (h64:xs.length<64) (hl:ds'.length=xs.length) (hsh:∀ d∈ds',d.map bF=sh) (hne:sh≠[])
  (hk:∀ (i:Nat) (x:V) (d:List aa) (H':Hp),Same H H'->xs[i]?=some x->ds'[i]?=some d->∀ Q':VK,(∀ t H2,Same H' H2->H2 t=some (.tup (d.map kV))->Q' (.ref t) H2)->sp ([x]++dvs) H' Q' E0)
  (q:∀ p H',Same H H'->H' p=none->Q (.ref p) (af H' p (.lst (bB ds' xs)))) :
  wpAny (model X.prog X.w) X.A (call (.builtin "sorted") [.ref l] [(Str.ofString "key",.ref f)]) (EP X pins σ Q) X.xe s:=by
 obtain ⟨its,rv,pl,hz⟩:=I.list hq
 have hil:its.length=xs.length:=rv.length.symm
 refine call_function_entry_kw kind_sorted plain_sorted entry_sorted (wo _ _) ?_
 unfold Builtin.«sorted»
 refine Qa (m:=checkCount "sorted" 1 1 _) (Qc ?_)
 refine Qa (collect_list pl.isList ?_ (by rw [hil];exact hz))
 have I1:Inv X pins σ H { s with heap:=(s.heap.push (seqObj "list" #[] 0)).update s.heap.objs.size (Obj.mapSeq (·++its.toArray)) }:=I.kept (t':=s.toks) fun b o e=>by
  rw [QK _ _ _ _ (Qz (Qo e))]
  exact Qd _ e
 generalize (s.heap.push (seqObj "list" #[] 0)).update s.heap.objs.size (Obj.mapSeq (·++its.toArray))=h1 at I1
 refine Qa (wpAny_newList (s:={ s with heap:=h1 }) ?_ (by rw [hil];exact hz))
 have hoL:(h1.push (seqObj "list" its.toArray 0)).get? h1.objs.size=some (seqObj "list" its.toArray 0):=Qm _ rfl
 have I2:Inv X pins σ H { s with heap:=h1.push (seqObj "list" its.toArray 0) }:=I1.kept (t':=s.toks) fun b o e=>Qd _ e
 have fL:b4 X pins H h1.objs.size:=I1.fpOk (Qh _) (I1.hok.fresh (Qh _))
 change wpAny _ _ _ _ _ { s with heap:=h1.push (seqObj "list" its.toArray 0) }
 dsimp only
 generalize h1.push (seqObj "list" its.toArray 0)=h2 at hoL I2
 generalize h1.objs.size=L at hoL fL
 have hr2:aw k X.A.in1.in1:=(aw.in1 (k:=k+1) hr).in1
 refine Qa (wpAny_holding (wpAny_call_entry_kw (s:={ s with heap:=h2 }) slot_list_sort ⟨_,hoL,rfl⟩ entry_list_sort (wO F hr2 (fun _ _ e=>e.in1.in1) hb hd I2 fL hoL rv h64 hl hsh hne hk fun s' H' out n' sm nL I' hoa hos vy=>⟨_,rfl,?_⟩) (wn _ _)))
 refine Qc ⟨_,rfl,.ref L,af H' L (.lst (bB ds' xs)),I'.adopt ⟨nL,fL.2⟩ ?_,rfl,q L H' sm nL⟩
 have hyl:(bB ds' xs).length<=sizeLine:=by rw [vy.length,Qx];exact hos
 exact ⟨hyl,out.toList,n',vy,by simpa using hoa⟩
end
noncomputable def wQ (sp:Sp) (dvs:List V) (K:PySem.W.Frag) (t:TE):TE:=fun σ H Q=>t σ H fun x H1=>∃ (l:Addr) (xs:List V) (ds':List (List aa)) (sh:List Bool),x=.ref l/\al K H1 l xs/\xs.length<64/\ds'.length=xs.length/\(∀ d∈ds',d.map bF=sh)/\sh≠[] /\
 (∀ (i:Nat) (x:V) (d:List aa) (H':Hp),Same H1 H'->xs[i]?=some x->ds'[i]?=some d->∀ Q':VK,(∀ t H2,Same H' H2->H2 t=some (.tup (d.map kV))->Q' (.ref t) H2)->sp ([x]++dvs) H' Q' E0)/\∀ p H',Same H1 H'->H' p=none->Q (.ref p) (af H' p (.lst (bB ds' xs)))
theorem wR {X:Cx} {k:Nat} {f:Addr} {fd:FuncData} {ps:List Str} {sp:Sp} {dvs:List V} {ds:List Value} {K:PySem.W.Frag} {e:Expr} {t:TE} {y:Str} {p p2 p3 pos:Pos} (hK:X.K=K) (F:az X.prog X.w X.K X.mg X.base aE k f fd ps sp) (hr:aw (k+2) X.A) (hb:Binds X.K fd ps ds) (hd:ao dvs ds)
  (hg:Gl X "sorted") (hm:X.mg "sorted"=none) (hgf:Gl X y) (hmf:X.mg y=some (.ref f)) (he:PE X e t) (hy:(y == ("__debug__":Str))=false:=by decide)
  (hs:starEach [e] X.env=(false,eval e X.env)::starEach [] X.env:=by rfl) :
  PE X (.Call (.Name "sorted" p) [e] [⟨some "key",.Name y p2,p3⟩] pos) (wQ sp dvs K t):=by
 intro pins s σ H Q I h
 subst hK
 refine wpAny_Call_Name_kw (fQ I hg hm (show bootBuiltins "sorted"=some (.builtin "sorted") from by decide +kernel) ?_)
 refine callWith_kw ?_ (by rw [hs];rfl) (by rw [hs];rfl)
 rw [hs]
 show wpAny _ _ (spliced ((false,eval e X.env)::backTo pos (starEach [] X.env))) _ _ s
 refine Calls.spliced_cons (ar (he pins s σ H _ I h) fun u s1 ⟨x,H1,I1,r1,q1⟩=>Calls.spliced_nil ?_)
 obtain ⟨l,xs,ds',sh,e1,hq,h64,hl,hsh,hne,hk,q⟩:=q1
 subst e1
 cases (show u=Value.ref l from r1)
 refine ar ((uG (te:=fun _ H Q=>Q (.ref f) H) (fun pins s σ H Q I h=>iN I hgf hmf ⟨.ref f,H,I,rfl,h⟩ hy) uF) pos pins s1 σ H1 (fun zs H2=>zs=[.ref f]/\H2=H1) I1 ⟨rfl,rfl⟩) fun ws s2 hsl59=>?_
 obtain ⟨zs,H2,I2,rz,ez,eH⟩:=hsl59
 subst ez eH
 obtain ⟨u,rfl,ru⟩:=vals1 rz
 cases (show u=Value.ref f from ru)
 exact wP F hr hb hd I2 hq h64 hl hsh hne hk q
end L2
namespace Mm
end Mm
namespace Mm
open PySem L2 PyProof.Rows
end Mm
namespace L2
open PySem PySem.Spec PyProof.Rows
noncomputable def k8 (z:Str) (i:Nat):V:=.str ⟨#[z.cps.toList.getD i 0]⟩
theorem wS {P:Program} {w:World} {K:PySem.W.Frag} {tg:Expr} (it:Addr) (z:Str) (t:Tok) :
  eF P w K tg (kJ z.length (k8 z)) [it] it (fun i h=>i<=z.length/\h.IsStrIter it "str_ascii_iterator" z t i) where
 mem:=by simp
 obj:=fun i h st b hb=>by
  have e:b=it:=by simpa using hb
  subst e
  obtain ⟨_,o,e,c,d⟩:=st
  exact ⟨o,e,fun v z=>by rw [d] at z;cases z⟩
 keep:=fun i h h' st k=>⟨st.1,by obtain ⟨o,e,r⟩:=st.2;exact ⟨o,k it (by simp) o e,r⟩⟩
 item:=by
  intro X hP hw hK hc i pins s σ H E I hf st hg
  subst hP hw hK
  have hg:i<z.length:=hg
  obtain ⟨f0,f1,f2,f3,f4,f5⟩:=hf it (by simp)
  have hl:z.cps.toList.length=z.length:=by simp [Str.length]
  have hcc:z.cps[i]?=some (z.cps.toList.getD i 0):=by
   rw [Qf,Qb (by omega),<- Array.getElem?_toList,Qb (by omega)];rfl
  refine wpAny_pyNext_ascii_item st.2 hcc fun h' st' sb=>?_
  have I1:Inv X pins σ H { s with heap:=h',toks:=s.toks+1 }:=I.turned (fun b o hb e=>(sb.2 b hb).trans e) f0 f1 f3 f4 f5
  obtain ⟨o,e,c,d⟩:=id st'
  exact ⟨_,rfl,iP (s:={ s with heap:=h',toks:=s.toks+1 }) e c d (by decide) ⟨k8 z i,H,I1,⟨s.toks,rfl⟩,⟨rfl,rfl⟩,⟨hg,st'⟩,fun b hb=>(hf b hb).1⟩⟩
 done:=by
  intro X hP hw hK hc i pins s σ H E I hf st hg
  subst hP hw hK
  have hg:z.length<=i:=hg
  obtain ⟨f0,f1,f2,f3,f4,f5⟩:=hf it (by simp)
  exact wpAny_pyNext_ascii_end (I.ok.hd hc) st.2 (Array.getElem?_eq_none (by show z.length<=i;exact hg)) fun h' eb=>⟨rfl,I.turned (t':=s.toks) (fun b o hb e=>eb b o hb e) f0 f1 f3 f4 f5⟩
 self:=fun _ _ _ _ _ st h=>wpAny_pyIter_striter_ascii st.2 h
section
variable {X:Cx} {tg:Expr}
noncomputable def wT (te:TE):TI:=fun σ H R=>te σ H fun x H1=>∃ z:Str,x=.str z/\z.cps.all (·<128)=true/\R (kJ z.length (k8 z)) H1
theorem wU {e:Expr} {te:TE} (he:PE X e te):PI X tg e (wT te):=by
 intro pins s σ H R I h
 refine ar (he pins s σ H _ I h) fun v s1 hsl60=>?_
 obtain ⟨x,H1,I1,r1,q1⟩:=hsl60
 obtain ⟨z,e,ha,q⟩:=q1
 subst e
 obtain ⟨t,rfl⟩:=r1
 refine wpAny_pyIter_ascii ha ?_
 refine ⟨s1.heap.objs.size,[s1.heap.objs.size],_,_,H1,rfl,I1.kept (t':=s1.toks) fun b o e=>Qd _ e,wS _ z t,⟨Qs _,_,Qm _ rfl,rfl,rfl⟩,fun b hb=>?_,q⟩
 have e:b=s1.heap.objs.size:=by simpa using hb
 subst e
 exact I1.fpOk (Qh _) (I1.hok.fresh (Qh _))
end
end L2
namespace L2
open PySem PySem.Spec PyProof.Rows
section
variable {X:Cx}
theorem il {K:PySem.W.Frag} (hK:X.K=K):bv X (compareOp .In) (iY K false):=by subst hK;exact u0
theorem wV {K:PySem.W.Frag} (hK:X.K=K):bv X (compareOp .NotIn) (iY K true):=by subst hK;exact u4
end
section
variable {js:List Nat} {tt:TT} {te:TE}
theorem wW {n:Nat} {y:Nat->V} {σ:St} {H:Hp} {Q:VK} (Pv:Nat->List V->Hp->Prop) (h0:Pv 0 [] H)
  (hs:∀ i ys H,i<n->Pv i ys H->tt (some (y i)::bO js σ) H fun b H2=>if b=true then te (some (y i)::bO js σ) H2 fun z H3=>ys.length<sizeLine/\Pv (i+1) (ys++[z]) H3 else Pv (i+1) ys H2)
  (hd:∀ ys H,Pv n ys H->∀ p,H p=none->Q (.ref p) (af H p (.lst ys))):eQ (kJ n y) js tt te σ H Q:=by
 refine ⟨fun i m ys H=>i+m=n/\Pv i ys H,⟨n,by simp,h0⟩,?_⟩
 rintro i m ys H1 ⟨e,q⟩
 rcases Nat.lt_or_ge i n with hlt | hge
 ·refine .inr ⟨hlt,fun ys' H'=>Pv (i+1) ys' H',fun ys' H' q'=>⟨m-1,by omega,by omega,q'⟩,?_⟩
  rintro x H' ⟨rfl,rfl⟩
  exact hs i ys _ hlt q
 ·have:i=n:=by omega
  subst this
  exact .inl ⟨hge,hd ys H1 q⟩
end
end L2
namespace Mm
open PySem L2 PyProof.Rows
noncomputable def wX:List Str:=["+","-","*","less","same","and","or"]
inductive Ex where
 | num (n:Int)
 | truth (z:Str)
 | name (z:Str)
 | not (e:Ex)
 | op (w:Str) (a b:Ex)
 | of (n:Str) (e:Ex)
 | many (w n:Str) (es:List Ex)
mutual
inductive aW (H:Hp):V->Ex->Prop where
 | num {t:Addr} {n:Int}:H t=some (.tup [.str "num",.int n])->aW H (.ref t) (.num n)
 | truth {t:Addr} {z:Str}:H t=some (.tup [.str "truth",.str z])->aW H (.ref t) (.truth z)
 | name {t:Addr} {z:Str}:H t=some (.tup [.str "name",.str z])->aW H (.ref t) (.name z)
 | not {t:Addr} {v:V} {e:Ex}:H t=some (.tup [.str "not",v])->aW H v e->aW H (.ref t) (.not e)
 | op {t:Addr} {z:Str} {v u:V} {a b:Ex}:H t=some (.tup [.str z,v,u])->aW H v a->aW H u b->aW H (.ref t) (.op z a b)
 | of {t:Addr} {n:Str} {v:V} {e:Ex}:H t=some (.tup [.str "of",.str n,v])->aW H v e->aW H (.ref t) (.of n e)
 | many {t l:Addr} {z n:Str} {vs:List V} {es:List Ex}:H t=some (.tup [.str z,.str n,.ref l])->H l=some (.tup vs)->ExsAt H vs es->aW H (.ref t) (.many z n es)
inductive ExsAt (H:Hp):List V->List Ex->Prop where
 | nil:ExsAt H [] []
 | cons {v:V} {vs:List V} {e:Ex} {es:List Ex}:aW H v e->ExsAt H vs es->ExsAt H (v::vs) (e::es)
end
noncomputable def k9 (H H':Hp):Prop:=∀ b xs,H b=some (.tup xs)->H' b=some (.tup xs)
mutual
theorem aW.kept {H H':Hp} (s:k9 H H'):∀ {v:V} {e:Ex},aW H v e->aW H' v e
 | _,_,.num h=>.num (s _ _ h)
 | _,_,.truth h=>.truth (s _ _ h)
 | _,_,.name h=>.name (s _ _ h)
 | _,_,.not h a=>.not (s _ _ h) (a.kept s)
 | _,_,.op h a b=>.op (s _ _ h) (a.kept s) (b.kept s)
 | _,_,.of h a=>.of (s _ _ h) (a.kept s)
 | _,_,.many h l a=>.many (s _ _ h) (s _ _ l) (a.kept s)
theorem ExsAt.kept {H H':Hp} (s:k9 H H'):∀ {vs:List V} {es:List Ex},ExsAt H vs es->ExsAt H' vs es
 | _,_,.nil=>.nil
 | _,_,.cons a b=>.cons (a.kept s) (b.kept s)
end
theorem _root_.L2.Same.tups {H H':Hp} (s:Same H H'):k9 H H':=fun _ _ h=>s _ _ h
end Mm
namespace L2
open PySem PySem.Spec PyProof.Rows PySem.W
theorem wY {X:Cx} {K:PySem.W.Frag} (hK:X.K=K):bv X (binaryOp .Add) (nA K):=by subst hK;exact uN
theorem oS:bootBuiltins "sorted"=some (.builtin "sorted"):=by decide +kernel
theorem jp {X:Cx} {e:Expr}:PE X e (fun _ _ _=>False):=fun _ _ _ _ _ _ h=>h.elim
theorem oT (ds:List (List aa)):(bJ ds).length=ds.length:=by
 unfold bJ
 split
 ·simp
 ·rw [Qx]
  exact oP _ _
theorem oU {n i:Nat} (h:i<n):(List.toArray (List.range n)).getD i 0=i:=by simp [Array.getD,h]
theorem wZ {lt:Nat->Nat->Bool} {n:Nat} (hn:0<n) (h:∀ i,i+1<n->lt (i+1) i=false):b8 n lt=(List.range n).toArray:=by
 by_cases o:0<n/\gm n lt
 ·refine (jm o.1 o.2).1.2.2 fun i j _ hij hj=>?_
  rw [oU hj,oU (by omega)]
  obtain ⟨k,rfl⟩:∃ k,j=i+k+1:=⟨j-i-1,by omega⟩
  clear hij
  induction k with
  | zero=>exact h i hj
  | succ k ih=>exact o.2.tr _ _ _ (by omega) (by omega) hj (ih (by omega)) (h _ hj)
 ·unfold b8
  rw [dif_neg o]
theorem w4 {ds:List (List aa)} {xs:List V} (h64:ds.length<1000) (hl:ds.length=xs.length) (h:∀ i,i+1<ds.length->bw (ds.getD (i+1) []) (ds.getD i [])=false):bB ds xs=xs:=by
 unfold bB bJ
 split
 ·rw [hl,ik]
 ·rw [wZ (by omega) (lt:=dB ds) h]
  show (List.range ds.length).map _=_
  rw [hl,ik]
end L2
namespace Mm
open PySem L2 PyProof.Rows
inductive Tr where
 | set (r:Nat) (n:Str) (e:Ex)
 | tell (r:Nat) (e:Ex)
 | iff (r:Nat) (e:Ex) (b o:List Tr)
 | whl (r:Nat) (e:Ex) (b:List Tr)
 | give (r:Nat) (e:Ex)
 | df (r:Nat) (n k:Str) (ps:List (Str × Str)) (b:List Tr)
 | kd (r:Nat) (n:Str) (ps:List (Str × Str))
noncomputable def Tr.row:Tr->Nat
 | .set r _ _=>r
 | .tell r _=>r
 | .iff r _ _ _=>r
 | .whl r _ _=>r
 | .give r _=>r
 | .df r _ _ _ _=>r
 | .kd r _ _=>r
mutual
noncomputable def Tr.deep:Tr->Nat
 | .set _ _ _=>0
 | .tell _ _=>0
 | .iff _ _ b o=>max (deeps b) (deeps o)
 | .whl _ _ b=>deeps b
 | .give _ _=>0
 | .df _ _ _ _ b=>deeps b
 | .kd _ _ _=>0
noncomputable def deeps:List Tr->Nat
 | []=>0
 | t::ts=>max (t.deep+1) (deeps ts)
end
inductive bK where
 | s (z:Str)
 | i (n:Nat)
 | e (x:Ex)
 | b (ts:List Tr)
 | p (ps:List (Str × Str))
noncomputable def Tr.parts:Tr->List bK
 | .set r n e=>[.s "set",.i r,.s n,.e e]
 | .tell r e=>[.s "tell",.i r,.e e]
 | .iff r e b o=>[.s "if",.i r,.e e,.b b,.b o]
 | .whl r e b=>[.s "while",.i r,.e e,.b b]
 | .give r e=>[.s "give",.i r,.e e]
 | .df r n k ps b=>[.s "def",.i r,.s n,.s k,.p ps,.b b]
 | .kd r n ps=>[.s "kind",.i r,.s n,.p ps]
theorem Tr.parts_len (t:Tr):t.parts.length<=6:=by cases t<;>simp [Tr.parts]
noncomputable def d0 (H:Hp) (v:V) (ps:List (Str × Str)):Prop:=∃ (t:Addr) (us:List Addr),v=.ref t/\H t=some (.tup (us.map V.ref))/\us.length=ps.length/\∀ (i:Nat) (u:Addr) (q:Str × Str),us[i]?=some u->ps[i]?=some q->H u=some (.tup [.str q.1,.str q.2])
mutual
inductive bi (H:Hp) (sh:Bool):V->Tr->Prop where
 | mk {t:Addr} {vs:List V} {x:Tr}:H t=some (.tup vs)->PsAt H sh vs x.parts->bi H sh (.ref t) x
inductive PsAt (H:Hp) (sh:Bool):List V->List bK->Prop where
 | nil:PsAt H sh [] []
 | cons {v:V} {vs:List V} {p:bK} {ps:List bK}:PAt H sh v p->PsAt H sh vs ps->PsAt H sh (v::vs) (p::ps)
inductive PAt (H:Hp) (sh:Bool):V->bK->Prop where
 | s (z:Str):PAt H sh (.str z) (.s z)
 | i (n:Nat):PAt H sh (.int (n:Int)) (.i n)
 | e {v:V} {x:Ex}:aW H v x->PAt H sh v (.e x)
 | b {l:Addr} {xs:List V} {ts:List Tr}:H l=some (.lst xs)->LAt H sh xs ts->PAt H sh (.ref l) (.b ts)
 | p {v:V} {ps:List (Str × Str)}:d0 H v ps->PAt H sh v (.p ps)
inductive LAt (H:Hp) (sh:Bool):List V->List Tr->Prop where
 | nil:LAt H sh [] []
 | cons {v:V} {vs:List V} {t:Tr} {ts:List Tr}:OAt H sh v t->LAt H sh vs ts->LAt H sh (v::vs) (t::ts)
inductive OAt (H:Hp) (sh:Bool):V->Tr->Prop where
 | plain {v:V} {t:Tr}:sh=false->bi H sh v t->OAt H sh v t
 | shared {p:Addr} {v:V} {t:Tr}:sh=true->H p=some (.tup [.int 1,v])->bi H sh v t->OAt H sh (.ref p) t
end
structure bE (H H':Hp):Prop where
 t:∀ b xs,H b=some (.tup xs)->H' b=some (.tup xs)
 l:∀ b xs,H b=some (.lst xs)->H' b=some (.lst xs)
 z:∀ b o x,H b=some (.frz o x)->H' b=some (.frz o x)
theorem bE.refl (H:Hp):bE H H:=⟨fun _ _ h=>h,fun _ _ h=>h,fun _ _ _ h=>h⟩
theorem bE.trans {H H1 H2:Hp} (a:bE H H1) (b:bE H1 H2):bE H H2:=⟨fun _ _ h=>b.1 _ _ (a.1 _ _ h),fun _ _ h=>b.2 _ _ (a.2 _ _ h),fun _ _ _ h=>b.z _ _ _ (a.z _ _ _ h)⟩
theorem _root_.L2.Same.ls {H H':Hp} (s:Same H H'):bE H H':=⟨fun _ _ h=>s _ _ h,fun _ _ h=>s _ _ h,fun _ _ _ h=>s _ _ h⟩
theorem d0.kept {H H':Hp} {v:V} {ps:List (Str × Str)} (h:d0 H v ps) (s:bE H H'):d0 H' v ps:=by obtain ⟨t,us,a,b,c,d⟩:=h;exact ⟨t,us,a,s.1 _ _ b,c,fun i u q x y=>s.1 _ _ (d i u q x y)⟩
mutual
theorem bi.kept {H H':Hp} {sh:Bool} (s:bE H H'):∀ {v:V} {t:Tr},bi H sh v t->bi H' sh v t
 | _,_,.mk h a=>.mk (s.1 _ _ h) (a.kept s)
theorem PsAt.kept {H H':Hp} {sh:Bool} (s:bE H H'):∀ {vs:List V} {ps:List bK},PsAt H sh vs ps->PsAt H' sh vs ps
 | _,_,.nil=>.nil
 | _,_,.cons a b=>.cons (a.kept s) (b.kept s)
theorem PAt.kept {H H':Hp} {sh:Bool} (s:bE H H'):∀ {v:V} {p:bK},PAt H sh v p->PAt H' sh v p
 | _,_,.s z=>.s z
 | _,_,.i n=>.i n
 | _,_,.e a=>.e (a.kept s.1)
 | _,_,.b l a=>.b (s.2 _ _ l) (a.kept s)
 | _,_,.p a=>.p (a.kept s)
theorem LAt.kept {H H':Hp} {sh:Bool} (s:bE H H'):∀ {vs:List V} {ts:List Tr},LAt H sh vs ts->LAt H' sh vs ts
 | _,_,.nil=>.nil
 | _,_,.cons a b=>.cons (a.kept s) (b.kept s)
theorem OAt.kept {H H':Hp} {sh:Bool} (s:bE H H'):∀ {v:V} {t:Tr},OAt H sh v t->OAt H' sh v t
 | _,_,.plain e a=>.plain e (a.kept s)
 | _,_,.shared e h a=>.shared e (s.1 _ _ h) (a.kept s)
end
theorem PsAt.length {H:Hp} {sh:Bool}:∀ {vs:List V} {ps:List bK},PsAt H sh vs ps->vs.length=ps.length
 | _,_,.nil=>rfl
 | _,_,.cons _ b=>by simp [b.length]
theorem PsAt.get {H:Hp} {sh:Bool}:∀ {vs:List V} {ps:List bK},PsAt H sh vs ps->∀ {i:Nat} {v:V},vs[i]?=some v->∃ p,ps[i]?=some p/\PAt H sh v p
 | _,_,.nil,i,v,h=>by simp at h
 | _,_,.cons a b,0,v,h=>by
  cases (show some _=some v from h)
  exact ⟨_,rfl,a⟩
 | _,_,.cons a b,i+1,v,h=>b.get h
theorem PsAt.snoc {H:Hp} {sh:Bool}:∀ {vs:List V} {ps:List bK} {v:V} {p:bK},PsAt H sh vs ps->PAt H sh v p->PsAt H sh (vs++[v]) (ps++[p])
 | _,_,_,_,.nil,h=>.cons h .nil
 | _,_,_,_,.cons a b,h=>.cons a (b.snoc h)
theorem PAt.other {H:Hp} {sh sh':Bool} {v:V} {p:bK} (h:PAt H sh v p) (n:∀ ts,p≠.b ts):PAt H sh' v p:=by
 cases h with
 | s z=>exact .s z
 | i m=>exact .i m
 | e a=>exact .e a
 | b _ _=>exact absurd rfl (n _)
 | p a=>exact .p a
theorem aW.tup {H:Hp} {v:V} {e:Ex} (h:aW H v e):∃ t xs,v=.ref t/\H t=some (.tup xs):=by
 cases h with
 | num h=>exact ⟨_,_,rfl,h⟩
 | truth h=>exact ⟨_,_,rfl,h⟩
 | name h=>exact ⟨_,_,rfl,h⟩
 | not h _=>exact ⟨_,_,rfl,h⟩
 | op h _ _=>exact ⟨_,_,rfl,h⟩
 | of h _=>exact ⟨_,_,rfl,h⟩
 | many h _ _=>exact ⟨_,_,rfl,h⟩
theorem w5 (K:PySem.W.Frag):PySem.W.kitOne K (.type "int") (.type "list")=some false:=by rfl
theorem w6 (K:PySem.W.Frag):PySem.W.kitOne K (.type "str") (.type "list")=some false:=by rfl
theorem oV (K:PySem.W.Frag):PySem.W.kitOne K (.type "tuple") (.type "list")=some false:=by rfl
theorem PAt.isL {K:PySem.W.Frag} {H:Hp} {sh:Bool} {v:V} {p:bK} (h:PAt H sh v p):(∃ ts l xs,p=.b ts/\v=.ref l/\H l=some (.lst xs)/\LAt H sh xs ts/\cm K H v (.type "list")/\PySem.W.kitOne K (.type "list") (.type "list")=some true) ∨
  (∀ ts,p≠.b ts)/\∃ t,cm K H v t/\PySem.W.kitOne K t (.type "list")=some false:=by
 cases h with
 | s z=>exact .inr ⟨fun _ h=>(nomatch h),_,.str z,w6 K⟩
 | i n=>exact .inr ⟨fun _ h=>(nomatch h),_,.int _,w5 K⟩
 | e a =>
  obtain ⟨t,xs,rfl,ht⟩:=aW.tup a
  exact .inr ⟨fun _ h=>(nomatch h),_,.tup ht,oV K⟩
 | b h a=>exact .inl ⟨_,_,_,rfl,rfl,h,a,.lst h,by rfl⟩
 | p a =>
  obtain ⟨t,us,rfl,ht,_⟩:=a
  exact .inr ⟨fun _ h=>(nomatch h),_,.tup ht,oV K⟩
theorem LAt.length {H:Hp} {sh:Bool}:∀ {vs:List V} {ts:List Tr},LAt H sh vs ts->vs.length=ts.length
 | _,_,.nil=>rfl
 | _,_,.cons _ b=>by simp [b.length]
theorem LAt.get {H:Hp} {sh:Bool}:∀ {vs:List V} {ts:List Tr},LAt H sh vs ts->∀ {i:Nat} {v:V},vs[i]?=some v->∃ t,ts[i]?=some t/\OAt H sh v t
 | _,_,.nil,i,v,h=>by simp at h
 | _,_,.cons a b,0,v,h=>by
  cases (show some _=some v from h)
  exact ⟨_,rfl,a⟩
 | _,_,.cons a b,i+1,v,h=>b.get h
theorem LAt.snoc {H:Hp} {sh:Bool}:∀ {vs:List V} {ts:List Tr} {v:V} {t:Tr},LAt H sh vs ts->OAt H sh v t->LAt H sh (vs++[v]) (ts++[t])
 | _,_,_,_,.nil,h=>.cons h .nil
 | _,_,_,_,.cons a b,h=>.cons a (b.snoc h)
mutual
noncomputable def Ex.deep:Ex->Nat
 | .num _=>0
 | .truth _=>0
 | .name _=>0
 | .not e=>e.deep+1
 | .op _ a b=>max a.deep b.deep+1
 | .of _ e=>e.deep+1
 | .many _ _ es=>cM es+1
noncomputable def cM:List Ex->Nat
 | []=>0
 | e::es=>max e.deep (cM es)
end
mutual
noncomputable def Ex.good:Ex->Prop
 | .num _=>True
 | .truth _=>True
 | .name _=>True
 | .not e=>e.good
 | .op w a b=>w∈wX/\a.good/\b.good
 | .of _ e=>e.good
 | .many w _ es=>(w="do"∨w="new")/\es.length<=20/\lc es
noncomputable def lc:List Ex->Prop
 | []=>True
 | e::es=>e.good/\lc es
end
theorem lf:∀ {es:List Ex} {e:Ex},e∈es->e.deep<=cM es
 | x::es,e,h=>by
  rcases Ql h with z | z
  ·subst z;simp [cM];omega
  ·have:=lf z;simp [cM];omega
noncomputable def Ex.fit (e:Ex):Prop:=e.good/\e.deep<8
mutual
noncomputable def Tr.asc:Tr->Prop
 | .set _ _ e=>e.fit
 | .tell _ e=>e.fit
 | .iff _ e b o=>e.fit/\(b.length<=20/\ascs b)/\o.length<=20/\ascs o
 | .whl _ e b=>e.fit/\b.length<=20/\ascs b
 | .give _ e=>e.fit
 | .df _ _ _ ps b=>ps.length<=20/\b.length<=20/\ascs b
 | .kd _ _ ps=>ps.length<=20
noncomputable def ascs:List Tr->Prop
 | []=>True
 | t::ts=>t.asc/\(∀ u∈ts,t.row<u.row)/\ascs ts
end
theorem ExsAt.get {H:Hp}:∀ {vs:List V} {es:List Ex},ExsAt H vs es->∀ {i:Nat} {v:V},vs[i]?=some v->∃ e,es[i]?=some e/\aW H v e
 | _,_,.nil,i,v,h=>by simp at h
 | _,_,.cons a b,0,v,h=>by
  cases (show some _=some v from h)
  exact ⟨_,rfl,a⟩
 | _,_,.cons a b,i+1,v,h=>ExsAt.get b h
theorem ExsAt.len {H:Hp}:∀ {vs:List V} {es:List Ex},ExsAt H vs es->vs.length=es.length
 | _,_,.nil=>rfl
 | _,_,.cons a b=>by simp [ExsAt.len b]
theorem lg {t:Tr} {ts:List Tr} (h:bK.b ts∈t.parts):deeps ts<=t.deep:=by
 cases t with
 | set r n e=>simp [Tr.parts] at h
 | tell r e=>simp [Tr.parts] at h
 | iff r e b o =>
  simp [Tr.parts] at h
  rcases h with h | h<;>subst h<;>simp [Tr.deep]<;>omega
 | whl r e b=>simp [Tr.parts] at h;subst h;simp [Tr.deep]
 | give r e=>simp [Tr.parts] at h
 | df r n k ps b=>simp [Tr.parts] at h;subst h;simp [Tr.deep]
 | kd r n ps=>simp [Tr.parts] at h
theorem jq {t:Tr} {ts:List Tr} (a:t.asc) (h:bK.b ts∈t.parts):ts.length<=20/\ascs ts:=by
 cases t with
 | set r n e=>simp [Tr.parts] at h
 | tell r e=>simp [Tr.parts] at h
 | iff r e b o =>
  simp [Tr.parts] at h
  rcases h with h | h<;>subst h
  ·exact a.2.1
  ·exact a.2.2
 | whl r e b=>simp [Tr.parts] at h;subst h;exact a.2
 | give r e=>simp [Tr.parts] at h
 | df r n k ps b=>simp [Tr.parts] at h;subst h;exact a.2
 | kd r n ps=>simp [Tr.parts] at h
theorem jr:∀ {ts:List Tr} {t:Tr},t∈ts->t.deep+1<=deeps ts
 | u::ts,t,h=>by
  rcases Ql h with z | z
  ·subst z;simp [deeps];omega
  ·have:=jr z;simp [deeps];omega
theorem lh:∀ {ts:List Tr} {t:Tr},ascs ts->t∈ts->t.asc
 | u::ts,t,a,h=>by
  rcases Ql h with z | z
  ·subst z;exact a.1
  ·exact lh a.2.2 z
end Mm
namespace L2
open PySem PySem.Spec PyProof.Rows
section
variable {prog:Program} {w:World} {A:Around} {E:Value->Shared->Prop} {s:Shared} {it d:Addr} {i ep:Nat} {es:Array DictEntry} {od:Obj}
theorem w9 {Q:Option Value->Shared->Prop} (hit:s.heap.IsKeyIter it d i es.size ep) (hod:s.heap.get? d=some od) (hdd:od.data=.dict es ep) (hlt:i<es.size)
  (hQ:∀ h',h'.IsKeyIter it d (i+1) es.size ep->Heap.SameBut it s.heap h'->Q (some es[i].key) { s with heap:=h' }):wpAny (model prog w) A (pyNext (.ref it)) Q E s:=by
 have hT:=hit.typeIs
 obtain ⟨o,ho,hc,hd⟩:=hit
 unfold pyNext
 refine Qa (wpAny_attempt (wpAny_callSpecial?_slot (name:=Str.ofString "__next__") hT F.slot_dict_keyiterator_next (wpAny_call_entry F.slot_dict_keyiterator_next hT F.entry_dict_keyiterator_next ?_ (F.args_dict_keyiterator_next_1 _))))
 refine Qa (Qc (Qa (Qa ?_)))
 first | refine Qa (wpAny_typeNameOfWhole_keyiter hT (Qc (Qa (wpAny_fieldsOf ho hd ?_)))) | refine Qa (wpAny_typeNameOf_keyiter hT (Qc (Qa (wpAny_fieldsOf ho hd ?_))))
 simp only [show Builtin.Dict_items.ownsTuple "dict_keyiterator"=false by decide,Bool.false_eq_true,if_false]
 show wpAny _ _ (if (Value.ref d == Value.none)=true then _ else _) _ _ _
 rw [if_neg (show ¬ (Value.ref d == Value.none)=true from fun z=>by cases z)]
 refine Qa (Qc (Qa (wpAny_dictEntries hod hdd ?_)))
 rw [if_neg (by simp)]
 refine Qa (Qc (Qa (wpAny_dictEpoch hod hdd ?_)))
 rw [if_neg (by simp)]
 refine Qc ?_
 simp only [show ¬ ((i:Int)<0) by omega,if_false,Int.toNat_natCast,Array.getElem?_eq_getElem hlt]
 refine Qa ?_
 first | refine Qa (wpAny_typeNameOfWhole_keyiter hT (Qc (Qa (wpAny_isOneOf_keyiter hT ?_)))) | refine Qa (wpAny_typeNameOf_keyiter hT (Qc (Qa (wpAny_isOneOf_keyiter hT ?_))))
 show wpAny _ _ (setField (.ref it) 1 (rawInt ((i:Int)+1)) >>= _) _ _ _
 refine Qa (wpAny_setField ho hd (by simp) (Qa (wpAny_holding ?_)))
 have hi2:(s.heap.update it (Obj.mapFields (·.setIfInBounds 1 (rawInt ((i:Int)+1))))).IsKeyIter it d (i+1) es.size ep:=by
  refine ⟨_,Heap.get?_update_self _ ho (Obj.isFreed_of_fields (Obj.data_mapFields hd _)),(Obj.cls_mapFields ..).trans hc,?_⟩
  rw [Obj.data_mapFields hd]
  simp [rawInt]
 refine Qa (wpAny_isOneOf_keyiter (s:={ s with heap:=s.heap.update it (Obj.mapFields (·.setIfInBounds 1 (rawInt ((i:Int)+1)))) }) hi2.typeIs ?_)
 show wpAny _ _ (pure es[i].key) _ _ _
 exact Qc (Qc ⟨_,rfl,Qc (hQ _ hi2 (Heap.SameBut.update ..))⟩)
theorem xa {Q:Option Value->Shared->Prop} (hh:A.handled=none) (hit:s.heap.IsKeyIter it d i es.size ep) (hod:s.heap.get? d=some od) (hdd:od.data=.dict es ep) (hge:es.size<=i)
  (hQ:∀ h',Heap.ExtBut it s.heap h'->Q none { s with heap:=h' }):wpAny (model prog w) A (pyNext (.ref it)) Q E s:=by
 have hT:=hit.typeIs
 obtain ⟨o,ho,hc,hd⟩:=hit
 unfold pyNext
 refine Qa (wpAny_attempt (wpAny_callSpecial?_slot (name:=Str.ofString "__next__") hT F.slot_dict_keyiterator_next (wpAny_call_entry F.slot_dict_keyiterator_next hT F.entry_dict_keyiterator_next ?_ (F.args_dict_keyiterator_next_1 _))))
 refine Qa (Qc (Qa (Qa ?_)))
 first | refine Qa (wpAny_typeNameOfWhole_keyiter hT (Qc (Qa (wpAny_fieldsOf ho hd ?_)))) | refine Qa (wpAny_typeNameOf_keyiter hT (Qc (Qa (wpAny_fieldsOf ho hd ?_))))
 simp only [show Builtin.Dict_items.ownsTuple "dict_keyiterator"=false by decide,Bool.false_eq_true,if_false]
 show wpAny _ _ (if (Value.ref d == Value.none)=true then _ else _) _ _ _
 rw [if_neg (show ¬ (Value.ref d == Value.none)=true from fun z=>by cases z)]
 refine Qa (Qc (Qa (wpAny_dictEntries hod hdd ?_)))
 rw [if_neg (by simp)]
 refine Qa (Qc (Qa (wpAny_dictEpoch hod hdd ?_)))
 rw [if_neg (by simp)]
 refine Qc ?_
 simp only [show ¬ ((i:Int)<0) by omega,if_false,Int.toNat_natCast,Array.getElem?_eq_none hge]
 refine Qa ?_
 first | refine Qa (wpAny_typeNameOfWhole_keyiter hT (Qc ?_)) | refine Qa (wpAny_typeNameOf_keyiter hT (Qc ?_))
 show wpAny _ _ (setField (.ref it) 0 .none >>= _) _ _ _
 refine Qa (wpAny_setField ho hd (by simp) ?_)
 show wpAny _ _ (newExc (.type "StopIteration") [] >>= _) _ _ _
 refine Qa ?_
 simp only [newExc,newTuple]
 refine Qa (wpAny_newObj_type (Qa (m:=firstArgMember _ _) (wpAny_of_eq (a:=Value.none) (by first | rfl | (simp only [firstArgMember];rfl)) (wpAny_newObj_type ?_ (by size_fits)))) (by size_fits))
 simp only [raiseNew]
 refine Qa (wpAny_handled ?_)
 rw [show A.in1.handled=none from hh]
 refine (Qa (Qc (wpAny_throw ?_)))
 refine (Qa (wpAny_isInstance (T:="StopIteration") (b:=true) ⟨_,Qm _ rfl,rfl⟩ isSubtype_stop (Qc (hQ _ ?_))))
 exact ((Heap.SameBut.update ..).extBut.push _).push _
theorem xf {Q:Value->Shared->Prop} (hT:s.TypeIs (.ref d) "dict") (hd:(d == sysModules)=false) (hod:s.heap.get? d=some od) (hdd:od.data=.dict es ep)
  (hQ:Q (.ref s.heap.objs.size) { s with heap:=s.heap.push { cls:=.type "dict_keyiterator",data:=.fields #[.ref d,.int 0 0,.int es.size 0,.int ep 0] } }):wpAny (model prog w) A (pyIter (.ref d)) Q E s:=by
 refine wpAny_pyIter_slot hT F.slot_dict_iter (wpAny_call_entry F.slot_dict_iter hT F.entry_dict_iter ?_ (F.args_dict_iter_1 _))
 unfold Builtin.«dict.__iter__» Builtin.Dict.dictSlotNone
 refine Qa (Qa (wpAny_notOrdered_dict hT ?_))
 show wpAny _ _ (pure (Value.ref d)) _ _ _
 refine Qc ?_
 show wpAny _ _ (Builtin.Dict.showsAll d >>= _) _ _ _
 unfold Builtin.Dict.showsAll
 rw [if_neg (show ¬ (d == sysModules)=true by rw [hd];decide)]
 refine Qa (Qc (Qa (wpAny_dictEntries hod hdd (Qa (wpAny_dictEpoch hod hdd ?_)))))
 refine Qa (wpAny_newObj_type (Qc ⟨_,rfl,"dict_keyiterator",_,⟨_,Qm _ rfl,rfl⟩,F.slot_dict_keyiterator_next.lookup,?_⟩))
 simpa [rawInt] using hQ
end
theorem xg {P:Program} {w:World} {H:Hp} {h:Heap} {d:Addr} {od:Obj} {kvs:List (List aa × V)} {es:Array DictEntry} {ep:Nat} (ok:bh P w H h) (e:H d=some (.frz od (.dT kvs))) (hdd:od.data=.dict es ep) :
  h.get? d=some od/\es.size=kvs.length/\∀ (i:Nat) (hi:i<es.size) kv,kvs[i]?=some kv->∃ b,es[i].key=.ref b/\H b=some (.tup (kv.1.map kV)):=by
 obtain ⟨hod,_,_,xs,r,o,es',ep',h1,_,h3,h4,_⟩:=(show bp P w H h d (.frz od (.dT kvs)) from ok d _ e)
 rw [hod] at h1
 cases h1
 rw [hdd] at h3
 cases h3
 have hl:es.size=xs.length:=by rw [<- Qx,h4,Qg]
 refine ⟨hod,by rw [hl];exact (Paired.length r).symm,fun i hi kv hk=>?_⟩
 have hix:i<xs.length:=by omega
 have ek:es[i]=entryOfKey (tupleKind (bo P w)) xs[i]:=by
  have:=congrArg (fun l=>l[i]?) h4
  simp only [Qk,Qb hix] at this
  rw [Array.getElem?_toList,Array.getElem?_eq_getElem hi] at this
  exact Qj this
 have pr:∀ {l:List (List aa × V)} {m:List (List aa × Addr × Value)},Paired (fun (p:List aa × V) (q:List aa × Addr × Value)=>p.1=q.1/\H q.2.1=some (.tup (p.1.map kV))/\RelV p.2 q.2.2) l m->∀ (i:Nat) p q,l[i]?=some p->m[i]?=some q->H q.2.1=some (.tup (p.1.map kV)):=by
  intro l m pq
  induction pq with
  | nil=>intro i p q h;simp at h
  | cons hq _ ih =>
   intro i p q h1 h2
   cases i with
   | zero =>
    simp only [List.getElem?_cons_zero,Option.some.injEq] at h1 h2
    subst h1 h2
    exact hq.2.1
   | succ j =>
    simp only [List.getElem?_cons_succ] at h1 h2
    exact ih j p q h1 h2
 exact ⟨xs[i].2.1,by rw [ek];rfl,pr r i kv xs[i] hk (Qb hix)⟩
section
variable {X:Cx} {tg:Expr}
theorem Inv.freeze {pins:List (Addr × Obj)} {σ:St} {H:Hp} {s:Shared} {d:Addr} {kvs:List (List aa × V)} {od:Obj} (I:Inv X pins σ H s) (e:H d=some (.dT kvs)) (ho:s.heap.get? d=some od):Inv X pins σ (af H d (.frz od (.dT kvs))) s:=by
 have h0:∀ {t:Nat},Inv X pins σ (af H d (.frz od (.dT kvs))) { s with heap:=s.heap,toks:=t }:=by
  intro t
  refine I.write (x:=d) (e:=d) (by rw [e];trivial) (.inl rfl) (fun b q hb z=>z) ⟨_,ho⟩ ⟨ho,?_⟩
  have q:=I.hok d _ e
  exact q.stay (fun _ _ _ z=>z) (fun c z=>by rw [av (fun y=>by rw [y,e] at z;cases z)];exact z) fun c xs z=>by rw [av (fun y=>by rw [y,e] at z;cases z)];exact z
 exact h0 (t:=s.toks)
end
end L2
namespace L2
open PySem PySem.Spec PyProof.Rows PySem.W
theorem xh {prog:Program} {w:World} {d:Addr} {od:Obj} {es:Array DictEntry} {ep:Nat} (hc:od.cls=.type "dict") (hdd:od.data=.dict es ep) (hs:(d == sysModules)=false) :
  KdlSrc prog w "dict" d d es.size (fun i v=>∃ h:i<es.size,v=es[i].key) (fun h=>h.get? d=some od) where
 type:=fun s h=>⟨od,h,hc⟩
 there:=fun h e=>⟨Qo e,Qo e⟩
 keep:=fun h h' e k=>k d (.inl rfl) _ e
 notList:=by decide
 notTuple:=by decide
 hint:=fun A E s Q h q=>kdl_hint_dict ⟨od,h,hc⟩ q
 iter:=fun A s hh h=>by
  refine ⟨_,fun i h'=>h'.IsKeyIter s.heap.objs.size d i es.size ep/\h'.get? d=some od,fun E Q q=>xf ⟨od,h,hc⟩ hs h hdd q,?_,?_⟩
  ·have hne:d≠s.heap.objs.size:=Qz (Qo h)
   refine ⟨fun b hb=>List.mem_cons.mpr (.inl (by simpa using hb)),fun i h1 h2 st k=>⟨st.1.at fun o e=>k _ (by simp) o e,k d (by simp) _ st.2⟩,?_,?_,?_⟩
   ·intro i s1 Q E hi st q
    refine w9 st.1 st.2 hdd hi fun h' st' sb=>?_
    exact q _ h' s1.toks ⟨hi,rfl⟩ ⟨st',(sb.2 d hne).trans st.2⟩ fun b o hb e=>(sb.2 b (by simpa using hb)).trans e
   ·intro s1 Q E st q
    refine xa hh st.1 st.2 hdd (Qh _) fun h' eb=>?_
    exact q h' s1.toks fun b o hb e=>eb b o (by simpa using hb) e
   ·intro i s1 Q E st q
    exact wpAny_pyIter_keyiter st.1 q
  ·exact ⟨⟨_,Qm _ rfl,rfl,rfl⟩,Qd _ h⟩
section
variable {X:Cx}
theorem xi (hc:X.calm=true):dG X (.builtin "sorted") (fun as H Q=>∃ (d:Addr) (kvs:List (List aa × V)) (sh:List Bool),as=[.ref d]/\H d=some (.dT kvs)/\kvs.length<1000/\(∀ kv∈kvs,kv.1.map bF=sh)/\sh≠[] /\
  ∀ p xs,H p=none->aY H xs (kvs.map (·.1))->Q (.ref p) (af H p (.lst (bB (kvs.map (·.1)) xs)))):=by
 intro pins s σ H as us Q I r h
 obtain ⟨d,kvs,sh,rfl,hd,h64,hsh,hne,q⟩:=h
 obtain ⟨u,rfl,ru⟩:=vals1 r
 cases (show u=Value.ref d from ru)
 obtain ⟨z,hs,ys,rel,dd⟩:=nZ I.hok hd
 have hT:=dd.typeIs
 obtain ⟨od,es,ep,ho,hcl,hdat,_⟩:=dd
 have hcl:od.cls=.type "dict":=by
  obtain ⟨o,e,c⟩:=hT
  rw [ho] at e
  cases e
  exact c
 have If:=I.freeze hd ho
 obtain ⟨_,hsz,hat⟩:=xg If.hok aj hdat
 refine Calls.call_function_entry kind_sorted plain_sorted entry_sorted (args_sorted1 _) ?_
 unfold Builtin.«sorted»
 refine Qa (m:=checkCount "sorted" 1 1 _) (Qc ?_)
 refine Qa (kdu_collect (xh hcl hdat hs) (I.ok.hd hc) ho (by rw [hsz,sizeLine_eq];omega) fun h1 tk acc hk hacc=>?_)
 obtain ⟨hal,hav⟩:=hacc
 have I1:Inv X pins σ H { s with heap:=h1,toks:=tk }:=I.kept (t':=tk) hk
 have each:∀ (i:Nat) (v:Value),acc.toList[i]?=some v->∃ b kv,v=.ref b/\kvs[i]?=some kv/\H b=some (.tup (kv.1.map kV)):=fun i v hv=>by
  rw [Array.getElem?_toList] at hv
  obtain ⟨hi,rfl⟩:=hav i v hv
  have hik:i<kvs.length:=by rw [<- hsz];exact hi
  obtain ⟨b,e1,e2⟩:=hat i hi kvs[i] (Qb hik)
  have hbd:b≠d:=fun z=>by rw [z,aj] at e2;cases e2
  rw [av hbd] at e2
  exact ⟨b,kvs[i],e1,Qb hik,e2⟩
 obtain ⟨xs,rv,hxt⟩:∃ xs:List V,ao xs acc.toList/\∀ (i:Nat) (x:V),xs[i]?=some x->∃ b kv,x=.ref b/\kvs[i]?=some kv/\H b=some (.tup (kv.1.map kV)):=by
  have go:∀ (vs:List Value) (f:Nat->Option (List aa × V)),(∀ (i:Nat) (v:Value),vs[i]?=some v->∃ b kv,v=.ref b/\f i=some kv/\H b=some (.tup (kv.1.map kV)))->∃ xs:List V,ao xs vs/\∀ (i:Nat) (x:V),xs[i]?=some x->∃ b kv,x=.ref b/\f i=some kv/\H b=some (.tup (kv.1.map kV)):=by
   intro vs
   induction vs with
   | nil=>intro f _;exact ⟨[],.nil,fun i x h=>by simp at h⟩
   | cons v vs ih =>
    intro f h
    obtain ⟨b,kv,rfl,e2,e3⟩:=h 0 v rfl
    obtain ⟨xs,r1,r2⟩:=ih (fun i=>f (i+1)) fun i v hv=>h (i+1) v hv
    refine ⟨.ref b::xs,.cons rfl r1,fun i x hx=>?_⟩
    cases i with
    | zero =>
     have:V.ref b=x:=by simpa using hx
     subst this
     exact ⟨b,kv,rfl,e2,e3⟩
    | succ i=>exact r2 i x hx
  exact go acc.toList (fun i=>kvs[i]?) each
 have hxl:xs.length=kvs.length:=by rw [rv.length,Qx,hal,hsz]
 have ht:aY H xs (kvs.map (·.1)):=⟨by rw [hxl,Qg],fun i x k hx hk=>by
  obtain ⟨b,kv,e1,e2,e3⟩:=hxt i x hx
  rw [Qk,e2] at hk
  have:kv.1=k:=by simpa using hk
  exact ⟨b,e1,by rw [<- this];exact e3⟩⟩
 have hsh2:∀ k∈kvs.map (·.1),k.map bF=sh:=fun k hk=>by
  obtain ⟨kv,h1,rfl⟩:=QF hk
  exact hsh kv h1
 have h64x:xs.length<1000:=by rw [hxl];exact h64
 generalize acc.toList=its at rv
 have hil:its.length=xs.length:=rv.length.symm
 have hz:its.length<=sizeLine:=by rw [sizeLine_eq];omega
 refine Qa (wpAny_newList (s:={ s with heap:=h1,toks:=tk }) ?_ hz)
 have hoL:(h1.push (seqObj "list" its.toArray 0)).get? h1.objs.size=some (seqObj "list" its.toArray 0):=Qm _ rfl
 have I2:Inv X pins σ H { s with heap:=h1.push (seqObj "list" its.toArray 0),toks:=tk }:=I1.kept (t':=tk) fun b o e=>Qd _ e
 have fL:b4 X pins H h1.objs.size:=I1.fpOk (Qh _) (I1.hok.fresh (Qh _))
 change wpAny _ _ _ _ _ { s with heap:=h1.push (seqObj "list" its.toArray 0),toks:=tk }
 dsimp only
 generalize h1.push (seqObj "list" its.toArray 0)=h2 at hoL I2
 generalize h1.objs.size=L at hoL fL
 refine Qa (wpAny_holding (wpAny_call_entry (s:={ s with heap:=h2,toks:=tk }) slot_list_sort ⟨_,hoL,rfl⟩ entry_list_sort (oR I2 fL hoL rv (by rw [<- hil];exact hz) ht hsh2 hne fun s' out n' I' hoa hos vy=>⟨_,rfl,?_⟩) (args_list_sort _)))
 refine Qc ⟨_,rfl,.ref L,af H L (.lst (bB (kvs.map (·.1)) xs)),I'.adopt fL ?_,rfl,q L xs fL.1 ht⟩
 have hyl:(bB (kvs.map (·.1)) xs).length<=sizeLine:=by rw [vy.length,Qx];exact hos
 exact ⟨hyl,out.toList,n',vy,by simpa using hoa⟩
end
end L2
namespace L2
open PySem PySem.Spec PyProof.Rows
theorem im {X:Cx} {K:PySem.W.Frag} {n:String} (hK:X.K=K):dG X (.builtin "isinstance") (fun xs H Q=>∃ x t b,xs=[x,.ty n]/\cm K H x t/\PySem.W.kitOne K t (.type n)=some b/\Q (.bl b) H):=by subst hK;exact vq
end L2
namespace L2
theorem xj {α:Type}:∀ {us:List α},us.length=1->∃ a,us=[a]
 | [a],_=>⟨a,rfl⟩
theorem ll {α:Type} {n:Nat}:∀ {us:List α},us.length=n+1->∃ a r,us=a::r/\r.length=n
 | a::r,h=>⟨a,r,rfl,Nat.succ.inj h⟩
theorem jt {α:Type} {us:List α} (h:us.length=2):∃ a b,us=[a,b]:=by
 obtain ⟨a,r,rfl,k⟩:=ll h
 obtain ⟨b,rfl⟩:=xj k
 exact ⟨a,b,rfl⟩
theorem xk {α:Type} {us:List α} (h:us.length=3):∃ a b c,us=[a,b,c]:=by
 obtain ⟨a,r,rfl,k⟩:=ll h
 obtain ⟨b,c,rfl⟩:=jt k
 exact ⟨a,b,c,rfl⟩
theorem xl {α:Type} {us:List α} (h:us.length=4):∃ a b c d,us=[a,b,c,d]:=by
 obtain ⟨a,r,rfl,k⟩:=ll h
 obtain ⟨b,c,d,rfl⟩:=xk k
 exact ⟨a,b,c,d,rfl⟩
end L2
namespace Mm
end Mm
namespace L2
open PySem PySem.Spec PyProof.Rows
theorem Same.seqT {K:PySem.W.Frag} {H H':Hp} {a:Addr} {xs:List V} (e:Same H H') (h:ai K H a xs):ai K H' a xs:=by
 rcases h with (h | ⟨o,h⟩) | h
 ·exact .inl (.inl (e _ _ h))
 ·exact .inl (.inr ⟨o,e _ _ h⟩)
 ·exact .inr h
mutual
theorem cr.kept {K:PySem.W.Frag} {H H':Hp} (s:Same H H'):∀ {v:V} {d:PyData},cr K H v d->cr K H' v d
 | _,_,.non=>.non
 | _,_,.bl b=>.bl b
 | _,_,.int i=>.int i
 | _,_,.str x=>.str x
 | _,_,.lst a b=>.lst (s.seq a) (b.kept s)
 | _,_,.tup a b=>.tup (s.seqT a) (b.kept s)
theorem RdvA.kept {K:PySem.W.Frag} {H H':Hp} (s:Same H H'):∀ {v:List V} {d:List PyData},RdvA K H v d->RdvA K H' v d
 | _,_,.nil=>.nil
 | _,_,.cons a b=>.cons (a.kept s) (b.kept s)
end
end L2
namespace L2
open PySem PySem.SetTable
section
variable {α:Type}
noncomputable def ju (xs:Array Nat):Prop:=∀ a b,a<b->b<xs.size->xs.getD a 0<xs.getD b 0
theorem xm {xs:Array Nat} {k:Nat} (d d':Nat) (h:k<xs.size):xs.getD k d=xs.getD k d':=by simp [Array.getD,h]
theorem lm (xs:Array Nat) (j:Nat) (hr:ju xs):∀ fuel lo hi,hi<=xs.size->lo<=hi->hi-lo<=fuel->(∀ k,k<lo->xs.getD k 0<j)->(∀ k,hi<=k->k<xs.size->j<=xs.getD k 0) ->
  below.go xs j fuel lo hi<=xs.size/\(∀ k,k<below.go xs j fuel lo hi->xs.getD k 0<j)/\∀ k,below.go xs j fuel lo hi<=k->k<xs.size->j<=xs.getD k 0
 | 0,lo,hi,h1,h2,h3,h4,h5=>by
  have e:lo=hi:=by omega
  subst e
  unfold below.go
  exact ⟨h1,h4,h5⟩
 | fuel+1,lo,hi,h1,h2,h3,h4,h5=>by
  unfold below.go
  by_cases hlt:lo<hi
  ·rw [if_pos hlt]
   dsimp only
   have hm:(lo+hi) / 2<xs.size:=by omega
   rw [xm j 0 hm]
   by_cases hc:xs.getD ((lo+hi) / 2) 0<j
   ·rw [if_pos hc]
    refine lm xs j hr fuel _ hi h1 (by omega) (by omega) (fun k hk=>?_) h5
    by_cases e:k=(lo+hi) / 2
    ·rw [e];exact hc
    ·have:=hr k ((lo+hi) / 2) (by omega) hm;omega
   ·rw [if_neg hc]
    refine lm xs j hr fuel lo _ (by omega) (by omega) (by omega) h4 fun k h6 h7=>?_
    by_cases e:k=(lo+hi) / 2
    ·rw [e];omega
    ·have:=hr ((lo+hi) / 2) k (by omega) h7;omega
  ·rw [if_neg hlt]
   have e:lo=hi:=by omega
   subst e
   exact ⟨h1,h4,h5⟩
theorem oW (xs:Array Nat) (j:Nat) (hr:ju xs):below xs j<=xs.size/\(∀ k,k<below xs j->xs.getD k 0<j)/\∀ k,below xs j<=k->k<xs.size->j<=xs.getD k 0 :=
 lm xs j hr xs.size 0 xs.size (Qh _) (Qs _) (by omega) (fun k hk=>absurd hk (Nat.not_lt_zero _)) (fun k h1 h2=>by omega)
structure bT (t:SetTable) (es:Array α) (L:List (Nat × α)):Prop where
 pl:t.place.toList=L.map (·.1)
 el:es.toList=L.map (·.2)
 up:(L.map (·.1)).Pairwise (·<·)
 du:t.dummies=#[]
 le:∀ p∈L,p.1<=t.mask
 fl:L.length<=t.mask
variable {t:SetTable} {es:Array α} {L:List (Nat × α)}
theorem getD_list {xs:Array Nat} {l:List Nat} (h:xs.toList=l) (k:Nat):xs.getD k 0=l.getD k 0:=by
 subst h
 rw [Array.getD_eq_getD_getElem?,Qf,Array.getElem?_toList]
theorem xn {xs:Array Nat} {l:List Nat} (h:xs.toList=l) (u:l.Pairwise (·<·)):ju xs:=fun a b hab hb=>by
 have hl:xs.size=l.length:=by rw [<- h];simp
 rw [getD_list h,getD_list h,Qf,Qf,Qb (by omega:a<l.length),Qb (by omega:b<l.length)]
 exact (List.pairwise_iff_getElem.mp u) a b (by omega) (by omega) hab
theorem bT.rise (T:bT t es L):ju t.place:=xn T.pl T.up
theorem bT.size (T:bT t es L):t.place.size=L.length/\es.size=L.length:=by
 have h1:=congrArg List.length T.pl
 have h2:=congrArg List.length T.el
 simp at h1 h2
 exact ⟨h1,h2⟩
theorem bT.place (T:bT t es L) (i:Nat):t.place[i]?=(L[i]?).map (·.1):=by rw [<- Array.getElem?_toList,T.pl,Qk]
theorem bT.entry (T:bT t es L) (i:Nat):es[i]?=(L[i]?).map (·.2):=by rw [<- Array.getElem?_toList,T.el,Qk]
theorem bT.live (T:bT t es L) {i:Nat} {p:Nat × α} (h:L[i]?=some p):t.slot p.1=.live i:=by
 obtain ⟨hb,h1,h2⟩:=oW t.place p.1 T.rise
 have hi:i<L.length:=(Qe h).1
 have hs:=T.size.1
 have hp:t.place.getD i 0=p.1:=by rw [Array.getD_eq_getD_getElem?,T.place,h];rfl
 have e:below t.place p.1=i:=by
  rcases Nat.lt_trichotomy (below t.place p.1) i with z | z | z
  ·have a:=h2 (below t.place p.1) (Qh _) (by omega)
   have b:=T.rise (below t.place p.1) i z (by omega)
   omega
  ·exact z
  ·have:=h1 i z;omega
 unfold SetTable.slot
 dsimp only
 rw [e,T.place,h]
 simp
theorem bT.empty (T:bT t es L) {j:Nat} (h:∀ p∈L,p.1≠j):t.slot j=.empty:=by
 unfold SetTable.slot
 dsimp only
 rw [if_neg,if_neg]
 ·rw [T.du]
  unfold SetTable.has
  simp
 ·intro z
  have z:t.place[below t.place j]?=some j:=by simpa using z
  rw [T.place] at z
  obtain ⟨p,h1,h2⟩:=Option.map_eq_some_iff.mp z
  exact h p (Qt h1) h2
theorem oX {β:Type} (xs:Array β) (p:Nat) (x:β):(insertAt xs p x).toList=xs.toList.take p++x::xs.toList.drop p:=by
 simp [insertAt,Qu]
theorem xq {L:List Nat} {p j:Nat} (u:L.Pairwise (·<·)) (h1:∀ k,k<p->∀ x,L[k]?=some x->x<j) (h2:∀ k,p<=k->∀ x,L[k]?=some x->j<x):(L.take p++j::L.drop p).Pairwise (·<·):=by
 rw [List.pairwise_append]
 refine ⟨u.sublist (List.take_sublist _ _),List.pairwise_cons.mpr ⟨fun x hx=>?_,u.sublist (List.drop_sublist _ _)⟩,fun a ha b hb=>?_⟩
 ·obtain ⟨k,hk⟩:=List.mem_iff_getElem?.mp hx
  rw [List.getElem?_drop] at hk
  exact h2 (p+k) (by omega) x hk
 ·obtain ⟨k,hk⟩:=List.mem_iff_getElem?.mp ha
  have hkp:k<p:=by
   rcases Nat.lt_or_ge k p with z | z
   ·exact z
   ·rw [List.getElem?_eq_none (by rw [Qr];omega)] at hk;cases hk
  rw [List.getElem?_take_of_lt hkp] at hk
  have ha':=h1 k hkp a hk
  rcases Ql hb with e | hb
  ·rw [e];exact ha'
  ·obtain ⟨q,hq⟩:=List.mem_iff_getElem?.mp hb
   rw [List.getElem?_drop] at hq
   have:=h2 (p+q) (by omega) b hq
   omega
theorem bT.put (T:bT t es L) {j:Nat} {e:α} (h:∀ p∈L,p.1≠j) (hj:j<=t.mask) (hl:L.length+1<=t.mask) :
  ∃ L',bT (t.put j).1 (insertAt es (t.put j).2 e) L'/\L'.Perm ((j,e)::L)/\(t.put j).1.mask=t.mask/\(t.put j).1.plain=t.plain/\(t.put j).1.led=t.led/\(t.put j).1.moves=t.moves:=by
 obtain ⟨hb,h1,h2⟩:=oW t.place j T.rise
 have hd:(SetTable.has t.dummies j)=false:=by rw [T.du];unfold SetTable.has;simp
 refine ⟨L.take (below t.place j)++(j,e)::L.drop (below t.place j),⟨?_,?_,?_,?_,?_,?_⟩,?_,rfl,rfl,rfl,rfl⟩
 ·show (insertAt t.place (below t.place j) j).toList=_
  rw [oX,T.pl]
  simp
 ·show (insertAt es (below t.place j) e).toList=_
  rw [oX,T.el]
  simp
 ·simp only [QG,List.map_cons,List.map_take,List.map_drop]
  refine xq T.up (fun k hk x hx=>?_) fun k hk x hx=>?_
  ·have:=h1 k hk
   rw [getD_list T.pl,Qf,hx] at this
   exact this
  ·have hkl:k<(L.map (·.1)).length:=(Qe hx).1
   have:=h2 k hk (by rw [T.size.1];simpa using hkl)
   rw [getD_list T.pl,Qf,hx] at this
   have hne:x≠j:=by
    obtain ⟨p,hp,rfl⟩:=QF (Qt hx)
    exact h p hp
   simp at this
   omega
 ·show (if SetTable.has t.dummies j then _ else t.dummies)=#[]
  rw [hd,if_neg (by decide)]
  exact T.du
 ·intro p hp
  show p.1<=t.mask
  rcases QC hp with q | q
  ·exact T.le p (List.mem_of_mem_take q)
  ·rcases Ql q with q | q
   ·rw [q];exact hj
   ·exact T.le p (List.mem_of_mem_drop q)
 ·show _<=t.mask
  simp
  omega
 ·refine List.perm_middle.trans ?_
  rw [List.take_append_drop]
end
noncomputable def cX (m:Nat) (p:Probe):Probe :=
 if p.more>0 then { p with j:=p.j+1,more:=p.more-1 } else
 { p with j:=(leap m p.i p.perturb).1,more:=runEnd m (leap m p.i p.perturb).1-(leap m p.i p.perturb).1,i:=(leap m p.i p.perturb).1,perturb:=(leap m p.i p.perturb).2 }
theorem oY (t:SetTable) (p:Probe):t.advance p=cX t.mask p:=rfl
noncomputable def io (m i pt:Nat):Probe:={ j:=i,more:=runEnd m i-i,i,perturb:=pt,dummy:=none }
noncomputable def aF (m:Nat) (h:Int):Nat->Probe
 | 0=>io m (bits h % (m+1)) (bits h)
 | k+1=>cX m (aF m h k)
noncomputable def run (m:Nat) (h:Int):Nat->Nat × Nat
 | 0=>(bits h % (m+1),bits h)
 | r+1=>leap m (run m h r).1 (run m h r).2
theorem jv (m i:Nat) (hi:i<=m):i<=runEnd m i/\runEnd m i<=m/\runEnd m i<=i+9:=by
 unfold runEnd
 split<;>omega
theorem gn (m:Nat) (h:Int):∀ r,(run m h r).1<=m
 | 0=>Nat.le_of_lt_succ (Nat.mod_lt _ (Nat.succ_pos _))
 | r+1=>Nat.le_of_lt_succ (Nat.mod_lt _ (Nat.succ_pos _))
theorem oZ (m:Nat) (h:Int):∀ k,(aF m h k).dummy=none
 | 0=>rfl
 | k+1=>by
  show (cX m (aF m h k)).dummy=none
  unfold cX
  split<;>exact oZ m h k
theorem fC (m:Nat) (h:Int) {k r:Nat} (e:aF m h k=io m (run m h r).1 (run m h r).2):∀ d,d<=runEnd m (run m h r).1-(run m h r).1 ->
  aF m h (k+d)={ j:=(run m h r).1+d,more:=runEnd m (run m h r).1-(run m h r).1-d,i:=(run m h r).1,perturb:=(run m h r).2,dummy:=none }
 | 0,_=>e
 | d+1,hd=>by
  show cX m (aF m h (k+d))=_
  rw [fC m h e d (by omega)]
  unfold cX
  rw [if_pos (by show _>0;dsimp only;omega)]
  dsimp only
  congr 1
theorem o0 (m:Nat) (h:Int):∀ r,∃ k,k<=10*r/\aF m h k=io m (run m h r).1 (run m h r).2
 | 0=>⟨0,Qh _,rfl⟩
 | r+1=>by
  obtain ⟨k,hk,e⟩:=o0 m h r
  have hr:=jv m _ (gn m h r)
  refine ⟨k+(runEnd m (run m h r).1-(run m h r).1)+1,by omega,?_⟩
  show cX m (aF m h _)=_
  rw [fC m h e _ (Qh _)]
  unfold cX
  rw [if_neg (by dsimp only;omega)]
  rfl
theorem xr (h:Int):bits h<2 ^ 64:=by
 unfold bits
 have h1:=Int.emod_nonneg h (show (2 ^ 64:Int)≠0 by decide)
 have h2:=Int.emod_lt_of_pos h (show (0:Int)<2 ^ 64 by decide)
 omega
theorem o3 (m:Nat) (h:Int):∀ r,(run m h r).2=bits h / 32 ^ r
 | 0=>by simp [run]
 | r+1=>by
  show (run m h r).2 / 32=_
  rw [o3 m h r,Nat.div_div_eq_div_mul,Nat.pow_succ]
noncomputable def c9 (m:Nat):Nat->Nat->Nat
 | 0,i=>i
 | q+1,i=>((c9 m q i)*5+1) % (m+1)
theorem o4 (m:Nat) (h:Int):∀ q,(run m h (12+q)).1=c9 m q (run m h 12).1
 | 0=>rfl
 | q+1=>by
  show (leap m (run m h (12+q)).1 (run m h (12+q)).2).1=_
  unfold leap
  dsimp only
  rw [o4 m h q,o3,Nat.div_div_eq_div_mul]
  have:bits h / (32 ^ (12+q)*32)=0:=by
   refine Nat.div_eq_of_lt ?_
   have h1:=xr h
   have h2:32 ^ 13<=32 ^ (12+q)*32:=by
    rw [<- Nat.pow_succ]
    exact Nat.pow_le_pow_right (by decide) (by omega)
   have h3:(2:Nat) ^ 64<=32 ^ 13:=by decide
   omega
  rw [this]
  rfl
noncomputable def cN (m:Nat):Prop:=(∀ j,j<=m->∃ q,q<=m/\c9 m q 0=j)/\c9 m (m+1) 0=0
theorem jw (m:Nat) (i:Nat):∀ a b,c9 m (a+b) i=c9 m b (c9 m a i)
 | a,0=>rfl
 | a,b+1=>by
  show (c9 m (a+b) i*5+1) % (m+1)=_
  rw [jw m i a b]
  rfl
theorem cN.all {m:Nat} (R:cN m) {i j:Nat} (hi:i<=m) (hj:j<=m):∃ q,q<=m/\c9 m q i=j:=by
 obtain ⟨a,ha,ea⟩:=R.1 i hi
 obtain ⟨b,hb,eb⟩:=R.1 j hj
 by_cases hab:a<=b
 ·refine ⟨b-a,by omega,?_⟩
  rw [<- ea,<- jw,show a+(b-a)=b by omega,eb]
 ·refine ⟨b+(m+1)-a,by omega,?_⟩
  rw [<- ea,<- jw,show a+(b+(m+1)-a)=(m+1)+b by omega,jw,R.2,eb]
noncomputable def jx (m:Nat):Bool:=go (m+1) 0 (List.range (m+1)) where
 go:Nat->Nat->List Nat->Bool
  | 0,i,l=>i == 0&&l.isEmpty
  | f+1,i,l=>go f ((i*5+1) % (m+1)) (l.filter (· != i))
theorem o5 (m:Nat):∀ f q l,jx.go m f (c9 m q 0) l=true->c9 m (q+f) 0=0/\∀ j∈l,∃ r,q<=r/\r<q+f/\c9 m r 0=j
 | 0,q,l,h=>by
  unfold jx.go at h
  simp at h
  exact ⟨h.1,fun j hj=>by rw [h.2] at hj;cases hj⟩
 | f+1,q,l,h=>by
  unfold jx.go at h
  obtain ⟨h1,h2⟩:=o5 m f (q+1) _ h
  refine ⟨by rw [<- h1];congr 1;omega,fun j hj=>?_⟩
  by_cases e:j=c9 m q 0
  ·exact ⟨q,Qh _,by omega,e.symm⟩
  ·obtain ⟨r,a,b,c⟩:=h2 j (List.mem_filter.mpr ⟨hj,by simpa using e⟩)
   exact ⟨r,by omega,by omega,c⟩
theorem ln {m:Nat} (h:jx m=true):cN m:=by
 obtain ⟨h1,h2⟩:=o5 m (m+1) 0 _ h
 refine ⟨fun j hj=>?_,by simpa using h1⟩
 obtain ⟨r,_,b,c⟩:=h2 j (List.mem_range.mpr (by omega))
 exact ⟨r,by omega,c⟩
theorem xu:cN 7:=ln (by decide +kernel)
theorem o6:cN 31:=ln (by decide +kernel)
theorem o7:cN 127:=ln (by decide +kernel)
theorem o8 {m:Nat} (R:cN m) (h:Int) {j:Nat} (hj:j<=m):∃ r,r<=12+m/\(run m h r).1=j:=by
 obtain ⟨q,hq,e⟩:=R.all (gn m h 12) hj
 exact ⟨12+q,by omega,by rw [o4,e]⟩
theorem xv {m:Nat} (R:cN m) (h:Int) {j:Nat} (hj:j<=m):∃ k,k<=10*(12+m)/\(aF m h k).j=j:=by
 obtain ⟨r,hr,e⟩:=o8 R h hj
 obtain ⟨k,hk,ek⟩:=o0 m h r
 exact ⟨k,by omega,by rw [ek];exact e⟩
end L2
namespace L2
open PySem PySem.SetTable
theorem lq:∀ (n:Nat) (l:List Nat),l.length<n->∃ j,j<n/\j∉l
 | 0,l,h=>absurd h (Nat.not_lt_zero _)
 | n+1,l,h=>by
  by_cases hn:n∈l
  ·have hp:0<l.length:=List.length_pos_of_mem hn
   obtain ⟨j,h1,h2⟩:=lq n (l.erase n) (by rw [List.length_erase_of_mem hn];omega)
   exact ⟨j,by omega,fun z=>h2 ((List.mem_erase_of_ne (by omega)).mpr z)⟩
  ·exact ⟨n,by omega,hn⟩
theorem xw {P:Nat->Prop}:∀ n,P n->∃ k,k<=n/\P k/\∀ k',k'<k->¬ P k':=by
 intro n
 induction n using Nat.strongRecOn with
 | ind n ih =>
  intro h
  by_cases hx:∃ k,k<n/\P k
  ·obtain ⟨k,h1,h2⟩:=hx
   obtain ⟨q,a,b,c⟩:=ih k h1 h2
   exact ⟨q,by omega,b,c⟩
  ·exact ⟨n,Qh _,h,fun k' hk hp=>hx ⟨k',hk,hp⟩⟩
section
variable {β:Type}
noncomputable def cu (L:List (Nat × β)) (j:Nat):Prop:=∃ p∈L,p.1=j
theorem cu.mono {L L':List (Nat × β)} {j:Nat} (h:cu L j) (k:∀ p∈L,p∈L'):cu L' j:=by obtain ⟨p,a,b⟩:=h;exact ⟨p,k p a,b⟩
theorem xx {m:Nat} (R:cN m) {L:List (Nat × β)} (hl:L.length<=m) (h:Int):∃ K,K<=10*(12+m)/\¬ cu L (aF m h K).j/\∀ k,k<K->cu L (aF m h k).j:=by
 obtain ⟨j,h1,h2⟩:=lq (m+1) (L.map (·.1)) (by simp;omega)
 obtain ⟨k,hk,ek⟩:=xv R h (by omega:j<=m)
 obtain ⟨K,a,b,c⟩:=xw (P:=fun k=>¬ cu L (aF m h k).j) k fun hsl61=>by obtain ⟨p,hp,e⟩:=hsl61;exact h2 (by rw [<- ek,<- e];exact List.mem_map_of_mem hp)
 exact ⟨K,by omega,b,fun k' hk'=>Classical.byContradiction (c k' hk')⟩
theorem lr (m:Nat) (h:Int) (k:Nat):(aF m h k).j+(aF m h k).more<=m/\(aF m h k).i<=m:=by
 induction k with
 | zero =>
  have:=jv m _ (gn m h 0)
  show (run m h 0).1+(runEnd m (run m h 0).1-(run m h 0).1)<=m/\(run m h 0).1<=m
  exact ⟨by omega,gn m h 0⟩
 | succ k ih =>
  show (cX m (aF m h k)).j+(cX m (aF m h k)).more<=m/\(cX m (aF m h k)).i<=m
  unfold cX
  split
  ·dsimp only;exact ⟨by omega,ih.2⟩
  ·dsimp only
   have hl:(leap m (aF m h k).i (aF m h k).perturb).1<=m:=Nat.le_of_lt_succ (Nat.mod_lt _ (Nat.succ_pos _))
   have:=jv m _ hl
   exact ⟨by omega,hl⟩
end
section
variable {α:Type} {t:SetTable} {es:Array (Int × α)} {L:List (Nat × (Int × α))}
noncomputable def Reach (m:Nat) (L:List (Nat × (Int × α))):Prop:=∀ p∈L,∃ k,(aF m p.2.1 k).j=p.1/\∀ k',k'<k->cu L (aF m p.2.1 k').j
theorem Reach.ahead {m:Nat} (R:Reach m L) {h:Int} {K:Nat} (hK:¬ cu L (aF m h K).j) {p:Nat × (Int × α)} (hp:p∈L) (e:p.2.1=h):∃ k,k<K/\(aF m h k).j=p.1:=by
 obtain ⟨k,h1,h2⟩:=R p hp
 rw [e] at h1 h2
 refine ⟨k,?_,h1⟩
 rcases Nat.lt_trichotomy k K with z | z | z
 ·exact z
 ·exact absurd ⟨p,hp,by rw [<- h1,z]⟩ hK
 ·exact absurd (h2 K z) hK
theorem Reach.cons {m:Nat} (R:Reach m L) {h:Int} {x:α} {K:Nat} {L':List (Nat × (Int × α))} (hp:L'.Perm (((aF m h K).j,(h,x))::L)) (hb:∀ k,k<K->cu L (aF m h k).j):Reach m L':=fun p hp'=>by
 have sub:∀ q∈L,q∈L':=fun q hq=>hp.mem_iff.mpr (Qn _ hq)
 rcases Ql (hp.mem_iff.mp hp') with e | hq
 ·rw [e]
  exact ⟨K,rfl,fun k' hk=>(hb k' hk).mono sub⟩
 ·obtain ⟨k,a,b⟩:=R p hq
  exact ⟨k,a,fun k' hk=>(b k' hk).mono sub⟩
theorem o9 (T:bT t es L) {hashAt:Nat->Int} (hh:∀ i p,L[i]?=some p->hashAt i=p.2.1) {h:Int} {K:Nat} (hK:¬ cu L (aF t.mask h K).j) (hb:∀ k,k<K->cu L (aF t.mask h k).j):∀ fuel k,k<=K->K-k<fuel ->
  (∃ k1 i p,k<=k1/\k1<K/\SetTable.probe.go t hashAt h fuel (aF t.mask h k)=some (.candidate (aF t.mask h k1).j i (aF t.mask h (k1+1)))/\L[i]?=some p/\p.1=(aF t.mask h k1).j/\p.2.1=h/\∀ k',k<=k'->k'<k1->∀ q∈L,q.1=(aF t.mask h k').j->q.2.1≠h) ∨
  (SetTable.probe.go t hashAt h fuel (aF t.mask h k)=some (.empty (aF t.mask h K).j none)/\∀ k',k<=k'->k'<K->∀ q∈L,q.1=(aF t.mask h k').j->q.2.1≠h)
 | 0,k,hk,hf=>absurd hf (Nat.not_lt_zero _)
 | fuel+1,k,hk,hf=>by
  unfold SetTable.probe.go
  by_cases e:k=K
  ·subst e
   right
   rw [T.empty fun p hp z=>hK ⟨p,hp,z⟩,oZ]
   exact ⟨rfl,fun k' h1 h2=>by omega⟩
  ·obtain ⟨p,hp,ep⟩:=hb k (by omega)
   obtain ⟨i,hi⟩:=List.mem_iff_getElem?.mp hp
   rw [<- ep,T.live hi]
   dsimp only
   rw [hh i p hi]
   by_cases hq:p.2.1=h
   ·left
    rw [if_pos (by simpa using hq)]
    refine ⟨k,i,p,Qh _,by omega,?_,hi,ep,hq,fun k' h1 h2=>by omega⟩
    rw [oY,ep]
    rfl
   ·rw [if_neg (by simpa using hq),oY]
    have one:∀ q∈L,q.1=(aF t.mask h k).j->q.2.1≠h:=fun q hqm eq=>by
     obtain ⟨i',hi'⟩:=List.mem_iff_getElem?.mp hqm
     have h1:=T.live hi
     have h2:=T.live hi'
     rw [eq,<- ep,h1] at h2
     cases h2
     rw [hi] at hi'
     cases hi'
     exact hq
    rcases o9 T hh hK hb fuel (k+1) (by omega) (by omega) with ⟨k1,i',p',a1,a2,a3,a4,a5,a6,a7⟩ | ⟨a1,a2⟩
    ·left
     refine ⟨k1,i',p',by omega,a2,a3,a4,a5,a6,fun k' h1 h2=>?_⟩
     by_cases z:k'=k
     ·rw [z];exact one
     ·exact a7 k' (by omega) h2
    ·right
     refine ⟨a1,fun k' h1 h2=>?_⟩
     by_cases z:k'=k
     ·rw [z];exact one
     ·exact a2 k' (by omega) h2
end
theorem pd {m:Nat} {h:Int} {owner:Array (Option Nat)}:∀ fuel r k,aF m h k=io m (run m h r).1 (run m h r).2->(∃ r',r<=r'/\r'<r+fuel/\(owner.getD (run m h r').1 (some 0)).isNone=true) ->
  ∃ k1,k<=k1/\layClean.free m owner fuel (run m h r).1 (run m h r).2=some (aF m h k1).j/\(owner.getD (aF m h k1).j (some 0)).isNone=true/\∀ k',k<=k'->k'<k1->(owner.getD (aF m h k').j (some 0)).isNone=false
 | 0,r,k,e,⟨r',h1,h2,_⟩=>by omega
 | fuel+1,r,k,e,⟨r',h1,h2,h3⟩=>by
  have hr:=jv m _ (gn m h r)
  unfold layClean.free
  cases hf:(List.range (runEnd m (run m h r).1+1-(run m h r).1)).find? fun k=>(owner.getD ((run m h r).1+k) (some 0)).isNone with
  | some d =>
   obtain ⟨a,b,c⟩:=List.find?_range_eq_some.mp hf
   have hd:d<=runEnd m (run m h r).1-(run m h r).1:=by have:=List.mem_range.mp b;omega
   refine ⟨k+d,by omega,?_,?_,fun k' g1 g2=>?_⟩
   ·rw [fC m h e d hd]
   ·rw [fC m h e d hd];exact a
   ·have:=fC m h e (k'-k) (by omega)
    rw [show k+(k'-k)=k' by omega] at this
    rw [this]
    simpa using c (k'-k) (by omega)
  | none =>
   have c:=List.find?_range_eq_none.mp hf
   dsimp only
   have en:aF m h (k+(runEnd m (run m h r).1-(run m h r).1)+1)=io m (run m h (r+1)).1 (run m h (r+1)).2:=by
    show cX m (aF m h _)=_
    rw [fC m h e _ (Qh _)]
    unfold cX
    rw [if_neg (by dsimp only;omega)]
    rfl
   have hne:r'≠r:=fun z=>by
    subst z
    have:=c 0 (by omega)
    rw [Nat.add_zero,h3] at this
    cases this
   obtain ⟨k1,g1,g2,g3,g4⟩:=pd fuel (r+1) _ en ⟨r',by omega,by omega,h3⟩
   refine ⟨k1,by omega,g2,g3,fun k' q1 q2=>?_⟩
   by_cases hk:k'<=k+(runEnd m (run m h r).1-(run m h r).1)
   ·have:=fC m h e (k'-k) (by omega)
    rw [show k+(k'-k)=k' by omega] at this
    rw [this]
    simpa using c (k'-k) (by omega)
   ·exact g4 k' (by omega) q2
structure gp (m:Nat) (hs:List Int) (owner:Array (Option Nat)) (L:List (Nat × Nat)):Prop where
 sz:owner.size=m+1
 own:∀ j q,owner[j]?=some (some q)↔(j,q)∈L
 ix:L.map (·.2)=List.range hs.length
 le:∀ p∈L,p.1<=m
 nd:(L.map (·.1)).Nodup
 rc:∀ p∈L,∀ h,hs[p.2]?=some h->∃ k,(aF m h k).j=p.1/\∀ k',k'<k->cu L (aF m h k').j
noncomputable def jy (m:Nat) (acc:Option (Array (Option Nat) × Nat)) (h:Int):Option (Array (Option Nat) × Nat):=do
 let (owner,k) <- acc
 let j <- layClean.free m owner (turns m) (bits h % (m+1)) (bits h)
 pure (owner.setIfInBounds j (some k),k+1)
theorem xy {m:Nat} (R:cN m) {hs:List Int} {owner:Array (Option Nat)} {L:List (Nat × Nat)} (T:gp m hs owner L) (h:Int) (hl:hs.length<m+1) :
  ∃ owner' L',jy m (some (owner,hs.length)) h=some (owner',hs.length+1)/\gp m (hs++[h]) owner' L':=by
 have hL:L.length=hs.length:=by have:=congrArg List.length T.ix;simpa using this
 have free_iff:∀ j,j<=m->((owner.getD j (some 0)).isNone=true↔¬ cu L j):=fun j hj=>by
  have e:owner[j]?=some (owner[j]'(by rw [T.sz];omega)):=Array.getElem?_eq_getElem _
  rw [Array.getD_eq_getD_getElem?,e]
  show (owner[j]'(by rw [T.sz];omega)).isNone=true↔_
  constructor
  ·rintro hn ⟨p,hp,ep⟩
   have:=(T.own p.1 p.2).mpr hp
   rw [ep,e] at this
   have:=Qj this
   rw [this] at hn
   cases hn
  ·intro ho
   cases hc:owner[j]'(by rw [T.sz];omega) with
   | none=>rfl
   | some q=>exact absurd ⟨(j,q),(T.own j q).mp (by rw [e,hc]),rfl⟩ ho
 obtain ⟨j,h1,h2⟩:=lq (m+1) (L.map (·.1)) (by simp;omega)
 obtain ⟨r,hr,er⟩:=o8 R h (by omega:j<=m)
 have hfr:(owner.getD (run m h r).1 (some 0)).isNone=true:=(free_iff _ (gn m h r)).mpr fun hsl62=>by obtain ⟨p,hp,e⟩:=hsl62;exact h2 (by rw [<- er,<- e];exact List.mem_map_of_mem hp)
 obtain ⟨k1,_,g2,g3,g4⟩:=pd (m:=m) (h:=h) (owner:=owner) (turns m) 0 0 rfl ⟨r,Qs _,by unfold turns;omega,hfr⟩
 have hj:(aF m h k1).j<=m:=by have:=(lr m h k1).1;omega
 have hno:¬ cu L (aF m h k1).j:=(free_iff _ hj).mp g3
 refine ⟨owner.setIfInBounds (aF m h k1).j (some hs.length),L++[((aF m h k1).j,hs.length)],?_,⟨?_,?_,?_,?_,?_,?_⟩⟩
 ·unfold jy
  show (layClean.free m owner (turns m) (run m h 0).1 (run m h 0).2 >>= _)=_
  rw [g2]
  rfl
 ·simp [T.sz]
 ·intro j q
  rw [Array.getElem?_setIfInBounds]
  by_cases e:(aF m h k1).j=j
  ·rw [if_pos e]
   rw [if_pos (by rw [T.sz];omega)]
   constructor
   ·intro z
    cases z
    rw [<- e]
    simp
   ·intro z
    rcases QC z with z | z
    ·exact absurd ⟨_,z,e.symm⟩ hno
    ·simp at z
     rw [z.2]
  ·rw [if_neg e,T.own]
   constructor
   ·exact fun z=>List.mem_append.mpr (.inl z)
   ·intro z
    rcases QC z with z | z
    ·exact z
    ·simp at z
     exact absurd z.1.symm e
 ·rw [QG,T.ix]
  simp [List.range_succ]
 ·intro p hp
  rcases QC hp with z | z
  ·exact T.le p z
  ·simp at z
   rw [z];exact hj
 ·rw [QG,List.nodup_append]
  refine ⟨T.nd,by simp,fun a ha b hb=>?_⟩
  simp at hb
  intro z
  obtain ⟨p,hp,ep⟩:=QF ha
  exact hno ⟨p,hp,by rw [ep,z,hb]⟩
 ·intro p hp h' hh
  rcases QC hp with z | z
  ·have hq:p.2<hs.length:=by
    have:p.2∈L.map (·.2):=List.mem_map_of_mem z
    rw [T.ix] at this
    exact List.mem_range.mp this
   rw [QA hq] at hh
   obtain ⟨k,a,b⟩:=T.rc p z h' hh
   exact ⟨k,a,fun k' hk=>(b k' hk).mono fun q hq=>List.mem_append.mpr (.inl hq)⟩
  ·simp at z
   subst z
   rw [Qy (Qh _)] at hh
   simp at hh
   subst hh
   refine ⟨k1,rfl,fun k' hk=>?_⟩
   have hjk:(aF m h k').j<=m:=by have:=(lr m h k').1;omega
   have g:=g4 k' (Qs _) hk
   refine cu.mono (Classical.byContradiction fun z=>?_) fun q hq=>List.mem_append.mpr (.inl hq)
   have:=(free_iff _ hjk).mpr z
   rw [g] at this
   cases this
theorem pe {m:Nat} (R:cN m):∀ (rest hs:List Int) (owner:Array (Option Nat)) (L:List (Nat × Nat)),gp m hs owner L->hs.length+rest.length<=m+1->∃ owner' L',rest.foldl (jy m) (some (owner,hs.length))=some (owner',hs.length+rest.length)/\gp m (hs++rest) owner' L'
 | [],hs,owner,L,T,_=>⟨owner,L,rfl,by simpa using T⟩
 | h::rest,hs,owner,L,T,hl=>by
  obtain ⟨o1,L1,e1,T1⟩:=xy R T h (by simp at hl;omega)
  obtain ⟨o2,L2,e2,T2⟩:=pe R rest (hs++[h]) o1 L1 T1 (by simp at hl ⊢;omega)
  refine ⟨o2,L2,?_,by simpa using T2⟩
  rw [List.foldl_cons,e1]
  rw [Qw,List.length_singleton] at e2
  rw [e2]
  simp;omega
theorem xz {m:Nat} (R:cN m) (hs:Array Int) (hl:hs.size<=m+1):∃ owner L,layClean m hs=some owner/\gp m hs.toList owner L:=by
 have T0:gp m [] (Array.replicate (m+1) none) []:=by
  refine ⟨by simp,fun j q=>?_,rfl,fun p hp=>(nomatch hp),.nil,fun p hp=>(nomatch hp)⟩
  rw [Array.getElem?_replicate]
  constructor
  ·intro z
   split at z<;>cases z
  ·intro z
   cases z
 obtain ⟨o,L,e,T⟩:=pe R hs.toList [] _ [] T0 (by simpa using hl)
 refine ⟨o,L,?_,by simpa using T⟩
 unfold layClean
 rw [<- Array.foldl_toList]
 show Option.map _ (hs.toList.foldl (jy m) (some (Array.replicate (m+1) none,([]:List Int).length)))=_
 rw [e]
 rfl
section
variable {α:Type} {t:SetTable} {es:Array (Int × α)} {L:List (Nat × (Int × α))}
theorem xA {m:Nat} (R:cN m) {finger moves:Nat} {led plain:Bool} (hl:es.size<=m):∃ t' order L',SetTable.laid m finger moves led plain (es.map (·.1))=some (t',order)/\bT t' (order.filterMap (es[·]?)) L'/\(L'.map (·.2)).Perm es.toList/\Reach m L'/\t'.mask=m/\t'.led=led/\t'.plain=plain/\t'.moves=moves:=by
 obtain ⟨owner,L,e,T⟩:=xz R (es.map (·.1)) (by simp;omega)
 have hix:L.map (·.2)=List.range es.size:=by rw [T.ix];simp
 let live:=(List.range (m+1)).filterMap fun j=>(owner.getD j none).map (j,·)
 have hmem:∀ p,p∈live↔p∈L:=fun p=>by
  rw [<- T.own p.1 p.2]
  constructor
  ·intro h
   obtain ⟨j,hj,ej⟩:=List.mem_filterMap.mp h
   obtain ⟨q,eq,ep⟩:=Option.map_eq_some_iff.mp ej
   subst ep
   rw [Array.getD_eq_getD_getElem?] at eq
   show owner[j]?=some (some q)
   cases ho:owner[j]? with
   | none=>rw [ho] at eq;cases eq
   | some v=>rw [ho] at eq;rw [show v=some q from eq]
  ·intro h
   have hj:p.1<owner.size:=(Array.getElem?_eq_some_iff.mp h).1
   exact List.mem_filterMap.mpr ⟨p.1,List.mem_range.mpr (by rw [<- T.sz];exact hj),by rw [Array.getD_eq_getD_getElem?,h];rfl⟩
 have hup:live.Pairwise fun a b=>a.1<b.1:=by
  refine List.Pairwise.filterMap (R:=(·<·)) _ (fun a a' haa b hb b' hb'=>?_) List.pairwise_lt_range
  obtain ⟨_,_,e1⟩:=Option.map_eq_some_iff.mp hb
  obtain ⟨_,_,e2⟩:=Option.map_eq_some_iff.mp hb'
  rw [<- e1,<- e2]
  exact haa
 have hnd:live.Nodup:=hup.imp fun h z=>by rw [z] at h;exact Nat.lt_irrefl _ h
 have hndL:L.Nodup:=by
  have h2:L.Pairwise fun a b=>a.1≠b.1:=List.pairwise_map.mp T.nd
  exact h2.imp fun h z=>h (by rw [z])
 have hperm:live.Perm L:=(List.perm_ext_iff_of_nodup hnd hndL).mpr hmem
 have hq:∀ p∈live,p.2<es.size:=fun p hp=>by
  have:p.2∈L.map (·.2):=List.mem_map_of_mem ((hmem p).mp hp)
  rw [hix] at this
  exact List.mem_range.mp this
 by_cases hne:es.size=0
 ·have hlv:live=[]:=by
   cases hc:live with
   | nil=>rfl
   | cons p r=>have:=hq p (by rw [hc];exact QB);omega
  have hes:es=#[]:=Array.eq_empty_of_size_eq_zero hne
  refine ⟨_,_,[],by unfold SetTable.laid;rw [e];rfl,⟨?_,?_,.nil,rfl,fun p hp=>(nomatch hp),Qs _⟩,?_,fun p hp=>(nomatch hp),rfl,rfl,rfl,rfl⟩
  ·show ((live.map (·.1)).toArray).toList=_
   rw [hlv];rfl
  ·show (Array.filterMap _ (live.map (·.2)).toArray).toList=_
   rw [hlv];simp
  ·rw [hes];exact .refl _
 have hpos:0<es.size:=by omega
 let d:=es[0]'hpos
 let f:Nat × Nat->Nat × (Int × α):=fun p=>(p.1,es.getD p.2 d)
 have hf:∀ p∈live,es[p.2]?=some (f p).2:=fun p hp=>by
  have h:=hq p hp
  show _=some (es.getD p.2 d)
  rw [Array.getD_eq_getD_getElem?,Array.getElem?_eq_getElem h]
  rfl
 refine ⟨_,_,live.map f,by unfold SetTable.laid;rw [e];rfl,⟨?_,?_,?_,rfl,fun p hp=>?_,?_⟩,?_,fun p hp=>?_,rfl,rfl,rfl,rfl⟩
 ·show ((live.map (·.1)).toArray).toList=_
  rw [List.map_map];rfl
 ·show (Array.filterMap _ (live.map (·.2)).toArray).toList=_
  rw [Array.toList_filterMap,List.filterMap_map,List.map_map]
  have:∀ l:List (Nat × Nat),(∀ p∈l,es[p.2]?=some (f p).2)->l.filterMap ((fun x=>es[x]?)∘fun x=>x.2)=l.map ((fun x=>x.2)∘f):=by
   intro l
   induction l with
   | nil=>intro _;rfl
   | cons p l ih =>
    intro h
    have e1:((fun x=>es[x]?)∘fun x:Nat × Nat=>x.2) p=some (f p).2:=h p QB
    rw [List.filterMap_cons_some e1,ih fun q hq=>h q (Qn _ hq)]
    rfl
  exact this live hf
 ·rw [List.map_map]
  exact List.pairwise_map.mpr (hup.imp fun h=>h)
 ·obtain ⟨q,h1,rfl⟩:=QF hp
  exact T.le q ((hmem q).mp h1)
 ·show (live.map f).length<=m
  have h1:=congrArg List.length hix
  simp at h1
  rw [Qg,hperm.length_eq,h1]
  exact hl
 ·rw [List.map_map]
  refine (hperm.map _).trans ?_
  have:L.map ((fun x=>x.2)∘f)=(L.map (·.2)).map fun q=>es.getD q d:=by rw [List.map_map];rfl
  rw [this,hix]
  have:(List.range es.size).map (fun q=>es.getD q d)=es.toList:=by
   refine List.ext_getElem? fun i=>?_
   rw [Qk]
   by_cases hi:i<es.size
   ·rw [List.getElem?_range hi,Array.getElem?_toList,Array.getElem?_eq_getElem hi]
    simp [Array.getD,hi]
   ·rw [List.getElem?_eq_none (by simp;omega),List.getElem?_eq_none (by simp;omega)]
    rfl
  rw [this]
 ·obtain ⟨q,h1,rfl⟩:=QF hp
  have hqs:=hq q h1
  obtain ⟨k,a,b⟩:=T.rc q ((hmem q).mp h1) (f q).2.1 (by
   rw [Array.getElem?_toList,Array.getElem?_map,hf q h1];rfl)
  refine ⟨k,a,fun k' hk=>?_⟩
  obtain ⟨z,hz,ez⟩:=b k' hk
  exact ⟨f z,List.mem_map_of_mem ((hmem z).mpr hz),ez⟩
end
end L2
namespace L2
open PySem PySem.Spec PyProof.Rows
section
variable {prog:Program} {w:World} {A:Around} {R:Result->Shared->Prop} {I:Addr} {fp wr:List Addr} {G:Array GenState->Array GenState->Prop} {n:Nat} {P:Nat->Value->Prop} {St:Nat->Shared->Prop}
end
noncomputable abbrev newSet (led:Bool):Obj:={ cls:=.type "set",dict:=none,data:=.set #[] 0 (.fresh 0 0 led) }
section
variable {prog:Program} {w:World} {A:Around} {E:Value->Shared->Prop} {s:Shared}
end
section
variable {X:Cx}
end
end L2
namespace L2
open PySem PySem.Spec PyProof.Rows
section
variable {prog:Program} {w:World}
end
section
variable {prog:Program} {w:World} {A:Around} {R:Result->Shared->Prop} {I:Addr} {fp wr:List Addr} {G:Array GenState->Array GenState->Prop} {n:Nat} {P:Nat->Value->Prop} {St:Nat->Shared->Prop}
end
noncomputable def cv (w:World):Bool:=w.params.followText "set-order"
section
variable {prog:Program} {w:World} {A:Around} {E:Value->Shared->Prop} {s:Shared}
open PySem in
theorem xB (a:Value) {Q₁:Value->Shared->Prop} (h:Q₁ (.ref s.heap.objs.size) { s with heap:=s.heap.push (newSet (!cv w)) }) :
  codeAny (model prog w) A (.call (.builtin "set.__new__") ⟨[.type "set",a],[]⟩) (wants Q₁ E) s:=by
 refine codeAny_of_tree ?_
 show wpAny _ A.in1 (do checkBuiltinCall "set.__new__" ⟨[.type "set",a],[]⟩;again (.builtin "set.__new__" ⟨[.type "set",a],[]⟩)) _ _ s
 refine Qa (wpAny_of_eq (F.newCall_set_1 a) (Qc ⟨plainId_quiet F.plain_set_new _,codeAny_builtin F.entry_set_new ?_⟩))
 rw [Around.under_plainId F.plain_set_new _]
 unfold Builtin.«set.__new__» Builtin.Frozenset.newClass
 have hsub:=sub_set_self
 obtain ⟨hp,g,d,tk,os⟩:=s
 dsimp only
 wp_walk
 refine wpAny_askSetting (Qc ?_)
 dsimp only
 simp only [newObj]
 exact Qa (wpAny_alloc (Qc (Qc h)))
end
section
variable {prog:Program} {w:World} {A:Around} {E:Value->Shared->Prop} {s:Shared}
end
end L2
namespace L2
open PySem PySem.Spec PyProof.Rows
section
variable {X:Cx}
end
theorem lu {α:Type}:∀ (xs:List α) (i:Nat) (x:α),xs[i]?=some x->List.Perm (x::xs.eraseIdx i) xs
 | [],i,x,h=>by simp at h
 | a::xs,0,x,h=>by cases h;exact .refl _
 | a::xs,i+1,x,h=>by
  have:=lu xs i x (by simpa using h)
  simp only [List.eraseIdx_cons_succ]
  exact (List.Perm.swap a x _).trans (this.cons a)
section
variable {prog:Program} {w:World} {A:Around} {E:Value->Shared->Prop}
theorem xC {src:Source} {n:Nat} {s:Shared} {Q:Nat->Shared->Prop} (hn:n≠0) (h:∀ i d',i<n->Q i { s with drawn:=d' }):wpAny (model prog w) A (choose src n) Q E s :=
 fun _ _ _=>⟨hn,h _ _ (Nat.mod_lt _ (Nat.pos_of_ne_zero hn))⟩
theorem ph {α:Type}:∀ (n:Nat) (xs:List α) (s:Shared) (Q:List α->Shared->Prop),n=xs.length->(∀ ys d',List.Perm ys xs->Q ys { s with drawn:=d' })->wpAny (model prog w) A (drawOrder n xs) Q E s
 | 0,xs,s,Q,hn,h=>by
  have:xs=[]:=by cases xs with | nil=>rfl | cons _ _=>simp at hn
  subst this
  exact Qc (h [] s.drawn (.refl _))
 | n+1,[],s,Q,hn,h=>by simp at hn
 | n+1,a::xs,s,Q,hn,h=>by
  unfold drawOrder
  refine Qa (xC (by simp) fun i d' hi=>?_)
  have e:(a::xs)[i]?=some (a::xs)[i]:=Qb hi
  rw [e]
  refine Qa (ph n _ _ _ (by rw [List.length_eraseIdx_of_lt hi];simp at hn ⊢;omega) fun ys d'' hp=>Qc ?_)
  exact h _ _ ((hp.cons _).trans (lu _ i _ e))
end
end L2
namespace L2
open PySem PySem.Spec PyProof.Rows
theorem d4:Slot "set_iterator" "__next__" "set_iterator.__next__" :=
 .of (owner:="set_iterator") (n:="__next__") (by rw [typeLookup_type,builtinLookup_eq_fast];kernel_rfl) (by decide +kernel) (by decide +kernel) (by decide +kernel)
  (by first | exact .inl (by decide +kernel) | exact .inr (by decide +kernel)) (by rw [isSubtype_type];kernel_rfl)
theorem pi:Slot "set_iterator" "__iter__" "set_iterator.__iter__" :=
 .of (owner:="set_iterator") (n:="__iter__") (by rw [typeLookup_type,builtinLookup_eq_fast];kernel_rfl) (by decide +kernel) (by decide +kernel) (by decide +kernel)
  (by first | exact .inl (by decide +kernel) | exact .inr (by decide +kernel)) (by rw [isSubtype_type];kernel_rfl)
theorem jz:entryFor table "set_iterator.__next__"=some Builtin.«set_iterator.__next__»:=entryFor_of_tree (by kernel_rfl)
theorem xD:entryFor table "set.__iter__"=some Builtin.«frozenset.__iter__» :=
 entryFor_alias (id':="frozenset.__iter__") (by kernel_rfl) rfl (by decide +kernel) (by kernel_rfl)
theorem jA (a:Value):argsOk "set_iterator.__next__" ⟨[a],[]⟩:=by
 unfold argsOk
 kernel_rfl
theorem pz {α:Type} (next:Nat->Nat):∀ (n k:Nat) (xs:List α) (out:Array α),n=xs.length->List.Perm (pickOrder.go next n k xs out).toList (out.toList++xs)
 | 0,k,xs,out,hn=>by
  have:xs=[]:=by cases xs with | nil=>rfl | cons _ _=>simp at hn
  subst this
  simp [pickOrder.go]
 | n+1,k,xs,out,hn=>by
  have hp:0<xs.length:=by omega
  have hi:next k % xs.length<xs.length:=Nat.mod_lt _ hp
  have e:xs[next k % xs.length]?=some xs[next k % xs.length]:=Qb hi
  rw [pickOrder.go,e]
  dsimp only
  refine (pz next n (k+1) _ _ (by rw [List.length_eraseIdx_of_lt hi];omega)).trans ?_
  rw [Array.toList_push,QI]
  exact (lu xs _ _ e).append_left _
theorem lv {α:Type} (next:Nat->Nat) (xs:Array α):List.Perm (pickOrder next xs).toList xs.toList:=by
 have:=pz next xs.size 0 xs.toList #[] (by simp)
 simpa [pickOrder] using this
noncomputable def eU (ys:List Nat):Obj:={ cls:=.type "tuple",data:=.seq (ys.map fun (i:Nat)=>Value.int (i:Int) 0).toArray }
noncomputable def cC (first:Value) (i:Nat) (S:Addr) (n ep:Nat):Obj:={ cls:=.type "set_iterator",data:=.fields #[first,.int i 0,.ref S,.int n 0,.int ep 0] }
structure SW (w:World) (h:Heap) (S:Addr) (o:Obj) (es:Array (Int × Value)) (ep:Nat) (t:SetTable):Prop where
 ob:h.get? S=some o
 ex:o.ExactSet
 da:o.data=.set es ep t
 ft:t.fits es.size=true
 ld:t.led=!cv w
 pl:es.size=0∨t.plain=false
theorem SW.at {w:World} {h h':Heap} {S:Addr} {o:Obj} {es:Array (Int × Value)} {ep:Nat} {t:SetTable} (T:SW w h S o es ep t) (k:∀ o,h.get? S=some o->h'.get? S=some o):SW w h' S o es ep t:=⟨k o T.ob,T.ex,T.da,T.ft,T.ld,T.pl⟩
section
variable {prog:Program} {w:World} {A:Around} {E:Value->Shared->Prop} {s:Shared} {S:Addr} {zs:List Str} {o:Obj} {es:Array (Int × Value)} {ep:Nat} {t:SetTable}
theorem SW.typeIs (T:SW w s.heap S o es ep t):s.TypeIs (.ref S) "set":=⟨o,T.ob,T.ex.1⟩
theorem xE {Q:Value->Shared->Prop} (T:SW w s.heap S o es ep t) (hn:es.size<=1000)
  (h1:cv w=true∨es.size<=1->Q (.ref s.heap.objs.size) { s with heap:=s.heap.push (cC (.int 0 0) 0 S es.size ep) })
  (h2:cv w=false->1<es.size->∀ (ys:List Nat) d',List.Perm ys (List.range es.size)->Q (.ref (s.heap.push (eU ys)).objs.size) { s with heap:=(s.heap.push (eU ys)).push (cC (.ref s.heap.objs.size) 0 S es.size ep),drawn:=d' }) :
  wpAny (model prog w) A (pyIter (.ref S)) Q E s:=by
 refine wpAny_pyIter_slot T.typeIs PySem.F.slot_set_iter (wpAny_call_entry PySem.F.slot_set_iter T.typeIs xD ?_ (PySem.F.args_set_iter_1 _))
 unfold Builtin.«frozenset.__iter__»
 refine Qa (wpAny_of_eq (a:=S) (by rfl) ?_)
 unfold Builtin.Frozenset.sizeOf
 refine Qa (Qa (wpAny_setEntries_of T.ob T.da T.ft (Qc ?_)))
 unfold setDrawn setsByText
 refine Qa (Qa (wpAny_setState_of T.ob T.da T.ft (Qa (Qa (wpAny_askSetting (Qc (Qc ?_)))))))
 show wpAny _ _ (if (!cv w&&(!t.plain&&decide (es.size>1)))=true then _ else _) _ _ _
 have fin:∀ (first:Value) (s1:Shared),s1.heap.get? S=some o->Q (.ref s1.heap.objs.size) { s1 with heap:=s1.heap.push (cC first 0 S es.size ep) } ->
   wpAny (model prog w) A.in1 (do
    let e <- setEpoch S
    let x <- newFields "set_iterator" [first,rawInt 0,Value.ref S,rawInt (es.size:Nat),rawInt (e:Nat)]
    ret x) (fun fin s'=>∃ v,fin=.done (.ret v)/\∃ T' r,s'.TypeIs v T'/\typeLookup (.type T') "__next__"=pure (some r)/\Q v s') E s1:=fun first s1 ho q=>by
  refine Qa (wpAny_setEpoch_of ho T.da T.ft ?_)
  exact Qa (wpAny_newObj_type (Qc ⟨_,rfl,"set_iterator",_,⟨_,Qm _ rfl,rfl⟩,d4.lookup,q⟩))
 by_cases hb:cv w=true
 ·rw [hb]
  simp only [Bool.not_true,Bool.false_and,Bool.false_eq_true,if_false]
  refine Qa (Qc ?_)
  exact fin (rawInt 0) s T.ob (h1 (.inl hb))
 ·have hb:cv w=false:=by simpa using hb
  by_cases hz:es.size<=1
  ·rw [show decide (es.size>1)=false from Qi (by omega)]
   simp only [Bool.and_false,Bool.false_eq_true,if_false]
   refine Qa (Qc ?_)
   exact fin (rawInt 0) s T.ob (h1 (.inr hz))
  ·have hp:t.plain=false:=by
    rcases T.pl with h | h
    ·omega
    ·exact h
   rw [hb,hp,show decide (es.size>1)=true from Qv (by omega)]
   simp only [Bool.not_false,Bool.and_self,if_true]
   refine Qa (ph es.size (List.range es.size) s _ (by simp) fun ys d' hy=>?_)
   simp only [newTuple]
   refine Qa (wpAny_newObj_type ?_ ?_)
   ·exact fin _ _ (Qd _ T.ob) (h2 hb (by omega) ys d' hy)
   ·have hl:ys.length=es.size:=by rw [hy.length_eq];simp
    show (ys.map fun (i:Nat)=>rawInt (i:Int)).toArray.size<=sizeLine
    rw [Qq,Qg,hl]
    exact Nat.le_of_lt (cp hn)
end
end L2
namespace L2
open PySem PySem.Spec PyProof.Rows
section
variable {prog:Program} {w:World} {A:Around} {E:Value->Shared->Prop} {s:Shared} {S I:Addr} {o:Obj} {es:Array (Int × Value)} {ep:Nat} {t:SetTable}
theorem fD {first:Value} {i n:Nat} (hI:s.heap.get? I=some (cC first i S n ep)):s.TypeIs (.ref I) "set_iterator":=⟨_,hI,rfl⟩
theorem pA {Q:Option (Value × Nat)->Shared->Prop} {slot i:Nat} (hb:cv w=true) (T:SW w s.heap S o es ep t) (h:Q (((pickOrder (w.params.setOrder S ep) es)[i]?).map fun e=>(e.2,slot)) s):wpAny (model prog w) A (setNext S slot i ep) Q E s:=by
 have hb':w.params.followText "set-order"=true:=hb
 unfold setNext setsByText
 refine Qa (wpAny_setState_of T.ob T.da T.ft ?_)
 dsimp only
 refine Qa (Qa (wpAny_askSetting (Qc ?_)))
 rw [if_pos (show (model prog w).w.params.followText "set-order"=true from hb')]
 rw [if_neg (by simp)]
 unfold setWalk setsByText
 refine Qa (Qa (wpAny_setState_of T.ob T.da T.ft ?_))
 dsimp only
 refine Qa (Qa (wpAny_askSetting (Qc ?_)))
 rw [if_pos (show (model prog w).w.params.followText "set-order"=true from hb')]
 exact Qa (wpAny_askSetting (Qc (Qc h)))
theorem pB {Q:Option (Value × Nat)->Shared->Prop} {slot i:Nat} (hb:cv w=false) (hz:es.size<=1) (T:SW w s.heap S o es ep t) (h:Q (match es[SetTable.below t.place slot]?,t.place[SetTable.below t.place slot]? with
  | some (_,x),some j=>some (x,j+1)
  | _,_=>none) s):wpAny (model prog w) A (setNext S slot i ep) Q E s:=by
 have hb':w.params.followText "set-order"=false:=hb
 unfold setNext setsByText
 refine Qa (wpAny_setState_of T.ob T.da T.ft ?_)
 dsimp only
 refine Qa (Qa (wpAny_askSetting (Qc ?_)))
 rw [if_neg (show ¬ (model prog w).w.params.followText "set-order"=true by show ¬ w.params.followText "set-order"=true;rw [hb'];decide)]
 show wpAny _ _ (if (!t.plain&&decide (es.size>1))=true then _ else _) _ _ _
 rw [show decide (es.size>1)=false from Qi (by omega),Bool.and_false,if_neg (by decide)]
 show wpAny _ _ ((if (!t.led&&!es.isEmpty)=true then unsupported _ else pure PUnit.unit) >>= _) _ _ _
 rw [T.ld,hb]
 exact Qa (Qc (Qc h))
theorem pE {Q:Option Value->Shared->Prop} {slot i nx:Nat} {x:Value} (hI:s.heap.get? I=some (cC (.int slot 0) i S es.size ep)) (T:SW w s.heap S o es ep t)
  (hsn:∀ (A:Around) (E:Value->Shared->Prop) (Q:Option (Value × Nat)->Shared->Prop),Q (some (x,nx)) s->wpAny (model prog w) A (setNext S slot i ep) Q E s)
  (hQ:∀ h',h'.get? I=some (cC (.int nx 0) (i+1) S es.size ep)->Heap.SameBut I s.heap h'->Q (some x) { s with heap:=h' }):wpAny (model prog w) A (pyNext (.ref I)) Q E s:=by
 have hT:=fD hI
 unfold pyNext
 refine Qa (wpAny_attempt (wpAny_callSpecial?_slot (name:=Str.ofString "__next__") hT d4 (wpAny_call_entry d4 hT jz ?_ (jA _))))
 unfold Builtin.«set_iterator.__next__»
 refine Qa (Qc (Qa (wpAny_fieldsOf hI rfl ?_)))
 show wpAny _ _ (setEntries S >>= _) _ _ _
 refine Qa (wpAny_setEntries_of T.ob T.da T.ft ?_)
 rw [if_neg (by simp)]
 show wpAny _ _ (setNext S (slot:Int).toNat (i:Int).toNat (ep:Int).toNat >>= _) _ _ _
 simp only [Int.toNat_natCast]
 refine Qa (hsn _ _ _ ?_)
 dsimp only
 refine Qa (wpAny_setField hI rfl (by simp) ?_)
 have h1:(s.heap.update I (Obj.mapFields (·.setIfInBounds 0 (rawInt (nx:Nat))))).get? I=some (cC (.int nx 0) i S es.size ep):=Heap.get?_update_self _ hI rfl
 refine Qa (wpAny_setField (s:={ s with heap:=s.heap.update I (Obj.mapFields (·.setIfInBounds 0 (rawInt (nx:Nat)))) }) h1 rfl (by simp) ?_)
 refine Qc ⟨_,rfl,Qc (hQ _ (Heap.get?_update_self _ h1 rfl) ?_)⟩
 exact (Heap.SameBut.update ..).trans (Heap.SameBut.update ..)
theorem pF {Q:Option Value->Shared->Prop} {slot i:Nat} (hh:A.handled=none) (hI:s.heap.get? I=some (cC (.int slot 0) i S es.size ep)) (T:SW w s.heap S o es ep t)
  (hsn:∀ (A:Around) (E:Value->Shared->Prop) (Q:Option (Value × Nat)->Shared->Prop),Q none s->wpAny (model prog w) A (setNext S slot i ep) Q E s)
  (hQ:∀ h',Heap.ExtBut I s.heap h'->Q none { s with heap:=h' }):wpAny (model prog w) A (pyNext (.ref I)) Q E s:=by
 have hT:=fD hI
 unfold pyNext
 refine Qa (wpAny_attempt (wpAny_callSpecial?_slot (name:=Str.ofString "__next__") hT d4 (wpAny_call_entry d4 hT jz ?_ (jA _))))
 unfold Builtin.«set_iterator.__next__»
 refine Qa (Qc (Qa (wpAny_fieldsOf hI rfl ?_)))
 show wpAny _ _ (setEntries S >>= _) _ _ _
 refine Qa (wpAny_setEntries_of T.ob T.da T.ft ?_)
 rw [if_neg (by simp)]
 show wpAny _ _ (setNext S (slot:Int).toNat (i:Int).toNat (ep:Int).toNat >>= _) _ _ _
 simp only [Int.toNat_natCast]
 refine Qa (hsn _ _ _ ?_)
 dsimp only
 refine Qa (wpAny_setField hI rfl (by simp) ?_)
 refine Qa ?_
 simp only [newExc,newTuple]
 refine Qa (wpAny_newObj_type (Qa (m:=firstArgMember _ _) (wpAny_of_eq (a:=Value.none) (by first | rfl | (simp only [firstArgMember];rfl)) (wpAny_newObj_type ?_ (by size_fits)))) (by size_fits))
 simp only [raiseNew]
 refine Qa (wpAny_handled ?_)
 rw [show A.in1.handled=none from hh]
 refine (Qa (Qc (wpAny_throw ?_)))
 refine (Qa (wpAny_isInstance (T:="StopIteration") (b:=true) ⟨_,Qm _ rfl,rfl⟩ isSubtype_stop (Qc (hQ _ ?_))))
 exact ((Heap.SameBut.update ..).extBut.push _).push _
theorem xF {Q:Option Value->Shared->Prop} {i:Nat} {P:Addr} {ys:List Nat} {y:Nat} {e:Int × Value} (hI:s.heap.get? I=some (cC (.ref P) i S es.size ep)) (hP:s.heap.get? P=some (eU ys)) (T:SW w s.heap S o es ep t) (hy:ys[i]?=some y) (he:es[y]?=some e)
  (hQ:∀ h',h'.get? I=some (cC (.ref P) (i+1) S es.size ep)->Heap.SameBut I s.heap h'->Q (some e.2) { s with heap:=h' }):wpAny (model prog w) A (pyNext (.ref I)) Q E s:=by
 have hT:=fD hI
 unfold pyNext
 refine Qa (wpAny_attempt (wpAny_callSpecial?_slot (name:=Str.ofString "__next__") hT d4 (wpAny_call_entry d4 hT jz ?_ (jA _))))
 unfold Builtin.«set_iterator.__next__»
 refine Qa (Qc (Qa (wpAny_fieldsOf hI rfl ?_)))
 show wpAny _ _ (setEntries S >>= _) _ _ _
 refine Qa (wpAny_setEntries_of T.ob T.da T.ft ?_)
 rw [if_neg (by simp)]
 show wpAny _ _ (seqItems? (Value.ref P) >>= _) _ _ _
 unfold seqItems?
 refine Qa (Qa (wpAny_load hP ?_))
 show wpAny _ _ (pure (some (ys.map fun (i:Nat)=>Value.int (i:Int) 0).toArray)) _ _ _
 refine Qc ?_
 dsimp only
 rw [show ((ys.map fun (i:Nat)=>Value.int (i:Int) 0).toArray)[(i:Int).toNat]?=some (Value.int (y:Int) 0) by rw [Int.toNat_natCast,List.getElem?_toArray,Qk,hy];rfl]
 dsimp only
 unfold setNextDrawn
 refine Qa (Qa (wpAny_setState_of T.ob T.da T.ft ?_))
 dsimp only
 simp only [Int.toNat_natCast]
 rw [if_neg (by simp)]
 rw [he]
 dsimp only
 refine Qc ?_
 refine Qa (wpAny_setField hI rfl (by simp) ?_)
 exact Qc ⟨_,rfl,Qc (hQ _ (Heap.get?_update_self _ hI rfl) (Heap.SameBut.update ..))⟩
theorem xG {Q:Option Value->Shared->Prop} {i:Nat} {P:Addr} {ys:List Nat} (hh:A.handled=none) (hI:s.heap.get? I=some (cC (.ref P) i S es.size ep)) (hP:s.heap.get? P=some (eU ys)) (T:SW w s.heap S o es ep t) (hy:ys[i]?=none)
  (hQ:∀ h',Heap.ExtBut I s.heap h'->Q none { s with heap:=h' }):wpAny (model prog w) A (pyNext (.ref I)) Q E s:=by
 have hT:=fD hI
 unfold pyNext
 refine Qa (wpAny_attempt (wpAny_callSpecial?_slot (name:=Str.ofString "__next__") hT d4 (wpAny_call_entry d4 hT jz ?_ (jA _))))
 unfold Builtin.«set_iterator.__next__»
 refine Qa (Qc (Qa (wpAny_fieldsOf hI rfl ?_)))
 show wpAny _ _ (setEntries S >>= _) _ _ _
 refine Qa (wpAny_setEntries_of T.ob T.da T.ft ?_)
 rw [if_neg (by simp)]
 show wpAny _ _ (seqItems? (Value.ref P) >>= _) _ _ _
 unfold seqItems?
 refine Qa (Qa (wpAny_load hP ?_))
 show wpAny _ _ (pure (some (ys.map fun (i:Nat)=>Value.int (i:Int) 0).toArray)) _ _ _
 refine Qc ?_
 dsimp only
 rw [show ((ys.map fun (i:Nat)=>Value.int (i:Int) 0).toArray)[(i:Int).toNat]?=none by rw [Int.toNat_natCast,List.getElem?_toArray,Qk,hy];rfl]
 dsimp only
 refine Qa (wpAny_setField hI rfl (by simp) ?_)
 have h1:(s.heap.update I (Obj.mapFields (·.setIfInBounds 0 (rawInt 0)))).get? I=some (cC (.int 0 0) i S es.size ep):=Heap.get?_update_self _ hI rfl
 refine Qa (wpAny_setField (s:={ s with heap:=s.heap.update I (Obj.mapFields (·.setIfInBounds 0 (rawInt 0))) }) h1 rfl (by simp) ?_)
 refine Qa ?_
 simp only [newExc,newTuple]
 refine Qa (wpAny_newObj_type (Qa (m:=firstArgMember _ _) (wpAny_of_eq (a:=Value.none) (by first | rfl | (simp only [firstArgMember];rfl)) (wpAny_newObj_type ?_ (by size_fits)))) (by size_fits))
 simp only [raiseNew]
 refine Qa (wpAny_handled ?_)
 rw [show A.in1.handled=none from hh]
 refine (Qa (Qc (wpAny_throw ?_)))
 refine (Qa (wpAny_isInstance (T:="StopIteration") (b:=true) ⟨_,Qm _ rfl,rfl⟩ isSubtype_stop (Qc (hQ _ ?_))))
 exact (((Heap.SameBut.update ..).trans (Heap.SameBut.update ..)).extBut.push _).push _
end
end L2
namespace L2
open PySem PySem.Spec PyProof.Rows
section
variable {prog:Program} {w:World} {A:Around} {E:Value->Shared->Prop} {s:Shared}
noncomputable abbrev cg (prog:Program) (w:World) (h:Heap) (z:List aa) (b:Addr):Prop:=IsTupleKey (bo prog w) h z b
noncomputable def aZ (prog:Program) (w:World) (z:List aa):Int:=tupleKeyHash (bo prog w) z
theorem IsTupleKey.at' {h h':Heap} {z:List aa} {b:Addr} (x:cg prog w h z b) (k:∀ o,h.get? b=some o->h'.get? b=some o):cg prog w h' z b:=by
 obtain ⟨o,its,n,h1,h2,h3,h4⟩:=x
 exact ⟨o,its,n,k o h1,h2,h3,h4⟩
theorem pG {z:List aa} {b:Addr} {Q:Bool->Shared->Prop} (hk:cg prog w s.heap z b) (q:Q false s):wpAny (model prog w) A (ofAClassStatement 8 (.ref b)) Q E s:=by
 have hT:=hk.typeIs
 obtain ⟨o,items,n,ho,hc,hd,hi⟩:=hk
 unfold ofAClassStatement
 refine Qa (wpAny_typeOf hT ?_)
 dsimp only
 rw [if_pos (by rfl)]
 refine Qa (Qc ?_)
 rw [if_neg (by decide)]
 refine Qa (wpAny_seqItems ho hd ?_)
 dsimp only
 refine Qa ?_
 rw [<- Array.forIn_toList]
 refine wpAny_forIn_list _ (fun rest r s'=>r.1=none/\s'=s/\∀ v∈rest,carriedByValue v=true) _ ?_ ?_ _ _ ⟨rfl,rfl,hi.byValue⟩
 ·rintro v rest r s' ⟨hr,rfl,hall⟩
  have e:ofAClassStatement 7 v=pure false:=by
   have:=hall v QB
   cases v<;>first | rfl | cases this
  rw [e]
  refine Qa (Qc ?_)
  rw [if_neg (by decide)]
  exact Qc ⟨rfl,rfl,fun u hu'=>hall u (Qn _ hu')⟩
 ·rintro ⟨r1,r2⟩ s' ⟨hr,rfl,_⟩
  simp only at hr
  subst hr
  exact Qc q
theorem xH {z:List aa} {b:Addr} {Q:Bool->Shared->Prop} (hk:cg prog w s.heap z b) (stored:List Value) (hs:∀ v∈stored,∃ y c,v=.ref c/\cg prog w s.heap y c) (q:Q false s):wpAny (model prog w) A (searchCouldBeSeen (.ref b) stored) Q E s:=by
 unfold searchCouldBeSeen
 refine Qa (wpAny_forIn_list _ (fun rest r s'=>r.1=none/\s'=s/\∀ v∈rest,∃ y c,v=.ref c/\cg prog w s.heap y c) _ ?_ ?_ _ _ ⟨rfl,rfl,hs⟩)
 ·rintro v rest r s' ⟨hr,rfl,hall⟩
  obtain ⟨y,c,rfl,hy⟩:=hall v QB
  have hrest:=fun u hu'=>hall u (Qn _ hu')
  dsimp only
  refine wpAny_ite_split (fun _=>Qc ⟨rfl,rfl,hrest⟩) fun _=>?_
  refine Qa (wpAny_eqIsQuiet_tuple hk ?_)
  rw [if_neg (by decide)]
  refine Qa (wpAny_eqIsQuiet_tuple hy ?_)
  rw [if_neg (by decide)]
  refine Qa (pG hk ?_)
  rw [if_neg (by decide)]
  refine Qa (pG hy ?_)
  rw [if_neg (by decide)]
  exact Qc ⟨rfl,rfl,hrest⟩
 ·rintro ⟨r1,r2⟩ s' ⟨hr,rfl,_⟩
  simp only at hr
  subst hr
  exact Qc q
noncomputable def fE (z:List aa):Prop:=∃ x:Str,Sum.inr x∈z
theorem xI {z:List aa} {b:Addr} {Q:Bool->Shared->Prop} (hk:cg prog w s.heap z b) (ht:fE z) (q:Q false s):wpAny (model prog w) A (hashByValue 8 (.ref b)) Q E s:=by
 have hT:=hk.typeIs
 obtain ⟨o,items,n,ho,hc,hd,hi⟩:=hk
 unfold hashByValue
 refine Qa (wpAny_specialOf hT PySem.F.slot_tuple_hash.lookup ?_)
 dsimp only
 refine Qa (wpAny_seqItems ho hd ?_)
 show wpAny _ _ (forIn items _ _ >>= _) _ _ _
 refine Qa ?_
 rw [<- Array.forIn_toList]
 refine wpAny_forIn_list _ (fun rest r s'=>r.1=none/\s'=s/\∃ left,ItemsAre (bo prog w) left rest/\fE left) _ ?_ ?_ _ _ ⟨rfl,rfl,z,hi,ht⟩
 ·rintro v rest r s' ⟨hr,rfl,left,hl,x,hx⟩
  cases hl with
  | @cons k v ks vs h1 h2 =>
   rcases dS h1 with ⟨i,t,rfl,rfl⟩ | ⟨y,t,rfl,rfl⟩
   ·refine Qa (Qc ?_)
    rw [if_neg (by decide)]
    refine Qc ⟨rfl,rfl,ks,h2,x,?_⟩
    rcases Ql hx with e | e
    ·cases e
    ·exact e
   ·refine Qa (Qc ?_)
    rw [if_pos (by decide)]
    exact Qc (Qc q)
 ·rintro ⟨r1,r2⟩ s' ⟨hr,rfl,left,hl,x,hx⟩
  cases hl
  cases hx
structure bU (prog:Program) (w:World) (kz:Value->List aa) (N:Addr->Prop) (h:Heap) (a:Addr) (zs:List (List aa)) (led:Bool) (o:Obj) (es:Array (Int × Value)) (ep:Nat) (t:SetTable) (L:List (Nat × (Int × Value))):Prop where
 ob:h.get? a=some o
 ex:o.ExactSet
 da:o.data=.set es ep t
 tb:bT t es L
 rc:Reach t.mask L
 mk7:t.mask=7∨t.mask=31∨t.mask=127
 fu:L.length*5<t.mask*3
 el:∀ p∈L,p.2.1=aZ prog w (kz p.2.2)/\∃ b,p.2.2=.ref b/\cg prog w h (kz p.2.2) b/\N b
 pm:(L.map fun p=>kz p.2.2).Perm zs
 ld:t.led=led
 pl:L.length=0∨t.plain=false
variable {kz:Value->List aa} {N:Addr->Prop} {a:Addr} {zs:List (List aa)} {led:Bool} {o:Obj} {es:Array (Int × Value)} {ep:Nat} {t:SetTable} {L:List (Nat × (Int × Value))}
theorem gq {α:Type} {t:SetTable} {es:Array α} {L:List (Nat × α)} (T:bT t es L):t.fits es.size=true:=by
 unfold SetTable.fits SetTable.fill
 have h1:=T.size
 have h2:=T.fl
 rw [T.du]
 simp
 omega
theorem bU.round (T:bU prog w kz N s.heap a zs led o es ep t L):cN t.mask:=by
 rcases T.mk7 with e | e | e<;>rw [e]
 ·exact xu
 ·exact o6
 ·exact o7
theorem bU.ne {h:Heap} (T:bU prog w kz N h a zs led o es ep t L) {z:List aa} {b:Addr} (hk:cg prog w h z b):b≠a:=fun e=>by
 obtain ⟨o',its,n,h1,h2,h3,_⟩:=hk
 rw [e,T.ob] at h1
 cases h1
 rw [T.da] at h3
 cases h3
theorem bU.mem {h:Heap} (T:bU prog w kz N h a zs led o es ep t L) {z:List aa}:z∈zs↔∃ p∈L,kz p.2.2=z:=by
 rw [<- T.pm.mem_iff,List.mem_map]
noncomputable def gr (es:Array (Int × Value)) (i:Nat):Int:=(es[i]?.map (·.1)).getD 0
theorem pH (T:bU prog w kz N s.heap a zs led o es ep t L) {x:Value} {z:List aa} {b:Addr} (hx:x=.ref b) (hk:cg prog w s.heap z b) (hu:A.units<cLine) {K:Nat} (hK:¬ cu L (aF t.mask (aZ prog w z) K).j) (hb:∀ k,k<K->cu L (aF t.mask (aZ prog w z) k).j) (hKb:K<10*SetTable.turns t.mask)
  {Q:SetFound->Shared->Prop} (q1:z∈zs->Q (.there none) s) (q2:z∉zs->Q (.free (aF t.mask (aZ prog w z) K).j false) s) :
  ∀ fuel k (stand:Option SetTable.Probe),stand.getD (t.probeStart (aZ prog w z))=aF t.mask (aZ prog w z) k->k<=K->K-k<fuel->(∀ k',k'<k->∀ q∈L,q.1=(aF t.mask (aZ prog w z) k').j->kz q.2.2≠z)->wpAny (model prog w) A (setSearchFrom a x (aZ prog w z) true fuel stand) Q E s
 | 0,k,stand,_,_,h,_=>absurd h (Nat.not_lt_zero _)
 | fuel+1,k,stand,hst,hk1,hf,hno=>by
  unfold setSearchFrom
  refine Qa (wpAny_setState_of T.ob T.da (gq T.tb) ?_)
  dsimp only
  rw [if_neg (show ¬ t.gaveWay=true by unfold SetTable.gaveWay;rcases T.mk7 with e | e | e<;>rw [e]<;>decide),hst]
  have hh:∀ (i:Nat) (p:Nat × (Int × Value)),L[i]?=some p->gr es i=p.2.1:=fun i p hp=>by
   unfold gr
   rw [T.tb.entry,hp]
   rfl
  have hpr:=o9 T.tb hh hK hb (10*SetTable.turns t.mask) k hk1 (by omega)
  have tail:∀ met,SetTable.probe.go t (gr es) (aZ prog w z) (10*SetTable.turns t.mask) (aF t.mask (aZ prog w z) k)=some met->t.probe (gr es) (aZ prog w z) (aF t.mask (aZ prog w z) k)=some met:=fun met e=>e
  rcases hpr with ⟨k1,i,p,a1,a2,a3,a4,a5,a6,a7⟩ | ⟨a1,a2⟩
  ·have a3:=tail _ a3
   show wpAny _ _ (match t.probe (gr es) (aZ prog w z) (aF t.mask (aZ prog w z) k) with | some met=>_ | x=>_) _ _ _
   rw [a3]
   dsimp only
   have hp:=Qt a4
   obtain ⟨e1,c,e2,hc,_⟩:=T.el p hp
   have hes:es[i]?=some p.2:=by rw [T.tb.entry,a4];rfl
   have rest:wpAny (model prog w) A (do
     let some (_,y):=es[i]? | unsupported "internal:set-entry"
     let equal <- holding [y] (eqBool y x)
     let (es',_,t') <- setState a
     if true&&equal then return .there none
     let some same:=t'.sameMemory t.moves t.mask | unsupported "set.changed-during-lookup:is-the-new-block-at-the-old-address"
     let still <- match (if same then t'.slot (aF t.mask (aZ prog w z) k1).j else .empty) with
      | .live i'=>match es'[i']? with
       | some (_,y')=>do pure (if <- isSame y' y then some i' else none)
       | none=>pure none
      | _=>pure none
     match still with
     | none=>rule "set.search.anew";setSearchFrom a x (aZ prog w z) true fuel none
     | some i'=>if equal then return .there (some i') else setSearchFrom a x (aZ prog w z) true fuel (some (aF t.mask (aZ prog w z) (k1+1)))) Q E s:=by
    rw [hes]
    dsimp only
    rw [e2]
    rw [hx]
    refine Qa (wpAny_holding (wpAny_eqBool_tuple hu hc hk ?_))
    refine Qa (wpAny_setState_of T.ob T.da (gq T.tb) ?_)
    dsimp only
    by_cases hq:kz (.ref c)=z
    ·have hq':kz p.2.2=z:=by rw [e2];exact hq
     rw [show decide (kz p.2.2=z)=true from Qv hq',if_pos (by decide)]
     exact Qc (q1 (T.mem.mpr ⟨p,hp,hq'⟩))
    ·have hq':kz p.2.2≠z:=by rw [e2];exact hq
     rw [show decide (kz p.2.2=z)=false from Qi hq',if_neg (by decide)]
     rw [show t.sameMemory t.moves t.mask=some true by unfold SetTable.sameMemory;simp]
     dsimp only
     rw [if_pos rfl,<- a5,T.tb.live a4]
     dsimp only
     rw [hes]
     dsimp only
     rw [e2]
     refine Qa ?_
     unfold isSame
     dsimp only
     rw [if_pos (by simp)]
     refine Qc (Qa (Qc ?_))
     rw [if_pos rfl]
     dsimp only
     rw [if_neg (by decide),<- hx]
     refine pH T hx hk hu hK hb hKb q1 q2 fuel (k1+1) _ rfl (by omega) (by omega) fun k' hk' q hqm eq=>?_
     by_cases z1:k'<k
     ·exact hno k' z1 q hqm eq
     ·by_cases z2:k'<k1
      ·intro z3
       have:=a7 k' (by omega) z2 q hqm eq
       exact this (by rw [(T.el q hqm).1,z3])
      ·have z3:k'=k1:=by omega
       subst z3
       rw [<- a5] at eq
       obtain ⟨i',hi'⟩:=List.mem_iff_getElem?.mp hqm
       have l1:=T.tb.live a4
       have l2:=T.tb.live hi'
       rw [eq,l1] at l2
       cases l2
       rw [a4] at hi'
       cases hi'
       exact hq'
   by_cases hl:t.led=true
   ·rw [if_neg (by rw [hl];decide)]
    exact rest
   ·rw [if_pos (by simpa using hl)]
    rw [hx] at rest ⊢
    refine Qa (xH hk _ (fun v hv=>?_) ?_)
    ·obtain ⟨e,he,rfl⟩:=QF hv
     have he2:e∈es.toList:=by
      have:=Array.mem_toList_iff.mp he
      exact Array.mem_toList_iff.mpr (Array.mem_filter.mp this).1
     rw [T.tb.el] at he2
     obtain ⟨q,hq,rfl⟩:=QF he2
     obtain ⟨_,d,e3,hd,_⟩:=T.el q hq
     exact ⟨_,d,e3,hd⟩
    ·rw [if_neg (by decide)]
     exact rest
  ·have a1:=tail _ a1
   show wpAny _ _ (match t.probe (gr es) (aZ prog w z) (aF t.mask (aZ prog w z) k) with | some met=>_ | x=>_) _ _ _
   rw [a1]
   refine Qc (q2 fun hz=>?_)
   obtain ⟨p,hp,ep⟩:=T.mem.mp hz
   have eh:p.2.1=aZ prog w z:=by rw [(T.el p hp).1,ep]
   obtain ⟨k0,g1,g2⟩:=T.rc.ahead hK hp eh
   by_cases z1:k0<k
   ·exact hno k0 z1 p hp g2.symm ep
   ·exact a2 k0 (by omega) g1 p hp g2.symm eh
end
end L2
namespace L2
open PySem PySem.Spec PyProof.Rows
open Classical in
noncomputable def dO (σ:List (List aa)) (v:List aa):List (List aa):=if v∈σ then σ else σ++[v]
section
variable {prog:Program} {w:World} {A:Around} {E:Value->Shared->Prop} {s:Shared}
variable {kz:Value->List aa} {N:Addr->Prop} {a:Addr} {zs zs':List (List aa)} {led:Bool} {o:Obj} {es es':Array (Int × Value)} {ep:Nat} {t t':SetTable} {L L':List (Nat × (Int × Value))}
theorem pI {h:Heap} {a:Addr} {o:Obj} {es:Array (Int × Value)} {ep:Nat} {t:SetTable} (ob:h.get? a=some o) (da:o.data=.set es ep t) (es':Array (Int × Value)) (t':SetTable):(h.update a (Obj.putSet es' t')).get? a=some { o with data:=.set es' (ep+1) t' }:=by
 have:=Heap.get?_update_self (Obj.putSet es' t') ob (by rw [putSet_of es' t' da];rfl)
 rw [putSet_of es' t' da] at this
 exact this
theorem xJ {x:Value} {z:List aa} {b:Addr} (hx:x=.ref b) (hkz:kz x=z) (hN:N b) (ht:fE z) (hu:A.units<cLine) {Q:Bool->Shared->Prop} (hk:cg prog w s.heap z b)
  (hS:∃ o es ep t L,bU prog w kz N s.heap a zs led o es ep t L) (hroom:zs.length+1<=76)
  (k:∀ r h',Heap.SameBut a s.heap h'->(∃ o es ep t L,bU prog w kz N h' a (dO zs z) led o es ep t L)->Q r { s with heap:=h' }):wpAny (model prog w) A (setAddHashed a x (aZ prog w z)) Q E s:=by
 obtain ⟨o,es,ep,t,L,T⟩:=hS
 have hLz:L.length=zs.length:=by have:=T.pm.length_eq;simpa using this
 have hne:b≠a:=T.ne hk
 obtain ⟨K,hK1,hK2,hK3⟩:=xx T.round (L:=L) T.tb.fl (aZ prog w z)
 unfold setAddHashed setAddHashedIn
 refine wpAny_holding (Qa (wpAny_setState_of T.ob T.da (gq T.tb) ?_))
 dsimp only
 rw [hx,if_neg (show ¬ byScan (.ref b) es=true by unfold byScan;rw [show (Value.ref b).scannable=false from rfl];simp),<- hx]
 unfold setSearch
 refine Qa (pH (k:=0) (fuel:=100000) (stand:=none) T hx hk hu hK2 hK3 (by unfold SetTable.turns;omega) (fun hz=>?_) (fun hz=>?_) rfl (Qs _) ?_ fun k' h=>absurd h (Nat.not_lt_zero _))
 ·refine Qc ?_
  have e:s={ s with heap:=s.heap }:=rfl
  rw [e]
  refine k false s.heap ⟨rfl,fun _ _=>rfl⟩ ⟨o,es,ep,t,L,?_⟩
  unfold dO
  rw [if_pos hz]
  exact T
 ·
  refine Qa (wpAny_setState_of T.ob T.da (gq T.tb) ?_)
  dsimp only
  have hj:(aF t.mask (aZ prog w z) K).j<=t.mask:=by have:=(lr t.mask (aZ prog w z) K).1;omega
  have hfu:=T.fu
  have hl1:L.length+1<=t.mask:=by rcases T.mk7 with e | e | e<;>rw [e] at hfu ⊢<;>omega
  obtain ⟨L',T',hp',e1,e2,e3,e4⟩:=T.tb.put (e:=(aZ prog w z,x)) (fun p hp z=>hK2 ⟨p,hp,z⟩) hj hl1
  generalize hpt:t.put (aF t.mask (aZ prog w z) K).j=tp at T' e1 e2 e3 e4
  obtain ⟨t1,p1⟩:=tp
  dsimp only at T' e1 e2 e3 e4 ⊢
  have hrc:Reach t1.mask L':=by rw [e1];exact T.rc.cons hp' hK3
  have hlen:L'.length=L.length+1:=by rw [hp'.length_eq];rfl
  have hel:∀ p∈L',p.2.1=aZ prog w (kz p.2.2)/\∃ b,p.2.2=.ref b/\cg prog w s.heap (kz p.2.2) b/\N b:=fun p hp=>by
   rcases Ql (hp'.mem_iff.mp hp) with e | hp
   ·rw [e]
    exact ⟨by rw [hkz],b,hx,by rw [hkz];exact hk,hN⟩
   ·exact T.el p hp
  have hpm:(L'.map fun p=>kz p.2.2).Perm (dO zs z):=by
   unfold dO
   rw [if_neg hz]
   refine (hp'.map _).trans ?_
   rw [List.map_cons]
   show List.Perm (kz x::_) _
   rw [hkz]
   exact (T.pm.cons z).trans (List.perm_append_singleton z zs).symm
  have main:∀ t2:SetTable,t2.place=t1.place->t2.dummies=t1.dummies->t2.mask=t1.mask->t2.led=led->t2.plain=false->wpAny (model prog w) A (do
    storeSet a (SetTable.insertAt es p1 (aZ prog w z,x)) t2
    if !false&&t2.tooFull then setRelay a (SetTable.grown (es.size+1))
    return true) Q E s:=by
   intro t2 f1 f2 f3 f4 f5
   have T2:bT t2 (SetTable.insertAt es p1 (aZ prog w z,x)) L':=⟨by rw [f1];exact T'.pl,T'.el,T'.up,by rw [f2];exact T'.du,by rw [f3];exact T'.le,by rw [f3];exact T'.fl⟩
   have hs2:=T2.size.2
   refine Qa (wpAny_storeSet_of T.ob T.da ?_ (by rw [hs2,hlen,hLz];exact Nat.le_of_lt (cp (by omega))))
   have ob1:=pI T.ob T.da (SetTable.insertAt es p1 (aZ prog w z,x)) t2
   have sb:=Heap.SameBut.update s.heap a (Obj.putSet (SetTable.insertAt es p1 (aZ prog w z,x)) t2)
   generalize s.heap.update a (Obj.putSet (SetTable.insertAt es p1 (aZ prog w z,x)) t2)=h1 at ob1 sb
   generalize SetTable.insertAt es p1 (aZ prog w z,x)=es1 at ob1 T2 hs2
   have kp:∀ h',Heap.SameBut a s.heap h'->∀ p:Nat × (Int × Value),(p.2.1=aZ prog w (kz p.2.2)/\∃ b,p.2.2=.ref b/\cg prog w s.heap (kz p.2.2) b/\N b)->(p.2.1=aZ prog w (kz p.2.2)/\∃ b,p.2.2=.ref b/\cg prog w h' (kz p.2.2) b/\N b):=fun h' sb p hsl63=>by obtain ⟨g1,d,g2,g3,g4⟩:=hsl63;exact ⟨g1,d,g2,IsTupleKey.at' g3 (fun o e=>(sb.2 d (T.ne g3)).trans e),g4⟩
   have tf:t2.tooFull=decide (t.mask*3<=(L.length+1)*5):=by
    unfold SetTable.tooFull SetTable.fill
    rw [f1,f2,f3,T'.du,T'.size.1,hlen,e1]
    simp
   by_cases hc:t.mask*3<=(L.length+1)*5
   ·rw [tf,if_pos (by simpa using hc)]
    have hm:(t.mask=7/\L.length+1=5)∨(t.mask=31/\L.length+1=19):=by
     rcases T.mk7 with e | e | e<;>rw [e] at hfu hc
     ·exact .inl ⟨e,by omega⟩
     ·exact .inr ⟨e,by omega⟩
     ·omega
    have hes:es.size=L.length:=T.tb.size.2
    obtain ⟨m,em,hm1,hm2,hm3,hm4⟩:∃ m,SetTable.sizeAbove (SetTable.grown (es.size+1))-1=m/\(m=31∨m=127)/\L.length+1<=m/\(L.length+1)*5<m*3/\SetTable.sizeAbove (SetTable.grown (es.size+1))<=sizeLine:=by
     rcases hm with ⟨_,e⟩ | ⟨_,e⟩<;>rw [hes,e]
     ·exact ⟨31,by decide +kernel,.inl rfl,by omega,by omega,by decide +kernel⟩
     ·exact ⟨127,by decide +kernel,.inr rfl,by omega,by omega,by decide +kernel⟩
    have R:cN m:=by
     rcases hm1 with e | e<;>rw [e]
     ·exact o6
     ·exact o7
    unfold setRelay
    refine Qa (Qa (wpAny_setState_of (s:={ s with heap:=h1 }) ob1 rfl (gq T2) ?_))
    dsimp only
    rw [if_neg (by omega)]
    unfold SetTable.relaid
    rw [em]
    obtain ⟨t3,order,L3,g1,g2,g3,g4,g5,g6,g7,g8⟩:=xA (es:=es1) R (finger:=t2.finger) (moves:=t2.movedTo m) (led:=t2.led) (plain:=t2.plain) (by rw [hs2,hlen];exact hm2)
    rw [g1]
    have hl3:L3.length=L'.length:=by
     have:=g3.length_eq
     have h2:es1.toList.length=es1.size:=Qx
     have h3:(L3.map (·.2)).length=L3.length:=Qg _
     omega
    have hs3:(order.filterMap (es1[·]?)).size=es1.size:=by rw [g2.size.2,hl3,hs2]
    refine Qa ?_
    show wpAny _ _ (if ((order.filterMap (es1[·]?)).size != es1.size)=true then _ else pure (order.filterMap (es1[·]?),t3)) _ _ _
    rw [if_neg (by simp [hs3])]
    refine Qc ?_
    dsimp only
    refine wpAny_storeSet_of (s:={ s with heap:=h1 }) ob1 rfl ?_ (by rw [hs3,hs2,hlen,hLz];exact Nat.le_of_lt (cp (by omega)))
    have ob2:=pI ob1 rfl (order.filterMap (es1[·]?)) t3
    have sb2:=sb.trans (Heap.SameBut.update h1 a (Obj.putSet (order.filterMap (es1[·]?)) t3))
    refine Qc (k true _ sb2 ⟨_,_,_,t3,L3,ob2,T.ex,rfl,g2,by rw [g5];exact g4,by rw [g5];exact .inr hm1,by rw [g5,hl3,hlen];exact hm3,fun p hp=>?_,?_,g6.trans f4,.inr (g7.trans f5)⟩)
    ·refine kp _ sb2 p ?_
     have:p.2∈L'.map (·.2):=by
      rw [<- T2.el]
      exact g3.mem_iff.mp (List.mem_map_of_mem hp)
     obtain ⟨q,hq,eq⟩:=QF this
     rw [<- eq]
     exact hel q hq
    ·refine List.Perm.trans ?_ hpm
     rw [show (L3.map fun p=>kz p.2.2)=(L3.map (·.2)).map fun e=>kz e.2 by rw [List.map_map];rfl,show (L'.map fun p=>kz p.2.2)=(L'.map (·.2)).map fun e=>kz e.2 by rw [List.map_map];rfl,<- T2.el]
     exact g3.map _
   ·rw [tf,if_neg (by simpa using hc)]
    refine Qa (Qc (Qc (k true h1 sb ⟨_,_,_,t2,L',ob1,T.ex,rfl,T2,by rw [f3];exact hrc,by rw [f3,e1];exact T.mk7,by rw [f3,e1,hlen];omega,fun p hp=>kp _ sb p (hel p hp),hpm,f4,.inr f5⟩)))
  by_cases hpl:t1.plain=true
  ·rw [if_pos hpl,hx]
   refine Qa (xI hk ht ?_)
   rw [if_neg (by decide),<- hx]
   exact main { t1 with plain:=false } rfl rfl rfl (e3.trans T.ld) rfl
  ·rw [if_neg hpl]
   refine Qa (Qc ?_)
   rw [if_pos rfl]
   exact main t1 rfl rfl rfl (e3.trans T.ld) (by simpa using hpl)
 ·rcases T.mk7 with e | e | e<;>rw [e] at hK1<;>omega
end
end L2
namespace L2
open PySem PySem.Spec PyProof.Rows
noncomputable def cw (val:Nat->List aa) (i:Nat):List (List aa):=((List.range i).map val).foldl dO []
theorem jB (val:Nat->List aa) (i:Nat):cw val (i+1)=dO (cw val i) (val i):=by
 unfold cw;rw [List.range_succ,QG,List.foldl_append];rfl
theorem xK (σ:List (List aa)) (v u:List aa):u∈dO σ v↔u∈σ∨u=v:=by
 unfold dO
 split
 ·rename_i h
  exact ⟨.inl,fun z=>z.elim id fun e=>by rw [e];exact h⟩
 ·simp
theorem xL {σ:List (List aa)} (h:σ.Nodup) (v:List aa):(dO σ v).Nodup:=by
 unfold dO
 split
 ·exact h
 ·rename_i hv
  rw [List.nodup_append]
  exact ⟨h,by simp,fun a ha b hb e=>hv (by have:b=v:=by simpa using hb
                                           rw [<- this,<- e];exact ha)⟩
theorem pJ (val:Nat->List aa):∀ i,(cw val i).Nodup
 | 0=>.nil
 | i+1=>by rw [jB];exact xL (pJ val i) _
theorem pL (val:Nat->List aa) (u:List aa):∀ i,u∈cw val i↔∃ j,j<i/\val j=u
 | 0=>⟨fun h=>(nomatch h),fun ⟨j,h,_⟩=>absurd h (Nat.not_lt_zero _)⟩
 | i+1=>by
  rw [jB,xK,pL val u i]
  constructor
  ·rintro (⟨j,h1,h2⟩ | rfl)
   ·exact ⟨j,by omega,h2⟩
   ·exact ⟨i,by omega,rfl⟩
  ·rintro ⟨j,h1,h2⟩
   by_cases e:j=i
   ·exact .inr (by rw [<- h2,e])
   ·exact .inl ⟨j,by omega,h2⟩
theorem lw (val:Nat->List aa):∀ i,(cw val i).length<=i
 | 0=>Qh _
 | i+1=>by
  have ih:=lw val i
  rw [jB]
  unfold dO
  split
  ·omega
  ·rw [Qw,List.length_singleton];omega
section
variable {prog:Program} {w:World} {A:Around} {R:Result->Shared->Prop} {I:Addr} {fp wr:List Addr} {G:Array GenState->Array GenState->Prop} {n:Nat} {P:Nat->Value->Prop} {St:Nat->Shared->Prop} {kz:Value->List aa} {N:Addr->Prop}
theorem xM {led:Bool} (W:WalksS prog w A.in1 I fp wr G n P St) (S:Addr) (hSf:S∉fp) (val:Nat->List aa) (hu:A.in1.units<cLine) (hb:∀ i,i<n->(cw val i).length+1<=76) (hN:∀ b,N b->b∉wr/\b≠S) :
  ∀ (k i:Nat) (s:Shared),n-i=k->i<=n->St i s->(∀ i v,i<n->P i v->∃ b,v=.ref b/\kz v=val i/\fE (val i)/\N b/\cg prog w s.heap (val i) b)->(∃ o es ep t L,bU prog w kz N s.heap S (cw val i) led o es ep t L) ->
   (∀ s',Moved (S::wr) G s s'->(∃ o es ep t L,bU prog w kz N s'.heap S (cw val n) led o es ep t L)->R (.ok (.ret .none)) s') ->
   codeAny (model prog w) A (.builtin "set.update.loop" ⟨[.ref S,.ref I],[]⟩) R s:=by
 have hSw:S∉wr:=fun h=>hSf (W.sub _ h)
 have hsub:∀ b∈wr,b∈S::wr:=fun b hb=>Qn _ hb
 have hmv:∀ {s s':Shared} {i:Nat},Moved wr G s s'->(∃ o es ep t L,bU prog w kz N s.heap S (cw val i) led o es ep t L)->∃ o es ep t L,bU prog w kz N s'.heap S (cw val i) led o es ep t L:=fun {s s' i} hm hS=>by
  obtain ⟨o,es,ep,t,L,T⟩:=hS
  exact ⟨o,es,ep,t,L,hm.heap S _ hSw T.ob,T.ex,T.da,T.tb,T.rc,T.mk7,T.fu,fun p hp=>by obtain ⟨e,b,e2,hb,hn⟩:=T.el p hp;exact ⟨e,b,e2,IsTupleKey.at' hb (fun o e=>hm.heap b o (hN b hn).1 e),hn⟩,T.pm,T.ld,T.pl⟩
 intro k
 induction k with
 | zero =>
  intro i s hk hi hst hval hS hR
  have hin:i=n:=by omega
  subst hin
  refine codeAny_builtin F.entry_set_update_loop ?_
  rw [Around.under_plainId F.plain_set_update_loop _]
  show wpAny _ A.in1 (pyNext (.ref I) >>= _) _ _ s
  refine Qa (W.done s _ _ hst fun s' hm=>?_)
  exact Qc (hR s' (hm.mono hsub) (hmv hm hS))
 | succ k ih =>
  intro i s hk hi hst hval hS hR
  have hlt:i<n:=by omega
  refine codeAny_builtin F.entry_set_update_loop ?_
  rw [Around.under_plainId F.plain_set_update_loop _]
  show wpAny _ A.in1 (pyNext (.ref I) >>= _) _ _ s
  refine Qa (W.item i s _ _ hlt hst fun v s' hP hst' hm=>?_)
  have hval':∀ i v,i<n->P i v->∃ b,v=.ref b/\kz v=val i/\fE (val i)/\N b/\cg prog w s'.heap (val i) b:=fun i v hi hp=>by
   obtain ⟨b,e1,e2,e3,e4,e6⟩:=hval i v hi hp
   exact ⟨b,e1,e2,e3,e4,IsTupleKey.at' e6 fun o e=>hm.heap b o (hN b e4).1 e⟩
  obtain ⟨b,hv,hkz,htx,hbn,htk⟩:=hval' i v hlt hP
  have hS1:=hmv hm hS
  show wpAny _ A.in1 (holding [v] (setAdd S v) >>= _) _ _ s'
  refine Qa (wpAny_holding ?_)
  unfold setAdd
  refine wpAny_holding ?_
  refine Qa ?_
  rw [hv]
  refine wpAny_pyHash_tuple hu htk ?_
  rw [<- hv]
  refine xJ (s:={ s' with toks:=s'.toks+((val i).length+1) }) hv hkz hbn htx hu htk hS1 (hb i hlt) fun _ h' hsb hS2=>?_
  have hSi:∃ o es ep t L,bU prog w kz N h' S (cw val (i+1)) led o es ep t L:=by
   rw [jB];exact hS2
  refine Qc ⟨plainId_quiet F.plain_set_update_loop _,ih (i+1) _ (by omega) hlt (W.frame _ s' _ _ hst' (Nat.le_add_right _ _) fun b hb o e=>?_) (fun i v hi hp=>?_) hSi fun s2 hm2 hS3=>?_⟩
  ·rw [hsb.2 b (fun h:b=S=>hSf (by rw [<- h];exact hb))];exact e
  ·obtain ⟨b,e1,e2,e3,e4,e6⟩:=hval' i v hi hp
   exact ⟨b,e1,e2,e3,e4,IsTupleKey.at' e6 fun o e=>(hsb.2 b (hN b e4).2).trans e⟩
  ·refine hR s2 (Moved.trans W.gtrans ((hm.mono hsub).then_heap (Nat.le_add_right _ _) fun b o hb e=>?_) hm2) hS3
   rw [hsb.2 b (fun h:b=S=>hb (by rw [h];exact QB))];exact e
end
section
variable {prog:Program} {w:World} {A:Around} {E:Value->Shared->Prop} {s:Shared}
open PySem in
theorem xN {kz:Value->List aa} {M:Addr->Prop} {l:Addr} {items:Array Value} {val:Nat->List aa} {Q:Value->Shared->Prop} (hh:A.handled=none) (hu:A.units+1+1+1<cLine) (hl:s.heap.IsList l items) (hval:∀ i v,i<items.size->items[i]?=some v->∃ b,v=.ref b/\kz v=val i/\fE (val i)/\cg prog w s.heap (val i) b/\M b) (hb:∀ i,i<items.size->(cw val i).length+1<=76)
  (h:∀ (h':Heap) (tk:Nat),(∃ o es ep t L,bU prog w kz (fun b=>b<s.heap.objs.size/\M b) h' s.heap.objs.size (cw val items.size) (!cv w) o es ep t L) ->
   (∀ b o,b<s.heap.objs.size->s.heap.get? b=some o->h'.get? b=some o)->Q (.ref s.heap.objs.size) { s with heap:=h',toks:=tk }):wpAny (model prog w) A (call (.type "set") [.ref l]) Q E s:=by
 obtain ⟨c,tl,hmro⟩:=F.called_set.mro
 have hmade:=F.called_set.made
 have hsub:=F.called_set.sub
 refine wpAny_call (codeAny_of_tree ?_)
 show wpAny _ _ (callAny (.type "set") _) _ _ _
 refine Qc ⟨Code.quiet_builtin _ (by decide +kernel),codeAny_builtin F.entry_type_call ?_⟩
 rw [Around.under_plain (weight_type_call_type "set" [.ref l] []) rfl]
 have h1:=F.called_set.notType
 have h2:=F.called_set.canCreate
 have hct:=F.typeCall_set_1 (.ref l)
 repeat (any_goals (first | assumption | wp_step))
 refine codeAny_mono (xB (.ref l) (E:=E) (Q₁:=fun obj s1=>∃ led:Bool,led=(!cv w)/\obj=.ref s.heap.objs.size/\s1={ s with heap:=s.heap.push (newSet led) }) ⟨_,rfl,rfl,rfl⟩) fun r s1 hr=>?_
 cases r with
 | error e=>exact hr
 | ok fl =>
  cases fl with
  | ret obj =>
   obtain ⟨led,eled,rfl,rfl⟩:=hr
   have hS:(s.heap.push (newSet led)).get? s.heap.objs.size=some (newSet led):=Qm _ rfl
   have hT:Shared.TypeIs { s with heap:=s.heap.push (newSet led) } (.ref s.heap.objs.size) "set":=⟨_,hS,rfl⟩
   have hli:=F.called_set.init.lookup
   have hbi:=F.called_set.init.bind (.ref s.heap.objs.size)
   repeat (any_goals (first | assumption | wp_step))
   refine codeAny_mono (codeAny_call_builtin (R:=wants (fun r s2=>r=.none/\∃ h' tk,s2={ s with heap:=h',toks:=tk }/\(∃ o es ep t L,bU prog w kz (fun b=>b<s.heap.objs.size/\M b) h' s.heap.objs.size (cw val items.size) (!cv w) o es ep t L) /\
     (∀ b o,b<s.heap.objs.size->s.heap.get? b=some o->h'.get? b=some o)) E) F.called_set.init.plain F.entry_set_init (check_set_init_1 hT ?_)) fun r2 s2 hr2=>?_
   ·obtain ⟨ol,hol,hcl,nl,hdl⟩:=hl
    obtain ⟨ocls,odict,odata,oslots⟩:=ol
    simp only at hcl hdl
    subst hcl;subst hdl
    have hol':(s.heap.push (newSet led)).get? l=some { cls:=.type "list",dict:=odict,data:=.seq items nl,slots:=oslots }:=Qd _ hol
    have hsls:=F.sub_list_set
    have hslf:=F.sub_list_frozenset
    have hne:(Value.type "list" == Value.type "dict")=false:=by decide
    have hl1:(s.heap.push (newSet led)).IsList l items:=⟨_,hol',rfl,nl,rfl⟩
    unfold Builtin.«set.__init__» noKeywords Builtin.Frozenset.updateFrom
    generalize hPI:pyIter=PI
    wp_walk
    subst hPI
    refine wpAny_pyIter_list hl1 (Qa (wpAny_runValue ?_))
    have hlS:l<s.heap.objs.size:=Qo hol
    have hh3:A.in1.in1.in1.handled=none:=by simp [hh]
    have hneI:l≠(s.heap.push (newSet led)).objs.size:=by
     rw [Heap.size_push];exact Qz (Nat.lt_succ_of_lt hlS)
    have hSf:s.heap.objs.size∉[(s.heap.push (newSet led)).objs.size,l]:=by
     rw [Heap.size_push];simp only [List.mem_cons,List.mem_singleton,List.not_mem_nil,or_false,not_or]
     exact ⟨Qz (Nat.lt_succ_self _),Nat.ne_of_gt hlS⟩
    have hu3:A.in1.in1.in1.units<cLine:=by simpa using hu
    refine xM (kz:=kz) (N:=fun b=>b<s.heap.objs.size/\M b) (led:=!cv w) ((Walks.list hh3 _ l hneI items).toS) s.heap.objs.size hSf val hu3 hb (fun b hb=>⟨fun z=>?_,Qz hb.1⟩) (items.size-0) 0 _ (by omega) (Qs _) ⟨⟨_,Qm _ rfl,rfl,rfl⟩,(hl1.push _)⟩ (fun i v hi hv=>?_) ?hS0 ?hR
    ·have z:=List.mem_singleton.mp z
     have hb:=hb.1
     rw [z,Heap.size_push] at hb
     exact absurd hb (Nat.not_lt.mpr (Nat.le_succ _))
    ·obtain ⟨b,e1,e2,e3,e4,e5⟩:=hval i v hi hv
     have hbl:b<s.heap.objs.size:=by obtain ⟨o,_,_,e,_⟩:=e4;exact Qo e
     exact ⟨b,e1,e2,e3,⟨hbl,e5⟩,IsTupleKey.at' e4 fun o e=>Qd _ (Qd _ e)⟩
    case hS0 =>
     have hget:=Qd { cls:=.type "list_iterator",data:=.fields #[.ref l,.int 0 0] } hS
     exact ⟨_,#[],0,_,[],hget,⟨rfl,rfl,rfl⟩,rfl,⟨rfl,rfl,.nil,rfl,fun p hp=>(nomatch hp),Qs _⟩,fun p hp=>(nomatch hp),.inl rfl,(by show 0<7*3;decide),fun p hp=>(nomatch hp),List.Perm.refl _,eled,.inl rfl⟩
    case hR =>
     intro s' hm hS'
     obtain ⟨h',g',d',tk',os'⟩:=s'
     have eg:g'=s.gens:=hm.gens
     have ed:d'=s.drawn:=hm.drawn
     have eo:os'=s.os:=hm.os
     subst eg;subst ed;subst eo
     refine Qc (Qc ⟨rfl,h',tk',rfl,hS',fun b o hb e=>?_⟩)
     have hb1:b≠s.heap.objs.size:=Qz hb
     have hb2:b≠(s.heap.push (newSet led)).objs.size:=by
      rw [Heap.size_push];exact Qz (Nat.lt_succ_of_lt hb)
     exact hm.heap b o (by simp only [List.mem_cons,List.mem_singleton,List.not_mem_nil,or_false,not_or];exact ⟨hb1,hb2⟩) (Qd _ (Qd _ e))
   ·cases r2 with
    | error e=>exact hr2
    | ok fl2 =>
     cases fl2 with
     | ret r =>
      obtain ⟨rfl,h',tk,rfl,hS',hk'⟩:=hr2
      repeat (any_goals (first | assumption | wp_step))
      exact h _ _ hS' hk'
     | _=>exact hr2.elim
  | _=>exact hr.elim
end
end L2
namespace L2
open PySem PySem.Spec PyProof.Rows PySem.W
theorem xO:entryFor table "set_iterator.__iter__"=some Builtin.«dict_keyiterator.__iter__» :=
 entryFor_alias (id':="dict_keyiterator.__iter__") (by kernel_rfl) (by first | rfl | decide +kernel | (unfold String.splitOn;simp +decide [String.splitOnAux])) (by decide +kernel) (by kernel_rfl)
theorem xP (a:Value):argsOk "set_iterator.__iter__" ⟨[a],[]⟩:=by
 unfold argsOk
 kernel_rfl
section
variable {prog:Program} {w:World} {A:Around} {E:Value->Shared->Prop} {s:Shared} {S I:Addr} {o:Obj} {es:Array (Int × Value)} {ep:Nat} {t:SetTable}
theorem lx {Q:Value->Shared->Prop} {first:Value} {i n:Nat} (hI:s.heap.get? I=some (cC first i S n ep)) (h:Q (.ref I) s):wpAny (model prog w) A (pyIter (.ref I)) Q E s:=by
 refine wpAny_pyIter_slot (fD hI) pi (wpAny_call_entry pi (fD hI) xO ?_ (xP _))
 show wpAny _ _ (ret (.ref I)) _ _ s
 exact Qc ⟨_,rfl,"set_iterator",_,fD hI,d4.lookup,h⟩
theorem xQ (hh:A.handled=none) (hne:S≠I) (hb:cv w=true):Walks prog w A I [I,S] [I] es.size (fun i v=>((pickOrder (w.params.setOrder S ep) es).toList.map (·.2))[i]?=some v) (fun i h=>h.get? I=some (cC (.int 0 0) i S es.size ep)/\SW w h S o es ep t) where
 sub:=fun b hb=>by simp at hb;simp [hb]
 frame:=fun i h h' st k=>⟨k I (by simp) _ st.1,st.2.at fun o e=>k S (by simp) o e⟩
 item:=fun i s Q E hi st hQ=>by
  have hl:(pickOrder (w.params.setOrder S ep) es).size=es.size:=by simpa using (lv (w.params.setOrder S ep) es).length_eq
  have e:(pickOrder (w.params.setOrder S ep) es)[i]?=some (pickOrder (w.params.setOrder S ep) es)[i]:=Array.getElem?_eq_getElem (by omega)
  refine pE (nx:=0) (x:=(pickOrder (w.params.setOrder S ep) es)[i].2) st.1 st.2 (fun A E Q q=>pA hb st.2 (by rw [e];exact q)) fun h' h1 sb=>?_
  refine hQ _ h' s.toks ?_ ⟨h1,st.2.at fun o e=>(sb.2 S hne).trans e⟩ fun b o hb e=>(sb.2 b (by simpa using hb)).trans e
  rw [Qk,Array.getElem?_toList,e]
  rfl
 done:=fun s Q E st hQ=>by
  have hl:(pickOrder (w.params.setOrder S ep) es).size=es.size:=by simpa using (lv (w.params.setOrder S ep) es).length_eq
  refine pF hh st.1 st.2 (fun A E Q q=>pA hb st.2 (by rw [Array.getElem?_eq_none (by omega)];exact q)) fun h' eb=>?_
  exact hQ h' s.toks fun b o hb e=>eb b o (by simpa using hb) e
 self:=fun i s Q E st q=>lx st.1 q
theorem pM {j:Nat} {p:Array Nat} (hp:p=#[j]):SetTable.below p 0=0/\SetTable.below p (j+1)=1:=by
 subst hp
 constructor
 ·simp [SetTable.below,SetTable.below.go]
 ·simp [SetTable.below,SetTable.below.go]
theorem xR (hh:A.handled=none) (hne:S≠I) (hb:cv w=false) (hz:es.size<=1):Walks prog w A I [I,S] [I] es.size (fun i v=>(es.toList.map (·.2))[i]?=some v) (fun i h=>∃ slot:Nat,(i=0->slot=0)/\(0<i->∀ j:Nat,t.place[0]?=some j->slot=j+1)/\h.get? I=some (cC (.int slot 0) i S es.size ep)/\SW w h S o es ep t) where
 sub:=fun b hb=>by simp at hb;simp [hb]
 frame:=fun i h h' hsl64 k=>by obtain ⟨sl,a,b,c,d⟩:=hsl64;exact ⟨sl,a,b,k I (by simp) _ c,d.at fun o e=>k S (by simp) o e⟩
 item:=fun i s Q E hi ⟨sl,a,b,c,d⟩ hQ=>by
  have hi0:i=0:=by omega
  subst hi0
  have hsl:=a rfl
  subst hsl
  have hf:t.place.size=es.size:=by have:=d.ft;unfold SetTable.fits at this;simp at this;exact this.1
  have hn:es.size=1:=by omega
  obtain ⟨j,hj⟩:∃ j,t.place=#[j]:=by
   refine ⟨t.place[0]'(by omega),?_⟩
   refine Array.ext (by simp;omega) fun k h1 h2=>?_
   have:k=0:=by omega
   subst this
   rfl
  have e:es[0]?=some es[0]:=Array.getElem?_eq_getElem (by omega)
  refine pE (nx:=j+1) (x:=es[0].2) c d (fun A E Q q=>pB hb hz d (by rw [(pM hj).1,e,hj];exact q)) fun h' h1 sb=>?_
  refine hQ _ h' s.toks (by rw [Qk,Array.getElem?_toList,e];rfl) ⟨j+1,fun z=>absurd z (by omega),fun _ j' h=>by rw [hj] at h;simp at h;omega,h1,d.at fun o e=>(sb.2 S hne).trans e⟩ fun b o hb e=>(sb.2 b (by simpa using hb)).trans e
 done:=fun s Q E ⟨sl,a,b,c,d⟩ hQ=>by
  have hf:t.place.size=es.size:=by have:=d.ft;unfold SetTable.fits at this;simp at this;exact this.1
  refine pF hh c d (fun A E Q q=>pB hb hz d ?_) fun h' eb=>hQ h' s.toks fun b o hb e=>eb b o (by simpa using hb) e
  have e:es[SetTable.below t.place sl]?=none:=by
   by_cases h0:es.size=0
   ·exact Array.getElem?_eq_none (by omega)
   ·obtain ⟨j,hj⟩:∃ j,t.place=#[j]:=by
     refine ⟨t.place[0]'(by omega),?_⟩
     refine Array.ext (by simp;omega) fun k h1 h2=>?_
     have:k=0:=by omega
     subst this
     rfl
    rw [b (by omega) j (by rw [hj];rfl),(pM hj).2]
    exact Array.getElem?_eq_none (by omega)
  rw [e]
  exact q
 self:=fun i s Q E hsl65 q=>by obtain ⟨sl,a,b,c,d⟩:=hsl65;exact lx c q
theorem xS (hh:A.handled=none) (hne:S≠I) {P:Addr} (hnp:P≠I) {ys:List Nat} (hy:ys.Perm (List.range es.size)):Walks prog w A I [I,S,P] [I] es.size (fun i v=>(ys.map fun y=>(es.toList.map (·.2)).getD y .none)[i]?=some v)
  (fun i h=>h.get? I=some (cC (.ref P) i S es.size ep)/\SW w h S o es ep t/\h.get? P=some (eU ys)) where
 sub:=fun b hb=>by simp at hb;simp [hb]
 frame:=fun i h h' st k=>⟨k I (by simp) _ st.1,st.2.1.at fun o e=>k S (by simp) o e,k P (by simp) _ st.2.2⟩
 item:=fun i s Q E hi st hQ=>by
  have hl:ys.length=es.size:=by simpa using hy.length_eq
  have e:ys[i]?=some ys[i]:=Qb (by omega)
  have hm:ys[i]<es.size:=List.mem_range.mp (hy.mem_iff.mp (QE _))
  have e2:es[ys[i]]?=some es[ys[i]]:=Array.getElem?_eq_getElem hm
  refine xF st.1 st.2.2 st.2.1 e e2 fun h' h1 sb=>?_
  refine hQ _ h' s.toks ?_ ⟨h1,st.2.1.at fun o e=>(sb.2 S hne).trans e,(sb.2 P hnp).trans st.2.2⟩ fun b o hb e=>(sb.2 b (by simpa using hb)).trans e
  rw [Qk,e]
  simp [hm]
 done:=fun s Q E st hQ=>by
  have hl:ys.length=es.size:=by simpa using hy.length_eq
  refine xG hh st.1 st.2.2 st.2.1 (List.getElem?_eq_none (by omega)) fun h' eb=>?_
  exact hQ h' s.toks fun b o hb e=>eb b o (by simpa using hb) e
 self:=fun i s Q E st q=>lx st.1 q
theorem xT {Q:Value->Shared->Prop} (hh:A.handled=none) (T:SW w s.heap S o es ep t) (hn:es.size<=1000)
  (k:∀ (I:Addr) (fp:List Addr) (h':Heap) (d':Drawn) (vs:List Value) (St:Nat->Heap->Prop),vs.Perm (es.toList.map (·.2))->s.heap.objs.size<=I->(∀ b∈fp,b=S∨s.heap.objs.size<=b)->(∀ b u,s.heap.get? b=some u->h'.get? b=some u) ->
   Walks prog w A I fp [I] es.size (fun i v=>vs[i]?=some v) St->St 0 h'->Q (.ref I) { s with heap:=h',drawn:=d' }):wpAny (model prog w) A (pyIter (.ref S)) Q E s:=by
 have hS:=Qo T.ob
 refine xE T hn (fun hc=>?_) fun hb hz ys d' hy=>?_
 ·have hne:S≠s.heap.objs.size:=Qz hS
  have fp:∀ b∈[s.heap.objs.size,S],b=S∨s.heap.objs.size<=b:=fun b hb=>by
   rcases (show b=s.heap.objs.size∨b=S by simpa using hb) with z | z
   ·exact .inr (Nat.le_of_eq z.symm)
   ·exact .inl z
  by_cases hb:cv w=true
  ·exact k _ _ _ s.drawn _ _ ((lv (w.params.setOrder S ep) es).map _) (Qh _) fp (fun b u e=>Qd _ e) (xQ (o:=o) (t:=t) hh hne hb) ⟨Qm _ rfl,T.at fun o e=>Qd _ e⟩
  ·have hb':cv w=false:=by simpa using hb
   have hz:es.size<=1:=hc.resolve_left hb
   exact k _ _ _ s.drawn _ _ (.refl _) (Qh _) fp (fun b u e=>Qd _ e) (xR (o:=o) (t:=t) hh hne hb' hz) ⟨0,fun _=>rfl,fun z=>absurd z (by omega),Qm _ rfl,T.at fun o e=>Qd _ e⟩
 ·have hsz:(s.heap.push (eU ys)).objs.size=s.heap.objs.size+1:=Heap.size_push _ _
  refine k _ [(s.heap.push (eU ys)).objs.size,S,s.heap.objs.size] _ d' (ys.map fun y=>(es.toList.map (·.2)).getD y .none) _ ?_ (by rw [hsz];exact Nat.le_succ _) (fun b hb=>?_) (fun b u e=>Qd _ (Qd _ e)) (xS (o:=o) (t:=t) (P:=s.heap.objs.size) hh (fun z=>by rw [hsz] at z;rw [z] at hS;exact absurd hS (Nat.not_lt.mpr (Nat.le_succ _))) (fun z=>by rw [hsz] at z;exact absurd z (Qz (Nat.lt_succ_self _))) hy) ⟨Qm _ rfl,T.at fun o e=>Qd _ (Qd _ e),Qd _ (Qm _ rfl)⟩
  ·refine (hy.map _).trans ?_
   have:=ik Value.none (es.toList.map (·.2))
   rw [Qg,Qx] at this
   rw [this]
  ·rcases (show b=(s.heap.push (eU ys)).objs.size∨b=S∨b=s.heap.objs.size by simpa using hb) with z | z | z
   ·exact .inr (by rw [z,hsz];exact Nat.le_succ _)
   ·exact .inl z
   ·exact .inr (Nat.le_of_eq z.symm)
theorem xU {Q:Bool->Shared->Prop} (hT:s.TypeIs (.ref S) "set") (h:Q false s):wpAny (model prog w) A (Builtin.List.listLengthHint (.ref S)) Q E s:=by
 unfold Builtin.List.listLengthHint
 refine Qa (wpAny_specialOf hT PySem.F.slot_set_len.lookup ?_)
 generalize hid:("set.__len__":String)=id0
 wp_delta
 rw [show splitId id0=some ("set","__len__") from by subst hid;decide +kernel]
 subst hid
 refine Qa (wpAny_isInstance (T:="set") (b:=true) hT (by rw [isSubtype_type];kernel_rfl) ?_)
 refine wpAny_ite_split (fun hab=>absurd hab (by decide)) (fun _=>?_)
 refine wpAny_ite_split (fun _=>?_) (fun hab=>absurd (by decide +kernel) hab)
 refine Qa (wpAny_typeOf hT ?_)
 exact Qc h
theorem xV {R:Result->Shared->Prop} (hh:A.handled=none) (T:SW w s.heap S o es ep t) (hn:es.size<=1000) (L:Addr) (hLS:L≠S) (res:Value) (c₀:Nat) (hL:s.heap.get? L=some { cls:=.type "list",data:=.seq #[] c₀ })
  (hR:∀ h' tk d' (vs:List Value) c',(∀ b u,b≠L->s.heap.get? b=some u->h'.get? b=some u)->h'.get? L=some { cls:=.type "list",dict:=none,data:=.seq vs.toArray c',slots:=#[] }->vs.Perm (es.toList.map (·.2))->R (.ok (.ret res)) { s with heap:=h',toks:=tk,drawn:=d' }) :
  wpAny (model prog w) A.in1 (Builtin.List.listExtendWith (.ref L) (.ref S) res)
   (fun fin s'=>match fin with | .done f=>R (.ok f) s' | .again c'=>c'.quiet=true/\codeAny (model prog w) A c' R s') (fun e s'=>R (.error e) s') s:=by
 unfold Builtin.List.listExtendWith
 refine Qa (wpAny_typeOf (T:="set") T.typeIs ?_)
 have h1:Builtin.List.listSameRef (.ref L) (.ref S)=false:=by simp [Builtin.List.listSameRef,hLS]
 have h2:(Value.type "set" == Value.type "list")=false:=by decide
 have h3:(Value.type "set" == Value.type "tuple")=false:=by decide
 simp only [h1,h2,h3,Bool.or_false,Bool.false_eq_true,if_false]
 refine Qa (xT (A:=A.in1) hh T hn fun I fp h1 d' vs St hp hI hfp k W st=>?_)
 have hLl:=Qo hL
 have hLf:L∉fp:=fun hm=>by
  rcases hfp L hm with z | z
  ·exact hLS z
  ·exact absurd hLl (Nat.not_lt.mpr z)
 refine Qa (wpAny_holding (xU ⟨o,k _ _ T.ob,T.ex.1⟩ ?_))
 have key:∀ (h:Heap) (c₁:Nat),St 0 h->(∀ b u,b≠L->s.heap.get? b=some u->h.get? b=some u)->h.get? L=some { cls:=.type "list",data:=.seq #[] c₁ } ->
   codeAny (model prog w) A (.builtin "list.extend.loop" ⟨[.ref L,.ref I,res],[]⟩) R { s with heap:=h,drawn:=d' }:=by
  intro h c₁ st k hL1
  refine codeAny_extend_loopS W.toS (Nat.le_of_lt (cp hn)) L hLf res es.size 0 _ #[] c₁ rfl (Qs _) st hL1 (ItemsOf.nil _) fun s' acc' c' hm hS' hacc=>?_
  rw [Moved.eq_with hm]
  have hlv:vs.length=es.size:=by simpa using hp.length_eq
  have ea:acc'=vs.toArray:=by
   refine Array.ext_getElem? fun i=>?_
   by_cases hi:i<es.size
   ·have h1:acc'[i]?=some (acc'[i]'(by rw [hacc.1];exact hi)):=Array.getElem?_eq_getElem _
    rw [h1,List.getElem?_toArray,hacc.2 i _ h1]
   ·rw [Array.getElem?_eq_none (by rw [hacc.1];omega),Array.getElem?_eq_none (by simp;omega)]
  subst ea
  refine hR s'.heap s'.toks d' vs c' (fun b u hb e=>hm.heap b u (fun hmem=>?_) (k b u hb e)) hS' hp
  rcases Ql hmem with e' | hmem
  ·exact hb e'
  ·have:=Qo e
   rw [List.mem_singleton.mp hmem] at this
   exact absurd this (Nat.not_lt.mpr hI)
 have hL1:=k _ _ hL
 refine wpAny_ite_split (fun _=>?_) (fun _=>Qc ⟨plainId_quiet PySem.F.plain_extend_loop _,key _ c₀ st (fun b u _ e=>k b u e) hL1⟩)
 refine Qa (wpAny_rule ?_)
 refine Qa ?_
 show wpAny _ _ (updateSeq L (·.push .none) >>= fun _=>updateSeq L (·.pop)) _ _ _
 refine Qa (wpAny_updateSeq hL1 rfl ?_)
 have hL2:=Heap.get?_update_self (Obj.mapSeq (·.push Value.none)) hL1 rfl
 refine wpAny_updateSeq (hz:=by seq_fits) hL2 rfl ?_
 have hL3:=Heap.get?_update_self (Obj.mapSeq (·.pop)) hL2 rfl
 refine Qc ⟨plainId_quiet PySem.F.plain_extend_loop _,key _ _ ?_ (fun b u hb e=>?_) hL3⟩
 ·refine W.frame 0 _ _ st fun b hb u e=>?_
  have hbS:b≠L:=fun h=>hLf (h ▸ hb)
  exact (Heap.get?_update_other _ _ (Ne.symm hbS)).trans ((Heap.get?_update_other _ _ (Ne.symm hbS)).trans e)
 ·exact (Heap.get?_update_other _ _ (Ne.symm hb)).trans ((Heap.get?_update_other _ _ (Ne.symm hb)).trans (k b u e))
theorem xW {R:List Value->Shared->Prop} (hh:A.handled=none) (T:SW w s.heap S o es ep t) (hn:es.size<=1000)
  (h:∀ h' tk d' (vs:List Value),(∀ b u,s.heap.get? b=some u->h'.get? b=some u)->vs.Perm (es.toList.map (·.2))->R vs { s with heap:=h',toks:=tk,drawn:=d' }) :
  wpAny (model prog w) A (collect (.ref S)) R E s:=by
 have hlt:=Qo T.ob
 unfold collect
 refine Qa (wpAny_runValue (codeAny_builtin entry_proto_collect' ?_))
 rw [Around.under_plainId PySem.F.plain_proto_collect _]
 show wpAny _ A.in1 (newList [] >>= fun l=>again (.builtin "list.__iadd__" ⟨[l,.ref S],[]⟩)) _ _ s
 refine Qa (wpAny_newObj_type ?_)
 refine Qc ⟨plainId_quiet PySem.F.plain_list_iadd _,codeAny_builtin entry_list_iadd' ?_⟩
 rw [Around.under_plainId PySem.F.plain_list_iadd _]
 have hS₁:(s.heap.push { cls:=.type "list",data:=.seq ([]:List Value).toArray }).get? s.heap.objs.size=some { cls:=.type "list",data:=.seq #[] }:=Qm _ rfl
 show wpAny _ A.in1 (Builtin.List.listExtendWith (.ref s.heap.objs.size) (.ref S) (.ref s.heap.objs.size)) _ _ _
 have key:=xV (prog:=prog) (A:=A) (s:={ s with heap:=s.heap.push { cls:=.type "list",data:=.seq ([]:List Value).toArray } })
  (R:=fun (q:Result) (s':Shared)=>∃ (h':Heap) (tk:Nat) (d':Drawn) (vs:List Value) (c':Nat),q=.ok (.ret (.ref s.heap.objs.size))/\s'={ s with heap:=h',toks:=tk,drawn:=d' } /\
   (∀ b o,s.heap.get? b=some o->h'.get? b=some o)/\h'.get? s.heap.objs.size=some { cls:=.type "list",dict:=none,data:=.seq vs.toArray c',slots:=#[] }/\vs.Perm (es.toList.map (·.2)))
  hh (T.at fun o e=>Qd _ e) hn s.heap.objs.size (Nat.ne_of_gt hlt) (.ref s.heap.objs.size) 0 hS₁
  (fun h' tk d' vs c' hk hS' hp=>⟨h',tk,d',vs,c',rfl,rfl,fun b o e=>hk b o (Qz (Qo e)) (Qd _ e),hS',hp⟩)
 refine QJ key (fun fin s' x=>?_) fun e s' x=>?_
 ·cases fin with
  | done f =>
   obtain ⟨h',tk,d',vs,c',e,rfl,hk,hS',hp⟩:=x
   cases e
   show wpAny _ A (load s.heap.objs.size >>= _) _ _ _
   refine Qa (wpAny_load hS' ?_)
   exact Qc (h h' tk d' vs hk hp)
  | again c₁ =>
   refine ⟨x.1,codeAny_mono x.2 fun q s₂ y=>?_⟩
   obtain ⟨h',tk,d',vs,c',rfl,rfl,hk,hS',hp⟩:=y
   show wpAny _ A (load s.heap.objs.size >>= _) _ _ _
   refine Qa (wpAny_load hS' ?_)
   exact Qc (h h' tk d' vs hk hp)
 ·obtain ⟨_,_,_,_,_,e',_⟩:=x
  cases e'
end
end L2
namespace L2
open PySem PySem.Spec PyProof.Rows PySem.W
theorem pN:∀ {a b:List (List aa)},a.Pairwise (fun x y=>bw x y=true)->b.Pairwise (fun x y=>bw x y=true)->(∀ d,d∈a↔d∈b)->a=b
 | [],[],_,_,_=>rfl
 | [],y::b,_,_,h=>nomatch (h y).mpr QB
 | x::a,[],_,_,h=>nomatch (h x).mp QB
 | x::a,y::b,ha,hb,h=>by
  have ha':=List.pairwise_cons.mp ha
  have hb':=List.pairwise_cons.mp hb
  have e:x=y:=by
   rcases Ql ((h x).mp QB) with e | h1
   ·exact e
   ·rcases Ql ((h y).mpr QB) with e | h2
    ·exact e.symm
    ·have g1:=hb'.1 x h1
     have g2:=ha'.1 y h2
     rw [gl g1] at g2
     cases g2
  subst e
  have nx:∀ {l:List (List aa)},(∀ z∈l,bw x z=true)->x∉l:=fun hl hm=>by
   have:=hl x hm
   have g:=gl this
   rw [this] at g
   cases g
  rw [pN ha'.2 hb'.2 fun d=>?_]
  constructor
  ·intro hd
   rcases Ql ((h d).mp (Qn _ hd)) with e | g
   ·subst e;exact absurd hd (nx ha'.1)
   ·exact g
  ·intro hd
   rcases Ql ((h d).mpr (Qn _ hd)) with e | g
   ·subst e;exact absurd hd (nx hb'.1)
   ·exact g
theorem pO {ds:List (List aa)} {sh:List Bool} (hsh:∀ d∈ds,d.map bF=sh) (nd:ds.Nodup) :
  ((bJ ds).map fun i=>ds.getD i []).Pairwise (fun x y=>bw x y=true)/\(∀ i∈bJ ds,i<ds.length)/\∀ j,j<ds.length->j∈bJ ds:=by
 unfold bJ
 by_cases h2:ds.length<2
 ·rw [if_pos h2]
  refine ⟨?_,fun i hi=>List.mem_range.mp hi,fun j hj=>List.mem_range.mpr hj⟩
  match ds,h2 with
  | [],_=>exact .nil
  | [a],_=>exact List.pairwise_singleton ..
 ·rw [if_neg h2]
  have gd:∀ i,i<ds.length->ds.getD i []∈ds:=fun i hi=>by
   rw [Qf,Qb hi]
   exact QE hi
  have ok:=(jm (by omega) (k5 hsh)).1
  generalize b8 ds.length (dB ds)=q at ok
  obtain ⟨pm,sg,_⟩:=ok
  have pl:=Array.perm_iff_toList_perm.mp pm
  have hm:∀ i,i∈q.toList↔i<ds.length:=fun i=>by rw [pl.mem_iff];simp
  refine ⟨?_,fun i hi=>(hm i).mp hi,fun j hj=>(hm j).mpr hj⟩
  rw [List.pairwise_map]
  refine List.pairwise_iff_getElem.mpr fun i j hi hj hij=>?_
  have ndq:q.toList.Nodup:=pl.nodup_iff.mpr (by simpa using List.nodup_range)
  have hne:q.toList[i]≠q.toList[j]:=List.pairwise_iff_getElem.mp ndq i j hi hj hij
  have li:=(hm _).mp (QE hi)
  have lj:=(hm _).mp (QE hj)
  have hq:∀ i (h:i<q.toList.length),q.toList[i]=q.getD i 0:=fun i h=>by
   rw [Qx] at h
   simp [Array.getD,h]
  have hz:q.toList.length=ds.length:=by rw [pl.length_eq];simp
  have h1:=sg i j (Qs _) hij (by omega)
  rw [<- hq i hi,<- hq j hj] at h1
  refine jl ((hsh _ (gd _ lj)).trans (hsh _ (gd _ li)).symm) (fun e=>hne ?_) h1
  rw [Qf,Qf,Qb li,Qb lj] at e
  have pw:=List.pairwise_iff_getElem.mp nd
  rcases Nat.lt_trichotomy q.toList[i] q.toList[j] with g | g | g
  ·exact absurd e.symm (pw _ _ li lj g)
  ·exact g
  ·exact absurd e (pw _ _ lj li g)
end L2
namespace L2
open PySem PySem.Spec PyProof.Rows PySem.W
noncomputable def db (bs:List Addr) (ds:List (List aa)):Value->List aa
 | .ref b=>((bs.zip ds).lookup b).getD []
 | _=>[]
noncomputable def eC (ds:List (List aa)) (i:Nat):List aa:=ds.getD i []
noncomputable def jC (w:World) (q:Addr) (bs:List Addr) (ds:List (List aa)):HO:=.ext fun h=>∃ o es ep t,SW w h q o es ep t/\(∀ e∈es.toList,∃ b∈bs,e.2=.ref b)/\(es.toList.map fun e=>db bs ds e.2).Perm (cw (eC ds) ds.length)
theorem ly {H:Hp}:∀ {bs:List Addr} {ds:List (List aa)},aY H (bs.map V.ref) ds->∀ (i:Nat) (b:Addr) (d:List aa),bs[i]?=some b->ds[i]?=some d->(bs.zip ds).lookup b=some d
 | [],_,_,i,b,d,h,_=>by simp at h
 | c::bs,[],_,i,b,d,_,h=>by simp at h
 | c::bs,e::ds,T,i,b,d,h1,h2=>by
  show (match b == c with | true=>some e | false=>(bs.zip ds).lookup b)=some d
  have T':aY H (bs.map V.ref) ds:=⟨by have:=T.1;simpa using this,fun i x k hx hk=>T.2 (i+1) x k hx hk⟩
  by_cases hc:b=c
  ·subst hc
   simp only [BEq.rfl]
   obtain ⟨t0,g0,g1⟩:=T.2 0 (.ref b) e rfl rfl
   cases g0
   obtain ⟨t1,g2,g3⟩:=T.2 i (.ref b) d (by rw [Qk,h1];rfl) h2
   cases g2
   rw [g1] at g3
   injection g3 with g3
   injection g3 with g3
   rw [nW g3]
  ·rw [show (b == c)=false from beq_eq_false_iff_ne.mpr hc]
   cases i with
   | zero=>simp at h1;exact absurd h1.symm hc
   | succ i=>exact ly T' i b d (by simpa using h1) (by simpa using h2)
section
variable {X:Cx}
theorem xX {X:Cx} {pins:List (Addr × Obj)} {σ:St} {H:Hp} {s:Shared} (I:Inv X pins σ H s) {t:Addr} {d:List aa} (h:H t=some (.tup (d.map kV))):cg X.prog X.w s.heap d t:=by
 obtain ⟨o,vs,n,ho,hc,hd,rv⟩:=jn I h
 refine ⟨o,vs.toArray,n,ho,hc,hd,?_⟩
 have go:∀ {d:List aa} {vs:List Value},ao (d.map kV) vs->ItemsAre (bo X.prog X.w) d vs:=by
  intro d
  induction d with
  | nil=>intro vs r;cases r;exact .nil
  | cons k d ih =>
   intro vs r
   cases r with
   | cons r1 r2 =>
    refine .cons ?_ (ih r2)
    cases k with
    | inl i=>obtain ⟨t,rfl⟩:=(show ∃ t,_=Value.int i t from r1);exact mM ..
    | inr x=>obtain ⟨t,rfl⟩:=(show ∃ t,_=Value.str x t from r1);exact mN ..
 exact go (by simpa using rv)
theorem pP:∀ {bs:List Addr} {vs:List Value},ao (bs.map V.ref) vs->vs=bs.map Value.ref
 | [],vs,h=>by cases h;rfl
 | b::bs,vs,h=>by
  cases h with
  | cons r1 r2 =>
   have:_=Value.ref b:=r1
   rw [this,pP r2]
   rfl
theorem pQ:∀ (bs:List Addr),ao (bs.map V.ref) (bs.map Value.ref)
 | []=>.nil
 | b::bs=>.cons rfl (pQ bs)
theorem xY {K:PySem.W.Frag} (hK:X.K=K) (hc:X.calm=true) (hu:X.A.units+1+1+1<cLine):dG X (.type "set") (fun as H Q=>∃ (p:Addr) (bs:List Addr) (ds:List (List aa)),as=[.ref p]/\al K H p (bs.map V.ref)/\aY H (bs.map V.ref) ds/\(∀ d∈ds,fE d)/\bs.length<=75/\∀ q,H q=none->Q (.ref q) (af H q (jC X.w q bs ds))):=by
 intro pins s σ H as us Q I r h
 subst hK
 obtain ⟨p,bs,ds,rfl,hq,ht,htx,hl,q⟩:=h
 obtain ⟨u,rfl,ru⟩:=vals1 r
 cases (show u=Value.ref p from ru)
 obtain ⟨its,rv,pl,hz⟩:=I.list hq
 have eits:=pP rv
 subst eits
 have hbd:bs.length=ds.length:=by have:=ht.1;simpa using this
 have hsz:(bs.map Value.ref).toArray.size=bs.length:=by simp
 refine xN (kz:=db bs ds) (M:=fun b=>b∈bs) (val:=eC ds) (I.ok.hd hc) hu pl.isList (fun i v hi hv=>?_) (fun i hi=>?_) fun h' tk hS hk=>?_
 ·rw [hsz] at hi
  have hb:=Qb hi
  have hd:=Qb (show i<ds.length by omega)
  have ev:v=.ref bs[i]:=by
   rw [List.getElem?_toArray,Qk,hb] at hv
   exact (Qj hv).symm
  have ed:eC ds i=ds[i]:=by unfold eC;rw [Qf,hd];rfl
  refine ⟨bs[i],ev,?_,?_,?_⟩
  ·rw [ev,ed]
   unfold db
   dsimp only
   rw [ly ht i _ _ hb hd]
   rfl
  ·rw [ed];exact htx _ (QE _)
  ·rw [ed]
   obtain ⟨t,e1,e2⟩:=ht.2 i (.ref bs[i]) ds[i] (by rw [Qk,hb];rfl) hd
   cases e1
   exact ⟨xX I e2,QE _⟩
 ·rw [hsz] at hi
  have:=lw (eC ds) i
  omega
 ·rw [hsz,hbd] at hS
  have k2:∀ b u,s.heap.get? b=some u->h'.get? b=some u:=fun b u e=>hk b u (Qo e) e
  obtain ⟨o,es,ep,t,L,T⟩:=hS
  have hes:=T.tb.size.2
  have sw:SW X.w h' s.heap.objs.size o es ep t:=⟨T.ob,T.ex,T.da,gq T.tb,T.ld,T.pl.imp (fun z=>by rw [hes];exact z) id⟩
  refine ⟨.ref s.heap.objs.size,_,I.laid (t':=tk) (o:=jC X.w s.heap.objs.size bs ds) k2 (Qh _) ⟨⟨o,es,ep,t,sw,fun e he=>?_,?_⟩,⟨o,T.ob⟩,fun h1 h2 hsl66 kk=>by obtain ⟨o,es,ep,t,S,a,b⟩:=hsl66;exact ⟨o,es,ep,t,S.at kk,a,b⟩⟩,rfl,q _ I.fresh⟩
  ·rw [T.tb.el] at he
   obtain ⟨p,hp,rfl⟩:=QF he
   obtain ⟨_,b,e2,_,_,hb⟩:=T.el p hp
   exact ⟨b,hb,e2⟩
  ·rw [T.tb.el,List.map_map]
   exact T.pm
theorem xZ (hc:X.calm=true):dG X (.builtin "sorted") (fun as H Q=>∃ (q0:Addr) (bs:List Addr) (ds:List (List aa)) (sh:List Bool),as=[.ref q0]/\H q0=some (jC X.w q0 bs ds)/\aY H (bs.map V.ref) ds/\(∀ d∈ds,d.map bF=sh)/\sh≠[]/\bs.length<=75 /\
  ∀ (p:Addr) (cs:List Addr) (es:List (List aa)),H p=none->aY H (cs.map V.ref) es->es.Pairwise (fun x y=>bw x y=true)->(∀ d,d∈es↔d∈ds)->Q (.ref p) (af H p (.lst (cs.map V.ref)))):=by
 intro pins s σ H as us Q I r h
 obtain ⟨q0,bs,ds,sh,rfl,hq0,ht,hsh,hne,h64,q⟩:=h
 obtain ⟨u,rfl,ru⟩:=vals1 r
 cases (show u=Value.ref q0 from ru)
 obtain ⟨⟨o,es,ep,t,S,hin,hpm⟩,_,_⟩:=I.hok q0 _ hq0
 have hbd:bs.length=ds.length:=by have:=ht.1;simpa using this
 have hml:=lw (eC ds) ds.length
 have hel:es.size<=1000:=by
  have:=hpm.length_eq
  simp at this
  omega
 refine Calls.call_function_entry kind_sorted plain_sorted entry_sorted (args_sorted1 _) ?_
 unfold Builtin.«sorted»
 refine Qa (m:=checkCount "sorted" 1 1 _) (Qc ?_)
 refine Qa (xW (I.ok.hd hc) S hel fun h1 tk d' vs hk hp=>?_)
 have I1:Inv X pins σ H { s with heap:=h1,toks:=tk,drawn:=d' }:=let J:=I.kept (t':=tk) hk;⟨J.ok,J.os,J.bare,J.base,J.loc,J.cell,J.free,J.freeC,J.pin,J.hok,J.len⟩
 obtain ⟨bs',ebs,hbs'⟩:∃ bs':List Addr,vs=bs'.map Value.ref/\∀ b∈bs',b∈bs:=by
  have hv:∀ v∈vs,∃ b∈bs,v=.ref b:=fun v hv=>by
   obtain ⟨e,he,rfl⟩:=QF (hp.mem_iff.mp hv)
   exact hin e he
  have go:∀ vs:List Value,(∀ v∈vs,∃ b∈bs,v=.ref b)->∃ bs':List Addr,vs=bs'.map Value.ref/\∀ b∈bs',b∈bs:=by
   intro vs
   induction vs with
   | nil=>intro _;exact ⟨[],rfl,fun b hb=>(nomatch hb)⟩
   | cons v vs ih =>
    intro h
    obtain ⟨b,hb,rfl⟩:=h v QB
    obtain ⟨bs',e,hall⟩:=ih fun u hu=>h u (Qn _ hu)
    exact ⟨b::bs',by rw [e];rfl,fun c hc=>(Ql hc).elim (fun z=>by rw [z];exact hb) (hall c)⟩
  exact go vs hv
 have hkey:∀ b∈bs,∃ d∈ds,db bs ds (.ref b)=d/\H b=some (.tup (d.map kV)):=fun b hb=>by
  obtain ⟨i,hi⟩:=List.mem_iff_getElem?.mp hb
  have hil:=(Qe hi).1
  have hd:=Qb (show i<ds.length by omega)
  obtain ⟨t,e1,e2⟩:=ht.2 i (.ref b) ds[i] (by rw [Qk,hi];rfl) hd
  cases e1
  refine ⟨ds[i],QE _,?_,e2⟩
  unfold db
  dsimp only
  rw [ly ht i _ _ hi hd]
  rfl
 have edp:(bs'.map fun b=>db bs ds (.ref b)).Perm (cw (eC ds) ds.length):=by
  have h2:(vs.map (db bs ds)).Perm ((es.toList.map (·.2)).map (db bs ds)):=hp.map _
  rw [ebs,List.map_map,List.map_map] at h2
  exact h2.trans hpm
 have hmem:∀ d,d∈(bs'.map fun b=>db bs ds (.ref b))↔d∈ds:=fun d=>by
  rw [edp.mem_iff,pL]
  constructor
  ·rintro ⟨j,hj,rfl⟩
   unfold eC
   rw [Qf,Qb hj]
   exact QE hj
  ·intro hd
   obtain ⟨j,hj,rfl⟩:=List.mem_iff_getElem.mp hd
   exact ⟨j,hj,by unfold eC;rw [Qf,Qb hj];rfl⟩
 have ndp:(bs'.map fun b=>db bs ds (.ref b)).Nodup:=edp.nodup_iff.mpr (pJ _ _)
 have ht':aY H (bs'.map V.ref) (bs'.map fun b=>db bs ds (.ref b)):=⟨by simp,fun i x k hx hk=>by
  rw [Qk] at hx hk
  obtain ⟨b,hb,rfl⟩:=Option.map_eq_some_iff.mp hx
  rw [hb] at hk
  obtain ⟨d,_,e1,e2⟩:=hkey b (hbs' b (Qt hb))
  have:db bs ds (.ref b)=k:=Qj hk
  exact ⟨b,rfl,by rw [<- this,e1];exact e2⟩⟩
 have hl':bs'.length<=75:=by
  have:=edp.length_eq
  rw [Qg] at this
  omega
 generalize hds':(bs'.map fun b=>db bs ds (.ref b))=ds' at edp hmem ndp ht'
 have hdl:bs'.length=ds'.length:=by rw [<- hds'];simp
 have hsh':∀ d∈ds',d.map bF=sh:=fun d hd=>hsh d ((hmem d).mp hd)
 obtain ⟨u1,u2,u3⟩:=pO hsh' ndp
 subst ebs
 have rv:ao (bs'.map V.ref) (bs'.map Value.ref):=pQ bs'
 have hz:(bs'.map Value.ref).length<=sizeLine:=by rw [Qg];exact Nat.le_of_lt (cp (by omega))
 refine Qa (wpAny_newList (s:={ s with heap:=h1,toks:=tk,drawn:=d' }) ?_ hz)
 have hoL:(h1.push (seqObj "list" (bs'.map Value.ref).toArray 0)).get? h1.objs.size=some (seqObj "list" (bs'.map Value.ref).toArray 0):=Qm _ rfl
 have I2:Inv X pins σ H { s with heap:=h1.push (seqObj "list" (bs'.map Value.ref).toArray 0),toks:=tk,drawn:=d' }:=I1.kept (t':=tk) fun b o e=>Qd _ e
 have fL:b4 X pins H h1.objs.size:=I1.fpOk (Qh _) (I1.hok.fresh (Qh _))
 change wpAny _ _ _ _ _ { s with heap:=h1.push (seqObj "list" (bs'.map Value.ref).toArray 0),toks:=tk,drawn:=d' }
 dsimp only
 generalize h1.push (seqObj "list" (bs'.map Value.ref).toArray 0)=h2 at hoL I2
 generalize h1.objs.size=LL at hoL fL
 refine Qa (wpAny_holding (wpAny_call_entry (s:={ s with heap:=h2,toks:=tk,drawn:=d' }) slot_list_sort ⟨_,hoL,rfl⟩ entry_list_sort (oR I2 fL hoL rv (by rw [Qg];exact Nat.le_of_lt (cp (by omega))) ht' hsh' hne fun s' out n' I' hoa hos vy=>⟨_,rfl,?_⟩) (args_list_sort _)))
 have esr:bB ds' (bs'.map V.ref)=((bJ ds').map fun i=>bs'.getD i 0).map V.ref:=by
  unfold bB
  rw [List.map_map]
  refine List.map_congr_left fun i hi=>?_
  have hib:i<bs'.length:=by rw [hdl];exact u2 i hi
  show (bs'.map V.ref).getD i .non=V.ref (bs'.getD i 0)
  rw [Qf,Qf,Qk,Qb hib]
  rfl
 have hmE:∀ d,d∈((bJ ds').map fun i=>ds'.getD i [])↔d∈ds:=fun d=>by
  rw [<- hmem d,List.mem_map]
  constructor
  ·rintro ⟨i,hi,rfl⟩
   rw [Qf,Qb (u2 i hi)]
   exact QE _
  ·intro hd
   obtain ⟨j,hj,rfl⟩:=List.mem_iff_getElem.mp hd
   exact ⟨j,u3 j hj,by rw [Qf,Qb hj];rfl⟩
 have htE:aY H (((bJ ds').map fun i=>bs'.getD i 0).map V.ref) ((bJ ds').map fun i=>ds'.getD i []):=⟨by simp,fun i x k hx hk=>by
  rw [Qk,Qk] at hx
  rw [Qk] at hk
  cases hj:(bJ ds')[i]? with
  | none=>rw [hj] at hk;cases hk
  | some j =>
   rw [hj] at hx hk
   have hjl:=u2 j (Qt hj)
   have e1:=Qb (show j<bs'.length by omega)
   have e2:=Qb hjl
   have ex:V.ref bs'[j]=x:=by
    have:=Qj hx
    rw [<- this]
    show V.ref bs'[j]=V.ref (bs'.getD j 0)
    rw [Qf,e1];rfl
   have ek:ds'[j]=k:=by
    have:=Qj hk
    rw [<- this]
    show ds'[j]=ds'.getD j []
    rw [Qf,e2];rfl
   exact ht'.2 j x k (by rw [Qk,e1,<- ex];rfl) (by rw [e2,ek])⟩
 rw [esr] at vy
 refine Qc ⟨_,rfl,.ref LL,af H LL (.lst (((bJ ds').map fun i=>bs'.getD i 0).map V.ref)),I'.adopt fL ?_,rfl,q LL _ _ fL.1 htE u1 hmE⟩
 have hyl:(((bJ ds').map fun i=>bs'.getD i 0).map V.ref).length<=sizeLine:=by rw [vy.length,Qx];exact hos
 exact ⟨hyl,out.toList,n',vy,by simpa using hoa⟩
end
end L2
namespace K32
open PySem L2 Mm
noncomputable def aV (i:Nat):Stmt:=PySem.Challenge.pw_manymakes_k32_heads_of_defs_and_kinds.main.body.getD i (.Pass ⟨0,0,0,0⟩)
noncomputable abbrev lz:Stmt:=aV 1
noncomputable abbrev lA:Stmt:=aV 2
noncomputable abbrev lB:Stmt:=aV 3
noncomputable abbrev jD:Stmt:=aV 4
noncomputable abbrev lC:Stmt:=aV 5
noncomputable abbrev jE:Stmt:=aV 6
noncomputable abbrev jF:Stmt:=aV 8
noncomputable abbrev jG:Stmt:=aV 9
noncomputable abbrev lD:Stmt:=aV 10
noncomputable abbrev jH:Stmt:=aV 11
noncomputable abbrev jI:Stmt:=aV 12
noncomputable abbrev jJ:Stmt:=aV 13
noncomputable abbrev lE:Stmt:=aV 17
noncomputable abbrev lF:Stmt:=aV 18
noncomputable abbrev lG:Stmt:=aV 19
noncomputable abbrev lH:Stmt:=aV 20
noncomputable abbrev lI:Stmt:=aV 21
noncomputable abbrev jK:Stmt:=aV 22
noncomputable abbrev lJ:Stmt:=aV 24
noncomputable abbrev lK:Stmt:=aV 25
noncomputable abbrev lL:Stmt:=aV 26
noncomputable abbrev jL:Stmt:=aV 27
noncomputable abbrev lM:Stmt:=aV 28
noncomputable abbrev jM:Stmt:=aV 29
noncomputable abbrev ip:Stmt:=aV 30
noncomputable abbrev lN:Stmt:=aV 31
noncomputable abbrev lO:Stmt:=aV 32
noncomputable abbrev lP:Stmt:=aV 33
noncomputable abbrev jN:Stmt:=aV 34
noncomputable abbrev lQ:Stmt:=eO (aV 16) 0
noncomputable abbrev lR:Stmt:=eO (aV 16) 1
noncomputable abbrev lS:Stmt:=eO (aV 16) 2
noncomputable abbrev lT:Stmt:=eO (aV 16) 3
noncomputable abbrev iq:Stmt:=eO (aV 16) 4
noncomputable abbrev lU:Stmt:=eO (aV 16) 5
noncomputable abbrev lV:Stmt:=eO (aV 16) 6
noncomputable abbrev lW:Stmt:=eO (aV 16) 7
noncomputable abbrev jO:Stmt:=aV 35
structure cx where
 ZK:Addr
 ZE:Addr
 ZI:Addr
 Zp:Addr
 ZJ:Addr
 Zq:Addr
 Zs:Addr
 Zg:Addr
 Zh:Addr
 Zt:Addr
 Zf:Addr
 Zu:Addr
 Zr:Addr
 Zz:Addr
 ZF:Addr
 ZA:Addr
 Zl:Addr
 Zn:Addr
 Zo:Addr
 Zv:Addr
 ZB:Addr
 Zw:Addr
 ZC:Addr
 ZD:Addr
 ZG:Addr
 Zx:Addr
 Zy:Addr
 Zm:Addr
 ZH:Addr
 Zi:Addr
 Zj:Addr
 Za:Addr
 Zb:Addr
 Zd:Addr
 Zc:Addr
 Ze:Addr
 Zk:Addr
 c_NameLook:Addr
 q_PLAIN_KINDS:Addr
structure cy where
 ZK:FuncData
 ZE:FuncData
 ZI:FuncData
 Zp:FuncData
 ZJ:FuncData
 Zq:FuncData
 Zs:FuncData
 Zg:FuncData
 Zh:FuncData
 Zt:FuncData
 Zf:FuncData
 Zu:FuncData
 Zr:FuncData
 Zz:FuncData
 ZF:FuncData
 ZA:FuncData
 Zl:FuncData
 Zn:FuncData
 Zo:FuncData
 Zv:FuncData
 ZB:FuncData
 Zw:FuncData
 ZC:FuncData
 ZD:FuncData
 ZG:FuncData
 Zx:FuncData
 Zy:FuncData
 Zm:FuncData
 ZH:FuncData
 Zi:FuncData
 Zj:FuncData
 Za:FuncData
 Zb:FuncData
 Zd:FuncData
 Zc:FuncData
 Ze:FuncData
 Zk:FuncData
structure All (P:Program) (w:World) (K:W.Frag) (mg:Str->Option Value) (A:cx) (D:cy):Prop where
 m_ZK:mg "least"=some (.ref A.ZK)
 k_ZK:W.keepIn K (.ref A.ZK)=true
 F_ZK:aR K "least" "least" lz A.ZK D.ZK
 b_ZK:Binds K D.ZK ["mask"] []
 m_ZE:mg "without"=some (.ref A.ZE)
 k_ZE:W.keepIn K (.ref A.ZE)=true
 F_ZE:aR K "without" "without" lA A.ZE D.ZE
 b_ZE:Binds K D.ZE ["mask","other"] []
 m_ZI:mg "all_of"=some (.ref A.ZI)
 k_ZI:W.keepIn K (.ref A.ZI)=true
 F_ZI:aR K "all_of" "all_of" lB A.ZI D.ZI
 b_ZI:Binds K D.ZI ["pairs"] []
 m_Zp:mg "kept_pairs"=some (.ref A.Zp)
 k_Zp:W.keepIn K (.ref A.Zp)=true
 F_Zp:aR K "kept_pairs" "kept_pairs" jD A.Zp D.Zp
 b_Zp:Binds K D.Zp ["pairs","mask"] []
 m_ZJ:mg "add_to"=some (.ref A.ZJ)
 k_ZJ:W.keepIn K (.ref A.ZJ)=true
 F_ZJ:aR K "add_to" "add_to" lC A.ZJ D.ZJ
 b_ZJ:Binds K D.ZJ ["found","key","mask"] []
 m_Zq:mg "with_masks"=some (.ref A.Zq)
 k_Zq:W.keepIn K (.ref A.Zq)=true
 F_Zq:aR K "with_masks" "with_masks" jE A.Zq D.Zq
 b_Zq:Binds K D.Zq ["found"] []
 m_Zs:mg "kept_tree"=some (.ref A.Zs)
 k_Zs:W.keepIn K (.ref A.Zs)=true
 F_Zs:aR K "kept_tree" "kept_tree" jF A.Zs D.Zs
 b_Zs:Binds K D.Zs ["tree","mask"] []
 m_Zg:mg "kept_statement"=some (.ref A.Zg)
 k_Zg:W.keepIn K (.ref A.Zg)=true
 F_Zg:aR K "kept_statement" "kept_statement" jG A.Zg D.Zg
 b_Zg:Binds K D.Zg ["one","mask"] []
 m_Zh:mg "row_and_least"=some (.ref A.Zh)
 k_Zh:W.keepIn K (.ref A.Zh)=true
 F_Zh:aR K "row_and_least" "row_and_least" lD A.Zh D.Zh
 b_Zh:Binds K D.Zh ["pair"] []
 m_Zt:mg "shared_of"=some (.ref A.Zt)
 k_Zt:W.keepIn K (.ref A.Zt)=true
 F_Zt:aR K "shared_of" "shared_of" jH A.Zt D.Zt
 b_Zt:Binds K D.Zt ["tree"] []
 m_Zf:mg "shared_statement"=some (.ref A.Zf)
 k_Zf:W.keepIn K (.ref A.Zf)=true
 F_Zf:aR K "shared_statement" "shared_statement" jI A.Zf D.Zf
 b_Zf:Binds K D.Zf ["one"] []
 m_Zu:mg "blocks_of"=some (.ref A.Zu)
 k_Zu:W.keepIn K (.ref A.Zu)=true
 F_Zu:aR K "blocks_of" "blocks_of" jJ A.Zu D.Zu
 b_Zu:Binds K D.Zu ["one"] []
 m_Zr:mg "first_rows"=some (.ref A.Zr)
 k_Zr:W.keepIn K (.ref A.Zr)=true
 F_Zr:aR K "first_rows" "first_rows" lE A.Zr D.Zr
 b_Zr:Binds K D.Zr ["tree"] []
 m_Zz:mg "pairs_of"=some (.ref A.Zz)
 k_Zz:W.keepIn K (.ref A.Zz)=true
 F_Zz:aR K "pairs_of" "pairs_of" lF A.Zz D.Zz
 b_Zz:Binds K D.Zz ["one"] []
 m_ZF:mg "expr_of"=some (.ref A.ZF)
 k_ZF:W.keepIn K (.ref A.ZF)=true
 F_ZF:aR K "expr_of" "expr_of" lG A.ZF D.ZF
 b_ZF:Binds K D.ZF ["one"] []
 m_ZA:mg "exprs_in"=some (.ref A.ZA)
 k_ZA:W.keepIn K (.ref A.ZA)=true
 F_ZA:aR K "exprs_in" "exprs_in" lH A.ZA D.ZA
 b_ZA:Binds K D.ZA ["e"] []
 m_Zl:mg "shared_names"=some (.ref A.Zl)
 k_Zl:W.keepIn K (.ref A.Zl)=true
 F_Zl:aR K "shared_names" "shared_names" lI A.Zl D.Zl
 b_Zl:Binds K D.Zl ["tree","mask"] []
 m_Zn:mg "plain_names"=some (.ref A.Zn)
 k_Zn:W.keepIn K (.ref A.Zn)=true
 F_Zn:aR K "plain_names" "plain_names" jK A.Zn D.Zn
 b_Zn:Binds K D.Zn ["tree"] []
 m_Zo:mg "_law_cell_at"=some (.ref A.Zo)
 k_Zo:W.keepIn K (.ref A.Zo)=true
 F_Zo:aR K "_law_cell_at" "_law_cell_at" lJ A.Zo D.Zo
 b_Zo:Binds K D.Zo ["_law_script","_law_k"] []
 m_Zv:mg "_law_mixed"=some (.ref A.Zv)
 k_Zv:W.keepIn K (.ref A.Zv)=true
 F_Zv:aR K "_law_mixed" "_law_mixed" lK A.Zv D.Zv
 b_Zv:Binds K D.Zv ["_law_cell","_law_k"] []
 m_ZB:mg "_law_word"=some (.ref A.ZB)
 k_ZB:W.keepIn K (.ref A.ZB)=true
 F_ZB:aR K "_law_word" "_law_word" lL A.ZB D.ZB
 b_ZB:Binds K D.ZB ["_law_number"] []
 m_Zw:mg "_law_names"=some (.ref A.Zw)
 k_Zw:W.keepIn K (.ref A.Zw)=true
 F_Zw:aR K "_law_names" "_law_names" jL A.Zw D.Zw
 b_Zw:Binds K D.Zw ["_law_number"] []
 m_ZC:mg "_law_kind"=some (.ref A.ZC)
 k_ZC:W.keepIn K (.ref A.ZC)=true
 F_ZC:aR K "_law_kind" "_law_kind" lM A.ZC D.ZC
 b_ZC:Binds K D.ZC ["_law_number","_law_names_here"] []
 m_ZD:mg "_law_call"=some (.ref A.ZD)
 k_ZD:W.keepIn K (.ref A.ZD)=true
 F_ZD:aR K "_law_call" "_law_call" jM A.ZD D.ZD
 b_ZD:Binds K D.ZD ["_law_number","_law_names_here","_law_deep"] []
 m_ZG:mg "_law_row"=some (.ref A.ZG)
 k_ZG:W.keepIn K (.ref A.ZG)=true
 F_ZG:aR K "_law_row" "_law_row" ip A.ZG D.ZG
 b_ZG:Binds K D.ZG ["_law_number","_law_at","_law_names_here"] []
 m_Zx:mg "_law_first"=some (.ref A.Zx)
 k_Zx:W.keepIn K (.ref A.Zx)=true
 F_Zx:aR K "_law_first" "_law_first" lN A.Zx D.Zx
 b_Zx:Binds K D.Zx ["_law_tree","_law_word_here","_law_name"] []
 m_Zy:mg "_law_calls"=some (.ref A.Zy)
 k_Zy:W.keepIn K (.ref A.Zy)=true
 F_Zy:aR K "_law_calls" "_law_calls" lO A.Zy D.Zy
 b_Zy:Binds K D.Zy ["_law_e"] []
 m_Zm:mg "_law_call_due"=some (.ref A.Zm)
 k_Zm:W.keepIn K (.ref A.Zm)=true
 F_Zm:aR K "_law_call_due" "_law_call_due" lP A.Zm D.Zm
 b_Zm:Binds K D.Zm ["_law_tree","_law_at","_law_e"] []
 m_ZH:mg "_law_due"=some (.ref A.ZH)
 k_ZH:W.keepIn K (.ref A.ZH)=true
 F_ZH:aR K "_law_due" "_law_due" jN A.ZH D.ZH
 b_ZH:Binds K D.ZH ["_law_tree"] []
 M_NameLook:Mk K A.c_NameLook A.Zi
 k_Zi:W.keepIn K (.ref A.Zi)=true
 F_Zi:aR K "__init__" "NameLook.__init__" lQ A.Zi D.Zi
 b_Zi:Binds K D.Zi ["self","tree"] []
 M_Zj:eB K A.c_NameLook "note" A.Zj
 k_Zj:W.keepIn K (.ref A.Zj)=true
 F_Zj:aR K "note" "NameLook.note" lR A.Zj D.Zj
 b_Zj:Binds K D.Zj ["self","mask","at","what","name"] []
 M_Za:eB K A.c_NameLook "look_twice" A.Za
 k_Za:W.keepIn K (.ref A.Za)=true
 F_Za:aR K "look_twice" "NameLook.look_twice" lS A.Za D.Za
 b_Za:Binds K D.Za ["self","tree"] []
 M_Zb:eB K A.c_NameLook "look_body" A.Zb
 k_Zb:W.keepIn K (.ref A.Zb)=true
 F_Zb:aR K "look_body" "NameLook.look_body" lT A.Zb D.Zb
 b_Zb:Binds K D.Zb ["self","statements","given"] []
 M_Zd:eB K A.c_NameLook "look_def" A.Zd
 k_Zd:W.keepIn K (.ref A.Zd)=true
 F_Zd:aR K "look_def" "NameLook.look_def" iq A.Zd D.Zd
 b_Zd:Binds K D.Zd ["self","mask","one"] []
 M_Zc:eB K A.c_NameLook "look_expr" A.Zc
 k_Zc:W.keepIn K (.ref A.Zc)=true
 F_Zc:aR K "look_expr" "NameLook.look_expr" lU A.Zc D.Zc
 b_Zc:Binds K D.Zc ["self","mask","e","at","given"] []
 M_Ze:eB K A.c_NameLook "look_use" A.Ze
 k_Ze:W.keepIn K (.ref A.Ze)=true
 F_Ze:aR K "look_use" "NameLook.look_use" lV A.Ze D.Ze
 b_Ze:Binds K D.Ze ["self","mask","e","at","word","missing"] []
 M_Zk:eB K A.c_NameLook "held" A.Zk
 k_Zk:W.keepIn K (.ref A.Zk)=true
 F_Zk:aR K "held" "NameLook.held" lW A.Zk D.Zk
 b_Zk:Binds K D.Zk ["self","word","name"] []
 m_NameLook:mg "NameLook"=some (.ref A.c_NameLook)
 cl_NameLook:dW K A.c_NameLook
 na_NameLook_faults:eJ K A.c_NameLook "faults"
 na_NameLook_firsts:eJ K A.c_NameLook "firsts"
 ty_NameLook:∀ (H:Hp) (a dx:Addr) (fs:List (Str × V)),H a=some (.ins A.c_NameLook dx fs)->cm K H (.ref a) (.ref A.c_NameLook)
 is_NameLook:W.kitOne K (.ref A.c_NameLook) (.ref A.c_NameLook)=some true
 m_PLAIN_KINDS:mg "PLAIN_KINDS"=some (.ref A.q_PLAIN_KINDS)
 Q_PLAIN_KINDS:∀ H,ai K H A.q_PLAIN_KINDS [.str "num",.str "truth"]
 n_len:mg "len"=none
 n_range:mg "range"=none
 n_list:mg "list"=none
 n_dict:mg "dict"=none
 n_tuple:mg "tuple"=none
 n_sorted:mg "sorted"=none
 n_enumerate:mg "enumerate"=none
 n_isinstance:mg "isinstance"=none
 n_set:mg "set"=none
theorem ap {H:Hp} {p:Addr} {o:HO} (h:H p=none):Same H (af H p o):=fun b u e=>by rw [av (cS e h)];exact e
section
variable {P:Program} {w:World} {K:W.Frag} {mg:Str->Option Value} {base:Heap} {AA:cx} {DD:cy}
theorem cD {H:Hp} {sh:Bool} {vs:List V} {p:bK} {ps:List bK} (h:PsAt H sh vs (p::ps)):∃ v r,vs=v::r/\PAt H sh v p/\PsAt H sh r ps:=by
 cases h with | cons a b=>exact ⟨_,_,rfl,a,b⟩
theorem gu {H:Hp} {sh:Bool} {vs:List V} (h:PsAt H sh vs []):vs=[]:=by cases h;rfl
theorem gv {H:Hp} {sh:Bool} {v:V} {z:Str} (h:PAt H sh v (.s z)):v=.str z:=by cases h;rfl
theorem x0 {H:Hp} {sh:Bool} {v:V} {n:Nat} (h:PAt H sh v (.i n)):v=.int ((n:Nat):Int):=by cases h;rfl
theorem lX {H:Hp} {sh:Bool} {v:V} {x:Ex} (h:PAt H sh v (.e x)):aW H v x:=by cases h with | e a=>exact a
theorem jP {H:Hp} {sh:Bool} {v:V} {ts:List Tr} (h:PAt H sh v (.b ts)):∃ l xs,v=.ref l/\H l=some (.lst xs)/\LAt H sh xs ts:=by cases h with | b l a=>exact ⟨_,_,rfl,l,a⟩
theorem pR {H:Hp} {sh:Bool} {v:V} {ps:List (Str × Str)} (h:PAt H sh v (.p ps)):d0 H v ps:=by cases h with | p a=>exact a
theorem eV {H:Hp} {sh:Bool} {v:V} {t:Tr} (h:bi H sh v t):∃ a vs,v=.ref a/\H a=some (.tup vs)/\PsAt H sh vs t.parts:=by cases h with | mk a b=>exact ⟨_,_,rfl,a,b⟩
theorem d5 {H:Hp} {sh:Bool} {vs:List V} {z:Str} {n:Nat} {ps:List bK} (h:PsAt H sh vs (.s z::.i n::ps)):∃ r,vs=.str z::.int ((n:Nat):Int)::r/\PsAt H sh r ps:=by
 obtain ⟨a,r,e,h1,h⟩:=cD h
 obtain ⟨b,r',e',h2,h⟩:=cD h
 exact ⟨r',by rw [e,e',gv h1,x0 h2],h⟩
theorem lY {H:Hp} {sh:Bool} {vs:List V} {x:Ex} (h:PsAt H sh vs [.e x]):∃ v,vs=[v]/\aW H v x:=by
 obtain ⟨a,r,e,h1,h⟩:=cD h
 exact ⟨a,by rw [e,gu h],lX h1⟩
theorem x6 {H:Hp} {sh:Bool} {v:V} {r:Nat} {z:Str} {e:Ex} (h:bi H sh v (.set r z e)):∃ t ve,v=.ref t/\H t=some (.tup [.str "set",.int ((r:Nat):Int),.str z,ve])/\aW H ve e:=by
 obtain ⟨t,vs,e1,ht,h⟩:=eV h
 obtain ⟨q,e2,h⟩:=d5 h
 obtain ⟨a,q',e3,h1,h⟩:=cD h
 obtain ⟨ve,e4,hx⟩:=lY h
 exact ⟨t,ve,e1,by rw [ht,e2,e3,gv h1,e4],hx⟩
theorem pS {H:Hp} {sh:Bool} {v:V} {r:Nat} {e:Ex} (h:bi H sh v (.tell r e)):∃ t ve,v=.ref t/\H t=some (.tup [.str "tell",.int ((r:Nat):Int),ve])/\aW H ve e:=by
 obtain ⟨t,vs,e1,ht,h⟩:=eV h
 obtain ⟨q,e2,h⟩:=d5 h
 obtain ⟨ve,e4,hx⟩:=lY h
 exact ⟨t,ve,e1,by rw [ht,e2,e4],hx⟩
theorem x9 {H:Hp} {sh:Bool} {v:V} {r:Nat} {e:Ex} (h:bi H sh v (.give r e)):∃ t ve,v=.ref t/\H t=some (.tup [.str "give",.int ((r:Nat):Int),ve])/\aW H ve e:=by
 obtain ⟨t,vs,e1,ht,h⟩:=eV h
 obtain ⟨q,e2,h⟩:=d5 h
 obtain ⟨ve,e4,hx⟩:=lY h
 exact ⟨t,ve,e1,by rw [ht,e2,e4],hx⟩
theorem ya {H:Hp} {sh:Bool} {v:V} {r:Nat} {e:Ex} {b o:List Tr} (h:bi H sh v (.iff r e b o)):∃ t ve lb xb lo xo,v=.ref t/\H t=some (.tup [.str "if",.int ((r:Nat):Int),ve,.ref lb,.ref lo])/\aW H ve e/\H lb=some (.lst xb)/\LAt H sh xb b/\H lo=some (.lst xo)/\LAt H sh xo o:=by
 obtain ⟨t,vs,e1,ht,h⟩:=eV h
 obtain ⟨q,e2,h⟩:=d5 h
 obtain ⟨ve,q',e3,h1,h⟩:=cD h
 obtain ⟨vb,q2,e4,h2,h⟩:=cD h
 obtain ⟨vo,q3,e5,h3,h⟩:=cD h
 obtain ⟨lb,xb,f1,f2,f3⟩:=jP h2
 obtain ⟨lo,xo,g1,g2,g3⟩:=jP h3
 exact ⟨t,ve,lb,xb,lo,xo,e1,by rw [ht,e2,e3,e4,e5,gu h,f1,g1],lX h1,f2,f3,g2,g3⟩
theorem yb {H:Hp} {sh:Bool} {v:V} {r:Nat} {e:Ex} {b:List Tr} (h:bi H sh v (.whl r e b)):∃ t ve lb xb,v=.ref t/\H t=some (.tup [.str "while",.int ((r:Nat):Int),ve,.ref lb])/\aW H ve e/\H lb=some (.lst xb)/\LAt H sh xb b:=by
 obtain ⟨t,vs,e1,ht,h⟩:=eV h
 obtain ⟨q,e2,h⟩:=d5 h
 obtain ⟨ve,q',e3,h1,h⟩:=cD h
 obtain ⟨vb,q2,e4,h2,h⟩:=cD h
 obtain ⟨lb,xb,f1,f2,f3⟩:=jP h2
 exact ⟨t,ve,lb,xb,e1,by rw [ht,e2,e3,e4,gu h,f1],lX h1,f2,f3⟩
theorem jQ {H:Hp} {sh:Bool} {v:V} {r:Nat} {n k:Str} {ps:List (Str × Str)} {b:List Tr} (h:bi H sh v (.df r n k ps b)):∃ t vp lb xb,v=.ref t/\H t=some (.tup [.str "def",.int ((r:Nat):Int),.str n,.str k,vp,.ref lb])/\d0 H vp ps/\H lb=some (.lst xb)/\LAt H sh xb b:=by
 obtain ⟨t,vs,e1,ht,h⟩:=eV h
 obtain ⟨q,e2,h⟩:=d5 h
 obtain ⟨a,q1,e3,h1,h⟩:=cD h
 obtain ⟨c,q2,e4,h2,h⟩:=cD h
 obtain ⟨vp,q3,e5,h3,h⟩:=cD h
 obtain ⟨vb,q4,e6,h4,h⟩:=cD h
 obtain ⟨lb,xb,f1,f2,f3⟩:=jP h4
 exact ⟨t,vp,lb,xb,e1,by rw [ht,e2,e3,e4,e5,e6,gu h,f1,gv h1,gv h2],pR h3,f2,f3⟩
theorem pT {H:Hp} {sh:Bool} {v:V} {r:Nat} {n:Str} {ps:List (Str × Str)} (h:bi H sh v (.kd r n ps)):∃ t vp,v=.ref t/\H t=some (.tup [.str "kind",.int ((r:Nat):Int),.str n,vp])/\d0 H vp ps:=by
 obtain ⟨t,vs,e1,ht,h⟩:=eV h
 obtain ⟨q,e2,h⟩:=d5 h
 obtain ⟨a,q1,e3,h1,h⟩:=cD h
 obtain ⟨vp,q3,e5,h3,h⟩:=cD h
 exact ⟨t,vp,e1,by rw [ht,e2,e3,e5,gu h,gv h1],pR h3⟩
theorem bV {n:Nat} (h:n<1000):n<sizeLine:=by rw [sizeLine_eq];omega
noncomputable def iu (k:Nat):Sp:=fun vs H Q _=>∃ (l:Addr) (xs:List V) (ts:List Tr),vs=[.ref l]/\H l=some (.lst xs)/\LAt H false xs ts/\deeps ts<k/\ts.length<=20/\ascs ts/\∀ p ys H',Same H H'->H' p=some (.lst ys)->LAt H' true ys ts->Q (.ref p) H'
noncomputable def pU (k:Nat):Sp:=fun vs H Q _=>∃ (v:V) (t:Tr),vs=[v]/\bi H false v t/\t.deep<k/\t.asc/\∀ v' H',Same H H'->bi H' true v' t->Q v' H'
noncomputable abbrev pV:List Str:=["one"]
theorem pW:aS pV ["one"] (aG jI):=⟨rfl,rfl,rfl,by decide +kernel,rfl,by decide +kernel,by decide +kernel⟩
theorem yc (T:All P w K mg AA DD) (k:Nat) (GF:az P w K mg base aE (2*k+1) AA.Zt DD.Zt ["tree"] (iu k)):az P w K mg base aE (2*k+2) AA.Zf DD.Zf ["one"] (pU k):=by
 refine T.F_Zf.ok pW (fun vs H Q E h=>?_) (fun cdv A outer s H vs Q E hr h=>?_)
 ·obtain ⟨v,t,rfl,_⟩:=h
  rfl
 ·obtain ⟨v,t,rfl,hS,hd,ha,kq⟩:=h
  have nd:=pW.nd
  have hrF:aw (2*k+1) _:=hr
  refine ⟨_,(aq (aP (fo gS rfl T.n_tuple f7 (ae (eR (aG jI) pV [] [] rfl (by exact ⟨rfl,rfl,by decide +kernel,rfl,by decide +kernel,by decide +kernel,by decide +kernel,rfl,by decide +kernel⟩) rfl rfl (eG (pv 0)) (fun _ _ _ _=>dz) (fun _ _ _ _=>(iO (gG (c6 (im (K:=K) (n:="list") rfl) rfl T.n_isinstance gY (ae (pv 0) (ae (gF (v:=.ty "list") rfl T.n_list i6 rfl) ag)))) (aN GF hrF rfl T.m_Zt T.k_Zt T.b_Zt .nil aI (ae (pv 0) ag)) (pv 0)))) ag)))),?_⟩
  cases hS with
  | @mk t0 xs _ ht hps =>
  refine ⟨_,rfl,t0,rfl,⟨_,ai.of ht⟩,?_⟩
  have hpl:=t.parts_len
  have hxl:=hps.length
  refine jb (K:=K) (a:=t0) (xs:=xs) (fun i ys H'=>Same H H'/\i<=xs.length/\PsAt H' true ys (t.parts.take i)) ⟨Same.refl _,Qs _,by simpa using PsAt.nil⟩ (fun i ys H' _ h=>ai.of (h.1 _ _ ht)) ?_ ?_
  ·rintro i x ys H1 hx ⟨sm,hi,hys⟩
   obtain ⟨p,hp,hP⟩:=hps.get hx
   have hP1:=hP.kept sm.ls
   have hilt:=(Qe hx).1
   have hyl:=hys.length
   rw [Qr] at hyl
   have hil:i<t.parts.length:=by omega
   have htk:t.parts.take (i+1)=t.parts.take i++[p]:=by
    rw [Qp hil]
    rw [Qb hil] at hp
    rw [Qj hp]
   refine dy ?_
   rw [if_pos rfl]
   rcases hP1.isL (K:=K) with ⟨bs,l,zs,e1,e2,hl,hL,ty,kb⟩ | ⟨nb,ty0,ty,kb⟩
   ·subst e1 e2
    have hm:bK.b bs∈t.parts:=Qt hp
    refine ⟨_,rfl,_,_,true,rfl,ty,kb,_,rfl,iZ ?_⟩
    refine ⟨_,rfl,l,zs,bs,rfl,hl,hL,QH (lg hm) hd,(jq ha hm).1,(jq ha hm).2,fun q us H2 s2 hq hL2=>?_⟩
    refine ⟨bV (by omega),sm.trans s2,by omega,?_⟩
    rw [htk]
    exact (hys.kept s2.ls).snoc (.b hq hL2)
   ·refine ⟨_,rfl,_,_,false,rfl,ty,kb,_,rfl,c7 ?_⟩
    refine ⟨_,rfl,bV (by omega),sm,by omega,?_⟩
    rw [htk]
    exact hys.snoc (hP1.other nb)
  ·rintro ys H1 ⟨sm,hi,hys⟩ p hp
   have s1:=ap (o:=.lst ys) hp
   refine ⟨p,ys,rfl,.inl ⟨al.of aj,fun l hl=>?_⟩⟩
   have s2:=ap (o:=.tup ys) hl
   refine kq _ _ ((sm.trans s1).trans s2) (.mk aj ?_)
   rw [Qu (by omega)] at hys
   exact hys.kept (s1.trans s2).ls
noncomputable abbrev pX:List Str:=["tree"]
theorem lZ:aS pX ["tree"] (aG jH):=⟨rfl,rfl,rfl,by decide +kernel,rfl,by decide +kernel,by decide +kernel⟩
theorem yd (T:All P w K mg AA DD) (k:Nat) (GS:az P w K mg base aE (2*k+2) AA.Zf DD.Zf ["one"] (pU k)):az P w K mg base aE (2*(k+1)+1) AA.Zt DD.Zt ["tree"] (iu (k+1)):=by
 refine T.F_Zt.ok lZ (fun vs H Q E h=>?_) (fun cdv A outer s H vs Q E hr h=>?_)
 ·obtain ⟨l,xs,ts,rfl,_⟩:=h
  rfl
 ·obtain ⟨l,xs,ts,rfl,hl,hL,hd,h20,ha,kq⟩:=h
  have nd:=lZ.nd
  have hrS:aw (2*k+2) _:=hr
  refine ⟨_,(aq (aP (eR (aG jH) pX [] [] rfl (by exact ⟨rfl,rfl,by decide +kernel,rfl,by decide +kernel,by decide +kernel,by decide +kernel,rfl,by decide +kernel⟩) rfl rfl (ck (pv 0)) (fun _ _ _ _=>dz) (fun _ _ _ _=>(bm (ae ah (ae (aN GS hrS rfl T.m_Zf T.k_Zf T.b_Zf .nil aI (ae (pv 0) ag)) ag))))))),?_⟩
  refine ⟨_,rfl,l,rfl,⟨_,al.of hl⟩,?_⟩
  have hxl:=hL.length
  refine kG (K:=K) (a:=l) (xs:=xs) (fun i ys H'=>Same H H'/\i<=xs.length/\LAt H' true ys (ts.take i)) ⟨Same.refl _,Qs _,by simpa using LAt.nil⟩ (fun i ys H' _ h=>al.of (h.1 _ _ hl)) ?_ ?_
  ·rintro i x ys H1 hx ⟨sm,hi,hys⟩
   obtain ⟨t,ht,hO⟩:=hL.get hx
   have hilt:=(Qe hx).1
   have hyl:=hys.length
   rw [Qr] at hyl
   have hil:i<ts.length:=by omega
   have htk:ts.take (i+1)=ts.take i++[t]:=by
    rw [Qp hil]
    rw [Qb hil] at ht
    rw [Qj ht]
   have hm:t∈ts:=Qt ht
   have hS:bi H1 false x t:=by
    cases hO with
    | plain _ a=>exact a.kept sm.ls
    | shared e _ _=>cases e
   refine dy ?_
   rw [if_pos rfl]
   refine ⟨_,rfl,x,t,rfl,hS,by have:=jr hm;omega,lh ha hm,fun v' H2 s2 hS2=>?_⟩
   refine ⟨(by show 2<=sizeLine;decide),fun q hq=>?_⟩
   have s3:=ap (o:=.tup [.int 1,v']) hq
   refine ⟨bV (by omega),(sm.trans s2).trans s3,by omega,?_⟩
   rw [htk]
   exact (hys.kept (s2.trans s3).ls).snoc (.shared rfl aj (hS2.kept s3.ls))
  ·rintro ys H1 ⟨sm,hi,hys⟩ p hp
   have s1:=ap (o:=.lst ys) hp
   rw [Qu (by omega)] at hys
   exact kq p ys _ (sm.trans s1) aj (hys.kept s1.ls)
theorem ye (T:All P w K mg AA DD):az P w K mg base aE 1 AA.Zt DD.Zt ["tree"] (iu 0):=by
 have no:∀ vs H Q E,¬ iu 0 vs H Q E:=fun vs H Q E h=>by
  obtain ⟨l,xs,ts,_,_,_,z,_⟩:=h
  omega
 exact T.F_Zt.ok lZ (fun vs H Q E h=>(no _ _ _ _ h).elim) (fun cdv A outer s H vs Q E hr h=>(no _ _ _ _ h).elim)
theorem pY (T:All P w K mg AA DD):∀ k:Nat,az P w K mg base aE (2*k+1) AA.Zt DD.Zt ["tree"] (iu k)
 | 0=>ye T
 | k+1=>yd T k (yc T k (pY T k))
end
section
variable {P:Program} {w:World} {K:W.Frag} {mg:Str->Option Value} {base:Heap} {AA:cx} {DD:cy}
theorem a8 {c:Bool} {a b:Prop} (h:c=false) (k:b):if c=true then a else b:=by rw [h];exact k
theorem bt {c:Bool} {a b:Prop} (h:c=true) (k:a):if c=true then a else b:=by rw [h];exact k
noncomputable def yf:Sp:=fun vs H Q _=>vs=[.int 1]/\Q (.int 0) H
theorem yg:Builtin.bitXor (1:Int) (1-1)=1:=by decide +kernel
noncomputable abbrev yh:List Str:=["mask"]
theorem pZ:aS yh ["mask"] (aG lz):=⟨rfl,rfl,rfl,by decide +kernel,rfl,by decide +kernel,by decide +kernel⟩
theorem yi (T:All P w K mg AA DD):az P w K mg base aE 1 AA.ZK DD.ZK ["mask"] yf:=by
 refine T.F_ZK.ok pZ (fun vs H Q E h=>?_) (fun cdv A outer s H vs Q E hr h=>?_)
 ·obtain ⟨rfl,_⟩:=h
  rfl
 ·obtain ⟨rfl,k⟩:=h
  have nd:=pZ.nd
  refine ⟨_,(aH (be (aU cf (pv 0) ah (bb _)) (aq (aP mR)) bx) (aq (aP (aB iT (u9 PySem.F.plainAttrs_int PySem.F.slot_int_bit_length PySem.F.type_int_bit_length vt (aB m5 (pv 0) (aB iT (pv 0) ah))) ah)))),?_⟩
  refine ⟨_,rfl,rfl,_,rfl,c7 ?_⟩
  refine ⟨_,rfl,_,rfl,_,_,rfl,rfl,_,_,rfl,rfl,rfl,_,rfl,rfl,_,_,rfl,rfl,?_⟩
  rw [yg]
  exact k
noncomputable def eW (t:Tr):List aa:=[.inl ((t.row:Nat):Int),.inl 0]
noncomputable def yj:Sp:=fun vs H Q _=>∃ (v:V) (t:Tr),vs=[v]/\OAt H true v t/\∀ q H',Same H H'->H' q=some (.tup ((eW t).map kV))->Q (.ref q) H'
theorem yk {H:Hp} {vs:List V} {t:Tr} (h:PsAt H true vs t.parts):∃ (a:V) (r:List V),vs=a::.int ((t.row:Nat):Int)::r:=by
 have g:∃ a ps,t.parts=.s a::.i t.row::ps:=by cases t<;>exact ⟨_,_,rfl⟩
 obtain ⟨a,ps,e⟩:=g
 rw [e] at h
 obtain ⟨r,e2,_⟩:=d5 h
 exact ⟨_,r,e2⟩
noncomputable abbrev yl:List Str:=["pair"]
theorem p0:aS yl ["pair"] (aG lD):=⟨rfl,rfl,rfl,by decide +kernel,rfl,by decide +kernel,by decide +kernel⟩
theorem ym (T:All P w K mg AA DD):az P w K mg base aE 2 AA.Zh DD.Zh ["pair"] yj:=by
 have GL:=yi (base:=base) T
 refine T.F_Zh.ok p0 (fun vs H Q E h=>?_) (fun cdv A outer s H vs Q E hr h=>?_)
 ·obtain ⟨v,t,rfl,_⟩:=h
  rfl
 ·obtain ⟨v,t,rfl,hO,k⟩:=h
  have nd:=p0.nd
  have hr1:aw 1 _:=hr
  refine ⟨_,(aq (aP (bm (ae (aD (aJ (K:=K) rfl) (aD (aJ (K:=K) rfl) (pv 0) ah (fun _ _=>rfl)) ah (fun _ _=>rfl)) (ae (aN GL hr1 rfl T.m_ZK T.k_ZK T.b_ZK .nil aI (ae (aD (aJ (K:=K) rfl) (pv 0) ah (fun _ _=>rfl)) ag)) ag))))),?_⟩
  cases hO with
  | plain e _=>cases e
  | @shared p x _ _ hp hS =>
  cases hS with
  | @mk t0 vs _ ht hps =>
  obtain ⟨a,r,rfl⟩:=yk hps
  refine ⟨_,rfl,p,_,_,_,rfl,rfl,ai.of hp,rfl,?_⟩
  refine ⟨t0,_,_,_,rfl,rfl,ai.of ht,aA (j:=1) rfl,?_⟩
  refine ⟨_,rfl,p,_,_,_,rfl,rfl,ai.of hp,rfl,?_⟩
  refine ⟨rfl,(by show 2<=sizeLine;decide),fun q hq=>?_⟩
  exact k q _ (ap hq) aj
noncomputable def iw (k:Nat):Sp:=fun vs H Q _=>∃ (l:Addr) (xs:List V) (ts:List Tr),vs=[.ref l,.int 1]/\H l=some (.lst xs)/\LAt H true xs ts/\deeps ts<k/\ts.length<=20/\ascs ts/\∀ p ys H',Same H H'->H' p=some (.lst ys)->LAt H' true ys ts->Q (.ref p) H'
noncomputable def p6 (k:Nat):Sp:=fun vs H Q _=>∃ (v:V) (t:Tr),vs=[v,.int 1]/\bi H true v t/\t.deep<k/\t.asc/\∀ v' H',Same H H'->bi H' true v' t->Q v' H'
noncomputable abbrev p7:List Str:=["one","mask"]
theorem p8:aS p7 ["one","mask"] (aG jG):=⟨rfl,rfl,rfl,by decide +kernel,rfl,by decide +kernel,by decide +kernel⟩
theorem yn (T:All P w K mg AA DD) (k:Nat) (GF:az P w K mg base aE (2*k+5) AA.Zs DD.Zs ["tree","mask"] (iw k)):az P w K mg base aE (2*k+6) AA.Zg DD.Zg ["one","mask"] (p6 k):=by
 refine T.F_Zg.ok p8 (fun vs H Q E h=>?_) (fun cdv A outer s H vs Q E hr h=>?_)
 ·obtain ⟨v,t,rfl,_⟩:=h
  rfl
 ·obtain ⟨v,t,rfl,hS,hd,ha,kq⟩:=h
  have nd:=p8.nd
  have hrF:aw (2*k+5) _:=hr
  refine ⟨_,(aq (aP (fo gS rfl T.n_tuple f7 (ae (eR (aG jG) p7 ["mask"] [1] rfl (by exact ⟨rfl,rfl,by decide +kernel,rfl,by decide +kernel,by decide +kernel,by decide +kernel,rfl,by decide +kernel⟩) rfl rfl (eG (pv 0)) (fun _ _ _ _=>dz) (fun _ _ _ _=>(iO (gG (c6 (im (K:=K) (n:="list") rfl) rfl T.n_isinstance gY (ae (pv 0) (ae (gF (v:=.ty "list") rfl T.n_list i6 rfl) ag)))) (aN GF hrF rfl T.m_Zs T.k_Zs T.b_Zs .nil aI (ae (pv 0) (ae (pv 1) ag))) (pv 0)))) ag)))),?_⟩
  cases hS with
  | @mk t0 xs _ ht hps =>
  refine ⟨_,rfl,t0,rfl,⟨_,ai.of ht⟩,?_⟩
  have hpl:=t.parts_len
  have hxl:=hps.length
  refine jb (K:=K) (a:=t0) (xs:=xs) (fun i ys H'=>Same H H'/\i<=xs.length/\PsAt H' true ys (t.parts.take i)) ⟨Same.refl _,Qs _,by simpa using PsAt.nil⟩ (fun i ys H' _ h=>ai.of (h.1 _ _ ht)) ?_ ?_
  ·rintro i x ys H1 hx ⟨sm,hi,hys⟩
   obtain ⟨p,hp,hP⟩:=hps.get hx
   have hP1:=hP.kept sm.ls
   have hilt:=(Qe hx).1
   have hyl:=hys.length
   rw [Qr] at hyl
   have hil:i<t.parts.length:=by omega
   have htk:t.parts.take (i+1)=t.parts.take i++[p]:=by
    rw [Qp hil]
    rw [Qb hil] at hp
    rw [Qj hp]
   refine dy ?_
   rw [if_pos rfl]
   rcases hP1.isL (K:=K) with ⟨bs,l,zs,e1,e2,hl,hL,ty,kb⟩ | ⟨nb,ty0,ty,kb⟩
   ·subst e1 e2
    have hm:bK.b bs∈t.parts:=Qt hp
    refine ⟨_,rfl,_,_,true,rfl,ty,kb,_,rfl,iZ ?_⟩
    refine ⟨_,rfl,_,rfl,l,zs,bs,rfl,hl,hL,QH (lg hm) hd,(jq ha hm).1,(jq ha hm).2,fun q us H2 s2 hq hL2=>?_⟩
    refine ⟨bV (by omega),sm.trans s2,by omega,?_⟩
    rw [htk]
    exact (hys.kept s2.ls).snoc (.b hq hL2)
   ·refine ⟨_,rfl,_,_,false,rfl,ty,kb,_,rfl,c7 ?_⟩
    refine ⟨_,rfl,bV (by omega),sm,by omega,?_⟩
    rw [htk]
    exact hys.snoc hP1
  ·rintro ys H1 ⟨sm,hi,hys⟩ p hp
   have s1:=ap (o:=.lst ys) hp
   refine ⟨p,ys,rfl,.inl ⟨al.of aj,fun l hl=>?_⟩⟩
   have s2:=ap (o:=.tup ys) hl
   refine kq _ _ ((sm.trans s1).trans s2) (.mk aj ?_)
   rw [Qu (by omega)] at hys
   exact hys.kept (s1.trans s2).ls
theorem p9:Builtin.bitAnd (1:Int) 1=1:=by decide +kernel
theorem qa:∀ {ts:List Tr},ascs ts->∀ {i:Nat} {a b:Tr},ts[i]?=some a->ts[i+1]?=some b->a.row<b.row
 | t::ts,h,0,a,b,h1,h2=>by
  cases (show some t=some a from h1)
  exact h.2.1 b (Qt (show ts[0]?=some b from h2))
 | t::ts,h,i+1,a,b,h1,h2=>qa h.2.2 (show ts[i]?=some a from h1) (show ts[i+1]?=some b from h2)
theorem yo {ts:List Tr} {ys:List V} (h64:ts.length<=20) (h:ascs ts) (hl:ys.length=ts.length):bB (ts.map eW) ys=ys:=by
 refine w4 (by rw [Qg];omega) (by simp [hl]) fun i hi=>?_
 rw [Qg] at hi
 have hi':i<ts.length:=by omega
 have e1:(ts.map eW).getD (i+1) []=eW ts[i+1]:=by simp [Qf,hi]
 have e2:(ts.map eW).getD i []=eW ts[i]:=by simp [Qf,hi']
 have hr:=qa h (Qb hi') (Qb hi)
 rw [e1,e2]
 show (if (Sum.inl ((ts[i+1].row:Nat):Int):aa)=Sum.inl ((ts[i].row:Nat):Int) then _ else c8 (Sum.inl ((ts[i+1].row:Nat):Int)) (Sum.inl ((ts[i].row:Nat):Int)))=false
 rw [if_neg (fun z=>by injection z with z;omega)]
 show decide (((ts[i+1].row:Nat):Int)<((ts[i].row:Nat):Int))=false
 exact Qi (by omega)
noncomputable abbrev qb:List Str:=["tree","mask","kept"]
theorem l0:aS qb ["tree","mask"] (aG jF):=⟨rfl,rfl,rfl,by decide +kernel,rfl,by decide +kernel,by decide +kernel⟩
theorem yp (T:All P w K mg AA DD) (k:Nat) (GS:az P w K mg base aE (2*k+6) AA.Zg DD.Zg ["one","mask"] (p6 k)):az P w K mg base aE (2*(k+1)+5) AA.Zs DD.Zs ["tree","mask"] (iw (k+1)):=by
 have GR:=ym (base:=base) T
 refine T.F_Zs.ok l0 (fun vs H Q E h=>?_) (fun cdv A outer s H vs Q E hr h=>?_)
 ·obtain ⟨l,xs,ts,rfl,_⟩:=h
  rfl
 ·obtain ⟨l,xs,ts,rfl,hl,hL,hd,h20,ha,kq⟩:=h
  have nd:=l0.nd
  have hrS:aw (2*k+6) _:=hr
  have hr4:aw 4 _:=hrS.mono (by omega)
  refine ⟨_,(aH (vC (i:=2) (xs:=["there","one"]) (aG jF) qb ["mask"] [1] rfl (by exact ⟨rfl,rfl,by decide +kernel,by decide +kernel,by decide +kernel,by decide +kernel,by decide +kernel,rfl,by decide +kernel⟩) rfl rfl (ck (pv 0)) (fun _ _ _ _=>(hZ (K:=K) (n:=2) rfl rfl (bH (ba (i:=0) (show (["there","one","mask"]:List Str).Nodup by decide +kernel) rfl (Or.inl rfl)) (bH (ba (i:=1) (show (["there","one","mask"]:List Str).Nodup by decide +kernel) rfl (Or.inl rfl)) dE)))) (fun _ _ _ _=>i4 (aU eA (aB fR (pv 0) (pv 2)) ah (bb _))) (fun _ _ _ _=>(bm (ae (aB fR (pv 0) (pv 2)) (ae (aN GS hrS rfl T.m_Zg T.k_Zg T.b_Zg .nil aI (ae (pv 1) (ae (pv 2) ag))) ag)))) nd rfl rfl rfl) (aq (aP (wR (K:=K) rfl GR hr4 T.b_Zh .nil rfl T.n_sorted rfl T.m_Zh (pv 2))))),?_⟩
  refine ⟨_,rfl,l,rfl,⟨_,al.of hl⟩,?_⟩
  have hxl:=hL.length
  refine kP (K:=K) (a:=l) (xs:=xs) (fun i ys H'=>Same H H'/\i<=xs.length/\LAt H' true ys (ts.take i)) ⟨Same.refl _,Qs _,by simpa using LAt.nil⟩ (fun i ys H' _ h=>al.of (h.1 _ _ hl)) ?_ ?_
  ·rintro i x ys H1 hx ⟨sm,hi,hys⟩
   obtain ⟨t,ht,hO⟩:=hL.get hx
   have hO:=hO.kept sm.ls
   have hilt:=(Qe hx).1
   have hyl:=hys.length
   rw [Qr] at hyl
   have hil:i<ts.length:=by omega
   have htk:ts.take (i+1)=ts.take i++[t]:=by
    rw [Qp hil]
    rw [Qb hil] at ht
    rw [Qj ht]
   have hm:t∈ts:=Qt ht
   cases hO with
   | plain e _=>cases e
   | @shared q y _ _ hq hS =>
   intro os hos
   obtain ⟨a,b,rfl⟩:∃ a b,os=[a,b]:=by
    match os,hos with
    | [a,b],_=>exact ⟨a,b,rfl⟩
   refine ⟨q,_,rfl,ai.of hq,rfl,_,_,rfl,_,_,rfl,rfl,⟨[_,_],rfl,rfl⟩,?_⟩
   refine ⟨_,rfl,_,rfl,_,_,rfl,rfl,rfl,_,rfl,?_⟩
   refine bt (by
     show (!decide (V.int (Builtin.bitAnd 1 1)=V.int 0))=true
     rw [p9];rfl) ?_
   refine ⟨_,rfl,_,rfl,_,_,rfl,rfl,_,rfl,_,rfl,y,t,rfl,hS,by have:=jr hm;omega,lh ha hm,fun v' H2 s2 hS2=>?_⟩
   refine ⟨(by show 2<=sizeLine;decide),fun q2 hq2=>?_⟩
   dsimp only
   rw [p9]
   have s3:=ap (o:=.tup [.int 1,v']) hq2
   refine ⟨bV (by omega),(sm.trans s2).trans s3,by omega,?_⟩
   rw [htk]
   exact (hys.kept (s2.trans s3).ls).snoc (.shared rfl aj (hS2.kept s3.ls))
  ·rintro ys H1 ⟨sm,hi,hys⟩ p hp
   have s1:=ap (o:=.lst ys) hp
   rw [Qu (by omega)] at hys
   have hyl:=hys.length
   have hys1:=hys.kept s1.ls
   refine ⟨_,rfl,p,ys,ts.map eW,[true,true],rfl,al.of aj,by omega,by simp [hyl],fun d hd=>?_,by simp,fun i x d H' s2 hx hd Q' kQ=>?_,fun q H' s2 hq=>?_⟩
   ·obtain ⟨t,_,rfl⟩:=QF hd
    rfl
   ·obtain ⟨t,ht,hO⟩:=hys1.get hx
    rw [Qk,ht] at hd
    cases (show some (eW t)=some d from hd)
    exact ⟨x,t,rfl,hO.kept s2.ls,fun q H2 s3 hq=>kQ q H2 s3 hq⟩
   ·rw [yo (by omega) ha hyl]
    have s3:=ap (o:=.lst ys) hq
    exact kq q ys _ (((sm.trans s1).trans s2).trans s3) aj (hys1.kept (s2.trans s3).ls)
theorem yq (T:All P w K mg AA DD):az P w K mg base aE 5 AA.Zs DD.Zs ["tree","mask"] (iw 0):=by
 have no:∀ vs H Q E,¬ iw 0 vs H Q E:=fun vs H Q E h=>by
  obtain ⟨l,xs,ts,_,_,_,z,_⟩:=h
  omega
 exact T.F_Zs.ok l0 (fun vs H Q E h=>(no _ _ _ _ h).elim) (fun cdv A outer s H vs Q E hr h=>(no _ _ _ _ h).elim)
theorem qc (T:All P w K mg AA DD):∀ k:Nat,az P w K mg base aE (2*k+5) AA.Zs DD.Zs ["tree","mask"] (iw k)
 | 0=>yq T
 | k+1=>yp T k (yn T k (qc T k))
end
section
variable {P:Program} {w:World} {K:W.Frag} {mg:Str->Option Value} {base:Heap} {AA:cx} {DD:cy}
theorem iy {H:Hp} {d:Addr} {ob ob':HO} (h:H d=some ob) (n1:∀ xs,ob≠.tup xs) (n2:∀ xs,ob≠.lst xs) (n3:∀ o x,ob≠.frz o x):bE H (af H d ob') :=
 ⟨fun b xs e=>(by rw [av (fun z=>by rw [z,h] at e;exact n1 _ (Qj e))];exact e),fun b xs e=>(by rw [av (fun z=>by rw [z,h] at e;exact n2 _ (Qj e))];exact e),fun b o xs e=>by rw [av (fun z=>by rw [z,h] at e;exact n3 _ _ (Qj e))];exact e⟩
noncomputable def bP (fs:List (List aa)):List (List aa × V):=fs.map fun k=>(k,.int 1)
noncomputable def de (fs:List (List aa)) (k:List aa):List (List aa):=if (fs.any fun d=>decide (d=k))=true then fs else fs++[k]
theorem qd (fs:List (List aa)) (k:List aa):((bP fs).any fun kv=>decide (kv.1=k))=fs.any fun d=>decide (d=k):=by
 unfold bP
 rw [List.any_map]
 rfl
theorem yr (fs:List (List aa)) (k:List aa):bN (bP fs) k (.int 1)=bP (de fs k):=by
 unfold bN de
 rw [qd]
 split
 ·unfold bP
  rw [List.map_map]
  refine List.map_congr_left fun d _=>?_
  show (if d=k then (d,V.int 1) else (d,V.int 1))=_
  split<;>rfl
 ·unfold bP
  rw [QG]
  rfl
theorem qe (fs:List (List aa)) (k:List aa):bn (bP fs) k=if (fs.any fun d=>decide (d=k))=true then some (.int 1) else none:=by
 have h:=gZ k (bP fs)
 rw [qd] at h
 cases e:bn (bP fs) k with
 | none=>rw [e] at h;rw [h];rfl
 | some v =>
  rw [e] at h
  rw [h]
  have hm:∃ d,(d,v)∈bP fs:=by
   unfold bn at e
   obtain ⟨q,hq,rfl⟩:=Option.map_eq_some_iff.mp e
   exact ⟨q.1,List.mem_of_find?_eq_some hq⟩
  obtain ⟨d,hd⟩:=hm
  obtain ⟨y,_,hy⟩:=QF hd
  have:v=.int 1:=(Prod.mk.inj hy).2.symm
  rw [this]
  rfl
noncomputable def yt:Sp:=fun vs H Q _=>∃ m o:Nat,vs=[.int m,.int o]/\Q (.int ((m ^^^ (m &&& o):Nat):Int)) H
noncomputable abbrev yu:List Str:=["mask","other"]
theorem qf:aS yu ["mask","other"] (aG lA):=⟨rfl,rfl,rfl,by decide +kernel,rfl,by decide +kernel,by decide +kernel⟩
theorem l7 (T:All P w K mg AA DD):az P w K mg base aE 1 AA.ZE DD.ZE ["mask","other"] yt:=by
 refine T.F_ZE.ok qf (fun vs H Q E h=>?_) (fun cdv A outer s H vs Q E hr h=>?_)
 ·obtain ⟨m,o,rfl,_⟩:=h
  rfl
 ·obtain ⟨m,o,rfl,k⟩:=h
  have nd:=qf.nd
  refine ⟨_,(aq (aP (aB m5 (pv 0) (aB fR (pv 0) (pv 1))))),?_⟩
  refine ⟨_,rfl,_,rfl,_,rfl,_,_,rfl,rfl,_,_,rfl,rfl,?_⟩
  dsimp only
  rw [i5,vn]
  exact k
noncomputable def yv:Sp:=fun vs H Q _=>∃ (d:Addr) (y:V) (m:Nat),vs=[.ref d,y,.int ((m:Nat):Int)]/\kN H d/\((m=0/\Q .non H)∨(m=1/\∃ o H',cq H d y o/\(o=none∨o=some (.int 1))/\dX H d y (.int 1) H'/\Q .non H'))
theorem yw:Builtin.bitOr (0:Int) 1=1:=by decide +kernel
noncomputable abbrev yx:List Str:=["found","key","mask"]
theorem qg:aS yx ["found","key","mask"] (aG lC):=⟨rfl,rfl,rfl,by decide +kernel,rfl,by decide +kernel,by decide +kernel⟩
theorem qh (T:All P w K mg AA DD):az P w K mg base aE 1 AA.ZJ DD.ZJ ["found","key","mask"] yv:=by
 refine T.F_ZJ.ok qg (fun vs H Q E h=>?_) (fun cdv A outer s H vs Q E hr h=>?_)
 ·obtain ⟨d,y,m,rfl,_⟩:=h
  rfl
 ·obtain ⟨d,y,m,rfl,hI,h⟩:=h
  have nd:=qg.nd
  have hu:_+1<cLine:=QH (Nat.add_le_add_left (show 1<=16*0+200 by decide) _) (by have:=hr.un;omega)
  refine ⟨_,(aq (be (aU eA (pv 2) ah (bb _)) (aq (n6 hu (pv 0) (pv 1) (aB m4 (hW hu (pv 0) (pv 1) ah ⟨by rfl,by rfl,by rfl,by rfl⟩) (pv 2)) rfl)) bx)),?_⟩
  refine ⟨_,rfl,rfl,_,rfl,?_⟩
  rcases h with ⟨rfl,k⟩ | ⟨rfl,o,H',g,ho,hp,k⟩
  ·exact c7 k
  ·refine iZ ?_
   refine ⟨_,rfl,d,rfl,hI,_,rfl,o,g,?_⟩
   have e:o.getD (V.int 0)=.int 0∨o.getD (V.int 0)=.int 1:=by
    rcases ho with z | z<;>rw [z]
    ·exact .inl rfl
    ·exact .inr rfl
   rcases e with e | e<;>rw [e]
   ·refine ⟨_,rfl,_,_,rfl,rfl,?_⟩
    show ∃ _,_
    refine ⟨_,rfl,_,rfl,d,H',rfl,?_,k⟩
    have:=yw
    exact hp
   ·refine ⟨_,rfl,_,_,rfl,rfl,?_⟩
    refine ⟨_,rfl,_,rfl,d,H',rfl,?_,k⟩
    exact hp
theorem l9 (z:Str) (l:List Str):eN (.str z) (l.map V.str)=decide (z∈l):=by
 induction l with
 | nil=>rfl
 | cons a r ih =>
  show ((a == z)||eN (.str z) (r.map V.str))=_
  rw [ih]
  by_cases h:a=z
  ·subst h;simp
  ·have:¬ z=a:=fun e=>h e.symm
   simp [h,this]
theorem eD {z:Str} {zs:List Str} {b:Bool} (h:decide (z∈zs)=b):(if false=true then !eN (V.str z) (zs.map V.str) else eN (V.str z) (zs.map V.str))=b:=by
 rw [<- h]
 exact l9 _ _
mutual
noncomputable def _root_.Mm.Ex.cal:Ex->Prop
 | .num _=>True
 | .many w _ es=>(w="do"∨w="new")/\es.length<=20/\calL es
 | .truth _=>False
 | .name _=>False
 | .not _=>False
 | .op _ _ _=>False
 | .of _ _=>False
noncomputable def calL:List Ex->Prop
 | []=>True
 | e::es=>e.cal/\calL es
end
theorem jR:∀ {es:List Ex} {e:Ex},calL es->e∈es->e.cal
 | x::es,e,g,h=>by
  rcases Ql h with z | z
  ·subst z;exact g.1
  ·exact jR g.2 z
theorem qi:∀ {es:List Ex},(∀ e∈es,e.cal)->calL es
 | [],_=>trivial
 | e::es,h=>⟨h e (by simp),qi fun x hx=>h x (by simp [hx])⟩
noncomputable def _root_.Mm.Ex.args:Ex->List Ex
 | .many _ _ es=>es
 | _=>[]
noncomputable def iz:List Str:=["num","truth","name"]
noncomputable def ma:List Str:=["do","new"]
noncomputable def yy:Sp:=fun vs H Q _=>∃ (v:V) (e:Ex),vs=[v]/\aW H v e/\e.cal/\∀ t ys H',Same H H'->H' t=some (.tup ys)->ExsAt H' ys e.args->Q (.ref t) H'
theorem md:∀ w:Str,w="do"∨w="new"->w∉iz/\w∈ma/\w≠"name"/\w≠"num":=by
 rintro w (rfl | rfl)<;>decide +kernel
noncomputable abbrev yz:List Str:=["e"]
theorem qj:aS yz ["e"] (aG lH):=⟨rfl,rfl,rfl,by decide +kernel,rfl,by decide +kernel,by decide +kernel⟩
theorem yA (T:All P w K mg AA DD):az P w K mg base aE 1 AA.ZA DD.ZA ["e"] yy:=by
 refine T.F_ZA.ok qj (fun vs H Q E h=>?_) (fun cdv A outer s H vs Q E hr h=>?_)
 ·obtain ⟨v,e,rfl,_⟩:=h
  rfl
 ·obtain ⟨v,e,rfl,hE,hpl,k⟩:=h
  have nd:=qj.nd
  refine ⟨_,(aH (be (aU (il (K:=K) rfl) (aD (aJ (K:=K) rfl) (pv 0) ah (fun _ _=>rfl)) (bm (ae aL (ae aL (ae aL ag)))) rfl) (aq (aP (bm ag))) bx) (aH (be (aU (il (K:=K) rfl) (aD (aJ (K:=K) rfl) (pv 0) ah (fun _ _=>rfl)) (bm (ae aL (ae aL ag))) rfl) (aq (aP (aD (aJ (K:=K) rfl) (pv 0) ah (fun _ _=>rfl)))) bx) (aH (be (aU cf (aD (aJ (K:=K) rfl) (pv 0) ah (fun _ _=>rfl)) aL (bb _)) (aq (aP (jp))) bx) (aq (aP (jp)))))),?_⟩
  cases hE with
  | @num t n ht =>
   refine ⟨_,rfl,t,_,_,_,rfl,rfl,ai.of ht,aA (j:=0) rfl,(by show 3<=sizeLine;decide),fun pt hpt=>⟨pt,iz.map V.str,rfl,.inr (ai.of aj),rfl,rfl,_,rfl,?_⟩⟩
   have s1:=ap (o:=.tup (iz.map V.str)) hpt
   refine bt (eD (Qv (by decide))) ?_
   refine ⟨(by show 0<=sizeLine;decide),fun p hp=>?_⟩
   exact k p _ _ (s1.trans (ap hp)) aj .nil
  | @many t l w z vs es ht hl hvs =>
   obtain ⟨n1,n2,_⟩:=md w hpl.1
   refine ⟨_,rfl,t,_,_,_,rfl,rfl,ai.of ht,aA (j:=0) rfl,(by show 3<=sizeLine;decide),fun pt hpt=>⟨pt,iz.map V.str,rfl,.inr (ai.of aj),rfl,rfl,_,rfl,?_⟩⟩
   have s1:=ap (o:=.tup (iz.map V.str)) hpt
   refine a8 (eD (Qi n1)) ?_
   refine ⟨_,rfl,t,_,_,_,rfl,rfl,ai.of (s1 _ _ ht),aA (j:=0) rfl,(by show 2<=sizeLine;decide),fun pu hpu=>⟨pu,ma.map V.str,rfl,.inr (ai.of aj),rfl,rfl,_,rfl,?_⟩⟩
   have s2:=s1.trans (ap (o:=.tup (ma.map V.str)) hpu)
   refine bt (eD (Qv n2)) ?_
   refine ⟨_,rfl,t,_,_,_,rfl,rfl,ai.of (s2 _ _ ht),aA (j:=2) rfl,?_⟩
   exact k l vs _ s2 (s2 _ _ hl) (hvs.kept s2.tups)
  | _=>exact hpl.elim
noncomputable def _root_.Mm.Tr.kw:Tr->Str
 | .set _ _ _=>"set"
 | .tell _ _=>"tell"
 | .iff _ _ _ _=>"if"
 | .whl _ _ _=>"while"
 | .give _ _=>"give"
 | .df _ _ _ _ _=>"def"
 | .kd _ _ _=>"kind"
noncomputable def _root_.Mm.Tr.ex:Tr->Option Ex
 | .set _ _ e=>some e
 | .tell _ e=>some e
 | .iff _ e _ _=>some e
 | .whl _ e _=>some e
 | .give _ e=>some e
 | .df _ _ _ _ _=>none
 | .kd _ _ _=>none
noncomputable def _root_.Mm.Tr.blocks:Tr->List (List Tr)
 | .iff _ _ b o=>[b,o]
 | .whl _ _ b=>[b]
 | .df _ _ _ _ b=>[b]
 | _=>[]
noncomputable def gw:bK->Bool
 | .b _=>true
 | _=>false
theorem yB (t:Tr):t.parts.filter gw=t.blocks.map bK.b:=by cases t<;>rfl
theorem qk {t:Tr} {e:Ex} (h:t.ex=some e):t.kw≠"def"/\t.kw≠"kind":=by cases t<;>first | (simp only [Tr.kw];decide +kernel) | cases h
theorem iA {H:Hp} {sh:Bool} {vs:List V} {t:Tr} (h:PsAt H sh vs t.parts):∃ (r:List V),vs=.str t.kw::.int ((t.row:Nat):Int)::r:=by
 have g:∃ ps,t.parts=.s t.kw::.i t.row::ps:=by cases t<;>exact ⟨_,rfl⟩
 obtain ⟨ps,e⟩:=g
 rw [e] at h
 obtain ⟨r,e2,_⟩:=d5 h
 exact ⟨r,e2⟩
noncomputable def yC:Sp:=fun vs H Q _=>∃ (v:V) (t:Tr) (e:Ex),vs=[v]/\bi H true v t/\t.ex=some e/\∀ x,aW H x e->Q x H
noncomputable abbrev yD:List Str:=["one"]
theorem ql:aS yD ["one"] (aG lG):=⟨rfl,rfl,rfl,by decide +kernel,rfl,by decide +kernel,by decide +kernel⟩
theorem yE (T:All P w K mg AA DD):az P w K mg base aE 1 AA.ZF DD.ZF ["one"] yC:=by
 refine T.F_ZF.ok ql (fun vs H Q E h=>?_) (fun cdv A outer s H vs Q E hr h=>?_)
 ·obtain ⟨v,t,e0,rfl,_⟩:=h
  rfl
 ·obtain ⟨v,t,e0,rfl,hS,hx0,k⟩:=h
  have nd:=ql.nd
  obtain ⟨t0,vs,j,x,ev,ht,h0,hj,hx,hb⟩:∃ t0 vs j x,v=.ref t0/\H t0=some (.tup vs)/\vs[0]?=some (.str t.kw)/\vs[j]?=some x/\aW H x e0/\((t.kw="set"/\j=3)∨(t.kw≠"set"/\j=2)):=by
   cases t with
   | set r n e=>cases hx0;obtain ⟨t0,ve,e1,ht,hx⟩:=x6 hS;exact ⟨t0,_,3,ve,e1,ht,rfl,rfl,hx,.inl ⟨rfl,rfl⟩⟩
   | tell r e=>cases hx0;obtain ⟨t0,ve,e1,ht,hx⟩:=pS hS;exact ⟨t0,_,2,ve,e1,ht,rfl,rfl,hx,.inr ⟨by show ("tell":Str)≠"set";decide,rfl⟩⟩
   | iff r e b o=>cases hx0;obtain ⟨t0,ve,_,_,_,_,e1,ht,hx,_⟩:=ya hS;exact ⟨t0,_,2,ve,e1,ht,rfl,rfl,hx,.inr ⟨by show ("if":Str)≠"set";decide,rfl⟩⟩
   | whl r e b=>cases hx0;obtain ⟨t0,ve,_,_,e1,ht,hx,_⟩:=yb hS;exact ⟨t0,_,2,ve,e1,ht,rfl,rfl,hx,.inr ⟨by show ("while":Str)≠"set";decide,rfl⟩⟩
   | give r e=>cases hx0;obtain ⟨t0,ve,e1,ht,hx⟩:=x9 hS;exact ⟨t0,_,2,ve,e1,ht,rfl,rfl,hx,.inr ⟨by show ("give":Str)≠"set";decide,rfl⟩⟩
   | df r n k ps b=>cases hx0
   | kd r n ps=>cases hx0
  subst ev
  refine ⟨_,(aq (aP (iO (aU cf (aD (aJ (K:=K) rfl) (pv 0) ah (fun _ _=>rfl)) aL (bb _)) (aD (aJ (K:=K) rfl) (pv 0) ah (fun _ _=>rfl)) (aD (aJ (K:=K) rfl) (pv 0) ah (fun _ _=>rfl))))),?_⟩
  refine ⟨_,rfl,t0,_,_,_,rfl,rfl,ai.of ht,aA (j:=0) h0,rfl,_,rfl,?_⟩
  rcases hb with ⟨hw,e⟩ | ⟨hw,e⟩<;>subst e
  ·exact bt (Qv (by rw [hw])) ⟨_,rfl,t0,_,_,_,rfl,rfl,ai.of ht,aA (j:=3) hj,k _ hx⟩
  ·exact a8 (Qi fun z=>hw (by injection z)) ⟨_,rfl,t0,_,_,_,rfl,rfl,ai.of ht,aA (j:=2) hj,k _ hx⟩
noncomputable def yF:Sp:=fun vs H Q _=>∃ (v:V) (t:Tr),vs=[v]/\bi H true v t/\∀ p ys H',Same H H'->H' p=some (.lst ys)->PsAt H' true ys (t.blocks.map bK.b)->Q (.ref p) H'
noncomputable abbrev qm:List Str:=["one"]
theorem qo:aS qm ["one"] (aG jJ):=⟨rfl,rfl,rfl,by decide +kernel,rfl,by decide +kernel,by decide +kernel⟩
theorem yG (T:All P w K mg AA DD):az P w K mg base aE 1 AA.Zu DD.Zu ["one"] yF:=by
 refine T.F_Zu.ok qo (fun vs H Q E h=>?_) (fun cdv A outer s H vs Q E hr h=>?_)
 ·obtain ⟨v,t,rfl,_⟩:=h
  rfl
 ·obtain ⟨v,t,rfl,hS,k⟩:=h
  have nd:=qo.nd
  refine ⟨_,(aq (aP (eR (aG jJ) qm [] [] rfl (by exact ⟨rfl,rfl,by decide +kernel,rfl,by decide +kernel,by decide +kernel,by decide +kernel,rfl,by decide +kernel⟩) rfl rfl (eG (pv 0)) (fun _ _ _ _=>i4 (gG (c6 (im (K:=K) (n:="list") rfl) rfl T.n_isinstance gY (ae (pv 0) (ae (gF (v:=.ty "list") rfl T.n_list i6 rfl) ag))))) (fun _ _ _ _=>(pv 0))))),?_⟩
  cases hS with
  | @mk t0 xs _ ht hps =>
  refine ⟨_,rfl,t0,rfl,⟨_,ai.of ht⟩,?_⟩
  have hpl:=t.parts_len
  have hxl:=hps.length
  refine jb (K:=K) (a:=t0) (xs:=xs) (fun i ys H'=>H'=H/\i<=xs.length/\ys.length<=i/\PsAt H true ys ((t.parts.take i).filter gw)) ⟨rfl,Qs _,Qs _,by simpa using PsAt.nil⟩ (fun i ys H' _ h=>by rw [h.1];exact ai.of ht) ?_ ?_
  ·rintro i x ys H1 hx ⟨rfl,hi,hy,hys⟩
   obtain ⟨p,hp,hP⟩:=hps.get hx
   have hilt:=(Qe hx).1
   have hil:i<t.parts.length:=by omega
   have htk:(t.parts.take (i+1)).filter gw=(t.parts.take i).filter gw++[p].filter gw:=by
    rw [Qp hil,List.filter_append]
    rw [Qb hil] at hp
    rw [Qj hp]
   rcases hP.isL (K:=K) with ⟨bs,l,zs,e1,e2,hl,hL,ty,kb⟩ | ⟨nb,ty0,ty,kb⟩
   ·subst e1 e2
    refine ⟨_,rfl,_,_,true,rfl,ty,kb,_,rfl,iZ ?_⟩
    refine ⟨_,rfl,bV (by omega),rfl,by omega,by simp;omega,?_⟩
    rw [htk]
    exact hys.snoc hP
   ·refine ⟨_,rfl,_,_,false,rfl,ty,kb,_,rfl,c7 ?_⟩
    refine ⟨rfl,by omega,by omega,?_⟩
    rw [htk]
    have:[p].filter gw=[]:=by
     cases p with
     | b ts=>exact absurd rfl (nb ts)
     | s z=>rfl
     | i n=>rfl
     | e x=>rfl
     | p x=>rfl
    rw [this,List.append_nil]
    exact hys
  ·rintro ys H1 ⟨rfl,hi,hy,hys⟩ p hp
   rw [Qu (by omega),yB] at hys
   have s1:=ap (o:=.lst ys) hp
   exact k p ys _ s1 aj (hys.kept s1.ls)
end
section
variable {P:Program} {w:World} {K:W.Frag} {mg:Str->Option Value} {base:Heap} {AA:cx} {DD:cy}
noncomputable def bG (fs:List (List aa)):List (List aa):=(bJ fs).map fun i=>fs.getD i []
theorem me {fs:List (List aa)}:∀ i∈bJ fs,i<fs.length:=by
 unfold bJ
 split
 ·intro i hi
  simpa using hi
 ·intro i hi
  exact k4 (dB fs) (by omega) i hi
theorem yH {H:Hp} {xs:List V} {fs:List (List aa)} (h:aY H xs fs):aY H (bB fs xs) (bG fs):=by
 refine ⟨by simp [bB,bG],fun j x d hx hd=>?_⟩
 unfold bB at hx
 unfold bG at hd
 rw [Qk] at hx hd
 obtain ⟨i,hi,rfl⟩:=Option.map_eq_some_iff.mp hx
 rw [hi] at hd
 have hd:fs.getD i []=d:=by simpa using hd
 have hlt:=me i (Qt hi)
 have hlx:i<xs.length:=by rw [h.1];exact hlt
 refine h.2 i _ d ?_ ?_
 ·rw [Qb hlx,Qf,Qb hlx];rfl
 ·rw [<- hd,Qb hlt,Qf,Qb hlt];rfl
noncomputable def yI:Sp:=fun vs H Q _=>∃ (d:Addr) (fs:List (List aa)) (sh:List Bool),vs=[.ref d]/\H d=some (.dT (bP fs))/\fs.length<200/\(∀ k∈fs,k.map bF=sh)/\sh≠[]/\sh.length<100/\∀ p ys H',Same H H'->H' p=some (.lst ys)->aY H' ys ((bG fs).map fun k=>.inl 1::k)->Q (.ref p) H'
noncomputable abbrev qp:List Str:=["found"]
theorem qq:aS qp ["found"] (aG jE):=⟨rfl,rfl,rfl,by decide +kernel,rfl,by decide +kernel,by decide +kernel⟩
theorem yJ (T:All P w K mg AA DD):az P w K mg base aE 1 AA.Zq DD.Zq ["found"] yI:=by
 refine T.F_Zq.ok qq (fun vs H Q E h=>?_) (fun cdv A outer s H vs Q E hr h=>?_)
 ·obtain ⟨d,fs,sh,rfl,_⟩:=h
  rfl
 ·obtain ⟨d,fs,sh,rfl,hd,h64,hsh,hne,hshl,kq⟩:=h
  have nd:=qq.nd
  have hu:=QH (Nat.add_le_add_left (show 1<=64 by decide) _) hr.units
  refine ⟨_,(aq (aP (eR (aG jE) qp ["found"] [0] rfl (by exact ⟨rfl,rfl,by decide +kernel,rfl,by decide +kernel,by decide +kernel,by decide +kernel,rfl,by decide +kernel⟩) rfl rfl (ck (c6 (xi rfl) rfl T.n_sorted oS (ae (pv 0) ag))) (fun _ _ _ _=>dz) (fun _ _ _ _=>(aB (wY (K:=K) rfl) (bm (ae (vL hu (pv 1) (pv 0) (fun _ _=>rfl)) ag)) (pv 0)))))),?_⟩
  have hmp:(bP fs).map (·.1)=fs:=by
   unfold bP
   rw [List.map_map]
   show fs.map id=fs
   rw [List.map_id]
  refine ⟨_,rfl,d,bP fs,sh,rfl,hd,(by unfold bP;rw [Qg];omega),fun kv hkv=>?_,hne,fun p xs hp hT=>?_⟩
  ·unfold bP at hkv
   obtain ⟨k,hk,rfl⟩:=QF hkv
   exact hsh k hk
  rw [hmp] at hT ⊢
  have s1:=ap (o:=.lst (bB fs xs)) hp
  have hS:=yH hT
  refine ⟨p,rfl,⟨_,al.of aj⟩,?_⟩
  refine kG (K:=K) (a:=p) (xs:=bB fs xs) (fun i ys H'=>Same (af H p (.lst (bB fs xs))) H'/\i<=(bB fs xs).length/\aY H' ys (((bG fs).take i).map fun k=>.inl 1::k)) ⟨Same.refl _,Qs _,by simp,fun j x d h=>by simp at h⟩ (fun i ys H' _ h=>al.of (h.1 _ _ aj)) ?_ ?_
  ·rintro i x ys H1 hx ⟨sm,hi,hys⟩
   have hilt:=(Qe hx).1
   have hik:i<(bG fs).length:=by rw [<- hS.1];exact hilt
   obtain ⟨t,rfl,ht⟩:=hS.2 i x (bG fs)[i] hx (Qb hik)
   have hyl:=hys.1
   rw [Qg,Qr] at hyl
   have hmem:(bG fs)[i]∈fs:=by
    obtain ⟨j,hj,e⟩:=QF (QE hik)
    rw [<- e,Qf,Qb (me j hj)]
    exact QE _
   have hnn:(bG fs)[i]≠[]:=fun z=>hne (by rw [<- hsh _ hmem,z];rfl)
   have hkl:(bG fs)[i].length<100:=by
    have:=congrArg List.length (hsh _ hmem)
    rw [Qg] at this
    omega
   have h64s:(bG fs).length<=200:=by
    unfold bG
    rw [Qg,oT]
    omega
   have ht1:=sm _ _ (s1 _ _ ht)
   have hd1:=sm _ _ (s1 _ _ hd)
   generalize hk:(bG fs)[i]=k at *
   have hval:bn (bP fs) k=some (.int 1):=by
    rw [qe,if_pos (by rw [List.any_eq_true];exact ⟨k,hmem,Qv rfl⟩)]
   refine dy ?_
   rw [if_pos rfl]
   refine ⟨_,rfl,_,rfl,d,.int 1,rfl,by rw [<- hval];exact cq.t hd1 ht1,(by show 1<=sizeLine;decide),fun q hq=>?_⟩
   have s2:=ap (o:=.tup [.int 1]) hq
   refine ⟨_,rfl,q,t,[.int 1],k.map kV,rfl,rfl,ai.of aj,ai.of (s2 _ _ ht1),by simp,?_,fun z=>absurd (by simpa using z) hnn,fun _ q2 hq2=>?_⟩
   ·rw [Qg]
    exact Nat.le_of_lt (bV (by simp only [List.length_cons,List.length_nil];omega))
   have s3:=ap (o:=.tup ([.int 1]++k.map kV)) hq2
   refine ⟨bV (by omega),(sm.trans s2).trans s3,by omega,?_⟩
   rw [Qp hik,QG,hk]
   refine ⟨by simp [hys.1],fun j y e hy he=>?_⟩
   by_cases hj:j<ys.length
   ·rw [QA hj] at hy
    rw [QA (by rw [Qg,Qr];omega)] at he
    obtain ⟨t',a1,a2⟩:=hys.2 j y e hy he
    exact ⟨t',a1,s3 _ _ (s2 _ _ a2)⟩
   ·rw [Qy (by omega)] at hy
    rw [Qy (by rw [Qg,Qr];omega),Qg,Qr,<- hyl] at he
    have hj2:=(Qe hy).1
    have hj0:j-ys.length=0:=by simpa using hj2
    rw [hj0] at hy he
    have y1:V.ref q2=y:=by simpa using hy
    have e1:(.inl 1::k:List aa)=e:=by simpa using he
    exact ⟨q2,y1.symm,by rw [<- e1];exact aj⟩
  ·rintro ys H1 ⟨sm,hi,hys⟩ q hq
   have s2:=ap (o:=.lst ys) hq
   rw [Qu (by rw [hS.1];exact Qh _)] at hys
   exact kq q ys _ ((s1.trans sm).trans s2) aj ⟨hys.1,fun j x k a b=>by obtain ⟨t,e,h⟩:=hys.2 j x k a b;exact ⟨t,e,s2 _ _ h⟩⟩
end
section
variable {P:Program} {w:World} {K:W.Frag} {mg:Str->Option Value} {base:Heap} {AA:cx} {DD:cy}
noncomputable def qr (H:Hp) (xs:List V):Prop:=∀ x∈xs,∃ (t:Addr) (y:V),x=.ref t/\H t=some (.tup [.int 1,y])
noncomputable def yK:Sp:=fun vs H Q _=>∃ (l:Addr) (xs:List V),vs=[.ref l]/\H l=some (.lst xs)/\qr H xs/\Q (.int (if xs=[] then 0 else 1)) H
noncomputable abbrev yL:List Str:=["pairs","found","mask","value"]
theorem qt:aS yL ["pairs"] (aG lB):=⟨rfl,rfl,rfl,by decide +kernel,rfl,by decide +kernel,by decide +kernel⟩
theorem qu (T:All P w K mg AA DD):az P w K mg base aE 1 AA.ZI DD.ZI ["pairs"] yK:=by
 refine T.F_ZI.ok qt (fun vs H Q E h=>?_) (fun cdv A outer s H vs Q E hr h=>?_)
 ·obtain ⟨l,xs,rfl,_⟩:=h
  rfl
 ·obtain ⟨l,xs,rfl,hl,hP,k⟩:=h
  have nd:=qt.nd
  refine ⟨_,(aH (@bq _ _ 1 _ _ _ _ nd rfl (Or.inl rfl) ah (by rfl) (by first | exact .inl rfl | exact .inr rfl | assumption)) (aH (cG PassesOwn.never rfl (ck (pv 0)) (fh rfl (bH (ba (i:=2) nd rfl (Or.inl rfl)) (bH (ba (i:=3) nd rfl (Or.inl rfl)) dE))) (aq (@bq _ _ 1 _ _ _ _ nd rfl (Or.inl rfl) (aB m4 (pv 1) (pv 2)) (by rfl) (by first | exact .inl rfl | exact .inr rfl | assumption))) (by intro _;rfl)) (aq (aP (pv 1))))),?_⟩
  refine kO ?_
  dsimp only [aT]
  refine eS (fun σ' H'=>H'=H/\∃ s2 s3:Option V,σ'=[some (.ref l),some (.int (if xs=[] then 0 else 1)),s2,s3]) (fun R hRR=>?_) ?_
  ·refine ⟨_,rfl,l,rfl,⟨_,al.of hl⟩,?_⟩
   refine dF (K:=K) (a:=l) (xs:=xs) (fun i σ' H'=>H'=H/\∃ s2 s3:Option V,σ'=[some (.ref l),some (.int (if i=0 then 0 else 1)),s2,s3]) ⟨rfl,none,none,rfl⟩ (fun i σ' H' _ hsl67=>by obtain ⟨e,_⟩:=hsl67;rw [e];exact al.of hl) ?_ ?_
   ·rintro i x σ' H1 hx ⟨rfl,s2,s3,rfl⟩
    obtain ⟨t,y,rfl,ht⟩:=hP x (Qt hx)
    refine ⟨t,_,rfl,ai.of ht,rfl,_,_,rfl,_,_,rfl,rfl,?_⟩
    refine ⟨_,rfl,_,rfl,_,_,rfl,rfl,rfl,some (.int 1),some y,?_⟩
    by_cases h0:i=0
    ·subst h0;rfl
    ·rw [if_neg h0,if_neg (by omega)];rfl
   ·rintro σ' H1 ⟨rfl,s2,s3,rfl⟩
    refine hRR _ _ ⟨rfl,s2,s3,?_⟩
    cases xs<;>rfl
  ·rintro σ' H1 ⟨rfl,s2,s3,rfl⟩
   exact ⟨_,rfl,k⟩
noncomputable def cO (H:Hp) (p:Addr) (ks:List V):Prop:=∃ ts:List Addr,H p=some (.lst (ts.map V.ref))/\ts.length=ks.length/\∀ (i:Nat) (t:Addr) (k:V),ts[i]?=some t->ks[i]?=some k->H t=some (.tup [.int 1,k])
theorem cO.kept {H H':Hp} {p:Addr} {ks:List V} (h:cO H p ks) (s:bE H H'):cO H' p ks:=by obtain ⟨ts,a,b,c⟩:=h;exact ⟨ts,s.2 _ _ a,b,fun i t k x y=>s.1 _ _ (c i t k x y)⟩
theorem cO.p1 {H:Hp} {p:Addr} {ks:List V} (h:cO H p ks):∃ xs,H p=some (.lst xs)/\qr H xs/\(xs=[]↔ks=[]):=by
 obtain ⟨ts,a,b,c⟩:=h
 refine ⟨_,a,fun x hx=>?_,?_⟩
 ·obtain ⟨t,ht,rfl⟩:=QF hx
  obtain ⟨i,hi,e⟩:=List.mem_iff_getElem.mp ht
  exact ⟨t,(ks[i]'(by omega)),rfl,c i t _ (by rw [<- e];exact Qb hi) (Qb (by omega))⟩
 ·rw [List.map_eq_nil_iff,<- List.length_eq_zero_iff,b,List.length_eq_zero_iff]
theorem cO.cat {H:Hp} {p q:Addr} {a b:List V} (ha:cO H p a) (hb:cO H q b):∃ xs ys,H p=some (.lst xs)/\H q=some (.lst ys)/\xs.length=a.length/\ys.length=b.length/\∀ l,H l=none->cO (af H l (.lst (xs++ys))) l (a++b):=by
 obtain ⟨ts,a1,a2,a3⟩:=ha
 obtain ⟨us,b1,b2,b3⟩:=hb
 refine ⟨_,_,a1,b1,by simpa using a2,by simpa using b2,fun l hl=>⟨ts++us,by rw [aj,QG],by simp [a2,b2],fun i t k x y=>?_⟩⟩
 have s:=ap (o:=.lst (ts.map V.ref++us.map V.ref)) hl
 by_cases hi:i<ts.length
 ·rw [QA hi] at x
  rw [QA (by omega)] at y
  exact s _ _ (a3 i t k x y)
 ·rw [Qy (by omega)] at x
  rw [Qy (by omega),<- a2] at y
  exact s _ _ (b3 _ t k x y)
noncomputable def yM:Sp:=fun vs H Q _=>∃ (p:Addr) (ks:List V) (m:Nat),vs=[.ref p,.int ((m:Nat):Int)]/\m<=1/\cO H p ks/\ks.length<=50/\∀ q H',Same H H'->cO H' q (if m=0 then [] else ks)->Q (.ref q) H'
noncomputable abbrev qw:List Str:=["pairs","mask"]
theorem qx:aS qw ["pairs","mask"] (aG jD):=⟨rfl,rfl,rfl,by decide +kernel,rfl,by decide +kernel,by decide +kernel⟩
theorem qy (T:All P w K mg AA DD):az P w K mg base aE 1 AA.Zp DD.Zp ["pairs","mask"] yM:=by
 refine T.F_Zp.ok qx (fun vs H Q E h=>?_) (fun cdv A outer s H vs Q E hr h=>?_)
 ·obtain ⟨p,ks,m,rfl,_⟩:=h
  rfl
 ·obtain ⟨p,ks,m,rfl,hm,⟨ts,hp,htl,hat⟩,hkl,k⟩:=h
  have nd:=qx.nd
  refine ⟨_,(aq (aP (i9 (xs:=["there","value"]) (aG jD) qw ["mask"] [1] rfl (by exact ⟨rfl,rfl,by decide +kernel,by decide +kernel,by decide +kernel,by decide +kernel,by decide +kernel,rfl,by decide +kernel⟩) rfl rfl (ck (pv 0)) (fun _ _ _ _=>(hZ (K:=K) (n:=2) rfl rfl (bH (ba (i:=0) (show (["there","value","mask"]:List Str).Nodup by decide +kernel) rfl (Or.inl rfl)) (bH (ba (i:=1) (show (["there","value","mask"]:List Str).Nodup by decide +kernel) rfl (Or.inl rfl)) dE)))) (fun _ _ _ _=>i4 (aU eA (aB fR (pv 0) (pv 2)) ah (bb _))) (fun _ _ _ _=>(bm (ae (aB fR (pv 0) (pv 2)) (ae (pv 1) ag))))))),?_⟩
  refine ⟨_,rfl,p,rfl,⟨_,al.of hp⟩,?_⟩
  refine kP (K:=K) (a:=p) (xs:=ts.map V.ref) (fun i ys H'=>Same H H'/\i<=50/\∃ us:List Addr,ys=us.map V.ref/\us.length=(if m=0 then [] else ks.take i).length/\∀ (j:Nat) (t:Addr) (q:V),us[j]?=some t->(if m=0 then [] else ks.take i)[j]?=some q->H' t=some (.tup [.int 1,q]))
   ⟨Same.refl _,Qs _,[],rfl,(by split<;>simp),fun j t q h=>by simp at h⟩ (fun i ys H' _ hsl68=>by obtain ⟨e,_⟩:=hsl68;exact al.of (e _ _ hp)) ?_ ?_
  ·rintro i x ys H1 hx ⟨sm,_,us,rfl,hul,hus⟩
   have hi:i<ts.length:=by
    have:=(Qe hx).1
    rw [Qg] at this;exact this
   have hik:i<ks.length:=by omega
   have ex:x=V.ref ts[i]:=by rw [Qk,Qb hi] at hx;exact (Qj hx).symm
   subst ex
   have hT1:=sm _ _ (hat i ts[i] ks[i] (Qb hi) (Qb hik))
   intro os hos
   obtain ⟨a,b,rfl⟩:=jt hos
   refine ⟨ts[i],_,rfl,ai.of hT1,rfl,_,_,rfl,_,_,rfl,rfl,⟨[_,_],rfl,rfl⟩,?_⟩
   refine ⟨_,rfl,_,rfl,_,_,rfl,rfl,rfl,_,rfl,?_⟩
   have hb:Builtin.bitAnd (1:Int) ((m:Nat):Int)=((1 &&& m:Nat):Int):=i5 1 m
   by_cases h0:m=0
   ·subst h0
    refine a8 (by
     show (!decide (V.int (Builtin.bitAnd (1:Int) ((0:Nat):Int))=V.int 0))=false
     rw [hb];rfl) ?_
    exact ⟨sm,by omega,us,rfl,hul,hus⟩
   ·have h1:m=1:=by omega
    subst h1
    refine bt (by
     show (!decide (V.int (Builtin.bitAnd (1:Int) ((1:Nat):Int))=V.int 0))=true
     rw [hb];rfl) ?_
    rw [if_neg h0] at hul hus
    refine ⟨_,rfl,_,rfl,_,_,rfl,rfl,_,rfl,(by show 2<=sizeLine;decide),fun t2 ht2=>?_⟩
    dsimp only
    rw [hb]
    have s5:=ap (o:=.tup [V.int ((1 &&& 1:Nat):Int),ks[i]]) ht2
    rw [Qr] at hul
    refine ⟨by rw [Qg];exact bV (by omega),sm.trans s5,by omega,us++[t2],by simp,by simp;omega,fun j t' q e1 e2=>?_⟩
    rw [if_neg h0,Qp hik] at e2
    by_cases hj:j<us.length
    ·rw [QA hj] at e1
     rw [QA (by rw [Qr];omega)] at e2
     exact s5 _ _ (hus j t' q e1 e2)
    ·have hjl:=(Qe e1).1
     rw [Qw,List.length_singleton] at hjl
     have ej:j=us.length:=by omega
     subst ej
     rw [Qy (Qh _),Nat.sub_self] at e1
     rw [Qy (by rw [Qr];omega),Qr] at e2
     have e0:us.length-min i ks.length=0:=by omega
     rw [e0] at e2
     have q1:t2=t':=by simpa using e1
     have q2:ks[i]=q:=by simpa using e2
     subst q1 q2
     exact aj
  ·rintro ys H1 ⟨sm,_,us,rfl,hul,hus⟩ q hq
   have sq:=ap (o:=.lst (us.map V.ref)) hq
   rw [Qg,htl,List.take_length] at hul hus
   exact k q _ (sm.trans sq) ⟨us,aj,hul,fun i t k' x y=>sq _ _ (hus i t k' x y)⟩
structure bz (H H':Hp):Prop where
 ls:bE H H'
 dk:∀ a kv,H a=some (.dK kv)->H' a=some (.dK kv)
theorem bz.refl (H:Hp):bz H H:=⟨bE.refl _,fun _ _ h=>h⟩
theorem bz.trans {H H1 H2:Hp} (a:bz H H1) (b:bz H1 H2):bz H H2:=⟨a.ls.trans b.ls,fun _ _ h=>b.dk _ _ (a.dk _ _ h)⟩
theorem cY {H H':Hp} (s:Same H H'):bz H H':=⟨s.ls,fun _ _ h=>s _ _ h⟩
structure bC (H:Hp) (C o dx d2:Addr) (F:List (List aa × V)) (fs:List (List aa)):Prop where
 ins:∃ d1,H o=some (.ins C dx [("firsts",.ref d1),("faults",.ref d2)])/\H d1=some (.dT F)/\d1≠d2
 flt:H d2=some (.dT (bP fs))
theorem bC.same {H H':Hp} {C o dx d2:Addr} {F:List (List aa × V)} {fs:List (List aa)} (h:bC H C o dx d2 F fs) (s:Same H H'):bC H' C o dx d2 F fs:=by
 obtain ⟨⟨d1,h1,h3,h4⟩,h2⟩:=h
 exact ⟨⟨d1,s _ _ h1,s _ _ h3,h4⟩,s _ _ h2⟩
theorem bC.fault {H:Hp} {C o dx d2:Addr} {F:List (List aa × V)} {fs fs':List (List aa)} (h:bC H C o dx d2 F fs):bC (af H d2 (.dT (bP fs'))) C o dx d2 F fs'/\bz H (af H d2 (.dT (bP fs'))):=by
 obtain ⟨⟨d1,h1,h3,h4⟩,h2⟩:=h
 refine ⟨⟨⟨d1,?_,?_,h4⟩,aj⟩,⟨iy h2 (fun _ z=>nomatch z) (fun _ z=>nomatch z) (fun _ _ z=>nomatch z),fun a kv e=>by rw [av (fun z=>by rw [z,h2] at e;cases e)];exact e⟩⟩
 ·rw [av (fun z=>by rw [z,h2] at h1;cases h1)];exact h1
 ·rw [av h4];exact h3
end
section
variable {P:Program} {w:World} {K:W.Frag} {mg:Str->Option Value} {base:Heap} {AA:cx} {DD:cy}
noncomputable def _root_.Mm.Tr.hd:Tr->Option (Str × Str)
 | .df _ n _ _ _=>some ("def",n)
 | .kd _ n _=>some ("kind",n)
 | _=>none
noncomputable def a9 (k:Str × Str) (ts:List Tr):Option Tr:=ts.find? fun t=>decide (t.hd=some k)
noncomputable def cP (k:Str × Str):List aa:=[.inr k.1,.inr k.2]
theorem yN {a b:Str × Str} (h:cP a=cP b):a=b:=by
 simp [cP] at h
 exact Prod.ext h.1 h.2
noncomputable def dh (H:Hp) (F:List (List aa × V)) (ts:List Tr):Prop:=∀ k:Str × Str,(bn F (cP k)=none/\a9 k ts=none)∨∃ p v t,bn F (cP k)=some (.ref p)/\cO H p [v]/\bi H true v t/\a9 k ts=some t
theorem dh.kept {H H':Hp} {F:List (List aa × V)} {ts:List Tr} (h:dh H F ts) (s:bE H H'):dh H' F ts:=fun k=>by
 rcases h k with h | ⟨p,v,t,a,b,c,d⟩
 ·exact .inl h
 ·exact .inr ⟨p,v,t,a,b.kept s,c.kept s,d⟩
theorem jS (k:Str × Str) (ts:List Tr) (t:Tr):a9 k (ts++[t])=(a9 k ts).or (if t.hd=some k then some t else none):=by
 unfold a9
 rw [List.find?_append]
 by_cases h:t.hd=some k<;>simp [h]
noncomputable def fF:List Str:=["def","kind"]
theorem jT {H:Hp} {sh:Bool} {vs:List V} {t:Tr} (h:PsAt H sh vs t.parts):(t.kw∉fF/\t.hd=none)∨(t.kw∈fF/\∃ z r,t.hd=some (t.kw,z)/\vs=.str t.kw::.int ((t.row:Nat):Int)::.str z::r):=by
 have g:(t.kw∉fF/\t.hd=none)∨(t.kw∈fF/\∃ z ps,t.hd=some (t.kw,z)/\t.parts=.s t.kw::.i t.row::.s z::ps):=by
  cases t with
  | df r n k ps b=>exact .inr ⟨by simp only [Tr.kw];decide +kernel,n,_,rfl,rfl⟩
  | kd r n ps=>exact .inr ⟨by simp only [Tr.kw];decide +kernel,n,_,rfl,rfl⟩
  | _=>exact .inl ⟨by simp only [Tr.kw];decide +kernel,rfl⟩
 rcases g with g | ⟨g1,z,ps,g2,g3⟩
 ·exact .inl g
 ·rw [g3] at h
  obtain ⟨r,e,h⟩:=d5 h
  obtain ⟨a,r',e',h1,h⟩:=cD h
  exact .inr ⟨g1,z,r',g2,by rw [e,e',gv h1]⟩
noncomputable def yO:Sp:=fun vs H Q _=>∃ (l:Addr) (xs:List V) (ts:List Tr),vs=[.ref l]/\H l=some (.lst xs)/\LAt H true xs ts/\ts.length<=50/\∀ d F H',Same H H'->H' d=some (.dT F)->dh H' F ts->Q (.ref d) H'
noncomputable abbrev yP:List Str:=["tree","found","mask","one","key","rows"]
theorem qz:aS yP ["tree"] (aG lE):=⟨rfl,rfl,rfl,by decide +kernel,rfl,by decide +kernel,by decide +kernel⟩
theorem yQ (T:All P w K mg AA DD):az P w K mg base aE 2 AA.Zr DD.Zr ["tree"] yO:=by
 have GA:=qu (base:=base) T
 have GN:=l7 (base:=base) T
 have GB:=qy (base:=base) T
 refine T.F_Zr.ok qz (fun vs H Q E h=>?_) (fun cdv A outer s H vs Q E hr h=>?_)
 ·obtain ⟨l,xs,ts,rfl,_⟩:=h
  rfl
 ·obtain ⟨l,xs,ts,rfl,hl,hL,h50,kq⟩:=h
  have nd:=qz.nd
  have hr1:aw 1 _:=hr
  have hu:=QH (Nat.add_le_add_left (show 1<=64 by decide) _) hr.units
  refine ⟨_,(aH (@bq _ _ 1 _ _ _ _ nd rfl (Or.inl rfl) (og) (by rfl) (by first | exact .inl rfl | exact .inr rfl | assumption)) (aH (cG PassesOwn.never rfl (ck (pv 0)) (fh rfl (bH (ba (i:=2) nd rfl (Or.inl rfl)) (bH (ba (i:=3) nd rfl (Or.inl rfl)) dE))) (aq (be (aU (il (K:=K) rfl) (aD (aJ (K:=K) rfl) (pv 3) ah (fun _ _=>rfl)) (bm (ae aL (ae aL ag))) rfl) (aH (@bq _ _ 4 _ _ _ _ nd rfl (Or.inl rfl) (bm (ae (aD (aJ (K:=K) rfl) (pv 3) ah (fun _ _=>rfl)) (ae (aD (aJ (K:=K) rfl) (pv 3) ah (fun _ _=>rfl)) ag))) (by rfl) (by first | exact .inl rfl | exact .inr rfl | assumption)) (aH (@bq _ _ 5 _ _ _ _ nd rfl (Or.inl rfl) (hW hu (pv 1) (pv 4) (b5 ag) ⟨by rfl,by rfl,by rfl,by rfl⟩) (by rfl) (by first | exact .inl rfl | exact .inr rfl | assumption)) (aq (n6 hu (pv 1) (pv 4) (aB gW (pv 5) (aN GB hr1 rfl T.m_Zp T.k_Zp T.b_Zp .nil aI (ae (b5 (ae (bm (ae (pv 2) (ae (pv 3) ag))) ag)) (ae (aN GN hr1 rfl T.m_ZE T.k_ZE T.b_ZE .nil aI (ae (pv 2) (ae (aN GA hr1 rfl T.m_ZI T.k_ZI T.b_ZI .nil aI (ae (pv 5) ag)) ag))) ag)))) rfl)))) bx)) (by intro _;rfl)) (aq (aP (pv 1))))),?_⟩
  refine fun d hd=>?_
  have s1:=ap (o:=.dT []) hd
  dsimp only [aT]
  have hxl:=hL.length
  have hdl:∀ {H':Hp} {F},H' d=some (.dT F)->∀ F',bE H' (af H' d (.dT F')):=fun h F'=>iy h (fun _ z=>nomatch z) (fun _ z=>nomatch z) fun _ _ z=>nomatch z
  refine eS (fun σ' H'=>(∃ F,H' d=some (.dT F)/\dh H' F ts)/\(∀ a,a≠d->∀ o,H a=some o->H' a=some o)/\∃ x2 x3 x4 x5,σ'=[some (.ref l),some (.ref d),x2,x3,x4,x5]) (fun R hR=>?_) ?_
  ·refine ⟨_,rfl,l,rfl,⟨_,al.of (s1 _ _ hl)⟩,?_⟩
   refine dF (K:=K) (a:=l) (xs:=xs) (fun i σ' H'=>(∃ F,H' d=some (.dT F)/\dh H' F (ts.take i)/\F.length<=i)/\(∀ a,a≠d->∀ o,H a=some o->H' a=some o)/\∃ x2 x3 x4 x5,σ'=[some (.ref l),some (.ref d),x2,x3,x4,x5]) ⟨⟨[],aj,fun k=>.inl ⟨rfl,rfl⟩,Qh _⟩,fun a ha o h=>by rw [av ha];exact h,_,_,_,_,rfl⟩ (fun i σ' H' _ h=>al.of (h.2.1 _ (fun z=>by rw [z] at hl;rw [hl] at hd;cases hd) _ hl)) ?_ ?_
   ·rintro i x σ' H1 hx ⟨⟨F,hF,hFs,hFl⟩,sm,x2,x3,x4,x5,rfl⟩
    obtain ⟨t,ht,hO⟩:=hL.get hx
    have ls1:bE H H1:=⟨fun b xs h=>sm b (fun z=>by rw [z,hd] at h;cases h) _ h,fun b xs h=>sm b (fun z=>by rw [z,hd] at h;cases h) _ h,fun b o x h=>sm b (fun z=>by rw [z,hd] at h;cases h) _ h⟩
    have hO1:=hO.kept ls1
    obtain ⟨hit,et⟩:=Qe ht
    rw [Qp hit,et]
    cases hO1 with
    | plain e _=>cases e
    | @shared p y _ _ hp hS =>
    have hS0:=hS
    cases hS with
    | @mk t0 vs _ ht0 hps =>
    have hda:=jT hps
    obtain ⟨vr,rfl⟩:=iA hps
    refine ⟨p,_,rfl,ai.of hp,rfl,_,_,rfl,_,_,rfl,rfl,?_⟩
    refine ⟨_,rfl,t0,_,_,_,rfl,rfl,ai.of ht0,aA (j:=0) rfl,(by show 2<=sizeLine;decide),fun pt hpt=>⟨pt,fF.map V.str,rfl,.inr (ai.of aj),rfl,rfl,_,rfl,?_⟩⟩
    have s2:=ap (o:=.tup [V.str "def",V.str "kind"]) hpt
    have ne:∀ {a},H1 a=none->a≠d:=fun h z=>by rw [z,hF] at h;cases h
    rcases hda with ⟨hh,hn⟩ | ⟨hh,z,r,hz,ev⟩
    ·refine a8 (eD (Qi hh)) ?_
     refine ⟨⟨F,s2 _ _ hF,fun k=>?_,by omega⟩,fun a ha o h=>s2 _ _ (sm a ha o h),_,_,_,_,rfl⟩
     rw [jS,hn,if_neg (by simp),Option.or_none]
     exact hFs.kept s2.ls k
    ·refine bt (eD (Qv hh)) ?_
     have ev2:vr=.str z::r:=by injection ev with _ q;injection q
     subst ev2
     have ht2:=s2 _ _ ht0
     have hF2:=s2 _ _ hF
     have hFs2:=hFs.kept s2.ls
     have sm2:∀ a,a≠d->∀ o,H a=some o->af H1 pt (.tup [V.str "def",V.str "kind"]) a=some o:=fun a ha o h=>s2 _ _ (sm a ha o h)
     have hS2:=hS0.kept s2.ls
     generalize af H1 pt (.tup [V.str "def",V.str "kind"])=H2 at ht2 hF2 hFs2 sm2 hS2 ⊢
     refine ⟨_,rfl,t0,_,_,_,rfl,rfl,ai.of ht2,aA (j:=0) rfl,_,rfl,t0,_,_,_,rfl,rfl,ai.of ht2,aA (j:=2) rfl,(by show 2<=sizeLine;decide),fun q hq=>?_⟩
     have s3:=ap (o:=.tup [.str t.kw,.str z]) hq
     dsimp only [aT]
     refine ⟨_,rfl,d,rfl,.inr ⟨F,.inl (s3 _ _ hF2)⟩,_,rfl,(by show 0<=sizeLine;decide),fun q2 hq2=>?_⟩
     have s4:=ap (o:=.lst []) hq2
     have s34:=s3.trans s4
     have hkk:af (af H2 q (.tup [.str t.kw,.str z])) q2 (.lst []) q=some (.tup ((cP (t.kw,z)).map kV)):=s4 _ _ aj
     refine ⟨_,cq.t (k:=cP (t.kw,z)) (s34 _ _ hF2) hkk,?_⟩
     obtain ⟨l3,ks,el3,hl3,hks⟩:∃ l3 ks,(bn F (cP (t.kw,z))).getD (V.ref q2)=.ref l3/\cO (af (af H2 q (.tup [.str t.kw,.str z])) q2 (.lst [])) l3 ks/\((ks=[]/\a9 (t.kw,z) (ts.take i)=none)∨∃ v t',ks=[v]/\bi H2 true v t'/\a9 (t.kw,z) (ts.take i)=some t'):=by
      rcases hFs2 (t.kw,z) with ⟨a,b⟩ | ⟨p',v',t',a,b,c,e⟩
      ·exact ⟨q2,[],by rw [a];rfl,⟨[],aj,rfl,fun i t k x=>by simp at x⟩,.inl ⟨rfl,b⟩⟩
      ·exact ⟨p',[v'],by rw [a];rfl,b.kept s34.ls,.inr ⟨v',t',rfl,c,e⟩⟩
     rw [el3]
     have hF4:=s34 _ _ hF2
     have ht4:=s34 _ _ ht2
     have hS4:=hS2.kept s34.ls
     have hFs4:=hFs2.kept s34.ls
     have sm4:∀ a,a≠d->∀ o,H a=some o->af (af H2 q (.tup [.str t.kw,.str z])) q2 (.lst []) a=some o:=fun a ha o h=>s34 _ _ (sm2 a ha o h)
     have hks4:((ks=[]/\a9 (t.kw,z) (ts.take i)=none)∨∃ v t',ks=[v]/\bi (af (af H2 q (.tup [.str t.kw,.str z])) q2 (.lst [])) true v t'/\a9 (t.kw,z) (ts.take i)=some t'):=hks.imp_right fun hsl69=>by obtain ⟨v,t',a,b,c⟩:=hsl69;exact ⟨v,t',a,b.kept s34.ls,c⟩
     generalize af (af H2 q (.tup [.str t.kw,.str z])) q2 (.lst [])=H4 at hkk hl3 hF4 ht4 hS4 hFs4 sm4 hks4 ⊢
     dsimp only [aT]
     refine ⟨_,rfl,_,rfl,_,rfl,(by show 2<=sizeLine;decide),fun tp htp=>⟨(by show 1<=sizeLine;decide),fun lp hlp=>?_⟩⟩
     have s5:=ap (o:=.tup [.int 1,.ref t0]) htp
     have s6:=ap (o:=.lst [.ref tp]) hlp
     have s56:=s5.trans s6
     have hlp6:cO (af (af H4 tp (.tup [.int 1,.ref t0])) lp (.lst [.ref tp])) lp [.ref t0]:=⟨[tp],aj,rfl,fun i t k x y=>by
      match i with
      | 0=>cases (show some tp=some t from x);cases (show some (V.ref t0)=some k from y);exact s6 _ _ aj
      | i+1=>simp at x⟩
     have hl6:=hl3.kept s56.ls
     have hF6:=s56 _ _ hF4
     have ht6:=s56 _ _ ht4
     have hS6:=hS4.kept s56.ls
     have hFs6:=hFs4.kept s56.ls
     have hkk6:=s56 _ _ hkk
     have sm6:∀ a,a≠d->∀ o,H a=some o->af (af H4 tp (.tup [.int 1,.ref t0])) lp (.lst [.ref tp]) a=some o:=fun a ha o h=>s56 _ _ (sm4 a ha o h)
     have hks6:((ks=[]/\a9 (t.kw,z) (ts.take i)=none)∨∃ v t',ks=[v]/\bi (af (af H4 tp (.tup [.int 1,.ref t0])) lp (.lst [.ref tp])) true v t'/\a9 (t.kw,z) (ts.take i)=some t'):=hks4.imp_right fun hsl70=>by obtain ⟨v,t',a,b,c⟩:=hsl70;exact ⟨v,t',a,b.kept s56.ls,c⟩
     generalize af (af H4 tp (.tup [.int 1,.ref t0])) lp (.lst [.ref tp])=H6 at hlp6 hl6 hF6 ht6 hS6 hFs6 hkk6 sm6 hks6 ⊢
     obtain ⟨ys,hy,hP2,hye⟩:=hl6.p1
     refine ⟨_,rfl,_,rfl,l3,ys,rfl,hy,hP2,?_⟩
     refine ⟨1,(if ys=[] then 0 else 1),?_,?_⟩
     ·split<;>rfl
     generalize hm:(1 ^^^ (1 &&& (if ys=[] then 0 else 1)):Nat)=m
     have hm1:m<=1/\∃ v t',ks++(if m=0 then [] else [V.ref t0])=[v]/\bi H6 true v t'/\a9 (t.kw,z) (ts.take i++[t])=some t':=by
      rw [jS,if_pos hz]
      rcases hks6 with ⟨e1,e2⟩ | ⟨v,t',e1,e2,e3⟩
      ·rw [if_pos (hye.mpr e1)] at hm
       subst hm e1
       exact ⟨by decide,_,t,rfl,hS6,by rw [e2];rfl⟩
      ·rw [if_neg (fun q=>by have:=hye.mp q;rw [e1] at this;cases this)] at hm
       subst hm e1
       exact ⟨by decide,v,t',rfl,e2,by rw [e3];rfl⟩
     obtain ⟨hmle,v,t',ekv,hSv,hfst⟩:=hm1
     refine ⟨lp,[.ref t0],m,rfl,hmle,hlp6,by simp,fun p3 H7 s7 hK7=>?_⟩
     obtain ⟨xs1,ys1,h1,h2,h3,h4,h5⟩:=(hl6.kept s7.ls).cat hK7
     refine ⟨l3,p3,xs1,ys1,rfl,rfl,h1,h2,?_,fun l8 hl8=>?_⟩
     ·have e3:=congrArg List.length ekv
      rw [Qw,<- h3,<- h4] at e3
      rw [e3];show 1<=sizeLine;decide
     have hK8:=h5 l8 hl8
     rw [ekv] at hK8
     have s8:=ap (o:=.lst (xs1++ys1)) hl8
     have s78:=s7.trans s8
     have hF8:=s78 _ _ hF6
     have hFs8:=hFs6.kept s78.ls
     have lsd:=hdl hF8 (bN F (cP (t.kw,z)) (.ref l8))
     refine ⟨_,rfl,_,rfl,d,_,rfl,dX.t hF8 (s78 _ _ hkk6) (bV (by omega)),⟨_,aj,fun k=>?_,?_⟩,fun a ha o h=>by rw [av ha];exact s78 _ _ (sm6 a ha o h),_,_,_,_,rfl⟩
     ·rw [nV]
      by_cases hk:k=(t.kw,z)
      ·subst hk
       rw [if_pos rfl]
       exact .inr ⟨l8,v,t',rfl,hK8.kept lsd,(hSv.kept s78.ls).kept lsd,hfst⟩
      ·rw [if_neg (fun q=>hk (yN q)),jS,if_neg (fun q=>hk (by rw [hz] at q;exact (Qj q).symm)),Option.or_none]
       exact hFs8.kept lsd k
     ·have:=g9 F (cP (t.kw,z)) (V.ref l8);omega
   ·rintro σ' H1 ⟨⟨F,a,b,_⟩,sm,x2,x3,x4,x5,rfl⟩
    rw [Qu (by omega)] at b
    exact hR _ _ ⟨⟨F,a,b⟩,sm,_,_,_,_,rfl⟩
  ·rintro σ' H1 ⟨⟨F,a,b⟩,sm,x2,x3,x4,x5,rfl⟩
   refine ⟨_,rfl,kq d F _ (fun b o h=>sm b (fun z=>by rw [z,hd] at h;cases h) o h) a b⟩
noncomputable def _root_.Mm.Tr.prs:Tr->List (Str × Str)
 | .df _ _ _ ps _=>ps
 | .kd _ _ ps=>ps
 | _=>[]
noncomputable def yR:Sp:=fun vs H Q _=>∃ (v:V) (t:Tr),vs=[v]/\bi H true v t/\t.hd≠none/\∀ x,d0 H x t.prs->Q x H
noncomputable abbrev yS:List Str:=["one"]
theorem qA:aS yS ["one"] (aG lF):=⟨rfl,rfl,rfl,by decide +kernel,rfl,by decide +kernel,by decide +kernel⟩
theorem yT (T:All P w K mg AA DD):az P w K mg base aE 1 AA.Zz DD.Zz ["one"] yR:=by
 refine T.F_Zz.ok qA (fun vs H Q E h=>?_) (fun cdv A outer s H vs Q E hr h=>?_)
 ·obtain ⟨v,t,rfl,_⟩:=h
  rfl
 ·obtain ⟨v,t,rfl,hS,hn,k⟩:=h
  have nd:=qA.nd
  obtain ⟨t0,vs,j,x,ev,ht,h0,hj,hp,hb⟩:∃ t0 vs j x,v=.ref t0/\H t0=some (.tup vs)/\vs[0]?=some (.str t.kw)/\vs[j]?=some x/\d0 H x t.prs/\((t.kw="def"/\j=4)∨(t.kw≠"def"/\j=3)):=by
   cases t with
   | df r n kd ps b=>obtain ⟨t0,vp,_,_,e1,ht,hp,_⟩:=jQ hS;exact ⟨t0,_,4,vp,e1,ht,rfl,rfl,hp,.inl ⟨rfl,rfl⟩⟩
   | kd r n ps=>obtain ⟨t0,vp,e1,ht,hp⟩:=pT hS;exact ⟨t0,_,3,vp,e1,ht,rfl,rfl,hp,.inr ⟨by show ("kind":Str)≠"def";decide,rfl⟩⟩
   | _=>exact absurd rfl hn
  subst ev
  refine ⟨_,(aq (aP (iO (aU cf (aD (aJ (K:=K) rfl) (pv 0) ah (fun _ _=>rfl)) aL (bb _)) (aD (aJ (K:=K) rfl) (pv 0) ah (fun _ _=>rfl)) (aD (aJ (K:=K) rfl) (pv 0) ah (fun _ _=>rfl))))),?_⟩
  refine ⟨_,rfl,t0,_,_,_,rfl,rfl,ai.of ht,aA (j:=0) h0,rfl,_,rfl,?_⟩
  rcases hb with ⟨hw,e⟩ | ⟨hw,e⟩<;>subst e
  ·exact bt (Qv (by rw [hw])) ⟨_,rfl,t0,_,_,_,rfl,rfl,ai.of ht,aA (j:=4) hj,k _ hp⟩
  ·exact a8 (Qi fun z=>hw (by injection z)) ⟨_,rfl,t0,_,_,_,rfl,rfl,ai.of ht,aA (j:=3) hj,k _ hp⟩
end
section
variable {P:Program} {w:World} {K:W.Frag} {mg:Str->Option Value} {base:Heap} {AA:cx} {DD:cy}
noncomputable def k3 (r:Nat) (a z:Str):List aa:=[.inl ((r:Nat):Int),.inr a,.inr z]
theorem yU (fs:List (List aa)) (k:List aa):(de fs k).length<=fs.length+1:=by
 unfold de
 split
 ·omega
 ·simp
theorem yV {fs:List (List aa)} {c k:List aa}:k∈de fs c↔k∈fs∨k=c:=by
 unfold de
 split
 ·rename_i h
  obtain ⟨d,hd,e⟩:=List.any_eq_true.mp h
  have e:=of_decide_eq_true e
  subst e
  exact ⟨.inl,fun q=>q.elim id fun z=>by rw [z];exact hd⟩
 ·simp
theorem yW {fs:List (List aa)} {c:List aa} (h:fs.Nodup):(de fs c).Nodup:=by
 unfold de
 split
 ·exact h
 ·rename_i q
  refine List.nodup_append.mpr ⟨h,by simp,fun a ha b hb e=>q ?_⟩
  have:b=c:=by simpa using hb
  exact List.any_eq_true.mpr ⟨a,ha,Qv (by rw [e,this])⟩
noncomputable def bd (fs ks:List (List aa)):List (List aa):=ks.foldl de fs
theorem d6:∀ (ks fs:List (List aa)),(bd fs ks).length<=fs.length+ks.length
 | [],fs=>Qh _
 | k::ks,fs=>by
  have h1:=d6 ks (de fs k)
  have h2:=yU fs k
  show (bd (de fs k) ks).length<=fs.length+(ks.length+1)
  omega
theorem gx (fs a b:List (List aa)):bd fs (a++b)=bd (bd fs a) b:=List.foldl_append
theorem iB {k:List aa}:∀ {ks fs:List (List aa)},k∈bd fs ks↔k∈fs∨k∈ks
 | [],fs=>by simp [bd]
 | c::ks,fs=>by
  show k∈bd (de fs c) ks↔_
  rw [iB,yV,List.mem_cons,or_assoc]
theorem mh:∀ {ks fs:List (List aa)},fs.Nodup->(bd fs ks).Nodup
 | [],fs,h=>h
 | c::ks,fs,h=>mh (ks:=ks) (yW h)
noncomputable def dC (m:Nat) (k:List aa):List (List aa):=if m=0 then [] else [k]
noncomputable def yX (C:Addr):Sp:=fun vs H Q _=>∃ (o dx d2:Addr) (F:List (List aa × V)) (fs:List (List aa)) (m r:Nat) (a z:Str),vs=[.ref o,.int ((m:Nat):Int),.int ((r:Nat):Int),.str a,.str z]/\bC H C o dx d2 F fs/\fs.length<900/\m<=1 /\
 ∀ H',bz H H'->bC H' C o dx d2 F (bd fs (dC m (k3 r a z)))->Q .non H'
noncomputable abbrev yY:List Str:=["self","mask","at","what","name"]
theorem qB:aS yY ["self","mask","at","what","name"] (aG lR):=⟨rfl,rfl,rfl,by decide +kernel,rfl,by decide +kernel,by decide +kernel⟩
theorem mi (T:All P w K mg AA DD):az P w K mg base aE 2 AA.Zj DD.Zj ["self","mask","at","what","name"] (yX AA.c_NameLook):=by
 have GD:=qh (base:=base) T
 refine T.F_Zj.ok qB (fun vs H Q E h=>?_) (fun cdv A outer s H vs Q E hr h=>?_)
 ·obtain ⟨o,dx,d2,F,fs,m,r,a,z,rfl,_⟩:=h
  rfl
 ·obtain ⟨o,dx,d2,F,fs,m,r,a,z,rfl,hk,hf,hm,k⟩:=h
  have nd:=qB.nd
  have hr1:aw 1 _:=hr
  refine ⟨_,(aq (bL (aN GD hr1 rfl T.m_ZJ T.k_ZJ T.b_ZJ .nil aI (ae (iW (pv 0) rfl) (ae (bm (ae (pv 2) (ae (pv 3) (ae (pv 4) ag)))) (ae (pv 1) ag)))) (by rfl))),?_⟩
  obtain ⟨d1,hi,_⟩:=hk.ins
  refine ⟨_,rfl,o,AA.c_NameLook,dx,_,_,rfl,hi,T.cl_NameLook,T.na_NameLook_faults,rfl,?_⟩
  refine ⟨_,rfl,_,rfl,_,rfl,(by show 3<=sizeLine;decide),fun t ht=>?_⟩
  have s1:=ap (o:=.tup [.int ((r:Nat):Int),.str a,.str z]) ht
  have hk1:=hk.same s1
  have e1:af H t (.tup [.int ((r:Nat):Int),.str a,.str z]) t=some (.tup ((k3 r a z).map kV)):=aj
  generalize af H t (.tup [.int ((r:Nat):Int),.str a,.str z])=H1 at s1 hk1 e1 ⊢
  refine ⟨_,rfl,d2,.ref t,m,rfl,.inr ⟨_,.inl hk1.flt⟩,?_⟩
  by_cases h0:m=0
  ·subst h0
   exact .inl ⟨rfl,k _ (cY s1) hk1⟩
  ·have h1:m=1:=by omega
   subst h1
   obtain ⟨a1,b1⟩:=hk1.fault (fs':=de fs (k3 r a z))
   refine .inr ⟨rfl,_,_,cq.t hk1.flt e1,?_,dX.t hk1.flt e1 ?_,?_⟩
   ·rw [qe]
    split
    ·exact .inr rfl
    ·exact .inl rfl
   ·unfold bP
    rw [Qg]
    exact bV (by omega)
   ·rw [yr]
    exact k _ ((cY s1).trans b1) a1
noncomputable def di (k:Str × Str) (tt:List Tr):Nat:=if (a9 k tt).isSome then 1 else 0
theorem qC {H:Hp} {F:List (List aa × V)} {tt:List Tr} (hF:dh H F tt) {a z:Str} {q q2:Addr} (hq:H q=none) (hq2:af H q (.tup [.str a,.str z]) q2=none):∃ l3 ks,(bn F (cP (a,z))).getD (V.ref q2)=.ref l3/\cO (af (af H q (.tup [.str a,.str z])) q2 (.lst [])) l3 ks/\((ks=[]/\a9 (a,z) tt=none)∨∃ y t',ks=[y]/\bi H true y t'/\a9 (a,z) tt=some t'):=by
 have s12:=(ap (o:=.tup [.str a,.str z]) hq).trans (ap (o:=.lst []) hq2)
 rcases hF (a,z) with ⟨a,b⟩ | ⟨p',v',t',a,b,c,e⟩
 ·exact ⟨q2,[],by rw [a];rfl,⟨[],aj,rfl,fun i t k x=>by simp at x⟩,.inl ⟨rfl,b⟩⟩
 ·exact ⟨p',[v'],by rw [a];rfl,b.kept s12.ls,.inr ⟨v',t',rfl,c,e⟩⟩
noncomputable def yZ (C:Addr):Sp:=fun vs H Q _=>∃ (o dx d2:Addr) (F:List (List aa × V)) (fs:List (List aa)) (tt:List Tr) (a z:Str),vs=[.ref o,.str a,.str z]/\bC H C o dx d2 F fs/\dh H F tt/\∀ H',Same H H'->Q (.int ((di (a,z) tt:Nat):Int)) H'
noncomputable abbrev y0:List Str:=["self","word","name"]
theorem qD:aS y0 ["self","word","name"] (aG lW):=⟨rfl,rfl,rfl,by decide +kernel,rfl,by decide +kernel,by decide +kernel⟩
theorem qE (T:All P w K mg AA DD):az P w K mg base aE 2 AA.Zk DD.Zk ["self","word","name"] (yZ AA.c_NameLook):=by
 have GA:=qu (base:=base) T
 refine T.F_Zk.ok qD (fun vs H Q E h=>?_) (fun cdv A outer s H vs Q E hr h=>?_)
 ·obtain ⟨o,dx,d2,F,fs,tt,a,z,rfl,_⟩:=h
  rfl
 ·obtain ⟨o,dx,d2,F,fs,tt,a,z,rfl,hk,hF,k⟩:=h
  have nd:=qD.nd
  have hr1:aw 1 _:=hr
  have hu:=QH (Nat.add_le_add_left (show 1<=64 by decide) _) hr.units
  refine ⟨_,(aq (aP (aN GA hr1 rfl T.m_ZI T.k_ZI T.b_ZI .nil aI (ae (hW hu (iW (pv 0) rfl) (bm (ae (pv 1) (ae (pv 2) ag))) (b5 ag) ⟨by rfl,by rfl,by rfl,by rfl⟩) ag)))),?_⟩
  obtain ⟨d1,hi,hd1,hne⟩:=hk.ins
  refine ⟨_,rfl,o,AA.c_NameLook,dx,_,_,rfl,hi,T.cl_NameLook,T.na_NameLook_firsts,rfl,d1,rfl,.inr ⟨F,.inl hd1⟩,?_⟩
  refine ⟨_,rfl,_,rfl,(by show 2<=sizeLine;decide),fun q hq=>⟨(by show 0<=sizeLine;decide),fun q2 hq2=>?_⟩⟩
  have s1:=ap (o:=.tup [.str a,.str z]) hq
  have s2:=ap (o:=.lst []) hq2
  have s12:=s1.trans s2
  have hkk:af (af H q (.tup [.str a,.str z])) q2 (.lst []) q=some (.tup ((cP (a,z)).map kV)):=s2 _ _ aj
  refine ⟨_,cq.t (k:=cP (a,z)) (s12 _ _ hd1) hkk,?_⟩
  obtain ⟨l3,ks,el3,hl3,hks⟩:=qC hF hq hq2
  rw [el3]
  obtain ⟨ys,hy,hP2,hye⟩:=hl3.p1
  refine ⟨l3,ys,rfl,hy,hP2,?_⟩
  have e:(if ys=[] then (0:Int) else 1)=((di (a,z) tt:Nat):Int):=by
   unfold di
   rcases hks with ⟨e1,e2⟩ | ⟨y,t',e1,_,e2⟩
   ·rw [if_pos (hye.mpr e1),e2];rfl
   ·rw [if_neg (fun q=>by have:=hye.mp q;rw [e1] at this;cases this),e2];rfl
  rw [e]
  exact k _ s12
noncomputable def b9 (tt:List Tr) (r:Nat) (a miss z:Str) (n:Nat):List (List aa):=match a9 (a,z) tt with
 | none=>[k3 r miss z]
 | some t=>if t.prs.length=n then [] else [k3 r "count" z]
theorem qF (tt:List Tr) (r:Nat) (a miss z:Str) (n:Nat):(b9 tt r a miss z n).length<=1:=by
 unfold b9
 split
 ·simp
 ·split<;>simp
noncomputable def y2 (C:Addr):Sp:=fun vs H Q _=>∃ (o dx d2:Addr) (F:List (List aa × V)) (fs:List (List aa)) (tt:List Tr) (v:V) (w z:Str) (es:List Ex) (r:Nat) (a miss:Str),vs=[.ref o,.int 1,v,.int ((r:Nat):Int),.str a,.str miss]/\aW H v (.many w z es)/\bC H C o dx d2 F fs/\dh H F tt/\fs.length<800 /\
 ∀ H',bz H H'->bC H' C o dx d2 F (bd fs (b9 tt r a miss z es.length))->Q .non H'
theorem qG (k:Str × Str) (tt:List Tr):(1 ^^^ (1 &&& di k tt):Nat)<=1/\((1 ^^^ (1 &&& di k tt):Nat)=0↔a9 k tt≠none):=by
 unfold di
 cases a9 k tt<;>simp
noncomputable abbrev y3:List Str:=["self","mask","e","at","word","missing","name","here","one"]
theorem qH:aS y3 ["self","mask","e","at","word","missing"] (aG lV):=⟨rfl,rfl,rfl,by decide +kernel,rfl,by decide +kernel,by decide +kernel⟩
theorem y4 (T:All P w K mg AA DD):az P w K mg base aE 3 AA.Ze DD.Ze ["self","mask","e","at","word","missing"] (y2 AA.c_NameLook):=by
 have GO:=mi (base:=base) T
 have GN:=l7 (base:=base) T
 have GHD:=qE (base:=base) T
 have GB:=qy (base:=base) T
 have GPO:=yT (base:=base) T
 refine T.F_Ze.ok qH (fun vs H Q E h=>?_) (fun cdv A outer s H vs Q E hr h=>?_)
 ·obtain ⟨o,dx,d2,F,fs,tt,v,w,z,es,r,a,miss,rfl,_⟩:=h
  rfl
 ·obtain ⟨o,dx,d2,F,fs,tt,v,w,z,es,r,a,miss,rfl,hE,hk,hF,hf,kq⟩:=h
  have nd:=qH.nd
  have hr2:aw 2 _:=hr
  have hr1:aw 1 _:=hr2.mono (by omega)
  have hu:=QH (Nat.add_le_add_left (show 1<=64 by decide) _) hr.units
  refine ⟨_,(aH (@bq _ _ 6 _ _ _ _ nd rfl (Or.inl rfl) (aD (aJ (K:=K) rfl) (pv 2) ah (fun _ _=>rfl)) (by rfl) (by first | exact .inl rfl | exact .inr rfl | assumption)) (aH (bL (cH (pv 0) T.cl_NameLook T.M_Zj GO hr2 T.b_Zj .nil aI (ae (aN GN hr1 rfl T.m_ZE T.k_ZE T.b_ZE .nil aI (ae (pv 1) (ae (cH (pv 0) T.cl_NameLook T.M_Zk GHD hr2 T.b_Zk .nil aI (ae (pv 4) (ae (pv 6) ag))) ag))) (ae (pv 3) (ae (pv 5) (ae (pv 6) ag))))) (by rfl)) (aq (cG PassesOwn.never rfl (ck (aN GB hr1 rfl T.m_Zp T.k_Zp T.b_Zp .nil aI (ae (hW hu (iW (pv 0) rfl) (bm (ae (pv 4) (ae (pv 6) ag))) (b5 ag) ⟨by rfl,by rfl,by rfl,by rfl⟩) (ae (pv 1) ag)))) (fh rfl (bH (ba (i:=7) nd rfl (Or.inl rfl)) (bH (ba (i:=8) nd rfl (Or.inl rfl)) dE))) (aq (be (aU eA (c6 gR rfl T.n_len fZ (ae (aN GPO hr1 rfl T.m_Zz T.k_Zz T.b_Zz .nil aI (ae (pv 8) ag)) ag)) (c6 gR rfl T.n_len fZ (ae (aD (aJ (K:=K) rfl) (pv 2) ah (fun _ _=>rfl)) ag)) (bb _)) (aq (bL (cH (pv 0) T.cl_NameLook T.M_Zj GO hr2 T.b_Zj .nil aI (ae (pv 7) (ae (pv 3) (ae aL (ae (pv 6) ag))))) (by rfl))) bx)) (by intro _;rfl))))),?_⟩
  cases hE with
  | @many t l _ _ vs _ ht hl hvs =>
  obtain ⟨d1,hi,hd1,hne⟩:=hk.ins
  refine ⟨_,rfl,t,_,_,_,rfl,rfl,ai.of ht,aA (j:=1) rfl,?_⟩
  dsimp only [aT]
  refine ⟨_,rfl,o,dx,_,rfl,hi,rfl,_,rfl,_,rfl,o,dx,_,rfl,hi,rfl,_,rfl,_,rfl,?_⟩
  refine ⟨o,dx,d2,F,fs,tt,a,z,rfl,hk,hF,fun H1 s1=>?_⟩
  refine ⟨1,di (a,z) tt,rfl,?_⟩
  obtain ⟨w1,w2⟩:=qG (a,z) tt
  generalize hm:(1 ^^^ (1 &&& di (a,z) tt):Nat)=m at w1 w2
  refine ⟨_,rfl,_,rfl,_,rfl,o,dx,d2,F,fs,m,r,miss,z,rfl,hk.same s1,by omega,w1,fun H2 l2 hk2=>?_⟩
  have l02:=(cY s1).trans l2
  have hF2:=hF.kept l02.ls
  have ht2:=l02.ls.1 _ _ ht
  have hl2:=l02.ls.1 _ _ hl
  obtain ⟨d1',hi2,hd2,hne2⟩:=hk2.ins
  dsimp only [aT]
  refine ⟨_,rfl,o,AA.c_NameLook,dx,_,_,rfl,hi2,T.cl_NameLook,T.na_NameLook_firsts,rfl,d1',rfl,.inr ⟨F,.inl hd2⟩,?_⟩
  refine ⟨_,rfl,_,rfl,(by show 2<=sizeLine;decide),fun q hq=>⟨(by show 0<=sizeLine;decide),fun q2 hq2=>?_⟩⟩
  have s3:=ap (o:=.tup [.str a,.str z]) hq
  have s4:=ap (o:=.lst []) hq2
  have s34:=s3.trans s4
  have hkk:af (af H2 q (.tup [.str a,.str z])) q2 (.lst []) q=some (.tup ((cP (a,z)).map kV)):=s4 _ _ aj
  refine ⟨_,cq.t (k:=cP (a,z)) (s34 _ _ hd2) hkk,_,rfl,?_⟩
  obtain ⟨l3,ks,el3,hl3,hks⟩:=qC hF2 hq hq2
  rw [el3]
  refine ⟨l3,ks,1,rfl,Qh _,hl3,?_,fun p H3 s5 hp3=>?_⟩
  ·rcases hks with ⟨e,_⟩ | ⟨y,t',e,_⟩<;>rw [e]<;>simp
  rw [if_neg (by decide)] at hp3
  have s6:=s34.trans s5
  have hk3:=hk2.same s6
  have ht3:=s6 _ _ ht2
  have hl3':=s6 _ _ hl2
  have hks3:((ks=[]/\a9 (a,z) tt=none)∨∃ y t',ks=[y]/\bi H3 true y t'/\a9 (a,z) tt=some t'):=hks.imp_right fun hsl71=>by obtain ⟨y,t',a,b,c⟩:=hsl71;exact ⟨y,t',a,b.kept s6.ls,c⟩
  have l03:=l02.trans (cY s6)
  obtain ⟨us,hp,hul,hat⟩:=id hp3
  refine ⟨p,rfl,⟨_,al.of hp⟩,?_⟩
  have hvl:=hvs.len
  refine dF (K:=K) (a:=p) (xs:=us.map V.ref) (fun i σ' H'=>bz H3 H'/\bC H' AA.c_NameLook o dx d2 F (if i<us.length then bd fs (dC m (k3 r miss z)) else bd fs (b9 tt r a miss z es.length))/\∃ x7 x8,σ'=[some (.ref o),some (.int 1),some (.ref t),some (.int ((r:Nat):Int)),some (.str a),some (.str miss),some (.str z),x7,x8]) ⟨bz.refl _,?_,_,_,rfl⟩ (fun i σ' H' _ hsl72=>by obtain ⟨e,_⟩:=hsl72;exact al.of (e.ls.2 _ _ hp)) ?_ ?_
  ·rcases hks3 with ⟨e,hfst⟩ | ⟨y,t',e,hSy,hfst⟩
   ·rw [e] at hul
    have hm0:m≠0:=fun q=>(w2.mp q) hfst
    rw [if_neg (by rw [hul];simp)]
    have:b9 tt r a miss z es.length=dC m (k3 r miss z):=by unfold b9 dC;rw [hfst,if_neg hm0]
    rw [this];exact hk3
   ·rw [e] at hul
    rw [if_pos (by rw [hul];simp)]
    exact hk3
  ·rintro i x σ' H4 hx ⟨l4,hk4,x7,x8,rfl⟩
   have hi':i<us.length:=by
    have:=(Qe hx).1
    rw [Qg] at this;exact this
   rcases hks3 with ⟨e,_⟩ | ⟨y,t',e,hSy,hfst⟩
   ·rw [e] at hul;simp at hul;subst hul;simp at hi'
   rw [e] at hul hat
   have hi0:i=0:=by simp at hul;omega
   have hu1:us.length=1:=by simpa using hul
   subst hi0
   rw [if_pos hi'] at hk4
   rw [if_neg (by omega)]
   have hm0:m=0:=w2.mpr (by rw [hfst];exact fun z=>nomatch z)
   have eo:dC m (k3 r miss z)=[]:=by unfold dC;rw [if_pos hm0]
   rw [eo] at hk4
   have ex:x=V.ref us[0]:=by rw [Qk,Qb hi'] at hx;exact (Qj hx).symm
   subst ex
   have hu0:=l4.ls.1 _ _ (hat 0 us[0] y (Qb hi') rfl)
   refine ⟨us[0],_,rfl,ai.of hu0,rfl,_,_,rfl,_,_,rfl,rfl,?_⟩
   have hhd:t'.hd≠none:=fun q=>by
    have:=List.find?_some hfst
    rw [of_decide_eq_true this] at q;cases q
   refine ⟨_,rfl,y,t',rfl,hSy.kept l4.ls,hhd,fun xp hxp=>?_⟩
   obtain ⟨tpp,uu,rfl,htpp,huul,huat⟩:=hxp
   have eu:b9 tt r a miss z es.length=if t'.prs.length=es.length then [] else [k3 r "count" z]:=by unfold b9;rw [hfst]
   rw [eu]
   refine ⟨tpp,_,rfl,.inr (ai.of htpp),_,rfl,t,_,_,_,rfl,rfl,ai.of (l4.ls.1 _ _ ht3),aA (j:=2) rfl,l,_,rfl,.inr (ai.of (l4.ls.1 _ _ hl3')),rfl,_,rfl,?_⟩
   rw [Qg,huul,hvl]
   by_cases hq:t'.prs.length=es.length
   ·rw [if_pos hq]
    refine a8 (by rw [hq,Qv rfl];rfl) ?_
    exact ⟨l4,hk4,_,_,rfl⟩
   ·rw [if_neg hq]
    refine bt (by rw [Qi (fun q=>hq (by injection q with q;omega))];rfl) ?_
    obtain ⟨d1'',hi4,_⟩:=hk4.ins
    refine ⟨_,rfl,o,dx,_,rfl,hi4,rfl,_,rfl,_,rfl,_,rfl,o,dx,d2,F,bd fs [],1,r,"count",z,rfl,hk4,by show fs.length<900;omega,Qh _,fun H5 l5 hk5=>⟨l4.trans l5,hk5,_,_,rfl⟩⟩
  ·rintro σ' H4 ⟨l4,hk4,x7,x8,rfl⟩
   rw [if_neg (by rw [Qg];omega)] at hk4
   exact kq _ (l03.trans l4) hk4
mutual
noncomputable def a0 (tt:List Tr) (r:Nat):Ex->List (List aa)
 | .many w z es=>b9 tt r (if w="do" then "def" else "kind") (if w="do" then "nofunc" else "nokind") z es.length++exKs tt r es
 | .num _=>[]
 | .truth _=>[]
 | .name _=>[]
 | .not _=>[]
 | .op _ _ _=>[]
 | .of _ _=>[]
noncomputable def exKs (tt:List Tr) (r:Nat):List Ex->List (List aa)
 | []=>[]
 | e::es=>a0 tt r e++exKs tt r es
end
theorem qI {tt:List Tr} {r:Nat}:∀ {es:List Ex} {i:Nat} {e:Ex},es[i]?=some e->exKs tt r (es.take (i+1))=exKs tt r (es.take i)++a0 tt r e/\(exKs tt r (es.take i)).length+(a0 tt r e).length<=(exKs tt r es).length
 | x::es,0,e,h=>by
  cases (show some x=some e from h)
  simp [exKs]
 | x::es,i+1,e,h=>by
  obtain ⟨a,b⟩:=qI (tt:=tt) (r:=r) (es:=es) (i:=i) h
  simp [exKs,a]
  omega
theorem y6 {e:Ex} (hg:e.cal):∀ x∈e.args,x.cal/\x.deep+1<=e.deep:=by
 cases e with
 | many w z es =>
  intro x h
  have h:x∈es:=h
  exact ⟨jR hg.2.2 h,by have:=lf h;simp [Ex.deep];omega⟩
 | _=>intro x h;simp [Ex.args] at h
noncomputable def iC (C:Addr) (k:Nat):Sp:=fun vs H Q _=>∃ (o dx d2:Addr) (F:List (List aa × V)) (tt:List Tr) (fs:List (List aa)) (v vg:V) (e:Ex) (r:Nat),vs=[.ref o,.int 1,v,.int ((r:Nat):Int),vg]/\aW H v e/\e.cal/\e.deep<k /\
 bC H C o dx d2 F fs/\dh H F tt/\fs.length+(a0 tt r e).length<800/\∀ H',bz H H'->bC H' C o dx d2 F (bd fs (a0 tt r e))->Q .non H'
noncomputable abbrev y7:List Str:=["self","mask","e","at","given","inner"]
theorem mj:aS y7 ["self","mask","e","at","given"] (aG lU):=⟨rfl,rfl,rfl,by decide +kernel,rfl,by decide +kernel,by decide +kernel⟩
theorem y9 (T:All P w K mg AA DD) (k:Nat) (GE:az P w K mg base aE (k+4) AA.Zc DD.Zc ["self","mask","e","at","given"] (iC AA.c_NameLook k)) :
  az P w K mg base aE (k+1+4) AA.Zc DD.Zc ["self","mask","e","at","given"] (iC AA.c_NameLook (k+1)):=by
 have GU:=y4 (base:=base) T
 have GI:=yA (base:=base) T
 refine T.F_Zc.ok mj (fun vs H Q E h=>?_) (fun cdv A outer s H vs Q E hr h=>?_)
 ·obtain ⟨o,dx,d2,F,tt,fs,v,vg,e,r,rfl,_⟩:=h
  rfl
 ·obtain ⟨o,dx,d2,F,tt,fs,v,vg,e,r,rfl,hE,hp,hd,hk,hF,hf,kq⟩:=h
  have nd:=mj.nd
  have hrE:aw (k+4) _:=hr
  have hr3:aw 3 _:=hrE.mono (by omega)
  have hr1:aw 1 _:=hrE.mono (by omega)
  refine ⟨_,(aH (be (aU cf (aD (aJ (K:=K) rfl) (pv 2) ah (fun _ _=>rfl)) aL (bb _)) (aq (bL (jp) (by rfl))) (aq (be (aU cf (aD (aJ (K:=K) rfl) (pv 2) ah (fun _ _=>rfl)) aL (bb _)) (aq (bL (cH (pv 0) T.cl_NameLook T.M_Ze GU hr3 T.b_Ze .nil aI (ae (pv 1) (ae (pv 2) (ae (pv 3) (ae aL (ae aL ag)))))) (by rfl))) (aq (be (aU cf (aD (aJ (K:=K) rfl) (pv 2) ah (fun _ _=>rfl)) aL (bb _)) (aq (bL (cH (pv 0) T.cl_NameLook T.M_Ze GU hr3 T.b_Ze .nil aI (ae (pv 1) (ae (pv 2) (ae (pv 3) (ae aL (ae aL ag)))))) (by rfl))) bx))))) (aq (cG PassesOwn.never rfl (eG (aN GI hr1 rfl T.m_ZA T.k_ZA T.b_ZA .nil aI (ae (pv 2) ag))) (ba (i:=5) nd rfl (Or.inl rfl)) (aq (bL (cH (pv 0) T.cl_NameLook T.M_Zc GE hrE T.b_Zc .nil aI (ae (pv 1) (ae (pv 5) (ae (pv 3) (ae (pv 4) ag))))) (by rfl))) (by intro _;rfl)))),?_⟩
  refine fz (fun σ' H'=>σ'=[some (.ref o),some (.int 1),some v,some (.int ((r:Nat):Int)),some vg,none]/\bz H H'/\∃ gs,bC H' AA.c_NameLook o dx d2 F (bd fs gs)/\a0 tt r e=gs++exKs tt r e.args) (fun R hR=>?_) ?_
  ·obtain ⟨d1,hi,_⟩:=hk.ins
   have hE0:=hE
   cases hE with
   | @num t n ht =>
    refine ⟨_,rfl,t,_,_,_,rfl,rfl,ai.of ht,aA (j:=0) rfl,rfl,_,rfl,?_⟩
    refine a8 (Qi fun q=>by injection q with q;exact absurd q (by decide)) ?_
    refine ⟨_,rfl,t,_,_,_,rfl,rfl,ai.of ht,aA (j:=0) rfl,rfl,_,rfl,?_⟩
    refine a8 (Qi fun q=>by injection q with q;exact absurd q (by decide)) ?_
    refine ⟨_,rfl,t,_,_,_,rfl,rfl,ai.of ht,aA (j:=0) rfl,rfl,_,rfl,?_⟩
    refine a8 (Qi fun q=>by injection q with q;exact absurd q (by decide)) ?_
    exact hR _ _ ⟨rfl,bz.refl _,[],hk,by simp [a0,exKs,Ex.args]⟩
   | @many t l w z vs es ht hl hvs =>
    have hl0:fs.length<800:=by omega
    refine ⟨_,rfl,t,_,_,_,rfl,rfl,ai.of ht,aA (j:=0) rfl,rfl,_,rfl,?_⟩
    refine a8 (Qi fun q=>(md w hp.1).2.2.1 (by injection q)) ?_
    refine ⟨_,rfl,t,_,_,_,rfl,rfl,ai.of ht,aA (j:=0) rfl,rfl,_,rfl,?_⟩
    rcases hp.1 with rfl | rfl
    ·refine bt (Qv rfl) ?_
     refine ⟨_,rfl,o,dx,_,rfl,hi,rfl,_,rfl,_,rfl,_,rfl,o,dx,d2,F,fs,tt,.ref t,_,z,es,r,_,_,rfl,hE0,hk,hF,hl0,fun H1 l1 hk1=>hR _ _ ⟨rfl,l1,_,hk1,?_⟩⟩
     rw [a0,if_pos rfl,if_pos rfl];rfl
    ·refine a8 (Qi fun q=>by injection q with q;exact absurd q (by decide)) ?_
     refine ⟨_,rfl,t,_,_,_,rfl,rfl,ai.of ht,aA (j:=0) rfl,rfl,_,rfl,?_⟩
     refine bt (Qv rfl) ?_
     refine ⟨_,rfl,o,dx,_,rfl,hi,rfl,_,rfl,_,rfl,_,rfl,o,dx,d2,F,fs,tt,.ref t,_,z,es,r,_,_,rfl,hE0,hk,hF,hl0,fun H1 l1 hk1=>hR _ _ ⟨rfl,l1,_,hk1,?_⟩⟩
     rw [a0,if_neg (by decide),if_neg (by decide)];rfl
   | _=>exact hp.elim
  ·rintro σ' H1 ⟨rfl,ls1,gs,hk1,hgs⟩
   have hE1:=hE.kept ls1.ls.1
   rw [hgs] at hf kq
   rw [Qw] at hf
   refine ⟨_,rfl,v,e,rfl,hE1,hp,fun t ys H2 s2 ht hys=>⟨t,rfl,⟨_,ai.of ht⟩,?_⟩⟩
   have hkl:=hys.len
   have hk2:=hk1.same s2
   have ls2:=ls1.trans (cY s2)
   have hgl:=d6 gs fs
   refine mY (K:=K) (a:=t) (xs:=ys) (fun i σ' H'=>bz H H'/\bz H2 H'/\(∃ x5,σ'=[some (.ref o),some (.int 1),some v,some (.int ((r:Nat):Int)),some vg,x5])/\bC H' AA.c_NameLook o dx d2 F (bd (bd fs gs) (exKs tt r (e.args.take i)))) ⟨ls2,bz.refl _,⟨_,rfl⟩,hk2⟩ (fun i σ' H' _ h=>ai.of (h.2.1.ls.1 _ _ ht)) ?_ ?_
   ·rintro i x σ' H3 hx ⟨l3,l23,⟨x5,rfl⟩,hk3⟩
    obtain ⟨c,hc,hcx⟩:=hys.get hx
    have hcm:=y6 hp c (Qt hc)
    obtain ⟨d1,hi3,_⟩:=hk3.ins
    obtain ⟨ek,hle⟩:=qI (tt:=tt) (r:=r) hc
    have hal:=d6 (exKs tt r (e.args.take i)) (bd fs gs)
    refine ⟨_,rfl,o,dx,_,rfl,hi3,rfl,_,rfl,_,rfl,_,rfl,_,rfl,o,dx,d2,F,tt,_,x,vg,c,r,rfl,hcx.kept l23.ls.1,hcm.1,by omega,hk3,hF.kept l3.ls,by omega,fun H' ls hk'=>?_⟩
    refine ⟨l3.trans ls,l23.trans ls,⟨_,rfl⟩,?_⟩
    rw [ek,gx]
    exact hk'
   ·rintro σ' H3 ⟨l3,l23,⟨x5,rfl⟩,hk3⟩
    rw [Qu (by omega),<- gx] at hk3
    exact kq _ l3 hk3
theorem za (T:All P w K mg AA DD):az P w K mg base aE 4 AA.Zc DD.Zc ["self","mask","e","at","given"] (iC AA.c_NameLook 0):=by
 have no:∀ vs H Q E,¬ iC AA.c_NameLook 0 vs H Q E:=fun vs H Q E h=>by
  obtain ⟨o,dx,d2,F,tt,fs,v,vg,e,r,_,_,_,z,_⟩:=h
  omega
 exact T.F_Zc.ok mj (fun vs H Q E h=>(no _ _ _ _ h).elim) (fun cdv A outer s H vs Q E hr h=>(no _ _ _ _ h).elim)
theorem qJ (T:All P w K mg AA DD):∀ k:Nat,az P w K mg base aE (k+4) AA.Zc DD.Zc ["self","mask","e","at","given"] (iC AA.c_NameLook k)
 | 0=>za T
 | k+1=>y9 T k (qJ T k)
end
section
variable {P:Program} {w:World} {K:W.Frag} {mg:Str->Option Value} {base:Heap} {AA:cx} {DD:cy}
noncomputable def dj (t:Tr):List Str:=match t.hd with
 | none=>[]
 | some q=>[q.2]
noncomputable def aO (ts:List Tr):List Str:=ts.flatMap dj
noncomputable def bW (ab:List Str) (t:Tr):List (List aa):=match t.hd with
 | none=>[]
 | some q=>if q.2∈ab then [k3 t.row "twice" q.2] else []
noncomputable def ci (ts:List Tr):Nat->List (List aa)
 | 0=>[]
 | i+1=>ci ts i++(match ts[i]? with
  | some t=>bW (aO (ts.take i)) t
  | none=>[])
theorem qK (ab:List Str) (t:Tr):(bW ab t).length<=1:=by
 unfold bW
 split
 ·simp
 ·split<;>simp
theorem jU (ts:List Tr):∀ n,(ci ts n).length<=n
 | 0=>Qh _
 | i+1=>by
  have h:=jU ts i
  show (ci ts i++_).length<=_
  rw [Qw]
  cases ts[i]? with
  | none=>show _+0<=_;omega
  | some t=>have:=qK (aO (ts.take i)) t;dsimp only;omega
theorem qL {ts:List Tr} {i:Nat} {t:Tr} (h:ts[i]?=some t):ci ts (i+1)=ci ts i++bW (aO (ts.take i)) t/\aO (ts.take (i+1))=aO (ts.take i)++dj t:=by
 refine ⟨by show ci ts i++_=_;rw [h],?_⟩
 obtain ⟨hi,e⟩:=Qe h
 rw [Qp hi,e]
 unfold aO
 simp
theorem zb (m:Nat) (h:m<=1):(1 &&& m:Nat)=m:=by
 match m,h with
 | 0,_=>rfl
 | 1,_=>rfl
noncomputable def jV (H:Hp) (d:Addr) (ab:List Str) (n:Nat):Prop:=∃ kv,H d=some (.dK kv)/\(∀ z:Str,bn kv (.inr z)=if z∈ab then some (.int 1) else none)/\kv.length<=n
theorem jV.kept {H H':Hp} {d:Addr} {ab:List Str} {n:Nat} (h:jV H d ab n) (l:bz H H'):jV H' d ab n:=by obtain ⟨kv,a,b,c⟩:=h;exact ⟨kv,l.dk _ _ a,b,c⟩
noncomputable def zc (C:Addr):Sp:=fun vs H Q _=>∃ (o dx d2 l:Addr) (F:List (List aa × V)) (xs:List V) (ts:List Tr) (fs:List (List aa)),vs=[.ref o,.ref l]/\H l=some (.lst xs)/\LAt H true xs ts/\bC H C o dx d2 F fs/\fs.length+ts.length<800/\∀ H',bz H H'->bC H' C o dx d2 F (bd fs (ci ts ts.length))->Q .non H'
noncomputable abbrev zd:List Str:=["self","tree","above","mask","one"]
theorem qM:aS zd ["self","tree"] (aG lS):=⟨rfl,rfl,rfl,by decide +kernel,rfl,by decide +kernel,by decide +kernel⟩
theorem ze (T:All P w K mg AA DD):az P w K mg base aE 3 AA.Za DD.Za ["self","tree"] (zc AA.c_NameLook):=by
 have GO:=mi (base:=base) T
 have GD:=qh (base:=base) T
 refine T.F_Za.ok qM (fun vs H Q E h=>?_) (fun cdv A outer s H vs Q E hr h=>?_)
 ·obtain ⟨o,dx,d2,l,F,xs,ts,fs,rfl,_⟩:=h
  rfl
 ·obtain ⟨o,dx,d2,l,F,xs,ts,fs,rfl,hl,hL,hk,hf,kq⟩:=h
  have nd:=qM.nd
  have hr2:aw 2 _:=hr
  have hr1:aw 1 _:=hr2.mono (by omega)
  have hu:=QH (Nat.add_le_add_left (show 1<=64 by decide) _) hr.units
  refine ⟨_,(aH (@bq _ _ 2 _ _ _ _ nd rfl (Or.inl rfl) n8 (by rfl) (by first | exact .inl rfl | exact .inr rfl | assumption)) (aq (cG PassesOwn.never rfl (ck (pv 1)) (fh rfl (bH (ba (i:=3) nd rfl (Or.inl rfl)) (bH (ba (i:=4) nd rfl (Or.inl rfl)) dE))) (aq (be (aU (il (K:=K) rfl) (aD (aJ (K:=K) rfl) (pv 4) ah (fun _ _=>rfl)) (bm (ae aL (ae aL ag))) rfl) (aH (bL (cH (pv 0) T.cl_NameLook T.M_Zj GO hr2 T.b_Zj .nil aI (ae (aB fR (pv 3) (hW hu (pv 2) (aD (aJ (K:=K) rfl) (pv 4) ah (fun _ _=>rfl)) ah ⟨by rfl,by rfl,by rfl,by rfl⟩)) (ae (aD (aJ (K:=K) rfl) (pv 4) ah (fun _ _=>rfl)) (ae aL (ae (aD (aJ (K:=K) rfl) (pv 4) ah (fun _ _=>rfl)) ag))))) (by rfl)) (aq (bL (aN GD hr1 rfl T.m_ZJ T.k_ZJ T.b_ZJ .nil aI (ae (pv 2) (ae (aD (aJ (K:=K) rfl) (pv 4) ah (fun _ _=>rfl)) (ae (pv 3) ag)))) (by rfl)))) bx)) (by intro _;rfl)))),?_⟩
  refine fun d hd=>?_
  have s1:=ap (o:=.dK []) hd
  dsimp only [aT]
  refine ⟨_,rfl,l,rfl,⟨_,al.of (s1 _ _ hl)⟩,?_⟩
  have hxl:=hL.length
  refine dF (K:=K) (a:=l) (xs:=xs) (fun i σ' H'=>i<=xs.length/\bz H H'/\jV H' d (aO (ts.take i)) i/\bC H' AA.c_NameLook o dx d2 F (bd fs (ci ts i))/\∃ x3 x4,σ'=[some (.ref o),some (.ref l),some (.ref d),x3,x4]) ⟨Qs _,cY s1,⟨[],aj,fun z=>by simp [bn,aO],Qh _⟩,hk.same s1,_,_,rfl⟩ (fun i σ' H' _ h=>al.of (h.2.1.ls.2 _ _ hl)) ?_ ?_
  ·rintro i x σ' H1 hx ⟨_,l1,hab,hk1,x3,x4,rfl⟩
   have hilt:=(Qe hx).1
   obtain ⟨t,ht,hO⟩:=hL.get hx
   have hO1:=hO.kept l1.ls
   obtain ⟨e1,e2⟩:=qL ht
   rw [e1,e2]
   have hln:=d6 (ci ts i) fs
   have hln2:=jU ts i
   cases hO1 with
   | plain e _=>cases e
   | @shared p y _ _ hp hS =>
   cases hS with
   | @mk t0 vs _ ht0 hps =>
   have hda:=jT hps
   obtain ⟨vr,rfl⟩:=iA hps
   refine ⟨p,_,rfl,ai.of hp,rfl,_,_,rfl,_,_,rfl,rfl,?_⟩
   refine ⟨_,rfl,t0,_,_,_,rfl,rfl,ai.of ht0,aA (j:=0) rfl,(by show 2<=sizeLine;decide),fun pt hpt=>⟨pt,fF.map V.str,rfl,.inr (ai.of aj),rfl,rfl,_,rfl,?_⟩⟩
   have s2:=ap (o:=.tup [V.str "def",V.str "kind"]) hpt
   rcases hda with ⟨hh,hn⟩ | ⟨hh,z,r,hz,ev⟩
   ·refine a8 (eD (Qi hh)) ?_
    have e3:bW (aO (ts.take i)) t=[]:=by unfold bW;rw [hn]
    have e4:dj t=[]:=by unfold dj;rw [hn]
    rw [e3,e4,List.append_nil,List.append_nil]
    have l2:=l1.trans (cY s2)
    obtain ⟨kv,a,b,c⟩:=hab
    exact ⟨hilt,l2,⟨kv,s2 _ _ a,b,by omega⟩,hk1.same s2,_,_,rfl⟩
   ·refine bt (eD (Qv hh)) ?_
    have ev2:vr=.str z::r:=by injection ev with _ q;injection q
    subst ev2
    have e3:bW (aO (ts.take i)) t=if z∈aO (ts.take i) then [k3 t.row "twice" z] else []:=by unfold bW;rw [hz]
    have e4:dj t=[z]:=by unfold dj;rw [hz]
    rw [e3,e4]
    have ht2:=s2 _ _ ht0
    have l2:=l1.trans (cY s2)
    have hab2:=hab.kept (cY s2)
    have hk2:=hk1.same s2
    generalize af H1 pt (.tup [V.str "def",V.str "kind"])=H2 at ht2 l2 hab2 hk2 ⊢
    obtain ⟨kv,hkv,hval,hkl⟩:=hab2
    obtain ⟨d1,hi,_⟩:=hk2.ins
    refine ⟨_,rfl,o,dx,_,rfl,hi,rfl,_,rfl,_,rfl,d,rfl,.inl ⟨_,.inl hkv⟩,_,rfl,t0,_,_,_,rfl,rfl,ai.of ht2,aA (j:=2) rfl,_,cq.k (k:=.inr z) hkv,?_⟩
    rw [hval z]
    have hb:∀ m:Nat,m<=1->Builtin.bitAnd (1:Int) ((m:Nat):Int)=((m:Nat):Int):=fun m h=>by rw [show (1:Int)=((1:Nat):Int) from rfl,i5 1 m,zb m h]
    obtain ⟨m,hm,em,eo⟩:∃ m:Nat,m<=1/\((if z∈aO (ts.take i) then some (V.int 1) else none).getD (V.int 0))=.int ((m:Nat):Int)/\(if z∈aO (ts.take i) then [k3 t.row "twice" z] else [])=dC m (k3 t.row "twice" z):=by
     by_cases q:z∈aO (ts.take i)
     ·exact ⟨1,Qh _,by rw [if_pos q];rfl,by rw [if_pos q];rfl⟩
     ·exact ⟨0,by omega,by rw [if_neg q];rfl,by rw [if_neg q];rfl⟩
    rw [em,eo]
    refine ⟨_,_,rfl,rfl,?_⟩
    dsimp only
    rw [hb m hm]
    refine ⟨_,rfl,t0,_,_,_,rfl,rfl,ai.of ht2,aA (j:=1) rfl,_,rfl,t0,_,_,_,rfl,rfl,ai.of ht2,aA (j:=2) rfl,o,dx,d2,F,_,m,t.row,"twice",z,rfl,hk2,by omega,hm,fun H3 l3 hk3=>?_⟩
    have hkv3:=l3.dk _ _ hkv
    have ht3:=l3.ls.1 _ _ ht2
    have ne:∀ {a kv},H a=some (.dK kv)->a≠d:=fun h z=>by rw [z,hd] at h;cases h
    refine ⟨_,rfl,_,rfl,t0,_,_,_,rfl,rfl,ai.of ht3,aA (j:=2) rfl,_,rfl,d,.str z,1,rfl,.inl ⟨_,.inl hkv3⟩,.inr ⟨rfl,_,_,cq.k (k:=.inr z) hkv3,?_,dX.k (k:=.inr z) hkv3 (bV (by omega)),?_⟩⟩
    ·rw [hval z]
     split
     ·exact .inr rfl
     ·exact .inl rfl
    have lsg:bE H3 (af H3 d (.dK (bN kv (.inr z) (.int 1)))):=iy hkv3 (fun _ z=>nomatch z) (fun _ z=>nomatch z) fun _ _ z=>nomatch z
    have l23:=l2.trans l3
    refine ⟨hilt,⟨l23.ls.trans lsg,fun a kv' e=>by rw [av (ne e)];exact l23.dk _ _ e⟩,⟨_,aj,fun y=>?_,?_⟩,?_,_,_,rfl⟩
    ·rw [nV,hval]
     by_cases hy:y=z
     ·subst hy
      rw [if_pos rfl,if_pos (by simp)]
     ·rw [if_neg (fun q=>hy (by injection q))]
      by_cases hq:y∈aO (ts.take i)
      ·rw [if_pos hq,if_pos (by simp [hq])]
      ·rw [if_neg hq,if_neg (by simp [hq,hy])]
    ·have:=g9 kv (Sum.inr z:aa) (.int 1);omega
    ·rw [gx]
     obtain ⟨⟨e1,h1,h3,h4⟩,h2⟩:=hk3
     refine ⟨⟨e1,?_,?_,h4⟩,?_⟩
     ·rw [av (fun z=>by rw [z,hkv3] at h1;cases h1)];exact h1
     ·rw [av (fun z=>by rw [z,hkv3] at h3;cases h3)];exact h3
     ·rw [av (fun z=>by rw [z,hkv3] at h2;cases h2)];exact h2
  ·rintro σ' H1 ⟨_,l1,hab,hk1,x3,x4,rfl⟩
   rw [hxl] at hk1
   exact kq _ l1 hk1
noncomputable def zf (C:Addr):Sp:=fun vs H Q _=>∃ (o dx l:Addr) (xs:List V) (ts:List Tr),vs=[.ref o,.ref l]/\H o=some (.ins C dx [])/\H l=some (.lst xs)/\LAt H true xs ts/\ts.length<=50/\∀ d2 F H',bE H H'->bC H' C o dx d2 F []->dh H' F ts->Q .non H'
noncomputable abbrev zg:List Str:=["self","tree"]
theorem qN:aS zg ["self","tree"] (aG lQ):=⟨rfl,rfl,rfl,by decide +kernel,rfl,by decide +kernel,by decide +kernel⟩
theorem zh (T:All P w K mg AA DD):az P w K mg base aE 3 AA.Zi DD.Zi ["self","tree"] (zf AA.c_NameLook):=by
 have GA:=yQ (base:=base) T
 refine T.F_Zi.ok qN (fun vs H Q E h=>?_) (fun cdv A outer s H vs Q E hr h=>?_)
 ·obtain ⟨o,dx,l,xs,ts,rfl,_⟩:=h
  rfl
 ·obtain ⟨o,dx,l,xs,ts,rfl,ho,hl,hL,h50,kq⟩:=h
  have nd:=qN.nd
  have hr2:aw 2 _:=hr
  refine ⟨_,(aH (ni (pv 0) (aN GA hr2 rfl T.m_Zr T.k_Zr T.b_Zr .nil aI (ae (pv 1) ag)) rfl) (aq (ni (pv 0) (og) rfl))),?_⟩
  refine ⟨_,rfl,l,xs,ts,rfl,hl,hL,h50,fun d1 F H1 s1 hd1 hF=>?_⟩
  have ho1:=s1 _ _ ho
  refine ⟨_,rfl,o,AA.c_NameLook,dx,_,rfl,ho1,T.cl_NameLook,T.na_NameLook_firsts,(by show 0<1000;decide),?_⟩
  refine fun d2 hd2=>?_
  have s3:=ap (o:=.dT []) hd2
  refine ⟨_,rfl,o,AA.c_NameLook,dx,_,rfl,s3 _ _ aj,T.cl_NameLook,T.na_NameLook_faults,(by show 1<1000;decide),?_⟩
  have b1:=iy (ob':=.ins AA.c_NameLook dx [("firsts",.ref d1)]) ho1 (fun _ z=>nomatch z) (fun _ z=>nomatch z) fun _ _ z=>nomatch z
  have h3:=s3 _ _ (aj (H:=H1) (a:=o) (o:=.ins AA.c_NameLook dx [("firsts",.ref d1)]))
  have b2:=iy (ob':=.ins AA.c_NameLook dx [("firsts",.ref d1),("faults",.ref d2)]) h3 (fun _ z=>nomatch z) (fun _ z=>nomatch z) fun _ _ z=>nomatch z
  have hne:d2≠o:=fun z=>by rw [z,aj] at hd2;cases hd2
  have hne1:d1≠o:=fun z=>by rw [z,ho1] at hd1;cases hd1
  have hd12:af H1 o (.ins AA.c_NameLook dx [("firsts",.ref d1)]) d1=some (.dT F):=by rw [av hne1];exact hd1
  have hne2:d1≠d2:=fun z=>by rw [<- z] at hd2;exact absurd (hd12.symm.trans hd2) (fun z=>by cases z)
  refine kq d2 F _ (((s1.ls.trans b1).trans s3.ls).trans b2) ⟨⟨d1,aj,?_,hne2⟩,?_⟩ (((hF.kept b1).kept s3.ls).kept b2)
  ·rw [av hne1];exact s3 _ _ hd12
  ·rw [av hne,aj];rfl
end
section
variable {P:Program} {w:World} {K:W.Frag} {mg:Str->Option Value} {base:Heap} {AA:cx} {DD:cy}
theorem qO {k:Nat} {js:List Nat} {g:TG} {tt:TT} {te:TE} {K:W.Frag} {a:Addr} {xs:List V} {σ:St} {H:Hp} {Q:VK} (Pv:Nat->List V->Hp->Prop) (h0:Pv 0 [] H) (hl:∀ i ys H,i<=xs.length->Pv i ys H->ai K H a xs)
  (hs:∀ i x ys H,xs[i]?=some x->Pv i ys H->i8 k js g tt te σ ys (Pv (i+1)) x H)
  (hd:∀ ys H,Pv xs.length ys H->∀ p,H p=none->Q (.ref p) (af H p (.lst ys))):kK (fj K a) k js g tt te σ H Q:=by
 refine ⟨fun i m ys H=>m=xs.length-i/\i<=xs.length/\Pv i ys H,⟨xs.length,by simp,Qs _,h0⟩,?_⟩
 rintro i m ys H ⟨rfl,hi,p⟩
 have q:=hl i ys H hi p
 by_cases hlt:i<xs.length
 ·refine .inr ⟨⟨xs,xs[i],q,by simp [hlt]⟩,Pv (i+1),fun ys' H' p'=>⟨xs.length-(i+1),by omega,rfl,hlt,p'⟩,fun x H' y=>?_⟩
  obtain ⟨e,y⟩:=y
  subst e
  exact hs i x ys _ (y xs q) p
 ·have e:i=xs.length:=by omega
  subst e
  exact .inl ⟨⟨xs,q,Qh _⟩,hd ys H p⟩
noncomputable def eX:List Str:=["num","truth"]
noncomputable def bX (tt:List Tr) (r:Nat) (z:Str):List (List aa):=if z∈eX then [] else dC (1 ^^^ (1 &&& di ("kind",z) tt)) (k3 r "nokind" z)
noncomputable def cj (tt:List Tr) (r:Nat) (zs:List Str):List (List aa):=zs.flatMap (bX tt r)
theorem zi (tt:List Tr) (r:Nat) (z:Str):(bX tt r z).length<=1:=by
 unfold bX dC
 split
 ·simp
 ·split<;>simp
theorem iD (tt:List Tr) (r:Nat):∀ zs:List Str,(cj tt r zs).length<=zs.length
 | []=>Qh _
 | z::zs=>by
  have h1:=zi tt r z
  have h2:=iD tt r zs
  show ((z::zs).flatMap (bX tt r)).length<=_
  rw [List.flatMap_cons,Qw,List.length_cons]
  have h2:(zs.flatMap (bX tt r)).length<=zs.length:=h2
  omega
theorem qP {tt:List Tr} {r:Nat} {zs:List Str} {i:Nat} (h:i<zs.length):cj tt r (zs.take (i+1))=cj tt r (zs.take i)++bX tt r zs[i]:=by
 unfold cj
 rw [Qp h,List.flatMap_append]
 simp
mutual
noncomputable def bu (tt:List Tr):Tr->List (List aa)
 | .tell r e=>a0 tt r e
 | .give r e=>a0 tt r e
 | .df r _ k ps b=>cj tt r (k::ps.map (·.2))++nfTs tt b
 | .kd _ _ _=>[]
 | .set _ _ _=>[]
 | .iff _ _ _ _=>[]
 | .whl _ _ _=>[]
noncomputable def nfTs (tt:List Tr):List Tr->List (List aa)
 | []=>[]
 | t::ts=>bu tt t++nfTs tt ts
end
mutual
noncomputable def jW:Tr->Prop
 | .tell _ e=>e.cal/\e.deep<5
 | .give _ e=>e.cal/\e.deep<5
 | .df _ _ _ ps b=>ps.length<=20/\okNs b
 | .kd _ _ _=>True
 | .set _ _ _=>False
 | .iff _ _ _ _=>False
 | .whl _ _ _=>False
noncomputable def okNs:List Tr->Prop
 | []=>True
 | t::ts=>jW t/\okNs ts
end
theorem qQ:∀ {ts:List Tr} {t:Tr},okNs ts->t∈ts->jW t
 | u::ts,t,a,h=>by
  rcases Ql h with z | z
  ·subst z;exact a.1
  ·exact qQ a.2 z
theorem qR:∀ {ts:List Tr},(∀ t∈ts,jW t)->okNs ts
 | [],_=>trivial
 | t::ts,h=>⟨h t (by simp),qR fun x hx=>h x (by simp [hx])⟩
theorem qS {tt:List Tr}:∀ {ts:List Tr} {i:Nat} {t:Tr},ts[i]?=some t->nfTs tt (ts.take (i+1))=nfTs tt (ts.take i)++bu tt t/\(nfTs tt (ts.take i)).length+(bu tt t).length<=(nfTs tt ts).length
 | x::ts,0,e,h=>by
  cases (show some x=some e from h)
  simp [nfTs]
 | x::ts,i+1,e,h=>by
  obtain ⟨a,b⟩:=qS (tt:=tt) (ts:=ts) (i:=i) h
  simp [nfTs,a]
  omega
theorem qT {tt:List Tr} {k:List aa}:∀ {ts:List Tr},k∈nfTs tt ts↔∃ t∈ts,k∈bu tt t
 | []=>by simp [nfTs]
 | t::ts=>by
  rw [nfTs,List.mem_append,qT]
  simp
noncomputable def gy (C:Addr) (k:Nat):Sp:=fun vs H Q _=>∃ (o dx d2 l:Addr) (F:List (List aa × V)) (tt:List Tr) (xs:List V) (ts:List Tr) (vg:V) (fs:List (List aa)),vs=[.ref o,.ref l,vg]/\H l=some (.lst xs)/\LAt H true xs ts/\deeps ts<k/\okNs ts /\
 bC H C o dx d2 F fs/\dh H F tt/\fs.length+(nfTs tt ts).length<700/\∀ H',bz H H'->bC H' C o dx d2 F (bd fs (nfTs tt ts))->Q .non H'
noncomputable def zj (C:Addr) (k:Nat):Sp:=fun vs H Q _=>∃ (o dx d2:Addr) (F:List (List aa × V)) (tt:List Tr) (v:V) (r:Nat) (z kd:Str) (ps:List (Str × Str)) (b:List Tr) (fs:List (List aa)),vs=[.ref o,.int 1,v]/\bi H true v (.df r z kd ps b)/\ps.length<=20/\deeps b<k/\okNs b /\
 bC H C o dx d2 F fs/\dh H F tt/\fs.length+(bu tt (.df r z kd ps b)).length<700/\∀ H',bz H H'->bC H' C o dx d2 F (bd fs (bu tt (.df r z kd ps b)))->Q .non H'
noncomputable abbrev ml:List Str:=["self","mask","one","kind"]
theorem qU:aS ml ["self","mask","one"] (aG iq):=⟨rfl,rfl,rfl,by decide +kernel,rfl,by decide +kernel,by decide +kernel⟩
theorem zk (T:All P w K mg AA DD) (k:Nat) (GY:az P w K mg base aE (2*k+10) AA.Zb DD.Zb ["self","statements","given"] (gy AA.c_NameLook k)) :
  az P w K mg base aE (2*k+11) AA.Zd DD.Zd ["self","mask","one"] (zj AA.c_NameLook k):=by
 have GO:=mi (base:=base) T
 have GN:=l7 (base:=base) T
 have GHD:=qE (base:=base) T
 refine T.F_Zd.ok qU (fun vs H Q E h=>?_) (fun cdv A outer s H vs Q E hr h=>?_)
 ·obtain ⟨o,dx,d2,F,tt,v,r,z,kd,ps,b,fs,rfl,_⟩:=h
  rfl
 ·obtain ⟨o,dx,d2,F,tt,v,r,z,kd,ps,b,fs,rfl,hS,hps,hd,hok,hk,hF,hf,kq⟩:=h
  have nd:=qU.nd
  have hrB:aw (2*k+10) _:=hr
  have hr2:aw 2 _:=hrB.mono (by omega)
  have hr1:aw 1 _:=hrB.mono (by omega)
  obtain ⟨t0,vp,lb,zs,ev,ht0,hp,hlb,hLb⟩:=jQ hS
  subst ev
  obtain ⟨tp,us,rfl,htp,hul,huat⟩:=hp
  rw [bu] at hf kq
  rw [Qw] at hf
  refine ⟨_,(aH (cG PassesOwn.never rfl (ck (aB gW (b5 (ae (aD (aJ (K:=K) rfl) (pv 2) ah (fun _ _=>rfl)) ag)) (i9 (xs:=["name","kind"]) (aG iq) ml [] [] rfl (by exact ⟨rfl,rfl,by decide +kernel,by decide +kernel,by decide +kernel,by decide +kernel,by decide +kernel,rfl,by decide +kernel⟩) rfl rfl (eG (aD (aJ (K:=K) rfl) (pv 2) ah (fun _ _=>rfl))) (fun _ _ _ _=>(hZ (K:=K) (n:=2) rfl rfl (bH (ba (i:=0) (show (["name","kind"]:List Str).Nodup by decide +kernel) rfl (Or.inl rfl)) (bH (ba (i:=1) (show (["name","kind"]:List Str).Nodup by decide +kernel) rfl (Or.inl rfl)) dE)))) (fun _ _ _ _=>dz) (fun _ _ _ _=>(pv 1))))) (ba (i:=3) nd rfl (Or.inl rfl)) (aq (be (aU (wV (K:=K) rfl) (pv 3) (sV (v:=.ref AA.q_PLAIN_KINDS) rfl T.m_PLAIN_KINDS rfl) rfl) (aq (bL (cH (pv 0) T.cl_NameLook T.M_Zj GO hr2 T.b_Zj .nil aI (ae (aN GN hr1 rfl T.m_ZE T.k_ZE T.b_ZE .nil aI (ae (pv 1) (ae (cH (pv 0) T.cl_NameLook T.M_Zk GHD hr2 T.b_Zk .nil aI (ae aL (ae (pv 3) ag))) ag))) (ae (aD (aJ (K:=K) rfl) (pv 2) ah (fun _ _=>rfl)) (ae aL (ae (pv 3) ag))))) (by rfl))) bx)) (by intro _;rfl)) (aq (bL (cH (pv 0) T.cl_NameLook T.M_Zb GY hrB T.b_Zb .nil aI (ae (aD (aJ (K:=K) rfl) (pv 2) ah (fun _ _=>rfl)) (ae (fo (wl true rfl) rfl T.n_dict wk (ae (i9 (xs:=["name","kind"]) (aG iq) ml ["mask"] [1] rfl (by exact ⟨rfl,rfl,by decide +kernel,by decide +kernel,by decide +kernel,by decide +kernel,by decide +kernel,rfl,by decide +kernel⟩) rfl rfl (eG (aD (aJ (K:=K) rfl) (pv 2) ah (fun _ _=>rfl))) (fun _ _ _ _=>(hZ (K:=K) (n:=2) rfl rfl (bH (ba (i:=0) (show (["name","kind","mask"]:List Str).Nodup by decide +kernel) rfl (Or.inl rfl)) (bH (ba (i:=1) (show (["name","kind","mask"]:List Str).Nodup by decide +kernel) rfl (Or.inl rfl)) dE)))) (fun _ _ _ _=>dz) (fun _ _ _ _=>(bm (ae (pv 0) (ae (pv 2) ag))))) ag)) ag))) (by rfl)))),?_⟩
  refine eS (fun σ' H'=>bz H H'/\bC H' AA.c_NameLook o dx d2 F (bd fs (cj tt r (kd::ps.map (·.2))))/\∃ x3,σ'=[some (.ref o),some (.int 1),some (.ref t0),x3]) (fun R hR=>?_) ?_
  ·refine ⟨_,rfl,t0,_,_,_,rfl,rfl,ai.of ht0,aA (j:=3) rfl,(by show 1<=sizeLine;decide),fun q hq=>?_⟩
   have s1:=ap (o:=.lst [.str kd]) hq
   have htp1:=s1 _ _ htp
   refine ⟨_,rfl,t0,_,_,_,rfl,rfl,ai.of (s1 _ _ ht0),aA (j:=4) rfl,tp,rfl,⟨_,ai.of htp1⟩,?_⟩
   refine qO (K:=K) (a:=tp) (xs:=us.map V.ref) (fun i ys H'=>H'=af H q (.lst [.str kd])/\i<=us.length/\ys=((ps.take i).map (·.2)).map V.str) ⟨rfl,Qs _,rfl⟩ (fun i ys H' _ h=>by rw [h.1];exact ai.of htp1) ?_ ?_
   ·rintro i x ys H2 hx ⟨rfl,hi2,rfl⟩
    have hix:i<us.length:=by
     have:=(Qe hx).1
     rw [Qg] at this;exact this
    have ex:x=V.ref us[i]:=by rw [Qk,Qb hix] at hx;exact (Qj hx).symm
    subst ex
    have hip:i<ps.length:=by omega
    have hu2:=s1 _ _ (huat i us[i] ps[i] (Qb hix) (Qb hip))
    intro os hos
    obtain ⟨o1,o2,rfl⟩:=jt hos
    refine ⟨us[i],_,rfl,ai.of hu2,rfl,_,_,rfl,_,_,rfl,rfl,⟨[_,_],rfl,rfl⟩,?_⟩
    refine dy ?_
    rw [if_pos rfl]
    refine ⟨_,rfl,?_⟩
    refine ⟨by rw [Qg,Qg,Qr];exact bV (by omega),rfl,by omega,?_⟩
    rw [Qp hip,QG,QG]
    rfl
   ·rintro ys H2 ⟨rfl,_,rfl⟩ q2 hq2
    have etk:ps.take (us.map V.ref).length=ps:=by rw [Qg,hul,List.take_length]
    rw [etk]
    have s2:=ap (o:=.lst ((ps.map (·.2)).map V.str)) hq2
    refine ⟨q,q2,[.str kd],(ps.map (·.2)).map V.str,rfl,rfl,s2 _ _ aj,aj,?_,fun l8 hl8=>?_⟩
    ·simp only [Qw,Qg,List.length_cons,List.length_nil]
     exact Nat.le_of_lt (bV (by omega))
    have s3:=ap (o:=.lst ([.str kd]++(ps.map (·.2)).map V.str)) hl8
    have s13:=(s1.trans s2).trans s3
    generalize hzs:kd::ps.map (·.2)=ks at hR
    have ek:[V.str kd]++(ps.map (·.2)).map V.str=ks.map V.str:=by rw [<- hzs];rfl
    rw [ek] at s3 s13 ⊢
    have hl9:af (af (af H q (.lst [.str kd])) q2 (.lst ((ps.map (·.2)).map V.str))) l8 (.lst (ks.map V.str)) l8=some (.lst (ks.map V.str)):=aj
    generalize af (af (af H q (.lst [.str kd])) q2 (.lst ((ps.map (·.2)).map V.str))) l8 (.lst (ks.map V.str))=H3 at s13 hl9 ⊢
    refine ⟨l8,rfl,⟨_,al.of hl9⟩,?_⟩
    refine dF (K:=K) (a:=l8) (xs:=ks.map V.str) (fun i σ' H'=>bz H3 H'/\bC H' AA.c_NameLook o dx d2 F (bd fs (cj tt r (ks.take i)))/\∃ x3,σ'=[some (.ref o),some (.int 1),some (.ref t0),x3]) ⟨bz.refl _,hk.same s13,_,rfl⟩ (fun i σ' H' _ h=>al.of (h.1.ls.2 _ _ hl9)) ?_ ?_
    ·rintro i x σ' H4 hx ⟨l4,hk4,x3,rfl⟩
     have hi4:i<ks.length:=by
      have:=(Qe hx).1
      rw [Qg] at this;exact this
     have ex:x=V.str ks[i]:=by rw [Qk,Qb hi4] at hx;exact (Qj hx).symm
     subst ex
     have hle:=d6 (cj tt r (ks.take i)) fs
     have hle2:=iD tt r (ks.take i)
     have hle3:(ks.take i).length<=ks.length:=by rw [Qr];omega
     have hkl:ks.length<=21:=by rw [<- hzs];simp;omega
     rw [qP hi4,gx]
     generalize ks[i]=y
     have l04:=(cY s13).trans l4
     obtain ⟨d1,hi,_⟩:=hk4.ins
     refine ⟨_,rfl,AA.q_PLAIN_KINDS,[.str "num",.str "truth"],rfl,.inr (T.Q_PLAIN_KINDS H4),rfl,rfl,_,rfl,?_⟩
     by_cases hy:y∈eX
     ·refine a8 (by show (!eN (V.str y) (eX.map V.str))=false;rw [l9,Qv hy];rfl) ?_
      have:bX tt r y=[]:=by unfold bX;rw [if_pos hy]
      rw [this]
      exact ⟨l4,hk4,_,rfl⟩
     ·refine bt (by show (!eN (V.str y) (eX.map V.str))=true;rw [l9,Qi hy];rfl) ?_
      have:bX tt r y=dC (1 ^^^ (1 &&& di ("kind",y) tt)) (k3 r "nokind" y):=by unfold bX;rw [if_neg hy]
      rw [this]
      obtain ⟨w1,_⟩:=qG ("kind",y) tt
      refine ⟨_,rfl,o,dx,_,rfl,hi,rfl,_,rfl,_,rfl,o,dx,_,rfl,hi,rfl,_,rfl,o,dx,d2,F,_,tt,"kind",y,rfl,hk4,hF.kept l04.ls,fun H5 s5=>?_⟩
      refine ⟨1,di ("kind",y) tt,rfl,?_⟩
      refine ⟨_,rfl,t0,_,_,_,rfl,rfl,ai.of (s5 _ _ (l04.ls.1 _ _ ht0)),aA (j:=1) rfl,_,rfl,o,dx,d2,F,_,_,r,"nokind",y,rfl,hk4.same s5,by omega,w1,fun H6 l6 hk6=>⟨(l4.trans (cY s5)).trans l6,hk6,_,rfl⟩⟩
    ·rintro σ' H4 ⟨l4,hk4,x3,rfl⟩
     rw [Qg,List.take_length] at hk4
     exact hR _ _ ⟨(cY s13).trans l4,hk4,_,rfl⟩
  rintro σ' H1 ⟨l1,hk1,x3,rfl⟩
  have ht1:=l1.ls.1 _ _ ht0
  have htp1:=l1.ls.1 _ _ htp
  have hlb1:=l1.ls.2 _ _ hlb
  have hLb1:=hLb.kept l1.ls
  obtain ⟨d1',hi1,_⟩:=hk1.ins
  have hle:=d6 (cj tt r (kd::ps.map (·.2))) fs
  refine ⟨_,rfl,o,dx,_,rfl,hi1,rfl,_,rfl,t0,_,_,_,rfl,rfl,ai.of ht1,aA (j:=5) rfl,?_⟩
  refine ⟨_,rfl,t0,_,_,_,rfl,rfl,ai.of ht1,aA (j:=4) rfl,tp,rfl,⟨_,ai.of htp1⟩,?_⟩
  refine qO (K:=K) (a:=tp) (xs:=us.map V.ref) (fun i ys H'=>Same H1 H'/\i<=us.length/\∃ (ts:List Addr) (pv:List (aa × V)),ys=ts.map V.ref/\ts.length=i/\pv.length=i/\(∀ (j:Nat) (t:Addr) (p:aa × V),ts[j]?=some t->pv[j]?=some p->H' t=some (.tup [kV p.1,p.2])))
   ⟨Same.refl _,Qs _,[],[],rfl,rfl,rfl,fun j t p h=>by simp at h⟩ (fun i ys H' _ h=>ai.of (h.1 _ _ htp1)) ?_ ?_
  ·rintro i x ys H2 hx ⟨s2,hi2,ts,pv,rfl,htl,hpl,hat⟩
   have hix:i<us.length:=by
    have:=(Qe hx).1
    rw [Qg] at this;exact this
   have ex:x=V.ref us[i]:=by rw [Qk,Qb hix] at hx;exact (Qj hx).symm
   subst ex
   have hip:i<ps.length:=by omega
   have hu2:=s2 _ _ (l1.ls.1 _ _ (huat i us[i] ps[i] (Qb hix) (Qb hip)))
   intro os hos
   obtain ⟨o1,o2,rfl⟩:=jt hos
   refine ⟨us[i],_,rfl,ai.of hu2,rfl,_,_,rfl,_,_,rfl,rfl,⟨[_,_],rfl,rfl⟩,?_⟩
   refine dy ?_
   rw [if_pos rfl]
   refine ⟨_,rfl,_,rfl,(by show 2<=sizeLine;decide),fun q3 hq3=>?_⟩
   have s5:=ap (o:=.tup [.str ps[i].1,.int 1]) hq3
   refine ⟨by rw [Qg];exact bV (by omega),s2.trans s5,by omega,ts++[q3],pv++[(.inr ps[i].1,.int 1)],by simp,by simp [htl],by simp [hpl],fun j t p h1 h2=>?_⟩
   by_cases hj:j<i
   ·rw [QA (by omega)] at h1 h2
    exact s5 _ _ (hat j t p h1 h2)
   ·have hj0:j=i:=by have:=(Qe h1).1;simp at this;omega
    subst hj0
    rw [Qy (by omega)] at h1 h2
    have e1:t=q3:=by simpa [htl] using h1.symm
    have e2:p=(.inr ps[j].1,.int 1):=by simpa [hpl] using h2.symm
    subst e1 e2
    exact aj
  ·rintro ys H2 ⟨s2,_,ts,pv,rfl,htl,hpl,hat⟩ q hq
   rw [Qg] at htl hpl
   have sq:=ap (o:=.lst (ts.map V.ref)) hq
   refine ⟨q,ts,pv,rfl,aj,by omega,fun j t p h1 h2=>sq _ _ (hat j t p h1 h2),fun d3 hd3=>?_⟩
   have s3:=(s2.trans sq).trans (ap (o:=.dK (eT pv)) hd3)
   have lk3:=cY s3
   refine ⟨o,dx,d2,lb,F,tt,zs,b,.ref d3,_,rfl,s3 _ _ hlb1,hLb1.kept s3.ls,hd,hok,hk1.same s3,(hF.kept l1.ls).kept s3.ls,by omega,fun H4 l4 hk4=>?_⟩
   rw [<- gx] at hk4
   exact kq H4 ((l1.trans lk3).trans l4) hk4
noncomputable abbrev zm:List Str:=["self","statements","given","mask","one","block"]
theorem mn:aS zm ["self","statements","given"] (aG lT):=⟨rfl,rfl,rfl,by decide +kernel,rfl,by decide +kernel,by decide +kernel⟩
theorem zn (T:All P w K mg AA DD) (k:Nat) (GY:az P w K mg base aE (2*k+10) AA.Zb DD.Zb ["self","statements","given"] (gy AA.c_NameLook k)) :
  az P w K mg base aE (2*(k+1)+10) AA.Zb DD.Zb ["self","statements","given"] (gy AA.c_NameLook (k+1)):=by
 have GE:=qJ (base:=base) T 5
 have GX:=yE (base:=base) T
 have GK:=yG (base:=base) T
 have GLD:=zk (base:=base) T k GY
 refine T.F_Zb.ok mn (fun vs H Q E h=>?_) (fun cdv A outer s H vs Q E hr h=>?_)
 ·obtain ⟨o,dx,d2,l,F,tt,xs,ts,vg,fs,rfl,_⟩:=h
  rfl
 ·obtain ⟨o,dx,d2,l,F,tt,xs,ts,vg,fs,rfl,hl,hL,hd,hg,hk,hF,hf,kq⟩:=h
  have nd:=mn.nd
  have hrL:aw (2*k+11) _:=hr
  have hrB:aw (2*k+10) _:=hrL.mono (by omega)
  have hrE:aw 9 _:=hrB.mono (by omega)
  have hr1:aw 1 _:=hrB.mono (by omega)
  refine ⟨_,(aq (cG PassesOwn.never rfl (ck (pv 1)) (fh rfl (bH (ba (i:=3) nd rfl (Or.inl rfl)) (bH (ba (i:=4) nd rfl (Or.inl rfl)) dE))) (aq (be (aU cf (aD (aJ (K:=K) rfl) (pv 4) ah (fun _ _=>rfl)) aL (bb _)) (aq (bL (cH (pv 0) T.cl_NameLook T.M_Zd GLD hrL T.b_Zd .nil aI (ae (pv 3) (ae (pv 4) ag))) (by rfl))) (aq (be (aU eA (aD (aJ (K:=K) rfl) (pv 4) ah (fun _ _=>rfl)) aL (bb _)) (aH (bL (cH (pv 0) T.cl_NameLook T.M_Zc GE hrE T.b_Zc .nil aI (ae (pv 3) (ae (aN GX hr1 rfl T.m_ZF T.k_ZF T.b_ZF .nil aI (ae (pv 4) ag)) (ae (aD (aJ (K:=K) rfl) (pv 4) ah (fun _ _=>rfl)) (ae (pv 2) ag))))) (by rfl)) (aH (be (aU cf (aD (aJ (K:=K) rfl) (pv 4) ah (fun _ _=>rfl)) aL (bb _)) (aq (bL (jp) (by rfl))) bx) (aq (cG PassesOwn.never rfl (ck (aN GK hr1 rfl T.m_Zu T.k_Zu T.b_Zu .nil aI (ae (pv 4) ag))) (ba (i:=5) nd rfl (Or.inl rfl)) (aq (bL (cH (pv 0) T.cl_NameLook T.M_Zb GY hrB T.b_Zb .nil aI (ae (pv 5) (ae (pv 2) ag))) (by rfl))) (by intro _;rfl))))) bx)))) (by intro _;rfl))),?_⟩
  refine ⟨_,rfl,l,rfl,⟨_,al.of hl⟩,?_⟩
  have hxl:=hL.length
  refine dF (K:=K) (a:=l) (xs:=xs) (fun i σ' H'=>bz H H'/\(∃ x3 x4 x5,σ'=[some (.ref o),some (.ref l),some vg,x3,x4,x5])/\bC H' AA.c_NameLook o dx d2 F (bd fs (nfTs tt (ts.take i)))) ⟨bz.refl _,⟨_,_,_,rfl⟩,hk⟩ (fun i σ' H' _ h=>al.of (h.1.ls.2 _ _ hl)) ?_ ?_
  ·rintro i x σ' H1 hx ⟨l1,⟨x3,x4,x5,rfl⟩,hk1⟩
   obtain ⟨t,ht,hO⟩:=hL.get hx
   have hO1:=hO.kept l1.ls
   have hF1:=hF.kept l1.ls
   have hm:t∈ts:=Qt ht
   have htg:=qQ hg hm
   have hdm:=jr hm
   obtain ⟨ft,hnf⟩:=qS (tt:=tt) ht
   have hq:=d6 (nfTs tt (ts.take i)) fs
   rw [ft,gx]
   generalize bd fs (nfTs tt (ts.take i))=gs at hk1 hq
   cases hO1 with
   | plain e _=>cases e
   | @shared p y _ _ hp hS =>
   have hS0:=hS
   cases hS with
   | @mk t0 vs _ ht0 hps =>
   obtain ⟨vr,rfl⟩:=iA hps
   obtain ⟨d1,hi,_⟩:=hk1.ins
   refine ⟨p,_,rfl,ai.of hp,rfl,_,_,rfl,_,_,rfl,rfl,?_⟩
   refine ⟨_,rfl,t0,_,_,_,rfl,rfl,ai.of ht0,aA (j:=0) rfl,rfl,_,rfl,?_⟩
   cases hex:t.ex with
   | none =>
    cases t with
    | df r z kd ps b =>
     refine bt (Qv rfl) ?_
     have hb:deeps b<=(Tr.df r z kd ps b).deep:=lg (by simp [Tr.parts])
     exact ⟨_,rfl,o,dx,_,rfl,hi,rfl,_,rfl,_,rfl,o,dx,d2,F,tt,.ref t0,r,z,kd,ps,b,gs,rfl,hS0,htg.1,by omega,htg.2,hk1,hF1,by omega,fun H2 l2 hk2=>⟨l1.trans l2,⟨_,_,_,rfl⟩,hk2⟩⟩
    | kd r z ps =>
     refine a8 (Qi (by intro q;injection q with q;exact absurd q (by simp only [Tr.kw];decide +kernel))) ?_
     refine ⟨_,rfl,t0,_,_,_,rfl,rfl,ai.of ht0,aA (j:=0) rfl,rfl,_,rfl,?_⟩
     refine a8 (by
      show (!decide (V.str "kind"=V.str "kind"))=false
      rw [Qv rfl];rfl) ?_
     refine ⟨l1,⟨_,_,_,rfl⟩,?_⟩
     rw [bu];exact hk1
    | _=>cases hex
   | some ee =>
   refine a8 (Qi fun z=>(qk hex).1 (by injection z)) ?_
   refine ⟨_,rfl,t0,_,_,_,rfl,rfl,ai.of ht0,aA (j:=0) rfl,rfl,_,rfl,?_⟩
   refine bt (by
    show (!decide (V.str t.kw=V.str "kind"))=true
    rw [Qi fun z=>(qk hex).2 (by injection z)];rfl) ?_
   obtain ⟨hcal,hdp,hns,hbl,enf⟩:ee.cal/\ee.deep<5/\t.kw≠"set"/\t.blocks=[]/\bu tt t=a0 tt t.row ee:=by
    cases t with
    | tell r e=>cases hex;exact ⟨htg.1,htg.2,by simp only [Tr.kw];decide +kernel,rfl,by rw [bu];rfl⟩
    | give r e=>cases hex;exact ⟨htg.1,htg.2,by simp only [Tr.kw];decide +kernel,rfl,by rw [bu];rfl⟩
    | df r z kd ps b=>cases hex
    | kd r z ps=>cases hex
    | _=>exact htg.elim
   rw [enf] at hnf ⊢
   refine ⟨_,rfl,o,dx,_,rfl,hi,rfl,_,rfl,_,rfl,.ref t0,t,ee,rfl,hS0,hex,fun x hx=>?_⟩
   refine ⟨_,rfl,t0,_,_,_,rfl,rfl,ai.of ht0,aA (j:=1) rfl,_,rfl,o,dx,d2,F,tt,gs,x,vg,ee,t.row,rfl,hx,hcal,hdp,hk1,hF1,by omega,fun H2 l2 hk2=>?_⟩
   dsimp only
   refine ⟨_,rfl,t0,_,_,_,rfl,rfl,ai.of (l2.ls.1 _ _ ht0),aA (j:=0) rfl,rfl,_,rfl,?_⟩
   refine a8 (Qi fun z=>hns (by injection z)) ?_
   refine ⟨_,rfl,.ref t0,t,rfl,hS0.kept l2.ls,fun pb ys H4 s4 hpb hys=>⟨pb,rfl,⟨_,al.of hpb⟩,?_⟩⟩
   rw [hbl] at hys
   have hyn:ys=[]:=gu hys
   subst hyn
   refine dF (K:=K) (a:=pb) (xs:=[]) (fun j σ' H'=>H'=H4/\∃ x5,σ'=[some (.ref o),some (.ref l),some vg,some (.int 1),some (.ref t0),x5]) ⟨rfl,_,rfl⟩ (fun j σ' H' _ h=>by rw [h.1];exact al.of hpb) (fun j v σ' H5 hv=>by simp at hv) ?_
   rintro σ' H5 ⟨rfl,x5',rfl⟩
   exact ⟨(l1.trans l2).trans (cY s4),⟨_,_,_,rfl⟩,hk2.same s4⟩
  ·rintro σ' H1 ⟨l1,⟨x3,x4,x5,rfl⟩,hk1⟩
   rw [Qu (by omega)] at hk1
   exact kq _ l1 hk1
theorem zo (T:All P w K mg AA DD):az P w K mg base aE (2*0+10) AA.Zb DD.Zb ["self","statements","given"] (gy AA.c_NameLook 0):=by
 have no:∀ vs H Q E,¬ gy AA.c_NameLook 0 vs H Q E:=fun vs H Q E h=>by
  obtain ⟨o,dx,d2,l,F,tt,xs,ts,vg,fs,_,_,_,z,_⟩:=h
  omega
 exact T.F_Zb.ok mn (fun vs H Q E h=>(no _ _ _ _ h).elim) (fun cdv A outer s H vs Q E hr h=>(no _ _ _ _ h).elim)
theorem qV (T:All P w K mg AA DD):∀ k:Nat,az P w K mg base aE (2*k+10) AA.Zb DD.Zb ["self","statements","given"] (gy AA.c_NameLook k)
 | 0=>zo T
 | k+1=>zn T k (qV T k)
end
section
variable {P:Program} {w:World} {K:W.Frag} {mg:Str->Option Value} {base:Heap} {AA:cx} {DD:cy}
noncomputable def fN (ts:List Tr):List (List aa):=bd (bd [] (ci ts ts.length)) (nfTs ts ts)
theorem qW {ab:List Str} {t:Tr} {k:List aa} (h:k∈bW ab t):∃ z,t.hd.map (·.2)=some z/\z∈ab/\k=k3 t.row "twice" z:=by
 unfold bW at h
 split at h
 ·simp at h
 ·rename_i q e
  split at h
  ·rename_i q2
   exact ⟨q.2,by rw [e];rfl,q2,by simpa using h⟩
  ·simp at h
theorem mo {ts:List Tr} {k:List aa}:∀ {n:Nat},k∈ci ts n↔∃ i t,i<n/\ts[i]?=some t/\k∈bW (aO (ts.take i)) t
 | 0=>by simp [ci]
 | n+1=>by
  rw [ci,List.mem_append,mo]
  constructor
  ·rintro (⟨i,t,h1,h2,h3⟩ | h)
   ·exact ⟨i,t,by omega,h2,h3⟩
   ·cases e:ts[n]? with
    | none=>rw [e] at h;simp at h
    | some t=>rw [e] at h;exact ⟨n,t,by omega,e,h⟩
  ·rintro ⟨i,t,h1,h2,h3⟩
   by_cases hi:i<n
   ·exact .inl ⟨i,t,hi,h2,h3⟩
   ·have:i=n:=by omega
    subst this
    exact .inr (by rw [h2];exact h3)
theorem zp {tt:List Tr} {r:Nat} {a miss z:Str} {n:Nat} {k:List aa} (h:k∈b9 tt r a miss z n):k=k3 r miss z∨k=k3 r "count" z:=by
 unfold b9 at h
 split at h
 ·exact .inl (by simpa using h)
 ·split at h
  ·simp at h
  ·exact .inr (by simpa using h)
noncomputable def gz:List Str:=["twice","nofunc","nokind","count"]
mutual
noncomputable def d7:Ex->List Str
 | .many _ z es=>z::exNs es
 | .num _=>[]
 | .truth _=>[]
 | .name _=>[]
 | .not _=>[]
 | .op _ _ _=>[]
 | .of _ _=>[]
noncomputable def exNs:List Ex->List Str
 | []=>[]
 | e::es=>d7 e++exNs es
end
mutual
theorem jX {tt:List Tr} {r:Nat} {k:List aa}:∀ {e:Ex},k∈a0 tt r e->∃ a z,k=k3 r a z/\a∈gz/\z∈d7 e
 | .many w z es,h=>by
  rw [a0] at h
  rw [d7]
  rcases QC h with h | h
  ·rcases zp h with q | q
   ·refine ⟨_,z,q,?_,by simp⟩
    split<;>decide +kernel
   ·exact ⟨_,z,q,by decide +kernel,by simp⟩
  ·obtain ⟨a,y,e,ha,hy⟩:=exKs_k3 h
   exact ⟨a,y,e,ha,Qn _ hy⟩
 | .num _,h=>by simp [a0] at h
 | .truth _,h=>by simp [a0] at h
 | .name _,h=>by simp [a0] at h
 | .not _,h=>by simp [a0] at h
 | .op _ _ _,h=>by simp [a0] at h
 | .of _ _,h=>by simp [a0] at h
theorem exKs_k3 {tt:List Tr} {r:Nat} {k:List aa}:∀ {es:List Ex},k∈exKs tt r es->∃ a z,k=k3 r a z/\a∈gz/\z∈exNs es
 | [],h=>by simp [exKs] at h
 | e::es,h=>by
  rw [exKs] at h
  rw [exNs]
  rcases QC h with h | h
  ·obtain ⟨a,y,e,ha,hy⟩:=jX h
   exact ⟨a,y,e,ha,List.mem_append_left _ hy⟩
  ·obtain ⟨a,y,e,ha,hy⟩:=exKs_k3 h
   exact ⟨a,y,e,ha,List.mem_append_right _ hy⟩
end
theorem qX {tt:List Tr} {r:Nat} {z:Str} {k:List aa} (h:k∈bX tt r z):k=k3 r "nokind" z:=by
 unfold bX dC at h
 split at h
 ·simp at h
 ·split at h
  ·simp at h
  ·simpa using h
mutual
noncomputable def dm:Tr->List Str
 | .tell _ e=>d7 e
 | .give _ e=>d7 e
 | .df _ n k ps b=>n::k::ps.map (·.2)++trNs b
 | .kd _ n _=>[n]
 | .set _ _ _=>[]
 | .iff _ _ _ _=>[]
 | .whl _ _ _=>[]
noncomputable def trNs:List Tr->List Str
 | []=>[]
 | t::ts=>dm t++trNs ts
end
mutual
theorem zq {tt:List Tr} {k:List aa}:∀ {t:Tr},k∈bu tt t->∃ r a z,k=k3 r a z/\a∈gz/\z∈dm t
 | .tell r e,h=>by rw [bu] at h;rw [dm];exact ⟨r,jX h⟩
 | .give r e,h=>by rw [bu] at h;rw [dm];exact ⟨r,jX h⟩
 | .df r n kd ps b,h=>by
  rw [bu] at h
  rw [dm]
  rcases QC h with h | h
  ·obtain ⟨y,hy,h⟩:=List.mem_flatMap.mp h
   exact ⟨r,_,y,qX h,by decide +kernel,List.mem_append_left _ (Qn _ hy)⟩
  ·obtain ⟨r',a,y,e,ha,hy⟩:=nfTs_k3 h
   exact ⟨r',a,y,e,ha,List.mem_append_right _ hy⟩
 | .kd _ _ _,h=>by simp [bu] at h
 | .set _ _ _,h=>by simp [bu] at h
 | .iff _ _ _ _,h=>by simp [bu] at h
 | .whl _ _ _,h=>by simp [bu] at h
theorem nfTs_k3 {tt:List Tr} {k:List aa}:∀ {ts:List Tr},k∈nfTs tt ts->∃ r a z,k=k3 r a z/\a∈gz/\z∈trNs ts
 | [],h=>by simp [nfTs] at h
 | t::ts,h=>by
  rw [nfTs] at h
  rw [trNs]
  rcases QC h with h | h
  ·obtain ⟨r,a,y,e,ha,hy⟩:=zq h
   exact ⟨r,a,y,e,ha,List.mem_append_left _ hy⟩
  ·obtain ⟨r,a,y,e,ha,hy⟩:=nfTs_k3 h
   exact ⟨r,a,y,e,ha,List.mem_append_right _ hy⟩
end
theorem mq {z:Str}:∀ {ts:List Tr},z∈trNs ts↔∃ t∈ts,z∈dm t
 | []=>by simp [trNs]
 | t::ts=>by rw [trNs,List.mem_append,mq];simp
theorem mr {ts:List Tr} {k:List aa} (h:k∈fN ts):∃ r a z,k=k3 r a z/\a∈gz/\z∈trNs ts:=by
 rcases iB.mp h with h | h
 ·rcases iB.mp h with h | h
  ·simp at h
  ·obtain ⟨i,t,hi,ht,h⟩:=mo.mp h
   obtain ⟨z,e,_,rfl⟩:=qW h
   refine ⟨_,_,z,rfl,by decide +kernel,mq.mpr ⟨t,Qt ht,?_⟩⟩
   cases t with
   | df r n k ps b=>cases e;rw [dm];simp
   | kd r n ps=>cases e;rw [dm];simp
   | _=>cases e
 ·exact nfTs_k3 h
theorem qY (ts:List Tr):∀ k∈fN ts,k.map bF=[true,false,false]:=fun k hk=>by
 obtain ⟨r,a,z,rfl,_⟩:=mr hk
 rfl
theorem zr (ts:List Tr):(fN ts).Nodup:=mh (mh List.nodup_nil)
theorem qZ (ts:List Tr):(fN ts).length<=ts.length+(nfTs ts ts).length:=by
 have h1:=d6 (nfTs ts ts) (bd [] (ci ts ts.length))
 have h2:=d6 (ci ts ts.length) []
 have h3:=jU ts ts.length
 show (bd (bd [] (ci ts ts.length)) (nfTs ts ts)).length<=_
 rw [List.length_nil] at h2
 omega
noncomputable def ms (ts:List Tr):Prop:=deeps ts<4/\ts.length<=20/\ascs ts/\okNs ts/\(nfTs ts ts).length<150
noncomputable def zt:Sp:=fun vs H Q _=>∃ (l:Addr) (xs:List V) (ts:List Tr),vs=[.ref l,.int 1]/\H l=some (.lst xs)/\LAt H true xs ts/\ms ts /\
 ∀ p ys H',bE H H'->H' p=some (.lst ys)->aY H' ys ((bG (fN ts)).map fun k=>.inl 1::k)->Q (.ref p) H'
noncomputable abbrev zu:List Str:=["tree","mask","kept","look"]
theorem q5:aS zu ["tree","mask"] (aG lI):=⟨rfl,rfl,rfl,by decide +kernel,rfl,by decide +kernel,by decide +kernel⟩
theorem zv (T:All P w K mg AA DD):az P w K mg base aE 19 AA.Zl DD.Zl ["tree","mask"] zt:=by
 have GF:=qc (base:=base) T 6
 have GC:=zh (base:=base) T
 have GT:=ze (base:=base) T
 have GY:=qV (base:=base) T 4
 have GW:=yJ (base:=base) T
 refine T.F_Zl.ok q5 (fun vs H Q E h=>?_) (fun cdv A outer s H vs Q E hr h=>?_)
 ·obtain ⟨l,xs,ts,rfl,_⟩:=h
  rfl
 ·obtain ⟨l,xs,ts,rfl,hl,hL,⟨hd,h20,ha,hok,hn⟩,kq⟩:=h
  have nd:=q5.nd
  have hrB:aw (2*4+10) _:=hr
  have hrF:aw 17 _:=hrB.mono (by omega)
  have hr4:aw 4 _:=hrF.mono (by omega)
  have hr3:aw 3 _:=hrF.mono (by omega)
  have hr2:aw 2 _:=hrF.mono (by omega)
  have hr1:aw 1 _:=hrF.mono (by omega)
  refine ⟨_,(aH (@bq _ _ 2 _ _ _ _ nd rfl (Or.inl rfl) (aN GF hrF rfl T.m_Zs T.k_Zs T.b_Zs .nil aI (ae (pv 0) (ae (pv 1) ag))) (by rfl) (by first | exact .inl rfl | exact .inr rfl | assumption)) (aH (@bq _ _ 3 _ _ _ _ nd rfl (Or.inl rfl) (uE T.M_NameLook GC hr4 rfl T.m_NameLook T.b_Zi .nil aI (ae (pv 2) ag)) (by rfl) (by first | exact .inl rfl | exact .inr rfl | assumption)) (aH (bL (cH (pv 3) T.cl_NameLook T.M_Za GT hr3 T.b_Za .nil aI (ae (pv 2) ag)) (by rfl)) (aH (bL (cH (pv 3) T.cl_NameLook T.M_Zb GY hrB T.b_Zb .nil aI (ae (pv 2) (ae n8 ag))) (by rfl)) (aq (aP (aN GW hr1 rfl T.m_Zq T.k_Zq T.b_Zq .nil aI (ae (iW (pv 3) rfl) ag)))))))),?_⟩
  refine ⟨_,rfl,_,rfl,l,xs,ts,rfl,hl,hL,(by omega),h20,ha,fun p ys H1 s1 hp hys=>?_⟩
  dsimp only [aT]
  refine ⟨_,rfl,fun o dx ho hdx ne=>?_⟩
  have s2:Same H1 (af (af H1 dx (.own o)) o (.ins AA.c_NameLook dx [])):=(ap (o:=.own o) hdx).trans (ap (by rw [av (Ne.symm ne)];exact ho))
  refine ⟨o,dx,p,ys,ts,rfl,aj,s2 _ _ hp,hys.kept s2.ls,by omega,fun d2 F H3 l3 hk3 hF3=>⟨rfl,?_⟩⟩
  have hp3:=l3.2 _ _ (s2 _ _ hp)
  have hL3:=(hys.kept s2.ls).kept l3
  obtain ⟨d1,hi3,_⟩:=hk3.ins
  dsimp only [aT]
  refine ⟨_,rfl,o,dx,_,rfl,hi3,rfl,_,rfl,o,dx,d2,p,F,ys,ts,[],rfl,hp3,hL3,hk3,(by show 0+ts.length<800;omega),fun H4 l4 hk4=>?_⟩
  obtain ⟨d1',hi4,_⟩:=hk4.ins
  have t1:=d6 (ci ts ts.length) []
  have t2:=jU ts ts.length
  rw [List.length_nil] at t1
  refine ⟨_,rfl,o,dx,_,rfl,hi4,rfl,_,rfl,fun g hg'=>?_⟩
  have s5:=ap (o:=.dK []) hg'
  refine ⟨o,dx,d2,p,F,ts,ys,ts,.ref g,_,rfl,s5 _ _ (l4.ls.2 _ _ hp3),(hL3.kept l4.ls).kept s5.ls,hd,hok,hk4.same s5,(hF3.kept l4.ls).kept s5.ls,by omega,fun H6 l6 hk6=>?_⟩
  obtain ⟨d1',hi6,_⟩:=hk6.ins
  have hfl:=qZ ts
  refine ⟨_,rfl,o,AA.c_NameLook,dx,_,_,rfl,hi6,T.cl_NameLook,T.na_NameLook_faults,rfl,d2,fN ts,[true,false,false],rfl,hk6.flt,by omega,qY ts,by simp,by simp,fun q zs H7 s7 hq hT=>kq q zs H7 ?_ hq hT⟩
  exact (((((s1.trans s2).ls.trans l3).trans l4.ls).trans s5.ls).trans l6.ls).trans s7.ls
noncomputable def zw:Sp:=fun vs H Q _=>∃ (l:Addr) (xs:List V) (ts:List Tr),vs=[.ref l]/\H l=some (.lst xs)/\LAt H false xs ts/\ms ts /\
 ∀ p ys H',bE H H'->H' p=some (.lst ys)->aY H' ys (bG (fN ts))->Q (.ref p) H'
theorem q9 {fs:List (List aa)} {k:List aa} (h:k∈bG fs):k∈fs:=by
 obtain ⟨j,hj,e⟩:=QF h
 rw [<- e,Qf,Qb (me j hj)]
 exact QE _
noncomputable abbrev re:List Str:=["tree"]
theorem rf:aS re ["tree"] (aG jK):=⟨rfl,rfl,rfl,by decide +kernel,rfl,by decide +kernel,by decide +kernel⟩
theorem zx (T:All P w K mg AA DD):az P w K mg base aE 20 AA.Zn DD.Zn ["tree"] zw:=by
 have GF:=pY (base:=base) T 6
 have GS:=zv (base:=base) T
 refine T.F_Zn.ok rf (fun vs H Q E h=>?_) (fun cdv A outer s H vs Q E hr h=>?_)
 ·obtain ⟨l,xs,ts,rfl,_⟩:=h
  rfl
 ·obtain ⟨l,xs,ts,rfl,hl,hL,hok,kq⟩:=h
  have nd:=rf.nd
  have hrS:aw 19 _:=hr
  have hrF:aw 13 _:=hrS.mono (by omega)
  refine ⟨_,(aq (aP (i9 (xs:=["mask","at","what","name"]) (aG jK) re [] [] rfl (by exact ⟨rfl,rfl,by decide +kernel,by decide +kernel,by decide +kernel,by decide +kernel,by decide +kernel,rfl,by decide +kernel⟩) rfl rfl (ck (aN GS hrS rfl T.m_Zl T.k_Zl T.b_Zl .nil aI (ae (aN GF hrF rfl T.m_Zt T.k_Zt T.b_Zt .nil aI (ae (pv 0) ag)) (ae ah ag)))) (fun _ _ _ _=>(hZ (K:=K) (n:=4) rfl rfl (bH (ba (i:=0) (show (["mask","at","what","name"]:List Str).Nodup by decide +kernel) rfl (Or.inl rfl)) (bH (ba (i:=1) (show (["mask","at","what","name"]:List Str).Nodup by decide +kernel) rfl (Or.inl rfl)) (bH (ba (i:=2) (show (["mask","at","what","name"]:List Str).Nodup by decide +kernel) rfl (Or.inl rfl)) (bH (ba (i:=3) (show (["mask","at","what","name"]:List Str).Nodup by decide +kernel) rfl (Or.inl rfl)) dE)))))) (fun _ _ _ _=>dz) (fun _ _ _ _=>(bm (ae (pv 1) (ae (pv 2) (ae (pv 3) ag)))))))),?_⟩
  refine ⟨_,rfl,l,xs,ts,rfl,hl,hL,(by have:=hok.1;omega),hok.2.1,hok.2.2.1,fun p ys H1 s1 hp hys=>?_⟩
  refine ⟨p,ys,ts,rfl,hp,hys,hok,fun q zs H2 l2 hq hT=>?_⟩
  refine ⟨q,rfl,⟨_,al.of hq⟩,?_⟩
  have hzl:=hT.1
  rw [Qg] at hzl
  have hsl:(bG (fN ts)).length<200:=by
   have h1:=qZ ts
   have h2:=hok.2.1
   have h3:=hok.2.2.2.2
   unfold bG
   rw [Qg,oT]
   omega
  refine kP (K:=K) (a:=q) (xs:=zs) (fun i ys H'=>Same H2 H'/\i<=zs.length/\aY H' ys ((bG (fN ts)).take i)) ⟨Same.refl _,Qs _,by simp,fun j x d h=>by simp at h⟩ (fun i ys H' _ h=>al.of (h.1 _ _ hq)) ?_ ?_
  ·rintro i x us H3 hx ⟨sm,hi,hus⟩
   have hilt:=(Qe hx).1
   have hik:i<(bG (fN ts)).length:=by omega
   obtain ⟨t,rfl,ht⟩:=hT.2 i x (.inl 1::(bG (fN ts))[i]) hx (by rw [Qk,Qb hik];rfl)
   obtain ⟨r,a,z,ek,_⟩:=mr (q9 (QE hik))
   rw [ek] at ht
   have ht3:H3 t=some (.tup [.int 1,.int ((r:Nat):Int),.str a,.str z]):=sm _ _ ht
   have hul:=hus.1
   rw [Qr] at hul
   intro os hos
   obtain ⟨a1,b1,c1,d1,rfl⟩:=xl hos
   refine ⟨t,_,rfl,ai.of ht3,rfl,_,_,rfl,_,_,rfl,_,_,rfl,_,_,rfl,rfl,⟨[_,_,_,_],rfl,rfl⟩,?_⟩
   refine dy ?_
   rw [if_pos rfl]
   refine ⟨_,rfl,_,rfl,_,rfl,(by show 3<=sizeLine;decide),fun q2 hq2=>?_⟩
   have s3:=ap (o:=.tup [.int ((r:Nat):Int),.str a,.str z]) hq2
   refine ⟨bV (by omega),sm.trans s3,by omega,?_⟩
   rw [Qp hik,ek]
   refine ⟨by simp [hus.1],fun j y e hy he=>?_⟩
   by_cases hj:j<us.length
   ·rw [QA hj] at hy
    rw [QA (by rw [Qr];omega)] at he
    obtain ⟨t',a1,a2⟩:=hus.2 j y e hy he
    exact ⟨t',a1,s3 _ _ a2⟩
   ·rw [Qy (by omega)] at hy
    rw [Qy (by rw [Qr];omega),Qr,<- hul] at he
    have hj2:=(Qe hy).1
    have hj0:j-us.length=0:=by simpa using hj2
    rw [hj0] at hy he
    have y1:V.ref q2=y:=by simpa using hy
    have e1:k3 r a z=e:=by simpa using he
    exact ⟨q2,y1.symm,by rw [<- e1];exact aj⟩
  ·rintro us H3 ⟨sm,hi,hus⟩ q3 hq3
   have s3:=ap (o:=.lst us) hq3
   rw [Qu (by omega)] at hus
   exact kq q3 us _ (((s1.ls.trans l2).trans sm.ls).trans s3.ls) aj ⟨hus.1,fun j x k a b=>by obtain ⟨t,e,h⟩:=hus.2 j x k a b;exact ⟨t,e,s3 _ _ h⟩⟩
end
theorem zy (a b:Str):(a++b).cps.toList=a.cps.toList++b.cps.toList:=Array.toList_append ..
theorem mv (a b:Str):(a++b).length=a.length+b.length:=Array.size_append ..
theorem jY (c:Nat):(⟨#[c]⟩:Str).length=1:=rfl
theorem iE (z:Str):z.cps.toList.length=z.length:=by simp [Str.length]
theorem d8 {a:Int} {n:Nat} (h:0<n):∃ j:Nat,a % (n:Int)=(j:Int)/\j<n:=⟨(a % (n:Int)).toNat,by
 have:=Int.emod_nonneg a (show (n:Int)≠0 by omega)
 omega,by
 have:=Int.emod_nonneg a (show (n:Int)≠0 by omega)
 have:=Int.emod_lt_of_pos a (show (0:Int)<(n:Int) by omega)
 omega⟩
section
variable {P:Program} {w:World} {K:W.Frag} {mg:Str->Option Value} {base:Heap} {AA:cx} {DD:cy}
noncomputable def jZ (ns:List Int) (j:Nat):Int:=ns.getD j 0
noncomputable def zz (K:W.Frag):Sp:=fun vs H Q _=>∃ (a:Addr) (ns:List Int) (j:Nat),vs=[.ref a,.int ((j:Nat):Int)]/\al K H a (ns.map V.int)/\Q (.int (jZ ns j)) H
noncomputable abbrev zA:List Str:=["_law_script","_law_k"]
theorem rh:aS zA ["_law_script","_law_k"] (aG lJ):=⟨rfl,rfl,rfl,by decide +kernel,rfl,by decide +kernel,by decide +kernel⟩
theorem zB (T:All P w K mg AA DD):az P w K mg base aE 1 AA.Zo DD.Zo ["_law_script","_law_k"] (zz K):=by
 refine T.F_Zo.ok rh (fun vs H Q E h=>?_) (fun cdv A outer s H vs Q E hr h=>?_)
 ·obtain ⟨a,ns,k,rfl,_⟩:=h
  rfl
 ·obtain ⟨a,ns,j,rfl,hS,k⟩:=h
  have nd:=rh.nd
  refine ⟨_,(aH (be (aU ki (pv 1) (c6 gR rfl T.n_len fZ (ae (pv 0) ag)) (bb _)) (aq (aP (aD (f6 (K:=K) rfl) (pv 0) (pv 1) (fun _ _=>rfl)))) bx) (aq (aP ah))),?_⟩
  refine ⟨_,rfl,_,rfl,a,_,rfl,.inl hS,_,_,rfl,rfl,_,rfl,?_⟩
  rw [Qg]
  unfold jZ at k
  refine fY (fun h1=>?_) (fun h1=>?_)
  ·have h1:((j:Nat):Int)<(ns.length:Int):=of_decide_eq_true h1
   refine ⟨_,rfl,_,rfl,a,_,_,_,rfl,rfl,hS,aA (j:=j) (by rw [Qk,Qb (by omega)];rfl),?_⟩
   rw [Qf,Qb (by omega)] at k
   exact k
  ·have h1:¬((j:Nat):Int)<(ns.length:Int):=fun z=>h1 (Qv z)
   rw [Qf,List.getElem?_eq_none (by omega)] at k
   exact k
noncomputable def bQ (c k:Int):Int:=((c+7919*k+1)*48271 % 2147483647)*((c+7919*k+1)*48271 % 2147483647 / 1009+69621) % 2147483647
theorem zC (c k:Int):0<=bQ c k:=Int.emod_nonneg _ (by decide)
noncomputable def zD:Sp:=fun vs H Q _=>∃ c k:Int,vs=[.int c,.int k]/\Q (.int (bQ c k)) H
noncomputable abbrev zE:List Str:=["_law_cell","_law_k","_law_number"]
theorem rl:aS zE ["_law_cell","_law_k"] (aG lK):=⟨rfl,rfl,rfl,by decide +kernel,rfl,by decide +kernel,by decide +kernel⟩
theorem mw (T:All P w K mg AA DD):az P w K mg base aE 1 AA.Zv DD.Zv ["_law_cell","_law_k"] zD:=by
 refine T.F_Zv.ok rl (fun vs H Q E h=>?_) (fun cdv A outer s H vs Q E hr h=>?_)
 ·obtain ⟨c,k,rfl,_⟩:=h
  rfl
 ·obtain ⟨c,j,rfl,k⟩:=h
  have nd:=rl.nd
  unfold bQ at k
  refine ⟨_,(aH (@bq _ _ 2 _ _ _ _ nd rfl (Or.inl rfl) (aB bR (aB gM (aB ei (aB ei (pv 0) (aB gM ah (pv 1))) ah) ah) ah) (by rfl) (by first | exact .inl rfl | exact .inr rfl | assumption)) (aq (aP (aB bR (aB gM (pv 2) (aB ei (aB dH (pv 2) ah) ah)) ah)))),?_⟩
  refine ⟨_,rfl,_,rfl,_,_,rfl,rfl,.inl ⟨by decide,by decide⟩,_,_,rfl,rfl,_,_,rfl,rfl,_,_,rfl,rfl,.inr ⟨by decide,by decide⟩,_,_,rfl,rfl,(by show (0:Int)<2147483647;decide),?_⟩
  try dsimp only [aT]
  have b0:=Int.emod_nonneg ((c+7919*j+1)*48271) (show (2147483647:Int)≠0 by decide)
  have b1:=Int.emod_lt_of_pos ((c+7919*j+1)*48271) (show (0:Int)<2147483647 by decide)
  generalize (c+7919*j+1)*48271 % 2147483647=y at b0 b1 k ⊢
  exact ⟨_,rfl,_,rfl,_,_,rfl,rfl,⟨by decide,by decide⟩,_,_,rfl,rfl,_,_,rfl,rfl,.inl ⟨by omega,by omega⟩,_,_,rfl,rfl,(by show (0:Int)<2147483647;decide),k⟩
noncomputable abbrev dP:Str:="xyzuvwpqabcdefghijklmnorst"
theorem rm:dP.length=26:=by decide +kernel
noncomputable def eY (x:Int):Nat->Str
 | 0=>Str.empty
 | i+1=>eY x i++⟨#[dP.cps.toList.getD (x / (8+25*((i:Nat):Int)) % 26).toNat 0]⟩
theorem mx (x:Int):∀ i,(eY x i).length=i
 | 0=>rfl
 | i+1=>by
  show (eY x i++_).length=i+1
  rw [mv,jY,mx x i]
noncomputable def dn (x:Int):Str:=eY x (1+(x % 8).toNat)
theorem rn (x:Int):1<=(dn x).length/\(dn x).length<=8:=by
 unfold dn
 rw [mx]
 have:=Int.emod_lt_of_pos x (show (0:Int)<8 by decide)
 have:=Int.emod_nonneg x (show (8:Int)≠0 by decide)
 omega
noncomputable def zG:Sp:=fun vs H Q _=>∃ x:Int,vs=[.int x]/\0<=x/\Q (.str (dn x)) H
noncomputable abbrev zH:List Str:=["_law_number","_law_some","_law_word_here","_law_k"]
theorem rp:aS zH ["_law_number"] (aG lL):=⟨rfl,rfl,rfl,by decide +kernel,rfl,by decide +kernel,by decide +kernel⟩
theorem zI (T:All P w K mg AA DD):az P w K mg base aE 1 AA.ZB DD.ZB ["_law_number"] zG:=by
 refine T.F_ZB.ok rp (fun vs H Q E h=>?_) (fun cdv A outer s H vs Q E hr h=>?_)
 ·obtain ⟨x,rfl,_⟩:=h
  rfl
 ·obtain ⟨x,rfl,hx,k⟩:=h
  have nd:=rp.nd
  refine ⟨_,(aH (@bq _ _ 1 _ _ _ _ nd rfl (Or.inl rfl) aL (by rfl) (by first | exact .inl rfl | exact .inr rfl | assumption)) (aH (@bq _ _ 2 _ _ _ _ nd rfl (Or.inl rfl) aL (by rfl) (by first | exact .inl rfl | exact .inr rfl | assumption)) (aH (cG PassesOwn.never rfl (iQ rfl T.n_range (ae (aB ei ah (aB bR (pv 0) ah)) ag)) (ba (i:=3) nd rfl (Or.inl rfl)) (aq (@bq _ _ 2 _ _ _ _ nd rfl (Or.inl rfl) (aB iU (pv 2) (aD ky (pv 1) (aB bR (aB dH (pv 0) (aB ei ah (aB gM ah (pv 3)))) ah) (fun _ _=>rfl))) (by rfl) (by first | exact .inl rfl | exact .inr rfl | assumption))) (by intro _;rfl)) (aq (aP (pv 2)))))),?_⟩
  refine kO ?_
  try dsimp only [aT]
  refine kO ?_
  try dsimp only [aT]
  have hsz:dP.length<=sizeLine:=by rw [rm];decide
  obtain ⟨m,em,hm⟩:=d8 (a:=x) (n:=8) (by decide)
  have em:x % 8=((m:Nat):Int):=em
  have ew:dn x=eY x (1+m):=by unfold dn;rw [em,Int.toNat_natCast]
  refine eS (fun σ' H'=>H'=H/\∃ (x3:Option V),σ'=[some (.int x),some (.str dP),some (.str (dn x)),x3]) (fun R hR=>?_) ?_
  ·refine ⟨_,rfl,_,_,rfl,rfl,(by show (0:Int)<8;decide),_,_,rfl,rfl,_,rfl,?_,?_,?_⟩
   ·rw [em];omega
   ·rw [em];omega
   rw [em,show ((1:Int)+((m:Nat):Int)).toNat=1+m by omega]
   refine tS (D:=⟨R,_,R,R⟩) (fun i σ' H'=>H'=H/\∃ (x3:Option V),σ'=[some (.int x),some (.str dP),some (.str (eY x i)),x3]) ⟨rfl,none,rfl⟩ ?_ ?_
   ·rintro i σ' H' hi ⟨rfl,x3,rfl⟩
    rw [Int.zero_add]
    obtain ⟨q,eq,hq⟩:=d8 (a:=x / (8+25*((i:Nat):Int))) (n:=26) (by decide)
    have eq:x / (8+25*((i:Nat):Int)) % 26=((q:Nat):Int):=eq
    have hql:q<dP.cps.toList.length:=by rw [iE,rm];exact hq
    refine ⟨_,rfl,_,rfl,_,rfl,_,rfl,_,_,rfl,rfl,.inl ⟨by decide,by decide⟩,_,_,rfl,rfl,_,_,rfl,rfl,⟨?_,?_⟩,_,_,rfl,rfl,(by show (0:Int)<26;decide),dP,_,dP.cps.toList[q],rfl,rfl,hsz,?_,_,_,rfl,rfl,?_,?_⟩
    ·show (0:Int)<8+25*((i:Nat):Int);omega
    ·show 8+25*((i:Nat):Int)<_;omega
    ·rw [eq];exact aA (Qb hql)
    ·rw [jY,mx];exact Nat.le_of_lt (cp (by omega))
    ·refine ⟨rfl,some (.int ((i:Nat):Int)),?_⟩
     show _=[some (V.int x),some (V.str dP),some (V.str (eY x i++⟨#[dP.cps.toList.getD (x / (8+25*((i:Nat):Int)) % 26).toNat 0]⟩)),_]
     rw [eq,Int.toNat_natCast,Qf,Qb hql]
     rfl
   ·rintro σ' H' ⟨rfl,x3,rfl⟩
    exact hR _ _ ⟨rfl,x3,by rw [ew]⟩
  rintro σ' H' ⟨rfl,x3,rfl⟩
  exact ⟨_,rfl,k⟩
noncomputable def cQ (x:Int):Str:=("q":Str)++dI (dn x) none (some 7)
theorem zJ (x:Int):2<=(cQ x).length/\(cQ x).length<=8:=by
 unfold cQ
 have h1:(dI (dn x) none (some 7)).length=((dn x).cps.toList.take 7).length:=by
  rw [<- vz (dn x) 7];exact (iE _).symm
 rw [mv,h1,Qr,iE,show ("q":Str).length=1 from by decide +kernel]
 have:=rn x
 omega
noncomputable def fG (x:Int):Int:=1+x / 8 % (((cQ x).length:Nat)-1:Int)
noncomputable def rq (x:Int) (i:Nat):Str:=dI (cQ x) none (some (fG x))++(⟨#[("gkvz":Str).cps.toList.getD i 0]⟩:Str)++dI (cQ x) (some (fG x+1)) none
noncomputable def bj (z:Str):Prop:=∀ c∈z.cps.toList,c<128
theorem bj.app {a b:Str} (h:bj a) (h':bj b):bj (a++b):=fun c hc=>by
 rw [zy] at hc
 exact (QC hc).elim (h c) (h' c)
theorem bj.cut {z:Str} (h:bj z) (lo hi:Option Int):bj (dI z lo hi):=fun c hc=>by
 rw [nQ] at hc
 exact h c (List.mem_of_mem_drop (List.mem_of_mem_take hc))
theorem rA {z:Str} (h:bj z) (j:Nat):bj ⟨#[z.cps.toList.getD j 0]⟩:=fun c hc=>by
 have:c=z.cps.toList.getD j 0:=by simpa using hc
 rw [this,Qf]
 cases e:z.cps.toList[j]? with
 | none=>decide
 | some d=>exact h d (Qt e)
theorem zK:bj Str.empty:=fun c hc=>by simp [Str.empty] at hc
theorem rB (x:Int):∀ i,bj (eY x i)
 | 0=>zK
 | i+1=>(rB x i).app (rA (show bj dP from by unfold bj;decide +kernel) _)
noncomputable def iF (x:Int):List Str:=(List.range 4).map (rq x)
theorem rC (x:Int):(iF x).length=4/\∀ z∈iF x,bj z:=by
 have hq:bj (cQ x):=(show bj ("q":Str) from by unfold bj;decide +kernel).app ((rB x _).cut _ _)
 refine ⟨by simp [iF],fun z hz=>?_⟩
 obtain ⟨j,_,rfl⟩:=QF hz
 exact ((hq.cut _ _).app (rA (by unfold bj;decide +kernel) j)).app (hq.cut _ _)
noncomputable def zL:Sp:=fun vs H Q _=>∃ x:Int,vs=[.int x]/\0<=x/\∀ p H',Same H H'->H p=none->H' p=some (.lst ((iF x).map V.str))->Q (.ref p) H'
noncomputable abbrev rD:List Str:=["_law_number","_law_word_here","_law_at"]
theorem rE:aS rD ["_law_number"] (aG jL):=⟨rfl,rfl,rfl,by decide +kernel,rfl,by decide +kernel,by decide +kernel⟩
theorem zM (T:All P w K mg AA DD):az P w K mg base aE 2 AA.Zw DD.Zw ["_law_number"] zL:=by
 have GW:=zI (base:=base) T
 refine T.F_Zw.ok rE (fun vs H Q E h=>?_) (fun cdv A outer s H vs Q E hr h=>?_)
 ·obtain ⟨x,rfl,_⟩:=h
  rfl
 ·obtain ⟨x,rfl,hx,k⟩:=h
  have nd:=rE.nd
  have hr1:aw 1 _:=hr
  have hq:=zJ x
  refine ⟨_,(aH (@bq _ _ 1 _ _ _ _ nd rfl (Or.inr rfl) (aB iU aL (iX kI (aN GW hr1 rfl T.m_ZB T.k_ZB T.b_ZB .nil aI (ae (pv 0) ag)) km (gO ah))) (by rfl) (by first | exact .inl rfl | exact .inr rfl | assumption)) (aH (@bq _ _ 2 _ _ _ _ nd rfl (Or.inr rfl) (aB ei ah (aB bR (aB dH (pv 0) ah) (aB iT (c6 u5 rfl T.n_len fZ (ae (pv 1) ag)) ah))) (by rfl) (by first | exact .inl rfl | exact .inr rfl | assumption)) (aq (aP (eR (aG jL) rD ["_law_word_here","_law_at"] [1,2] rfl (by exact ⟨rfl,rfl,by decide +kernel,rfl,by decide +kernel,by decide +kernel,by decide +kernel,rfl,by decide +kernel⟩) rfl rfl (wU aL) (fun _ _ _ _=>dz) (fun _ _ _ _=>(aB iU (aB iU (iX kI (pv 1) km (gO (pv 2))) (pv 0)) (iX kI (pv 1) (gO (aB ei (pv 2) ah)) km)))))))),?_⟩
  have hw:=rn x
  have hc7:=kH (dn x) none (some 7)
  have hq1:("q":Str).length=1:=by decide +kernel
  have s9:∀ {n:Nat},n<=100->n<=sizeLine:=fun h=>Nat.le_of_lt (cp (by omega))
  refine ⟨_,rfl,x,rfl,hx,7,rfl,dn x,rfl,s9 (by omega),_,_,rfl,rfl,s9 (by omega),?_⟩
  dsimp only [aT]
  show gI _ _ _ [some (.int x),some (.str (cQ x)),none] _
  refine ⟨_,rfl,_,_,rfl,rfl,⟨by decide,by decide⟩,_,rfl,cQ x,rfl,s9 (by omega),_,_,rfl,rfl,_,_,rfl,rfl,(by show (0:Int)<((cQ x).length:Int)-1;omega),_,_,rfl,rfl,?_⟩
  dsimp only [aT]
  show mT _ _ [some (.int x),some (.str (cQ x)),some (.int (fG x))] _
  refine ⟨("gkvz":Str),rfl,by decide +kernel,?_⟩
  have hgl:("gkvz":Str).length=4:=by decide +kernel
  rw [hgl]
  refine wW (fun i ys H'=>H'=H/\i<=4/\ys=((List.range i).map (rq x)).map V.str) ⟨rfl,by omega,rfl⟩ ?_ ?_
  ·rintro i ys H' hi ⟨rfl,_,rfl⟩
   refine dy ?_
   rw [if_pos rfl]
   have l1:=kH (cQ x) none (some (fG x))
   have l2:=kH (cQ x) (some (fG x+1)) none
   refine ⟨_,rfl,_,rfl,fG x,rfl,cQ x,rfl,s9 (by omega),_,rfl,_,_,rfl,rfl,s9 (by rw [jY];omega),_,rfl,_,rfl,_,_,rfl,rfl,fG x+1,rfl,cQ x,rfl,s9 (by omega),_,_,rfl,rfl,s9 (by rw [mv,jY];omega),?_⟩
   refine ⟨by rw [Qg,Qg,List.length_range];exact cp (by omega),rfl,by omega,?_⟩
   rw [List.range_succ,QG,QG]
   rfl
  ·rintro ys H' ⟨rfl,_,rfl⟩ p hp
   exact k p _ (ap hp) hp aj
theorem my {ns:List Str} (h:∀ z∈ns,bj z) (j:Nat):bj (ns.getD j ""):=by
 rw [Qf]
 cases e:ns[j]? with
 | none=>show bj (Str.ofString "");unfold bj;decide +kernel
 | some d=>exact h d (Qt e)
end
section
variable {P:Program} {w:World} {K:W.Frag} {mg:Str->Option Value} {base:Heap} {AA:cx} {DD:cy}
theorem iG {ns:List Str} {j:Nat} (h:j<ns.length):(ns.map V.str)[j]?=some (.str (ns.getD j "")):=by
 rw [Qk,Qf,Qb h];rfl
noncomputable def eZ (ns:List Str) (x:Int):Str:=if (x % 3 == 0)=true then "num" else if (x % 3 == 1)=true then "truth" else ns.getD (x / 3 % 4).toNat ""
noncomputable def zN:Sp:=fun vs H Q _=>∃ (x:Int) (l:Addr) (ns:List Str),vs=[.int x,.ref l]/\H l=some (.lst (ns.map V.str))/\ns.length=4/\Q (.str (eZ ns x)) H
noncomputable abbrev zO:List Str:=["_law_number","_law_names_here"]
theorem rF:aS zO ["_law_number","_law_names_here"] (aG lM):=⟨rfl,rfl,rfl,by decide +kernel,rfl,by decide +kernel,by decide +kernel⟩
theorem zP (T:All P w K mg AA DD):az P w K mg base aE 1 AA.ZC DD.ZC ["_law_number","_law_names_here"] zN:=by
 refine T.F_ZC.ok rF (fun vs H Q E h=>?_) (fun cdv A outer s H vs Q E hr h=>?_)
 ·obtain ⟨x,l,ns,rfl,_⟩:=h
  rfl
 ·obtain ⟨x,l,ns,rfl,hl,hn,k⟩:=h
  have nd:=rF.nd
  refine ⟨_,(aH (be (aU cf (aB bR (pv 0) ah) ah (bb _)) (aq (aP aL)) bx) (aH (be (aU cf (aB bR (pv 0) ah) ah (bb _)) (aq (aP aL)) bx) (aq (aP (aD (f6 (K:=K) rfl) (pv 1) (aB bR (aB dH (pv 0) ah) ah) (fun _ _=>rfl)))))),?_⟩
  unfold eZ at k
  refine ⟨_,rfl,_,_,rfl,rfl,(by show (0:Int)<3;decide),rfl,_,rfl,?_⟩
  rw [gN]
  refine fY (fun h1=>?_) (fun h1=>?_)
  ·rw [if_pos h1] at k
   exact k
  rw [if_neg h1] at k
  refine ⟨_,rfl,_,_,rfl,rfl,(by show (0:Int)<3;decide),rfl,_,rfl,?_⟩
  rw [gN]
  refine fY (fun h1=>?_) (fun h1=>?_)
  ·rw [if_pos h1] at k
   exact k
  rw [if_neg h1] at k
  obtain ⟨j,ej,hj⟩:=d8 (a:=x / 3) (n:=4) (by decide)
  have ej:x / 3 % 4=((j:Nat):Int):=ej
  rw [ej,Int.toNat_natCast] at k
  refine ⟨_,rfl,_,rfl,_,_,rfl,rfl,⟨by decide,by decide⟩,_,_,rfl,rfl,(by show (0:Int)<4;decide),l,_,_,.str (ns.getD j ""),rfl,rfl,al.of hl,?_,k⟩
  show dw _ (x / 3 % 4)=_
  rw [ej];exact aA (iG (by omega))
theorem rG {H:Hp}:∀ {vs:List V} {es:List Ex} {v:V} {e:Ex},ExsAt H vs es->aW H v e->ExsAt H (vs++[v]) (es++[e])
 | _,_,_,_,.nil,h=>.cons h .nil
 | _,_,_,_,.cons a b,h=>.cons a (rG b h)
theorem rH {H:Hp}:∀ {vs:List V} {es:List Ex} {v:V} {e:Ex},ExsAt H vs es->vs≠[]->aW H v e->ExsAt H (vs.set (vs.length-1) v) (es.dropLast++[e])
 | _,_,_,_,.nil,h,_=>absurd rfl h
 | _,_,_,_,.cons a .nil,_,h=>.cons h .nil
 | _,_,_,_,.cons a (.cons b c),_,h=>.cons a (rH (.cons b c) (by simp) h)
theorem j0 {H H':Hp} (s:Same H H') {p:Addr} (h:H p=none) (o:HO):Same H (af H' p o):=fun b q e=>by
 rw [av (fun z=>by rw [z,h] at e;cases e)];exact s _ _ e
noncomputable abbrev fH:List Str:=["do","new"]
theorem zQ {j:Nat} (h:j<2):(fH.map V.str)[j]?=some (.str (fH.getD j "")):=iG h
noncomputable def j1 (x:Int) (k:Nat):Ex:=.num (bQ x (4+((k:Nat):Int)) % 10 ^ 18)
noncomputable def cR (x:Int):List Ex:=(List.range (x % 4).toNat).map (j1 x)
noncomputable def wF (x:Int):Str:=fH.getD (x / 12 % 2).toNat ""
noncomputable def gA (ns:List Str) (x:Int):Str:=ns.getD (x / 24 % 4).toNat ""
noncomputable def e7 (ns:List Str):Nat->Int->Ex
 | 0,x=>.many (wF x) (gA ns x) (cR x)
 | d+1,x=>.many (wF x) (gA ns x) (if (x % 4).toNat≠0/\x / 4 % 3=0 then (cR x).dropLast++[e7 ns d (bQ x 8)] else cR x)
noncomputable def zF (ns:List Str):Nat->Int->List Ex
 | 0,x=>cR x
 | d+1,x=>if (x % 4).toNat≠0/\x / 4 % 3=0 then (cR x).dropLast++[e7 ns d (bQ x 8)] else cR x
theorem rJ (ns:List Str) (d:Nat) (x:Int):e7 ns d x=.many (wF x) (gA ns x) (zF ns d x):=by cases d<;>rfl
theorem rK {K:W.Frag} {H:Hp} {x:Int}:∀ {js:List Nat} {ys:List V},ExsAt H ys (js.map (j1 x))->∃ ds,RdvA K H ys ds/\(∀ d∈ds,bS 1 d)/\ds.length=js.length
 | [],ys,h=>by cases h;exact ⟨[],.nil,fun d z=>(nomatch z),rfl⟩
 | j::js,ys,h=>by
  cases h with
  | cons a b =>
   cases a with
   | num ht =>
    obtain ⟨ds,h1,h2,h3⟩:=rK (K:=K) b
    refine ⟨_,.cons (.tup (ai.of ht) (.cons (.str _) (.cons (.int _) .nil))) h1,fun d hd=>?_,by simp [h3]⟩
    rcases Ql hd with rfl | hd
    ·refine bS.tuple (n:=0) fun d hd=>?_
     simp only [List.mem_cons,List.not_mem_nil,or_false] at hd
     rcases hd with rfl | rfl
     ·exact .str (by decide +kernel)
     ·exact .int _
    ·exact h2 d hd
theorem zR (ds:List PyData):PyData.eqv (.list ds) (.list [])=decide (ds.length=0):=by
 cases ds<;>simp [PyData.eqv,PyData.eqvAll]
noncomputable def iH (k:Nat):Sp:=fun vs H Q _=>∃ (x:Int) (l:Addr) (ns:List Str) (d:Nat),vs=[.int x,.ref l,.int ((d:Nat):Int)]/\d<k/\H l=some (.lst (ns.map V.str))/\ns.length=4/\∀ v H',Same H H'->aW H' v (e7 ns d x)->Q v H'
noncomputable abbrev rL:List Str:=["_law_number","_law_names_here","_law_deep","_law_parts"]
theorem mz:aS rL ["_law_number","_law_names_here","_law_deep"] (aG jM):=⟨rfl,rfl,rfl,by decide +kernel,rfl,by decide +kernel,by decide +kernel⟩
theorem zS (T:All P w K mg AA DD) (k:Nat) (GC:az P w K mg base aE (k+1) AA.ZD DD.ZD ["_law_number","_law_names_here","_law_deep"] (iH k)):az P w K mg base aE (k+1+1) AA.ZD DD.ZD ["_law_number","_law_names_here","_law_deep"] (iH (k+1)):=by
 have GX:=mw (base:=base) T
 refine T.F_ZD.ok mz (fun vs H Q E h=>?_) (fun cdv A outer s H vs Q E hr h=>?_)
 ·obtain ⟨x,l,ns,d,rfl,_⟩:=h
  rfl
 ·obtain ⟨x,l,ns,d,rfl,hd,hl,hn,kq⟩:=h
  have nd:=mz.nd
  have hrC:aw (k+1) _:=hr
  have hr1:aw 1 _:=hrC.mono (by omega)
  have hu:=hr.units
  refine ⟨_,(aH (kM (i:=3) (aG jM) rL ["_law_number"] [0] rfl (by exact ⟨rfl,rfl,by decide +kernel,rfl,by decide +kernel,by decide +kernel,by decide +kernel,rfl,by decide +kernel⟩) rfl rfl (iQ rfl T.n_range (ae (aB bR (pv 0) ah) ag)) (fun _ _ _ _=>dz) (fun _ _ _ _=>(bm (ae aL (ae (aB bR (aN GX hr1 rfl T.m_Zv T.k_Zv T.b_Zv .nil aI (ae (pv 1) (ae (aB ei ah (pv 0)) ag))) (aB tX ah ah)) ag)))) nd rfl rfl rfl) (aH (be (PW.pt (gH (aU uc (pv 2) ah (bb _)) (gH (aU (om (K:=K) rfl hu) (pv 3) (b5 ag) (bb _)) (j8 (aU cf (aB bR (aB dH (pv 0) ah) ah) ah (bb _)))))) (aq (tK (aN GC hrC rfl T.m_ZD T.k_ZD T.b_ZD .nil aI (ae (aN GX hr1 rfl T.m_Zv T.k_Zv T.b_Zv .nil aI (ae (pv 0) (ae ah ag))) (ae (pv 1) (ae (aB iT (pv 2) ah) ag)))) (tJ (pv 3) (tU tZ ah) uU))) bx) (aq (aP (bm (ae (aD (f6 (K:=K) rfl) (b5 (ae aL (ae aL ag))) (aB bR (aB dH (pv 0) ah) ah) (fun _ _=>rfl)) (ae (aD (f6 (K:=K) rfl) (pv 1) (aB bR (aB dH (pv 0) ah) ah) (fun _ _=>rfl)) (ae (fo gS rfl T.n_tuple f7 (ae (pv 3) ag)) ag)))))))),?_⟩
  obtain ⟨m,em,hm⟩:=d8 (a:=x) (n:=4) (by decide)
  have em:x % 4=((m:Nat):Int):=em
  have ep:cR x=(List.range m).map (j1 x):=by unfold cR;rw [em,Int.toNat_natCast]
  refine ⟨_,rfl,_,_,rfl,rfl,(by show (0:Int)<4;decide),_,rfl,?_,?_,?_⟩
  ·show _<=x % 4;omega
  ·show x % 4<_;omega
  show eQ (dU 0 (x % 4).toNat) _ _ _ _ _ _
  rw [em,Int.toNat_natCast]
  refine kF (fun i ys H'=>Same H H'/\i<=4/\ys.length=i/\ExsAt H' ys ((List.range i).map (j1 x))) ⟨Same.refl _,Qs _,rfl,.nil⟩ ?_ ?_
  ·rintro i ys H2 hi ⟨s2,_,hyl,hys⟩
   rw [Int.zero_add]
   refine dy ?_
   rw [if_pos rfl]
   refine ⟨_,rfl,_,rfl,_,_,rfl,rfl,x,_,rfl,_,_,rfl,rfl,⟨by decide,by decide,by decide⟩,_,_,rfl,rfl,(by show (0:Int)<10 ^ 18;decide),(by show 2<=sizeLine;decide),fun q hq=>?_⟩
   have sq:=ap (o:=.tup [.str "num",.int (bQ x (4+((i:Nat):Int)) % 10 ^ 18)]) hq
   refine ⟨bV (by omega),s2.trans sq,by omega,by simp [hyl],?_⟩
   rw [List.range_succ,QG]
   exact rG (hys.kept sq.tups) (.num aj)
  ·rintro ys H2 ⟨s2,_,hyl,hys⟩ p hp
   rw [<- ep] at hys
   have hpn:=s2.free hp
   have sp:=ap (o:=.lst ys) hp
   have hys1:=hys.kept sp.tups
   have s1:=s2.trans sp
   have hp1:af H2 p (.lst ys) p=some (.lst ys):=aj
   generalize af H2 p (.lst ys)=H1 at s1 hp1 hys1
   dsimp only [aT]
   rw [rJ] at kq
   have hlz:ys.length=m:=hyl
   refine fz (fun σ' H'=>σ'=[some (.int x),some (.ref l),some (.int ((d:Nat):Int)),some (.ref p)]/\Same H H'/\∃ zs,H' p=some (.lst zs)/\ExsAt H' zs (zF ns d x)) (fun R hR=>?_) ?_
   ·have done:zF ns d x=cR x->∀ {H'},Same H1 H'->R [some (.int x),some (.ref l),some (.int ((d:Nat):Int)),some (.ref p)] H':=fun e H' s=>hR _ _ ⟨rfl,s1.trans s,ys,s _ _ hp1,by rw [e];exact hys1.kept s.tups⟩
    refine ⟨_,rfl,_,_,rfl,rfl,_,rfl,?_⟩
    cases d with
    | zero=>exact a8 (by decide) (c7 (done rfl (Same.refl _)))
    | succ e =>
    refine bt (Qv (by show (0:Int)<((e+1:Nat):Int);omega)) ?_
    obtain ⟨ds,h1,h2,h3⟩:=rK (K:=K) (by rw [ep] at hys1;exact hys1)
    rw [List.length_range] at h3
    have shl:SeqAt.shaped (.list ds)=true:=(bS.list h2).ok (by decide)
    refine ⟨_,rfl,Qs _,fun q2 hq2=>?_⟩
    have s3:=ap (o:=.lst []) hq2
    refine ⟨.list ds,.list [],.lst (al.of (s3 _ _ hp1)) (h1.kept s3),.lst (al.of aj) .nil,shl,by rfl,_,rfl,?_⟩
    rw [zR,h3]
    by_cases hm0:m=0
    ·exact a8 (by rw [Qv hm0];rfl) (c7 (done (by rw [zF,if_neg (fun z=>z.1 (by rw [em];exact hm0))]) s3))
    refine bt (by rw [Qi hm0];rfl) ?_
    refine ⟨_,rfl,_,_,rfl,rfl,⟨by decide,by decide⟩,_,_,rfl,rfl,(by show (0:Int)<3;decide),rfl,_,rfl,?_⟩
    by_cases h43:x / 4 % 3=0
    ·refine bt (Qv (congrArg V.int h43)) ?_
     refine ⟨_,rfl,_,_,rfl,_,rfl,_,rfl,_,_,rfl,rfl,bQ x 8,l,ns,e,?_,by omega,s3 _ _ (s1 _ _ hl),hn,fun v H4 s4 hv=>?_⟩
     ·show _=[V.int (bQ x 8),V.ref l,V.int ((e:Nat):Int)]
      rw [<- show ((e+1:Nat):Int)-1=((e:Nat):Int) by omega];rfl
     have s5:=s3.trans s4
     have hp4:=s5 _ _ hp1
     refine ⟨_,rfl,_,rfl,p,ys,-1,ys.length-1,rfl,rfl,hp4,?_,?_⟩
     ·unfold eK
      rw [if_neg (by omega),if_pos (by omega)]
      congr 1
      omega
     refine hR _ _ ⟨rfl,j0 (s1.trans s5) hpn _,_,aj,?_⟩
     rw [zF,if_pos ⟨by rw [em];exact hm0,h43⟩]
     have tk:∀ b xs,H4 b=some (.tup xs)->af H4 p (.lst (ys.set (ys.length-1) v)) b=some (.tup xs):=fun b xs h=>by rw [av (fun z=>by rw [z,hp4] at h;cases h)];exact h
     exact (rH (hys1.kept s5.tups) (fun z=>hm0 (by rw [<- hlz,z];rfl)) hv).kept tk
    ·exact a8 (Qi (fun z=>h43 (by injection z))) (done (by rw [zF,if_neg (fun z=>h43 z.2)]) s3)
   ·rintro σ' H3 ⟨rfl,s3,zs,hp3,hz3⟩
    obtain ⟨j,ej,hj⟩:=d8 (a:=x / 12) (n:=2) (by decide)
    have ej:x / 12 % 2=((j:Nat):Int):=ej
    obtain ⟨g,eg,hg⟩:=d8 (a:=x / 24) (n:=4) (by decide)
    have eg:x / 24 % 4=((g:Nat):Int):=eg
    have e1:wF x=fH.getD j "":=by unfold wF;rw [ej,Int.toNat_natCast]
    have e2:gA ns x=ns.getD g "":=by unfold gA;rw [eg,Int.toNat_natCast]
    rw [e1,e2] at kq
    refine ⟨(by show 2<=sizeLine;decide),fun q hq=>?_⟩
    have s4:=ap (o:=.lst (fH.map V.str)) hq
    refine ⟨_,rfl,_,_,rfl,rfl,⟨by decide,by decide⟩,_,_,rfl,rfl,(by show (0:Int)<2;decide),q,_,_,.str (fH.getD j ""),rfl,rfl,al.of aj,?_,?_⟩
    ·show dw _ (x / 12 % 2)=_
     rw [ej];exact aA (zQ hj)
    refine ⟨_,rfl,_,rfl,_,_,rfl,rfl,⟨by decide,by decide⟩,_,_,rfl,rfl,(by show (0:Int)<4;decide),l,_,_,.str (ns.getD g ""),rfl,rfl,al.of (s4 _ _ (s3 _ _ hl)),?_,?_⟩
    ·show dw _ (x / 24 % 4)=_
     rw [eg];exact aA (iG (by omega))
    refine ⟨_,rfl,p,zs,rfl,.inl ⟨al.of (s4 _ _ hp3),fun q2 hq2=>?_⟩⟩
    have s5:=ap (o:=.tup zs) hq2
    refine ⟨(by show 3<=sizeLine;decide),fun q3 hq3=>?_⟩
    have s6:=ap (o:=.tup [.str (fH.getD j ""),.str (ns.getD g ""),.ref q2]) hq3
    have s456:=(s4.trans s5).trans s6
    exact kq _ _ (s3.trans s456) (.many aj (s6 _ _ aj) (hz3.kept s456.tups))
theorem zT (T:All P w K mg AA DD):az P w K mg base aE (0+1) AA.ZD DD.ZD ["_law_number","_law_names_here","_law_deep"] (iH 0):=by
 have no:∀ vs H Q E,¬ iH 0 vs H Q E:=fun vs H Q E h=>by
  obtain ⟨x,l,ns,d,_,z,_⟩:=h
  omega
 exact T.F_ZD.ok mz (fun vs H Q E h=>(no _ _ _ _ h).elim) (fun cdv A outer s H vs Q E hr h=>(no _ _ _ _ h).elim)
theorem rM (T:All P w K mg AA DD):∀ k:Nat,az P w K mg base aE (k+1) AA.ZD DD.ZD ["_law_number","_law_names_here","_law_deep"] (iH k)
 | 0=>zT T
 | k+1=>zS T k (rM T k)
end
section
variable {P:Program} {w:World} {K:W.Frag} {mg:Str->Option Value} {base:Heap} {AA:cx} {DD:cy}
noncomputable def cE (H:Hp) (us:List Addr) (f:Nat->Str × Str):Prop:=∀ (j:Nat) (u:Addr),us[j]?=some u->H u=some (.tup [.str (f j).1,.str (f j).2])
theorem cE.snoc {H H':Hp} {us:List Addr} {f:Nat->Str × Str} {q:Addr} (h:cE H us f) (s:Same H H') (hq:H' q=some (.tup [.str (f us.length).1,.str (f us.length).2])):cE H' (us++[q]) f:=fun j u e=>by
 by_cases hj:j<us.length
 ·rw [QA hj] at e
  exact s _ _ (h j u e)
 ·have hj0:j=us.length:=by have:=(Qe e).1;simp at this;omega
  subst hj0
  rw [Qy (Qh _),Nat.sub_self] at e
  have:u=q:=by simpa using e.symm
  rw [this];exact hq
theorem cE.prs {H:Hp} {us:List Addr} {f:Nat->Str × Str} {t:Addr} (h:cE H us f) (ht:H t=some (.tup (us.map V.ref))):d0 H (.ref t) ((List.range us.length).map f) :=
 ⟨t,us,rfl,ht,by simp,fun i u q e1 e2=>by
  have hi:=(Qe e1).1
  rw [Qk,List.getElem?_range hi] at e2
  have:f i=q:=Qj e2
  rw [<- this];exact h i u e1⟩
noncomputable abbrev dD:Str:="abc"
theorem j2:dD.length=3:=by decide +kernel
noncomputable def gB (k:Nat):Str:=⟨#[dD.cps.toList.getD k 0]⟩
noncomputable abbrev gC:List Str:=["num","truth"]
theorem zU {j:Nat} (h:j<2):(gC.map V.str)[j]?=some (.str (gC.getD j "")):=iG h
noncomputable def fI (ns:List Str) (x:Int) (k:Nat):Str × Str:=(gB k,eZ ns (bQ x ((k:Nat):Int)))
noncomputable def iI (x:Int) (k:Nat):Str × Str:=(gB k,gC.getD (bQ x ((k:Nat):Int) % 2).toNat "")
noncomputable def e8 (ns:List Str) (x:Int):Str:=ns.getD (x / 7 % 4).toNat ""
noncomputable def iJ (ns:List Str) (x:Int) (r:Nat):Tr :=
 if x % 7<2 then .df r (e8 ns x) (eZ ns (x / 28 / 8)) ((List.range (x / 28 % 4).toNat).map (fI ns x)) (if (x / 28 / 4 % 2 == 1)=true then [.give (r+1) (.num 0)] else [])
 else if x % 7<4 then .kd r (e8 ns x) ((List.range (x / 28 % 4).toNat).map (iI x)) else .tell r (e7 ns 3 (x / 28))
noncomputable def bU (H G:Hp):Prop:=∀ b xs,H b=some (.tup xs)->G b=some (.tup xs)
noncomputable def zV (H0 H G:Hp):Prop:=∀ c zs,H0 c=none->H c=some (.lst zs)->G c=some (.lst zs)
theorem cE.tp {H G:Hp} {us:List Addr} {f:Nat->Str × Str} (h:cE H us f) (g:bU H G):cE G us f:=fun j u e=>g _ _ (h j u e)
noncomputable def zW:Sp:=fun vs H Q _=>∃ (x:Int) (r:Nat) (l:Addr) (ns:List Str),vs=[.int x,.int ((r:Nat):Int),.ref l]/\H l=some (.lst (ns.map V.str))/\ns.length=4/\∀ v H',Same H H'->(∀ G,bU H' G->zV H H' G->bi G false v (iJ ns x r))->Q v H'
noncomputable abbrev mB:List Str:=["_law_number","_law_at","_law_names_here","_law_name","_law_more","_law_params","_law_body","_law_fields"]
theorem rN:aS mB ["_law_number","_law_at","_law_names_here"] (aG ip):=⟨rfl,rfl,rfl,by decide +kernel,rfl,by decide +kernel,by decide +kernel⟩
theorem zX (T:All P w K mg AA DD):az P w K mg base aE 6 AA.ZG DD.ZG ["_law_number","_law_at","_law_names_here"] zW:=by
 have GX:=mw (base:=base) T
 have GK:=zP (base:=base) T
 have GC:=rM (base:=base) T 4
 refine T.F_ZG.ok rN (fun vs H Q E h=>?_) (fun cdv A outer s H vs Q E hr h=>?_)
 ·obtain ⟨x,r,l,ns,rfl,_⟩:=h
  rfl
 ·obtain ⟨x,r,l,ns,rfl,hl,hn,kq⟩:=h
  have nd:=rN.nd
  have hrC:aw 5 _:=hr
  have hr1:aw 1 _:=hrC.mono (by omega)
  have hu:=hr.units
  refine ⟨_,(aH (@bq _ _ 3 _ _ _ _ nd rfl (Or.inl rfl) (aD (f6 (K:=K) rfl) (pv 2) (aB bR (aB dH (pv 0) ah) ah) (fun _ _=>rfl)) (by rfl) (by first | exact .inl rfl | exact .inr rfl | assumption)) (aH (@bq _ _ 4 _ _ _ _ nd rfl (Or.inl rfl) (aB dH (pv 0) ah) (by rfl) (by first | exact .inl rfl | exact .inr rfl | assumption)) (aH (be (aU ki (aB bR (pv 0) ah) ah (bb _)) (aH (kM (i:=5) (aG ip) mB ["_law_number","_law_names_here"] [0,2] rfl (by exact ⟨rfl,rfl,by decide +kernel,rfl,by decide +kernel,by decide +kernel,by decide +kernel,rfl,by decide +kernel⟩) rfl rfl (iQ rfl T.n_range (ae (aB bR (pv 4) ah) ag)) (fun _ _ _ _=>dz) (fun _ _ _ _=>(bm (ae (aD ky aL (pv 0) (fun _ _=>rfl)) (ae (aN GK hr1 rfl T.m_ZC T.k_ZC T.b_ZC .nil aI (ae (aN GX hr1 rfl T.m_Zv T.k_Zv T.b_Zv .nil aI (ae (pv 1) (ae (pv 0) ag))) (ae (pv 2) ag))) ag)))) nd rfl rfl rfl) (aH (@bq _ _ 6 _ _ _ _ nd rfl (Or.inl rfl) (b5 ag) (by rfl) (by first | exact .inl rfl | exact .inr rfl | assumption)) (aH (be (aU cf (aB bR (aB dH (pv 4) ah) ah) ah (bb _)) (aq (bL (gT PySem.F.plainAttrs_list PySem.F.slot_list_append PySem.F.type_list_append gU (pv 6) (ae (bm (ae aL (ae (aB ei (pv 1) ah) (ae (bm (ae aL (ae ah ag))) ag)))) ag)) (by rfl))) bx) (aq (aP (bm (ae aL (ae (pv 1) (ae (pv 3) (ae (aN GK hr1 rfl T.m_ZC T.k_ZC T.b_ZC .nil aI (ae (aB dH (pv 4) ah) (ae (pv 2) ag))) (ae (fo gS rfl T.n_tuple f7 (ae (pv 5) ag)) (ae (pv 6) ag)))))))))))) bx) (aH (be (aU ki (aB bR (pv 0) ah) ah (bb _)) (aH (kM (i:=7) (aG ip) mB ["_law_number"] [0] rfl (by exact ⟨rfl,rfl,by decide +kernel,rfl,by decide +kernel,by decide +kernel,by decide +kernel,rfl,by decide +kernel⟩) rfl rfl (iQ rfl T.n_range (ae (aB bR (pv 4) ah) ag)) (fun _ _ _ _=>dz) (fun _ _ _ _=>(bm (ae (aD ky aL (pv 0) (fun _ _=>rfl)) (ae (aD (f6 (K:=K) rfl) (b5 (ae aL (ae aL ag))) (aB bR (aN GX hr1 rfl T.m_Zv T.k_Zv T.b_Zv .nil aI (ae (pv 1) (ae (pv 0) ag))) ah) (fun _ _=>rfl)) ag)))) nd rfl rfl rfl) (aq (aP (bm (ae aL (ae (pv 1) (ae (pv 3) (ae (fo gS rfl T.n_tuple f7 (ae (pv 7) ag)) ag)))))))) bx) (aq (aP (bm (ae aL (ae (pv 1) (ae (aN GC hrC rfl T.m_ZD T.k_ZD T.b_ZD .nil aI (ae (pv 4) (ae (pv 2) (ae ah ag)))) ag)))))))))),?_⟩
  obtain ⟨j,ej,hj⟩:=d8 (a:=x / 7) (n:=4) (by decide)
  have ej:x / 7 % 4=((j:Nat):Int):=ej
  have en:e8 ns x=ns.getD j "":=by unfold e8;rw [ej,Int.toNat_natCast]
  refine ⟨_,rfl,_,rfl,_,_,rfl,rfl,⟨by decide,by decide⟩,_,_,rfl,rfl,(by show (0:Int)<4;decide),l,_,_,.str (ns.getD j ""),rfl,rfl,al.of hl,?_,?_⟩
  ·show dw _ (x / 7 % 4)=_
   rw [ej];exact aA (iG (by omega))
  rw [<- en]
  dsimp only [aT]
  refine ⟨_,rfl,_,_,rfl,rfl,⟨by decide,by decide⟩,?_⟩
  dsimp only [aT]
  obtain ⟨m,em,hm⟩:=d8 (a:=x / 28) (n:=4) (by decide)
  have em:x / 28 % 4=((m:Nat):Int):=em
  unfold iJ at kq
  rw [em,Int.toNat_natCast] at kq
  refine ⟨_,rfl,_,_,rfl,rfl,(by show (0:Int)<7;decide),_,_,rfl,rfl,_,rfl,?_⟩
  refine fY (fun h1=>?_) (fun h1=>?_)
  ·rw [if_pos (show x % 7<2 from of_decide_eq_true h1)] at kq
   refine ⟨_,rfl,_,_,rfl,rfl,(by show (0:Int)<4;decide),_,rfl,?_,?_,?_⟩
   ·show _<=x / 28 % 4;omega
   ·show x / 28 % 4<_;omega
   show eQ (dU 0 (x / 28 % 4).toNat) _ _ _ _ _ _
   rw [em,Int.toNat_natCast]
   refine kF (fun i ys H'=>Same H H'/\i<=4/\∃ us:List Addr,ys=us.map V.ref/\us.length=i/\cE H' us (fI ns x)) ⟨Same.refl _,Qs _,[],rfl,rfl,fun j u h=>by simp at h⟩ ?_ ?_
   ·rintro i ys H2 hi ⟨s2,_,us,rfl,hul,hus⟩
    rw [Int.zero_add]
    refine dy ?_
    rw [if_pos rfl]
    have hi3:i<dD.cps.toList.length:=by rw [iE,j2];omega
    have eab:gB i=⟨#[dD.cps.toList[i]]⟩:=by unfold gB;rw [Qf,Qb hi3];rfl
    refine ⟨_,rfl,dD,_,dD.cps.toList[i],rfl,rfl,(by rw [j2];decide),aA (Qb hi3),_,rfl,_,rfl,x,_,rfl,_,rfl,_,l,ns,rfl,s2 _ _ hl,hn,(by show 2<=sizeLine;decide),fun q hq=>?_⟩
    have sq:=ap (o:=.tup [.str ⟨#[dD.cps.toList[i]]⟩,.str (eZ ns (bQ x ((i:Nat):Int)))]) hq
    refine ⟨by rw [Qg];exact bV (by omega),s2.trans sq,by omega,us++[q],by simp,by simp [hul],hus.snoc sq ?_⟩
    rw [hul,fI,eab]
    exact aj
   ·rintro ys H2 ⟨s2,_,us,rfl,hul,hus⟩ p hp
    have sp:=ap (o:=.lst (us.map V.ref)) hp
    have hus1:cE (af H2 p (.lst (us.map V.ref))) us (fI ns x):=fun j u e=>sp _ _ (hus j u e)
    have s1:=s2.trans sp
    have hp1:af H2 p (.lst (us.map V.ref)) p=some (.lst (us.map V.ref)):=aj
    generalize af H2 p (.lst (us.map V.ref))=H1 at s1 hp1 hus1
    dsimp only [aT]
    refine ⟨Qs _,fun b hb=>?_⟩
    have sb:=ap (o:=.lst []) hb
    have s3:=s1.trans sb
    have hbn:H b=none:=s1.free hb
    have hus3:cE (af H1 b (.lst [])) us (fI ns x):=fun j u e=>sb _ _ (hus1 j u e)
    have hp3:=sb _ _ hp1
    have hb3:af H1 b (.lst []) b=some (.lst []):=aj
    generalize af H1 b (.lst [])=H3 at s3 hus3 hp3 hb3
    dsimp only [aT]
    refine fz (fun σ' H'=>σ'=[some (.int x),some (.int ((r:Nat):Int)),some (.ref l),some (.str (e8 ns x)),some (.int (x / 28)),some (.ref p),some (.ref b),none]/\Same H H'/\H' p=some (.lst (us.map V.ref))/\cE H' us (fI ns x)/\∃ zs,H' b=some (.lst zs)/\∀ G,bU H' G->LAt G false zs (if (x / 28 / 4 % 2 == 1)=true then [.give (r+1) (.num 0)] else [])) (fun R hR=>?_) ?_
    ·refine ⟨_,rfl,_,_,rfl,rfl,⟨by decide,by decide⟩,_,_,rfl,rfl,(by show (0:Int)<2;decide),rfl,_,rfl,?_⟩
     dsimp only
     rw [gN]
     refine fY (fun h2=>?_) (fun h2=>?_)
     ·refine ⟨_,rfl,.inl ⟨rfl,_,al.of hb3⟩,_,rfl,_,_,rfl,rfl,(by show 2<=sizeLine;decide),fun t1 ht1=>⟨(by show 3<=sizeLine;decide),fun t2 ht2=>?_⟩⟩
      have st:=(ap (o:=.tup [.str "num",.int 0]) ht1).trans (ap (o:=.tup [.str "give",.int (((r+1:Nat)):Int),.ref t1]) ht2)
      have h1':=ap (o:=.tup [.str "give",.int (((r+1:Nat)):Int),.ref t1]) ht2 _ _ (aj (H:=H3) (a:=t1) (o:=.tup [.str "num",.int 0]))
      have h2':af (af H3 t1 (.tup [.str "num",.int 0])) t2 (.tup [.str "give",.int (((r+1:Nat)):Int),.ref t1]) t2=_:=aj
      have hne:p≠b:=fun z=>by rw [z,hb] at hp1;cases hp1
      refine ⟨b,[],_,rfl,rfl,st _ _ hb3,(by show 0<sizeLine;decide),hR _ _ ⟨rfl,j0 (s3.trans st) hbn _,by rw [av hne];exact st _ _ hp3,fun j u e=>?_,_,aj,?_⟩⟩
      ·have:=hus3 j u e
       rw [av (fun z=>by rw [z,hb3] at this;cases this)]
       exact st _ _ this
      ·intro G hG
       rw [if_pos h2]
       have ne:∀ {a xs},af (af H3 t1 (.tup [.str "num",.int 0])) t2 (.tup [.str "give",.int (((r+1:Nat)):Int),.ref t1]) a=some (.tup xs)->a≠b:=fun h z=>by rw [z,st _ _ hb3] at h;cases h
       refine .cons (.plain rfl (.mk (hG _ _ (by rw [av (ne h2')];exact h2')) (.cons (.s _) (.cons (.i (r+1)) (.cons (.e (.num (hG _ _ (by rw [av (ne h1')];exact h1')))) .nil))))) .nil
     ·exact hR _ _ ⟨rfl,s3,hp3,hus3,[],hb3,fun G _=>by rw [if_neg h2];exact .nil⟩
    ·rintro σ' H4 ⟨rfl,s4,hp4,hus4,zs,hb4,hL4⟩
     refine ⟨_,rfl,_,rfl,_,rfl,_,_,rfl,rfl,⟨by decide,by decide⟩,_,rfl,_,l,ns,rfl,s4 _ _ hl,hn,?_⟩
     refine ⟨_,rfl,p,us.map V.ref,rfl,.inl ⟨al.of hp4,fun q2 hq2=>?_⟩⟩
     have s5:=ap (o:=.tup (us.map V.ref)) hq2
     refine ⟨_,rfl,(by show 6<=sizeLine;decide),fun q3 hq3=>?_⟩
     have s6:=ap (o:=.tup [.str "def",.int ((r:Nat):Int),.str (e8 ns x),.str (eZ ns (x / 28 / 8)),.ref q2,.ref b]) hq3
     have s56:=s5.trans s6
     have hus6:cE _ us (fI ns x):=fun j u e=>s56 _ _ (hus4 j u e)
     refine kq _ _ (s4.trans s56) fun G hG hN=>.mk (hG _ _ aj) (.cons (.s _) (.cons (.i _) (.cons (.s _) (.cons (.s _) (.cons (.p ?_) (.cons (.b (hN _ _ hbn (s56 _ _ hb4)) (hL4 G fun c xs e=>hG _ _ (s56 _ _ e))) .nil))))))
     have:=(hus6.tp hG).prs (hG _ _ (s6 _ _ aj))
     rw [hul] at this
     exact this
  rw [if_neg (show ¬ x % 7<2 from fun z=>h1 (Qv z))] at kq
  refine ⟨_,rfl,_,_,rfl,rfl,(by show (0:Int)<7;decide),_,_,rfl,rfl,_,rfl,?_⟩
  refine fY (fun h2=>?_) (fun h2=>?_)
  ·rw [if_pos (show x % 7<4 from of_decide_eq_true h2)] at kq
   refine ⟨_,rfl,_,_,rfl,rfl,(by show (0:Int)<4;decide),_,rfl,?_,?_,?_⟩
   ·show _<=x / 28 % 4;omega
   ·show x / 28 % 4<_;omega
   show eQ (dU 0 (x / 28 % 4).toNat) _ _ _ _ _ _
   rw [em,Int.toNat_natCast]
   refine kF (fun i ys H'=>Same H H'/\i<=4/\∃ us:List Addr,ys=us.map V.ref/\us.length=i/\cE H' us (iI x)) ⟨Same.refl _,Qs _,[],rfl,rfl,fun j u h=>by simp at h⟩ ?_ ?_
   ·rintro i ys H2 hi ⟨s2,_,us,rfl,hul,hus⟩
    rw [Int.zero_add]
    refine dy ?_
    rw [if_pos rfl]
    have hi3:i<dD.cps.toList.length:=by rw [iE,j2];omega
    have eab:gB i=⟨#[dD.cps.toList[i]]⟩:=by unfold gB;rw [Qf,Qb hi3];rfl
    obtain ⟨g,eg,hg⟩:=d8 (a:=bQ x ((i:Nat):Int)) (n:=2) (by decide)
    have eg:bQ x ((i:Nat):Int) % 2=((g:Nat):Int):=eg
    refine ⟨_,rfl,dD,_,dD.cps.toList[i],rfl,rfl,(by rw [j2];decide),aA (Qb hi3),(by show 2<=sizeLine;decide),fun pk hpk=>?_⟩
    have s1:=ap (o:=.lst (gC.map V.str)) hpk
    refine ⟨_,rfl,_,rfl,x,_,rfl,_,_,rfl,rfl,(by show (0:Int)<2;decide),pk,_,_,.str (gC.getD g ""),rfl,rfl,al.of aj,?_,(by show 2<=sizeLine;decide),fun q hq=>?_⟩
    ·show dw _ (bQ x ((i:Nat):Int) % 2)=_
     rw [eg];exact aA (zU hg)
    have sq:=s1.trans (ap (o:=.tup [.str ⟨#[dD.cps.toList[i]]⟩,.str (gC.getD g "")]) hq)
    refine ⟨by rw [Qg];exact bV (by omega),s2.trans sq,by omega,us++[q],by simp,by simp [hul],hus.snoc sq ?_⟩
    rw [hul,iI,eab,eg,Int.toNat_natCast]
    exact aj
   ·rintro ys H2 ⟨s2,_,us,rfl,hul,hus⟩ p hp
    have sp:=ap (o:=.lst (us.map V.ref)) hp
    have hus1:cE (af H2 p (.lst (us.map V.ref))) us (iI x):=fun j u e=>sp _ _ (hus j u e)
    have s1:=s2.trans sp
    have hp1:af H2 p (.lst (us.map V.ref)) p=some (.lst (us.map V.ref)):=aj
    generalize af H2 p (.lst (us.map V.ref))=H1 at s1 hp1 hus1
    dsimp only [aT]
    refine ⟨_,rfl,_,rfl,_,rfl,p,us.map V.ref,rfl,.inl ⟨al.of hp1,fun q2 hq2=>?_⟩⟩
    have s5:=ap (o:=.tup (us.map V.ref)) hq2
    refine ⟨(by show 4<=sizeLine;decide),fun q3 hq3=>?_⟩
    have s6:=ap (o:=.tup [.str "kind",.int ((r:Nat):Int),.str (e8 ns x),.ref q2]) hq3
    have s56:=s5.trans s6
    have hus6:cE _ us (iI x):=fun j u e=>s56 _ _ (hus1 j u e)
    refine kq _ _ (s1.trans s56) fun G hG _=>.mk (hG _ _ aj) (.cons (.s _) (.cons (.i _) (.cons (.s _) (.cons (.p ?_) .nil))))
    have:=(hus6.tp hG).prs (hG _ _ (s6 _ _ aj))
    rw [hul] at this
    exact this
  rw [if_neg (show ¬ x % 7<4 from fun z=>h2 (Qv z))] at kq
  refine ⟨_,rfl,_,rfl,_,rfl,_,l,ns,3,rfl,by omega,hl,hn,fun v H2 s2 hv=>?_⟩
  refine ⟨(by show 3<=sizeLine;decide),fun q3 hq3=>?_⟩
  have s6:=ap (o:=.tup [.str "tell",.int ((r:Nat):Int),v]) hq3
  exact kq _ _ (s2.trans s6) fun G hG _=>.mk (hG _ _ aj) (.cons (.s _) (.cons (.i _) (.cons (.e ((hv.kept s6.tups).kept hG)) .nil)))
end
section
variable {P:Program} {w:World} {K:W.Frag} {mg:Str->Option Value} {base:Heap} {AA:cx} {DD:cy}
theorem zY {ts:List Tr} {i:Nat} {t:Tr} {k:Str × Str} (h:ts[i]?=some t) (hn:a9 k (ts.take i)=none) (hk:t.hd=some k):a9 k ts=some t:=by
 obtain ⟨hi,e⟩:=Qe h
 have es:ts=ts.take i++t::ts.drop (i+1):=by
  rw [<- e,List.getElem_cons_drop hi,List.take_append_drop]
 unfold a9 at hn ⊢
 rw [es,List.find?_append,hn]
 simp [hk]
theorem zZ {ts:List Tr} {i:Nat} {t:Tr} {k:Str × Str} (h:ts[i]?=some t) (hn:a9 k (ts.take i)=none) (hk:t.hd≠some k):a9 k (ts.take (i+1))=none:=by
 obtain ⟨hi,e⟩:=Qe h
 rw [Qp hi,jS,hn,e,if_neg hk]
 rfl
theorem rO {ts:List Tr} {t:Tr} {k:Str × Str} (h:a9 k ts=some t):t.hd=some k:=by
 have:=List.find?_some h
 exact of_decide_eq_true this
noncomputable def z0:Sp:=fun vs H Q _=>∃ (l:Addr) (xs:List V) (ts:List Tr) (a z:Str),vs=[.ref l,.str a,.str z]/\a∈fF/\H l=some (.lst xs)/\LAt H false xs ts/\(a9 (a,z) ts=none->Q .non H)/\∀ v t,a9 (a,z) ts=some t->bi H false v t->Q v H
noncomputable abbrev z4:List Str:=["_law_tree","_law_word_here","_law_name","_law_row_here"]
theorem rP:aS z4 ["_law_tree","_law_word_here","_law_name"] (aG lN):=⟨rfl,rfl,rfl,by decide +kernel,rfl,by decide +kernel,by decide +kernel⟩
theorem rQ (T:All P w K mg AA DD):az P w K mg base aE 1 AA.Zx DD.Zx ["_law_tree","_law_word_here","_law_name"] z0:=by
 refine T.F_Zx.ok rP (fun vs H Q E h=>?_) (fun cdv A outer s H vs Q E hr h=>?_)
 ·obtain ⟨l,xs,ts,a,z,rfl,_⟩:=h
  rfl
 ·obtain ⟨l,xs,ts,a,z,rfl,ha,hl,hL,k0,k1⟩:=h
  have nd:=rP.nd
  refine ⟨_,(aH (cG PassesOwn.never rfl (ck (pv 0)) (ba (i:=3) nd rfl (Or.inl rfl)) (aq (be (PW.pt (gH (aU cf (aD (aJ (K:=K) rfl) (pv 3) ah (fun _ _=>rfl)) (pv 1) (bb _)) (j8 (aU cf (aD (aJ (K:=K) rfl) (pv 3) ah (fun _ _=>rfl)) (pv 2) (bb _))))) (aq (aP (pv 3))) bx)) (by intro _;rfl)) (aq (aP mR))),?_⟩
  have hxl:=hL.length
  refine eS (fun σ' H'=>H'=H/\a9 (a,z) ts=none) (fun R hR=>?_) ?_
  ·refine ⟨_,rfl,l,rfl,⟨_,al.of hl⟩,?_⟩
   refine dF (K:=K) (a:=l) (xs:=xs) (fun i σ' H'=>H'=H/\a9 (a,z) (ts.take i)=none/\∃ x3,σ'=[some (.ref l),some (.str a),some (.str z),x3]) ⟨rfl,by simp [a9],_,rfl⟩ (fun i σ' H' _ h=>by rw [h.1];exact al.of hl) ?_ ?_
   ·rintro i x σ' H1 hx ⟨rfl,hn,x3,rfl⟩
    obtain ⟨t,ht,hO⟩:=hL.get hx
    cases hO with
    | shared e _ _=>cases e
    | @plain v _ _ hS =>
    have hS0:=hS
    cases hS with
    | @mk t0 vs _ ht0 hps =>
    have hda:=jT hps
    obtain ⟨vr,rfl⟩:=iA hps
    refine ⟨_,rfl,t0,_,_,_,rfl,rfl,ai.of ht0,aA (j:=0) rfl,_,rfl,rfl,_,rfl,?_⟩
    have no:t.hd≠some (a,z)->H1=H1/\a9 (a,z) (ts.take (i+1))=none/\∃ x3',[some (V.ref l),some (.str a),some (.str z),some (.ref t0)]=[some (.ref l),some (.str a),some (.str z),x3']:=fun h=>⟨rfl,zZ ht hn h,_,rfl⟩
    rcases hda with ⟨hh,hn2⟩ | ⟨hh,y,r,hz,ev⟩
    ·refine a8 (Qi fun q=>hh (by injection q with q;rw [q];exact ha)) (c7 (no (by rw [hn2];exact fun z=>nomatch z)))
    ·have ev2:vr=.str y::r:=by injection ev with _ q;injection q
     subst ev2
     by_cases hw:t.kw=a
     ·refine bt (Qv (congrArg V.str hw)) ?_
      refine ⟨_,rfl,t0,_,_,_,rfl,rfl,ai.of ht0,aA (j:=2) rfl,_,rfl,rfl,_,rfl,?_⟩
      by_cases hy:y=z
      ·refine bt (Qv (congrArg V.str hy)) ?_
       exact ⟨_,rfl,k1 _ t (zY ht hn (by rw [hz,hw,hy])) hS0⟩
      ·exact a8 (Qi fun q=>hy (by injection q)) (no (by rw [hz];exact fun q=>hy (by injection q with q;injection q)))
     ·exact a8 (Qi fun q=>hw (by injection q)) (c7 (no (by rw [hz];exact fun q=>hw (by injection q with q;injection q))))
   ·rintro σ' H1 ⟨rfl,hn,x3,rfl⟩
    rw [Qu (by omega)] at hn
    exact hR _ _ ⟨rfl,hn⟩
  ·rintro σ' H1 ⟨rfl,hn⟩
   exact k0 hn
mutual
noncomputable def bA:Ex->List Ex
 | .many w z es=>.many w z es::callsL es
 | .num _=>[]
 | .truth _=>[]
 | .name _=>[]
 | .not _=>[]
 | .op _ _ _=>[]
 | .of _ _=>[]
noncomputable def callsL:List Ex->List Ex
 | []=>[]
 | e::es=>bA e++callsL es
end
theorem rR:∀ {es:List Ex} {i:Nat} {e:Ex},es[i]?=some e->callsL (es.take (i+1))=callsL (es.take i)++bA e/\(callsL (es.take i)).length+(bA e).length<=(callsL es).length
 | x::es,0,e,h=>by
  cases (show some x=some e from h)
  simp [callsL]
 | x::es,i+1,e,h=>by
  obtain ⟨a,b⟩:=rR (es:=es) (i:=i) h
  simp [callsL,a]
  omega
theorem rS {H:Hp}:∀ {vs ws:List V} {es fs:List Ex},ExsAt H vs es->ExsAt H ws fs->ExsAt H (vs++ws) (es++fs)
 | _,_,_,_,.nil,h=>h
 | _,_,_,_,.cons a b,h=>.cons a (rS b h)
noncomputable def iK (k:Nat):Sp:=fun vs H Q _=>∃ (v:V) (w z:Str) (es:List Ex),vs=[v]/\aW H v (.many w z es)/\(Ex.many w z es).cal/\(Ex.many w z es).deep<k/\(bA (.many w z es)).length<800/\∀ p ys H',Same H H'->H' p=some (.lst ys)->ExsAt H' ys (bA (.many w z es))->Q (.ref p) H'
noncomputable abbrev z5:List Str:=["_law_e","_law_found","_law_part"]
theorem mC:aS z5 ["_law_e"] (aG lO):=⟨rfl,rfl,rfl,by decide +kernel,rfl,by decide +kernel,by decide +kernel⟩
theorem z6 (T:All P w K mg AA DD) (k:Nat) (GCS:az P w K mg base aE (k+1) AA.Zy DD.Zy ["_law_e"] (iK k)):az P w K mg base aE (k+1+1) AA.Zy DD.Zy ["_law_e"] (iK (k+1)):=by
 refine T.F_Zy.ok mC (fun vs H Q E h=>?_) (fun cdv A outer s H vs Q E hr h=>?_)
 ·obtain ⟨v,w,z,es,rfl,_⟩:=h
  rfl
 ·obtain ⟨v,w,z,es,rfl,hE,hc,hd,hlen,kq⟩:=h
  have nd:=mC.nd
  have hrC:aw (k+1) _:=hr
  refine ⟨_,(aH (@bq _ _ 1 _ _ _ _ nd rfl (Or.inl rfl) (b5 (ae (pv 0) ag)) (by rfl) (by first | exact .inl rfl | exact .inr rfl | assumption)) (aH (cG PassesOwn.never rfl (eG (aD (aJ (K:=K) rfl) (pv 0) ah (fun _ _=>rfl))) (ba (i:=2) nd rfl (Or.inl rfl)) (aq (be (aU eA (aD (aJ (K:=K) rfl) (pv 2) ah (fun _ _=>rfl)) aL (bb _)) (aq (@bq _ _ 1 _ _ _ _ nd rfl (Or.inl rfl) (aB gW (pv 1) (aN GCS hrC rfl T.m_Zy T.k_Zy T.b_Zy .nil aI (ae (pv 2) ag))) (by rfl) (by first | exact .inl rfl | exact .inr rfl | assumption))) bx)) (by intro _;rfl)) (aq (aP (pv 1))))),?_⟩
  have hE0:=hE
  cases hE with
  | @many t l _ _ vs _ ht hl hvs =>
  refine ⟨_,rfl,(by show 1<=sizeLine;decide),fun p hp=>?_⟩
  have s1:=ap (o:=.lst [.ref t]) hp
  dsimp only [aT]
  rw [bA,List.length_cons] at hlen
  have hkl:=hvs.len
  refine eS (fun σ' H'=>Same H H'/\∃ p' ys x2,σ'=[some (.ref t),some (.ref p'),x2]/\H' p'=some (.lst ys)/\ExsAt H' ys (bA (.many w z es))) (fun R hR=>?_) ?_
  ·refine ⟨_,rfl,t,_,_,_,rfl,rfl,ai.of (s1 _ _ ht),aA (j:=2) rfl,l,rfl,⟨_,ai.of (s1 _ _ hl)⟩,?_⟩
   refine mY (K:=K) (a:=l) (xs:=vs) (fun i σ' H'=>Same H H'/\∃ p' ys x2,σ'=[some (.ref t),some (.ref p'),x2]/\H' p'=some (.lst ys)/\ExsAt H' ys (.many w z es::callsL (es.take i))) ⟨s1,p,[.ref t],none,rfl,aj,.cons (hE0.kept s1.tups) .nil⟩ (fun i σ' H' _ h=>ai.of (h.1 _ _ hl)) ?_ ?_
   ·rintro i x σ' H1 hx ⟨sm,p',ys,x2,rfl,hp',hys⟩
    obtain ⟨c,hci,hcx⟩:=hvs.get hx
    have hcm:c∈es:=Qt hci
    have hcc:=jR hc.2.2 hcm
    have hcd:=lf hcm
    rw [Ex.deep] at hd
    obtain ⟨et,hle⟩:=rR hci
    rw [et]
    have hcx1:=hcx.kept sm.tups
    have hyl:=hys.len
    rw [List.length_cons] at hyl
    have hcx0:=hcx1
    cases hcx1 with
    | @num t2 n ht2 =>
     refine ⟨_,rfl,t2,_,_,_,rfl,rfl,ai.of ht2,aA (j:=0) rfl,rfl,_,rfl,?_⟩
     refine a8 (by rfl) ?_
     exact ⟨sm,p',ys,_,rfl,hp',by rw [bA,List.append_nil];exact hys⟩
    | @many t2 l2 w2 z2 vs2 es2 ht2 hl2 hvs2 =>
     refine ⟨_,rfl,t2,_,_,_,rfl,rfl,ai.of ht2,aA (j:=0) rfl,rfl,_,rfl,?_⟩
     refine bt (by
      show (!decide (V.str w2=V.str "num"))=true
      rw [Qi fun q=>(md w2 hcc.1).2.2.2 (by injection q)];rfl) ?_
     refine ⟨_,rfl,_,rfl,.ref t2,w2,z2,es2,rfl,hcx0,hcc,by omega,by omega,fun p2 ys2 H2 s2 hp2 hys2=>?_⟩
     have hyl2:=hys2.len
     refine ⟨p',p2,ys,ys2,rfl,rfl,s2 _ _ hp',hp2,Nat.le_of_lt (cp (by omega)),fun l8 hl8=>?_⟩
     have s8:=ap (o:=.lst (ys++ys2)) hl8
     refine ⟨(sm.trans s2).trans s8,l8,_,_,rfl,aj,?_⟩
     have:=rS (hys.kept (s2.trans s8).tups) (hys2.kept s8.tups)
     rw [List.cons_append] at this
     exact this
    | _=>exact hcc.elim
   ·rintro σ' H1 ⟨sm,p',ys,x2,rfl,hp',hys⟩
    rw [Qu (by omega)] at hys
    exact hR _ _ ⟨sm,p',ys,x2,rfl,hp',by rw [bA];exact hys⟩
  ·rintro σ' H1 ⟨sm,p',ys,x2,rfl,hp',hys⟩
   exact ⟨_,rfl,kq p' ys _ sm hp' hys⟩
theorem z7 (T:All P w K mg AA DD):az P w K mg base aE (0+1) AA.Zy DD.Zy ["_law_e"] (iK 0):=by
 have no:∀ vs H Q E,¬ iK 0 vs H Q E:=fun vs H Q E h=>by
  obtain ⟨v,w,z,es,_,_,_,q,_⟩:=h
  omega
 exact T.F_Zy.ok mC (fun vs H Q E h=>(no _ _ _ _ h).elim) (fun cdv A outer s H vs Q E hr h=>(no _ _ _ _ h).elim)
theorem rT (T:All P w K mg AA DD):∀ k:Nat,az P w K mg base aE (k+1) AA.Zy DD.Zy ["_law_e"] (iK k)
 | 0=>z7 T
 | k+1=>z6 T k (rT T k)
noncomputable def fc (w:Str):Str:=if w="do" then "def" else "kind"
noncomputable def fJ (w:Str):Str:=if w="do" then "nofunc" else "nokind"
noncomputable def z8:Sp:=fun vs H Q _=>∃ (l:Addr) (xs:List V) (ts:List Tr) (r:Nat) (v:V) (w z:Str) (es:List Ex),vs=[.ref l,.int ((r:Nat):Int),v]/\H l=some (.lst xs)/\LAt H false xs ts/\aW H v (.many w z es)/\(w="do"∨w="new") /\
 ∀ (p:Addr) (us:List Addr) (H':Hp),Same H H'->H' p=some (.lst (us.map V.ref))->aY H' (us.map V.ref) (b9 ts r (fc w) (fJ w) z es.length)->Q (.ref p) H'
theorem z9 {H:Hp} {p t:Addr} {d:List aa} (hp:af H t (.tup (d.map kV)) p=none):aY (af (af H t (.tup (d.map kV))) p (.lst ([t].map V.ref))) ([t].map V.ref) [d]:=⟨rfl,fun i x k h1 h2=>by
 match i with
 | 0=>cases (show some (V.ref t)=some x from h1);cases (show some d=some k from h2);exact ⟨t,rfl,ap hp _ _ aj⟩
 | i+1=>simp at h1⟩
noncomputable abbrev Aa:List Str:=["_law_tree","_law_at","_law_e","_law_row_here","_law_parts"]
theorem rV:aS Aa ["_law_tree","_law_at","_law_e"] (aG lP):=⟨rfl,rfl,rfl,by decide +kernel,rfl,by decide +kernel,by decide +kernel⟩
theorem Ab (T:All P w K mg AA DD):az P w K mg base aE 2 AA.Zm DD.Zm ["_law_tree","_law_at","_law_e"] z8:=by
 have GF:=rQ (base:=base) T
 refine T.F_Zm.ok rV (fun vs H Q E h=>?_) (fun cdv A outer s H vs Q E hr h=>?_)
 ·obtain ⟨l,xs,ts,r,v,w,z,es,rfl,_⟩:=h
  rfl
 ·obtain ⟨l,xs,ts,r,v,w,z,es,rfl,hl,hL,hE,hw,kq⟩:=h
  have nd:=rV.nd
  have hr1:aw 1 _:=hr
  refine ⟨_,(aH (be (aU cf (aD (aJ (K:=K) rfl) (pv 2) ah (fun _ _=>rfl)) aL (bb _)) (aH (@bq _ _ 3 _ _ _ _ nd rfl (Or.inl rfl) (aN GF hr1 rfl T.m_Zx T.k_Zx T.b_Zx .nil aI (ae (pv 0) (ae aL (ae (aD (aJ (K:=K) rfl) (pv 2) ah (fun _ _=>rfl)) ag)))) (by rfl) (by first | exact .inl rfl | exact .inr rfl | assumption)) (aH (be (j7 (j6 (pv 3))) (aq (aP (b5 (ae (bm (ae (pv 1) (ae aL (ae (aD (aJ (K:=K) rfl) (pv 2) ah (fun _ _=>rfl)) ag)))) ag)))) bx) (aq (@bq _ _ 4 _ _ _ _ nd rfl (Or.inl rfl) (aD (aJ (K:=K) rfl) (pv 3) ah (fun _ _=>rfl)) (by rfl) (by first | exact .inl rfl | exact .inr rfl | assumption))))) (aH (@bq _ _ 3 _ _ _ _ nd rfl (Or.inl rfl) (aN GF hr1 rfl T.m_Zx T.k_Zx T.b_Zx .nil aI (ae (pv 0) (ae aL (ae (aD (aJ (K:=K) rfl) (pv 2) ah (fun _ _=>rfl)) ag)))) (by rfl) (by first | exact .inl rfl | exact .inr rfl | assumption)) (aH (be (j7 (j6 (pv 3))) (aq (aP (b5 (ae (bm (ae (pv 1) (ae aL (ae (aD (aJ (K:=K) rfl) (pv 2) ah (fun _ _=>rfl)) ag)))) ag)))) bx) (aq (@bq _ _ 4 _ _ _ _ nd rfl (Or.inl rfl) (aD (aJ (K:=K) rfl) (pv 3) ah (fun _ _=>rfl)) (by rfl) (by first | exact .inl rfl | exact .inr rfl | assumption)))))) (aH (be (aU eA (c6 gR rfl T.n_len fZ (ae (pv 4) ag)) (c6 gR rfl T.n_len fZ (ae (aD (aJ (K:=K) rfl) (pv 2) ah (fun _ _=>rfl)) ag)) (bb _)) (aq (aP (b5 (ae (bm (ae (pv 1) (ae aL (ae (aD (aJ (K:=K) rfl) (pv 2) ah (fun _ _=>rfl)) ag)))) ag)))) bx) (aq (aP (b5 ag))))),?_⟩
  cases hE with
  | @many t lt _ _ vs _ ht hlt hvs =>
  have hvl:=hvs.len
  have one:∀ (b:Str),b9 ts r (fc w) (fJ w) z es.length=[k3 r b z]->∀ {t1 p:Addr},H t1=none->af H t1 (.tup ((k3 r b z).map kV)) p=none->Q (.ref p) (af (af H t1 (.tup ((k3 r b z).map kV))) p (.lst ([t1].map V.ref))):=fun b e t1 p h1 h2=>kq p [t1] _ ((ap h1).trans (ap h2)) aj (by rw [e];exact z9 h2)
  refine fz (fun σ' H'=>H'=H/\∃ (x3:Option V) (tp:Addr) (us:List Addr) (t':Tr),σ'=[some (.ref l),some (.int ((r:Nat):Int)),some (.ref t),x3,some (.ref tp)]/\H tp=some (.tup (us.map V.ref))/\us.length=t'.prs.length/\a9 (fc w,z) ts=some t') (fun R hR=>?_) ?_
  ·refine ⟨_,rfl,t,_,_,_,rfl,rfl,ai.of ht,aA (j:=0) rfl,rfl,_,rfl,?_⟩
   rcases hw with rfl | rfl
   ·refine bt (Qv rfl) ?_
    refine ⟨_,rfl,_,rfl,t,_,_,_,rfl,rfl,ai.of ht,aA (j:=1) rfl,l,xs,ts,"def",z,rfl,by decide,hl,hL,fun hn=>?_,fun v t' hf hS=>?_⟩
    ·dsimp only [aT]
     refine ⟨_,rfl,_,rfl,bt (Qv rfl) ?_⟩
     refine ⟨_,rfl,_,rfl,t,_,_,_,rfl,rfl,ai.of ht,aA (j:=1) rfl,(by show 3<=sizeLine;decide),fun t1 ht1=>⟨(by show 1<=sizeLine;decide),fun p hp=>?_⟩⟩
     exact one "nofunc" (by unfold b9 fc fJ;rw [if_pos rfl,if_pos rfl,hn]) ht1 hp
    ·have hhd:t'.hd=some (("def":Str),z):=rO hf
     cases t' with
     | df r2 n kd ps b =>
      obtain ⟨t0,vp,lb,zs,rfl,ht0,hp,_⟩:=jQ hS
      obtain ⟨tp,us,rfl,htp,hul,_⟩:=hp
      dsimp only [aT]
      refine ⟨_,rfl,_,rfl,a8 (Qi fun q=>nomatch q) ?_⟩
      refine ⟨_,rfl,t0,_,_,_,rfl,rfl,ai.of ht0,aA (j:=4) rfl,hR _ _ ⟨rfl,_,tp,us,.df r2 n kd ps b,rfl,htp,hul,hf⟩⟩
     | _=>cases hhd
   ·refine a8 (Qi fun q=>by injection q with q;exact absurd q (by decide)) ?_
    refine ⟨_,rfl,_,rfl,t,_,_,_,rfl,rfl,ai.of ht,aA (j:=1) rfl,l,xs,ts,"kind",z,rfl,by decide,hl,hL,fun hn=>?_,fun v t' hf hS=>?_⟩
    ·dsimp only [aT]
     refine ⟨_,rfl,_,rfl,bt (Qv rfl) ?_⟩
     refine ⟨_,rfl,_,rfl,t,_,_,_,rfl,rfl,ai.of ht,aA (j:=1) rfl,(by show 3<=sizeLine;decide),fun t1 ht1=>⟨(by show 1<=sizeLine;decide),fun p hp=>?_⟩⟩
     exact one "nokind" (by unfold b9 fc fJ;rw [if_neg (by decide),if_neg (by decide),hn]) ht1 hp
    ·have hhd:t'.hd=some (("kind":Str),z):=rO hf
     cases t' with
     | kd r2 n ps =>
      obtain ⟨t0,vp,rfl,ht0,hp⟩:=pT hS
      obtain ⟨tp,us,rfl,htp,hul,_⟩:=hp
      dsimp only [aT]
      refine ⟨_,rfl,_,rfl,a8 (Qi fun q=>nomatch q) ?_⟩
      refine ⟨_,rfl,t0,_,_,_,rfl,rfl,ai.of ht0,aA (j:=3) rfl,hR _ _ ⟨rfl,_,tp,us,.kd r2 n ps,rfl,htp,hul,hf⟩⟩
     | _=>cases hhd
  ·rintro σ' H1 ⟨rfl,x3,tp,us,t',rfl,htp,hul,hfst⟩
   refine ⟨_,rfl,tp,_,rfl,.inr (ai.of htp),_,rfl,t,_,_,_,rfl,rfl,ai.of ht,aA (j:=2) rfl,lt,_,rfl,.inr (ai.of hlt),rfl,_,rfl,?_⟩
   rw [Qg,hul,hvl]
   by_cases hq:t'.prs.length=es.length
   ·refine a8 (by rw [hq,Qv rfl];rfl) ?_
    refine ⟨Qs _,fun p hp=>kq p [] _ (ap hp) aj ?_⟩
    have:b9 ts r (fc w) (fJ w) z es.length=[]:=by unfold b9;rw [hfst];exact if_pos hq
    rw [this]
    exact ⟨rfl,fun i x k h=>by simp at h⟩
   ·refine bt (by rw [Qi (fun q=>hq (by injection q with q;omega))];rfl) ?_
    refine ⟨_,rfl,_,rfl,t,_,_,_,rfl,rfl,ai.of ht,aA (j:=1) rfl,(by show 3<=sizeLine;decide),fun t1 ht1=>⟨(by show 1<=sizeLine;decide),fun p hp=>?_⟩⟩
    exact one "count" (by unfold b9;rw [hfst];exact if_neg hq) ht1 hp
end
section
variable {P:Program} {w:World} {K:W.Frag} {mg:Str->Option Value} {base:Heap} {AA:cx} {DD:cy}
theorem Ac:bootBuiltins "set"=some (.type "set"):=by decide +kernel
theorem rW {tt:List Tr} {r:Nat} {y:Str} (h:y∈eX):bX tt r y=[]:=by unfold bX;rw [if_pos h]
theorem Ad {tt:List Tr} {r:Nat} {y:Str} (h:y∉eX) (hf:a9 ("kind",y) tt=none):bX tt r y=[k3 r "nokind" y]:=by
 unfold bX di
 rw [if_neg h,hf]
 rfl
theorem Ae {tt:List Tr} {r:Nat} {y:Str} {t:Tr} (hf:a9 ("kind",y) tt=some t):bX tt r y=[]:=by
 unfold bX di
 rw [hf]
 split
 ·rfl
 ·simp [dC]
theorem fe {H H':Hp} {xs:List V} {ds:List (List aa)} (s:∀ b xs,H b=some (.tup xs)->H' b=some (.tup xs)) (h:aY H xs ds):aY H' xs ds:=⟨h.1,fun i x d a b=>by obtain ⟨t,e,q⟩:=h.2 i x d a b;exact ⟨t,e,s _ _ q⟩⟩
theorem rX {H:Hp} {xs ys:List V} {ds es:List (List aa)} (h:aY H xs ds) (h':aY H ys es):aY H (xs++ys) (ds++es):=by
 refine ⟨by simp [h.1,h'.1],fun j y e hy he=>?_⟩
 by_cases hj:j<xs.length
 ·rw [QA hj] at hy
  rw [QA (by rw [<- h.1];exact hj)] at he
  exact h.2 j y e hy he
 ·rw [Qy (by omega)] at hy
  rw [Qy (by rw [<- h.1];omega),<- h.1] at he
  exact h'.2 _ y e hy he
theorem Af {H:Hp} {t:Addr} {d:List aa} (h:H t=some (.tup (d.map kV))):aY H [.ref t] [d]:=⟨rfl,fun i x k h1 h2=>by
 match i with
 | 0=>cases (show some (V.ref t)=some x from h1);cases (show some d=some k from h2);exact ⟨t,rfl,h⟩
 | i+1=>simp at h1⟩
structure bY (H H':Hp) (pa p:Addr) (ds:List (List aa)) (ab:List Str):Prop where
 sm:Same H H'
 np:H p=none
 na:H pa=none
 ne:p≠pa
 du:∃ us:List Addr,H' p=some (.lst (us.map V.ref))/\aY H' (us.map V.ref) ds
 ab:H' pa=some (.lst (ab.map V.str))
theorem bY.same {H H1 H2:Hp} {pa p:Addr} {ds:List (List aa)} {ab:List Str} (h:bY H H1 pa p ds ab) (s:Same H1 H2):bY H H2 pa p ds ab :=
 ⟨h.sm.trans s,h.np,h.na,h.ne,by obtain ⟨us,a,b⟩:=h.du;exact ⟨us,s _ _ a,fe (fun _ _ e=>s _ _ e) b⟩,s _ _ h.ab⟩
theorem bY.app {H H1:Hp} {pa p t:Addr} {ds:List (List aa)} {ab:List Str} {d:List aa} (h:bY H H1 pa p ds ab) (ht:H1 t=some (.tup (d.map kV))):∃ us:List Addr,H1 p=some (.lst (us.map V.ref))/\us.length=ds.length/\bY H (af H1 p (.lst (us.map V.ref++[.ref t]))) pa p (ds++[d]) ab:=by
 obtain ⟨us,a,b⟩:=h.du
 have tk:∀ c xs,H1 c=some (.tup xs)->af H1 p (.lst (us.map V.ref++[.ref t])) c=some (.tup xs):=fun c xs e=>by rw [av (fun z=>by rw [z,a] at e;cases e)];exact e
 refine ⟨us,a,by have:=b.1;simpa using this,j0 h.sm h.np _,h.np,h.na,h.ne,⟨us++[t],by rw [aj];simp,?_⟩,by rw [av h.ne.symm];exact h.ab⟩
 rw [QG]
 exact rX (fe tk b) (Af (tk _ _ ht))
theorem bY.cat {H H1:Hp} {pa p q:Addr} {us:List Addr} {ds es:List (List aa)} {ab:List Str} (h:bY H H1 pa p ds ab) (hT:aY H1 (us.map V.ref) es):∃ ws:List Addr,H1 p=some (.lst (ws.map V.ref))/\ws.length=ds.length/\∀ l,H1 l=none->bY H (af H1 l (.lst (ws.map V.ref++us.map V.ref))) pa l (ds++es) ab:=by
 obtain ⟨ws,a,b⟩:=h.du
 refine ⟨ws,a,by have:=b.1;simpa using this,fun l hl=>?_⟩
 have s:=ap (o:=.lst (ws.map V.ref++us.map V.ref)) hl
 refine ⟨h.sm.trans s,h.sm.free hl,h.na,(fun z=>by rw [z,h.ab] at hl;cases hl),⟨ws++us,by rw [aj];simp,?_⟩,s _ _ h.ab⟩
 rw [QG]
 exact rX (fe (fun _ _ e=>s _ _ e) b) (fe (fun _ _ e=>s _ _ e) hT)
theorem bY.abv {H H1:Hp} {pa p:Addr} {ds:List (List aa)} {ab:List Str} (h:bY H H1 pa p ds ab) (z:Str):bY H (af H1 pa (.lst (ab.map V.str++[.str z]))) pa p ds (ab++[z]):=by
 obtain ⟨us,a,b⟩:=h.du
 have tk:∀ c xs,H1 c=some (.tup xs)->af H1 pa (.lst (ab.map V.str++[.str z])) c=some (.tup xs):=fun c xs e=>by rw [av (fun z=>by rw [z,h.ab] at e;cases e)];exact e
 exact ⟨j0 h.sm h.na _,h.np,h.na,h.ne,⟨us,by rw [av h.ne];exact a,fe tk b⟩,by rw [aj];simp⟩
noncomputable def ff (tt:List Tr) (r:Nat):Ex->List (List aa)
 | .many w z es=>b9 tt r (fc w) (fJ w) z es.length
 | _=>[]
mutual
theorem mD (tt:List Tr) (r:Nat):∀ e:Ex,a0 tt r e=(bA e).flatMap (ff tt r)
 | .many w z es=>by rw [a0,bA,List.flatMap_cons,exKs_calls tt r es];rfl
 | .num _=>by rw [a0,bA];rfl
 | .truth _=>by rw [a0,bA];rfl
 | .name _=>by rw [a0,bA];rfl
 | .not _=>by rw [a0,bA];rfl
 | .op _ _ _=>by rw [a0,bA];rfl
 | .of _ _=>by rw [a0,bA];rfl
theorem exKs_calls (tt:List Tr) (r:Nat):∀ es:List Ex,exKs tt r es=(callsL es).flatMap (ff tt r)
 | []=>by rw [exKs,callsL];rfl
 | e::es=>by rw [exKs,callsL,List.flatMap_append,mD tt r e,exKs_calls tt r es]
end
mutual
theorem rY:∀ (e:Ex),e.cal->∀ c∈bA e,∃ w z es,c=.many w z es/\(w="do"∨w="new")
 | .many w z es,h,c,hc=>by
  rw [bA] at hc
  rcases Ql hc with rfl | hc
  ·exact ⟨w,z,es,rfl,h.1⟩
  ·exact callsL_many es h.2.2 c hc
 | .num _,_,c,hc=>by simp [bA] at hc
 | .truth _,h,_,_=>h.elim
 | .name _,h,_,_=>h.elim
 | .not _,h,_,_=>h.elim
 | .op _ _ _,h,_,_=>h.elim
 | .of _ _,h,_,_=>h.elim
theorem callsL_many:∀ (es:List Ex),calL es->∀ c∈callsL es,∃ w z es,c=.many w z es/\(w="do"∨w="new")
 | [],_,c,hc=>by simp [callsL] at hc
 | e::es,h,c,hc=>by
  rw [callsL] at hc
  rcases QC hc with hc | hc
  ·exact rY e h.1 c hc
  ·exact callsL_many es h.2 c hc
end
theorem Ag (tt:List Tr) (r:Nat) (e:Ex):(ff tt r e).length<=1:=by
 unfold ff
 split
 ·exact qF ..
 ·simp
theorem mE (tt:List Tr) (r:Nat):∀ es:List Ex,(es.flatMap (ff tt r)).length<=es.length
 | []=>Qh _
 | e::es=>by
  have h1:=Ag tt r e
  have h2:=mE tt r es
  rw [List.flatMap_cons,Qw,List.length_cons]
  omega
noncomputable def dQ (tt:List Tr) (ab:List Str):Tr->List (List aa)
 | .tell r e=>a0 tt r e
 | t=>bW ab t
noncomputable def dR (tt:List Tr):Tr->List (List aa)
 | .df r _ k ps _=>cj tt r (k::ps.map (·.2))
 | _=>[]
noncomputable def bD (tt ts:List Tr):Nat->List (List aa)
 | 0=>[]
 | i+1=>bD tt ts i++(match ts[i]? with
  | some t=>dQ tt (aO (ts.take i)) t++dR tt t
  | none=>[])
theorem Ah {tt ts:List Tr} {i:Nat} {t:Tr} (h:ts[i]?=some t):bD tt ts (i+1)=bD tt ts i++(dQ tt (aO (ts.take i)) t++dR tt t):=by show bD tt ts i++_=_;rw [h]
theorem rZ {tt ts:List Tr} {i:Nat}:∀ {n:Nat},i<=n->(bD tt ts i).length<=(bD tt ts n).length
 | 0,h=>by rw [Nat.le_zero.mp h];exact Qh _
 | n+1,h=>by
  by_cases e:i=n+1
  ·rw [e];exact Qh _
  ·have:=rZ (tt:=tt) (ts:=ts) (i:=i) (n:=n) (by omega)
   show _<=(bD tt ts n++_).length
   rw [Qw];omega
theorem mF {tt ts:List Tr} {k:List aa}:∀ {n:Nat},k∈bD tt ts n↔∃ i t,i<n/\ts[i]?=some t/\(k∈dQ tt (aO (ts.take i)) t∨k∈dR tt t)
 | 0=>by simp [bD]
 | n+1=>by
  rw [bD,List.mem_append,mF]
  constructor
  ·rintro (⟨i,t,h1,h2,h3⟩ | h)
   ·exact ⟨i,t,by omega,h2,h3⟩
   ·cases e:ts[n]? with
    | none=>rw [e] at h;simp at h
    | some t=>rw [e] at h;exact ⟨n,t,by omega,e,QC h⟩
  ·rintro ⟨i,t,h1,h2,h3⟩
   by_cases hi:i<n
   ·exact .inl ⟨i,t,hi,h2,h3⟩
   ·have:i=n:=by omega
    subst this
    exact .inr (by rw [h2];exact List.mem_append.mpr h3)
theorem Ai {tt ts:List Tr} {k:List aa} {n:Nat} (h:k∈bD tt ts n):∃ r a z,k=k3 r a z/\True:=by
 obtain ⟨i,t,_,_,h⟩:=mF.mp h
 have tw:∀ {ab:List Str},k∈bW ab t->∃ r a z,k=k3 r a z/\True:=fun h=>by obtain ⟨z,_,_,e⟩:=qW h;exact ⟨_,_,z,e,trivial⟩
 rcases h with h | h
 ·cases t with
  | tell r e=>obtain ⟨a,z,e,_⟩:=jX (show k∈a0 tt r e from h);exact ⟨r,a,z,e,trivial⟩
  | _=>exact tw (ab:=aO (ts.take i)) h
 ·cases t with
  | df r n kd ps b =>
   obtain ⟨y,_,h⟩:=List.mem_flatMap.mp (show k∈cj tt r (kd::ps.map (·.2)) from h)
   exact ⟨r,_,y,qX h,trivial⟩
  | _=>exact absurd h (by simp [dR])
inductive dq:Tr->Prop
 | tell (r:Nat) (w z:Str) (es:List Ex):(Ex.many w z es).cal->(Ex.many w z es).deep<5->(bA (.many w z es)).length<=4->dq (.tell r (.many w z es))
 | df (r:Nat) (n k:Str) (ps:List (Str × Str)) (b:List Tr):ps.length<=3->(b=[]∨b=[.give (r+1) (.num 0)])->dq (.df r n k ps b)
 | kd (r:Nat) (n:Str) (ps:List (Str × Str)):dq (.kd r n ps)
theorem dq.hd3 {t:Tr} (h:dq t) {H:Hp} {vs:List V} (hps:PsAt H false vs t.parts):(∃ r e,t=.tell r e)∨(t.kw≠"tell"/\∃ z rr,t.hd=some (t.kw,z)/\vs=.str t.kw::.int ((t.row:Nat):Int)::.str z::rr):=by
 rcases jT hps with ⟨a,b⟩ | ⟨a,z,r,e1,e2⟩
 ·cases h with
  | tell r w z es=>exact .inl ⟨_,_,rfl⟩
  | df r n k ps b'=>cases b
  | kd r n ps=>cases b
 ·refine .inr ⟨fun q=>?_,z,r,e1,e2⟩
  rw [q] at a
  exact absurd a (by decide)
noncomputable def Aj:Sp:=fun vs H Q _=>∃ (l:Addr) (xs:List V) (ts:List Tr),vs=[.ref l]/\H l=some (.lst xs)/\LAt H false xs ts/\(∀ t∈ts,dq t)/\ts.length<=20/\(bD ts ts ts.length).length<=75 /\
 ∀ (p:Addr) (cs:List Addr) (es:List (List aa)) (H':Hp),Same H H'->H' p=some (.lst (cs.map V.ref))->aY H' (cs.map V.ref) es->es.Pairwise (fun x y=>bw x y=true)->(∀ d,d∈es↔d∈bD ts ts ts.length)->Q (.ref p) H'
noncomputable abbrev r0:List Str:=["_law_tree","_law_due_here","_law_above","_law_row_here","_law_e","_law_kind_here"]
theorem r6:aS r0 ["_law_tree"] (aG jN):=⟨rfl,rfl,rfl,by decide +kernel,rfl,by decide +kernel,by decide +kernel⟩
theorem Ak (T:All P w K mg AA DD):az P w K mg base aE 8 AA.ZH DD.ZH ["_law_tree"] Aj:=by
 have GCS:=rT (base:=base) T 5
 have GCD:=Ab (base:=base) T
 have GF:=rQ (base:=base) T
 refine T.F_ZH.ok r6 (fun vs H Q E h=>?_) (fun cdv A outer s H vs Q E hr h=>?_)
 ·obtain ⟨l,xs,ts,rfl,_⟩:=h
  rfl
 ·obtain ⟨l,xs,ts,rfl,hl,hL,h32,h20,h75,kq⟩:=h
  have nd:=r6.nd
  have hrC:aw 6 _:=hr.mono (by omega)
  have hr2:aw 2 _:=hrC.mono (by omega)
  have hr1:aw 1 _:=hrC.mono (by omega)
  have hu3:=QH (Nat.add_le_add_left (show 3<=64 by decide) _) hr.units
  refine ⟨_,(aH (@bq _ _ 1 _ _ _ _ nd rfl (Or.inl rfl) (b5 ag) (by rfl) (by first | exact .inl rfl | exact .inr rfl | assumption)) (aH (@bq _ _ 2 _ _ _ _ nd rfl (Or.inl rfl) (b5 ag) (by rfl) (by first | exact .inl rfl | exact .inr rfl | assumption)) (aH (cG PassesOwn.never rfl (ck (pv 0)) (ba (i:=3) nd rfl (Or.inl rfl)) (aH (be (aU cf (aD (aJ (K:=K) rfl) (pv 3) ah (fun _ _=>rfl)) aL (bb _)) (aq (cG PassesOwn.never rfl (ck (aN GCS hrC rfl T.m_Zy T.k_Zy T.b_Zy .nil aI (ae (aD (aJ (K:=K) rfl) (pv 3) ah (fun _ _=>rfl)) ag))) (ba (i:=4) nd rfl (Or.inl rfl)) (aq (@bq _ _ 1 _ _ _ _ nd rfl (Or.inl rfl) (aB gW (pv 1) (aN GCD hr2 rfl T.m_Zm T.k_Zm T.b_Zm .nil aI (ae (pv 0) (ae (aD (aJ (K:=K) rfl) (pv 3) ah (fun _ _=>rfl)) (ae (pv 4) ag))))) (by rfl) (by first | exact .inl rfl | exact .inr rfl | assumption))) (by intro _;rfl))) (aH (be (aU (il (K:=K) rfl) (aD (aJ (K:=K) rfl) (pv 3) ah (fun _ _=>rfl)) (pv 2) rfl) (aq (bL (gT PySem.F.plainAttrs_list PySem.F.slot_list_append PySem.F.type_list_append gU (pv 1) (ae (bm (ae (aD (aJ (K:=K) rfl) (pv 3) ah (fun _ _=>rfl)) (ae aL (ae (aD (aJ (K:=K) rfl) (pv 3) ah (fun _ _=>rfl)) ag)))) ag)) (by rfl))) bx) (aq (bL (gT PySem.F.plainAttrs_list PySem.F.slot_list_append PySem.F.type_list_append gU (pv 2) (ae (aD (aJ (K:=K) rfl) (pv 3) ah (fun _ _=>rfl)) ag)) (by rfl))))) (aq (be (aU cf (aD (aJ (K:=K) rfl) (pv 3) ah (fun _ _=>rfl)) aL (bb _)) (aq (cG PassesOwn.never rfl (ck (aB gW (b5 (ae (aD (aJ (K:=K) rfl) (pv 3) ah (fun _ _=>rfl)) ag)) (eR (aG jN) r0 [] [] rfl (by exact ⟨rfl,rfl,by decide +kernel,rfl,by decide +kernel,by decide +kernel,by decide +kernel,rfl,by decide +kernel⟩) rfl rfl (eG (aD (aJ (K:=K) rfl) (pv 3) ah (fun _ _=>rfl))) (fun _ _ _ _=>dz) (fun _ _ _ _=>(aD (aJ (K:=K) rfl) (pv 0) ah (fun _ _=>rfl)))))) (ba (i:=5) nd rfl (Or.inl rfl)) (aq (be (PW.pt (gH (aU eA (pv 5) aL (bb _)) (gH (aU eA (pv 5) aL (bb _)) (j8 (j7 (j6 (aN GF hr1 rfl T.m_Zx T.k_Zx T.b_Zx .nil aI (ae (pv 0) (ae aL (ae (pv 5) ag)))))))))) (aq (bL (gT PySem.F.plainAttrs_list PySem.F.slot_list_append PySem.F.type_list_append gU (pv 1) (ae (bm (ae (aD (aJ (K:=K) rfl) (pv 3) ah (fun _ _=>rfl)) (ae aL (ae (pv 5) ag)))) ag)) (by rfl))) bx)) (by intro _;rfl))) bx))) (by intro _;rfl)) (aq (aP (c6 (xZ rfl) rfl T.n_sorted oS (ae (fo (xY (K:=K) rfl rfl hu3) rfl T.n_set Ac (ae (pv 1) ag)) ag))))))),?_⟩
  refine ⟨Qs _,fun p hp=>?_⟩
  have s1:=ap (o:=.lst []) hp
  dsimp only [aT]
  refine ⟨Qs _,fun pa hpa=>?_⟩
  have s2:=ap (o:=.lst []) hpa
  have D0:bY H (af (af H p (.lst [])) pa (.lst [])) pa p [] []:=⟨s1.trans s2,hp,s1.free hpa,(fun z=>by rw [<- z,aj] at hpa;cases hpa),⟨[],s2 _ _ aj,rfl,fun i x k h=>by simp at h⟩,aj⟩
  generalize af (af H p (.lst [])) pa (.lst [])=H2 at D0
  clear s1 s2
  dsimp only [aT]
  have hxl:=hL.length
  refine eS (fun σ' H'=>∃ p' x3 x4 x5,σ'=[some (.ref l),some (.ref p'),some (.ref pa),x3,x4,x5]/\bY H H' pa p' (bD ts ts ts.length) (aO ts)) (fun R hR=>?_) ?_
  ·refine ⟨_,rfl,l,rfl,⟨_,al.of (D0.sm _ _ hl)⟩,?_⟩
   refine dF (K:=K) (a:=l) (xs:=xs) (fun i σ' H'=>∃ p' x3 x4 x5,σ'=[some (.ref l),some (.ref p'),some (.ref pa),x3,x4,x5]/\bY H H' pa p' (bD ts ts i) (aO (ts.take i))) ⟨p,_,_,_,rfl,D0⟩ (fun i σ' H' _ hsl73=>by obtain ⟨_,_,_,_,_,h⟩:=hsl73;exact al.of (h.sm _ _ hl)) ?_ ?_
   ·rintro i x σ' H1 hx ⟨p1,x3,x4,x5,rfl,D1⟩
    obtain ⟨t,ht,hO⟩:=hL.get hx
    have hm:t∈ts:=Qt ht
    have h3:=h32 t hm
    have hit:i<ts.length:=(Qe ht).1
    have hes:=Ah (tt:=ts) ht
    have hmo:=rZ (tt:=ts) (ts:=ts) (show i+1<=ts.length from hit)
    rw [hes] at hmo ⊢
    clear hes
    rw [(qL ht).2]
    rw [Qw,Qw] at hmo
    have hal:(aO (ts.take i)).length<=20:=by
     have:(aO (ts.take i)).length<=(ts.take i).length:=by
      generalize ts.take i=us
      unfold aO
      induction us with
      | nil=>exact Qh _
      | cons u us ih =>
       have:(dj u).length<=1:=by unfold dj;split<;>simp
       rw [List.flatMap_cons,Qw,List.length_cons];omega
     rw [Qr] at this
     omega
    cases hO with
    | shared e _ _=>cases e
    | @plain v _ _ hS =>
    have hS0:=hS
    cases hS with
    | @mk t0 vs _ ht0 hps =>
    have h3d:=h3.hd3 hps
    obtain ⟨vr,rfl⟩:=iA hps
    dsimp only [aT]
    refine fz (fun σ' H'=>∃ p' x4',σ'=[some (.ref l),some (.ref p'),some (.ref pa),some (.ref t0),x4',x5]/\bY H H' pa p' (bD ts ts i++dQ ts (aO (ts.take i)) t) (aO (ts.take i)++dj t)) (fun R2 hR2=>?_) ?_
    ·refine ⟨_,rfl,t0,_,_,_,rfl,rfl,ai.of (D1.sm _ _ ht0),aA (j:=0) rfl,rfl,_,rfl,?_⟩
     rcases h3d with ⟨r,e,et⟩ | ⟨hkw,z,rr,hz,ev⟩
     ·subst et
      cases h3 with
      | tell r w z es hcal hdp hcl =>
      refine bt (Qv rfl) ?_
      obtain ⟨t0',ve,e1,ht0',hE⟩:=pS hS0
      cases e1
      refine ⟨_,rfl,t0,_,_,_,rfl,rfl,ai.of (D1.sm _ _ ht0'),aA (j:=2) rfl,ve,w,z,es,rfl,hE.kept D1.sm.tups,hcal,hdp,by omega,fun pc ys H3 s3 hpc hys=>⟨pc,rfl,⟨_,al.of hpc⟩,?_⟩⟩
      have D3:=D1.same s3
      have hyl:=hys.len
      have hex:dQ ts (aO (ts.take i)) (.tell r (.many w z es))=(bA (.many w z es)).flatMap (ff ts r):=by rw [dQ];exact mD ts r _
      have hnm:dj (.tell r (.many w z es))=[]:=rfl
      rw [hex,hnm,List.append_nil] at hR2
      clear hex hnm
      have hcs:=rY _ hcal
      generalize bA (.many w z es)=cs at hR2 hcs hcl hys hyl ⊢
      refine dF (K:=K) (a:=pc) (xs:=ys) (fun j σ' H'=>Same H3 H'/\j<=ys.length/\∃ p' x4',σ'=[some (.ref l),some (.ref p'),some (.ref pa),some (.ref t0),x4',x5]/\bY H H' pa p' (bD ts ts i++(cs.take j).flatMap (ff ts r)) (aO (ts.take i))) ⟨Same.refl _,Qs _,p1,_,rfl,by simpa using D3⟩ (fun j σ' H' _ h=>al.of (h.1 _ _ hpc)) ?_ ?_
      ·rintro j x σ' H4 hx4 ⟨s4,_,p4,x4',rfl,D4⟩
       obtain ⟨c,hci,hcx⟩:=hys.get hx4
       have hcl2:=(Qe hci).1
       have hyl2:=(Qe hx4).1
       obtain ⟨w2,z2,es2,rfl,hw2⟩:=hcs c (Qt hci)
       refine ⟨_,rfl,_,rfl,_,rfl,t0,_,_,_,rfl,rfl,ai.of (D4.sm _ _ ht0'),aA (j:=1) rfl,_,rfl,l,xs,ts,r,x,w2,z2,es2,rfl,D4.sm _ _ hl,hL.kept D4.sm.ls,hcx.kept s4.tups,hw2,fun q us H5 s5 hq hT=>?_⟩
       obtain ⟨ws,hws,hwl,hcat⟩:=(D4.same s5).cat (q:=q) hT
       have hb:=mE ts r (cs.take j)
       rw [Qr] at hb
       have hul:=hT.1
       have hul2:=qF ts r (fc w2) (fJ w2) z2 es2.length
       rw [Qg] at hul
       rw [Qw] at hwl
       refine ⟨p4,q,ws.map V.ref,us.map V.ref,rfl,rfl,hws,hq,?_,fun l8 hl8=>?_⟩
       ·rw [Qg,Qg]
        exact Nat.le_of_lt (cp (by omega))
       have D8:=hcat l8 hl8
       refine ⟨(s4.trans s5).trans (ap hl8),by omega,l8,_,rfl,?_⟩
       rw [Qp hcl2,List.flatMap_append,<- QI]
       have eg:cs[j]=.many w2 z2 es2:=(Qe hci).2
       rw [eg]
       simpa [ff] using D8
      ·rintro σ' H4 ⟨s4,_,p4,x4',rfl,D4⟩
       rw [Qu (by omega)] at D4
       exact hR2 _ _ ⟨p4,_,rfl,D4⟩
     ·refine a8 (Qi fun q=>hkw (by injection q)) ?_
      have ev2:vr=.str z::rr:=by injection ev with _ q;injection q
      subst ev2
      have ep1:dQ ts (aO (ts.take i)) t=bW (aO (ts.take i)) t:=by cases h3 with
       | tell r w z es=>exact absurd rfl hkw
       | df r n k ps b=>rfl
       | kd r n ps=>rfl
      have e3:bW (aO (ts.take i)) t=if z∈aO (ts.take i) then [k3 t.row "twice" z] else []:=by unfold bW;rw [hz]
      have e4:dj t=[z]:=by unfold dj;rw [hz]
      rw [ep1,e4] at hR2
      have hdl:=hmo
      rw [ep1] at hdl
      refine fz (fun σ' H'=>σ'=[some (.ref l),some (.ref p1),some (.ref pa),some (.ref t0),x4,x5]/\bY H H' pa p1 (bD ts ts i++bW (aO (ts.take i)) t) (aO (ts.take i))) (fun R3 hR3=>?_) ?_
      ·refine ⟨_,rfl,t0,_,_,_,rfl,rfl,ai.of (D1.sm _ _ ht0),aA (j:=2) rfl,_,rfl,pa,(aO (ts.take i)).map V.str,rfl,.inl (al.of D1.ab),rfl,(by rw [List.all_map];exact List.all_eq_true.mpr fun _ _=>rfl),_,rfl,?_⟩
       rw [e3] at hR3
       by_cases hin:z∈aO (ts.take i)
       ·refine bt (eD (Qv hin)) ?_
        rw [if_pos hin] at hR3
        obtain ⟨us0,hus0,_⟩:=D1.du
        refine ⟨_,rfl,.inl ⟨rfl,_,al.of hus0⟩,_,rfl,t0,_,_,_,rfl,rfl,ai.of (D1.sm _ _ ht0),aA (j:=1) rfl,_,rfl,t0,_,_,_,rfl,rfl,ai.of (D1.sm _ _ ht0),aA (j:=2) rfl,(by show 3<=sizeLine;decide),fun t1 ht1=>?_⟩
        have st:=ap (o:=.tup ((k3 t.row "twice" z).map kV)) ht1
        obtain ⟨us,hus,hul,D5⟩:=(D1.same st).app (d:=k3 t.row "twice" z) aj
        exact ⟨p1,_,_,rfl,rfl,hus,(by rw [Qg];exact cp (by omega)),hR3 _ _ ⟨rfl,D5⟩⟩
       ·refine a8 (eD (Qi hin)) ?_
        rw [if_neg hin,List.append_nil] at hR3
        exact hR3 _ _ ⟨rfl,D1⟩
      ·rintro σ' H4 ⟨rfl,D4⟩
       refine ⟨_,rfl,.inl ⟨rfl,_,al.of D4.ab⟩,_,rfl,t0,_,_,_,rfl,rfl,ai.of (D4.sm _ _ ht0),aA (j:=2) rfl,pa,_,_,rfl,rfl,D4.ab,(by rw [Qg];exact cp (by omega)),hR2 _ _ ⟨p1,_,rfl,D4.abv z⟩⟩
    ·rintro σ' H4 ⟨p4,x4',rfl,D4⟩
     refine ⟨_,rfl,t0,_,_,_,rfl,rfl,ai.of (D4.sm _ _ ht0),aA (j:=0) rfl,rfl,_,rfl,?_⟩
     rw [<- QI]
     have hdl:(bD ts ts i++dQ ts (aO (ts.take i)) t).length<=75:=by rw [Qw];omega
     generalize bD ts ts i++dQ ts (aO (ts.take i)) t=ds at D4 hdl ⊢
     cases h3 with
     | tell r w z es =>
      refine a8 (Qi fun q=>by injection q with q;exact absurd q (by show ¬ (("tell":Str)="def");decide +kernel)) ?_
      exact ⟨p4,_,_,_,rfl,by rw [show dR ts (.tell r (.many w z es))=[] from rfl,List.append_nil];exact D4⟩
     | kd r n ps =>
      refine a8 (Qi fun q=>by injection q with q;exact absurd q (by show ¬ (("kind":Str)="def");decide +kernel)) ?_
      exact ⟨p4,_,_,_,rfl,by rw [show dR ts (.kd r n ps)=[] from rfl,List.append_nil];exact D4⟩
     | df r n kd ps b hps3 _ =>
      refine bt (Qv rfl) ?_
      have ep2:dR ts (.df r n kd ps b)=cj ts r (kd::ps.map (·.2)):=rfl
      rw [ep2] at hmo ⊢
      obtain ⟨t0',vp,lb,zs,e1,ht0',hp,_⟩:=jQ hS0
      cases e1
      obtain ⟨tp,us,rfl,htp,hul,huat⟩:=hp
      refine ⟨_,rfl,t0,_,_,_,rfl,rfl,ai.of (D4.sm _ _ ht0'),aA (j:=3) rfl,(by show 1<=sizeLine;decide),fun q hq=>?_⟩
      have s1:=ap (o:=.lst [.str kd]) hq
      have D5:=D4.same s1
      refine ⟨_,rfl,t0,_,_,_,rfl,rfl,ai.of (D5.sm _ _ ht0'),aA (j:=4) rfl,tp,rfl,⟨_,ai.of (D5.sm _ _ htp)⟩,?_⟩
      refine jb (K:=K) (a:=tp) (xs:=us.map V.ref) (fun j ys H'=>H'=af H4 q (.lst [.str kd])/\j<=us.length/\ys=((ps.take j).map (·.2)).map V.str) ⟨rfl,Qs _,rfl⟩ (fun j ys H' _ h=>by rw [h.1];exact ai.of (D5.sm _ _ htp)) ?_ ?_
      ·rintro j x ys H2 hx2 ⟨rfl,hi2,rfl⟩
       have hix:j<us.length:=by
        have:=(Qe hx2).1
        rw [Qg] at this;exact this
       have ex:x=V.ref us[j]:=by rw [Qk,Qb hix] at hx2;exact (Qj hx2).symm
       subst ex
       have hip:j<ps.length:=by omega
       have hu2:=D5.sm _ _ (huat j us[j] ps[j] (Qb hix) (Qb hip))
       refine dy ?_
       rw [if_pos rfl]
       refine ⟨_,rfl,us[j],_,_,_,rfl,rfl,ai.of hu2,aA (j:=1) rfl,by rw [Qg,Qg,Qr];exact cp (by omega),rfl,by omega,?_⟩
       rw [Qp hip,QG,QG]
       rfl
      ·rintro ys H2 ⟨rfl,_,rfl⟩ q2 hq2
       have etk:ps.take (us.map V.ref).length=ps:=by rw [Qg,hul,List.take_length]
       rw [etk]
       have s2:=ap (o:=.lst ((ps.map (·.2)).map V.str)) hq2
       refine ⟨q,q2,[.str kd],(ps.map (·.2)).map V.str,rfl,rfl,s2 _ _ aj,aj,?_,fun l8 hl8=>?_⟩
       ·simp only [Qg,List.length_cons,List.length_nil]
        exact Nat.le_of_lt (cp (by omega))
       have s3:=ap (o:=.lst ([.str kd]++(ps.map (·.2)).map V.str)) hl8
       have D6:=(D5.same s2).same s3
       have hpn8:l8≠p4:=fun z=>by
        obtain ⟨_,h,_⟩:=(D5.same s2).du
        rw [<- z,hl8] at h;cases h
       generalize hzs:kd::ps.map (·.2)=ks at hmo ⊢
       have ek:[V.str kd]++(ps.map (·.2)).map V.str=ks.map V.str:=by rw [<- hzs];rfl
       rw [ek] at s3 D6 ⊢
       have hl9:af (af (af H4 q (.lst [.str kd])) q2 (.lst ((ps.map (·.2)).map V.str))) l8 (.lst (ks.map V.str)) l8=some (.lst (ks.map V.str)):=aj
       generalize af (af (af H4 q (.lst [.str kd])) q2 (.lst ((ps.map (·.2)).map V.str))) l8 (.lst (ks.map V.str))=H3 at D6 hl9 ⊢
       refine ⟨l8,rfl,⟨_,al.of hl9⟩,?_⟩
       generalize aO (ts.take i)++dj (.df r n kd ps b)=ab at D6 ⊢
       refine dF (K:=K) (a:=l8) (xs:=ks.map V.str) (fun j σ' H'=>H' l8=some (.lst (ks.map V.str))/\(∃ x5',σ'=[some (.ref l),some (.ref p4),some (.ref pa),some (.ref t0),x4',x5'])/\bY H H' pa p4 (ds++cj ts r (ks.take j)) ab) ⟨hl9,⟨_,rfl⟩,by simpa [cj] using D6⟩ (fun j σ' H' _ h=>al.of h.1) ?_ ?_
       ·rintro j x σ' H5 hx5 ⟨hl5,⟨x5',rfl⟩,D7⟩
        have hj5:j<ks.length:=by
         have:=(Qe hx5).1
         rw [Qg] at this;exact this
        have ex:x=V.str ks[j]:=by rw [Qk,Qb hj5] at hx5;exact (Qj hx5).symm
        subst ex
        have hkl:(cj ts r (ks.take j)).length<=j:=QD (iD ts r (ks.take j)) (by rw [Qr];omega)
        have hkz:ks.length<=4:=by rw [<- hzs];simp;omega
        rw [qP hj5,<- QI]
        generalize ks[j]=y
        have no:bX ts r y=[]->∀ {H'},Same H5 H'->H' l8=some (.lst (ks.map V.str))/\(∃ y5,[some (V.ref l),some (.ref p4),some (.ref pa),some (.ref t0),x4',some (.str y)]=[some (.ref l),some (.ref p4),some (.ref pa),some (.ref t0),x4',y5])/\bY H H' pa p4 (ds++cj ts r (ks.take j)++bX ts r y) ab:=fun e H' s=>⟨s _ _ hl5,⟨_,rfl⟩,by rw [e,List.append_nil];exact D7.same s⟩
        refine ⟨_,rfl,rfl,_,rfl,?_⟩
        by_cases h1:y="num"
        ·refine a8 (by show (!decide (V.str y=V.str "num"))=false;rw [Qv (congrArg V.str h1)];rfl) (c7 (no (rW (by rw [h1];decide)) (Same.refl _)))
        refine bt (by show (!decide (V.str y=V.str "num"))=true;rw [Qi (fun z=>h1 (by injection z))];rfl) ?_
        refine ⟨_,rfl,rfl,_,rfl,?_⟩
        by_cases h2:y="truth"
        ·refine a8 (by show (!decide (V.str y=V.str "truth"))=false;rw [Qv (congrArg V.str h2)];rfl) (c7 (no (rW (by rw [h2];decide)) (Same.refl _)))
        refine bt (by show (!decide (V.str y=V.str "truth"))=true;rw [Qi (fun z=>h2 (by injection z))];rfl) ?_
        have hpl:y∉eX:=by simp [eX,h1,h2]
        refine ⟨_,rfl,_,rfl,l,xs,ts,"kind",y,rfl,by decide,D7.sm _ _ hl,hL.kept D7.sm.ls,fun hn=>⟨_,rfl,bt (Qv rfl) ?_⟩,fun v t' hf hS=>⟨_,rfl,a8 (Qi ?_) (no (Ae hf) (Same.refl _))⟩⟩
        ·rw [Ad hpl hn]
         obtain ⟨us0,hus0,_⟩:=D7.du
         refine ⟨_,rfl,.inl ⟨rfl,_,al.of hus0⟩,_,rfl,t0,_,_,_,rfl,rfl,ai.of (D7.sm _ _ ht0'),aA (j:=1) rfl,_,rfl,(by show 3<=sizeLine;decide),fun t1 ht1=>?_⟩
         have st:=ap (o:=.tup ((k3 r "nokind" y).map kV)) ht1
         obtain ⟨us1,hus1,hul1,D9⟩:=(D7.same st).app (d:=k3 r "nokind" y) aj
         rw [Qw] at hul1
         refine ⟨p4,_,_,rfl,rfl,hus1,(by rw [Qg];exact cp (by omega)),?_,⟨_,rfl⟩,D9⟩
         rw [av hpn8];exact st _ _ hl5
        ·obtain ⟨a,_,rfl,_⟩:=eV hS
         exact fun z=>nomatch z
       ·rintro σ' H5 ⟨hl5,⟨x5',rfl⟩,D7⟩
        rw [Qg,List.take_length] at D7
        exact ⟨p4,_,_,_,rfl,D7⟩
   ·rintro σ' H1 ⟨p1,x3,x4,x5,rfl,D1⟩
    rw [hxl,List.take_length] at D1
    exact hR _ _ ⟨p1,_,_,_,rfl,D1⟩
  ·rintro σ' H1 ⟨p1,x3,x4,x5,rfl,D1⟩
   obtain ⟨us,hp1,hT⟩:=D1.du
   have hul:us.length<=75:=by have:=hT.1;rw [Qg] at this;omega
   have hk3:∀ d∈bD ts ts ts.length,∃ r a z,d=k3 r a z:=fun d hd=>by obtain ⟨r,a,z,e,_⟩:=Ai hd;exact ⟨r,a,z,e⟩
   refine ⟨_,rfl,p1,us,_,rfl,al.of hp1,hT,fun d hd=>?_,hul,fun q hq=>?_⟩
   ·obtain ⟨r,a,z,rfl⟩:=hk3 d hd
    exact ⟨z,by simp [k3]⟩
   have s3:=ap (o:=jC w q us (bD ts ts ts.length)) hq
   refine ⟨q,us,_,[true,false,false],rfl,aj,fe (fun _ _ e=>s3 _ _ e) hT,fun d hd=>?_,by simp,hul,fun p2 cs es' hp2 hT2 hpw hme=>?_⟩
   ·obtain ⟨r,a,z,rfl⟩:=hk3 d hd
    rfl
   have s4:=ap (o:=.lst (cs.map V.ref)) hp2
   exact kq p2 cs es' _ ((D1.sm.trans s3).trans s4) aj (fe (fun _ _ e=>s4 _ _ e) hT2) hpw hme
theorem r9 {ts:List Tr} (h:∀ t∈ts,dq t) (k:List aa):k∈bD ts ts ts.length↔k∈fN ts:=by
 have tell:∀ {r e},Tr.tell r e∈ts->bu ts (.tell r e)=a0 ts r e:=fun _=>by rw [bu]
 have df:∀ {r n kd ps b},Tr.df r n kd ps b∈ts->bu ts (.df r n kd ps b)=cj ts r (kd::ps.map (·.2)):=fun {r n kd ps b} hm=>by
  rw [bu]
  cases h _ hm with
  | df _ _ _ _ _ _ hb =>
   rcases hb with rfl | rfl
   ·rw [nfTs,List.append_nil]
   ·simp [nfTs,bu,a0]
 rw [mF]
 show _↔k∈bd (bd [] (ci ts ts.length)) (nfTs ts ts)
 rw [iB,iB,mo,qT]
 constructor
 ·rintro ⟨i,t,hi,ht,hk⟩
  have hm:t∈ts:=Qt ht
  cases t with
  | tell r e =>
   rcases hk with hk | hk
   ·exact .inr ⟨_,hm,by rw [tell hm];exact hk⟩
   ·simp [dR] at hk
  | df r n kd ps b =>
   rcases hk with hk | hk
   ·exact .inl (.inr ⟨i,_,hi,ht,hk⟩)
   ·exact .inr ⟨_,hm,by rw [df hm];exact hk⟩
  | kd r n ps =>
   rcases hk with hk | hk
   ·exact .inl (.inr ⟨i,_,hi,ht,hk⟩)
   ·simp [dR] at hk
  | _=>exact absurd (h _ hm) (fun z=>nomatch z)
 ·rintro ((hk | ⟨i,t,hi,ht,hk⟩) | ⟨t,hm,hk⟩)
  ·simp at hk
  ·refine ⟨i,t,hi,ht,.inl ?_⟩
   cases t with
   | tell r e=>simp [bW,Tr.hd] at hk
   | _=>exact hk
  ·obtain ⟨i,hi,rfl⟩:=List.mem_iff_getElem.mp hm
   refine ⟨i,_,hi,Qb hi,?_⟩
   generalize ts[i]=t at *
   cases t with
   | tell r e=>rw [tell hm] at hk;exact .inl hk
   | df r n kd ps b=>rw [df hm] at hk;exact .inr hk
   | kd r n ps=>simp [bu] at hk
   | _=>exact absurd (h _ hm) (fun z=>nomatch z)
end
section
variable {P:Program} {w:World} {K:W.Frag} {mg:Str->Option Value} {base:Heap} {AA:cx} {DD:cy}
noncomputable def fM:aa->PyData
 | .inl i=>.int i
 | .inr z=>.str z
noncomputable def kD (k:List aa):PyData:=.tuple (k.map fM)
theorem Al (a b:aa):PyData.eqv (fM a) (fM b)=decide (a=b):=by
 cases a<;>cases b<;>simp [fM,PyData.eqv,Bool.beq_eq_decide_eq]
theorem sd:∀ a b:List aa,PyData.eqvAll (a.map fM) (b.map fM)=decide (a=b)
 | [],[]=>by simp [PyData.eqvAll]
 | [],_::_=>by simp [PyData.eqvAll]
 | _::_,[]=>by simp [PyData.eqvAll]
 | x::a,y::b=>by
  have ih:=sd a b
  simp only [List.map_cons,PyData.eqvAll,Al,ih]
  by_cases h1:x=y<;>by_cases h2:a=b<;>simp [h1,h2]
theorem Am (a b:List aa):PyData.eqv (kD a) (kD b)=decide (a=b):=by
 unfold kD
 simp only [PyData.eqv]
 exact sd a b
theorem mG {K:W.Frag} {H:Hp}:∀ (k:List aa),RdvA K H (k.map kV) (k.map fM)
 | []=>.nil
 | .inl i::k=>.cons (.int i) (mG k)
 | .inr z::k=>.cons (.str z) (mG k)
theorem mH {K:W.Frag} {H:Hp}:∀ {xs:List V} {ds:List (List aa)},aY H xs ds->RdvA K H xs (ds.map kD)
 | [],[],_=>.nil
 | [],_::_,h=>by simp [aY] at h
 | _::_,[],h=>by simp [aY] at h
 | x::xs,d::ds,h=>by
  obtain ⟨t,rfl,ht⟩:=h.2 0 x d rfl rfl
  exact .cons (.tup (ai.of ht) (mG d)) (mH ⟨by simpa using h.1,fun i y e a b=>h.2 (i+1) y e a b⟩)
theorem eqvAll_refl:∀ ds:List (List aa),PyData.eqvAll (ds.map kD) (ds.map kD)=true
 | []=>by simp [PyData.eqvAll]
 | d::ds=>by simp [PyData.eqvAll,Am,eqvAll_refl ds]
theorem se (x:Int):wF x="do"∨wF x="new":=by
 obtain ⟨j,ej,hj⟩:=d8 (a:=x / 12) (n:=2) (by decide)
 have ej:x / 12 % 2=((j:Nat):Int):=ej
 unfold wF
 rw [ej,Int.toNat_natCast]
 match j,hj with
 | 0,_=>exact .inl rfl
 | 1,_=>exact .inr rfl
theorem sf {x:Int} {e:Ex} (h:e∈cR x):∃ n,e=.num n:=by
 obtain ⟨j,_,rfl⟩:=QF h
 exact ⟨_,rfl⟩
theorem parts_len (x:Int):(cR x).length<=3:=by
 unfold cR
 rw [Qg,List.length_range]
 have:=Int.emod_lt_of_pos x (show (0:Int)<4 by decide)
 have:=Int.emod_nonneg x (show (4:Int)≠0 by decide)
 omega
theorem si:∀ (a b:List Ex),callsL (a++b)=callsL a++callsL b
 | [],b=>by simp [callsL]
 | e::a,b=>by simp [callsL,si a b]
theorem sj:∀ (a b:List Ex),exNs (a++b)=exNs a++exNs b
 | [],b=>by simp [exNs]
 | e::a,b=>by simp [exNs,sj a b]
theorem mI:∀ {es:List Ex},(∀ e∈es,∃ n,e=.num n)->callsL es=[]/\exNs es=[]/\calL es/\cM es=0
 | [],_=>⟨by rw [callsL],by rw [exNs],trivial,by rw [cM]⟩
 | e::es,h=>by
  obtain ⟨n,rfl⟩:=h e (by simp)
  obtain ⟨h1,h2,h3,h4⟩:=mI (es:=es) fun x hx=>h x (by simp [hx])
  exact ⟨by simp [callsL,bA,h1],by simp [exNs,d7,h2],⟨trivial,h3⟩,by simp [cM,Ex.deep,h4]⟩
theorem sk:∀ (a b:List Ex),cM (a++b)=max (cM a) (cM b)
 | [],b=>by simp [cM]
 | e::a,b=>by simp [cM,sk a b,Nat.max_assoc]
structure sn (ns:List Str) (e:Ex) (d:Nat):Prop where
 ca:e.cal
 dp:e.deep<=d+1
 le:(bA e).length<=d+1
 nm:∀ z∈d7 e,∃ j,z=ns.getD j ""
theorem An (ns:List Str):∀ (d:Nat) (x:Int),sn ns (e7 ns d x) d:=by
 have base:∀ (d:Nat) (x:Int),sn ns (.many (wF x) (gA ns x) (cR x)) d:=fun d x=>by
  obtain ⟨h1,h2,h3,h4⟩:=mI (es:=cR x) fun e he=>sf he
  have hl:=parts_len x
  refine ⟨⟨se x,by omega,h3⟩,by rw [Ex.deep,h4];omega,by rw [bA,h1];simp,fun z hz=>?_⟩
  rw [d7,h2] at hz
  exact ⟨(x / 24 % 4).toNat,List.mem_singleton.mp hz⟩
 intro d
 induction d with
 | zero=>exact fun x=>base 0 x
 | succ d ih =>
  intro x
  rw [e7]
  split
  ·have c:=ih (bQ x 8)
   obtain ⟨h1,h2,h3,h4⟩:=mI (es:=(cR x).dropLast) fun e he=>sf ((List.dropLast_subset _ he))
   have hl:=parts_len x
   refine ⟨⟨se x,by simp;omega,qi fun e he=>?_⟩,?_,?_,fun z hz=>?_⟩
   ·rcases QC he with he | he
    ·exact jR h3 he
    ·rw [List.mem_singleton.mp he];exact c.ca
   ·have:=c.dp
    rw [Ex.deep,sk,h4,cM,cM];omega
   ·have:=c.le
    rw [bA,si,h1,callsL,callsL];simp;omega
   ·rw [d7,sj,h2,exNs,exNs] at hz
    rcases Ql hz with rfl | hz
    ·exact ⟨_,rfl⟩
    ·exact c.nm z (by simpa using hz)
  ·exact base (d+1) x
mutual
theorem sr:∀ {e:Ex},e.cal->e.good
 | .num _,_=>trivial
 | .many _ _ _,h=>⟨h.1,h.2.1,calL_good h.2.2⟩
 | .truth _,h=>h.elim
 | .name _,h=>h.elim
 | .not _,h=>h.elim
 | .op _ _ _,h=>h.elim
 | .of _ _,h=>h.elim
theorem calL_good:∀ {es:List Ex},calL es->lc es
 | [],_=>trivial
 | _::_,h=>⟨sr h.1,calL_good h.2⟩
end
theorem ss {ns:List Str} (h:∀ z∈ns,bj z) (x:Int):bj (eZ ns x):=by
 unfold eZ
 split
 ·unfold bj;decide +kernel
 ·split
  ·unfold bj;decide +kernel
  ·exact my h _
structure su (t:Tr) (r:Nat):Prop where
 l:dq t
 row:t.row=r
 asc:t.asc
 ok:jW t
 dp:t.deep<=1
 nm:∀ z∈dm t,bj z
theorem Ao {ns:List Str} (h:∀ z∈ns,bj z) (x:Int) (r:Nat):su (iJ ns x r) r:=by
 have hm:(x / 28 % 4).toNat<=3:=by
  have:=Int.emod_lt_of_pos (x / 28) (show (0:Int)<4 by decide)
  have:=Int.emod_nonneg (x / 28) (show (4:Int)≠0 by decide)
  omega
 have hn:bj (e8 ns x):=my h _
 unfold iJ
 split
 ·obtain ⟨b,eb,hb⟩:∃ b,b=(if (x / 28 / 4 % 2 == 1)=true then [Tr.give (r+1) (.num 0)] else [])/\(b=[]∨b=[.give (r+1) (.num 0)]):=⟨_,rfl,by split<;>simp⟩
  rw [<- eb]
  refine ⟨.df _ _ _ _ _ (by rw [Qg,List.length_range];exact hm) hb,rfl,⟨by simp;omega,?_⟩,⟨by simp;omega,?_⟩,?_,fun z hz=>?_⟩
  ·rcases hb with e | e<;>rw [e]
   ·exact ⟨by simp,trivial⟩
   ·exact ⟨by simp,⟨⟨trivial,by decide⟩,by simp,trivial⟩⟩
  ·rcases hb with e | e<;>rw [e]
   ·trivial
   ·exact ⟨⟨trivial,by decide⟩,trivial⟩
  ·rcases hb with e | e<;>rw [e]<;>simp [Tr.deep,deeps]
  ·rw [dm] at hz
   have hbn:trNs b=[]:=by rcases hb with e | e<;>rw [e]<;>simp [trNs,dm,d7]
   rw [hbn,List.append_nil] at hz
   rcases Ql hz with rfl | hz
   ·exact hn
   rcases Ql hz with rfl | hz
   ·exact ss h _
   obtain ⟨q,hq,rfl⟩:=QF hz
   obtain ⟨j,_,rfl⟩:=QF hq
   exact ss h _
 ·split
  ·refine ⟨.kd _ _ _,rfl,by show _<=20;simp;omega,trivial,by simp [Tr.deep],fun z hz=>?_⟩
   rw [dm] at hz
   rw [List.mem_singleton.mp hz];exact hn
  ·have c:=An ns 3 (x / 28)
   obtain ⟨w,z,es,e⟩:∃ w z es,e7 ns 3 (x / 28)=.many w z es:=⟨_,_,_,rJ ns 3 (x / 28)⟩
   rw [e] at c ⊢
   have hd:=c.dp
   refine ⟨.tell r w z es c.ca (by omega) c.le,rfl,⟨sr c.ca,by omega⟩,⟨c.ca,by omega⟩,by simp [Tr.deep],fun y hy=>?_⟩
   rw [dm] at hy
   obtain ⟨j,rfl⟩:=c.nm y hy
   exact my h _
noncomputable def mJ (is:List Int):List Str:=iF (bQ (jZ is 0) 9)
noncomputable def cb (is:List Int):List Int:=(is.drop 1).take 14
theorem Ap (is:List Int):(cb is).length<=14:=by unfold cb;rw [Qr];omega
noncomputable def mK (is:List Int) (i:Nat):Tr:=iJ (mJ is) (bQ ((cb is).getD i 0) ((i:Nat):Int)) (2*i)
noncomputable def bZ (is:List Int) (n:Nat):List Tr:=(List.range n).map (mK is)
theorem fO (is:List Int) (i:Nat):su (mK is i) (2*i):=Ao (rC _).2 _ _
theorem iL {is:List Int} {n:Nat} {t:Tr} (h:t∈bZ is n):∃ i,t=mK is i:=by
 obtain ⟨i,_,rfl⟩:=QF h
 exact ⟨i,rfl⟩
theorem sv {d:Nat}:∀ {ts:List Tr},(∀ t∈ts,t.deep<=d)->deeps ts<=d+1
 | [],_=>by simp [deeps]
 | t::ts,h=>by
  have h1:=h t (by simp)
  have h2:=sv (ts:=ts) fun x hx=>h x (by simp [hx])
  rw [deeps];omega
theorem sx:∀ {ts:List Tr},(∀ t∈ts,t.asc)->ts.Pairwise (fun a b=>a.row<b.row)->ascs ts
 | [],_,_=>trivial
 | t::ts,h,p=>by
  rw [List.pairwise_cons] at p
  exact ⟨h t (by simp),p.1,sx (fun x hx=>h x (by simp [hx])) p.2⟩
theorem sy {tt:List Tr} {r:Nat} (e:Ex):(a0 tt r e).length<=(bA e).length:=by
 rw [mD];exact mE tt r _
theorem Aq {tt:List Tr} {t:Tr} (h:dq t):(bu tt t).length<=4:=by
 cases h with
 | tell r w z es _ _ hl=>rw [bu];exact QD (sy _) hl
 | df r n k ps b hp hb =>
  have h1:=iD tt r (k::ps.map (·.2))
  rw [List.length_cons,Qg] at h1
  have h2:nfTs tt b=[]:=by rcases hb with rfl | rfl<;>simp [nfTs,bu,a0]
  rw [bu,h2,List.append_nil];omega
 | kd r n ps=>simp [bu]
theorem sC {tt:List Tr}:∀ {ts:List Tr},(∀ t∈ts,dq t)->(nfTs tt ts).length<=4*ts.length
 | [],_=>by simp [nfTs]
 | t::ts,h=>by
  have h1:=Aq (tt:=tt) (h t (by simp))
  have h2:=sC (tt:=tt) (ts:=ts) fun x hx=>h x (by simp [hx])
  rw [nfTs,Qw,List.length_cons];omega
theorem sD {tt ts:List Tr} (h:∀ t∈ts,dq t):∀ n,(bD tt ts n).length<=5*n
 | 0=>Qh _
 | n+1=>by
  have h1:=sD (tt:=tt) h n
  rw [bD,Qw]
  cases e:ts[n]? with
  | none=>show _+0<=_;omega
  | some t =>
   have h2:=qK (aO (ts.take n)) t
   have:(dQ tt (aO (ts.take n)) t++dR tt t).length<=5:=by
    cases h t (Qt e) with
    | tell r w z es _ _ hl =>
     have:(a0 tt r (.many w z es)).length<=4:=QD (sy _) hl
     show (a0 tt r (.many w z es)++[]).length<=5
     rw [List.append_nil];omega
    | df r n2 k ps b hp hb =>
     have h1:=iD tt r (k::ps.map (·.2))
     rw [List.length_cons,Qg] at h1
     show (bW (aO (ts.take n)) (.df r n2 k ps b)++cj tt r (k::ps.map (·.2))).length<=5
     rw [Qw];omega
    | kd r n2 ps =>
     show (bW (aO (ts.take n)) (.kd r n2 ps)++[]).length<=5
     rw [List.append_nil];omega
   show _+(dQ tt (aO (ts.take n)) t++dR tt t).length<=_
   omega
theorem sE (is:List Int) (n:Nat):(bZ is n).length=n:=by simp [bZ]
theorem mL (is:List Int) (n:Nat):∀ t∈bZ is n,dq t:=fun t ht=>by
 obtain ⟨i,rfl⟩:=iL ht
 exact (fO is i).l
theorem Ar (is:List Int) {n:Nat} (hn:n<=14):ms (bZ is n)/\(bD (bZ is n) (bZ is n) (bZ is n).length).length<=75:=by
 have hl:=sE is n
 have h1:=sC (tt:=bZ is n) (mL is n)
 have h2:=sD (tt:=bZ is n) (mL is n) (bZ is n).length
 have h3:=sv (d:=1) (ts:=bZ is n) fun t ht=>by obtain ⟨i,rfl⟩:=iL ht;exact (fO is i).dp
 refine ⟨⟨by omega,by omega,sx (fun t ht=>by obtain ⟨i,rfl⟩:=iL ht;exact (fO is i).asc) ?_,qR fun t ht=>by obtain ⟨i,rfl⟩:=iL ht;exact (fO is i).ok,by omega⟩,by omega⟩
 unfold bZ
 rw [List.pairwise_map]
 refine List.Pairwise.imp (fun {a b} hab=>?_) List.pairwise_lt_range
 rw [(fO is a).row,(fO is b).row];omega
theorem As {fs:List (List aa)} (hj:∀ j,j<fs.length->j∈bJ fs) {k:List aa} (h:k∈fs):k∈bG fs:=by
 obtain ⟨j,hl,e⟩:=List.getElem_of_mem h
 unfold bG
 refine List.mem_map.mpr ⟨j,hj j hl,?_⟩
 rw [Qf,Qb hl]
 exact e
theorem At {ts:List Tr} (h:∀ t∈ts,dq t) {es:List (List aa)} (hp:es.Pairwise (fun x y=>bw x y=true)) (hm:∀ d,d∈es↔d∈bD ts ts ts.length):bG (fN ts)=es:=by
 obtain ⟨u1,u2,u3⟩:=pO (qY ts) (zr ts)
 refine pN u1 hp fun d=>?_
 rw [hm,r9 h]
 exact ⟨q9,As u3⟩
theorem Au {is:List Int} {n:Nat} {k:List aa} (h:k∈fN (bZ is n)):bS 1 (kD k):=by
 obtain ⟨r,a,z,rfl,ha,hz⟩:=mr h
 obtain ⟨t,ht,hz⟩:=mq.mp hz
 obtain ⟨i,rfl⟩:=iL ht
 have hza:=(fO is i).nm z hz
 have hwa:bj a:=by
  have:∀ w∈gz,bj w:=by unfold bj;decide +kernel
  exact this a ha
 refine bS.tuple fun d hd=>?_
 simp only [k3,List.map_cons,List.map_nil,List.mem_cons,List.not_mem_nil,or_false] at hd
 rcases hd with rfl | rfl | rfl
 ·exact .int _
 ·exact .str hwa
 ·exact .str hza
theorem Av (is:List Int):fV (is.map V.int) (some 1) (some 15)=(cb is).map V.int:=by
 unfold fV cb
 have h1:HT.sIx (is.map V.int).length 0 (some 1)=min 1 is.length:=by simp [HT.sIx]
 have h2:HT.sIx (is.map V.int).length (is.map V.int).length (some 15)=min 15 is.length:=by simp [HT.sIx]
 rw [h1,h2,<- List.map_drop,<- List.map_take]
 congr 1
 by_cases h:is.length<1
 ·rw [List.drop_of_length_le (by omega),List.drop_of_length_le (by omega)];simp
 ·rw [show min 1 is.length=1 by omega]
  by_cases h3:is.length<15
  ·rw [show min 15 is.length=is.length by omega,Qu (by rw [List.length_drop];omega),Qu (by rw [List.length_drop];omega)]
  ·rw [show min 15 is.length=15 by omega]
noncomputable def cF (tr:Addr) (H:Hp):Hp:=af H tr (.own tr)
theorem Aw {tr:Addr} {H H':Hp} (h:∀ b o,b≠tr->H b=some o->H' b=some o):bE (cF tr H) (cF tr H'):=by
 have g:∀ {b o},b≠tr->cF tr H b=some o->cF tr H' b=some o:=fun {b o} hb e=>by
  unfold cF at e ⊢
  rw [av hb] at e ⊢
  exact h _ _ hb e
 have n:∀ {b o},(o≠.own tr)->cF tr H b=some o->b≠tr:=fun {b o} ho e z=>by
  unfold cF at e
  rw [z,aj] at e
  exact ho (Qj e).symm
 exact ⟨fun b xs e=>g (n (o:=.tup xs) (fun z=>nomatch z) e) e,fun b xs e=>g (n (o:=.lst xs) (fun z=>nomatch z) e) e,fun b o x e=>g (n (o:=.frz o x) (fun z=>nomatch z) e) e⟩
theorem Ax {tr:Addr} {H:Hp}:bE (cF tr H) H:=by
 have g:∀ {b o},(o≠.own tr)->cF tr H b=some o->H b=some o:=fun {b o} ho e=>by
  unfold cF at e
  by_cases hb:b=tr
  ·rw [hb,aj] at e
   exact absurd (Qj e).symm ho
  ·rwa [av hb] at e
 exact ⟨fun b xs e=>g (o:=.tup xs) (fun z=>nomatch z) e,fun b xs e=>g (o:=.lst xs) (fun z=>nomatch z) e,fun b o x e=>g (o:=.frz o x) (fun z=>nomatch z) e⟩
noncomputable def j3 (K:W.Frag):Sp:=fun vs H Q _=>∃ (a:Addr) (ns:List Int),vs=[.ref a]/\al K H a (ns.map V.int)/\ns.length<=63/\∀ H',Q (.bl true) H'
noncomputable abbrev sG:List Str:=["_law_script","_law_names_here","_law_tree","_law_k","_law_cell","_law_found"]
theorem sH:aS sG ["_law_script"] (aG jO):=⟨rfl,rfl,rfl,by decide +kernel,rfl,by decide +kernel,by decide +kernel⟩
theorem Ay (T:All P w K mg AA DD) {f:Addr} {fd:FuncData} (F:aR K "law" "law" jO f fd):az P w K mg base aE 30 f fd ["_law_script"] (j3 K):=by
 have GPN:=zx (base:=base) T
 have GDU:=Ak (base:=base) T
 have GRW:=zX (base:=base) T
 have GN:=zM (base:=base) T
 have GX:=mw (base:=base) T
 have GCA:=zB (base:=base) T
 refine F.ok sH (fun vs H Q E h=>?_) (fun cdv A outer s H vs Q E hr h=>?_)
 ·obtain ⟨a,ns,rfl,_⟩:=h
  rfl
 ·obtain ⟨a,is,rfl,hS,hlen,kq⟩:=h
  have nd:=sH.nd
  have hu:=hr.units
  have hrP:aw 20 _:=hr.mono (by decide)
  have hr8:aw 8 _:=hr.mono (by decide)
  have hr6:aw 6 _:=hr.mono (by decide)
  have hr2:aw 2 _:=hr.mono (by decide)
  have hr1:aw 1 _:=hr.mono (by decide)
  refine ⟨_,(aH (@bq _ _ 1 _ _ _ _ nd rfl (Or.inl rfl) (aN GN hr2 rfl T.m_Zw T.k_Zw T.b_Zw .nil aI (ae (aN GX hr1 rfl T.m_Zv T.k_Zv T.b_Zv .nil aI (ae (aN GCA hr1 rfl T.m_Zo T.k_Zo T.b_Zo .nil aI (ae (pv 0) (ae ah ag))) (ae ah ag))) ag)) (by rfl) (by first | exact .inl rfl | exact .inr rfl | assumption)) (aH (@bq _ _ 2 _ _ _ _ nd rfl (Or.inl rfl) (b5 ag) (by rfl) (by first | exact .inl rfl | exact .inr rfl | assumption)) (aH (cG PassesOwn.never rfl (vV rfl T.n_enumerate (ae (iX uY (pv 0) (gO ah) (gO ah)) ag)) (fh rfl (bH (ba (i:=3) nd rfl (Or.inl rfl)) (bH (ba (i:=4) nd rfl (Or.inl rfl)) dE))) (aq (bL (gT PySem.F.plainAttrs_list PySem.F.slot_list_append PySem.F.type_list_append gU (pv 2) (ae (aN GRW hr6 rfl T.m_ZG T.k_ZG T.b_ZG .nil aI (ae (aN GX hr1 rfl T.m_Zv T.k_Zv T.b_Zv .nil aI (ae (pv 4) (ae (pv 3) ag))) (ae (aB gM ah (pv 3)) (ae (pv 1) ag)))) ag)) (by rfl))) (by intro _;rfl)) (aH (@bq _ _ 5 _ _ _ _ nd rfl (Or.inl rfl) (aN GPN hrP rfl T.m_Zn T.k_Zn T.b_Zn .nil aI (ae (pv 2) ag)) (by rfl) (by first | exact .inl rfl | exact .inr rfl | assumption)) (aH (be (PW.pt (tu (mS (gG (c6 (im (K:=K) (n:="list") rfl) rfl T.n_isinstance gY (ae (pv 5) (ae (gF (v:=.ty "list") rfl T.n_list i6 rfl) ag))))) (tq (aU (om (K:=K) rfl hu) (eR (aG jO) sG [] [] rfl (by exact ⟨rfl,rfl,by decide +kernel,rfl,by decide +kernel,by decide +kernel,by decide +kernel,rfl,by decide +kernel⟩) rfl rfl (ck (pv 5)) (fun _ _ _ _=>i4 (mS (gG (c6 (im (K:=K) (n:="tuple") rfl) rfl T.n_isinstance gY (ae (pv 0) (ae (gF (v:=.ty "tuple") rfl T.n_tuple f7 rfl) ag)))))) (fun _ _ _ _=>(pv 0))) (b5 ag) (bb _))))) (aq (aP sU)) bx) (aq (aP (@ud _ _ _ _ _ _ _ _ (wm (K:=K) rfl hu) (pv 5) (aN GDU hr8 rfl T.m_ZH T.k_ZH T.b_ZH .nil aI (ae (pv 2) ag)) (bb _))))))))),?_⟩
  refine ⟨_,rfl,a,is,0,rfl,hS,_,_,rfl,bQ (jZ is 0) 9,rfl,zC _ _,fun pn H1 s1 hpn0 hpn=>?_⟩
  dsimp only [aT]
  refine ⟨Qs _,fun tr htr=>?_⟩
  have s2:=ap (o:=.lst []) htr
  have hS2:=s2.seq (s1.seq hS)
  have hpn2:=s2 _ _ hpn
  have htr2:af H1 tr (.lst []) tr=some (.lst []):=aj
  have hpt:pn≠tr:=fun z=>by rw [z,htr] at hpn;cases hpn
  generalize af H1 tr (.lst [])=H2 at hS2 hpn2 htr2
  dsimp only [aT]
  have hcl:=Ap is
  obtain ⟨tok,t75⟩:=Ar is hcl
  have hns:(mJ is).length=4:=(rC _).1
  refine eS (fun σ' H'=>∃ x3 x4 xs,σ'=[some (.ref a),some (.ref pn),some (.ref tr),x3,x4,none]/\H' tr=some (.lst xs)/\LAt H' false xs (bZ is (cb is).length)) (fun R hR=>?_) ?_
  ·refine ⟨_,rfl,1,rfl,15,rfl,a,_,rfl,hS2,fun ps hps=>?_⟩
   rw [Av]
   have sF:=ap (o:=.lst ((cb is).map V.int)) hps
   have hps3:af H2 ps (.lst ((cb is).map V.int)) ps=some (.lst ((cb is).map V.int)):=aj
   have hst:ps≠tr:=fun z=>by rw [z,htr2] at hps;cases hps
   have hpn3:=sF _ _ hpn2
   have htr3:=sF _ _ htr2
   generalize af H2 ps (.lst ((cb is).map V.int))=H3 at hps3 hpn3 htr3
   refine ⟨ps,_,rfl,al.of hps3,?_⟩
   refine vW (K:=K) (a:=ps) (xs:=(cb is).map V.int) (fun i σ' H'=>∃ x3 x4 xs,σ'=[some (.ref a),some (.ref pn),some (.ref tr),x3,x4,none]/\H' tr=some (.lst xs)/\(∀ b o,b≠tr->H3 b=some o->H' b=some o)/\LAt (cF tr H') false xs (bZ is i)) ⟨_,_,[],rfl,htr3,fun b o _ h=>h,by rw [show bZ is 0=[] from rfl];exact .nil⟩ (fun i σ' H' _ h=>by obtain ⟨x3,x4,xs,_,_,h,_⟩:=h;exact al.of (h _ _ hst hps3)) ?_ ?_
   ·rintro i y σ' H4 t9 hy ⟨x3,x4,xs,rfl,htr4,hk4,hL4⟩ ht9
    have hil:=(Qe hy).1
    rw [Qg] at hil
    have ey:y=.int ((cb is).getD i 0):=by
     rw [Qk,Qb hil] at hy
     rw [Qf,Qb hil]
     exact (Qj hy).symm
    subst ey
    have s5:=ap (o:=.tup [.int ((i:Nat):Int),.int ((cb is).getD i 0)]) ht9
    refine ⟨t9,_,rfl,ai.of aj,rfl,_,_,rfl,_,_,rfl,rfl,?_⟩
    have htr5:=s5 _ _ htr4
    generalize af H4 t9 (.tup [.int ((i:Nat):Int),.int ((cb is).getD i 0)])=H5 at s5 htr5 ⊢
    have hxl:=hL4.length
    rw [sE] at hxl
    refine ⟨_,rfl,.inl ⟨rfl,_,al.of htr5⟩,_,rfl,_,rfl,_,_,rfl,_,rfl,_,_,rfl,rfl,.inl ⟨by decide,by decide⟩,_,rfl,bQ ((cb is).getD i 0) ((i:Nat):Int),2*i,pn,mJ is,?_,s5 _ _ (hk4 _ _ hpt hpn3),hns,fun v H6 s6 hv=>?_⟩
    ·show _=[V.int (bQ ((cb is).getD i 0) ((i:Nat):Int)),V.int (((2*i:Nat)):Int),V.ref pn]
     rw [Int.natCast_mul];rfl
    have htr6:=s6 _ _ htr5
    refine ⟨tr,xs,v,rfl,rfl,htr6,cp (by omega),_,_,_,rfl,aj,fun b o hb h=>by rw [av hb];exact s6 _ _ (s5 _ _ (hk4 _ _ hb h)),?_⟩
    have em:cF tr (af H6 tr (.lst (xs++[v])))=cF tr H6:=by
     funext b
     unfold cF
     by_cases hb:b=tr
     ·rw [hb,aj,aj]
     ·rw [av hb,av hb,av hb]
    rw [em]
    unfold bZ
    rw [List.range_succ,QG]
    refine (hL4.kept (Aw fun b o _ h=>s6 _ _ (s5 _ _ h))).snoc (.plain rfl (hv _ (fun b zs e=>?_) fun c zs h0 e=>?_))
    ·unfold cF;rw [av (fun z=>by rw [z,htr6] at e;cases e)];exact e
    ·unfold cF;rw [av (fun z=>by rw [z,htr5] at h0;cases h0)];exact e
   ·rintro σ' H4 ⟨x3,x4,xs,rfl,htr4,hk4,hL4⟩
    rw [Qg] at hL4
    exact hR _ _ ⟨_,_,xs,rfl,htr4,hL4.kept Ax⟩
  ·rintro σ' H4 ⟨x3,x4,xs,rfl,htr4,hL4⟩
   have hl32:=mL is (cb is).length
   have hkd:∀ k∈fN (bZ is (cb is).length),bS 1 (kD k):=fun k hk=>Au hk
   have h20:=tok.2.1
   generalize bZ is (cb is).length=ts at *
   refine ⟨_,rfl,tr,xs,ts,rfl,htr4,hL4,tok,fun p ys H5 l5 hp hT=>?_⟩
   dsimp only [aT]
   refine fz (fun σ' H'=>Same H5 H'/\σ'=[some (.ref a),some (.ref pn),some (.ref tr),x3,x4,some (.ref p)]) (fun R hR=>?_) ?_
   ·refine ⟨_,rfl,.ref p,_,true,rfl,.lst hp,by rfl,_,rfl,c7 ?_⟩
    refine ⟨_,rfl,p,rfl,⟨_,al.of hp⟩,?_⟩
    refine kG (K:=K) (a:=p) (xs:=ys) (fun i zs H'=>H'=H5/\zs=[]) ⟨rfl,rfl⟩ (fun i zs H' _ h=>by rw [h.1];exact al.of hp) ?_ ?_
    ·rintro i x zs H' hx ⟨rfl,rfl⟩
     obtain ⟨hi,ex⟩:=Qe hx
     have hik:i<(bG (fN ts)).length:=by rw [<- hT.1];exact hi
     obtain ⟨t,rfl,ht⟩:=hT.2 i x _ hx (Qb hik)
     refine ⟨_,rfl,.ref t,_,true,rfl,.tup ht,by rfl,_,rfl,?_⟩
     exact ⟨rfl,rfl⟩
    ·rintro zs H' ⟨rfl,rfl⟩ q hq
     have s3:=ap (o:=.lst []) hq
     refine ⟨Qs _,fun q2 hq2=>?_⟩
     have s4:=ap (o:=.lst []) hq2
     refine ⟨.list [],.list [],.lst (al.of (s4 _ _ aj)) .nil,.lst (al.of aj) .nil,by rfl,by rfl,_,rfl,?_⟩
     exact c7 (hR _ _ ⟨s3.trans s4,rfl⟩)
   ·rintro σ' H6 ⟨s6,rfl⟩
    have l6:=l5.trans s6.ls
    refine ⟨_,rfl,_,rfl,tr,xs,ts,rfl,l6.2 _ _ htr4,hL4.kept l6,hl32,h20,t75,fun p2 cs es H7 s7 hp2 hT2 hpw hme=>?_⟩
    have efk:=At hl32 hpw hme
    rw [efk] at hT
    have shl:SeqAt.shaped (.list (es.map kD))=true:=(bS.list (n:=1) fun d hd=>by
     obtain ⟨k,hk,rfl⟩:=QF hd
     exact hkd k ((r9 hl32 k).mp ((hme k).mp hk))).ok (by decide)
    have er:PyData.eqv (.list (es.map kD)) (.list (es.map kD))=true:=by simp only [PyData.eqv];exact eqvAll_refl _
    refine ⟨.list (es.map kD),.list (es.map kD),.lst (al.of (s7 _ _ (s6 _ _ hp))) (mH (fe (s6.trans s7).ls.1 hT)),.lst (al.of hp2) (mH hT2),shl,shl,?_⟩
    rw [er]
    exact kq _
end
structure FB (K:W.Frag) (n q:Str) (st:Stmt) (ps:List Str) (f:Addr) (fd:FuncData):Prop where
 k:W.keepIn K (.ref f)=true
 F:aR K n q st f fd
 b:Binds K fd ps []
noncomputable def FG (K:W.Frag) (n q:Str) (st:Stmt) (ps:List Str):Prop:=∃ f fd,W.nsIn K mainGlobals n=some (some (.ref f))/\FB K n q st ps f fd
noncomputable def MG (K:W.Frag) (c:Addr) (n q:Str) (st:Stmt) (ps:List Str):Prop:=∃ f fd,W.findIn K (.ref c) n=some (some (.ref f))/\W.isFn K (.ref f)=true/\FB K n q st ps f fd
section
variable {K:W.Frag} {n q:Str} {st:Stmt} {ps:List Str} {f c:Addr} {oc kV dc pm cd ct:Value} {od an:Option Addr} {sl:Array (Option Value)}
theorem fb (l:K.lookup f=some ⟨oc,od,.func (W.fnOf n q (fX st) (fq st) (aG st) .none kV dc pm an cd ct),sl⟩) (e:W.codeIn K cd q=true) (k:W.keepIn K (.ref f)=true)
  (b:∀ us:List Value,us.length=ps.length->bindArgs (W.fnOf n q (fX st) (fq st) (aG st) .none kV dc pm an cd ct) ⟨us,[]⟩=pure (ps.zip us)):FB K n q st ps f (W.fnOf n q (fX st) (fq st) (aG st) .none kV dc pm an cd ct) :=
 ⟨k,vk l e k,.all b⟩
theorem fg {fd:FuncData} (a:W.nsIn K mainGlobals n=some (some (.ref f))) (b:FB K n q st ps f fd):FG K n q st ps:=⟨f,fd,a,b⟩
theorem mg {fd:FuncData} (a:W.findIn K (.ref c) n=some (some (.ref f))) (i:W.isFn K (.ref f)=true) (b:FB K n q st ps f fd):MG K c n q st ps:=⟨f,fd,a,i,b⟩
end
theorem Az {l:W.OpenLaw} {w:World} {K:W.Frag} {h:Heap} {mg:Str->Option Value} {fa c_NameLook q_PLAIN_KINDS:Addr} (X:K.In h) (G:h.Ns mainGlobals mg) (hfa:mg "law"=some (.ref fa))
  {t_PLAIN_KINDS_0 t_PLAIN_KINDS_1:Tok} {od_PLAIN_KINDS:Option Addr} {n_PLAIN_KINDS:Nat} {sl_PLAIN_KINDS:Array (Option Value)}
  (aC_NameLook:W.nsIn K mainGlobals "NameLook"=some (some (.ref c_NameLook)))
  (g_ZK:FG K "least" "least" lz ["mask"])
  (g_ZE:FG K "without" "without" lA ["mask","other"])
  (g_ZI:FG K "all_of" "all_of" lB ["pairs"])
  (g_Zp:FG K "kept_pairs" "kept_pairs" jD ["pairs","mask"])
  (g_ZJ:FG K "add_to" "add_to" lC ["found","key","mask"])
  (g_Zq:FG K "with_masks" "with_masks" jE ["found"])
  (g_Zs:FG K "kept_tree" "kept_tree" jF ["tree","mask"])
  (g_Zg:FG K "kept_statement" "kept_statement" jG ["one","mask"])
  (g_Zh:FG K "row_and_least" "row_and_least" lD ["pair"])
  (g_Zt:FG K "shared_of" "shared_of" jH ["tree"])
  (g_Zf:FG K "shared_statement" "shared_statement" jI ["one"])
  (g_Zu:FG K "blocks_of" "blocks_of" jJ ["one"])
  (g_Zr:FG K "first_rows" "first_rows" lE ["tree"])
  (g_Zz:FG K "pairs_of" "pairs_of" lF ["one"])
  (g_ZF:FG K "expr_of" "expr_of" lG ["one"])
  (g_ZA:FG K "exprs_in" "exprs_in" lH ["e"])
  (g_Zl:FG K "shared_names" "shared_names" lI ["tree","mask"])
  (g_Zn:FG K "plain_names" "plain_names" jK ["tree"])
  (g_Zo:FG K "_law_cell_at" "_law_cell_at" lJ ["_law_script","_law_k"])
  (g_Zv:FG K "_law_mixed" "_law_mixed" lK ["_law_cell","_law_k"])
  (g_ZB:FG K "_law_word" "_law_word" lL ["_law_number"])
  (g_Zw:FG K "_law_names" "_law_names" jL ["_law_number"])
  (g_ZC:FG K "_law_kind" "_law_kind" lM ["_law_number","_law_names_here"])
  (g_ZD:FG K "_law_call" "_law_call" jM ["_law_number","_law_names_here","_law_deep"])
  (g_ZG:FG K "_law_row" "_law_row" ip ["_law_number","_law_at","_law_names_here"])
  (g_Zx:FG K "_law_first" "_law_first" lN ["_law_tree","_law_word_here","_law_name"])
  (g_Zy:FG K "_law_calls" "_law_calls" lO ["_law_e"])
  (g_Zm:FG K "_law_call_due" "_law_call_due" lP ["_law_tree","_law_at","_law_e"])
  (g_ZH:FG K "_law_due" "_law_due" jN ["_law_tree"])
  (g_Zi:MG K c_NameLook "__init__" "NameLook.__init__" lQ ["self","tree"])
  (g_Zj:MG K c_NameLook "note" "NameLook.note" lR ["self","mask","at","what","name"])
  (g_Za:MG K c_NameLook "look_twice" "NameLook.look_twice" lS ["self","tree"])
  (g_Zb:MG K c_NameLook "look_body" "NameLook.look_body" lT ["self","statements","given"])
  (g_Zd:MG K c_NameLook "look_def" "NameLook.look_def" iq ["self","mask","one"])
  (g_Zc:MG K c_NameLook "look_expr" "NameLook.look_expr" lU ["self","mask","e","at","given"])
  (g_Ze:MG K c_NameLook "look_use" "NameLook.look_use" lV ["self","mask","e","at","word","missing"])
  (g_Zk:MG K c_NameLook "held" "NameLook.held" lW ["self","word","name"])
  (g_law:FG K "law" "law" jO ["_law_script"])
  (pg_NameLook:W.plainGet K c_NameLook Str.empty=true)
  (hd_NameLook:W.hasDictIn K c_NameLook=true)
  (po_NameLook:W.plainOver K c_NameLook=true)
  (sa_NameLook:W.findIn K (.ref c_NameLook) "__setattr__"=some (some (.builtin "object.__setattr__")))
  (mk_NameLook:W.makesIn K c_NameLook=true)
  (kc_NameLook:W.keepIn K (.ref c_NameLook)=true)
  (na_NameLook_faults:W.findIn K (.ref c_NameLook) "faults"=some none)
  (na_NameLook_firsts:W.findIn K (.ref c_NameLook) "firsts"=some none)
  (t1_NameLook:W.findIn K (.ref c_NameLook) "__class__"=some (some (.builtin "object.__class__")))
  (t2_NameLook:W.specialIn K (.builtin "object.__class__") "__get__"=some (some (.builtin "getset_descriptor.__get__")))
  (t3_NameLook:W.takesIn K (.builtin "object.__class__")=some true)
  (t4_NameLook:W.mroIn K c_NameLook (.type "object")=some true)
  (a_PLAIN_KINDS:W.nsIn K mainGlobals "PLAIN_KINDS"=some (some (.ref q_PLAIN_KINDS)))
  (l_PLAIN_KINDS:K.lookup q_PLAIN_KINDS=some ⟨.type "tuple",od_PLAIN_KINDS,.seq #[.str "num" t_PLAIN_KINDS_0,.str "truth" t_PLAIN_KINDS_1] n_PLAIN_KINDS,sl_PLAIN_KINDS⟩)
  (z_len:W.nsIn K mainGlobals "len"=some none)
  (z_range:W.nsIn K mainGlobals "range"=some none)
  (z_list:W.nsIn K mainGlobals "list"=some none)
  (z_dict:W.nsIn K mainGlobals "dict"=some none)
  (z_tuple:W.nsIn K mainGlobals "tuple"=some none)
  (z_sorted:W.nsIn K mainGlobals "sorted"=some none)
  (z_enumerate:W.nsIn K mainGlobals "enumerate"=some none)
  (z_isinstance:W.nsIn K mainGlobals "isinstance"=some none)
  (z_set:W.nsIn K mainGlobals "set"=some none)
  :
  ∃ fd:FuncData,(∀ (s:Shared) (v:Value),BindsTo s fd ⟨[v],[]⟩ [("_law_script",v)])/\∀ base:Heap,K.In base->base.Ns mainGlobals mg->az l.prog w K mg base aE 30 fa fd ["_law_script"] (j3 K):=by
 obtain ⟨_,_,a_ZK,u_ZK⟩:=g_ZK
 obtain ⟨_,_,a_ZE,u_ZE⟩:=g_ZE
 obtain ⟨_,_,a_ZI,u_ZI⟩:=g_ZI
 obtain ⟨_,_,a_Zp,u_Zp⟩:=g_Zp
 obtain ⟨_,_,a_ZJ,u_ZJ⟩:=g_ZJ
 obtain ⟨_,_,a_Zq,u_Zq⟩:=g_Zq
 obtain ⟨_,_,a_Zs,u_Zs⟩:=g_Zs
 obtain ⟨_,_,a_Zg,u_Zg⟩:=g_Zg
 obtain ⟨_,_,a_Zh,u_Zh⟩:=g_Zh
 obtain ⟨_,_,a_Zt,u_Zt⟩:=g_Zt
 obtain ⟨_,_,a_Zf,u_Zf⟩:=g_Zf
 obtain ⟨_,_,a_Zu,u_Zu⟩:=g_Zu
 obtain ⟨_,_,a_Zr,u_Zr⟩:=g_Zr
 obtain ⟨_,_,a_Zz,u_Zz⟩:=g_Zz
 obtain ⟨_,_,a_ZF,u_ZF⟩:=g_ZF
 obtain ⟨_,_,a_ZA,u_ZA⟩:=g_ZA
 obtain ⟨_,_,a_Zl,u_Zl⟩:=g_Zl
 obtain ⟨_,_,a_Zn,u_Zn⟩:=g_Zn
 obtain ⟨_,_,a_Zo,u_Zo⟩:=g_Zo
 obtain ⟨_,_,a_Zv,u_Zv⟩:=g_Zv
 obtain ⟨_,_,a_ZB,u_ZB⟩:=g_ZB
 obtain ⟨_,_,a_Zw,u_Zw⟩:=g_Zw
 obtain ⟨_,_,a_ZC,u_ZC⟩:=g_ZC
 obtain ⟨_,_,a_ZD,u_ZD⟩:=g_ZD
 obtain ⟨_,_,a_ZG,u_ZG⟩:=g_ZG
 obtain ⟨_,_,a_Zx,u_Zx⟩:=g_Zx
 obtain ⟨_,_,a_Zy,u_Zy⟩:=g_Zy
 obtain ⟨_,_,a_Zm,u_Zm⟩:=g_Zm
 obtain ⟨_,_,a_ZH,u_ZH⟩:=g_ZH
 obtain ⟨_,_,a_Zi,i_Zi,u_Zi⟩:=g_Zi
 obtain ⟨_,_,a_Zj,i_Zj,u_Zj⟩:=g_Zj
 obtain ⟨_,_,a_Za,i_Za,u_Za⟩:=g_Za
 obtain ⟨_,_,a_Zb,i_Zb,u_Zb⟩:=g_Zb
 obtain ⟨_,_,a_Zd,i_Zd,u_Zd⟩:=g_Zd
 obtain ⟨_,_,a_Zc,i_Zc,u_Zc⟩:=g_Zc
 obtain ⟨_,_,a_Ze,i_Ze,u_Ze⟩:=g_Ze
 obtain ⟨_,_,a_Zk,i_Zk,u_Zk⟩:=g_Zk
 obtain ⟨_,_,a_law,u_law⟩:=g_law
 have e:=hfa.symm.trans (W.mg_of X G a_law)
 cases e
 have T:All l.prog w K mg ⟨_,_,_,_,_,_,_,_,_,_,_,_,_,_,_,_,_,_,_,_,_,_,_,_,_,_,_,_,_,_,_,_,_,_,_,_,_,_,_⟩ ⟨_,_,_,_,_,_,_,_,_,_,_,_,_,_,_,_,_,_,_,_,_,_,_,_,_,_,_,_,_,_,_,_,_,_,_,_,_⟩:=⟨W.mg_of X G a_ZK,
  u_ZK.k,
  u_ZK.F,
  u_ZK.b,
  W.mg_of X G a_ZE,
  u_ZE.k,
  u_ZE.F,
  u_ZE.b,
  W.mg_of X G a_ZI,
  u_ZI.k,
  u_ZI.F,
  u_ZI.b,
  W.mg_of X G a_Zp,
  u_Zp.k,
  u_Zp.F,
  u_Zp.b,
  W.mg_of X G a_ZJ,
  u_ZJ.k,
  u_ZJ.F,
  u_ZJ.b,
  W.mg_of X G a_Zq,
  u_Zq.k,
  u_Zq.F,
  u_Zq.b,
  W.mg_of X G a_Zs,
  u_Zs.k,
  u_Zs.F,
  u_Zs.b,
  W.mg_of X G a_Zg,
  u_Zg.k,
  u_Zg.F,
  u_Zg.b,
  W.mg_of X G a_Zh,
  u_Zh.k,
  u_Zh.F,
  u_Zh.b,
  W.mg_of X G a_Zt,
  u_Zt.k,
  u_Zt.F,
  u_Zt.b,
  W.mg_of X G a_Zf,
  u_Zf.k,
  u_Zf.F,
  u_Zf.b,
  W.mg_of X G a_Zu,
  u_Zu.k,
  u_Zu.F,
  u_Zu.b,
  W.mg_of X G a_Zr,
  u_Zr.k,
  u_Zr.F,
  u_Zr.b,
  W.mg_of X G a_Zz,
  u_Zz.k,
  u_Zz.F,
  u_Zz.b,
  W.mg_of X G a_ZF,
  u_ZF.k,
  u_ZF.F,
  u_ZF.b,
  W.mg_of X G a_ZA,
  u_ZA.k,
  u_ZA.F,
  u_ZA.b,
  W.mg_of X G a_Zl,
  u_Zl.k,
  u_Zl.F,
  u_Zl.b,
  W.mg_of X G a_Zn,
  u_Zn.k,
  u_Zn.F,
  u_Zn.b,
  W.mg_of X G a_Zo,
  u_Zo.k,
  u_Zo.F,
  u_Zo.b,
  W.mg_of X G a_Zv,
  u_Zv.k,
  u_Zv.F,
  u_Zv.b,
  W.mg_of X G a_ZB,
  u_ZB.k,
  u_ZB.F,
  u_ZB.b,
  W.mg_of X G a_Zw,
  u_Zw.k,
  u_Zw.F,
  u_Zw.b,
  W.mg_of X G a_ZC,
  u_ZC.k,
  u_ZC.F,
  u_ZC.b,
  W.mg_of X G a_ZD,
  u_ZD.k,
  u_ZD.F,
  u_ZD.b,
  W.mg_of X G a_ZG,
  u_ZG.k,
  u_ZG.F,
  u_ZG.b,
  W.mg_of X G a_Zx,
  u_Zx.k,
  u_Zx.F,
  u_Zx.b,
  W.mg_of X G a_Zy,
  u_Zy.k,
  u_Zy.F,
  u_Zy.b,
  W.mg_of X G a_Zm,
  u_Zm.k,
  u_Zm.F,
  u_Zm.b,
  W.mg_of X G a_ZH,
  u_ZH.k,
  u_ZH.F,
  u_ZH.b,
  ⟨mk_NameLook,a_Zi,i_Zi,kc_NameLook⟩,
  u_Zi.k,
  u_Zi.F,
  u_Zi.b,
  ⟨a_Zj,i_Zj,u_Zj.k⟩,
  u_Zj.k,
  u_Zj.F,
  u_Zj.b,
  ⟨a_Za,i_Za,u_Za.k⟩,
  u_Za.k,
  u_Za.F,
  u_Za.b,
  ⟨a_Zb,i_Zb,u_Zb.k⟩,
  u_Zb.k,
  u_Zb.F,
  u_Zb.b,
  ⟨a_Zd,i_Zd,u_Zd.k⟩,
  u_Zd.k,
  u_Zd.F,
  u_Zd.b,
  ⟨a_Zc,i_Zc,u_Zc.k⟩,
  u_Zc.k,
  u_Zc.F,
  u_Zc.b,
  ⟨a_Ze,i_Ze,u_Ze.k⟩,
  u_Ze.k,
  u_Ze.F,
  u_Ze.b,
  ⟨a_Zk,i_Zk,u_Zk.k⟩,
  u_Zk.k,
  u_Zk.F,
  u_Zk.b,
  W.mg_of X G aC_NameLook,
  ⟨pg_NameLook,hd_NameLook,po_NameLook,sa_NameLook⟩,
  na_NameLook_faults,
  na_NameLook_firsts,
  fun H a dx fs e=>.ins e ⟨pg_NameLook,hd_NameLook,po_NameLook,sa_NameLook⟩ t1_NameLook t2_NameLook t3_NameLook t4_NameLook,
  vA _ _,
  W.mg_of X G a_PLAIN_KINDS,
  fun H=>.inr ⟨_,_,_,l_PLAIN_KINDS,rfl,rfl,(by show 2<=sizeLine;decide),.cons ⟨_,rfl⟩ (.cons ⟨_,rfl⟩ (.nil))⟩,
  W.mg_none_of X G z_len,
  W.mg_none_of X G z_range,
  W.mg_none_of X G z_list,
  W.mg_none_of X G z_dict,
  W.mg_none_of X G z_tuple,
  W.mg_none_of X G z_sorted,
  W.mg_none_of X G z_enumerate,
  W.mg_none_of X G z_isinstance,
  W.mg_none_of X G z_set⟩
 obtain ⟨_,_,_,_,_,_,_,_,_,e,_⟩:=u_law.F.ex
 exact ⟨_,fun s v=>by rw [e];exact .of_eq rfl,fun base _ _=>Ay T u_law.F⟩
theorem AB {l:W.OpenLaw} {q:Program} {loose:List Str} {XP:(Str->Option Value)->Heap->Prop} {YP:World->Heap->Prop} {d:DefRec} {K:Params->W.Frag} (hn:l.most=some 63) (hdf:d.params.defaults=[])
  (hY:∀ (w:World) (h:Heap),YP w h->(K w.params).In h)
  (F:∀ (w:World) (mg:Str->Option Value) (fa:Addr) (h:Heap),(K w.params).In h->h.Ns mainGlobals mg->mg d.name=some (.ref fa) ->
   ∃ fd:FuncData,(∀ (s:Shared) (u:Value),BindsTo s fd ⟨[u],[]⟩ [("_law_script",u)])/\∀ base:Heap,(K w.params).In base->base.Ns mainGlobals mg->az l.prog w (K w.params) mg base aE 30 fa fd ["_law_script"] (j3 (K w.params))) :
  W.WalkO q loose XP YP l.row.toRowW d [] (fun f vs=>PySem.call f vs) :=
 L2.vj (n:=63) (k:=30) (x:="_law_script") (CX:=fun _=>aE) (sp:=fun w=>j3 (K w.params)) hn (by decide) hdf ⟨rfl,by decide,by decide⟩ hY F (fun _ _ a ns hl _ hS=>⟨a,ns,rfl,hS,hl,fun _=>rfl⟩) fun _ _ _ _ _ z=>z
end K32
open PySem PySem.W PyProof.Rows
set_option maxRecDepth 100000 in
set_option maxHeartbeats 0 in
theorem PySem.Challenge.cw_manymakes_k32_heads_of_defs_and_kinds_holds : PySem.Challenge.rw_manymakes_k32_heads_of_defs_and_kinds.Holds := by
 rw [<- K32.rwe]
 w_on;o_law
 refine PySem.W.holds_open (r:=OpenLaw.row K32.rw) (q:=K32.vw) (loose:=[]) (Xt:=K32.xt) (XP:=XL K32.vw [])
  (Yf:=(kHook K32.pre.heap_1 K32.as K32.ase).obs) (Ya:=(kHook K32.pre.heap_1 K32.as K32.ase).val) (YP:=(kHook K32.pre.heap_1 K32.as K32.ase).says)
  (N:=2874) (show LeftO K32.pw _ _ _ _ _ _ from K32.pwe ▸ K32.left)
  ((kHook K32.pre.heap_1 K32.as K32.ase).of) ((kHook K32.pre.heap_1 K32.as K32.ase).keeps) (fun s e=>xl_of s (Mm.both_true e).1)
  (XL.keeps) (by rfl) (by rfl) (by rfl) (fun s e=>recFacts_of (Mm.both_true e).2)
  (by rfl) (by assumption) (by decide +kernel)
  ⟨rfl,rfl,rfl,rfl,rfl,by decide +kernel⟩ ?hw ?hc
 (case hw=>exact ⟨[.list []],by decide +kernel,by decide +kernel⟩)
 k_fill
 refine K32.AB (l:=K32.rw) rfl rfl (fun w h Y=>PySem.W.kIn_of Y) ?F
 case F =>
  intro w mg fa h KX G hmg
  apply K32.Az KX G hmg
  all_goals first | (apply K32.fg;k_is;apply K32.fb;k_is;k_is;k_is;intro us hl;(rcases us with _ | ⟨_,_ | ⟨_,_ | ⟨_,_ | ⟨_,_ | ⟨_,_ | ⟨_,_ | _⟩⟩⟩⟩⟩⟩)<;>first | (simp at hl;done) | rfl) | (apply K32.mg;k_is;k_is;apply K32.fb;k_is;k_is;k_is;intro us hl;(rcases us with _ | ⟨_,_ | ⟨_,_ | ⟨_,_ | ⟨_,_ | ⟨_,_ | ⟨_,_ | _⟩⟩⟩⟩⟩⟩)<;>first | (simp at hl;done) | rfl) | (apply K32.dg;k_is;k_is;all_goals first | rfl | decide +kernel) | k_is
