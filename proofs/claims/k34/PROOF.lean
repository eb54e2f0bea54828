import PyProof.Rows.All
import Wide.All
import OpenK.AllK
import Wide.FinOn
import Lean
import PyProof.EqAt
import PyProof.EqKinds
import PyProof.TupleCall
import PyProof.Rows.BitMore
import KE.IntBitsLaws
import KE.KRevIter
import KE.KTryMore
import PyProof.StrLawsRepr
import KE.KIsAll
import KE.RegKIsAll
import KE.RegKTryMore
import PyProof.StrCalls2
import PyProof.StrLawsTight
import PyProof.StrLawsChain
import PyProof.Rows.StrItems
import PyProof.Rows.StrWeight2
import PyProof.EnumMake
import PyProof.EnumStmt
import PyProof.Rows.EnumRows
import PyProof.Rows.ZipGen
import PyProof.Rows.FactsT2
import PyProof.IsiH_list
import PyProof.AttrMiss
import KE.KDictOf
import PyProof.IsiH_tuple
import PyProof.Rows.EqDataRows
import PyProof.P3Eq
import PyProof.Rows.SortRev
import KE.KSortTup
import PyProof.StrWalks
import KE.KIntText
import KE.IntTextLaws
import PyProof.CallStr
import KE.KDictSum
import PyProof.FString5
import PyProof.PureInt
import PyProof.FactsAll.tuple_1
import KE.KLam
import KE.KNestM
import PySem.Challenge.RW_manymakes_k34_shared_names_cut
set_option Elab.async false
set_option maxRecDepth 100000
set_option linter.all false
set_option maxHeartbeats 4000000
section
open PySem PySem.Spec PyProof.Rows PySem.W
theorem eI:0<=sizeLine:=by decide
theorem dh:1<=sizeLine:=by decide
theorem bL:2<=sizeLine:=by decide
theorem dR:3<=sizeLine:=by decide
theorem mB:4<=sizeLine:=by decide
theorem Qa:type_of% @List.getElem?_eq_getElem:=@List.getElem?_eq_getElem
theorem Qb:type_of% @wpAny_bind:=@wpAny_bind
theorem Qc {α:Type _} {l:List α} {i:Nat} {a:α} (h:l[i]?=some a):∃ h:i<l.length,l[i]=a:=List.getElem?_eq_some_iff.mp h
theorem Qd:type_of% @List.length_map:=@List.length_map
theorem Qe:type_of% @List.getD_eq_getElem?_getD:=@List.getD_eq_getElem?_getD
theorem Qf:type_of% @Nat.le_refl:=@Nat.le_refl
theorem Qg:type_of% @Heap.get?_push_of_some:=@Heap.get?_push_of_some
theorem Qh:type_of% @List.mem_of_getElem?:=@List.mem_of_getElem?
theorem Qi:type_of% @decide_eq_false:=@decide_eq_false
theorem Qj:type_of% @List.size_toArray:=@List.size_toArray
theorem Qk:type_of% @wpAny_pure:=@wpAny_pure
theorem Ql:type_of% @List.getElem?_append_right:=@List.getElem?_append_right
theorem Qm:type_of% @List.take_succ_eq_append_getElem:=@List.take_succ_eq_append_getElem
theorem Qn {α:Type _} {l:List α} {a b:α} (h:a∈b::l):a=b∨a∈l:=List.mem_cons.mp h
theorem Qo:type_of% @decide_eq_true:=@decide_eq_true
theorem Qp:type_of% @List.getElem?_append_left:=@List.getElem?_append_left
theorem Qq:type_of% @Option.some.inj:=@Option.some.inj
theorem Qr:type_of% @List.getElem?_map:=@List.getElem?_map
theorem Qs:type_of% @Heap.lt_size:=@Heap.lt_size
theorem Qt {α:Type _} {a b:α} (h:a∈[b]):a=b:=List.mem_singleton.mp h
theorem Qu:type_of% @Nat.zero_le:=@Nat.zero_le
theorem Qv:type_of% @List.take_of_length_le:=@List.take_of_length_le
theorem Qw {α:Type _} {l r:List α} {a:α} (h:a∈l++r):a∈l∨a∈r:=List.mem_append.mp h
theorem Qx:type_of% @List.mem_append_right:=@List.mem_append_right
theorem Qy:type_of% @List.mem_cons_of_mem:=@List.mem_cons_of_mem
theorem Qz:type_of% @Heap.get?_push_size:=@Heap.get?_push_size
theorem QA:type_of% @Array.length_toList:=@Array.length_toList
theorem QB:type_of% @Nat.ne_of_lt:=@Nat.ne_of_lt
theorem QC:type_of% @Nat.le_trans:=@Nat.le_trans
theorem QD:type_of% @List.length_take:=@List.length_take
theorem QE:type_of% @Int.toNat_natCast:=@Int.toNat_natCast
theorem QF:type_of% @List.mem_cons_self:=@List.mem_cons_self
theorem QG:type_of% @Bool.false_ne_true:=@Bool.false_ne_true
theorem QH {α β:Type _} {f:α->β} {l:List α} {b:β} (h:b∈l.map f):∃ a,a∈l∧f a=b:=List.mem_map.mp h
theorem QI:type_of% @Nat.lt_of_lt_of_le:=@Nat.lt_of_lt_of_le
theorem QJ:type_of% @Array.toList_append:=@Array.toList_append
theorem QK:type_of% @List.length_append:=@List.length_append
theorem QL:type_of% @List.getElem_mem:=@List.getElem_mem
theorem QM:type_of% @List.append_nil:=@List.append_nil
theorem QN:type_of% @Nat.lt_of_le_of_lt:=@Nat.lt_of_le_of_lt
theorem QO:type_of% @Heap.get?_update_ne:=@Heap.get?_update_ne
theorem QP:type_of% @Bool.and_eq_true:=@Bool.and_eq_true
theorem QQ:type_of% @List.map_append:=@List.map_append
theorem QR:type_of% @List.length_cons:=@List.length_cons
theorem QS:type_of% @of_decide_eq_true:=@of_decide_eq_true
theorem QT:type_of% @Bool.false_eq_true:=@Bool.false_eq_true
theorem QU {α:Type _} {a:α} {l:List α} (h:a∈l):∃ n,∃ (h:n<l.length),l[n]=a:=List.mem_iff_getElem.mp h
theorem QV:type_of% @wpAny_mono:=@wpAny_mono
theorem QW:type_of% @List.append_assoc:=@List.append_assoc
theorem QX:type_of% @Nat.ne_of_gt:=@Nat.ne_of_gt
theorem QY:type_of% @Nat.le_of_lt:=@Nat.le_of_lt
theorem QZ:type_of% @List.map_map:=@List.map_map
end
section
open PySem PySem.W
noncomputable def Mm.hdTr {α:Type} (_:α):Prop:=True
noncomputable def Mm.hdPk {α:Type} (s:α) (_:Mm.hdTr s):α:=s
theorem Mm.hdOf {α:Type} {a s:α} (_:a=s):Mm.hdTr s:=trivial
abbrev K34.g (i:Nat):Stmt:=PySem.Challenge.pw_manymakes_k34_shared_names_cut.main.body.getD i (Stmt.Pass ⟨0,0,0,0⟩)
noncomputable def K34.t0:Stmt:=Mm.hdPk (Stmt.Assign _ _ _) (Mm.hdOf (a:=K34.g 0) rfl)
noncomputable def K34.t1:Stmt:=Mm.hdPk (Stmt.FunctionDef _ _ _ _ _ _ _ _ _ _) (Mm.hdOf (a:=K34.g 1) rfl)
noncomputable def K34.t2:Stmt:=Mm.hdPk (Stmt.FunctionDef _ _ _ _ _ _ _ _ _ _) (Mm.hdOf (a:=K34.g 2) rfl)
noncomputable def K34.t3:Stmt:=Mm.hdPk (Stmt.FunctionDef _ _ _ _ _ _ _ _ _ _) (Mm.hdOf (a:=K34.g 3) rfl)
noncomputable def K34.t4:Stmt:=Mm.hdPk (Stmt.FunctionDef _ _ _ _ _ _ _ _ _ _) (Mm.hdOf (a:=K34.g 4) rfl)
noncomputable def K34.t5:Stmt:=Mm.hdPk (Stmt.FunctionDef _ _ _ _ _ _ _ _ _ _) (Mm.hdOf (a:=K34.g 5) rfl)
noncomputable def K34.t6:Stmt:=Mm.hdPk (Stmt.FunctionDef _ _ _ _ _ _ _ _ _ _) (Mm.hdOf (a:=K34.g 6) rfl)
noncomputable def K34.t7:Stmt:=Mm.hdPk (Stmt.Assign _ _ _) (Mm.hdOf (a:=K34.g 7) rfl)
noncomputable def K34.t8:Stmt:=Mm.hdPk (Stmt.FunctionDef _ _ _ _ _ _ _ _ _ _) (Mm.hdOf (a:=K34.g 8) rfl)
noncomputable def K34.t9:Stmt:=Mm.hdPk (Stmt.FunctionDef _ _ _ _ _ _ _ _ _ _) (Mm.hdOf (a:=K34.g 9) rfl)
noncomputable def K34.t10:Stmt:=Mm.hdPk (Stmt.FunctionDef _ _ _ _ _ _ _ _ _ _) (Mm.hdOf (a:=K34.g 10) rfl)
noncomputable def K34.t11:Stmt:=Mm.hdPk (Stmt.FunctionDef _ _ _ _ _ _ _ _ _ _) (Mm.hdOf (a:=K34.g 11) rfl)
noncomputable def K34.t12:Stmt:=Mm.hdPk (Stmt.FunctionDef _ _ _ _ _ _ _ _ _ _) (Mm.hdOf (a:=K34.g 12) rfl)
noncomputable def K34.t13:Stmt:=Mm.hdPk (Stmt.FunctionDef _ _ _ _ _ _ _ _ _ _) (Mm.hdOf (a:=K34.g 13) rfl)
noncomputable def K34.t14:Stmt:=Mm.hdPk (Stmt.Assign _ _ _) (Mm.hdOf (a:=K34.g 14) rfl)
noncomputable def K34.t15:Stmt:=Mm.hdPk (Stmt.Assign _ _ _) (Mm.hdOf (a:=K34.g 15) rfl)
noncomputable def K34.t16:Stmt:=Mm.hdPk (Stmt.ClassDef _ _ _ _ _ _ _ _ _ _ _) (Mm.hdOf (a:=K34.g 16) rfl)
noncomputable def K34.t17:Stmt:=Mm.hdPk (Stmt.FunctionDef _ _ _ _ _ _ _ _ _ _) (Mm.hdOf (a:=K34.g 17) rfl)
noncomputable def K34.t18:Stmt:=Mm.hdPk (Stmt.FunctionDef _ _ _ _ _ _ _ _ _ _) (Mm.hdOf (a:=K34.g 18) rfl)
noncomputable def K34.t19:Stmt:=Mm.hdPk (Stmt.FunctionDef _ _ _ _ _ _ _ _ _ _) (Mm.hdOf (a:=K34.g 19) rfl)
noncomputable def K34.t20:Stmt:=Mm.hdPk (Stmt.FunctionDef _ _ _ _ _ _ _ _ _ _) (Mm.hdOf (a:=K34.g 20) rfl)
noncomputable def K34.t21:Stmt:=Mm.hdPk (Stmt.FunctionDef _ _ _ _ _ _ _ _ _ _) (Mm.hdOf (a:=K34.g 21) rfl)
noncomputable def K34.t22:Stmt:=Mm.hdPk (Stmt.FunctionDef _ _ _ _ _ _ _ _ _ _) (Mm.hdOf (a:=K34.g 22) rfl)
noncomputable def K34.t23:Stmt:=Mm.hdPk (Stmt.Assign _ _ _) (Mm.hdOf (a:=K34.g 23) rfl)
noncomputable def K34.t24:Stmt:=Mm.hdPk (Stmt.FunctionDef _ _ _ _ _ _ _ _ _ _) (Mm.hdOf (a:=K34.g 24) rfl)
noncomputable def K34.t25:Stmt:=Mm.hdPk (Stmt.FunctionDef _ _ _ _ _ _ _ _ _ _) (Mm.hdOf (a:=K34.g 25) rfl)
noncomputable def K34.t26:Stmt:=Mm.hdPk (Stmt.FunctionDef _ _ _ _ _ _ _ _ _ _) (Mm.hdOf (a:=K34.g 26) rfl)
noncomputable def K34.t27:Stmt:=Mm.hdPk (Stmt.FunctionDef _ _ _ _ _ _ _ _ _ _) (Mm.hdOf (a:=K34.g 27) rfl)
noncomputable def K34.t28:Stmt:=Mm.hdPk (Stmt.FunctionDef _ _ _ _ _ _ _ _ _ _) (Mm.hdOf (a:=K34.g 28) rfl)
noncomputable def K34.t29:Stmt:=Mm.hdPk (Stmt.FunctionDef _ _ _ _ _ _ _ _ _ _) (Mm.hdOf (a:=K34.g 29) rfl)
noncomputable def K34.t30:Stmt:=Mm.hdPk (Stmt.FunctionDef _ _ _ _ _ _ _ _ _ _) (Mm.hdOf (a:=K34.g 30) rfl)
noncomputable def K34.t31:Stmt:=Mm.hdPk (Stmt.FunctionDef _ _ _ _ _ _ _ _ _ _) (Mm.hdOf (a:=K34.g 31) rfl)
noncomputable def K34.t32:Stmt:=Mm.hdPk (Stmt.FunctionDef _ _ _ _ _ _ _ _ _ _) (Mm.hdOf (a:=K34.g 32) rfl)
noncomputable def K34.t33:Stmt:=Mm.hdPk (Stmt.FunctionDef _ _ _ _ _ _ _ _ _ _) (Mm.hdOf (a:=K34.g 33) rfl)
noncomputable def K34.t34:Stmt:=Mm.hdPk (Stmt.FunctionDef _ _ _ _ _ _ _ _ _ _) (Mm.hdOf (a:=K34.g 34) rfl)
noncomputable def K34.t35:Stmt:=Mm.hdPk (Stmt.FunctionDef _ _ _ _ _ _ _ _ _ _) (Mm.hdOf (a:=K34.g 35) rfl)
noncomputable def K34.t36:Stmt:=Mm.hdPk (Stmt.FunctionDef _ _ _ _ _ _ _ _ _ _) (Mm.hdOf (a:=K34.g 36) rfl)
noncomputable def K34.sc:Scope:=Mm.hdPk (Scope.mk _ _ _ _ _) (Mm.hdOf (a:=PySem.Challenge.pw_manymakes_k34_shared_names_cut.main.scope) rfl)
noncomputable def K34.pw:Program:=Mm.hdPk (Program.mk (Module.mk (K34.t0::K34.t1::K34.t2::K34.t3::K34.t4::K34.t5::K34.t6::K34.t7::K34.t8::K34.t9::K34.t10::K34.t11::K34.t12::K34.t13::K34.t14::K34.t15::K34.t16::K34.t17::K34.t18::K34.t19::K34.t20::K34.t21::K34.t22::K34.t23::K34.t24::K34.t25::K34.t26::K34.t27::K34.t28::K34.t29::K34.t30::K34.t31::K34.t32::K34.t33::K34.t34::K34.t35::K34.t36::List.nil) K34.sc _ _ _) _ _ _ _ _) (Mm.hdOf (a:=PySem.Challenge.pw_manymakes_k34_shared_names_cut) rfl)
noncomputable def K34.rw:OpenLaw:=Mm.hdPk { prog:=K34.pw,name:=_,about:=_,foot:=_,most:=_,bound:=_,writes:=_ } (Mm.hdOf (a:=PySem.Challenge.rw_manymakes_k34_shared_names_cut) rfl)
theorem K34.rwe:K34.rw=PySem.Challenge.rw_manymakes_k34_shared_names_cut:=rfl
end
section
open PySem PySem.W PyProof.Rows
theorem K34.pwe:PySem.Challenge.pw_manymakes_k34_shared_names_cut=K34.pw:=rfl
noncomputable def K34.vw:Program:={ K34.pw with main:={ K34.pw.main with body:=K34.t1::K34.t2::K34.t3::K34.t4::K34.t5::K34.t6::K34.t8::K34.t9::K34.t10::K34.t11::K34.t12::K34.t13::K34.t14::K34.t16::K34.t17::K34.t18::K34.t19::K34.t20::K34.t21::K34.t22::K34.t24::K34.t25::K34.t26::K34.t27::K34.t28::K34.t29::K34.t30::K34.t31::K34.t32::K34.t33::K34.t34::K34.t35::K34.t36::List.nil } }
theorem Mm.keepIt (_:Hook) {p:Prop} (h:p):p:=h
section
local macro_rules | `(tactic| o_head $H)=>`(tactic| exact Mm.keepIt $H (by assumption))
set_option maxHeartbeats 0 in
theorem K34.pre (h:(OpenLaw.row PySem.Challenge.rw_manymakes_k34_shared_names_cut).Holds):(OpenLaw.row PySem.Challenge.rw_manymakes_k34_shared_names_cut).Holds:=by k_head
end
def K34.as:List Addr:=[2,3,15,17,18,20,21,22,24,25,27,28,29,31,32,34,35,36,39,40,41,43,44,46,47,48,51,52,53,56,57,58,61,62,63,65,66,68,69,70,73,74,75,78,79,80,83,84,85,93,95,96,98,99,100,102,103,105,106,107,109,110,112,113,114,116,117,119,120,121,124,125,126,128,129,131,132,133,135,136,138,139,140,142,143,145,146,147,148,149,150,151,154,156,157,159,160,161,163,164,166,167,168,170,171,173,174,175,177,178,180,181,182,184,185,187,188,189,192,193,194,196,197,199,200,201,203,204,206,207,208,211,212,213,216,217,218,220,221,223,224,225,227,228,230,231,232,234,235,237,238,239,242,243,244,247,248,249,251,252,254,255,256,258,259,261,262,263,265,266,268,269,270,273,274]
theorem K34.ase (P:Params):K34.as=(K34.pre.heap_1 P).map (·.1):=by kernel_rfl
theorem Mm.both_true {a b:Bool} (h:(a&&b)=true):a=true/\b=true:=by cases a<;>cases b<;>simp_all
noncomputable abbrev K34.xt:Shared->Bool:=fun s=>(xlAt K34.vw [] s)&&(recOk (RowW.records (OpenRow.toRowW (OpenLaw.row K34.rw))) s)
noncomputable def K34.oe (w:World):Option Shared :=
 (importEnds treeTable (opening K34.pw) w 2958 (start (opening K34.pw)).1 (start (opening K34.pw)).2).bind fun s=>(fenceModules? K34.pw s).bind fun s₀ =>
 match s₀.heap.isNs mainGlobals&&s₀.gens.size == 0 with
 | true=>(topRun treeTable K34.pw w s₀.heap.objs.size (s₀.heap.nsMap mainGlobals "__annotations__") 2958 s₀ (topStub K34.pw)).bind fun s₁=>match staticsOk (importedModules K34.pw.main.body) s₀.heap s₁.heap&&namesBound K34.pw s₁.heap&&gensDone s₁&&laidKept s₀.heap s₁.heap with
   | true=>some s₁
   | false=>none
 | false=>none
theorem Mm.bindAss {α β γ:Type} (o:Option α) (f:α->Option β) (g:β->Option γ):(o.bind f).bind g=o.bind fun s=>(f s).bind g:=by cases o<;>rfl
theorem K34.oe_eq (w:World):openEnds treeTable PySem.Challenge.pw_manymakes_k34_shared_names_cut w 2958=K34.oe w:=by
 rw [K34.pwe]
 show ((importEnds _ _ _ _ _ _).bind _).bind _=_
 rw [Mm.bindAss]
 rfl
noncomputable def K34.ga (w:World):=Option.map (openSeen K34.vw [] (importedModules K34.pw.main.body) K34.xt true) (K34.oe w)
noncomputable def K34.gb:=some (openGood K34.vw [])
noncomputable def K34.oa (w:World):Option (List (Option Obj)):=Option.map (fun s=>K34.as.map s.heap.get?) (K34.oe w)
def Mm.hdTt {α:Type} (_:α):Bool:=true
theorem K34.lay1:Mm.hdTt K34.ga=true:=by k_qdec
theorem K34.lay2:Mm.hdTt K34.gb=true:=by k_qdec
theorem K34.lay3:Mm.hdTt K34.oa=true:=by k_qdec
theorem K34.la (w:World):PySem.W.Fast.tw11877410698761019570 w=PySem.W.Fast.tw4110182060630462100:=by kernel_rfl
theorem K34.lb (w:World):PySem.W.Fast.tw1726473723124151145 w=some ((K34.pre.heap_1 w.params).map fun p=>some p.2):=by kernel_rfl
theorem Mm.twoM {α β γ:Type} {o:Option α} {f:α->β} {g:α->γ} {b:β} {c:γ} (h1:o.map f=some b) (h2:o.map g=some c):o.map (fun s=>(f s,g s))=some (b,c):=by
 cases o with
 | none=>cases h1
 | some s =>
  have h1:=Qq h1
  have h2:=Qq h2
  show some (f s,g s)=_
  rw [h1,h2]
theorem K34.left:LeftO PySem.Challenge.pw_manymakes_k34_shared_names_cut K34.vw [] K34.xt (kHook K34.pre.heap_1 K34.as K34.ase).obs (kHook K34.pre.heap_1 K34.as K34.ase).val 2958:=fun w=>by
 rw [K34.oe_eq]
 exact Mm.twoM ((congrFun PySem.W.Fast.te11877410698761019570 w).trans ((K34.la w).trans PySem.W.Fast.te4110182060630462100.symm)) ((congrFun PySem.W.Fast.te1726473723124151145 w).trans (K34.lb w))
end
namespace L2
open PySem PySem.Spec PyProof.Rows
abbrev ae:=Sum Int Str
noncomputable def ij:ae->Value->Bool
 | .inl k,v=>Value.isInt k v
 | .inr x,v=>Value.isStrOf x v
noncomputable def wD (w:World):ae->Int
 | .inl k=>hashInt k
 | .inr x=>hashStr w x
theorem fG:∀ {k:ae} {v:Value},ij k v=true->(∃ i t,k=Sum.inl i/\v=Value.int i t)∨(∃ x t,k=Sum.inr x/\v=Value.str x t)
 | .inl i,v,h=>by
  obtain ⟨t,e⟩:=Value.isInt_shape (k:=i) (v:=v) h
  exact .inl ⟨i,t,rfl,e⟩
 | .inr x,v,h=>by
  obtain ⟨t,e⟩:=Value.isStrOf_shape (x:=x) (v:=v) h
  exact .inr ⟨x,t,rfl,e⟩
theorem wE (i:Int) (t:Tok):ij (.inl i) (.int i t)=true:=by simp [ij,Value.isInt]
theorem wF (x:Str) (t:Tok):ij (.inr x) (.str x t)=true:=by simp [ij,Value.isStrOf]
theorem wG (a b:Int):decide ((Sum.inl a:ae)=Sum.inl b)=(a == b):=by
 by_cases e:a=b
 ·subst e;simp
 ·have h:¬ (Sum.inl a:ae)=Sum.inl b:=fun q=>e (Sum.inl.inj q)
  rw [Qi h]
  exact (beq_eq_false_iff_ne.mpr e).symm
theorem wH (a b:Str):decide ((Sum.inr a:ae)=Sum.inr b)=decide (a=b):=by
 by_cases e:a=b
 ·subst e;simp
 ·have h:¬ (Sum.inr a:ae)=Sum.inr b:=fun q=>e (Sum.inr.inj q)
  rw [Qi h,Qi e]
theorem wI (a:Int) (b:Str):decide ((Sum.inl a:ae)=Sum.inr b)=false:=Qi (fun q=>nomatch q)
theorem wJ (a:Str) (b:Int):decide ((Sum.inr a:ae)=Sum.inl b)=false:=Qi (fun q=>nomatch q)
noncomputable def bR (prog:Program) (w:World):PySem.KeyKind prog w ae where
 is:=ij
 hash:=wD w
 inj:=fun v a b ha hb=>by
  rcases fG ha with ⟨i,t,rfl,rfl⟩ | ⟨x,t,rfl,rfl⟩
  ·rcases fG hb with ⟨j,u,rfl,e⟩ | ⟨y,u,rfl,e⟩
   ·injection e with e1 _;rw [e1]
   ·exact nomatch e
  ·rcases fG hb with ⟨j,u,rfl,e⟩ | ⟨y,u,rfl,e⟩
   ·exact nomatch e
   ·injection e with e1 _;rw [e1]
 byValue:=fun k v h=>by
  rcases fG h with ⟨i,t,rfl,rfl⟩ | ⟨x,t,rfl,rfl⟩<;>rfl
 pyHash:=fun hv h=>by
  rcases fG hv with ⟨i,t,rfl,rfl⟩ | ⟨x,t,rfl,rfl⟩
  ·exact wpAny_pyHash_int h
  ·exact wpAny_pyHash_str h
 eqBool:=fun hu hv h=>by
  rcases fG hu with ⟨i,t,rfl,rfl⟩ | ⟨x,t,rfl,rfl⟩
  ·rcases fG hv with ⟨j,u,rfl,rfl⟩ | ⟨y,u,rfl,rfl⟩
   ·rw [wG] at h;exact wpAny_eqBool_int h
   ·rw [wI] at h;exact SeqAt.EqAt.int_str i t y u _ _ _ _ h
  ·rcases fG hv with ⟨j,u,rfl,rfl⟩ | ⟨y,u,rfl,rfl⟩
   ·rw [wJ] at h;exact SeqAt.EqAt.str_int x t j u _ _ _ _ h
   ·rw [wH] at h;exact wpAny_eqBool_str h
 «strs»:=fun k x t v h=>by
  rcases fG h with ⟨i,u,rfl,e⟩ | ⟨y,u,rfl,e⟩
  ·exact nomatch e
  ·injection e with e1 _
   subst e1
   cases v<;>rfl
theorem wK (prog:Program) (w:World) (i:Int) (t:Tok):(bR prog w).is (.inl i) (.int i t)=true:=wE i t
theorem wL (prog:Program) (w:World) (x:Str) (t:Tok):(bR prog w).is (.inr x) (.str x t)=true:=wF x t
inductive V where
 | non | bl (b:Bool) | int (i:Int) | str (x:Str) | byt (b:Array UInt8) | flt (b:UInt64) | ref (a:Addr) | ty (n:String)
 deriving DecidableEq
def RelV:V->Value->Prop
 | .non,u=>u=Value.none
 | .bl b,u=>u=Value.bool b
 | .int i,u=>∃ t,u=Value.int i t
 | .str x,u=>∃ t,u=Value.str x t
 | .byt b,u=>∃ t,u=Value.bytes b t
 | .flt b,u=>∃ t,u=Value.float b t
 | .ref a,u=>u=Value.ref a
 | .ty n,u=>u=Value.type n
abbrev ap:List V->List Value->Prop:=Paired RelV
theorem ap.length {xs:List V} {us:List Value} (r:ap xs us):xs.length=us.length:=Paired.length r
theorem ap.get:∀ {xs:List V} {us:List Value} {i:Nat} {x:V},ap xs us->xs[i]?=some x->∃ u,us[i]?=some u/\RelV x u
 | _,_,_,_,.nil,e=>by simp at e
 | _,_,0,_,.cons r _,e=>by simp at e;subst e;exact ⟨_,rfl,r⟩
 | _,_,i+1,x,.cons _ t,e=>by
  obtain ⟨u,h1,h2⟩:=ap.get (i:=i) (x:=x) t (by simpa using e)
  exact ⟨u,by simpa using h1,h2⟩
theorem ap.append:∀ {xs ys:List V} {us ws:List Value},ap xs us->ap ys ws->ap (xs++ys) (us++ws)
 | _,_,_,_,.nil,s=>s
 | _,_,_,_,.cons r t,s=>.cons r (ap.append t s)
theorem ap.take:∀ {xs:List V} {us:List Value} (n:Nat),ap xs us->ap (xs.take n) (us.take n)
 | _,_,0,_=>.nil
 | _,_,_+1,.nil=>.nil
 | _,_,n+1,.cons r t=>.cons r (ap.take n t)
theorem ap.drop:∀ {xs:List V} {us:List Value} (n:Nat),ap xs us->ap (xs.drop n) (us.drop n)
 | _,_,0,r=>r
 | _,_,_+1,.nil=>.nil
 | _,_,n+1,.cons _ t=>ap.drop n t
def cC:Option V->Option Value->Prop
 | some v,some u=>RelV v u
 | none,none=>True
 | _,_=>False
def KV {κ:Type}:List (κ × V)->List (κ × Value)->Prop:=Paired fun (p:κ × V) (q:κ × Value)=>p.1=q.1/\RelV p.2 q.2
noncomputable def kV:ae->V
 | .inl i=>.int i
 | .inr x=>.str x
inductive HO where
 | lst (xs:List V)
 | tup (xs:List V)
 | dK (Di:List (ae × V)) | dT (Di:List (List ae × V))
 | set (S:Int->Bool) (n:Nat)
 | ins (C dx:Addr) (fs:List (Str × V))
 | own (x:Addr)
 | xd (fs:List (Str × V))
 | met (f x:Addr)
 | rng (lo hi:Int)
 | frz (o:Obj) (u:HO)
 | tbl (ps:Array Value)
 | ext (φ:Heap->Prop)
abbrev Hp:=Addr->Option HO
noncomputable def upd (H:Hp) (a:Addr) (o:HO):Hp:=fun b=>if b=a then some o else H b
theorem ai {H:Hp} {a:Addr} {o:HO}:upd H a o a=some o:=by unfold upd;rw [if_pos rfl]
theorem al {H:Hp} {a b:Addr} {o:HO} (h:b≠a):upd H a o b=H b:=by unfold upd;rw [if_neg h]
theorem wM {H:Hp} {a b:Addr} {o u:HO} (h:H a=some o) (h':H b=some u) (d:o≠u):a≠b:=by
 intro e;subst e;rw [h] at h';exact d (Qq h')
theorem cr {H:Hp} {a b:Addr} {o:HO} (h:H a=some o) (h':H b=none):a≠b:=by
 intro e;subst e;rw [h] at h';cases h'
def ik (h:Heap) (a:Addr):Prop:=∃ o:Obj,h.get? a=some o/\o.dict=none
theorem ik.new (h:Heap) (items:Array Value):ik (h.push { cls:=.type "tuple",data:=.seq items }) h.objs.size:=⟨_,Qz _ rfl,rfl⟩
section
variable (P:Program) (w:World)
def bC (H:Hp) (h:Heap) (a:Addr):HO->Prop
 | .lst xs=>xs.length<=sizeLine/\∃ (its:List Value) (n:Nat),ap xs its/\h.get? a=some { cls:=.type "list",data:=.seq its.toArray n }
 | .tup xs=>xs.length<=sizeLine/\∃ its:List Value,ap xs its/\IsTup h a its.toArray/\ik h a
 | .dK Di=>Di.length<=sizeLine/\(a == sysModules)=false/\∃ vs,KV Di vs/\h.DictOf (bR P w) a vs
 | .dT Di=>Di.length<=sizeLine/\(a == sysModules)=false/\∃ xs:List (List ae × Addr × Value),
   Paired (fun (p:List ae × V) (q:List ae × Addr × Value)=>p.1=q.1/\H q.2.1=some (.tup (p.1.map kV))/\RelV p.2 q.2.2) Di xs /\
   ∃ o es ep,h.get? a=some o/\o.ExactDict/\o.data=.dict es ep/\es.toList=xs.map (entryOfKey (tupleKind (bR P w)))/\(xs.map (·.1)).Nodup
 | .set S n=>h.SetOf (intKind P w) a S n
 | .ins C dx fs=>H dx=some (.own a)/\fs.length<=1000/\dx≠a/\h.get? a=some (PySem.W.instObj C dx) /\
   ∃ mA,h.Ns1 dx mA/\(∀ f,cC (fs.lookup f) (mA f))/\PySem.Within mA (fs.map (·.1))
 | .own _=>∃ o,h.get? a=some o
 | .xd fs=>∃ mA,h.Ns1 a mA/\∀ f,cC (fs.lookup f) (mA f)
 | .rng lo hi=>∃ t u v,h.get? a=some { cls:=.type "range",data:=.fields #[.int lo t,.int hi u,.int 1 v] }
 | .frz o u=>h.get? a=some o/\bC H h a u
 | .tbl ps=>h.get? a=some { cls:=.none,data:=.fields ps }
 | .met f x=>h.get? a=some (PySem.W.methodObj (.ref f) (.ref x))
 | .ext φ=>φ h/\(∃ o,h.get? a=some o)/\∀ h1 h2:Heap,φ h1->(∀ o,h1.get? a=some o->h2.get? a=some o)->φ h2
def bq (H:Hp) (h:Heap):Prop:=∀ a o,H a=some o->bC P w H h a o
end
section
variable {P:Program} {w:World} {H H':Hp} {h h':Heap} {a:Addr} {o:HO}
theorem bC.lt (x:bC P w H h a o):a<h.objs.size:=by
 cases o with
 | lst xs=>obtain ⟨_,_,_,_,e⟩:=x;exact Qs e
 | tup xs=>obtain ⟨_,_,_,p,_⟩:=x;exact p.lt
 | dK Di=>obtain ⟨_,_,_,_,o,_,_,e,_⟩:=x;exact Qs e
 | dT Di=>obtain ⟨_,_,_,_,o,_,_,e,_⟩:=x;exact Qs e
 | set S n=>obtain ⟨o,_,_,_,e,_⟩:=x;exact Qs e
 | ins C dx fs=>obtain ⟨_,_,_,e,_⟩:=x;exact Qs e
 | own y=>obtain ⟨_,e⟩:=x;exact Qs e
 | xd fs=>obtain ⟨_,⟨_,_,_,e,_⟩,_⟩:=x;exact Qs e
 | rng lo hi=>obtain ⟨_,_,_,e⟩:=x;exact Qs e
 | frz ob u=>obtain ⟨e,_⟩:=x;exact Qs e
 | tbl ps=>exact Qs (show h.get? a=some _ from x)
 | met f y=>exact Qs (show h.get? a=some _ from x)
 | ext φ=>obtain ⟨_,⟨_,e⟩,_⟩:=x;exact Qs e
theorem Paired.mapP {α β:Type} {F G:α->β->Prop}:∀ {l₁:List α} {l₂:List β},Paired F l₁ l₂->(∀ a b,F a b->G a b)->Paired G l₁ l₂
 | _,_,.nil,_=>.nil
 | _,_,.cons r t,f=>.cons (f _ _ r) (Paired.mapP t f)
theorem bC.stay (x:bC P w H h a o) (k:∀ b u,(b=a∨H b=some (.own a))->h.get? b=some u->h'.get? b=some u)
  (ho:∀ b,H b=some (.own a)->H' b=some (.own a)) (ht:∀ b xs,H b=some (.tup xs)->H' b=some (.tup xs)):bC P w H' h' a o:=by
 induction o with
 | lst xs=>obtain ⟨z,its,n,r,e⟩:=x;exact ⟨z,its,n,r,k _ _ (.inl rfl) e⟩
 | tup xs=>obtain ⟨z,its,r,⟨ob,e,c⟩,ob2,e2,c2⟩:=x;exact ⟨z,its,r,⟨ob,k _ _ (.inl rfl) e,c⟩,ob2,k _ _ (.inl rfl) e2,c2⟩
 | dK Di=>obtain ⟨z,y,vs,r,ob,es,ep,e,c⟩:=x;exact ⟨z,y,vs,r,ob,es,ep,k _ _ (.inl rfl) e,c⟩
 | dT Di =>
  obtain ⟨z,y,xs,r,ob,es,ep,e,c⟩:=x
  exact ⟨z,y,xs,Paired.mapP r fun p q z=>⟨z.1,ht _ _ z.2.1,z.2.2⟩,ob,es,ep,k _ _ (.inl rfl) e,c⟩
 | set S n=>obtain ⟨ob,es,ep,t,e,c⟩:=x;exact ⟨ob,es,ep,t,k _ _ (.inl rfl) e,c⟩
 | ins C dx fs =>
  obtain ⟨d,z,ne,e,mA,⟨od,es,ep,e2,c⟩,r⟩:=x
  exact ⟨ho _ d,z,ne,k _ _ (.inl rfl) e,mA,⟨od,es,ep,k _ _ (.inr d) e2,c⟩,r⟩
 | own y=>obtain ⟨ob,e⟩:=x;exact ⟨ob,k _ _ (.inl rfl) e⟩
 | xd fs=>obtain ⟨mA,⟨od,es,ep,e,c⟩,r⟩:=x;exact ⟨mA,⟨od,es,ep,k _ _ (.inl rfl) e,c⟩,r⟩
 | rng lo hi=>obtain ⟨t,u,v,e⟩:=x;exact ⟨t,u,v,k _ _ (.inl rfl) e⟩
 | frz ob u ih=>obtain ⟨e,q⟩:=x;exact ⟨k _ _ (.inl rfl) e,ih q⟩
 | tbl ps =>
  have e:h.get? a=some { cls:=.none,data:=.fields ps }:=x
  show h'.get? a=some { cls:=.none,data:=.fields ps }
  exact k a _ (.inl rfl) e
 | met f y =>
  have e:h.get? a=some (PySem.W.methodObj (.ref f) (.ref y)):=x
  show h'.get? a=some (PySem.W.methodObj (.ref f) (.ref y))
  exact k a _ (.inl rfl) e
 | ext φ=>obtain ⟨p,⟨o,e⟩,st⟩:=x;exact ⟨st _ _ p fun o q=>k _ _ (.inl rfl) q,⟨o,k _ _ (.inl rfl) e⟩,st⟩
theorem bq.lt (x:bq P w H h) (e:H a=some o):a<h.objs.size:=(x a o e).lt
theorem bq.fresh (x:bq P w H h) (e:h.objs.size<=a):H a=none:=by
 cases q:H a with
 | none=>rfl
 | some u=>exact absurd (QI (x.lt q) e) (Nat.lt_irrefl _)
theorem bq.kept (x:bq P w H h) (k:∀ b u,h.get? b=some u->h'.get? b=some u):bq P w H h':=fun a o e =>
 (x a o e).stay (fun b u _ q=>k b u q) (fun _ q=>q) fun _ _ q=>q
theorem bq.laid (x:bq P w H h) (k:∀ b u,h.get? b=some u->h'.get? b=some u) (hp:h.objs.size<=a) (new:bC P w (upd H a o) h' a o):bq P w (upd H a o) h':=fun b u e=>by
 have hn:=x.fresh hp
 by_cases hb:b=a
 ·subst hb;rw [ai] at e;cases e;exact new
 ·rw [al hb] at e
  exact (x b u e).stay (fun c v _ q=>k c v q) (fun c q=>by rw [al (cr q hn)];exact q) fun c xs q=>by rw [al (cr q hn)];exact q
end
def Rd (H:Hp) (a:Addr) (u:HO):Prop:=H a=some u∨∃ o,H a=some (.frz o u)
theorem Rd.ok {P:Program} {w:World} {H:Hp} {h:Heap} {a:Addr} {u:HO} (r:Rd H a u) (x:bq P w H h):bC P w H h a u:=by
 rcases r with r | ⟨o,r⟩
 ·exact x a u r
 ·obtain ⟨_,q⟩:=x a _ r
  exact q
def jl:Option HO->Prop
 | some (.lst _)=>True
 | some (.dK _)=>True
 | some (.dT _)=>True
 | some (.set _ _)=>True
 | some (.ins _ _ _)=>True
 | some (.ext _)=>True
 | _=>False
section
variable {P:Program} {w:World} {H:Hp} {h h':Heap} {x e:Addr} {o':HO}
theorem bq.write (ok:bq P w H h) (mu:jl (H x)) (he:e=x∨H e=some (.own x)) (k:∀ b u,b≠e->h.get? b=some u->h'.get? b=some u) (heo:∃ u,h'.get? e=some u)
  (new:bC P w (upd H x o') h' x o'):bq P w (upd H x o') h':=fun b u q=>by
 have nown:∀ c y,H c=some (.own y)->c≠x:=fun c y r z=>by subst z;rw [r] at mu;exact mu
 have ntup:∀ c xs,H c=some (.tup xs)->c≠x:=fun c xs r z=>by subst z;rw [r] at mu;exact mu
 by_cases hb:b=x
 ·subst hb;rw [ai] at q;cases q;exact new
 ·rw [al hb] at q
  by_cases hbe:b=e
  ·have q':H b=some (.own x):=by
    rcases he with z | z
    ·exact absurd (hbe.trans z) hb
    ·rw [hbe];exact z
   rw [q] at q';cases q'
   obtain ⟨v,hv⟩:=heo
   exact ⟨v,by rw [hbe];exact hv⟩
  ·refine (ok b u q).stay (fun c v hc r=>k c v ?_ r) (fun c r=>by rw [al (nown c b r)];exact r) fun c xs r=>by rw [al (ntup c xs r)];exact r
   rcases hc with rfl | hc
   ·exact hbe
   ·rintro rfl
    rcases he with z | z
    ·exact nown c b hc z
    ·rw [hc] at z;cases z;exact hb rfl
end
structure Un (fs ex:List Addr) (H H':Hp) (h h':Heap):Prop where
 keep:∀ b o,h.get? b=some o->H b=none->b∉fs->b∉ex->h'.get? b=some o
 slot:∀ b o,h.get? b=some o->H b=none->b∈fs->b∉ex->∃ sl,h'.get? b=some { o with slots:=sl }
 free:∀ b o,h.get? b=some o->H b=none->b∉ex->H' b=none
 there:∀ b o,h.get? b=some o->b∉ex->∃ o',h'.get? b=some o'
 tups:∀ b xs,H b=some (.tup xs)->H' b=some (.tup xs)
 frzs:∀ b o u,H b=some (.frz o u)->H' b=some (.frz o u)
 tbls:∀ b ps,H b=some (.tbl ps)->∃ Gh,H' b=some (.tbl (ps++Gh))
section
variable {fs fs' ex ex':List Addr} {H H1 H2:Hp} {h h1 h2 h':Heap} {a x e:Addr} {o:HO}
theorem Un.any (u:Un fs ex H H1 h h1) {b:Addr} {ob:Obj} (q:h.get? b=some ob) (n:H b=none) (hx:b∉ex):∃ sl,h1.get? b=some { ob with slots:=sl }:=by
 by_cases hb:b∈fs
 ·exact u.slot b ob q n hb hx
 ·exact ⟨ob.slots,u.keep b ob q n hb hx⟩
theorem Un.kept (k:∀ b u,h.get? b=some u->h'.get? b=some u):Un fs ex H H h h' :=
 ⟨fun b ob q _ _ _=>k b ob q,fun b ob q _ _ _=>⟨ob.slots,k b ob q⟩,fun _ _ _ n _=>n,fun b ob q _=>⟨ob,k b ob q⟩,fun _ _ q=>q,fun _ _ _ q=>q,fun _ ps q=>⟨#[],by rw [q];simp⟩⟩
theorem Un.refl:Un fs ex H H h h:=Un.kept fun _ _ q=>q
theorem Un.laid (k:∀ b u,h.get? b=some u->h'.get? b=some u) (hp:h.objs.size<=a) (hn:H a=none):Un fs ex H (upd H a o) h h' where
 keep:=fun b u q _ _ _=>k b u q
 slot:=fun b u q _ _ _=>⟨u.slots,k b u q⟩
 free:=fun b u q n _=>by rw [al (QB (QI (Qs q) hp))];exact n
 there:=fun b u q _=>⟨u,k b u q⟩
 tups:=fun b xs q=>by rw [al (cr q hn)];exact q
 frzs:=fun b u xs q=>by rw [al (cr q hn)];exact q
 tbls:=fun b ps q=>⟨#[],by rw [al (cr q hn),q];simp⟩
theorem Un.write (mu:jl (H x)) (he:e=x∨H e=some (.own x)) (k:∀ b u,b≠e->h.get? b=some u->h'.get? b=some u) (heo:∃ u,h'.get? e=some u):Un fs ex H (upd H x o) h h':=by
 have hx:∀ b,H b=none->b≠x:=fun b n z=>by subst z;rw [n] at mu;exact mu
 have hb:∀ b,H b=none->b≠e:=fun b n z=>by
  subst z
  rcases he with r | r
  ·exact hx b n r
  ·rw [n] at r;cases r
 have hm:∀ b u,H b=some u->¬ jl (some u)->b≠x:=fun b u q nm z=>by subst z;rw [q] at mu;exact nm mu
 refine ⟨fun b u q n _ _=>k b u (hb b n) q,fun b u q n _ _=>⟨u.slots,k b u (hb b n) q⟩,fun b u q n _=>by rw [al (hx b n)];exact n,fun b u q _=>?_,
  fun b xs q=>by rw [al (hm b _ q fun z=>z)];exact q,fun b u xs q=>by rw [al (hm b _ q fun z=>z)];exact q,fun b ps q=>⟨#[],by rw [al (hm b _ q fun z=>z),q];simp⟩⟩
 by_cases hbe:b=e
 ·subst hbe;exact heo
 ·exact ⟨u,k b u hbe q⟩
end
noncomputable def kj (h:Heap) (H:Hp):List Addr:=(List.range h.objs.size).filter fun a=>(H a).isSome
noncomputable def fe (h:Heap) (H:Hp):Heap:=PySem.W.hideAll h (kj h H)
theorem wN (h:Heap) (H:Hp):(fe h H).objs.size=h.objs.size:=PySem.W.hideAll_size _ _
theorem wO {h:Heap} {H:Hp} {b:Addr} {o:Obj} (e:h.get? b=some o) (n:H b=none):(fe h H).get? b=some o :=
 PySem.W.hideAll_get _ e fun hm=>by
  have q:(H b).isSome=true:=(List.mem_filter.mp hm).2
  rw [n] at q;simp at q
theorem wP {h:Heap} {H:Hp} {b:Addr} {o:Obj} (e:(fe h H).get? b=some o):h.get? b=some o/\H b=none:=by
 have e':h.get? b=some o:=PySem.W.of_hideAll (kj h H) e
 refine ⟨e',?_⟩
 cases q:H b with
 | none=>rfl
 | some x =>
  have hm:b∈kj h H:=List.mem_filter.mpr ⟨List.mem_range.mpr (Qs e'),by simp [q]⟩
  have z:(fe h H).get? b=none:=PySem.W.hideAll_none (kj h H) hm
  rw [z] at e;cases e
structure Mod (K:PySem.W.Frag) (mg:Str->Option Value) (base:Heap):Prop where
 kin:K.In base
 glob:base.Ns mainGlobals mg
 blt:∃ mb,base.Ns builtinsNs mb/\∀ x:Str,x≠"__name__"->mb x=bootBuiltins x
 nolimit:base.NoLimit
structure Cx where
 prog:Program
 w:World
 K:PySem.W.Frag
 mg:Str->Option Value
 base:Heap
 A:Around
 N:List Str
 s₀:Shared
 H₀:Hp
 env:Env
 outer:List Env
 stack:List Env
 ex:List Addr
 fn:Str->Bool
 calm:Bool
 pn:List (Addr × Obj)
 xe:Value->Shared->Prop
noncomputable def di (l:List Env):List Addr:=l.filterMap (·.frame)
noncomputable abbrev Cx.fs (X:Cx):List Addr:=di X.outer
def mC (sc:Scope) (x:Str):Prop:=sc.names.lookup x=some .local∨sc.names.lookup x=some .cell∨sc.names.lookup x=some .free
def Loc (sc:Scope) (x:Str):Prop:=sc.names.lookup x=some .local∨sc.names.lookup x=some .cell
def Look (env:Env) (h:Heap) (m:Str->Option Value) (x:Str) (u:Value):Prop :=
 (env.kindOf x=some .local/\m x=some u)∨((env.kindOf x=some .cell∨env.kindOf x=some .free)/\∃ c,env.cells.lookup x=some c/\h.IsCell c (some u))
structure Cx.Ok (X:Cx):Prop where
 mod:Mod X.K X.mg X.base
 kind:X.env.scope.kind=.function
 glob:X.env.globals=mainGlobals
 blt:X.env.builtins=builtinsNs
 above:X.s₀.heap.objs.size<=X.env.locals
 inj:∀ x y c,X.env.cells.lookup x=some c->X.env.cells.lookup y=some c->x=y
 has:∀ x,(X.env.kindOf x=some .cell∨X.env.kindOf x=some .free)->∃ c,X.env.cells.lookup x=some c
 cab:∀ x c,X.fn x=true->X.env.cells.lookup x=some c->X.s₀.heap.objs.size<=c
 hd:X.calm=true->X.A.handled=none
 frames:X.A.frames=some X.stack
 stk:X.stack=X.outer∨(X.stack=X.env::X.outer/\X.env.frame=some X.env.locals)
 exf:∀ b∈X.ex,b≠X.env.locals/\∀ x c,X.env.cells.lookup x=some c->c≠b
 bs:∀ b o,X.base.get? b=some o->X.s₀.heap.get? b=some o/\X.H₀ b=none
 bsz:X.base.objs.size<=X.s₀.heap.objs.size
 noex:∀ b o,X.base.get? b=some o->b∉X.ex
 exfs:∀ b∈X.ex,b∉X.fs
 funs:X.s₀.heap.FunFrames X.base X.outer
 frf:∀ b∈X.fs,X.H₀ b=none
structure Inv (X:Cx) (Df:List (Addr × Obj)) (σ:List (Option V)) (H:Hp) (s:Shared):Prop where
 ok:X.Ok
 os:s.os=X.s₀.os
 bare:AllBare s.gens
 base:Un X.fs X.ex X.H₀ H X.s₀.heap s.heap
 loc:∃ m,s.heap.Ns X.env.locals m/\∀ (i:Nat) (x:Str) (v:V),X.N[i]?=some x->σ[i]?=some (some v)->mC X.env.scope x->∃ u,RelV v u/\Look X.env s.heap m x u
 cell:∀ x c,X.env.cells.lookup x=some c->∃ v,s.heap.IsCell c v
 free:H X.env.locals=none
 freeC:∀ x c,X.env.cells.lookup x=some c->H c=none
 pin:∀ p∈X.pn++Df,s.heap.get? p.1=some p.2/\H p.1=none/\p.1≠X.env.locals/\p.1∉X.fs/\∀ v,p.2.data≠.cell v
 hok:bq X.prog X.w H s.heap
 len:σ.length=X.N.length
section
variable {X:Cx} {Df:List (Addr × Obj)} {σ:List (Option V)} {H H':Hp} {s:Shared} {h':Heap}
theorem Cx.Ok.nofr (ok:X.Ok) {b:Addr} {o:Obj} (e:X.base.get? b=some o):b∉X.fs:=fun hb=>by
 have:=(ok.funs.mem hb).1
 rw [e] at this;cases this
theorem Inv.bs (I:Inv X Df σ H s):∀ b o,X.base.get? b=some o->s.heap.get? b=some o/\H b=none:=fun b o e =>
 ⟨I.base.keep b o (I.ok.bs b o e).1 (I.ok.bs b o e).2 (I.ok.nofr e) (I.ok.noex b o e),I.base.free b o (I.ok.bs b o e).1 (I.ok.bs b o e).2 (I.ok.noex b o e)⟩
theorem Inv.bk (I:Inv X Df σ H s):∀ b o,X.base.get? b=some o->s.heap.get? b=some o:=fun b o e=>(I.bs b o e).1
theorem Inv.mod (I:Inv X Df σ H s):Mod X.K X.mg X.base:=I.ok.mod
theorem Inv.kIn (I:Inv X Df σ H s):X.K.In s.heap:=I.ok.mod.kin.keeps I.bk
theorem Inv.lt (I:Inv X Df σ H s):X.env.locals<s.heap.objs.size:=by obtain ⟨_,hn,_⟩:=I.loc;exact hn.lt
theorem Inv.sz (I:Inv X Df σ H s):X.s₀.heap.objs.size<=s.heap.objs.size:=QC I.ok.above (QY I.lt)
theorem Inv.nofs (I:Inv X Df σ H s) {a:Addr} (h:s.heap.objs.size<=a):a∉X.fs:=fun hb=>by
 obtain ⟨_,o,ho,_⟩:=I.ok.funs.mem hb
 exact absurd (QI (Qs ho) (QC I.sz h)) (Nat.lt_irrefl _)
theorem Inv.cne (I:Inv X Df σ H s):∀ x c,X.env.cells.lookup x=some c->c≠X.env.locals:=fun x c e z=>by
 obtain ⟨v,o,ho,hd⟩:=I.cell x c e
 obtain ⟨m,⟨o',es,ep,ho',hd',_⟩,_⟩:=I.loc
 rw [z,ho'] at ho;cases ho;rw [hd'] at hd;cases hd
theorem Inv.funs (I:Inv X Df σ H s):s.heap.FunFrames X.base X.outer:=by
 have all:∀ (l:List Env),(∀ b∈di l,b∈X.fs)->X.s₀.heap.FunFrames X.base l->s.heap.FunFrames X.base l:=by
  intro l
  induction l with
  | nil=>intro _ _;trivial
  | cons env r ih =>
   intro hs hl
   obtain ⟨hk,⟨L,o,hf,hn,ho,hd⟩,hr⟩:=hl
   have hL:L∈X.fs:=hs L (by unfold di;rw [List.filterMap_cons,hf];exact QF)
   obtain ⟨sl,e⟩:=I.base.slot L o ho (I.ok.frf L hL) hL fun z=>I.ok.exfs L z hL
   exact ⟨hk,⟨L,_,hf,hn,e,hd⟩,ih (fun b hb=>hs b (by unfold di;rw [List.filterMap_cons,hf];exact Qy _ hb)) hr⟩
 exact all X.outer (fun _ hb=>hb) I.ok.funs
theorem Inv.stack (I:Inv X Df σ H s):s.heap.FunFrames X.base X.stack:=by
 rcases I.ok.stk with e | ⟨e,hf⟩
 ·rw [e];exact I.funs
 ·rw [e]
  obtain ⟨m,hn,_⟩:=I.loc
  refine .cons (by rw [I.ok.kind];decide) hf hn ?_ I.funs
  exact Heap.get?_none_of_le (QC I.ok.bsz I.ok.above)
theorem Inv.stkSub (I:Inv X Df σ H s):∀ b∈di X.stack,b∈X.env.locals::X.fs:=fun b hb=>by
 rcases I.ok.stk with e | ⟨e,hf⟩
 ·rw [e] at hb;exact Qy _ hb
 ·rw [e] at hb
  unfold di at hb
  rw [List.filterMap_cons,hf] at hb
  exact hb
theorem Inv.stkFree (I:Inv X Df σ H s):∀ b∈di X.stack,H b=none:=fun b hb=>by
 rcases Qn (I.stkSub b hb) with e | hb
 ·rw [e];exact I.free
 ·obtain ⟨_,o,ho,_⟩:=I.ok.funs.mem hb
  exact I.base.free b o ho (I.ok.frf b hb) fun z=>I.ok.exfs b z hb
theorem Inv.step {g':Array GenState} {t':Nat} {d':Drawn} {ch:List Addr} (I:Inv X Df σ H s)
  (hch:∀ b∈ch,(b∈X.ex∨X.s₀.heap.objs.size<=b)/\b≠X.env.locals/\(∀ x c,X.env.cells.lookup x=some c->c≠b)/\∀ p∈X.pn++Df,p.1≠b)
  (keep:∀ b o,b≠X.env.locals->b∉X.fs->b∉ch->s.heap.get? b=some o->H b=none->h'.get? b=some o)
  (slot:∀ b o,b≠X.env.locals->b∈X.fs->b∉ch->s.heap.get? b=some o->H b=none->∃ sl,h'.get? b=some { o with slots:=sl }) (free:∀ b o,b∉ch->s.heap.get? b=some o->H b=none->H' b=none)
  (there:∀ b o,b∉ch->s.heap.get? b=some o->∃ o',h'.get? b=some o')
  (tups:∀ b xs,H b=some (.tup xs)->H' b=some (.tup xs)) (frzs:∀ b o u,H b=some (.frz o u)->H' b=some (.frz o u)) (tbls:∀ b ps,H b=some (.tbl ps)->∃ Gh,H' b=some (.tbl (ps++Gh)))
  (ns:∀ m,s.heap.Ns X.env.locals m->h'.Ns X.env.locals m) (hok:bq X.prog X.w H' h') (hg:AllBare g') :
  Inv X Df σ H' { s with heap:=h',gens:=g',drawn:=d',toks:=t' }:=by
 have neL:∀ b o,X.s₀.heap.get? b=some o->b≠X.env.locals:=fun b o e=>QB (QI (Qs e) I.ok.above)
 have neC:∀ b o,X.s₀.heap.get? b=some o->b∉X.ex->b∉ch:=fun b o e hx hb=>by
  rcases (hch b hb).1 with z | z
  ·exact hx z
  ·exact absurd (QI (Qs e) z) (Nat.lt_irrefl _)
 have cellK:∀ x c,X.env.cells.lookup x=some c->∀ v,s.heap.IsCell c v->h'.IsCell c v:=fun x c e v ⟨o,ho,hd⟩=>by
  have nch:c∉ch:=fun z=>(hch c z).2.2.1 x c e rfl
  by_cases hc:c∈X.fs
  ·obtain ⟨sl,q⟩:=slot c o (I.cne x c e) hc nch ho (I.freeC x c e)
   exact ⟨_,q,hd⟩
  ·exact ⟨o,keep c o (I.cne x c e) hc nch ho (I.freeC x c e),hd⟩
 refine ⟨I.ok,I.os,hg,⟨fun b o e n hb hx=>?_,fun b o e n hb hx=>?_,fun b o e n hx=>?_,fun b o e hx=>?_,fun b xs e=>tups b xs (I.base.tups b xs e),fun b o xs e=>frzs b o xs (I.base.frzs b o xs e),fun b ps e=>?_⟩,?_,fun x c e=>?_,?_,fun x c e=>?_,fun p hp=>?_,hok,I.len⟩
 ·exact keep b o (neL b o e) hb (neC b o e hx) (I.base.keep b o e n hb hx) (I.base.free b o e n hx)
 ·obtain ⟨sl,e1⟩:=I.base.slot b o e n hb hx
  obtain ⟨sl',e2⟩:=slot b _ (neL b o e) hb (neC b o e hx) e1 (I.base.free b o e n hx)
  exact ⟨sl',e2⟩
 ·obtain ⟨o',e1⟩:=I.base.there b o e hx
  exact free b o' (neC b o e hx) e1 (I.base.free b o e n hx)
 ·obtain ⟨o',e1⟩:=I.base.there b o e hx
  exact there b o' (neC b o e hx) e1
 ·obtain ⟨m1,e1⟩:=I.base.tbls b ps e
  obtain ⟨m2,e2⟩:=tbls b _ e1
  exact ⟨m1++m2,by rw [e2,Array.append_assoc]⟩
 ·obtain ⟨m,hn,hl⟩:=I.loc
  refine ⟨m,ns m hn,fun i x v e1 e2 e3=>?_⟩
  obtain ⟨u,r,l⟩:=hl i x v e1 e2 e3
  refine ⟨u,r,?_⟩
  rcases l with l | ⟨k,c,e,z⟩
  ·exact .inl l
  ·exact .inr ⟨k,c,e,cellK x c e _ z⟩
 ·obtain ⟨v,z⟩:=I.cell x c e
  exact ⟨v,cellK x c e v z⟩
 ·obtain ⟨m,⟨o,_,_,ho,_⟩,_⟩:=I.loc
  exact free _ o (fun z=>(hch _ z).2.1 rfl) ho I.free
 ·obtain ⟨v,o,ho,hd⟩:=I.cell x c e
  exact free c o (fun z=>(hch c z).2.2.1 x c e rfl) ho (I.freeC x c e)
 ·obtain ⟨e,n,ne,nf,d⟩:=I.pin p hp
  have nch:p.1∉ch:=fun z=>(hch p.1 z).2.2.2 p hp rfl
  exact ⟨keep p.1 p.2 ne nf nch e n,free p.1 p.2 nch e n,ne,nf,d⟩
theorem Inv.un {t':Nat} (I:Inv X Df σ H s) (u:Un X.fs [] H H' s.heap h') (hok:bq X.prog X.w H' h'):Inv X Df σ H' { s with heap:=h',toks:=t' }:=by
 obtain ⟨m,⟨o,es,ep,ho,r⟩,_⟩:=id I.loc
 obtain ⟨sl,hL⟩:=u.any ho I.free (by simp)
 exact I.step (g':=s.gens) (d':=s.drawn) (ch:=[]) (fun _ z=>nomatch z) (fun b o _ hb _ e n=>u.keep b o e n hb (by simp)) (fun b o _ hb _ e n=>u.slot b o e n hb (by simp)) (fun b o _ e n=>u.free b o e n (by simp)) (fun b o _ e=>u.there b o e (by simp)) u.tups u.frzs u.tbls (fun m' hm=>by
  obtain ⟨o',es',ep',ho',r'⟩:=hm
  rw [ho] at ho';cases ho'
  exact ⟨_,es',ep',hL,r'⟩) hok I.bare
theorem Inv.call {g':Array GenState} {t':Nat} {d':Drawn} {ch:List Addr} (I:Inv X Df σ H s) (u:Un (di X.stack) ch H H' s.heap h') (hok:bq X.prog X.w H' h') (hg:AllBare g')
  (hch:∀ b∈ch,(b∈X.ex∨X.s₀.heap.objs.size<=b)/\b≠X.env.locals/\(∀ x c,X.env.cells.lookup x=some c->c≠b)/\∀ p∈X.pn++Df,p.1≠b) :
  Inv X Df σ H' { s with heap:=h',gens:=g',drawn:=d',toks:=t' }:=by
 obtain ⟨m,⟨o,es,ep,ho,r⟩,_⟩:=id I.loc
 obtain ⟨sl,hL⟩:=u.any ho I.free fun z=>(hch _ z).2.1 rfl
 exact I.step (ch:=ch) hch (fun b o hL hb hc e n=>u.keep b o e n (fun z=>(Qn (I.stkSub b z)).elim hL hb) hc) (fun b o _ _ hc e n=>u.any e n hc) (fun b o hc e n=>u.free b o e n hc) (fun b o hc e=>u.there b o e hc) u.tups u.frzs u.tbls (fun m' hm=>by
  obtain ⟨o',es',ep',ho',r'⟩:=hm
  rw [ho] at ho';cases ho'
  exact ⟨_,es',ep',hL,r'⟩) hok hg
theorem Inv.turned {t':Nat} {it:Addr} (I:Inv X Df σ H s) (k:∀ b o,b≠it->s.heap.get? b=some o->h'.get? b=some o) (hn:H it=none) (hL:it≠X.env.locals)
  (h1:it∈X.ex∨X.s₀.heap.objs.size<=it) (h2:∀ x c,X.env.cells.lookup x=some c->c≠it) (h3:∀ p∈X.pn++Df,p.1≠it):Inv X Df σ H { s with heap:=h',toks:=t' }:=by
 have nit:∀ b u,H b=some u->b≠it:=fun b u e z=>by rw [z,hn] at e;cases e
 refine I.step (g':=s.gens) (d':=s.drawn) (ch:=[it]) (fun b hb=>?_) (fun b o _ _ hc e _=>k b o (fun z=>hc (by simp [z])) e) (fun b o _ _ hc e _=>⟨o.slots,k b o (fun z=>hc (by simp [z])) e⟩) (fun _ _ _ _ n=>n)
  (fun b o hc e=>⟨o,k b o (fun z=>hc (by simp [z])) e⟩) (fun _ _ e=>e) (fun _ _ _ e=>e) (fun b ps e=>⟨#[],by rw [e];simp⟩) (fun m hm=>?_) (fun b u e=>?_) I.bare
 ·have e:b=it:=by simpa using hb
  subst e
  exact ⟨h1,hL,h2,h3⟩
 ·obtain ⟨o,es,ep,ho,r⟩:=hm
  exact ⟨o,es,ep,k _ o (Ne.symm hL) ho,r⟩
 ·refine (I.hok b u e).stay (fun c v hc q=>k c v ?_ q) (fun _ q=>q) fun _ _ q=>q
  rcases hc with z | z
  ·rw [z];exact nit b u e
  ·exact nit c _ z
theorem Inv.tok (I:Inv X Df σ H s) (t:Nat):Inv X Df σ H { s with toks:=t }:=I.un (h':=s.heap) (t':=t) Un.refl I.hok
theorem Inv.kept {t':Nat} (I:Inv X Df σ H s) (k:∀ b u,s.heap.get? b=some u->h'.get? b=some u):Inv X Df σ H { s with heap:=h',toks:=t' }:=I.un (Un.kept k) (I.hok.kept k)
theorem Inv.laid {a:Addr} {o:HO} {t':Nat} (I:Inv X Df σ H s) (k:∀ b u,s.heap.get? b=some u->h'.get? b=some u) (hp:s.heap.objs.size<=a) (new:bC X.prog X.w (upd H a o) h' a o) :
  Inv X Df σ (upd H a o) { s with heap:=h',toks:=t' }:=I.un (Un.laid k hp (I.hok.fresh hp)) (I.hok.laid k hp new)
theorem Inv.write {x e:Addr} {o:HO} {t':Nat} (I:Inv X Df σ H s) (mu:jl (H x)) (he:e=x∨H e=some (.own x)) (k:∀ b u,b≠e->s.heap.get? b=some u->h'.get? b=some u) (heo:∃ u,h'.get? e=some u)
  (new:bC X.prog X.w (upd H x o) h' x o):Inv X Df σ (upd H x o) { s with heap:=h',toks:=t' }:=I.un (Un.write mu he k heo) (I.hok.write mu he k heo new)
theorem Inv.pins_of {pins':List (Addr × Obj)} (I:Inv X Df σ H s) (h:∀ p∈pins',s.heap.get? p.1=some p.2/\H p.1=none/\p.1≠X.env.locals/\p.1∉X.fs/\∀ v,p.2.data≠.cell v):Inv X pins' σ H s :=
 ⟨I.ok,I.os,I.bare,I.base,I.loc,I.cell,I.free,I.freeC,fun p hp=>(Qw hp).elim (fun z=>I.pin p (List.mem_append_left _ z)) (h p),I.hok,I.len⟩
theorem pY {N:List Str} (hN:N.Nodup) {i j:Nat} {x:Str} (a:N[i]?=some x) (b:N[j]?=some x):i=j:=by
 obtain ⟨h1,e1⟩:=Qc a
 obtain ⟨h2,e2⟩:=Qc b
 exact (List.getElem_inj hN).mp (e1.trans e2.symm)
theorem mD {M:Model} {A:Around} {E:Value->Shared->Prop} {i:Nat} {x:Str} {v:V} {u:Value} {Q:Unit->Shared->Prop} (I:Inv X Df σ H s) (hN:X.N.Nodup) (hi:X.N[i]?=some x) (hx:Loc X.env.scope x) (r:RelV v u)
  (h:∀ s',Inv X Df (σ.set i (some v)) H s'->(∃ a,Heap.SameBut a s.heap s'.heap/\(a=X.env.locals∨X.env.cells.lookup x=some a))->Q () s') (hf:X.fn x=true∨X.env.scope.names.lookup x=some .local:=by first | exact .inl rfl | exact .inr rfl | assumption):wpAny M A (storeName X.env x u) Q E s:=by
 obtain ⟨m,hn,hl⟩:=id I.loc
 have hcls:(X.env.scope.kind == .class||(X.env.scope.kind == .module&&X.env.locals != X.env.globals))=false:=by rw [I.ok.kind];rfl
 have hiσ:i<σ.length:=by rw [I.len];exact (Qc hi).1
 have cne:=I.cne
 have F5:∀ {a:Addr} {h':Heap},(∃ o,s.heap.get? a=some o/\H a=none)->Heap.SameBut a s.heap h'->bq X.prog X.w H h':=fun {a h'} ha hs b ob e=>by
  obtain ⟨_,_,DE⟩:=ha
  refine (I.hok b ob e).stay (fun c w' hc q=>(hs.2 c ?_).trans q) (fun _ q=>q) fun _ _ q=>q
  rintro rfl
  rcases hc with rfl | hc
  ·rw [DE] at e;cases e
  ·rw [DE] at hc;cases hc
 rcases hx with hk | hk
 ·refine wpAny_storeName_local hk hn (fun h' hn' hs=>?_) hcls
  obtain ⟨oL,_,_,Fy,_⟩:=id hn
  refine h _ ⟨I.ok,I.os,I.bare,⟨fun b o e n hb hx=>?_,fun b o e n hb hx=>?_,I.base.free,fun b o e hx=>?_,I.base.tups,I.base.frzs,I.base.tbls⟩,⟨_,hn',fun j y v' e1 e2 e3=>?_⟩,fun y c e=>?_,I.free,I.freeC,fun p hp=>?_,F5 ⟨oL,Fy,I.free⟩ hs,by simpa using I.len⟩ ⟨_,hs,.inl rfl⟩
  ·exact (hs.2 b (QB (QI (Qs e) I.ok.above))).trans (I.base.keep b o e n hb hx)
  ·obtain ⟨sl,e1⟩:=I.base.slot b o e n hb hx
   exact ⟨sl,(hs.2 b (QB (QI (Qs e) I.ok.above))).trans e1⟩
  ·obtain ⟨o',e1⟩:=I.base.there b o e hx
   exact ⟨o',(hs.2 b (QB (QI (Qs e) I.ok.above))).trans e1⟩
  ·by_cases hj:j=i
   ·subst hj
    rw [hi] at e1;cases e1
    rw [List.getElem?_set_self hiσ] at e2
    cases e2
    exact ⟨u,r,.inl ⟨hk,by simp⟩⟩
   ·rw [List.getElem?_set_ne (Ne.symm hj)] at e2
    obtain ⟨u',r',q⟩:=hl j y v' e1 e2 e3
    refine ⟨u',r',?_⟩
    rcases q with ⟨k,e⟩ | ⟨k,c,e,z⟩
    ·refine .inl ⟨k,?_⟩
     have:y≠x:=fun e=>hj (pY hN e1 (e ▸ hi))
     simp [this,e]
    ·exact .inr ⟨k,c,e,z.sameBut hs (cne y c e)⟩
  ·obtain ⟨w',z⟩:=I.cell y c e
   exact ⟨w',z.sameBut hs (cne y c e)⟩
  ·obtain ⟨e,n,ne,nf,d⟩:=I.pin p hp
   exact ⟨(hs.2 p.1 ne).trans e,n,ne,nf,d⟩
 ·have hfn:X.fn x=true:=by
   rcases hf with z | z
   ·exact z
   ·rw [z] at hk;cases hk
  obtain ⟨c,hc⟩:=I.ok.has x (.inl hk)
  obtain ⟨w',z⟩:=I.cell x c hc
  refine wpAny_storeName_cell I.ok.kind hk hc z (fun h' E7 hs=>?_)
  obtain ⟨oc,hoc,hocd⟩:=id z
  refine h { s with heap:=h' } ⟨I.ok,I.os,I.bare,⟨fun b o e n hb hx=>?_,fun b o e n hb hx=>?_,I.base.free,fun b o e hx=>?_,I.base.tups,I.base.frzs,I.base.tbls⟩,⟨m,hn.sameBut hs (Ne.symm (cne x c hc)),fun j y v' e1 e2 e3=>?_⟩,fun y c' e=>?_,I.free,I.freeC,fun p hp=>?_,F5 ⟨oc,hoc,I.freeC x c hc⟩ hs,by simpa using I.len⟩ ⟨c,hs,.inr hc⟩
  ·exact (hs.2 b (QB (QI (Qs e) (I.ok.cab x c hfn hc)))).trans (I.base.keep b o e n hb hx)
  ·obtain ⟨sl,e1⟩:=I.base.slot b o e n hb hx
   exact ⟨sl,(hs.2 b (QB (QI (Qs e) (I.ok.cab x c hfn hc)))).trans e1⟩
  ·obtain ⟨o',e1⟩:=I.base.there b o e hx
   exact ⟨o',(hs.2 b (QB (QI (Qs e) (I.ok.cab x c hfn hc)))).trans e1⟩
  ·by_cases hj:j=i
   ·subst hj
    rw [hi] at e1;cases e1
    rw [List.getElem?_set_self hiσ] at e2
    cases e2
    exact ⟨u,r,.inr ⟨.inl hk,c,hc,E7⟩⟩
   ·rw [List.getElem?_set_ne (Ne.symm hj)] at e2
    obtain ⟨u',r',q⟩:=hl j y v' e1 e2 e3
    refine ⟨u',r',?_⟩
    rcases q with q | ⟨k,c',e,z'⟩
    ·exact .inl q
    ·refine .inr ⟨k,c',e,z'.sameBut hs ?_⟩
     rintro rfl
     exact hj (pY hN e1 (I.ok.inj _ _ _ e hc ▸ hi))
  ·by_cases hcc:c'=c
   ·subst hcc;exact ⟨_,E7⟩
   ·obtain ⟨w2,z2⟩:=I.cell y c' e
    exact ⟨w2,z2.sameBut hs hcc⟩
  ·obtain ⟨e,n,ne,nf,d⟩:=I.pin p hp
   refine ⟨(hs.2 p.1 ?_).trans e,n,ne,nf,d⟩
   intro q
   rw [q,hoc] at e
   have q':oc=p.2:=Qq e
   exact d w' (by rw [<- q'];exact hocd)
theorem pZ {M:Model} {A:Around} {E:Value->Shared->Prop} {i:Nat} {x:Str} {v:V} {u:Value} {Q:Unit->Shared->Prop} (I:Inv X Df σ H s) (hN:X.N.Nodup) (hi:X.N[i]?=some x) (hx:Loc X.env.scope x) (r:RelV v u)
  (h:∀ s',Inv X Df (σ.set i (some v)) H s'->Q () s') (hf:X.fn x=true∨X.env.scope.names.lookup x=some .local:=by first | exact .inl rfl | exact .inr rfl | assumption):wpAny M A (storeName X.env x u) Q E s :=
 mD I hN hi hx r (fun s' I' _=>h s' I') hf
theorem Inv.call' {s':Shared} {ch:List Addr} (I:Inv X Df σ H s) (ho:s'.os=s.os) (u:Un (di X.stack) ch H H' s.heap s'.heap) (hok:bq X.prog X.w H' s'.heap) (hg:AllBare s'.gens)
  (hch:∀ b∈ch,(b∈X.ex∨X.s₀.heap.objs.size<=b)/\b≠X.env.locals/\(∀ x c,X.env.cells.lookup x=some c->c≠b)/\∀ p∈X.pn++Df,p.1≠b):Inv X Df σ H' s':=by
 obtain ⟨h',g',d',t',o'⟩:=s'
 have e:o'=s.os:=ho
 subst e
 exact I.call (g':=g') (t':=t') (d':=d') u hok hg hch
end
abbrev XK:=Value->Option Addr->Hp->Prop
abbrev St:=List (Option V)
abbrev VK:=V->Hp->Prop
abbrev TE:=St->Hp->VK->Prop
abbrev TT:=St->Hp->(Bool->Hp->Prop)->Prop
abbrev TA:=St->Hp->(List V->Hp->Prop)->Prop
structure dB where
 nx:St->Hp->Prop
 rt:VK
 bk:St->Hp->Prop:=fun _ _=>False
 ct:St->Hp->Prop:=fun _ _=>False
abbrev TS:=dB->St->Hp->Prop
def EP (X:Cx) (Df:List (Addr × Obj)) (σ:St) (Q:VK) (u:Value) (s':Shared):Prop:=∃ v H',Inv X Df σ H' s'/\RelV v u/\Q v H'
def TP (X:Cx) (Df:List (Addr × Obj)) (σ:St) (Q:Bool->Hp->Prop) (b:Bool) (s':Shared):Prop:=∃ H',Inv X Df σ H' s'/\Q b H'
def AP (X:Cx) (Df:List (Addr × Obj)) (σ:St) (Q:List V->Hp->Prop) (us:List Value) (s':Shared):Prop:=∃ vs H',Inv X Df σ H' s'/\ap vs us/\Q vs H'
def SP (X:Cx) (Df:List (Addr × Obj)) (D:dB) (f:Flow) (s':Shared):Prop :=
 match f with
 | .next=>∃ σ' H',Inv X Df σ' H' s'/\D.nx σ' H'
 | .brk=>∃ σ' H',Inv X Df σ' H' s'/\D.bk σ' H'
 | .cont=>∃ σ' H',Inv X Df σ' H' s'/\D.ct σ' H'
 | .ret u=>∃ v σ' H',Inv X Df σ' H' s'/\RelV v u/\D.rt v H'
def PE (X:Cx) (e:Expr) (t:TE):Prop :=
 ∀ (Df:List (Addr × Obj)) (s:Shared) (σ:St) (H:Hp) (Q:VK),Inv X Df σ H s->t σ H Q->wpAny (model X.prog X.w) X.A (eval e X.env) (EP X Df σ Q) X.xe s
def PT (X:Cx) (e:Expr) (t:TT):Prop :=
 ∀ (Df:List (Addr × Obj)) (s:Shared) (σ:St) (H:Hp) (Q:Bool->Hp->Prop),Inv X Df σ H s->t σ H Q->wpAny (model X.prog X.w) X.A (isTrue e X.env (eval e X.env)) (TP X Df σ Q) X.xe s
def PW (X:Cx) (e:Expr) (t:TT):Prop :=
 ∀ (F1:Sem Value) (Df:List (Addr × Obj)) (s:Shared) (σ:St) (H:Hp) (Q:Bool->Hp->Prop),Inv X Df σ H s->t σ H Q->wpAny (model X.prog X.w) X.A (isTrue e X.env F1) (TP X Df σ Q) X.xe s
theorem PW.pt {X:Cx} {e:Expr} {t:TT} (h:PW X e t):PT X e t:=h _
def PA (X:Cx) (es:List Expr) (t:TA):Prop :=
 ∀ (pos:Pos) (Df:List (Addr × Obj)) (s:Shared) (σ:St) (H:Hp) (Q:List V->Hp->Prop),Inv X Df σ H s->t σ H Q->wpAny (model X.prog X.w) X.A (spliced (backTo pos (starEach es X.env))) (AP X Df σ Q) X.xe s
def PS (X:Cx) (st:Stmt) (t:TS):Prop :=
 ∀ (Df:List (Addr × Obj)) (s:Shared) (σ:St) (H:Hp) (D:dB),Inv X Df σ H s->t D σ H->wpAny (model X.prog X.w) X.A (exec st X.env) (SP X Df D) X.xe s
def dS (X:Cx) (st:List Stmt) (t:TS):Prop :=
 ∀ (Df:List (Addr × Obj)) (s:Shared) (σ:St) (H:Hp) (D:dB),Inv X Df σ H s->t D σ H->wpAny (model X.prog X.w) X.A (execs st X.env) (SP X Df D) X.xe s
theorem aE {α:Type} {t:Sem α} {Q Q':α->Shared->Prop} {M:Model} {A:Around} {E:Value->Shared->Prop} {s:Shared} (h:wpAny M A t Q E s) (hQ:∀ a s,Q a s->Q' a s):wpAny M A t Q' E s:=QV h hQ fun _ _ x=>x
section
variable {X:Cx}
inductive km (i:Nat) (σ:St) (H:Hp) (Q:VK):Prop
 | mk:∀ v,σ[i]?=some (some v)->Q v H->km i σ H Q
def tC (v:V):TE:=fun _ H Q=>Q v H
theorem wR {i:Nat} {x:Str} {pos:Pos} (hN:X.N[i]?=some x) (hv:mC X.env.scope x) (hd:(x == ("__debug__":Str))=false:=by decide) (FP:(x == ("__classdict__":Str))=false:=by decide):PE X (.Name x pos) (km i):=by
 intro Df s σ H Q I h
 obtain ⟨v,e,h⟩:=h
 obtain ⟨m,hn,hl⟩:=I.loc
 obtain ⟨u,r,l⟩:=hl i x v hN e hv
 have fin:EP X Df σ Q u s:=⟨v,H,I,r,h⟩
 rcases l with ⟨hk,hm⟩ | ⟨hk,c,hc,hcell⟩
 ·exact wpAny_Name (wpAny_loadName_local I.ok.kind hk hn hm fin) hd
 ·rcases hk with hk | hk
  ·exact wpAny_Name (wpAny_loadName_cell I.ok.kind hk hc hcell fin) hd
  ·exact wpAny_Name (wpAny_loadName_free I.ok.kind hk hc hcell fin FP) hd
theorem af {i j pos}:PE X (.Constant (.int i) j pos) (tC (.int i)):=fun _ _ _ H _ I h=>wpAny_Constant_int ⟨.int i,H,I.tok _,⟨_,rfl⟩,h⟩
theorem gE {b j pos}:PE X (.Constant (.bool b) j pos) (tC (.bl b)):=fun _ _ _ H _ I h=>Constant_bool ⟨.bl b,H,I,rfl,h⟩
theorem p6 {j pos}:PE X (.Constant .none j pos) (tC .non):=fun _ _ _ H _ I h=>Constant_none ⟨.non,H,I,rfl,h⟩
theorem aI {x j pos}:PE X (.Constant (.str x) j pos) (tC (.str x)):=fun _ _ _ H _ I h=>Calls.Constant_str ⟨.str x,H,I.tok _,⟨_,rfl⟩,h⟩
def Gl (X:Cx) (x:Str):Prop:=X.env.kindOf x=some .globalImplicit
theorem ko {E:Value->Shared->Prop} {Df:List (Addr × Obj)} {s:Shared} {σ:St} {H:Hp} {x:Str} {u:Value} {pos:Pos} {Q:Value->Shared->Prop} (I:Inv X Df σ H s) (hg:Gl X x) (hm:X.mg x=some u) (h:Q u s)
  (hd:(x == ("__debug__":Str))=false:=by decide):wpAny (model X.prog X.w) X.A (eval (.Name x pos) X.env) Q E s :=
 Calls.Name_function_global I.ok.kind hg (Calls.loadGlobal_global (by rw [I.ok.glob];exact I.mod.glob.keeps I.bk) hm h) hd
theorem gF {E:Value->Shared->Prop} {Df:List (Addr × Obj)} {s:Shared} {σ:St} {H:Hp} {x:Str} {u:Value} {pos:Pos} {Q:Value->Shared->Prop} (I:Inv X Df σ H s) (hg:Gl X x) (hm:X.mg x=none) (hv:bootBuiltins x=some u) (h:Q u s)
  (hn:x≠"__name__":=by decide) (hd:(x == ("__debug__":Str))=false:=by decide):wpAny (model X.prog X.w) X.A (eval (.Name x pos) X.env) Q E s:=by
 obtain ⟨mb,h1,h2⟩:=I.mod.blt
 exact Calls.Name_function_global I.ok.kind hg (Calls.loadGlobal_builtin (by rw [I.ok.glob];exact I.mod.glob.keeps I.bk) hm (by rw [I.ok.blt];exact h1.keeps I.bk) ((h2 x hn).trans hv) h) hd
theorem wS {x:Str} {v:V} {u:Value} {pos:Pos} (hg:Gl X x) (hm:X.mg x=some u) (r:RelV v u) (hd:(x == ("__debug__":Str))=false:=by decide):PE X (.Name x pos) (tC v) :=
 fun _ _ _ H _ I h=>ko I hg hm ⟨v,H,I,r,h⟩ hd
theorem gG {x:Str} {v:V} {u:Value} {pos:Pos} (hg:Gl X x) (hm:X.mg x=none) (hv:bootBuiltins x=some u) (r:RelV v u) (hn:x≠"__name__":=by decide) (hd:(x == ("__debug__":Str))=false:=by decide):PE X (.Name x pos) (tC v) :=
 fun _ _ _ H _ I h=>gF I hg hm hv ⟨v,H,I,r,h⟩ hn hd
variable {a b:Expr} {ta tb:TE} {pos:Pos}
inductive eJ (Q:Bool->Hp->Prop) (x:V) (H:Hp):Prop
 | mk:∀ c,x=.bl c->Q c H->eJ Q x H
def tB (t:TE):TT:=fun σ H Q=>t σ H (eJ Q)
theorem fW {e:Expr} {t:TE} (h:PE X e t) (he:∀ F1,isTrue e X.env F1=(do let v <- F1;standAt e.pos;holding [v] (truthy v)):=by intro _;rfl):PT X e (tB t):=by
 intro Df s σ H Q I hw
 refine isTrue_plain (aE (h Df s σ H _ I hw) fun v s1 hsl1=>?_) (he _)
 obtain ⟨x,H1,I1,r1,q1⟩:=hsl1
 obtain ⟨d,rfl,q⟩:=q1
 cases r1
 exact wpAny_truthy_bool ⟨H1,I1,q⟩
variable {tA tB':TT} {Dr:List Expr}
def wT (t u:TT):TT:=fun σ H Q=>t σ H fun c H1=>if c=true then u σ H1 Q else Q false H1
def wU (t u:TT):TT:=fun σ H Q=>t σ H fun c H1=>if c=true then Q true H1 else u σ H1 Q
def wV (t:TT):TT:=fun σ H Q=>t σ H fun c H1=>Q (!c) H1
theorem fH (ha:PT X a tA):PW X (.BoolOp .And [a] pos) tA:=by
 intro wh Df s σ H Q I h
 refine isTrue_and (aE (ha Df s σ H Q I h) fun c s1 e=>?_)
 cases c with
 | true=>exact isTrue_and_nil e
 | false=>exact e
theorem il (ha:PT X a tA):PW X (.BoolOp .Or [a] pos) tA:=by
 intro wh Df s σ H Q I h
 refine isTrue_or (aE (ha Df s σ H Q I h) fun c s1 e=>?_)
 cases c with
 | false=>exact isTrue_or_nil e
 | true=>exact e
theorem ff (ha:PT X a tA) (hb:PW X (.BoolOp .And (b::Dr) pos) tB'):PW X (.BoolOp .And (a::b::Dr) pos) (wT tA tB'):=by
 intro wh Df s σ H Q I h
 refine isTrue_and (aE (ha Df s σ H _ I h) fun c s1 hsl2=>?_)
 obtain ⟨H1,I1,q1⟩:=hsl2
 cases c with
 | true=>exact hb wh Df s1 σ H1 Q I1 q1
 | false=>exact ⟨H1,I1,q1⟩
theorem fI (ha:PT X a tA) (hb:PW X (.BoolOp .Or (b::Dr) pos) tB'):PW X (.BoolOp .Or (a::b::Dr) pos) (wU tA tB'):=by
 intro wh Df s σ H Q I h
 refine isTrue_or (aE (ha Df s σ H _ I h) fun c s1 hsl3=>?_)
 obtain ⟨H1,I1,q1⟩:=hsl3
 cases c with
 | true=>exact ⟨H1,I1,q1⟩
 | false=>exact hb wh Df s1 σ H1 Q I1 q1
theorem kr (ha:PT X a tA):PT X (.UnaryOp .Not a pos) (wV tA):=by
 intro Df s σ H Q I h
 exact isTrue_not (ha Df s σ H (fun c H1=>Q (!c) H1) I h)
def wW (t:TT) (ta tb:TE):TE:=fun σ H Q=>t σ H fun c H1=>if c=true then ta σ H1 Q else tb σ H1 Q
theorem jm {c:Expr} (hc:PT X c tA) (ha:PE X a ta) (hb:PE X b tb):PE X (.IfExp c a b pos) (wW tA ta tb):=by
 intro Df s σ H Q I h
 refine wpAny_IfExp (aE (hc Df s σ H _ I h) fun d s1 hsl4=>?_)
 obtain ⟨H1,I1,q1⟩:=hsl4
 cases d with
 | true=>exact ha Df s1 σ H1 Q I1 q1
 | false=>exact hb Df s1 σ H1 Q I1 q1
end
def aj (K:PySem.W.Frag) (H:Hp) (a:Addr) (xs:List V):Prop :=
 Rd H a (.lst xs) ∨
  ∃ (o:Obj) (its:Array Value) (n:Nat),K.lookup a=some o/\o.cls=.type "list"/\o.dict=none/\o.data=.seq its n/\its.size<=sizeLine/\ap xs its.toList
def ah (K:PySem.W.Frag) (H:Hp) (a:Addr) (xs:List V):Prop :=
 Rd H a (.tup xs) ∨
  ∃ (o:Obj) (its:Array Value) (n:Nat),K.lookup a=some o/\o.cls=.type "tuple"/\o.data=.seq its n/\its.size<=sizeLine/\ap xs its.toList
noncomputable def wX:Value->Option V
 | .none=>some .non
 | .bool b=>some (.bl b)
 | .int i _=>some (.int i)
 | .str x _=>some (.str x)
 | .bytes b _=>some (.byt b)
 | .float b _=>some (.flt b)
 | .ref a=>some (.ref a)
 | .type n=>some (.ty n)
 | _=>none
theorem RelV.abs {x:V} {u:Value} (r:RelV x u):wX u=some x:=by
 cases x with
 | non=>cases r;rfl
 | bl _=>cases r;rfl
 | int _=>obtain ⟨t,rfl⟩:=r;rfl
 | str _=>obtain ⟨t,rfl⟩:=r;rfl
 | byt _=>obtain ⟨t,rfl⟩:=r;rfl
 | flt _=>obtain ⟨t,rfl⟩:=r;rfl
 | ref _=>cases r;rfl
 | ty _=>cases r;rfl
theorem RelV.inj {x y:V} {u:Value} (r:RelV x u) (q:RelV y u):x=y:=Qq (r.abs.symm.trans q.abs)
theorem ap.inj:∀ {xs ys:List V} {us:List Value},ap xs us->ap ys us->xs=ys
 | _,_,_,.nil,.nil=>rfl
 | _,_,_,.cons r t,.cons r' t'=>by rw [r.inj r',ap.inj t t']
section
variable {X:Cx} {Df:List (Addr × Obj)} {σ:St} {H:Hp} {s:Shared} {a:Addr} {xs ys:List V}
theorem aj.of {K:PySem.W.Frag} (h:H a=some (.lst xs)):aj K H a xs:=.inl (.inl h)
theorem ah.of {K:PySem.W.Frag} (h:H a=some (.tup xs)):ah K H a xs:=.inl (.inl h)
theorem Inv.list (I:Inv X Df σ H s) (h:aj X.K H a xs):∃ its:List Value,ap xs its/\PlainL s.heap a its.toArray/\xs.length<=sizeLine:=by
 rcases h with h | ⟨o,its,n,hk,hc,hd,hs,hz,r⟩
 ·obtain ⟨z,its,n,r,e⟩:=h.ok I.hok
  exact ⟨its,r,⟨_,n,e,rfl,rfl,rfl⟩,z⟩
 ·refine ⟨its.toList,r,⟨o,n,I.kIn a o hk,hc,hd,by simpa using hs⟩,?_⟩
  have e:=r.length
  simp only [QA] at e
  lia
theorem Inv.tuple (I:Inv X Df σ H s) (h:ah X.K H a xs):∃ its:List Value,ap xs its/\IsTup s.heap a its.toArray/\xs.length<=sizeLine:=by
 rcases h with h | ⟨o,its,n,hk,hc,hs,hz,r⟩
 ·obtain ⟨z,its,r,p,_⟩:=h.ok I.hok
  exact ⟨its,r,p,z⟩
 ·refine ⟨its.toList,r,⟨o,I.kIn a o hk,hc,n,by simpa using hs⟩,?_⟩
  have e:=r.length
  simp only [QA] at e
  lia
theorem Inv.list_inj (I:Inv X Df σ H s) (h:aj X.K H a xs) (h':aj X.K H a ys):xs=ys:=by
 obtain ⟨its,r,⟨o,n,e,_,_,d⟩,_⟩:=I.list h
 obtain ⟨its',r',⟨o',n',e',_,_,d'⟩,_⟩:=I.list h'
 rw [e] at e';cases e'
 rw [d] at d'
 injection d' with d1 _
 have:its=its':=by simpa using congrArg Array.toList d1
 subst this
 exact r.inj r'
theorem Inv.tuple_inj (I:Inv X Df σ H s) (h:ah X.K H a xs) (h':ah X.K H a ys):xs=ys:=by
 obtain ⟨its,r,⟨o,e,_,n,d⟩,_⟩:=I.tuple h
 obtain ⟨its',r',⟨o',e',_,n',d'⟩,_⟩:=I.tuple h'
 rw [e] at e';cases e'
 rw [d] at d'
 injection d' with d1 _
 have:its=its':=by simpa using congrArg Array.toList d1
 subst this
 exact r.inj r'
end
noncomputable abbrev Cx.wish (X:Cx) (E:Value->Shared->Prop):Cx:={ X with xe:=E }
noncomputable abbrev Cx.nox (X:Cx):Cx:=X.wish fun _ _=>False
theorem Cx.Ok.wish {X:Cx} (ok:X.Ok) (E:Value->Shared->Prop):(X.wish E).Ok :=
 ⟨ok.mod,ok.kind,ok.glob,ok.blt,ok.above,ok.inj,ok.has,ok.cab,ok.hd,ok.frames,ok.stk,ok.exf,ok.bs,ok.bsz,ok.noex,ok.exfs,ok.funs,ok.frf⟩
theorem Cx.Ok.unwish {X:Cx} {E:Value->Shared->Prop} (ok:(X.wish E).Ok):X.Ok :=
 ⟨ok.mod,ok.kind,ok.glob,ok.blt,ok.above,ok.inj,ok.has,ok.cab,ok.hd,ok.frames,ok.stk,ok.exf,ok.bs,ok.bsz,ok.noex,ok.exfs,ok.funs,ok.frf⟩
section
variable {X:Cx} {Df:List (Addr × Obj)} {σ:St} {H:Hp} {s:Shared} {E:Value->Shared->Prop}
theorem Inv.wish (I:Inv X Df σ H s) (E:Value->Shared->Prop):Inv (X.wish E) Df σ H s:=⟨I.ok.wish E,I.os,I.bare,I.base,I.loc,I.cell,I.free,I.freeC,I.pin,I.hok,I.len⟩
theorem Inv.unwish (I:Inv (X.wish E) Df σ H s):Inv X Df σ H s:=⟨I.ok.unwish,I.os,I.bare,I.base,I.loc,I.cell,I.free,I.freeC,I.pin,I.hok,I.len⟩
theorem SP.unwish {D:dB} {f:Flow} {s':Shared} (h:SP (X.wish E) Df D f s'):SP X Df D f s':=by
 cases f with
 | next=>obtain ⟨σ',H',I,q⟩:=h;exact ⟨σ',H',I.unwish,q⟩
 | brk=>obtain ⟨σ',H',I,q⟩:=h;exact ⟨σ',H',I.unwish,q⟩
 | cont=>obtain ⟨σ',H',I,q⟩:=h;exact ⟨σ',H',I.unwish,q⟩
 | ret u=>obtain ⟨v,σ',H',I,r,q⟩:=h;exact ⟨v,σ',H',I.unwish,r,q⟩
theorem dS.nox {st:List Stmt} {t:TS} (h:dS X.nox st t):dS X st t:=fun Df s σ H D I hw =>
 QV (h Df s σ H D (I.wish _) hw) (fun _ _ q=>q.unwish) fun _ _ z=>False.elim z
end
section
variable {X:Cx} {st:Stmt} {Dr:List Stmt} {t u:TS} {e:Expr} {te:TE} {pos:Pos}
def wY:TS:=fun D σ H=>D.nx σ H
def jn (t u:TS):TS:=fun D σ H=>t { D with nx:=u D } σ H
theorem bi:dS X [] wY:=fun _ _ σ H _ I h=>wpAny_execs_nil ⟨σ,H,I,h⟩
theorem aA (h1:PS X st t) (h2:dS X Dr u):dS X (st::Dr) (jn t u):=by
 intro Df s σ H D I h
 refine wpAny_execs_cons (aE (h1 Df s σ H { D with nx:=u D } I h) fun f s1 q=>?_)
 cases f with
 | next =>
  obtain ⟨σ',H',I',q⟩:=q
  exact h2 Df s1 σ' H' D I' q
 | ret v=>exact q
 | brk=>exact q
 | cont=>exact q
theorem ao (h1:PS X st t):dS X [st] t:=by
 intro Df s σ H D I h
 refine wpAny_execs_cons (aE (h1 Df s σ H D I h) fun f s1 q=>?_)
 cases f with
 | next=>exact wpAny_execs_nil q
 | ret v=>exact q
 | brk=>exact q
 | cont=>exact q
theorem Inv.quiet {Df:List (Addr × Obj)} {σ:St} {H:Hp} {s:Shared} (I:Inv X Df σ H s):interactive X.env=false:=by simp [interactive,I.ok.kind]
def wZ (te:TE):TS:=fun D σ H=>te σ H fun _ H1=>D.nx σ H1
theorem bV (he:PE X e te) (hs:swapsWith e none pos.line X.env=pure false:=by rfl):PS X (.Expr e pos) (wZ te):=by
 intro Df s σ H D I h
 exact wpAny_Expr_any (aE (he Df s σ H _ I h) fun v s1 hsl7=>by obtain ⟨x,H1,I1,r1,q1⟩:=hsl7;exact ⟨σ,H1,I1,q1⟩) I.quiet hs
def p7 (te:TE):TS:=fun D σ H=>te σ H D.rt
theorem aS (he:PE X e te):PS X (.Return (some e) pos) (p7 te):=by
 intro Df s σ H D I h
 exact wpAny_Return_some (aE (he Df s σ H _ I h) fun v s1 hsl8=>by obtain ⟨x,H1,I1,r1,q1⟩:=hsl8;exact ⟨x,σ,H1,I1,r1,q1⟩)
def ku (c:TT) (t u:TS):TS:=fun D σ H=>c σ H fun b H1=>if b=true then t D σ H1 else u D σ H1
theorem aX {c:Expr} {a b:List Stmt} {tc:TT} (hc:PT X c tc) (ha:dS X a t) (hb:dS X b u):PS X (.If c a b pos) (ku tc t u):=by
 intro Df s σ H D I h
 refine wpAny_If (aE (hc Df s σ H _ I h) fun d s1 hsl9=>?_)
 obtain ⟨H1,I1,q1⟩:=hsl9
 cases d with
 | true=>exact ha Df s1 σ H1 D I1 q1
 | false=>exact hb Df s1 σ H1 D I1 q1
end
abbrev TG:=V->St->Hp->(St->Hp->Prop)->Prop
abbrev gH:=List V->St->Hp->(St->Hp->Prop)->Prop
def PG (X:Cx) (target:Expr) (t:TG):Prop :=
 ∀ (Df:List (Addr × Obj)) (s:Shared) (σ:St) (H:Hp) (v:V) (u:Value) (Q:St->Hp->Prop),Inv X Df σ H s->RelV v u->t v σ H Q ->
  wpAny (model X.prog X.w) X.A (assign target X.env u) (fun _ s'=>∃ σ' H',Inv X Df σ' H' s'/\Q σ' H') X.xe s
def jo (X:Cx) (ts:List Expr) (t:gH):Prop :=
 ∀ (Df:List (Addr × Obj)) (s:Shared) (σ:St) (H:Hp) (vs:List V) (us:List Value) (Q:St->Hp->Prop),Inv X Df σ H s->ap vs us->t vs σ H Q ->
  wpAny (model X.prog X.w) X.A (assignInOrder ((assignEach ts X.env).map (·.2)) us) (fun _ s'=>∃ σ' H',Inv X Df σ' H' s'/\Q σ' H') X.xe s
section
variable {X:Cx} {pos:Pos}
def aW (i:Nat):TG:=fun v σ H Q=>Q (σ.set i (some v)) H
theorem a9 {i:Nat} {x:Str} (hN:X.N.Nodup) (hi:X.N[i]?=some x) (hx:Loc X.env.scope x) (hf:X.fn x=true∨X.env.scope.names.lookup x=some .local:=by first | exact .inl rfl | exact .inr rfl | assumption):PG X (.Name x pos) (aW i):=by
 intro Df s σ H v u Q I r h
 exact wpAny_assign_Name (pZ I hN hi hx r (fun s' I'=>⟨_,H,I',h⟩) hf)
def w4:gH:=fun vs σ H Q=>vs=[]/\Q σ H
inductive p8 (t:TG) (u:gH) (vs:List V) (σ:St) (H:Hp) (Q:St->Hp->Prop):Prop
 | mk:∀ v r,vs=v::r->(t v σ H fun σ' H'=>u r σ' H' Q)->p8 t u vs σ H Q
theorem dm:jo X [] w4:=by
 intro Df s σ H vs us Q I r h
 obtain ⟨e,h⟩:=h
 subst e
 cases r
 exact assignInOrder_nil ⟨σ,H,I,h⟩
theorem br {e:Expr} {es:List Expr} {t:TG} {u:gH} (h1:PG X e t) (h2:jo X es u)
  (hs:(assignEach (e::es) X.env).map (·.2)=assign e X.env::(assignEach es X.env).map (·.2):=by rfl):jo X (e::es) (p8 t u):=by
 intro Df s σ H vs us Q I r h
 obtain ⟨v,vr,e1,h⟩:=h
 subst e1
 cases r with
 | cons r rr =>
  rw [hs]
  refine assignInOrder_cons (aE (h1 Df s σ H _ _ _ I r h) fun _ s1 hsl10=>?_)
  obtain ⟨σ1,H1,I1,q1⟩:=hsl10
  exact h2 Df s1 σ1 H1 _ _ Q I1 rr q1
inductive mE (K:PySem.W.Frag) (n:Nat) (t:gH) (v:V) (σ:St) (H:Hp) (Q:St->Hp->Prop):Prop
 | mk:∀ a xs,v=.ref a->ah K H a xs->xs.length=n->t xs σ H Q->mE K n t v σ H Q
theorem eK {es:List Expr} {k:Nat} {t:gH} {n:Nat} (hc:X.calm=true) (h:jo X es t)
  (hn:(assignEach es X.env).length=n:=by rfl) (hst:(assignEach es X.env).findIdx? (·.1)=none:=by rfl):PG X (.Tuple es k pos) (mE X.K n t):=by
 intro Df s σ H v u Q I r hw
 obtain ⟨a,xs,e1,hq,hl,hw⟩:=hw
 subst e1
 cases r
 obtain ⟨its,rv,ht,hz⟩:=I.tuple hq
 refine assign_Tuple_tuple (I.ok.hd hc) ht (by simp [hn,<- hl,rv.length]) hst fun h' hx=>?_
 have I1:Inv X Df σ H { s with heap:=h' }:=I.kept (t':=s.toks) fun b o e=>hx b o (QB (Qs e)) e
 exact h Df _ σ H xs _ Q I1 (by simpa using rv) hw
def jp (te:TE) (g:TG):TS:=fun D σ H=>te σ H fun x H1=>g x σ H1 D.nx
theorem mF {tg e:Expr} {te:TE} {g:TG} (he:PE X e te) (hg:PG X tg g) (hs:swapsWithSole [tg] e pos.line X.env=pure false:=by rfl) (hw:swappedStores [tg] e X.env=pure none:=by rfl)
  (h1:(assignEach [tg] X.env).map (·.2)=[assign tg X.env]:=by rfl):PS X (.Assign [tg] e pos) (jp te g):=by
 intro Df s σ H D I h
 refine wpAny_Assign_stores (aE (he Df s σ H _ I h) fun v s1 hsl11=>?_) hs hw
 obtain ⟨x,H1,I1,r1,q1⟩:=hsl11
 rw [h1]
 exact aE (hg Df s1 σ H1 x v _ I1 r1 q1) fun _ s2 q=>q
theorem aY {i:Nat} {x:Str} {e:Expr} {te:TE} {Fi:Pos} (hN:X.N.Nodup) (hi:X.N[i]?=some x) (hx:Loc X.env.scope x) (he:PE X e te) (hs:swapsWith e (some (.Name x Fi)) pos.line X.env=pure false:=by rfl) (hf:X.fn x=true∨X.env.scope.names.lookup x=some .local:=by first | exact .inl rfl | exact .inr rfl | assumption) :
  PS X (.Assign [.Name x Fi] e pos) (jp te (aW i)):=by
 intro Df s σ H D I h
 refine wpAny_Assign_Name (aE (he Df s σ H _ I h) fun v s1 hsl12=>?_) hs
 obtain ⟨y,H1,I1,r1,q1⟩:=hsl12
 exact pZ I1 hN hi hx r1 (fun s2 I2=>⟨_,H1,I2,q1⟩) hf
end
structure It where
 go:Nat->Hp->Prop
 yld:Nat->Hp->V->Hp->Prop
 stop:Nat->Hp->Prop
def cc (X:Cx) (Df:List (Addr × Obj)) (H:Hp) (b:Addr):Prop :=
 H b=none/\b≠X.env.locals/\b∉X.fs/\(b∈X.ex∨X.s₀.heap.objs.size<=b)/\(∀ x c,X.env.cells.lookup x=some c->c≠b)/\∀ p∈X.pn++Df,p.1≠b
theorem Inv.fpOk {X:Cx} {Df:List (Addr × Obj)} {σ:St} {H H':Hp} {s:Shared} {b:Addr} (I:Inv X Df σ H s) (hb:s.heap.objs.size<=b) (hn:H' b=none):cc X Df H' b:=by
 refine ⟨hn,QX (QI I.lt hb),I.nofs hb,.inr (QC I.sz hb),fun x c e z=>?_,fun p hp z=>?_⟩
 ·obtain ⟨v,q⟩:=I.cell x c e
  exact absurd (QI q.lt (by rw [z];exact hb)) (Nat.lt_irrefl _)
 ·exact absurd (QI (Qs (I.pin p hp).1) (by rw [z];exact hb)) (Nat.lt_irrefl _)
structure fX (P:Program) (w:World) (K:PySem.W.Frag) (tg:Expr) (J:It) (fp:List Addr) (it:Addr) (tn:Nat->Heap->Prop):Prop where
 mem:it∈fp
 obj:∀ i h,tn i h->∀ b∈fp,∃ o,h.get? b=some o/\∀ v,o.data≠.cell v
 keep:∀ i h h',tn i h->(∀ b∈fp,∀ o,h.get? b=some o->h'.get? b=some o)->tn i h'
 item:∀ (X:Cx),X.prog=P->X.w=w->X.K=K->X.calm=true->∀ (i:Nat) (Df:List (Addr × Obj)) (s:Shared) (σ:St) (H:Hp) (E:Value->Shared->Prop),Inv X Df σ H s->(∀ b∈fp,cc X Df H b)->tn i s.heap->J.go i H ->
  wpAny (model P w) X.A (pyNext (.ref it)) (fun r s1=>∃ u,r=some u /\
   wpAny (model P w) X.A (letOwnedTupleGo tg (.ref it) u) (fun _ s2=>∃ x H',Inv X Df σ H' s2/\RelV x u/\J.yld i H x H'/\tn (i+1) s2.heap/\∀ b∈fp,H' b=none) E s1) E s
 done:∀ (X:Cx),X.prog=P->X.w=w->X.K=K->X.calm=true->∀ (i:Nat) (Df:List (Addr × Obj)) (s:Shared) (σ:St) (H:Hp) (E:Value->Shared->Prop),Inv X Df σ H s->(∀ b∈fp,cc X Df H b)->tn i s.heap->J.stop i H ->
  wpAny (model P w) X.A (pyNext (.ref it)) (fun r s1=>r=none/\Inv X Df σ H s1) E s
 self:∀ (A:Around) (i:Nat) (s:Shared) (Q:Value->Shared->Prop) (E:Value->Shared->Prop),tn i s.heap->Q (.ref it) s->wpAny (model P w) A (pyIter (.ref it)) Q E s
abbrev TI:=St->Hp->(It->Hp->Prop)->Prop
def p9 (X:Cx) (Df:List (Addr × Obj)) (σ:St) (tg:Expr) (R:It->Hp->Prop) (itv:Value) (s2:Shared):Prop :=
 ∃ (it:Addr) (fp:List Addr) (tn:Nat->Heap->Prop) (J:It) (H':Hp),itv=.ref it/\Inv X Df σ H' s2/\fX X.prog X.w X.K tg J fp it tn/\tn 0 s2.heap/\(∀ b∈fp,cc X Df H' b)/\R J H'
def PI (X:Cx) (tg iter:Expr) (wi:TI):Prop :=
 ∀ (Df:List (Addr × Obj)) (s:Shared) (σ:St) (H:Hp) (R:It->Hp->Prop),Inv X Df σ H s->wi σ H R ->
  wpAny (model X.prog X.w) X.A (eval iter X.env) (fun v s1=>wpAny (model X.prog X.w) X.A (pyIter v) (p9 X Df σ tg R) X.xe s1) X.xe s
theorem ky {M:Model} {A:Around} {E:Value->Shared->Prop} {s:Shared} {tg:Expr} {it:Addr} {u:Value} {o:Obj} {n:String} {vs:Array Value} {Q:Unit->Shared->Prop} (ho:s.heap.get? it=some o) (hc:o.cls=.type n) (hd:o.data=.fields vs)
  (hn:["enumerate","zip","dict_itemiterator","dict_reverseitemiterator","odict_iterator","itertools.zip_longest","itertools.pairwise"].contains n=false) (hQ:Q () s):wpAny M A (letOwnedTupleGo tg (.ref it) u) Q E s:=by
 unfold letOwnedTupleGo
 cases tg<;>first
  | exact Qk hQ
  | (cases u<;>first
    | exact Qk hQ
    | (refine Qb (wpAny_load ho ?_)
       rw [hc,hd]
       show wpAny M A (if (["enumerate","zip","dict_itemiterator","dict_reverseitemiterator","odict_iterator","itertools.zip_longest","itertools.pairwise"].contains n&&vs[0]? == some (rawInt _))=true then _ else _) Q E s
       rw [if_neg (by intro h;rw [hn,Bool.false_and] at h;cases h)]
       exact Qk hQ))
noncomputable def gI (K:PySem.W.Frag) (a:Addr):It :=
 ⟨fun i H=>∃ xs x,aj K H a xs/\xs[i]?=some x,fun i H x H'=>H'=H/\∀ xs,aj K H a xs->xs[i]?=some x,fun i H=>∃ xs,aj K H a xs/\xs.length<=i⟩
noncomputable def gJ (K:PySem.W.Frag) (a:Addr):It :=
 ⟨fun i H=>∃ xs x,ah K H a xs/\xs[i]?=some x,fun i H x H'=>H'=H/\∀ xs,ah K H a xs->xs[i]?=some x,fun i H=>∃ xs,ah K H a xs/\xs.length<=i⟩
noncomputable def fh (lo:Int) (n:Nat):It:=⟨fun i _=>i<n,fun i H x H'=>H'=H/\x=.int (lo+i),fun i _=>n<=i⟩
theorem w5 {P:Program} {w:World} {K:PySem.W.Frag} {tg:Expr} (a it:Addr):fX P w K tg (gI K a) [it] it (fun i h=>h.IsListIter it a i) where
 mem:=by simp
 obj:=fun i h st b hb=>by
  have e:b=it:=by simpa using hb
  subst e
  obtain ⟨o,e,c,d⟩:=st
  exact ⟨o,e,fun v z=>by rw [d] at z;cases z⟩
 keep:=fun i h h' st k=>st.at fun o e=>k it (by simp) o e
 item:=by
  intro X hP hw hK hc i Df s σ H E I hf st hg
  subst hP hw hK
  obtain ⟨xs,x,hq,hx⟩:=hg
  obtain ⟨its,rv,p,hz⟩:=I.list hq
  obtain ⟨u,hu,ru⟩:=rv.get hx
  obtain ⟨f0,f1,f2,f3,f4,f5⟩:=hf it (by simp)
  refine wpAny_pyNext_list_item st p.isList (x:=u) (by simpa using hu) fun h' Dv sb=>?_
  have I1:Inv X Df σ H { s with heap:=h' }:=I.turned (t':=s.toks) (fun b o hb e=>(sb.2 b hb).trans e) f0 f1 f3 f4 f5
  obtain ⟨o,e,c,d⟩:=id Dv
  exact ⟨u,rfl,ky (s:={ s with heap:=h' }) e c d (by decide) ⟨x,H,I1,ru,⟨rfl,fun ys hy=>by rw [I.list_inj hy hq];exact hx⟩,Dv,fun b hb=>(hf b hb).1⟩⟩
 done:=by
  intro X hP hw hK hc i Df s σ H E I hf st hg
  subst hP hw hK
  obtain ⟨xs,hq,hx⟩:=hg
  obtain ⟨its,rv,p,hz⟩:=I.list hq
  obtain ⟨f0,f1,f2,f3,f4,f5⟩:=hf it (by simp)
  have hl:=rv.length
  exact wpAny_pyNext_list_end (I.ok.hd hc) st p.isList (by simp;lia) fun h' eb=>⟨rfl,I.turned (t':=s.toks) (fun b o hb e=>eb b o hb e) f0 f1 f3 f4 f5⟩
 self:=fun _ _ _ _ _ st h=>wpAny_pyIter_listiter st h
theorem w6 {P:Program} {w:World} {K:PySem.W.Frag} {tg:Expr} (a it:Addr):fX P w K tg (gJ K a) [it] it (fun i h=>h.IsTupleIter it a i) where
 mem:=by simp
 obj:=fun i h st b hb=>by
  have e:b=it:=by simpa using hb
  subst e
  obtain ⟨o,e,c,d⟩:=st
  exact ⟨o,e,fun v z=>by rw [d] at z;cases z⟩
 keep:=fun i h h' st k=>st.at fun o e=>k it (by simp) o e
 item:=by
  intro X hP hw hK hc i Df s σ H E I hf st hg
  subst hP hw hK
  obtain ⟨xs,x,hq,hx⟩:=hg
  obtain ⟨its,rv,p,hz⟩:=I.tuple hq
  obtain ⟨u,hu,ru⟩:=rv.get hx
  obtain ⟨f0,f1,f2,f3,f4,f5⟩:=hf it (by simp)
  refine wpAny_pyNext_tuple_item st (show s.heap.IsTuple a its.toArray from p) (x:=u) (by simpa using hu) fun h' Dv sb=>?_
  have I1:Inv X Df σ H { s with heap:=h' }:=I.turned (t':=s.toks) (fun b o hb e=>(sb.2 b hb).trans e) f0 f1 f3 f4 f5
  obtain ⟨o,e,c,d⟩:=id Dv
  exact ⟨u,rfl,ky (s:={ s with heap:=h' }) e c d (by decide) ⟨x,H,I1,ru,⟨rfl,fun ys hy=>by rw [I.tuple_inj hy hq];exact hx⟩,Dv,fun b hb=>(hf b hb).1⟩⟩
 done:=by
  intro X hP hw hK hc i Df s σ H E I hf st hg
  subst hP hw hK
  obtain ⟨xs,hq,hx⟩:=hg
  obtain ⟨its,rv,p,hz⟩:=I.tuple hq
  obtain ⟨f0,f1,f2,f3,f4,f5⟩:=hf it (by simp)
  have hl:=rv.length
  exact wpAny_pyNext_tuple_end (I.ok.hd hc) st (show s.heap.IsTuple a its.toArray from p) (by simp;lia) fun h' eb=>⟨rfl,I.turned (t':=s.toks) (fun b o hb e=>eb b o hb e) f0 f1 f3 f4 f5⟩
 self:=fun _ _ _ _ _ st h=>wpAny_pyIter_tupleiter st h
theorem w9 {P:Program} {w:World} {K:PySem.W.Frag} {tg:Expr} (it:Addr) (lo:Int) (n:Nat):fX P w K tg (fh lo n) [it] it (fun i h=>IsRangeIter h it (lo+(i:Nat)*1) ((n:Int)-(i:Nat)) 1) where
 mem:=by simp
 obj:=fun i h st b hb=>by
  have e:b=it:=by simpa using hb
  subst e
  exact ⟨_,st,fun v z=>by
   have z':Data.fields _=Data.cell v:=z
   cases z'⟩
 keep:=fun i h h' st k=>k it (by simp) _ st
 item:=by
  intro X hP hw hK hc i Df s σ H E I hf st hg
  subst hP hw hK
  obtain ⟨f0,f1,f2,f3,f4,f5⟩:=hf it (by simp)
  have W:=Walks.range (prog:=X.prog) (w:=X.w) (I.ok.hd hc) it lo 1 n
  refine W.item i s _ _ hg st fun v h' tk hv Dv kk=>?_
  obtain ⟨t,rfl⟩:=hv
  have I1:Inv X Df σ H { s with heap:=h',toks:=tk }:=I.turned (fun b o hb e=>kk b o (by simpa using hb) e) f0 f1 f3 f4 f5
  refine ⟨_,rfl,ky (s:={ s with heap:=h',toks:=tk }) (n:="range_iterator") Dv rfl rfl (by decide) ⟨.int (lo+i),H,I1,⟨t,?_⟩,⟨rfl,rfl⟩,Dv,fun b hb=>(hf b hb).1⟩⟩
  rw [Int.mul_one]
 done:=by
  intro X hP hw hK hc i Df s σ H E I hf st hg
  subst hP hw hK
  obtain ⟨f0,f1,f2,f3,f4,f5⟩:=hf it (by simp)
  exact wpAny_pyNext_range_end (I.ok.hd hc) st (by have:n<=i:=hg;lia) fun h' eb=>⟨rfl,I.turned (t':=s.toks) (fun b o hb e=>eb b o hb e) f0 f1 f3 f4 f5⟩
 self:=fun _ _ _ _ _ st h=>wpAny_pyIter_rangeiter st h
section
variable {X:Cx} {tg:Expr}
def xa (K:PySem.W.Frag) (tl:TE):TI:=fun σ H R=>tl σ H fun x H1=>∃ a,x=.ref a/\(∃ xs,aj K H1 a xs)/\R (gI K a) H1
def xf (K:PySem.W.Frag) (tl:TE):TI:=fun σ H R=>tl σ H fun x H1=>∃ a,x=.ref a/\(∃ xs,ah K H1 a xs)/\R (gJ K a) H1
theorem dC {l:Expr} {tl:TE} (hl:PE X l tl):PI X tg l (xa X.K tl):=by
 intro Df s σ H R I h
 refine aE (hl Df s σ H _ I h) fun v s1 hsl13=>?_
 obtain ⟨x,H1,I1,r1,q1⟩:=hsl13
 obtain ⟨a,e,⟨xs,hq⟩,q⟩:=q1
 subst e
 cases r1
 obtain ⟨its,rv,p,hz⟩:=I1.list hq
 refine wpAny_pyIter_list p.isList ?_
 refine ⟨s1.heap.objs.size,[s1.heap.objs.size],_,_,H1,rfl,I1.kept (t':=s1.toks) fun b o e=>Qg _ e,w5 a _,⟨_,Qz _ rfl,rfl,rfl⟩,fun b hb=>?_,q⟩
 have e:b=s1.heap.objs.size:=by simpa using hb
 subst e
 exact I1.fpOk (Qf _) (I1.hok.fresh (Qf _))
theorem im {l:Expr} {tl:TE} (hl:PE X l tl):PI X tg l (xf X.K tl):=by
 intro Df s σ H R I h
 refine aE (hl Df s σ H _ I h) fun v s1 hsl14=>?_
 obtain ⟨x,H1,I1,r1,q1⟩:=hsl14
 obtain ⟨a,e,⟨xs,hq⟩,q⟩:=q1
 subst e
 cases r1
 obtain ⟨its,rv,p,hz⟩:=I1.tuple hq
 refine wpAny_pyIter_tuple (show s1.heap.IsTuple a its.toArray from p) ?_
 refine ⟨s1.heap.objs.size,[s1.heap.objs.size],_,_,H1,rfl,I1.kept (t':=s1.toks) fun b o e=>Qg _ e,w6 a _,⟨_,Qz _ rfl,rfl,rfl⟩,fun b hb=>?_,q⟩
 have e:b=s1.heap.objs.size:=by simpa using hb
 subst e
 exact I1.fpOk (Qf _) (I1.hok.fresh (Qf _))
theorem xh {Df:List (Addr × Obj)} {σ:St} {H:Hp} {s:Shared} {R:It->Hp->Prop} {E:Value->Shared->Prop} {lo hi:Int} {t u v:Tok} {tk:Nat} (I:Inv X Df σ H s) (h1:-(2 ^ 62)<=lo) (h2:lo<2 ^ 62) (h3:-(2 ^ 62)<=hi) (h4:hi<2 ^ 62)
  (q:R (fh lo (hi-lo).toNat) H):wpAny (model X.prog X.w) X.A (pyIter (.ref s.heap.objs.size)) (p9 X Df σ tg R) E { s with heap:=s.heap.push { cls:=.type "range",data:=.fields #[.int lo t,.int hi u,.int 1 v] },toks:=tk }:=by
 refine wpAny_pyIter_range (IsRange.new ..) (small_one h1 h2 h3 h4) ?_
 have I1:Inv X Df σ H { s with heap:=s.heap.push { cls:=.type "range",data:=.fields #[.int lo t,.int hi u,.int 1 v] },toks:=tk }:=I.kept fun b o e=>Qg _ e
 refine ⟨(s.heap.push { cls:=.type "range",data:=.fields #[.int lo t,.int hi u,.int 1 v] }).objs.size,[(s.heap.push { cls:=.type "range",data:=.fields #[.int lo t,.int hi u,.int 1 v] }).objs.size],_,_,H,rfl,
  I1.kept (t':=tk) fun b o e=>Qg _ e,w9 _ lo (hi-lo).toNat,?_,fun b hb=>?_,q⟩
 ·have e1:lo+((0:Nat):Int)*1=lo:=by simp
  have e2:(((hi-lo).toNat:Nat):Int)-((0:Nat):Int)=Builtin.Range.rangeSize lo hi 1:=by rw [rangeSize_one];split<;>lia
  show IsRangeIter _ _ (lo+((0:Nat):Int)*1) ((((hi-lo).toNat:Nat):Int)-((0:Nat):Int)) 1
  rw [e1,e2]
  exact Qz _ rfl
 ·have e:b=(s.heap.push { cls:=.type "range",data:=.fields #[.int lo t,.int hi u,.int 1 v] }).objs.size:=by simpa using hb
  subst e
  exact I1.fpOk (Qf _) (I1.hok.fresh (Qf _))
def xi (ta:TA):TI:=fun σ H R=>ta σ H fun vs H1=>∃ j:Int,vs=[.int j]/\-(2 ^ 62)<=j/\j<2 ^ 62/\R (fh 0 j.toNat) H1
theorem io {a:Expr} {ta:TA} {p pos:Pos} (hg:Gl X "range") (hm:X.mg "range"=none) (ha:PA X [a] ta) (hs:starEach [a] X.env=[(false,eval a X.env)]:=by rfl):PI X tg (.Call (.Name "range" p) [a] [] pos) (xi ta):=by
 intro Df s σ H R I h
 refine Call_ (gF I hg hm boot_range (PyProof.Rows.callWith_type1 (aE (ha pos Df s σ H _ I h) fun us s1 hsl15=>?_) hs rfl))
 obtain ⟨vs,H1,I1,r1,q1⟩:=hsl15
 obtain ⟨j,e,q1,q2,q⟩:=q1
 subst e
 cases r1 with
 | cons r rr =>
  cases rr
  obtain ⟨t,rfl⟩:=r
  exact call_range_1 (xh I1 (by lia) (by lia) q1 q2 (by simpa using q))
def mG (wi:TI) (g:TG) (tb:TS):TS:=fun D σ H=>wi σ H fun J H1=>∃ W:Nat->Nat->St->Hp->Prop,(∃ m,W 0 m σ H1)/\∀ i m σ H,W i m σ H ->
 (J.stop i H/\D.nx σ H)∨(J.go i H/\∃ N:St->Hp->Prop,(∀ σ' H',N σ' H'->∃ m',m'<m/\W (i+1) m' σ' H')/\∀ x H',J.yld i H x H'->g x σ H' fun σ2 H2=>tb { D with nx:=N,ct:=N,bk:=D.nx } σ2 H2)
noncomputable def gK (fp:List Addr) (h:Heap):List (Addr × Obj):=fp.filterMap fun b=>(h.get? b).map fun o=>(b,o)
theorem fi {fp:List Addr} {h:Heap} {b:Addr} {o:Obj} (hb:b∈fp) (e:h.get? b=some o):(b,o)∈gK fp h:=List.mem_filterMap.mpr ⟨b,hb,by rw [e];rfl⟩
theorem qa {fp:List Addr} {h:Heap} {p:Addr × Obj} (hp:p∈gK fp h):p.1∈fp/\h.get? p.1=some p.2:=by
 obtain ⟨b,hb,e⟩:=List.mem_filterMap.mp hp
 cases q:h.get? b with
 | none=>rw [q] at e;cases e
 | some o =>
  rw [q] at e
  have e':(b,o)=p:=Qq e
  subst e'
  exact ⟨hb,q⟩
theorem Inv.pinned {Df:List (Addr × Obj)} {σ:St} {H:Hp} {s:Shared} {fp:List Addr} (I:Inv X Df σ H s) (hf:∀ b∈fp,cc X Df H b) (ho:∀ b∈fp,∃ o,s.heap.get? b=some o/\∀ v,o.data≠.cell v):Inv X (Df++gK fp s.heap) σ H s :=
 I.pins_of fun p hp=>(Qw hp).elim (fun z=>I.pin p (Qx _ z)) fun z=>by
  obtain ⟨hb,e⟩:=qa z
  obtain ⟨f0,f1,f2,_⟩:=hf p.1 hb
  obtain ⟨o,e',d⟩:=ho p.1 hb
  rw [e] at e';cases e'
  exact ⟨e,f0,f1,f2,d⟩
theorem Inv.unpinned {Df pl:List (Addr × Obj)} {σ:St} {H:Hp} {s:Shared} (I:Inv X (Df++pl) σ H s):Inv X Df σ H s:=I.pins_of fun p hp=>I.pin p (Qx _ (List.mem_append_left _ hp))
theorem dU {iter:Expr} {body:List Stmt} {wi:TI} {g:TG} {tb:TS} {pos:Pos} (hp:PassesOwn (model X.prog X.w) X.A X.env X.xe) (hc:X.calm=true) (hi:PI X tg iter wi) (hg:PG X tg g) (hb:dS X body tb)
  (hs:∀ x,foldedSetIterable iter X.env x=pure x:=by intro _;rfl):PS X (.For tg iter body [] pos) (mG wi g tb):=by
 intro Df s σ H D I h
 refine wpAny_For (aE (hi Df s σ H _ I h) fun v s1 h1=>aE h1 fun itv s2 h2=>?_) hs
 obtain ⟨it,fp,tn,J,H2,e,I2,T,FE,f2,W,⟨m0,w0⟩,turn⟩:=h2
 subst e
 have stat:∀ {H':Hp},(∀ b∈fp,H' b=none)->∀ b∈fp,cc X Df H' b:=fun hn b hb=>⟨hn b hb,(f2 b hb).2⟩
 refine codeAny_forLoop_any (fun n s'=>∃ i σ' H',Inv X Df σ' H' s'/\tn i s'.heap/\(∀ b∈fp,H' b=none)/\W i n σ' H') ?_ m0 ⟨0,σ,H2,I2,FE,fun b hb=>(f2 b hb).1,w0⟩
 rintro n s3 ⟨i,σ3,H3,I3,st3,fr3,w3⟩
 rcases turn i n σ3 H3 w3 with ⟨stop,qn⟩ | ⟨go,N,hN,step⟩
 ·refine wpAny_passesOwn hp (aE (T.done X rfl rfl rfl hc i Df s3 σ3 H3 X.xe I3 (stat fr3) st3 stop) fun r s4 hsl16=>?_)
  obtain ⟨hr,I4⟩:=hsl16
  subst hr
  exact wpAny_execs_nil ⟨σ3,H3,I4,qn⟩
 ·refine wpAny_passesOwn hp (aE (T.item X rfl rfl rfl hc i Df s3 σ3 H3 X.xe I3 (stat fr3) st3 go) fun r s4 hsl17=>?_)
  obtain ⟨u,hr,h4⟩:=hsl17
  subst hr
  refine wpAny_passesOwn hp (aE h4 fun _ s5 hsl18=>?_)
  obtain ⟨x,H5,I5,r5,y5,st5,fr5⟩:=hsl18
  have I5':=I5.pinned (stat fr5) (T.obj _ _ st5)
  refine wpAny_passesOwn hp (aE (hg _ s5 σ3 H5 x u _ I5' r5 (step x H5 y5)) fun _ s6 hsl19=>?_)
  obtain ⟨σ6,H6,I6,q6⟩:=hsl19
  refine wpAny_passesOwn hp (aE (hb _ s6 σ6 H6 _ I6 q6) fun f s7 q7=>?_)
  have again:∀ {σ7:St} {H7:Hp},Inv X (Df++gK fp s5.heap) σ7 H7 s7->N σ7 H7->∃ m,m<n/\∃ i σ' H',Inv X Df σ' H' s7/\tn i s7.heap/\(∀ b∈fp,H' b=none)/\W i m σ' H':=fun {σ7 H7} I7 n7=>by
   obtain ⟨m',hm,w7⟩:=hN σ7 H7 n7
   refine ⟨m',hm,i+1,σ7,H7,I7.unpinned,T.keep _ _ _ st5 fun b hb o e=>(I7.pin (b,o) (Qx _ (Qx _ (fi hb e)))).1,fun b hb=>?_,w7⟩
   obtain ⟨o,e,d⟩:=T.obj _ _ st5 b hb
   exact (I7.pin (b,o) (Qx _ (Qx _ (fi hb e)))).2.1
  cases f with
  | next=>obtain ⟨σ7,H7,I7,n7⟩:=q7;exact again I7 n7
  | cont=>obtain ⟨σ7,H7,I7,n7⟩:=q7;exact again I7 n7
  | brk=>obtain ⟨σ7,H7,I7,q7⟩:=q7;exact ⟨σ7,H7,I7.unpinned,q7⟩
  | ret v=>obtain ⟨x7,σ7,H7,I7,r7,q7⟩:=q7;exact ⟨x7,σ7,H7,I7.unpinned,r7,q7⟩
end
theorem fY {K:PySem.W.Frag} {a:Addr} {xs:List V} {g:TG} {tb:TS} {D:dB} {σ:St} {H:Hp} (Pv:Nat->St->Hp->Prop) (h0:Pv 0 σ H) (hl:∀ i σ H,i<=xs.length->Pv i σ H->aj K H a xs)
  (hs:∀ i x σ H,xs[i]?=some x->Pv i σ H->g x σ H fun σ2 H2=>tb { D with nx:=Pv (i+1),ct:=Pv (i+1),bk:=D.nx } σ2 H2) (hd:∀ σ H,Pv xs.length σ H->D.nx σ H) :
  ∃ W:Nat->Nat->St->Hp->Prop,(∃ m,W 0 m σ H)/\∀ i m σ H,W i m σ H ->
   ((gI K a).stop i H/\D.nx σ H)∨((gI K a).go i H/\∃ N:St->Hp->Prop,(∀ σ' H',N σ' H'->∃ m',m'<m/\W (i+1) m' σ' H')/\∀ x H',(gI K a).yld i H x H'->g x σ H' fun σ2 H2=>tb { D with nx:=N,ct:=N,bk:=D.nx } σ2 H2):=by
 refine ⟨fun i m σ H=>m=xs.length-i/\i<=xs.length/\Pv i σ H,⟨xs.length,by simp,Qu _,h0⟩,?_⟩
 rintro i m σ H ⟨rfl,hi,p⟩
 have q:=hl i σ H hi p
 by_cases Do:i<xs.length
 ·refine .inr ⟨⟨xs,xs[i],q,by simp [Do]⟩,Pv (i+1),fun σ' H' p'=>⟨xs.length-(i+1),by omega,rfl,Do,p'⟩,fun x H' y=>?_⟩
  obtain ⟨e,y⟩:=y
  subst e
  exact hs i x σ _ (y xs q) p
 ·have e:i=xs.length:=by omega
  subst e
  exact .inl ⟨⟨xs,q,Qf _⟩,hd σ H p⟩
theorem xj {K:PySem.W.Frag} {a:Addr} {xs:List V} {g:TG} {tb:TS} {D:dB} {σ:St} {H:Hp} (Pv:Nat->St->Hp->Prop) (h0:Pv 0 σ H) (hl:∀ i σ H,i<=xs.length->Pv i σ H->ah K H a xs)
  (hs:∀ i x σ H,xs[i]?=some x->Pv i σ H->g x σ H fun σ2 H2=>tb { D with nx:=Pv (i+1),ct:=Pv (i+1),bk:=D.nx } σ2 H2) (hd:∀ σ H,Pv xs.length σ H->D.nx σ H) :
  ∃ W:Nat->Nat->St->Hp->Prop,(∃ m,W 0 m σ H)/\∀ i m σ H,W i m σ H ->
   ((gJ K a).stop i H/\D.nx σ H)∨((gJ K a).go i H/\∃ N:St->Hp->Prop,(∀ σ' H',N σ' H'->∃ m',m'<m/\W (i+1) m' σ' H')/\∀ x H',(gJ K a).yld i H x H'->g x σ H' fun σ2 H2=>tb { D with nx:=N,ct:=N,bk:=D.nx } σ2 H2):=by
 refine ⟨fun i m σ H=>m=xs.length-i/\i<=xs.length/\Pv i σ H,⟨xs.length,by simp,Qu _,h0⟩,?_⟩
 rintro i m σ H ⟨rfl,hi,p⟩
 have q:=hl i σ H hi p
 by_cases Do:i<xs.length
 ·refine .inr ⟨⟨xs,xs[i],q,by simp [Do]⟩,Pv (i+1),fun σ' H' p'=>⟨xs.length-(i+1),by omega,rfl,Do,p'⟩,fun x H' y=>?_⟩
  obtain ⟨e,y⟩:=y
  subst e
  exact hs i x σ _ (y xs q) p
 ·have e:i=xs.length:=by omega
  subst e
  exact .inl ⟨⟨xs,q,Qf _⟩,hd σ H p⟩
theorem mH {lo:Int} {n:Nat} {g:TG} {tb:TS} {D:dB} {σ:St} {H:Hp} (Pv:Nat->St->Hp->Prop) (h0:Pv 0 σ H)
  (hs:∀ i σ H,i<n->Pv i σ H->g (.int (lo+i)) σ H fun σ2 H2=>tb { D with nx:=Pv (i+1),ct:=Pv (i+1),bk:=D.nx } σ2 H2) (hd:∀ σ H,Pv n σ H->D.nx σ H) :
  ∃ W:Nat->Nat->St->Hp->Prop,(∃ m,W 0 m σ H)/\∀ i m σ H,W i m σ H ->
   ((fh lo n).stop i H/\D.nx σ H)∨((fh lo n).go i H/\∃ N:St->Hp->Prop,(∀ σ' H',N σ' H'->∃ m',m'<m/\W (i+1) m' σ' H')/\∀ x H',(fh lo n).yld i H x H'->g x σ H' fun σ2 H2=>tb { D with nx:=N,ct:=N,bk:=D.nx } σ2 H2):=by
 refine ⟨fun i m σ H=>m=n-i/\i<=n/\Pv i σ H,⟨n,by simp,Qu _,h0⟩,?_⟩
 rintro i m σ H ⟨rfl,hi,p⟩
 by_cases Do:i<n
 ·refine .inr ⟨Do,Pv (i+1),fun σ' H' p'=>⟨n-(i+1),by omega,rfl,Do,p'⟩,fun x H' y=>?_⟩
  obtain ⟨e,y⟩:=y
  subst e y
  exact hs i σ _ Do p
 ·have e:i=n:=by omega
  subst e
  exact .inl ⟨Qf _,hd σ H p⟩
abbrev R2:=V->V->Hp->VK->Prop
def bD (X:Cx) (f:Value->Value->Sem Value) (r:R2):Prop :=
 ∀ (Df:List (Addr × Obj)) (s:Shared) (σ:St) (H:Hp) (x y:V) (v u:Value) (Q:VK),Inv X Df σ H s->RelV x v->RelV y u->r x y H Q ->
  wpAny (model X.prog X.w) X.A (f v u) (EP X Df σ Q) X.xe s
def mI (X:Cx) (f:Value->Sem Value) (r:V->Hp->VK->Prop):Prop :=
 ∀ (Df:List (Addr × Obj)) (s:Shared) (σ:St) (H:Hp) (x:V) (v:Value) (Q:VK),Inv X Df σ H s->RelV x v->r x H Q ->
  wpAny (model X.prog X.w) X.A (f v) (EP X Df σ Q) X.xe s
def fJ (X:Cx) (f:Value) (r:List V->Hp->VK->Prop):Prop :=
 ∀ (Df:List (Addr × Obj)) (s:Shared) (σ:St) (H:Hp) (xs:List V) (us:List Value) (Q:VK),Inv X Df σ H s->ap xs us->r xs H Q ->
  wpAny (model X.prog X.w) X.A (call f us) (EP X Df σ Q) X.xe s
def mJ (r:R2) (ta tb:TE):TE:=fun σ H Q=>ta σ H fun x H1=>tb σ H1 fun y H2=>r x y H2 Q
def xk (r:V->Hp->VK->Prop) (ta:TE):TE:=fun σ H Q=>ta σ H fun x H1=>r x H1 Q
inductive rI (C:Int->Int->Prop) (g:Int->Int->V) (x y:V) (H:Hp) (Q:VK):Prop
 | mk:∀ i j,x=.int i->y=.int j->C i j->Q (g i j) H->rI C g x y H Q
inductive eL (g:Int->Int->V) (x y:V) (H:Hp) (Q:VK):Prop
 | mk:∀ i j,x=.int i->y=.int j->Q (g i j) H->eL g x y H Q
inductive rU (g:Int->V) (x:V) (H:Hp) (Q:VK):Prop
 | mk:∀ i,x=.int i->Q (g i) H->rU g x H Q
section
variable {X:Cx} {a b c:Expr} {ta tb tc:TE} {pos:Pos}
theorem qb (ha:PE X a ta) (hb:PE X b tb) {Df:List (Addr × Obj)} {s:Shared} {σ:St} {H:Hp} {R:V->V->Hp->Prop} (I:Inv X Df σ H s)
  (h:ta σ H fun x H1=>tb σ H1 fun y H2=>R x y H2) {Q:Value->Shared->Prop} {f:Value->Value->Sem Value}
  (hf:∀ v u s2 x y H2,Inv X Df σ H2 s2->RelV x v->RelV y u->R x y H2->wpAny (model X.prog X.w) X.A (f v u) Q X.xe s2) :
  wpAny (model X.prog X.w) X.A (eval a X.env) (fun v s₁=>wpAny (model X.prog X.w) X.A (eval b X.env) (fun u s₂=>wpAny (model X.prog X.w) X.A (f v u) Q X.xe s₂) X.xe s₁) X.xe s:=by
 refine aE (ha Df s σ H _ I h) fun v s1 hsl20=>?_
 obtain ⟨x,H1,I1,r1,q1⟩:=hsl20
 refine aE (hb Df s1 σ H1 _ I1 q1) fun u s2 hsl21=>?_
 obtain ⟨y,H2,I2,r2,q2⟩:=hsl21
 exact hf v u s2 x y H2 I2 r1 r2 q2
theorem am {op:Operator} {r:R2} (ho:bD X (binaryOp op) r) (ha:PE X a ta) (hb:PE X b tb):PE X (.BinOp a op b pos) (mJ r ta tb):=by
 intro Df s σ H Q I h
 exact wpAny_BinOp (qb ha hb I h fun v u s2 x y H2 I2 rx ry q=>ho Df s2 σ H2 x y v u Q I2 rx ry q)
theorem kz {op:UnaryOp} {r:V->Hp->VK->Prop} (ho:mI X (unaryOp op) r) (ha:PE X a ta):PE X (.UnaryOp op a pos) (xk r ta):=by
 intro Df s σ H Q I h
 exact UnaryOp_ (aE (ha Df s σ H _ I h) fun v s1 hsl22=>by obtain ⟨x,H1,I1,r1,q1⟩:=hsl22;exact ho Df s1 σ H1 x v Q I1 r1 q1)
theorem ip {f:Value->Value->Sem Value} {C:Int->Int->Prop} {g:Int->Int->Int}
  (rule:∀ (i j:Int) (t u:Tok) (s:Shared) (Q:Value->Shared->Prop) (E:Value->Shared->Prop),C i j->Q (.int (g i j) s.toks) { s with toks:=s.toks+1 }->wpAny (model X.prog X.w) X.A (f (.int i t) (.int j u)) Q E s) :
  bD X f (rI C fun i j=>.int (g i j)):=by
 intro Df s σ H x y v u Q I rx ry h
 obtain ⟨i,j,rfl,rfl,hc,q⟩:=h
 obtain ⟨t,rfl⟩:=rx
 obtain ⟨t',rfl⟩:=ry
 exact rule i j t t' s _ _ hc ⟨.int (g i j),H,I.tok _,⟨_,rfl⟩,q⟩
theorem jq {f:Value->Value->Sem Value} {g:Int->Int->Int}
  (rule:∀ (i j:Int) (t u:Tok) (s:Shared) (Q:Value->Shared->Prop) (E:Value->Shared->Prop),Q (.int (g i j) s.toks) { s with toks:=s.toks+1 }->wpAny (model X.prog X.w) X.A (f (.int i t) (.int j u)) Q E s) :
  bD X f (eL fun i j=>.int (g i j)):=by
 intro Df s σ H x y v u Q I rx ry h
 obtain ⟨i,j,rfl,rfl,q⟩:=h
 obtain ⟨t,rfl⟩:=rx
 obtain ⟨t',rfl⟩:=ry
 exact rule i j t t' s _ _ ⟨.int (g i j),H,I.tok _,⟨_,rfl⟩,q⟩
theorem mK {f:Value->Value->Sem Value} {g:Int->Int->Bool}
  (rule:∀ (i j:Int) (t u:Tok) (s:Shared) (Q:Value->Shared->Prop) (E:Value->Shared->Prop),Q (.bool (g i j)) s->wpAny (model X.prog X.w) X.A (f (.int i t) (.int j u)) Q E s) :
  bD X f (eL fun i j=>.bl (g i j)):=by
 intro Df s σ H x y v u Q I rx ry h
 obtain ⟨i,j,rfl,rfl,q⟩:=h
 obtain ⟨t,rfl⟩:=rx
 obtain ⟨t',rfl⟩:=ry
 exact rule i j t t' s _ _ ⟨.bl (g i j),H,I,rfl,q⟩
def xl (i j:Int):Prop:=0<j/\j<1073741824
def xm (i j:Int):Prop:=0<=j/\j<=1000000/\i.natAbs<2 ^ 64
def mL (i j:Int):Prop:=(-(2 ^ 64)<i/\i<2 ^ 64)∨(-(2 ^ 64)<j/\j<2 ^ 64)
theorem mL.ok {i j:Int} (h:mL i j):IntMulOk i j:=by
 rcases h with ⟨h1,h2⟩ | ⟨h1,h2⟩
 ·exact .of_left (intBits_le_64 h1 h2)
 ·exact .of_right (intBits_le_64 h1 h2)
theorem xn (k:Nat):(0:Int)<=2 ^ k:=by
 rw [two_pow_cast]
 exact Int.natCast_nonneg _
theorem eM:bD X (binaryOp .Add) (eL fun i j=>.int (i+j)):=jq fun _ _ _ _ _ _ _ q=>add_int q
theorem fj:bD X (binaryOp .Sub) (eL fun i j=>.int (i-j)):=jq fun _ _ _ _ _ _ _ q=>sub_int q
theorem jr:bD X (binaryOp .Mult) (rI mL fun i j=>.int (i*j)):=ip fun _ _ _ _ _ _ _ hc q=>mul_int q hc.ok
theorem cM:bD X (binaryOp .FloorDiv) (rI xl fun i j=>.int (i / j)):=ip fun i j _ _ _ _ _ hc q=>by
 have h1:(0:Int)<j:=hc.1
 have h2:j<1073741824:=hc.2
 exact floordiv_int (by omega) (by rw [Int.fdiv_eq_ediv_of_nonneg i (by omega)];exact q) (.inl (PyProof.noPylong_small (by omega)))
theorem bG:bD X (binaryOp .Mod) (rI (fun _ j=>0<j) fun i j=>.int (i % j)):=ip fun i j _ _ _ _ _ hc q=>by
 have h1:(0:Int)<j:=hc
 exact mod_int' (by lia) (by rw [Int.fmod_eq_emod_of_nonneg i (by lia)];exact q)
theorem xq:bD X (binaryOp .Pow) (rI xm fun i j=>.int (i ^ j.toNat)):=ip fun _ _ _ _ _ _ _ hc q=>pow_int_small hc.1 hc.2.1 hc.2.2 q
theorem mM:bD X (binaryOp .RShift) (rI (fun _ j=>0<=j) fun i j=>.int (i / 2 ^ j.toNat)):=ip fun i j _ _ _ _ _ hc q =>
 rshift_int hc (by rw [Int.fdiv_eq_ediv_of_nonneg i (xn _)];exact q)
theorem eh:bD X (binaryOp .BitAnd) (eL fun i j=>.int (Builtin.bitAnd i j)):=jq fun _ _ _ _ _ _ _ q=>and_int q
theorem qc:bD X (binaryOp .BitOr) (eL fun i j=>.int (Builtin.bitOr i j)):=jq fun _ _ _ _ _ _ _ q=>or_int q
theorem kB:bD X (binaryOp .BitXor) (eL fun i j=>.int (Builtin.bitXor i j)):=jq fun _ _ _ _ _ _ _ q=>xor_int q
theorem xr {f:Value->Sem Value} {g:Int->Int}
  (rule:∀ (i:Int) (t:Tok) (s:Shared) (Q:Value->Shared->Prop) (E:Value->Shared->Prop),Q (.int (g i) s.toks) { s with toks:=s.toks+1 }->wpAny (model X.prog X.w) X.A (f (.int i t)) Q E s) :
  mI X f (rU fun i=>.int (g i)):=by
 intro Df s σ H x v Q I rx h
 obtain ⟨i,rfl,q⟩:=h
 obtain ⟨t,rfl⟩:=rx
 exact rule i t s _ _ ⟨.int (g i),H,I.tok _,⟨_,rfl⟩,q⟩
theorem kC:mI X (unaryOp .USub) (rU fun i=>.int (-i)):=xr fun _ _ _ _ _ q=>neg_int q
end
noncomputable def qd:V->V->Bool
 | .non,.non=>true | .non,.int _=>true | .int _,.non=>true | .non,.bl _=>true | .bl _,.non=>true | .non,.str _=>true | .str _,.non=>true
 | .int _,.int _=>true | .bl _,.bl _=>true | .str _,.str _=>true | .byt _,.byt _=>true
 | .int _,.str _=>true | .str _,.int _=>true | .bl _,.str _=>true | .str _,.bl _=>true
 | _,_=>false
def xu:R2:=fun x y H Q=>qd x y=true/\Q (.bl (decide (x=y))) H
def xv:R2:=fun x y H Q=>qd x y=true/\Q (.bl (!decide (x=y))) H
theorem jt {i j:Int}:decide (V.int i=V.int j)=(i == j):=by
 rw [Bool.eq_iff_iff]
 simp
theorem qe {i j:Bool}:decide (V.bl i=V.bl j)=(i == j):=by
 rw [Bool.eq_iff_iff]
 simp
theorem qf {i j:Str}:decide (V.str i=V.str j)=(i == j):=by
 rw [Bool.eq_iff_iff]
 simp
theorem qg {i j:Array UInt8}:decide (V.byt i=V.byt j)=(i.toList == j.toList):=by
 rw [Bool.eq_iff_iff]
 cases i
 cases j
 simp
section
variable {X:Cx} {a b c:Expr} {ta tb tc:TE} {pos:Pos}
theorem bH {Df:List (Addr × Obj)} {σ:St} {H:Hp} {s:Shared} {Q:VK} {k k':Bool} (I:Inv X Df σ H s) (q:Q (.bl k) H) (e:k=k'):EP X Df σ Q (.bool k') s:=by
 subst e
 exact ⟨.bl k,H,I,rfl,q⟩
theorem bu:bD X (compareOp .Eq) xu:=by
 intro Df s σ H x y v u Q I rx ry h
 obtain ⟨hs,q⟩:=h
 cases x with
 | non =>
  cases rx
  cases y with
  | non=>cases ry;exact PySem.EqNone.eq_none_none (bH I q (by simp))
  | bl j=>cases ry;exact PySem.EqNone.eq_none_bool (bH I q (by simp))
  | int j=>obtain ⟨t',rfl⟩:=ry;exact PySem.EqNone.eq_none_int (bH I q (by simp))
  | str j=>obtain ⟨t',rfl⟩:=ry;exact PySem.EqNone.eq_none_str (bH I q (by simp))
  | _=>exact absurd (show false=true from hs) QG
 | bl i =>
  cases rx
  cases y with
  | non=>cases ry;exact PySem.EqNone.eq_bool_none (bH I q (by simp))
  | bl j=>cases ry;exact eq_bool (bH I q qe)
  | str j=>obtain ⟨t',rfl⟩:=ry;exact PySem.EqMixed.eq_bool_str (bH I q (by simp))
  | _=>exact absurd (show false=true from hs) QG
 | int i =>
  obtain ⟨t,rfl⟩:=rx
  cases y with
  | non=>cases ry;exact PySem.EqNone.eq_int_none (bH I q (by simp))
  | int j=>obtain ⟨t',rfl⟩:=ry;exact eq_int (bH I q jt)
  | str j=>obtain ⟨t',rfl⟩:=ry;exact PySem.EqMixed.eq_int_str (bH I q (by simp))
  | _=>exact absurd (show false=true from hs) QG
 | str i =>
  obtain ⟨t,rfl⟩:=rx
  cases y with
  | non=>cases ry;exact PySem.EqNone.eq_str_none (bH I q (by simp))
  | bl j=>cases ry;exact PySem.EqMixed.eq_str_bool (bH I q (by simp))
  | int j=>obtain ⟨t',rfl⟩:=ry;exact PySem.EqMixed.eq_str_int (bH I q (by simp))
  | str j=>obtain ⟨t',rfl⟩:=ry;exact eq_str (bH I q qf)
  | _=>exact absurd (show false=true from hs) QG
 | byt i =>
  obtain ⟨t,rfl⟩:=rx
  cases y with
  | byt j=>obtain ⟨t',rfl⟩:=ry;exact PySem.W.eq_bytes (bH I q qg)
  | _=>exact absurd (show false=true from hs) QG
 | _=>cases y<;>exact absurd (show false=true from hs) QG
theorem fZ:bD X (compareOp .NotEq) xv:=by
 intro Df s σ H x y v u Q I rx ry h
 obtain ⟨hs,q⟩:=h
 cases x with
 | non =>
  cases rx
  cases y with
  | non=>cases ry;exact PySem.EqNone.ne_none_none (bH I q (by simp))
  | bl j=>cases ry;exact PySem.EqNone.ne_none_bool (bH I q (by simp))
  | int j=>obtain ⟨t',rfl⟩:=ry;exact PySem.EqNone.ne_none_int (bH I q (by simp))
  | str j=>obtain ⟨t',rfl⟩:=ry;exact PySem.EqNone.ne_none_str (bH I q (by simp))
  | _=>exact absurd (show false=true from hs) QG
 | bl i =>
  cases rx
  cases y with
  | non=>cases ry;exact PySem.EqNone.ne_bool_none (bH I q (by simp))
  | bl j=>cases ry;exact ne_bool (bH I q (congrArg not qe))
  | str j=>obtain ⟨t',rfl⟩:=ry;exact PySem.EqMixed.ne_bool_str (bH I q (by simp))
  | _=>exact absurd (show false=true from hs) QG
 | int i =>
  obtain ⟨t,rfl⟩:=rx
  cases y with
  | non=>cases ry;exact PySem.EqNone.ne_int_none (bH I q (by simp))
  | int j=>obtain ⟨t',rfl⟩:=ry;exact ne_int (bH I q (congrArg not jt))
  | str j=>obtain ⟨t',rfl⟩:=ry;exact PySem.EqMixed.ne_int_str (bH I q (by simp))
  | _=>exact absurd (show false=true from hs) QG
 | str i =>
  obtain ⟨t,rfl⟩:=rx
  cases y with
  | non=>cases ry;exact PySem.EqNone.ne_str_none (bH I q (by simp))
  | bl j=>cases ry;exact PySem.EqMixed.ne_str_bool (bH I q (by simp))
  | int j=>obtain ⟨t',rfl⟩:=ry;exact PySem.EqMixed.ne_str_int (bH I q (by simp))
  | str j=>obtain ⟨t',rfl⟩:=ry;exact ne_str (bH I q (congrArg not qf))
  | _=>exact absurd (show false=true from hs) QG
 | byt i =>
  obtain ⟨t,rfl⟩:=rx
  cases y with
  | byt j=>obtain ⟨t',rfl⟩:=ry;exact PySem.W.ne_bytes (bH I q (congrArg not qg))
  | _=>exact absurd (show false=true from hs) QG
 | _=>cases y<;>exact absurd (show false=true from hs) QG
theorem iq:bD X (compareOp .Lt) (eL fun i j=>.bl (decide (i<j))):=mK fun _ _ _ _ _ _ _ q=>lt_int q
theorem xw:bD X (compareOp .LtE) (eL fun i j=>.bl (decide (i<=j))):=mK fun _ _ _ _ _ _ _ q=>le_int q
theorem kE:bD X (compareOp .Gt) (eL fun i j=>.bl (decide (j<i))):=mK fun _ _ _ _ _ _ _ q=>gt_int q
theorem aR (b:Expr) {op:CmpOp} (h:op≠.In:=by decide) (h2:op≠.NotIn:=by decide):behindInMarks op b=false:=by
 have e1:(op == CmpOp.In)=false:=by cases op<;>first | rfl | exact absurd rfl h
 have e2:(op == CmpOp.NotIn)=false:=by cases op<;>first | rfl | exact absurd rfl h2
 cases b<;>simp [behindInMarks,e1,e2]
def xx (t:TE):TT:=fun σ H Q=>t σ H (eJ Q)
theorem aM {op:CmpOp} {r:R2} (ho:bD X (compareOp op) r) (ha:PE X a ta) (hb:PE X b tb) (hm:behindInMarks op b=false):PT X (.Compare a [op] [b] pos) (xx (mJ r ta tb)):=by
 intro Df s σ H Q I h
 refine wpAny_isTrue_Compare1 (aE (ha Df s σ H _ I h) fun v s1 ⟨x,H1,I1,r1,q1⟩=>aE (hb Df s1 σ H1 _ I1 q1) fun u s2 ⟨y,H2,I2,r2,q2⟩ =>
  aE (ho Df s2 σ H2 x y v u _ I2 r1 r2 q2) fun c s3 ⟨z,H3,I3,r3,k,e,q3⟩=>?_) hm
 subst e
 cases r3
 exact wpAny_truthy_bool ⟨H3,I3,q3⟩
theorem ju:(sizeLine:Nat)<2 ^ 63:=by rw [sizeLine_eq];decide
theorem mN:bD X (binaryOp .Add) (fun x y H Q=>∃ i j,x=.str i/\y=.str j/\i.length+j.length<=sizeLine/\Q (.str (i++j)) H):=by
 intro Df s σ H x y v u Q I rx ry h
 obtain ⟨i,j,rfl,rfl,hz,q⟩:=h
 obtain ⟨t,rfl⟩:=rx
 obtain ⟨t',rfl⟩:=ry
 exact add_str (fun t' tk=>⟨.str (i++j),H,I.tok _,⟨_,rfl⟩,q⟩) hz
theorem vals1 {x:V} {us:List Value} (r:ap [x] us):∃ u,us=[u]/\RelV x u:=by
 cases r with
 | cons r1 r2=>cases r2;exact ⟨_,rfl,r1⟩
theorem vals2 {x y:V} {us:List Value} (r:ap [x,y] us):∃ u w',us=[u,w']/\RelV x u/\RelV y w':=by
 cases r with
 | cons r1 r2 =>
  cases r2 with
  | cons r3 r4=>cases r4;exact ⟨_,_,rfl,r1,r3⟩
end
structure gL (h:Heap) (x dx C:Addr) (mA:Str->Option Value):Prop where
 obj:h.get? x=some (PySem.W.instObj C dx)
 ns:h.Ns1 dx mA
 ne:dx≠x
theorem xy {h:Heap} {dx:Addr} {mA:Str->Option Value} (n:h.Ns1 dx mA):∃ od,h.get? dx=some od/\∀ name,PySem.W.lookIn name od=some (mA name):=by
 obtain ⟨o,es,ep,ho,hd,hk,_,hm⟩:=n
 refine ⟨o,ho,fun name=>?_⟩
 have e:=hm name
 unfold nsFind findBy at e
 rw [<- Array.find?_toList] at e
 unfold PySem.W.lookIn
 rw [hd]
 dsimp only
 split
 ·rename_i y q
  rw [q] at e
  exact congrArg some e
 ·rename_i q
  rw [q] at e
  have a:es.toList.any (·.refKey)=false:=by
   rw [List.any_eq_false]
   intro y hy
   obtain ⟨z,t,hkey⟩:=hk y (Array.mem_toList_iff.mp hy)
   simp [DictEntry.refKey,hkey]
  have a':¬ es.toList.any (·.refKey)=true:=by rw [a];exact QG
  rw [if_neg a']
  exact congrArg some e
theorem gL.look {h:Heap} {x dx C:Addr} {mA:Str->Option Value} (I:gL h x dx C mA):∃ od,PySem.W.InstAt h x (PySem.W.instObj C dx) C (some od)/\∀ name,PySem.W.lookIn name od=some (mA name) :=
 let ⟨od,ho,hl⟩:=xy I.ns
 ⟨od,⟨I.obj,rfl,rfl,ho⟩,hl⟩
section
variable {prog:Program} {w:World} {A:Around} {E:Value->Shared->Prop} {s:Shared} {K:PySem.W.Frag} {x dx C f:Addr} {mA:Str->Option Value} {name:Str} {v:Value}
theorem xz {expr:Bool} {Q:Value->Shared->Prop} (X:K.In s.heap) (I:gL s.heap x dx C mA) (hg:PySem.W.plainGet K C name=true) (hh:PySem.W.hasDictIn K C=true)
  (ha:PySem.W.findIn K (.ref C) name=some none) (hv:mA name=some v) (hv':PySem.W.handedIn v=true) (h:Q v { s with toks:=s.toks+1 }) :
  wpAny (model prog w) A (getAttr (.ref x) name expr) Q E s:=by
 obtain ⟨od,J,hl⟩:=I.look
 exact PySem.W.get_value X J (PySem.W.plainGet_of hg).1 (PySem.W.findObj_own hh ha rfl (by rw [hl,hv])) hv' h
theorem xA {pl:Sem Bool} {Q:Value × List Value->Shared->Prop} (X:K.In s.heap) (I:gL s.heap x dx C mA) (hg:PySem.W.plainGet K C name=true)
  (hf:PySem.W.findIn K (.ref C) name=some (some (.ref f))) (ht:PySem.W.isFn K (.ref f)=true) (hv:mA name=none) (h:Q (.ref f,[.ref x]) s) :
  wpAny (model prog w) A (getMethod (.ref x) name pl) Q E s:=by
 obtain ⟨od,J,hl⟩:=I.look
 exact PySem.W.method_fn X J (PySem.W.plainGet_of hg).1 (PySem.W.plainGet_of hg).2 hf (beq_iff_eq.mp ht) (by show (PySem.W.lookIn name od).map (·.isSome)=some false;rw [hl,hv];rfl) h
theorem xB {ns:List Str} {Q:Unit->Shared->Prop} (X:K.In s.heap) (I:gL s.heap x dx C mA)
  (hs:PySem.W.findIn K (.ref C) "__setattr__"=some (some (.builtin "object.__setattr__"))) (hp:PySem.W.plainOver K C=true) (ht:PySem.W.takerIn K C name=some none) (hh:PySem.W.hasDictIn K C=true)
  (hw:PySem.Within mA ns) (hsz:ns.length<=sizeLine)
  (h:∀ h',gL h' x dx C (fun y=>if y=name then some v else mA y)->Heap.SameBut dx s.heap h'->Q () { s with heap:=h',toks:=s.toks+2 }) :
  wpAny (model prog w) A (setAttr (.ref x) name v) Q E s:=by
 obtain ⟨od,J,hl⟩:=I.look
 refine PySem.W.set_plain X J hs (PySem.W.osa_open (s:={ s with toks:=s.toks+1 }) (r:=none) X J hp ht fun b=>?_)
 obtain ⟨cd,hc,hd'⟩:=PySem.W.any_some hh
 have hx:s.heap.get? x=some ⟨.ref C,some dx,.plain,#[]⟩:=I.obj
 refine Qb (Qk (Qb (Qb (wpAny_loadPart hx (Qb (PySem.W.Looks.here (s:={ s with toks:=s.toks+1 }) (PySem.W.looks_clsIn X hc) ?_))))))
 rw [hd']
 refine Qk (a:=some dx) (Qb (Qk (Qb ?_)))
 refine wpAny_nsSet1 (s:={ s with toks:=s.toks+1 }) I.ns fun h' hn2 DH=>?_
 obtain ⟨oD,esD,epD,hoD,hdD,hcD⟩:=hn2.count (PySem.Within.cons name v hw)
 refine Qb (wpAny_lookBehind hoD (by rw [hdD];exact pastItsLine_dict (QC hcD (by rw [QR];lia))) ?_)
 exact Qk (h _ ⟨(DH.2 _ (Ne.symm I.ne)).trans I.obj,hn2,I.ne⟩ DH)
theorem xC {R:Result->Shared->Prop} {vs:List Value} {kw:List (Str × Value)} (X:K.In s.heap) (hm:PySem.W.makesIn K C=true)
  (hi:PySem.W.findIn K (.ref C) "__init__"=some (some (.ref f))) (hf:PySem.W.typeIn K (.ref f)=some (.type "function"))
  (h:codeAny (model prog w) (A.under (.builtin "type.__call__" ⟨.ref C::vs,kw⟩)) (.call (.ref f) ⟨.ref (s.heap.objs.size+1)::vs,kw⟩) (PySem.W.InitBack (s.heap.objs.size+1) R)
   { s with heap:=(s.heap.push PySem.W.emptyDict).push (PySem.W.instObj C s.heap.objs.size) }) :
  codeAny (model prog w) A (.call (.ref C) ⟨vs,kw⟩) R s:=by
 obtain ⟨hh,g,d,t,os⟩:=s
 exact PySem.W.make_core (PySem.W.makes_of X hm) (PySem.W.looks_findIn X hi) (fun self=>PySem.W.bind_fn X self hf) (.inl rfl) h
end
noncomputable def cV (f:Str) (v:V):List (Str × V)->List (Str × V)
 | []=>[(f,v)]
 | (g,x)::r=>if g=f then (g,v)::r else (g,x)::cV f v r
theorem qh (f g:Str) (v:V):∀ fs:List (Str × V),(cV f v fs).lookup g=if g=f then some v else fs.lookup g
 | []=>by
  show List.lookup g [(f,v)]=_
  by_cases h:g=f
  ·have hb:(g == f)=true:=beq_iff_eq.mpr h
   simp only [List.lookup,hb,if_pos h]
  ·have hb:(g == f)=false:=beq_eq_false_iff_ne.mpr h
   simp only [List.lookup,hb,if_neg h]
 | (k,x)::r=>by
  have ih:=qh f g v r
  rw [show cV f v ((k,x)::r)=(if k=f then (k,v)::r else (k,x)::cV f v r) from rfl]
  by_cases hk:k=f
  ·rw [if_pos hk]
   by_cases h:g=k
   ·have hb:(g == k)=true:=beq_iff_eq.mpr h
    simp only [List.lookup,hb,if_pos (h.trans hk)]
   ·have hb:(g == k)=false:=beq_eq_false_iff_ne.mpr h
    simp only [List.lookup,hb,if_neg (fun e:g=f=>h (e.trans hk.symm))]
  ·rw [if_neg hk]
   by_cases h:g=k
   ·have hb:(g == k)=true:=beq_iff_eq.mpr h
    simp only [List.lookup,hb,if_neg (fun e:g=f=>hk (h.symm.trans e))]
   ·have hb:(g == k)=false:=beq_eq_false_iff_ne.mpr h
    simp only [List.lookup,hb]
    exact ih
theorem mO (f:Str) (v:V):∀ fs:List (Str × V),f∈(cV f v fs).map (·.1)/\∀ g,g∈fs.map (·.1)->g∈(cV f v fs).map (·.1)
 | []=>⟨by simp [cV],fun g h=>by simp at h⟩
 | (k,x)::r=>by
  obtain ⟨i1,i2⟩:=mO f v r
  rw [show cV f v ((k,x)::r)=(if k=f then (k,v)::r else (k,x)::cV f v r) from rfl]
  by_cases hk:k=f
  ·rw [if_pos hk]
   subst hk
   exact ⟨by simp,fun g h=>by simpa using h⟩
  ·rw [if_neg hk]
   refine ⟨?_,fun g h=>?_⟩
   ·rw [List.map_cons]
    exact Qy _ i1
   ·rw [List.map_cons] at h ⊢
    rcases Qn h with e | e
    ·exact List.mem_cons.mpr (.inl e)
    ·exact Qy _ (i2 g e)
theorem qi (f:Str) (v:V):∀ fs:List (Str × V),(cV f v fs).length<=fs.length+1
 | []=>by simp [cV]
 | (k,x)::r=>by
  have ih:=qi f v r
  rw [show cV f v ((k,x)::r)=(if k=f then (k,v)::r else (k,x)::cV f v r) from rfl]
  by_cases hk:k=f
  ·rw [if_pos hk,QR,QR];lia
  ·rw [if_neg hk,QR,QR];lia
theorem cC.some_of {v:V} {o:Option Value} (r:cC (some v) o):∃ u,o=some u/\RelV v u:=by
 cases o with
 | none=>exact (show False from r).elim
 | some u=>exact ⟨u,rfl,r⟩
theorem cC.none_of {o:Option Value} (r:cC none o):o=none:=by
 cases o with
 | none=>rfl
 | some u=>exact (show False from r).elim
theorem xD {v:V} {u:Value} (r:RelV v u):PySem.W.handedIn u=true:=by
 cases v with
 | non=>cases (show u=Value.none from r);rfl
 | bl b=>cases (show u=Value.bool b from r);rfl
 | int i=>obtain ⟨t,e⟩:=(show ∃ t,u=Value.int i t from r);cases e;rfl
 | str x=>obtain ⟨t,e⟩:=(show ∃ t,u=Value.str x t from r);cases e;rfl
 | byt b=>obtain ⟨t,e⟩:=(show ∃ t,u=Value.bytes b t from r);cases e;rfl
 | flt b=>obtain ⟨t,e⟩:=(show ∃ t,u=Value.float b t from r);cases e;rfl
 | ref a=>cases (show u=Value.ref a from r);rfl
 | ty n=>cases (show u=Value.type n from r);rfl
section
variable {P:Program} {w:World} {H H':Hp} {h h':Heap} {a C dx:Addr} {fs fs':List (Str × V)}
theorem kF (hok:bq P w H h) (e:H a=some (.ins C dx fs)):∃ mA,gL h a dx C mA/\(∀ f,cC (fs.lookup f) (mA f))/\PySem.Within mA (fs.map (·.1))/\fs.length<=1000/\H dx=some (.own a):=by
 obtain ⟨d,z,ne,ob,mA,n,r,q⟩:=(show bC P w H h a (.ins C dx fs) from hok a _ e)
 exact ⟨mA,⟨ob,n,ne⟩,r,q,z,d⟩
end
structure fk (K:PySem.W.Frag) (C:Addr):Prop where
 pg:PySem.W.plainGet K C Str.empty=true
 hd:PySem.W.hasDictIn K C=true
 po:PySem.W.plainOver K C=true
 sa:PySem.W.findIn K (.ref C) "__setattr__"=some (some (.builtin "object.__setattr__"))
theorem fk.get {K:PySem.W.Frag} {C:Addr} (c:fk K C) (f:Str):PySem.W.plainGet K C f=true:=c.pg
def f6 (K:PySem.W.Frag) (C:Addr) (f:Str):Prop:=PySem.W.findIn K (.ref C) f=some none
theorem f6.taker {K:PySem.W.Frag} {C:Addr} {f:Str} (n:f6 K C f):PySem.W.takerIn K C f=some none:=by
 unfold PySem.W.takerIn
 rw [show PySem.W.findIn K (.ref C) f=some none from n]
 rfl
structure fM (K:PySem.W.Frag) (C:Addr) (m:Str) (f:Addr):Prop where
 at_:PySem.W.findIn K (.ref C) m=some (some (.ref f))
 fn:PySem.W.isFn K (.ref f)=true
 kp:PySem.W.keepIn K (.ref f)=true
section
variable {X:Cx} {Df:List (Addr × Obj)} {σ:St} {H:Hp} {s:Shared} {a C dx:Addr} {fs:List (Str × V)} {f:Str} {v:V} {A:Around} {E:Value->Shared->Prop}
theorem xE {b:Bool} {Q:Value->Shared->Prop} (I:Inv X Df σ H s) (e:H a=some (.ins C dx fs)) (c:fk X.K C) (n:f6 X.K C f) (l:fs.lookup f=some v)
  (h:∀ u s',Inv X Df σ H s'->RelV v u->Q u s'):wpAny (model X.prog X.w) A (getAttr (.ref a) f b) Q E s:=by
 obtain ⟨mA,O,r,_,_,_⟩:=kF I.hok e
 obtain ⟨u,hu,ru⟩:=cC.some_of (v:=v) (o:=mA f) (by rw [<- l];exact r f)
 exact xz I.kIn O (c.get f) c.hd n hu (xD ru) (h u _ (I.tok _) ru)
theorem xF {m:Str} {g:Addr} {pl:Sem Bool} {Q:Value × List Value->Shared->Prop} (I:Inv X Df σ H s) (e:H a=some (.ins C dx fs)) (c:fk X.K C) (k:fM X.K C m g) (l:fs.lookup m=none)
  (h:Q (.ref g,[.ref a]) s):wpAny (model X.prog X.w) A (getMethod (.ref a) m pl) Q E s:=by
 obtain ⟨mA,O,r,_,_,_⟩:=kF I.hok e
 have hn:mA m=none:=cC.none_of (by rw [<- l];exact r m)
 exact xA I.kIn O (c.get m) k.at_ k.fn hn h
theorem xG {y:V} {u:Value} {Q:Unit->Shared->Prop} (I:Inv X Df σ H s) (e:H a=some (.ins C dx fs)) (c:fk X.K C) (n:f6 X.K C f) (hl:fs.length<1000) (ry:RelV y u)
  (h:∀ s',Inv X Df σ (upd H a (.ins C dx (cV f y fs))) s'->Q () s'):wpAny (model X.prog X.w) A (setAttr (.ref a) f u) Q E s:=by
 obtain ⟨mA,O,r,wi,_,ho⟩:=kF I.hok e
 have hz:(fs.map (·.1)).length<=sizeLine:=by rw [Qd,sizeLine_eq];lia
 refine xB I.kIn O c.sa c.po n.taker c.hd wi hz fun h' O' sb=>h _ ?_
 have hd:∃ o,h'.get? dx=some o:=by obtain ⟨o,_,_,e',_⟩:=O'.ns;exact ⟨o,e'⟩
 refine I.write (x:=a) (e:=dx) (by rw [e];exact True.intro) (.inr ho) (fun b q hb z=>(sb.2 b hb).trans z) hd ?_
 refine ⟨by rw [al O.ne];exact ho,?_,O.ne,O'.obj,_,O'.ns,fun g=>?_,fun g hg=>?_⟩
 ·have:=qi f y fs;lia
 ·show cC ((cV f y fs).lookup g) (if g=f then some u else mA g)
  rw [qh]
  by_cases q:g=f
  ·rw [if_pos q,if_pos q];exact ry
  ·rw [if_neg q,if_neg q];exact r g
 ·by_cases q:g=f
  ·rw [q];exact (mO f y fs).1
  ·refine (mO f y fs).2 g (wi g fun z=>hg ?_)
   show (if g=f then some u else mA g)=none
   rw [if_neg q];exact z
theorem Inv.made (I:Inv X Df σ H s):Inv X Df σ (upd (upd H s.heap.objs.size (.own (s.heap.objs.size+1))) (s.heap.objs.size+1) (.ins C s.heap.objs.size []))
  { s with heap:=(s.heap.push PySem.W.emptyDict).push (PySem.W.instObj C s.heap.objs.size) }:=by
 have e1:(s.heap.push PySem.W.emptyDict).get? s.heap.objs.size=some PySem.W.emptyDict:=Qz s.heap rfl
 have e2:((s.heap.push PySem.W.emptyDict).push (PySem.W.instObj C s.heap.objs.size)).get? (s.heap.objs.size+1)=some (PySem.W.instObj C s.heap.objs.size):=by
  have:=Qz (s.heap.push PySem.W.emptyDict) (o:=PySem.W.instObj C s.heap.objs.size) rfl
  rwa [Heap.size_push] at this
 have e3:(s.heap.push PySem.W.emptyDict).Ns s.heap.objs.size (fun _=>none):=⟨PySem.W.emptyDict,#[],_,e1,rfl,(fun e he=>absurd he (by simp)),fun _=>rfl⟩
 have I1:=I.laid (a:=s.heap.objs.size) (o:=.own (s.heap.objs.size+1)) (h':=s.heap.push PySem.W.emptyDict) (t':=s.toks) (fun b u q=>Qg _ q) (Qf _) ⟨_,e1⟩
 refine I1.laid (a:=s.heap.objs.size+1) (o:=.ins C s.heap.objs.size []) (t':=s.toks) (fun b u q=>Qg _ q) (Nat.le_of_eq (Heap.size_push _ _)) ?_
 have ne:s.heap.objs.size≠s.heap.objs.size+1:=QB (Nat.lt_succ_self _)
 refine ⟨by rw [al ne,ai],Qu _,ne,e2,fun _=>none,(Heap.Ns1.of_empty e3).at fun o q=>Qg _ q,fun _=>True.intro,fun y hy=>absurd rfl hy⟩
theorem xH {prog:Program} {w:World} {env:Env} {e:Expr} {f:Str} {pos:Pos} {s:Shared} {Q:Value->Shared->Prop} (hb:attributeBase e f env (eval e env)=eval e env)
  (h:wpAny (model prog w) A (eval e env) (fun o s₁=>wpAny (model prog w) A (getAttr o f true) Q E s₁) E s):wpAny (model prog w) A (eval (.Attribute e f pos) env) Q E s :=
 Attribute_any_ h (by rw [arm_eval_Attribute,hb])
end
inductive qj (K:PySem.W.Frag) (f:Str) (Q:VK) (x:V) (H:Hp):Prop
 | mk:∀ a C dx fs v,x=.ref a->H a=some (.ins C dx fs)->fk K C->f6 K C f->fs.lookup f=some v->Q v H->qj K f Q x H
def xI (K:PySem.W.Frag) (ta:TE) (f:Str):TE:=fun σ H Q=>ta σ H (qj K f Q)
def xJ (K:PySem.W.Frag) (ta tv:TE) (f:Str):TS:=fun D σ H=>tv σ H fun y H1=>ta σ H1 fun x H2=>∃ a C dx fs,x=.ref a/\H2 a=some (.ins C dx fs)/\fk K C/\f6 K C f/\fs.length<1000 /\
 D.nx σ (upd H2 a (.ins C dx (cV f y fs)))
section
variable {X:Cx} {o e value:Expr} {f:Str} {pos Fi GG:Pos} {ta tv:TE}
theorem kG (he:PE X e ta) (hb:attributeBase e f X.env (eval e X.env)=eval e X.env):PE X (.Attribute e f pos) (xI X.K ta f):=by
 intro Df s σ H Q I h
 refine xH hb (aE (he Df s σ H _ I h) fun u s1 hsl23=>?_)
 obtain ⟨x,H1,I1,rx,a,C,dx,fs,v,ex,ea,c,n,l,q⟩:=hsl23
 subst ex
 obtain rfl:u=Value.ref a:=rx
 exact xE I1 ea c n l fun u' s2 I2 ru=>⟨v,H1,I2,ru,q⟩
theorem qk (ha:PE X o ta) (hv:PE X value tv) (hs:swapsWith value (some (.Attribute o f Fi)) pos.line X.env=pure false):PS X (.Assign [.Attribute o f Fi] value pos) (xJ X.K ta tv f):=by
 intro Df s σ H D I h
 refine plainObj_wpAny_Assign_Attribute (aE (hv Df s σ H _ I h) fun u s1 ⟨y,H1,I1,ry,q⟩=>aE (ha Df s1 σ H1 _ I1 q) fun ov s2 hsl24=>?_) hs
 obtain ⟨x,H2,I2,rx,a,C,dx,fs,ex,ea,c,n,l,q2⟩:=hsl24
 subst ex
 obtain rfl:ov=Value.ref a:=rx
 exact xG I2 ea c n l ry fun s3 I3=>⟨σ,_,I3,q2⟩
end
section
variable {X:Cx} {Df:List (Addr × Obj)} {σ:St} {H:Hp} {s:Shared} {A:Around} {E:Value->Shared->Prop} {Q:Value->Shared->Prop} {c:Value} {b:Bool}
inductive cN (K:PySem.W.Frag) (H:Hp):V->Value->Prop where
 | non:cN K H .non (.type "NoneType")
 | bl (x:Bool):cN K H (.bl x) (.type "bool")
 | int (i:Int):cN K H (.int i) (.type "int")
 | str (x:Str):cN K H (.str x) (.type "str")
 | flt (x:UInt64):cN K H (.flt x) (.type "float")
 | lst {a:Addr} {xs:List V} (e:H a=some (.lst xs)):cN K H (.ref a) (.type "list")
 | frz {a:Addr} {o:Obj} {xs:List V} (e:H a=some (.frz o (.lst xs))):cN K H (.ref a) (.type "list")
 | tup {a:Addr} {xs:List V} (e:H a=some (.tup xs)):cN K H (.ref a) (.type "tuple")
 | dK {a:Addr} {Di:List (ae × V)} (e:H a=some (.dK Di)):cN K H (.ref a) (.type "dict")
 | dT {a:Addr} {Di:List (List ae × V)} (e:H a=some (.dT Di)):cN K H (.ref a) (.type "dict")
 | ins {a C dx:Addr} {fs:List (Str × V)} (e:H a=some (.ins C dx fs)) (cl:fk K C) (ha:PySem.W.findIn K (.ref C) "__class__"=some (some (.builtin "object.__class__")))
   (hn:PySem.W.specialIn K (.builtin "object.__class__") "__get__"=some (some (.builtin "getset_descriptor.__get__"))) (Fw:PySem.W.takesIn K (.builtin "object.__class__")=some true)
   (hm:PySem.W.mroIn K C (.type "object")=some true):cN K H (.ref a) (.ref C)
theorem xK {x:V} {u t:Value} (I:Inv X Df σ H s) (rx:RelV x u) (ty:cN X.K H x t) (e:PySem.W.kitOne X.K t c=some b) (h:∀ tk,Q (.bool b) { s with toks:=tk }) :
  wpAny (model X.prog X.w) A (call (.builtin "isinstance") [u,c]) Q E s:=by
 cases ty with
 | non=>cases (show u=Value.none from rx);exact PySem.W.kia_one PySem.W.kitx_none I.kIn True.intro e (fun z=>nomatch z) h
 | bl y=>cases (show u=Value.bool y from rx);exact PySem.W.kia_one PySem.W.kitx_bool I.kIn True.intro e (fun z=>nomatch z) h
 | int i=>obtain ⟨t,q⟩:=(show ∃ t,u=Value.int i t from rx);cases q;exact PySem.W.kia_one PySem.W.kitx_int I.kIn True.intro e (fun z=>nomatch z) h
 | str y=>obtain ⟨t,q⟩:=(show ∃ t,u=Value.str y t from rx);cases q;exact PySem.W.kia_one PySem.W.kitx_str I.kIn True.intro e (fun z=>nomatch z) h
 | flt y=>obtain ⟨t,q⟩:=(show ∃ t,u=Value.float y t from rx);cases q;exact PySem.W.kia_one PySem.W.kitx_float I.kIn True.intro e (fun z=>nomatch z) h
 | @lst a xs ea =>
  cases (show u=Value.ref a from rx)
  obtain ⟨_,_,n,_,h1⟩:=(show bC X.prog X.w H s.heap a (.lst xs) from I.hok a _ ea)
  exact PySem.W.kia_one PySem.W.kitx_list I.kIn ⟨_,h1,rfl⟩ e (fun z=>nomatch z) h
 | @frz a ob xs ea =>
  cases (show u=Value.ref a from rx)
  obtain ⟨_,_,_,n,_,h1⟩:=(show bC X.prog X.w H s.heap a (.frz ob (.lst xs)) from I.hok a _ ea)
  exact PySem.W.kia_one PySem.W.kitx_list I.kIn ⟨_,h1,rfl⟩ e (fun z=>nomatch z) h
 | @tup a xs ea =>
  cases (show u=Value.ref a from rx)
  obtain ⟨_,_,_,p,_⟩:=(show bC X.prog X.w H s.heap a (.tup xs) from I.hok a _ ea)
  obtain ⟨o,h1,h2,_⟩:=p
  exact PySem.W.kia_one PySem.W.kitx_tuple I.kIn ⟨o,h1,h2⟩ e (fun z=>nomatch z) h
 | @dK a Di ea =>
  cases (show u=Value.ref a from rx)
  obtain ⟨_,_,vs,_,p⟩:=(show bC X.prog X.w H s.heap a (.dK Di) from I.hok a _ ea)
  obtain ⟨o,es,ep,h1,h2,_⟩:=p
  exact PySem.W.kia_one PySem.W.kitx_dict I.kIn ⟨o,h1,h2.1⟩ e (fun z=>nomatch z) h
 | @dT a Di ea =>
  cases (show u=Value.ref a from rx)
  obtain ⟨_,_,xs,_,o,es,ep,h1,h2,_⟩:=(show bC X.prog X.w H s.heap a (.dT Di) from I.hok a _ ea)
  exact PySem.W.kia_one PySem.W.kitx_dict I.kIn ⟨o,h1,h2.1⟩ e (fun z=>nomatch z) h
 | @ins a C dx fs ea cl ha hn Fw hm =>
  cases (show u=Value.ref a from rx)
  obtain ⟨mA,O,_⟩:=kF I.hok ea
  obtain ⟨od,J,_⟩:=O.look
  exact PySem.W.kia_one (PySem.W.kitx_own (cl.get _) cl.hd ha hn Fw hm) I.kIn J e (fun z=>nomatch z) h
end
structure ay (k:Nat) (A:Around):Prop where
 hd:A.handled=none
 dp:A.depth+3*k+5<recursionLimit
 un:A.units+16*k+200<cLine
theorem ay.mono {j k:Nat} {A:Around} (r:ay k A) (h:j<=k):ay j A:=⟨r.hd,by have:=r.dp;lia,by have:=r.un;lia⟩
theorem ay.deeper {k:Nat} {A:Around} (r:ay (k+1) A) (env:Env):ay k (A.deeper env) :=
 ⟨r.hd,by have:=r.dp;show A.depth+1+3*k+5<_;lia,by have:=r.un;show A.units+3+16*k+200<_;lia⟩
theorem ay.in1 {k:Nat} {A:Around} (r:ay (k+1) A):ay k A.in1 :=
 ⟨r.hd,by have:=r.dp;show A.depth+3*k+5<_;lia,by have:=r.un;show A.units+1+16*k+200<_;lia⟩
theorem xL {A:Around} {C:Addr} {us:List Value} {kw:List (Str × Value)}:(A.under (.builtin "type.__call__" ⟨.ref C::us,kw⟩)).depth=A.depth+1:=by
 first | rfl | simp [Around.under,Code.weight,Code.isCreation,Code.isGuard,Code.isCaller,Code.frames,Code.isFrame,guardIds]
theorem xM {A:Around} {C:Addr} {us:List Value} {kw:List (Str × Value)}:(A.under (.builtin "type.__call__" ⟨.ref C::us,kw⟩)).units=A.units+1:=by
 first | rfl | simp [Around.under,Code.cUnits,Code.frames,Code.isFrame]
theorem ay.make {k:Nat} {A:Around} (r:ay (k+1) A) (C:Addr) (us:List Value) (kw:List (Str × Value)):ay k (A.under (.builtin "type.__call__" ⟨.ref C::us,kw⟩)) :=
 ⟨r.hd,by have:=r.dp;rw [xL];omega,by have:=r.un;rw [xM];omega⟩
theorem ay.depth {k:Nat} {A:Around} (r:ay k A):A.depth<recursionLimit:=by have:=r.dp;omega
theorem ay.units {k:Nat} {A:Around} (r:ay k A):A.units+64<cLine:=by have:=r.un;lia
def ql:TA:=fun _ H Q=>Q [] H
def qm (ta:TE) (tr:TA):TA:=fun σ H Q=>ta σ H fun x H1=>tr σ H1 fun xs H2=>Q (x::xs) H2
section
variable {X:Cx} {e:Expr} {es:List Expr} {te:TE} {t:TA} {pos:Pos}
theorem ag:PA X [] ql:=fun _ _ _ _ H Q I h=>Calls.spliced_nil ⟨[],H,I,.nil,h⟩
theorem aa (ha:PE X e te) (hr:PA X es t) (hs:starEach (e::es) X.env=(false,eval e X.env)::starEach es X.env:=by rfl):PA X (e::es) (qm te t):=by
 intro pos Df s σ H Q I h
 rw [hs]
 show wpAny _ _ (spliced ((false,eval e X.env)::backTo pos (starEach es X.env))) _ _ s
 refine Calls.spliced_cons (aE (ha Df s σ H _ I h) fun u s1 hsl26=>?_)
 obtain ⟨x,H1,I1,r1,q1⟩:=hsl26
 exact aE (hr pos Df s1 σ H1 _ I1 q1) fun us s2 hsl27=>by obtain ⟨xs,H2,I2,r2,q2⟩:=hsl27;exact ⟨x::xs,H2,I2,.cons r1 r2,q2⟩
def xN (t:TA):TE:=fun σ H Q=>t σ H fun xs H1=>xs.length<=sizeLine/\∀ p,H1 p=none->Q (.ref p) (upd H1 p (.tup xs))
def xO (t:TA):TE:=fun σ H Q=>t σ H fun xs H1=>xs.length<=sizeLine/\∀ p,H1 p=none->Q (.ref p) (upd H1 p (.lst xs))
theorem aV {x1} (h:PA X es t):PE X (.Tuple es x1 pos) (xN t):=by
 intro Df s σ H Q I hq
 refine wpAny_Tuple_spliced (aE (h pos Df s σ H _ I hq) fun us s1 ⟨xs,H1,I1,r,z,q⟩=>⟨by rw [<- r.length];exact z,?_⟩)
 have hf:H1 s1.heap.objs.size=none:=I1.hok.fresh (Qf _)
 refine ⟨.ref s1.heap.objs.size,upd H1 s1.heap.objs.size (.tup xs),I1.laid (t':=s1.toks) (fun b u e=>Qg _ e) (Qf _) ?_,rfl,q _ hf⟩
 exact ⟨z,us,r,⟨_,Qz _ rfl,rfl,_,rfl⟩,_,Qz _ rfl,rfl⟩
theorem bW (h:PA X es t):PE X (.List es pos) (xO t):=by
 intro Df s σ H Q I hq
 refine wpAny_List_spliced (aE (h pos Df s σ H _ I hq) fun us s1 ⟨xs,H1,I1,r,z,q⟩=>⟨by rw [<- r.length];exact z,?_⟩)
 have hf:H1 s1.heap.objs.size=none:=I1.hok.fresh (Qf _)
 refine ⟨.ref s1.heap.objs.size,upd H1 s1.heap.objs.size (.lst xs),I1.laid (t':=s1.toks) (fun b u e=>Qg _ e) (Qf _) ?_,rfl,q _ hf⟩
 exact ⟨z,us,0,r,Qz _ rfl⟩
end
abbrev Sp:=List V->Hp->VK->XK->Prop
abbrev eN:=List Env->Hp->Shared->XK->Value->Shared->Prop
structure dD (P:Program) (w:World) (K:PySem.W.Frag) (mg:Str->Option Value) (base:Heap) (A:Around) (outer:List Env) (s:Shared) (H:Hp):Prop where
 frames:A.frames=some outer
 mod:Mod K mg base
 bs:∀ b o,base.get? b=some o->s.heap.get? b=some o/\H b=none
 bsz:base.objs.size<=s.heap.objs.size
 funs:s.heap.FunFrames base outer
 frf:∀ b∈di outer,H b=none
 hok:bq P w H s.heap
 bare:AllBare s.gens
def CE (outer:List Env) (P:Program) (w:World) (H:Hp) (s:Shared) (Q:VK) (u:Value) (s':Shared):Prop :=
 ∃ v H',s'.os=s.os/\AllBare s'.gens/\Un (di outer) [] H H' s.heap s'.heap/\bq P w H' s'.heap/\RelV v u/\Q v H'
def CR (CX:eN) (outer:List Env) (P:Program) (w:World) (H:Hp) (s:Shared) (Q:VK) (E:XK) (r:Result) (s':Shared):Prop :=
 match r with
 | .ok (.ret u)=>CE outer P w H s Q u s'
 | .ok _=>False
 | .error e=>CX outer H s E e s'
structure aF (P:Program) (w:World) (K:PySem.W.Frag) (mg:Str->Option Value) (base:Heap) (CX:eN) (k:Nat) (f:Addr) (fd:FuncData) (ps:List Str) (sp:Sp):Prop where
 len:∀ vs H Q E,sp vs H Q E->vs.length=ps.length
 run:∀ (A:Around) (outer:List Env) (s:Shared) (H:Hp) (args:Args) (us:List Value) (vs:List V) (Q:VK) (E:XK),ay k A->dD P w K mg base A outer s H->BindsTo s fd args (ps.zip us)->ap vs us->sp vs H Q E ->
  codeAny (model P w) A (.call (.ref f) args) (CR CX outer P w H s Q E) s
theorem dD.make {P:Program} {w:World} {K:PySem.W.Frag} {mg:Str->Option Value} {base:Heap} {A:Around} {outer:List Env} {s:Shared} {H:Hp} (e:dD P w K mg base A outer s H) (C:Addr) (us:List Value) (kw:List (Str × Value)) :
  dD P w K mg base (A.under (.builtin "type.__call__" ⟨.ref C::us,kw⟩)) outer s H:=⟨by first | exact e.frames | (simpa [Around.under,Code.envs,Code.isFrame,pushEnvs] using e.frames),e.mod,e.bs,e.bsz,e.funs,e.frf,e.hok,e.bare⟩
theorem dD.in1 {P:Program} {w:World} {K:PySem.W.Frag} {mg:Str->Option Value} {base:Heap} {A:Around} {outer:List Env} {s:Shared} {H:Hp} (e:dD P w K mg base A outer s H) :
  dD P w K mg base A.in1 outer s H:=⟨e.frames,e.mod,e.bs,e.bsz,e.funs,e.frf,e.hok,e.bare⟩
section
variable {X:Cx} {Df:List (Addr × Obj)} {σ:St} {H:Hp} {s s':Shared}
theorem Inv.env0 (I:Inv X Df σ H s):dD X.prog X.w X.K X.mg X.base X.A X.stack s H :=
 ⟨I.ok.frames,I.ok.mod,I.bs,QC I.ok.bsz I.sz,I.stack,I.stkFree,I.hok,I.bare⟩
theorem Inv.after {Q:VK} {u:Value} (I:Inv X Df σ H s) (h:CE X.stack X.prog X.w H s Q u s'):EP X Df σ Q u s':=by
 obtain ⟨v,H',os,bare,un,hok,r,q⟩:=h
 obtain ⟨hh,g,d,t,D1⟩:=s'
 obtain rfl:D1=s.os:=os
 exact ⟨v,H',I.call (h':=hh) (g':=g) (d':=d) (t':=t) (ch:=[]) un hok bare (fun b z=>absurd z (by simp)),r,q⟩
end
def xP (sp:Sp) (dvs:List V) (E:XK) (t:TA):TE:=fun σ H Q=>t σ H fun vs H1=>sp (vs++dvs) H1 Q E
inductive qo (C:Addr) (m:Str) (sp:Sp) (dvs:List V) (E:XK) (t:TA) (σ:St) (Q:VK) (x:V) (H:Hp):Prop
 | mk:∀ a dx fs,x=.ref a->H a=some (.ins C dx fs)->fs.lookup m=none->(t σ H fun vs H2=>sp (x::(vs++dvs)) H2 Q E)->qo C m sp dvs E t σ Q x H
def xQ (C:Addr) (m:Str) (sp:Sp) (dvs:List V) (E:XK) (ta:TE) (t:TA):TE:=fun σ H Q=>ta σ H (qo C m sp dvs E t σ Q)
def xR (C:Addr) (sp:Sp) (dvs:List V) (E:XK) (t:TA):TE:=fun σ H Q=>t σ H fun vs H1=>∀ x dx,H1 x=none->H1 dx=none->dx≠x ->
 sp (.ref x::(vs++dvs)) (upd (upd H1 dx (.own x)) x (.ins C dx [])) (fun v H2=>v=.non/\Q (.ref x) H2) E
def Binds (K:PySem.W.Frag) (fd:FuncData) (ps:List Str) (ds:List Value):Prop :=
 ∀ (s:Shared) (us:List Value),K.In s.heap->(us++ds).length=ps.length->BindsTo s fd ⟨us,[]⟩ (ps.zip (us++ds))
theorem Binds.all {K:PySem.W.Frag} {fd:FuncData} {ps:List Str} (h:∀ us:List Value,us.length=ps.length->bindArgs fd ⟨us,[]⟩=pure (ps.zip us)):Binds K fd ps []:=fun s us _ hl=>by
 rw [QM] at hl ⊢
 exact .of_eq (h us hl)
def iu (CX:eN) (X:Cx) (E:XK):Prop:=∀ (Df:List (Addr × Obj)) (σ:St) (H:Hp) (s:Shared) (e:Value) (s':Shared),Inv X Df σ H s->CX X.stack H s E e s'->X.xe e s'
section
variable {X:Cx} {CX:eN} {k:Nat} {f C:Addr} {fd:FuncData} {ps:List Str} {sp:Sp} {dvs:List V} {ds:List Value} {E:XK} {x m:Str} {p pos apos:Pos} {e o:Expr} {es:List Expr} {ta:TE} {t:TA}
theorem qp {Df:List (Addr × Obj)} {σ:St} {H:Hp} {s:Shared} {Q:VK} {us:List Value} {vs:List V} (F:aF X.prog X.w X.K X.mg X.base CX k f fd ps sp) (hr:ay k X.A) (hb:Binds X.K fd ps ds) (hd:ap dvs ds) (hx:iu CX X E)
  (I:Inv X Df σ H s) (r:ap vs us) (h:sp (vs++dvs) H Q E):wpAny (model X.prog X.w) X.A (call (.ref f) us) (EP X Df σ Q) X.xe s:=by
 have r2:ap (vs++dvs) (us++ds):=r.append hd
 have hl:(us++ds).length=ps.length:=by rw [<- r2.length];exact F.len _ _ _ _ h
 refine wpAny_call (codeAny_mono (F.run X.A X.stack s H ⟨us,[]⟩ (us++ds) (vs++dvs) Q E hr I.env0 (hb s us I.kIn hl) r2 h) fun r s' hq=>?_)
 cases r with
 | error e=>exact hx Df σ H s e s' I hq
 | ok fl =>
  cases fl with
  | ret u=>exact I.after hq
  | next=>exact False.elim hq
  | brk=>exact False.elim hq
  | cont=>exact False.elim hq
theorem aK (F:aF X.prog X.w X.K X.mg X.base CX k f fd ps sp) (hr:ay k X.A) (hg:Gl X x) (hm:X.mg x=some (.ref f)) (hk:PySem.W.keepIn X.K (.ref f)=true) (hb:Binds X.K fd ps ds) (hd:ap dvs ds) (hx:iu CX X E)
  (ha:PA X (e::es) t) (hdb:(x == ("__debug__":Str))=false:=by decide) (he:starEach (e::es) X.env=(false,eval e X.env)::starEach es X.env:=by rfl) (Er:(backTo pos (starEach es X.env)).any (·.1)=false:=by rfl) :
  PE X (.Call (.Name x p) (e::es) [] pos) (xP sp dvs E t):=by
 intro Df s σ H Q I h
 refine wpAny_Call_Name_kw (ko I hg hm ?_ hdb)
 refine PySem.W.callWith_K (h₀:=X.base) I.ok.mod.kin hk (aE (ha pos Df s σ H _ I h) fun us s1 ⟨vs,H1,I1,r,q⟩=>⟨I1.kIn,?_⟩) he Er
 exact qp F hr hb hd hx I1 r q
theorem cW {pl:Sem Bool} (he:PE X o ta) (c:fk X.K C) (hm:fM X.K C m f) (F:aF X.prog X.w X.K X.mg X.base CX k f fd ps sp) (hr:ay k X.A) (hb:Binds X.K fd ps ds) (hd:ap dvs ds) (hx:iu CX X E) (ha:PA X (e::es) t)
  (hst:starEach (e::es) X.env=(false,eval e X.env)::starEach es X.env:=by rfl) (Er:(backTo pos (starEach es X.env)).any (·.1)=false:=by rfl)
  (ht:eval (.Call (.Attribute o m apos) (e::es) [] pos) X.env=(do
   let ov <- eval o X.env
   standAt apos.atName
   let (f,first) <- holding [ov] (getMethod ov m pl)
   callWith pos f first (backTo pos (starEach (e::es) X.env)) (backToKw pos (keywordEach [] X.env))):=by rfl) :
  PE X (.Call (.Attribute o m apos) (e::es) [] pos) (xQ C m sp dvs E ta t):=by
 intro Df s σ H Q I h
 refine PySem.W.methodCall_KW (pl:=pl) (aE (he Df s σ H _ I h) fun u s1 hsl28=>?_) ht
 obtain ⟨x,H1,I1,rx,a,dx,fs,ex,ea,l,q⟩:=hsl28
 subst ex
 obtain rfl:u=Value.ref a:=rx
 refine xF I1 ea c hm l ?_
 refine PySem.W.callWith_K (first:=[.ref a]) (h₀:=X.base) I.ok.mod.kin hm.kp (aE (ha pos Df s1 σ H1 _ I1 q) fun us s2 ⟨vs,H2,I2,r,q2⟩=>⟨I2.kIn,?_⟩) hst Er
 exact qp (us:=.ref a::us) (vs:=.ref a::vs) F hr hb hd hx I2 (.cons rfl r) q2
structure Mk (K:PySem.W.Frag) (C f:Addr):Prop where
 makes:PySem.W.makesIn K C=true
 init:PySem.W.findIn K (.ref C) "__init__"=some (some (.ref f))
 fn:PySem.W.isFn K (.ref f)=true
 kp:PySem.W.keepIn K (.ref C)=true
theorem xS {Df:List (Addr × Obj)} {σ:St} {H:Hp} {s:Shared} {Q:VK} {us:List Value} {vs:List V} (M:Mk X.K C f) (F:aF X.prog X.w X.K X.mg X.base CX k f fd ps sp) (hr:ay (k+1) X.A) (hb:Binds X.K fd ps ds) (hd:ap dvs ds)
  (hx:iu CX X E) (I:Inv X Df σ H s) (r:ap vs us)
  (h:∀ x dx,H x=none->H dx=none->dx≠x->sp (.ref x::(vs++dvs)) (upd (upd H dx (.own x)) x (.ins C dx [])) (fun v H2=>v=.non/\Q (.ref x) H2) E) :
  wpAny (model X.prog X.w) X.A (call (.ref C) us) (EP X Df σ Q) X.xe s:=by
 have hq:=h (s.heap.objs.size+1) s.heap.objs.size (I.hok.fresh (Nat.le_succ _)) (I.hok.fresh (Qf _)) (QB (Nat.lt_succ_self _))
 have I2:=Inv.made (C:=C) I
 have r2:ap (V.ref (s.heap.objs.size+1)::(vs++dvs)) (Value.ref (s.heap.objs.size+1)::(us++ds)):=.cons rfl (r.append hd)
 have hl:(Value.ref (s.heap.objs.size+1)::us++ds).length=ps.length:=by
  have e:=r2.length
  rw [F.len _ _ _ _ hq] at e
  exact e.symm
 refine wpAny_call (xC (f:=f) I.kIn M.makes M.init (beq_iff_eq.mp M.fn) (codeAny_mono (F.run _ X.stack _ _ ⟨Value.ref (s.heap.objs.size+1)::us,[]⟩ (Value.ref (s.heap.objs.size+1)::(us++ds)) _ _ E (hr.make C us [])
  (I2.env0.make C us []) (hb _ (Value.ref (s.heap.objs.size+1)::us) I2.kIn hl) r2 hq) fun r s' hq'=>?_))
 cases r with
 | error e=>exact hx Df σ _ _ e s' I2 hq'
 | ok fl =>
  cases fl with
  | ret u =>
   obtain ⟨v,H',I3,rv,ev,q3⟩:=I2.after hq'
   subst ev
   exact ⟨rv,⟨V.ref (s.heap.objs.size+1),H',I3,rfl,q3⟩⟩
  | next=>exact False.elim hq'
  | brk=>exact False.elim hq'
  | cont=>exact False.elim hq'
theorem xT (M:Mk X.K C f) (F:aF X.prog X.w X.K X.mg X.base CX k f fd ps sp) (hr:ay (k+1) X.A) (hg:Gl X x) (hm:X.mg x=some (.ref C)) (hb:Binds X.K fd ps ds) (hd:ap dvs ds) (hx:iu CX X E)
  (ha:PA X (e::es) t) (hdb:(x == ("__debug__":Str))=false:=by decide) (he:starEach (e::es) X.env=(false,eval e X.env)::starEach es X.env:=by rfl) (Er:(backTo pos (starEach es X.env)).any (·.1)=false:=by rfl) :
  PE X (.Call (.Name x p) (e::es) [] pos) (xR C sp dvs E t):=by
 intro Df s σ H Q I h
 refine wpAny_Call_Name_kw (ko I hg hm ?_ hdb)
 refine PySem.W.callWith_K (h₀:=X.base) I.ok.mod.kin M.kp (aE (ha pos Df s σ H _ I h) fun us s1 ⟨vs,H1,I1,r,q⟩=>⟨I1.kIn,?_⟩) he Er
 exact xS M F hr hb hd hx I1 r q
end
def PK (X:Cx) (kws:List Keyword) (t:TA):Prop :=
 ∀ (pos:Pos) (Df:List (Addr × Obj)) (s:Shared) (σ:St) (H:Hp) (Q:List V->Hp->Prop),Inv X Df σ H s->t σ H Q->wpAny (model X.prog X.w) X.A (evalAll ((backToKw pos (keywordEach kws X.env)).map (·.2))) (AP X Df σ Q) X.xe s
section
variable {X:Cx} {CX:eN} {k:Nat} {f C:Addr} {fd:FuncData} {ps ks:List Str} {sp:Sp} {E:XK} {x m:Str} {p pos apos kpos:Pos} {e o:Expr} {es:List Expr} {kws:List Keyword} {te ta:TE} {t tk:TA} {nm:Option Str}
theorem qq:PK X [] ql:=fun _ _ _ _ H Q I h=>wpAny_evalAll_nil ⟨[],H,I,.nil,h⟩
theorem qr (ha:PE X e te) (hr:PK X kws t):PK X (⟨nm,e,kpos⟩::kws) (qm te t):=by
 intro pos Df s σ H Q I h
 show wpAny _ _ (evalAll ((do let v <- eval e X.env;standAt pos;pure v)::(backToKw pos (keywordEach kws X.env)).map (·.2))) _ _ s
 refine wpAny_evalAll_cons (Qb (aE (ha Df s σ H _ I h) fun u s1 ⟨x,H1,I1,r1,q1⟩=>Qb (wpAny_standAt (Qk ?_))))
 exact aE (hr pos Df s1 σ H1 _ I1 q1) fun us s2 hsl29=>by obtain ⟨xs,H2,I2,r2,q2⟩:=hsl29;exact ⟨x::xs,H2,I2,.cons r1 r2,q2⟩
variable {g:List Value->List Value->List Value} {gV:List V->List V->List V}
end
structure a7 (N P:List Str) (sc:Scope):Prop where
 kind:sc.kind=.function
 co:sc.isCoroutine=false
 gen:sc.isGenerator=false
 nd:N.Nodup
 pre:N.take P.length=P
 par:∀ x∈P,sc.names.lookup x=some .local∨sc.names.lookup x=some .cell
 nofree:∀ y∈sc.names,y.2≠.free
theorem qt {kindOf:Str->Option NameKind} {x:Str}:∀ {Fm:List (Str × Value)} {m:Str->Option Value},(∀ v,(x,v)∉Fm)->bindL kindOf Fm m x=m x
 | [],_,_=>rfl
 | (n,v)::r,m,h=>by
  unfold bindL
  rw [qt fun w hw=>h w (Qy _ hw)]
  split
  ·have:x≠n:=by rintro rfl;exact h v QF
   simp [this]
  ·rfl
theorem qu {kindOf:Str->Option NameKind} {x:Str}:∀ {Fm:List (Str × Value)} {m:Str->Option Value},(∀ v,(x,v)∉Fm)->bindC kindOf Fm m x=m x
 | [],_,_=>rfl
 | (n,v)::r,m,h=>by
  unfold bindC
  rw [qu fun w hw=>h w (Qy _ hw)]
  split
  ·rfl
  ·have:x≠n:=by rintro rfl;exact h v QF
   simp [this]
theorem qw {kindOf:Str->Option NameKind} {x:Str} {v:Value}:∀ {P:List Str} {vs:List Value} {i:Nat} {m:Str->Option Value},P.Nodup->P[i]?=some x->vs[i]?=some v->kindOf x=some .local ->
  bindL kindOf (P.zip vs) m x=some v
 | [],_,_,_,_,h,_,_=>by simp at h
 | _::_,[],_,_,_,_,h,_=>by simp at h
 | p::P,w::vs,0,m,nd,h1,h2,hk=>by
  simp at h1 h2;subst h1;subst h2
  show bindL kindOf ((p,w)::P.zip vs) m p=_
  unfold bindL
  rw [qt fun v hv=>(List.nodup_cons.mp nd).1 (List.of_mem_zip hv).1,if_pos hk]
  simp
 | p::P,w::vs,i+1,m,nd,h1,h2,hk=>by
  show bindL kindOf ((p,w)::P.zip vs) m x=_
  unfold bindL
  exact qw (i:=i) (List.nodup_cons.mp nd).2 (by simpa using h1) (by simpa using h2) hk
theorem qx {kindOf:Str->Option NameKind} {x:Str} {v:Value}:∀ {P:List Str} {vs:List Value} {i:Nat} {m:Str->Option Value},P.Nodup->P[i]?=some x->vs[i]?=some v->kindOf x≠some .local ->
  bindC kindOf (P.zip vs) m x=some v
 | [],_,_,_,_,h,_,_=>by simp at h
 | _::_,[],_,_,_,_,h,_=>by simp at h
 | p::P,w::vs,0,m,nd,h1,h2,hk=>by
  simp at h1 h2;subst h1;subst h2
  show bindC kindOf ((p,w)::P.zip vs) m p=_
  unfold bindC
  rw [qu fun v hv=>(List.nodup_cons.mp nd).1 (List.of_mem_zip hv).1,if_neg hk]
  simp
 | p::P,w::vs,i+1,m,nd,h1,h2,hk=>by
  show bindC kindOf ((p,w)::P.zip vs) m x=_
  unfold bindC
  exact qx (i:=i) (List.nodup_cons.mp nd).2 (by simpa using h1) (by simpa using h2) hk
noncomputable def start (N:List Str) (vs:List V):St:=vs.map some++List.replicate (N.length-vs.length) none
noncomputable def iw (CX:eN) (P:Program) (w:World) (K:PySem.W.Frag) (mg:Str->Option Value) (base:Heap) (N:List Str) (qual:Str) (scope:Scope) (f:Addr) (cd:Value) (A:Around) (outer:List Env) (s:Shared) (H:Hp) (E:XK):Cx where
 prog:=P
 w:=w
 K:=K
 mg:=mg
 base:=base
 A:=A.deeper (envOfC qual scope s.heap.objs.size f cd)
 N:=N
 s₀:=s
 H₀:=H
 env:=envOfC qual scope s.heap.objs.size f cd
 outer:=outer
 stack:=envOfC qual scope s.heap.objs.size f cd::outer
 ex:=[]
 calm:=true
 fn:=fun _=>true
 pn:=[]
 xe:=fun e s'=>wpAny (model P w) (A.deeper (envOfC qual scope s.heap.objs.size f cd)) (leaving (envOfC qual scope s.heap.objs.size f cd) e) (fun _ s''=>CX outer H s E e s'') (fun e' s''=>CX outer H s E e' s'') s'
theorem qy {sc:Scope} {n:Nat} {x:Str} (h:sc.names.lookup x=some .cell):∃ c,(cellsFrom n sc.names []).lookup x=some c:=by
 have q:=PySem.W.cellsFrom_some sc.names n [] (.inl h)
 exact Option.isSome_iff_exists.mp q
theorem xU {CX:eN} {P:Program} {w:World} {K:PySem.W.Frag} {mg:Str->Option Value} {base:Heap} {N ps:List Str} {qual:Str} {scope:Scope} {f:Addr} {cd:Value} {A:Around} {outer:List Env} {s s1:Shared} {H:Hp} {E:XK} {us:List Value} {vs:List V}
  (S:a7 N ps scope) (hd:A.handled=none) (e0:dD P w K mg base A outer s H) (hl:vs.length=ps.length) (r:ap vs us)
  (x:InCallC s s.heap.objs.size (bindL (envOfC qual scope s.heap.objs.size f cd).kindOf (ps.zip us) fun _=>none) (cellsFrom (s.heap.objs.size+1) scope.names []) (bindC (envOfC qual scope s.heap.objs.size f cd).kindOf (ps.zip us) fun _=>none) s1) :
  Inv (iw CX P w K mg base N qual scope f cd A outer s H E) [] (start N vs) H s1:=by
 have Er:ps.length<=N.length:=by have:=congrArg List.length S.pre;rw [QD] at this;lia
 obtain ⟨h1,tk,rfl,hk⟩:=x.done
 have Gs:∀ b:Addr,b∉(iw CX P w K mg base N qual scope f cd A outer s H E).ex:=fun b z=>absurd (show b∈([]:List Addr) from z) (by simp)
 refine ⟨⟨e0.mod,S.kind,rfl,rfl,Qf _,fun y z c h1 h2=>?_,fun y hy=>?_,fun y c _ h=>?_,fun _=>hd,Around.frames_deeper e0.frames,.inr ⟨rfl,rfl⟩,fun b z=>absurd z (Gs b),e0.bs,e0.bsz,fun b _ _=>Gs b,fun b z=>absurd z (Gs b),e0.funs,e0.frf⟩,
  rfl,e0.bare,Un.kept hk,⟨_,x.toInCall.ns,fun i y v h1 h2 h3=>?_⟩,fun y c h=>⟨_,x.cell y c h⟩,e0.hok.fresh (Qf _),fun y c h=>?_,fun p hp=>absurd (show p∈([]:List (Addr × Obj)) from hp) (by simp),e0.hok.kept hk,?_⟩
 ·exact name_of_addr x.apart (PySem.mem_of_lookup h1) (PySem.mem_of_lookup h2)
 ·have hy:scope.names.lookup y=some .cell∨scope.names.lookup y=some .free:=hy
  rcases hy with hy | hy
  ·exact qy hy
  ·exact absurd rfl (S.nofree _ (PySem.mem_of_lookup hy))
 ·exact QY (x.above y c (PySem.mem_of_lookup h))
 ·have hi:i<vs.length:=by
   unfold start at h2
   by_cases hi:i<vs.length
   ·exact hi
   ·rw [Ql (by simpa using hi)] at h2
    rw [List.getElem?_replicate] at h2
    split at h2<;>cases h2
  have ha:vs[i]?=some v:=by
   unfold start at h2
   rw [Qp (by simpa using hi),Qr] at h2
   cases e:vs[i]? with
   | none=>rw [e] at h2;cases h2
   | some a=>rw [e] at h2;cases h2;rfl
  obtain ⟨u,hu,rv⟩:=r.get ha
  have hp:ps[i]?=some y:=by
   rw [<- S.pre,List.getElem?_take_of_lt (by lia)];exact h1
  have ndP:ps.Nodup:=by rw [<- S.pre];exact S.nd.sublist (List.take_sublist _ _)
  refine ⟨u,rv,?_⟩
  rcases S.par y (Qh hp) with k | k
  ·exact .inl ⟨k,qw ndP hp hu k⟩
  ·obtain ⟨c,e⟩:=qy (n:=s.heap.objs.size+1) k
   refine .inr ⟨.inl k,c,e,?_⟩
   have q:=x.cell y c e
   rw [qx ndP hp hu (by show scope.names.lookup y≠_;rw [k];decide)] at q
   exact q
 ·exact e0.hok.fresh (QY (x.above y c (PySem.mem_of_lookup h)))
 ·unfold start
  show _=N.length
  rw [QK,Qd,List.length_replicate]
  lia
theorem qz {CX:eN} {P:Program} {w:World} {K:PySem.W.Frag} {mg:Str->Option Value} {base:Heap} {k:Nat} {f:Addr} {name qual:Str} {params:Arguments} {body:List Stmt} {scope:Scope} {dV kV FR pm Ds ct oc:Value} {an od:Option Addr}
  {osl:Array (Option Value)} {N ps:List Str} {sp:Sp} (lk:K.lookup f=some ⟨oc,od,.func (PySem.W.fnOf name qual params body scope dV kV FR pm an Ds ct),osl⟩) (FP:PySem.W.codeIn K Ds qual=true) (S:a7 N ps scope)
  (len:∀ vs H Q E,sp vs H Q E->vs.length=ps.length)
  (EC:∀ (A:Around) (outer:List Env) (s:Shared) (H:Hp) (vs:List V) (Q:VK) (E:XK),ay k (A.deeper (envOfC qual scope s.heap.objs.size f Ds))->sp vs H Q E ->
   ∃ t,dS (iw CX P w K mg base N qual scope f Ds A outer s H E) body t/\t { nx:=fun _ H'=>Q .non H',rt:=Q } (start N vs) H) :
  aF P w K mg base CX (k+1) f (PySem.W.fnOf name qual params body scope dV kV FR pm an Ds ct) ps sp:=by
 refine ⟨len,fun A outer s H args us vs Q E hr e0 hb r Fb=>?_⟩
 have hl:=len _ _ _ _ Fb
 have KX:K.In s.heap:=e0.mod.kin.keeps fun b o e=>(e0.bs b o e).1
 have lim:s.heap.NoLimit:=e0.mod.nolimit.keeps fun b o e=>(e0.bs b o e).1
 have hkind:∀ y∈ps.zip us,scope.names.lookup y.1=some .local∨(scope.names.lookup y.1=some .cell/\((cellsFrom (s.heap.objs.size+1) scope.names []).lookup y.1).isSome=true):=fun ⟨n,v⟩ hy=>by
  rcases S.par n (List.of_mem_zip hy).1 with q | q
  ·exact .inl q
  ·exact .inr ⟨q,PySem.W.cellsFrom_some _ _ _ (.inl q)⟩
 refine codeAny_call_function hr.depth (KX _ _ lk) rfl S.co S.gen rfl (PySem.W.codeRec_of KX FP) (hb _ _ _ _ ?_)
 refine wpAny_newFunctionEnv_cells S.kind hkind fun env he s1 x=>?_
 subst he
 refine ⟨lim.keeps x.toInCall.keep,codeAny_func ?_⟩
 obtain ⟨t,ht,hq⟩:=EC A outer s H vs Q E (hr.deeper _) Fb
 have I:Inv (iw CX P w K mg base N qual scope f Ds A outer s H E) [] (start N vs) H s1:=xU S hr.hd e0 hl r x
 refine QV (ht [] s1 (start N vs) H _ I hq) (fun fl s' hs=>?_) fun e s' hs=>hs
 have fin:∀ {σ':St} {H':Hp} {v:V} {u:Value},Inv (iw CX P w K mg base N qual scope f Ds A outer s H E) [] σ' H' s'->RelV v u->Q v H'->CE outer P w H s Q u s' :=
  fun {σ' H' v u} J rv q=>⟨v,H',J.os,J.bare,J.base,J.hok,rv,q⟩
 cases fl with
 | ret u =>
  obtain ⟨v,σ',H',J,rv,q⟩:=hs
  exact fin J rv q
 | next =>
  obtain ⟨σ',H',J,q⟩:=hs
  exact fin (v:=V.non) (u:=Value.none) J rfl q
 | brk =>
  obtain ⟨_,_,_,q⟩:=hs
  exact False.elim q
 | cont =>
  obtain ⟨_,_,_,q⟩:=hs
  exact False.elim q
section
variable {X:Cx} {x:Str} {p pos:Pos} {e:Expr} {es:List Expr} {t:TA} {id T:String} {r:List V->Hp->VK->Prop}
def qA (r:List V->Hp->VK->Prop) (t:TA):TE:=fun σ H Q=>t σ H fun vs H1=>r vs H1 Q
theorem cu (hc:fJ X (.builtin id) r) (hg:Gl X x) (hm:X.mg x=none) (hv:bootBuiltins x=some (.builtin id)) (ha:PA X (e::es) t) (hn:x≠"__name__":=by decide) (hdb:(x == ("__debug__":Str))=false:=by decide)
  (he:starEach (e::es) X.env=(false,eval e X.env)::starEach es X.env:=by rfl) (Er:(backTo pos (starEach es X.env)).any (·.1)=false:=by rfl):PE X (.Call (.Name x p) (e::es) [] pos) (qA r t):=by
 intro Df s σ H Q I h
 refine wpAny_Call_Name_kw (gF I hg hm hv ?_ hn hdb)
 exact PyProof.Rows.callWith_builtin1 (aE (ha pos Df s σ H _ I h) fun us s1 hsl30=>by obtain ⟨vs,H1,I1,r1,q1⟩:=hsl30;exact hc Df s1 σ H1 vs us Q I1 r1 q1) he Er
theorem iy (hc:fJ X (.type T) r) (hg:Gl X x) (hm:X.mg x=none) (hv:bootBuiltins x=some (.type T)) (ha:PA X (e::es) t) (hn:x≠"__name__":=by decide) (hdb:(x == ("__debug__":Str))=false:=by decide)
  (he:starEach (e::es) X.env=(false,eval e X.env)::starEach es X.env:=by rfl) (Er:(backTo pos (starEach es X.env)).any (·.1)=false:=by rfl):PE X (.Call (.Name x p) (e::es) [] pos) (qA r t):=by
 intro Df s σ H Q I h
 refine wpAny_Call_Name_kw (gF I hg hm hv ?_ hn hdb)
 exact PyProof.Rows.callWith_type1 (aE (ha pos Df s σ H _ I h) fun us s1 hsl31=>by obtain ⟨vs,H1,I1,r1,q1⟩:=hsl31;exact hc Df s1 σ H1 vs us Q I1 r1 q1) he Er
end
end L2
namespace HT
open PySem PyProof.Rows
section
variable {prog:Program} {w:World} {A:Around} {E:Value->Shared->Prop} {s:Shared}
theorem cat_tup {t b:Addr} {vs ws:List Value} {Q:Value->Shared->Prop} (ht:IsTup s.heap t vs.toArray) (hb:IsTup s.heap b ws.toArray) (hv:vs≠[])
  (h1:ws=[]->Q (.ref t) s) (h2:ws≠[]->Q (.ref s.heap.objs.size) { s with heap:=s.heap.push { cls:=.type "tuple",data:=.seq (vs++ws).toArray } })
  (hsz:vs.length+ws.length<=sizeLine):wpAny (model prog w) A (binaryOp .Add (.ref t) (.ref b)) Q E s:=by
 obtain ⟨⟨cls,dd,data,sl⟩,ho,hc,n,hd⟩:=id ht
 obtain ⟨⟨cls2,dd2,data2,sl2⟩,Et,hc2,n2,ES⟩:=id hb
 simp only at hc hd hc2 ES
 subst hc hd hc2 ES
 have e:vs.toArray++ws.toArray=(vs++ws).toArray:=by simp
 by_cases hw:ws=[]
 ·exact concat_meets ⟨_,ho,rfl⟩ ⟨_,Et,rfl⟩ noFill_tuple_add seq_tuple_add PySem.F.slot_tuple_add PySem.F.entry_tuple_add (PySem.F.args_tuple_add_2 _ _)
   (tuple_addW1 t b vs.toArray ws.toArray n n2 dd dd2 sl sl2 (by simpa using hv) (by simp [hw])) ⟨ho,Et,h1 hw⟩
 ·refine concat_meets ⟨_,ho,rfl⟩ ⟨_,Et,rfl⟩ noFill_tuple_add seq_tuple_add PySem.F.slot_tuple_add PySem.F.entry_tuple_add (PySem.F.args_tuple_add_2 _ _)
   (tuple_addW2 t b vs.toArray ws.toArray n n2 dd dd2 sl sl2 (by simpa using hv) (by simpa using hw) (by rw [Qj,Qj];exact hsz)) ⟨ho,Et,?_⟩
  rw [e]
  exact h2 hw
noncomputable def sIx (n d:Nat):Option Int->Nat
 | none=>d
 | some v=>if v<0 then (v+(n:Int)).toNat else min v.toNat n
theorem sIx_le (n d:Nat) (hd:d<=n) (o:Option Int):sIx n d o<=n:=by
 cases o with
 | none=>exact hd
 | some v =>
  show (if v<0 then (v+(n:Int)).toNat else min v.toNat n)<=n
  by_cases hv:v<0
  ·rw [if_pos hv];lia
  ·rw [if_neg hv];exact Nat.min_le_right _ _
theorem qB (v:Int) (n d:Nat):(if v<0 then max (v+(n:Int)) 0 else min v (n:Int))=((sIx n d (some v):Nat):Int):=by
 show (if v<0 then max (v+(n:Int)) 0 else min v (n:Int))=(((if v<0 then (v+(n:Int)).toNat else min v.toNat n):Nat):Int)
 by_cases hv:v<0
 ·simp only [if_pos hv];lia
 ·simp only [if_neg hv];lia
theorem xV (lo hi:Option Int) (n:Nat):Builtin.Slice.sliceAdjust lo hi 1 (n:Int)=(((sIx n 0 lo:Nat):Int),((sIx n n hi:Nat):Int)):=by
 have h1:¬ ((1:Int)<0):=by omega
 unfold Builtin.Slice.sliceAdjust
 simp only [h1,if_false]
 refine Prod.ext ?_ ?_
 ·cases lo with
  | none=>rfl
  | some v=>exact qB v n 0
 ·cases hi with
  | none=>rfl
  | some v=>exact qB v n n
theorem xW (i j:Nat):Builtin.Slice.slicePlaces (i:Int) (j:Int) 1=j-i:=by
 unfold Builtin.Slice.slicePlaces
 have h1:(1:Int)>0:=by lia
 simp only [h1,if_true,Int.ediv_one]
 split<;>lia
theorem qC {v:Value} {o:Option Int} {Q:Option Int->Shared->Prop} (p:IsPart v o) (h:Q o s):wpAny (model prog w) A (Builtin.Slice.slicePartIndex v) Q E s:=by
 cases p with
 | none=>exact slicePart_none h
 | int i t=>exact slicePart_int h
theorem xX {sl:Addr} {vl vu:Value} {lo hi:Option Int} {n:Nat} {Q:Int × Int × Nat->Shared->Prop} (hs:s.heap.IsSliceOf sl vl vu .none) (pl:IsPart vl lo) (pu:IsPart vu hi)
  (h:Q (((sIx n 0 lo:Nat):Int),1,sIx n n hi-sIx n 0 lo) s):wpAny (model prog w) A (Builtin.Slice.sliceApplied (.ref sl) (pure (n:Int))) Q E s:=by
 obtain ⟨os,Es,Go,hds⟩:=id hs
 unfold Builtin.Slice.sliceApplied Builtin.Slice.sliceFields
 refine Qb (Qb (wpAny_field Es hds (x:=vl) rfl (Qb (wpAny_field Es hds (x:=vu) rfl (Qb (wpAny_field Es hds (x:=.none) rfl (Qk ?_)))))))
 refine Qb (slicePart_none ?_)
 show wpAny _ _ (if ((1:Int) == 0)=true then _ else _) _ _ s
 rw [if_neg (by decide)]
 refine Qb (qC pl (Qb (qC pu (Qb (Qk ?_)))))
 show wpAny _ _ (match Builtin.Slice.sliceAdjust lo hi 1 (n:Int) with | (lo,hi)=>pure (lo,(1:Int),Builtin.Slice.slicePlaces lo hi 1)) _ _ s
 rw [xV lo hi n]
 show wpAny _ _ (pure (((sIx n 0 lo:Nat):Int),(1:Int),Builtin.Slice.slicePlaces ((sIx n 0 lo:Nat):Int) ((sIx n n hi:Nat):Int) 1)) _ _ s
 rw [xW]
 exact Qk h
theorem xY (xs:Array Value) (i k:Nat):((List.range k).filterMap fun (m:Nat)=>xs[((i:Int)+(m:Int)*1).toNat]?).toArray=((xs.toList.drop i).take k).toArray:=by
 have e:(fun (m:Nat)=>xs[((i:Int)+(m:Int)*1).toNat]?)=fun m=>xs[i+m]?:=by
  funext m
  have:((i:Int)+(m:Int)*1).toNat=i+m:=by lia
  rw [this]
 rw [e]
 have:=pick_run xs i k
 rw [List.filterMap_map] at this
 have e2:((fun x=>xs[x]?)∘fun x=>i+x)=fun m=>xs[i+m]?:=rfl
 rw [e2] at this
 rw [this]
theorem getItem_tuple_cut {t sl:Addr} {items:Array Value} {vl vu:Value} {lo hi:Option Int} {Q:Value->Shared->Prop} (ht:IsTup s.heap t items) (hs:s.heap.IsSliceOf sl vl vu .none) (pl:IsPart vl lo) (pu:IsPart vu hi)
  (hw:¬ (sIx items.size 0 lo=0/\sIx items.size items.size hi=items.size))
  (h:Q (.ref s.heap.objs.size) { s with heap:=s.heap.push { cls:=.type "tuple",data:=.seq ((items.toList.drop (sIx items.size 0 lo)).take (sIx items.size items.size hi-sIx items.size 0 lo)).toArray } })
  (hsz:items.size<=sizeLine):wpAny (model prog w) A (getItem (.ref t) (.ref sl)) Q E s:=by
 have F2:sizeOk (.seq ((items.toList.drop (sIx items.size 0 lo)).take (sIx items.size items.size hi-sIx items.size 0 lo)).toArray):=by
  show ((items.toList.drop (sIx items.size 0 lo)).take (sIx items.size items.size hi-sIx items.size 0 lo)).toArray.size<=sizeLine
  rw [Qj,QD,List.length_drop,QA]
  omega
 have hj:sIx items.size items.size hi<=items.size:=sIx_le _ _ (Qf _) hi
 obtain ⟨os,Es,Go,hds⟩:=id hs
 have hTs:s.TypeIs (.ref sl) "slice":=⟨os,Es,Go⟩
 unfold getItem
 try with_reducible refine wpAny_holding ?_
 first | refine Qb (Qk ?_) | skip
 refine Qb (wpAny_sequenceKey ht.typeIs (by decide) ?_)
 refine Qb (wpAny_callSpecial?_slot (name:=Str.ofString "__getitem__") ht.typeIs PyProof.Rows.slot_tuple_getitem
  (wpAny_call_entry PyProof.Rows.slot_tuple_getitem ht.typeIs entry_tuple_getitem ?_ (args_tuple_getitem _ _)))
 show wpAny _ _ (Builtin.Tuple.tupleItemsOf (.ref t) >>= _) _ _ s
 refine Qb (tupleItemsOf_ ht ?_)
 refine Qb (wpAny_typeOf hTs ?_)
 rw [if_pos (by decide)]
 refine Qb (xX hs pl pu ?_)
 have hno:¬ ((((sIx items.size 0 lo:Nat):Int) == 0&&(1:Int) == 1&&(sIx items.size items.size hi-sIx items.size 0 lo) == items.size)=true):=by
  intro q
  rw [QP,QP] at q
  have q1:((sIx items.size 0 lo:Nat):Int)=0:=eq_of_beq q.1.1
  have q2:sIx items.size items.size hi-sIx items.size 0 lo=items.size:=eq_of_beq q.2
  exact hw ⟨by omega,by omega⟩
 show wpAny _ _ (if (((sIx items.size 0 lo:Nat):Int) == 0&&(1:Int) == 1&&(sIx items.size items.size hi-sIx items.size 0 lo) == items.size)=true then _ else _) _ _ s
 rw [if_neg hno,xY]
 first
  | exact Qb (m:=Builtin.Tuple.tupleExact _) (wpAny_newObj_type (Qk ⟨_,rfl,Qk h⟩) F2)
  | exact Qb (m:=Builtin.Tuple.tupleExact _) (wpAny_newObj_type (Qb (Qk (Qk ⟨_,rfl,Qk h⟩))) F2)
  | exact Qb (Qb (m:=Builtin.Tuple.tupleExact _) (wpAny_newObj_type (Qk (Qk ⟨_,rfl,Qk h⟩)) F2))
  | exact Qb (Qb (m:=Builtin.Tuple.tupleExact _) (wpAny_newObj_type (Qk ⟨_,rfl,Qk h⟩) F2))
end
end HT
namespace L2
open PySem PySem.Spec PyProof.Rows
abbrev TO:=St->Hp->(Option Int->Hp->Prop)->Prop
def PO (X:Cx) (e:Option Expr) (t:TO):Prop :=
 ∀ (Df:List (Addr × Obj)) (s:Shared) (σ:St) (H:Hp) (Q:Option Int->Hp->Prop),Inv X Df σ H s->t σ H Q ->
  wpAny (model X.prog X.w) X.A (evalPart e X.env) (fun u s'=>∃ o H',Inv X Df σ H' s'/\IsPart u o/\Q o H') X.xe s
def xZ:TO:=fun _ H Q=>Q none H
def x0 (t:TE):TO:=fun σ H Q=>t σ H fun x H1=>∃ i,x=.int i/\Q (some i) H1
section
variable {X:Cx} {e:Expr} {te:TE} {lo hi:Option Expr} {tl th:TO} {pos p2:Pos}
theorem fN:PO X none xZ:=by
 intro Df s σ H Q I h
 rw [evalPart_none]
 exact Qk ⟨none,H,I,.none,h⟩
theorem eO (h:PE X e te):PO X (some e) (x0 te):=by
 intro Df s σ H Q I hw
 rw [evalPart_some]
 refine aE (h Df s σ H _ I hw) fun u s1 hsl32=>?_
 obtain ⟨x,H1,I1,r1,q1⟩:=hsl32
 obtain ⟨i,rfl,q⟩:=q1
 obtain ⟨t,rfl⟩:=r1
 exact ⟨some i,H1,I1,.int i t,q⟩
def jv (X:Cx) (r:V->Option Int->Option Int->Hp->VK->Prop):Prop :=
 ∀ (Df:List (Addr × Obj)) (s:Shared) (σ:St) (H:Hp) (x:V) (v vl vu:Value) (lo hi:Option Int) (sl:Addr) (Q:VK),Inv X Df σ H s->RelV x v->s.heap.IsSliceOf sl vl vu .none->IsPart vl lo->IsPart vu hi->r x lo hi H Q ->
  ∃ T id,typeLookup (.type T) "__getitem__"=pure (some (.builtin id))/\s.TypeIs v T/\wpAny (model X.prog X.w) X.A (getItem v (.ref sl)) (EP X Df σ Q) X.xe s
def ya (r:V->Option Int->Option Int->Hp->VK->Prop) (te:TE) (tl th:TO):TE:=fun σ H Q=>te σ H fun x H1=>tl σ H1 fun l H2=>th σ H2 fun u H3=>r x l u H3 Q
theorem fm {r:V->Option Int->Option Int->Hp->VK->Prop} (hr:jv X r) (he:PE X e te) (hl:PO X lo tl) (hu:PO X hi th):PE X (.Subscript e (.Slice lo hi none p2) pos) (ya r te tl th):=by
 intro Df s σ H Q I h
 refine Subscript_ (aE (he Df s σ H _ I h) fun v s1 hsl33=>?_)
 obtain ⟨x,H1,I1,r1,q1⟩:=hsl33
 refine wpAny_Slice (aE (hl Df s1 σ H1 _ I1 q1) fun vl s2 ⟨l,H2,I2,pl,q2⟩=>aE (hu Df s2 σ H2 _ I2 q2) fun vu s3 hsl34=>?_)
 obtain ⟨u,H3,I3,pu,q3⟩:=hsl34
 rw [evalPart_none]
 refine Qk ?_
 have I4:Inv X Df σ H3 { s3 with heap:=s3.heap.push { cls:=.type "slice",data:=.fields #[vl,vu,.none] } }:=I3.kept (t':=s3.toks) fun b ob q=>Qg _ q
 obtain ⟨T,id,hT,ht,hg⟩:=hr Df { s3 with heap:=s3.heap.push { cls:=.type "slice",data:=.fields #[vl,vu,.none] } } σ H3 x v vl vu l u s3.heap.objs.size Q I4 r1 (Heap.IsSliceOf.new ..) pl pu q3
 show wpAny (model X.prog X.w) X.A (subscriptTail e (.Slice lo hi none p2) v (.ref s3.heap.objs.size)) (EP X Df σ Q) X.xe { s3 with heap:=s3.heap.push { cls:=.type "slice",data:=.fields #[vl,vu,.none] } }
 exact tail_any (ops:=[.ref s3.heap.objs.size,v]) ht hT hg (by with_unfolding_all rfl)
noncomputable def dW (xs:List V) (lo hi:Option Int):List V:=(xs.drop (HT.sIx xs.length 0 lo)).take (HT.sIx xs.length xs.length hi-HT.sIx xs.length 0 lo)
theorem qD (xs:List V) (lo hi:Option Int):(dW xs lo hi).length<=xs.length:=by
 unfold dW
 rw [QD,List.length_drop]
 omega
inductive mP (K:PySem.W.Frag) (x:V) (lo hi:Option Int) (H:Hp) (Q:VK):Prop
 | mk:∀ a xs,x=.ref a->ah K H a xs->¬ (HT.sIx xs.length 0 lo=0/\HT.sIx xs.length xs.length hi=xs.length)->(∀ p,H p=none->Q (.ref p) (upd H p (.tup (dW xs lo hi))))->mP K x lo hi H Q
theorem gM:jv X (mP X.K):=by
 intro Df s σ H x v vl vu lo hi sl Q I rx hs pl pu h
 obtain ⟨a,xs,rfl,hx,hw,q⟩:=h
 cases rx
 obtain ⟨its,r,ht,hz⟩:=I.tuple hx
 have Dj:its.toArray.size=xs.length:=by rw [Qj];exact r.length.symm
 refine ⟨"tuple",_,PyProof.Rows.slot_tuple_getitem.lookup,ht.typeIs,?_⟩
 refine HT.getItem_tuple_cut ht hs pl pu (by rw [Dj];exact hw) ?_ (by rw [Dj];exact hz)
 rw [Dj]
 refine ⟨.ref s.heap.objs.size,_,I.laid (t':=s.toks) (o:=.tup (dW xs lo hi)) (fun b ob q=>Qg _ q) (Qf _) ?_,rfl,q _ (I.hok.fresh (Qf _))⟩
 exact ⟨QC (qD xs lo hi) hz,_,(r.drop (HT.sIx xs.length 0 lo)).take (HT.sIx xs.length xs.length hi-HT.sIx xs.length 0 lo),IsTup.new _ _,ik.new _ _⟩
inductive mQ (K:PySem.W.Frag) (x y:V) (H:Hp) (Q:VK):Prop
 | mk:∀ a b xs ys,x=.ref a->y=.ref b->ah K H a xs->ah K H b ys->xs≠[]->xs.length+ys.length<=sizeLine->(ys=[]->Q (.ref a) H)->(ys≠[]->∀ p,H p=none->Q (.ref p) (upd H p (.tup (xs++ys))))->mQ K x y H Q
theorem ap.nil_iff {xs:List V} {us:List Value} (r:ap xs us):us=[]↔xs=[]:=by
 cases r with
 | nil=>simp
 | cons _ _=>simp
theorem kH:bD X (binaryOp .Add) (mQ X.K):=by
 intro Df s σ H x y v u Q I rx ry h
 obtain ⟨a,b,xs,ys,rfl,rfl,ha,hb,hx,hz,q1,q2⟩:=h
 cases rx
 cases ry
 obtain ⟨its,r1,p1,_⟩:=I.tuple ha
 obtain ⟨Fj,r2,p2,_⟩:=I.tuple hb
 refine HT.cat_tup p1 p2 (fun z=>hx (r1.nil_iff.mp z)) (fun z=>⟨.ref a,H,I,rfl,q1 (r2.nil_iff.mp z)⟩) (fun z=>?_) (by rw [<- r1.length,<- r2.length];exact hz)
 refine ⟨.ref s.heap.objs.size,_,I.laid (t':=s.toks) (o:=.tup (xs++ys)) (fun b ob q=>Qg _ q) (Qf _) ?_,rfl,q2 (fun w=>z (r2.nil_iff.mpr w)) _ (I.hok.fresh (Qf _))⟩
 exact ⟨by rw [QK];exact hz,_,r1.append r2,IsTup.new _ _,ik.new _ _⟩
end
noncomputable def f7 (n:Nat) (i:Int):Option Nat:=if 0<=i then (if i<n then some i.toNat else none) else if -(n:Int)<=i then some (i+n).toNat else none
noncomputable def cf {α:Type} (xs:List α) (i:Int):Option α:=(f7 xs.length i).bind fun j=>xs[j]?
theorem yb {n:Nat} {i:Int} {j:Nat} (h:f7 n i=some j):seqIndex? i n=some j/\j<n/\-(n:Int)<=i/\i<n:=by
 unfold f7 at h
 by_cases h0:0<=i
 ·rw [if_pos h0] at h
  by_cases h1:i<n
  ·rw [if_pos h1] at h
   have e:i.toNat=j:=Qq h
   exact ⟨by rw [seqIndex_of h0 h1,e],by lia,by lia,h1⟩
  ·rw [if_neg h1] at h;cases h
 ·rw [if_neg h0] at h
  by_cases h1:-(n:Int)<=i
  ·rw [if_pos h1] at h
   have e:(i+n).toNat=j:=Qq h
   exact ⟨by rw [seqIndex_neg (by lia) h1,e],by lia,h1,by lia⟩
  ·rw [if_neg h1] at h;cases h
theorem mR {α:Type} {xs:List α} {i:Int} {v:α} (h:cf xs i=some v):∃ j,seqIndex? i xs.length=some j/\xs[j]?=some v/\j<xs.length/\-(xs.length:Int)<=i/\i<xs.length:=by
 unfold cf at h
 cases e:f7 xs.length i with
 | none=>rw [e] at h;cases h
 | some j =>
  rw [e] at h
  obtain ⟨h1,h2,h3,h4⟩:=yb e
  exact ⟨j,h1,h,h2,h3,h4⟩
theorem aw {α:Type} {xs:List α} {j:Nat} {v:α} (h:xs[j]?=some v):cf xs (j:Int)=some v:=by
 have hj:j<xs.length:=(Qc h).1
 have e:f7 xs.length (j:Int)=some j:=by
  unfold f7
  rw [if_pos (by lia),if_pos (by lia)];simp
 unfold cf;rw [e];exact h
theorem kI {α:Type} (xs:List α) (v:α):cf (xs++[v]) (-1)=some v:=by
 have hl:(xs++[v]).length=xs.length+1:=by simp
 have e:f7 (xs++[v]).length (-1)=some xs.length:=by
  unfold f7
  rw [hl,if_neg (by decide),if_pos (by lia)]
  congr 1
  lia
 unfold cf
 rw [e]
 show (xs++[v])[xs.length]?=some v
 simp
def yc (b:Expr):Prop:=∀ o i,subscripted b false o i=operate [o,i] (getItem o i)
def iz (X:Cx) (r:R2):Prop :=
 ∀ (value slice:Expr) (Df:List (Addr × Obj)) (s:Shared) (σ:St) (H:Hp) (x y:V) (v u:Value) (Q:VK),Inv X Df σ H s->RelV x v->RelV y u->r x y H Q ->
  subscripted slice false v u=operate [v,u] (getItem v u)->wpAny (model X.prog X.w) X.A (subscriptTail value slice v u) (EP X Df σ Q) X.xe s
def mS (X:Cx) (id:String) (r:V->List V->Hp->VK->Prop):Prop :=
 ∀ (Df:List (Addr × Obj)) (s:Shared) (σ:St) (H:Hp) (x:V) (xs:List V) (v:Value) (us:List Value) (Q:VK),Inv X Df σ H s->RelV x v->ap xs us->r x xs H Q ->
  wpAny (model X.prog X.w) X.A (call (.builtin id) (v::us)) (EP X Df σ Q) X.xe s
section
variable {X:Cx} {a b:Expr} {ta tb:TE} {pos:Pos}
theorem az {r:R2} (hr:iz X r) (ha:PE X a ta) (hb:PE X b tb) (hs:yc b):PE X (.Subscript a b pos) (mJ r ta tb):=by
 intro Df s σ H Q I h
 exact Subscript_ (qb ha hb I h fun v u s2 x y H2 I2 rx ry q=>hr a b Df s2 σ H2 x y v u Q I2 rx ry q (hs _ _))
inductive mT (K:PySem.W.Frag) (x y:V) (H:Hp) (Q:VK):Prop
 | mk:∀ p xs i v,x=.ref p->y=.int i->aj K H p xs->cf xs i=some v->Q v H->mT K x y H Q
inductive mU (K:PySem.W.Frag) (x y:V) (H:Hp) (Q:VK):Prop
 | mk:∀ p xs i v,x=.ref p->y=.int i->ah K H p xs->cf xs i=some v->Q v H->mU K x y H Q
inductive qE (x y:V) (H:Hp) (Q:VK):Prop
 | mk:∀ z i c,x=.str z->y=.int i->z.length<=sizeLine->cf z.cps.toList i=some c->Q (.str ⟨#[c]⟩) H->qE x y H Q
theorem yd:iz X (mT X.K):=by
 intro value slice Df s σ H x y v u Q I rx ry h hs
 obtain ⟨p,xs,i,z,rfl,rfl,hq,he,q⟩:=h
 cases rx
 obtain ⟨t,rfl⟩:=ry
 obtain ⟨its,r,pl,hz⟩:=I.list hq
 obtain ⟨j,h1,h2,h3,h4,h5⟩:=mR he
 obtain ⟨w,ew,F8⟩:=r.get h2
 have hl:=r.length
 have hn:=ju
 have fin:EP X Df σ Q w s:=⟨z,H,I,F8,q⟩
 by_cases h0:0<=i
 ·have hj:i.toNat=j:=by
   rw [seqIndex_of h0 h5] at h1
   exact Qq h1
  exact item_listR pl.isList h0 (by lia) (by rw [hj];simpa using ew) fin hs
 ·have hj:(i+(its.toArray.size:Int)).toNat=j:=by
   rw [seqIndex_neg (by lia) h4] at h1
   rw [Qj,<- hl]
   exact Qq h1
  exact subscriptTail_builtinR (x:=w) pl.isList.typeIs slot_list_getitem.lookup
   (wpAny_getItem_list_neg (Q:=fun r s'=>r=w/\EP X Df σ Q r s') pl.isList (by lia) (by rw [Qj]<;>lia) (by lia) (by rw [hj];simpa using ew) ⟨rfl,fin⟩) hs
theorem ye:iz X (mU X.K):=by
 intro value slice Df s σ H x y v u Q I rx ry h hs
 obtain ⟨p,xs,i,z,rfl,rfl,hq,he,q⟩:=h
 cases rx
 obtain ⟨t,rfl⟩:=ry
 obtain ⟨its,r,pl,hz⟩:=I.tuple hq
 obtain ⟨j,h1,h2,h3,h4,h5⟩:=mR he
 obtain ⟨w,ew,F8⟩:=r.get h2
 have hl:=r.length
 have hn:=ju
 have fin:EP X Df σ Q w s:=⟨z,H,I,F8,q⟩
 exact subscriptTail_builtinR (x:=w) pl.typeIs slot_tuple_getitem.lookup
  (getItem_tuple (j:=j) (Q:=fun r s'=>r=w/\EP X Df σ Q r s') pl (by lia) (by lia) (by rw [Qj,<- hl];exact h1) (by simpa using ew) ⟨rfl,fin⟩) hs
theorem qF:iz X qE:=by
 intro value slice Df s σ H x y v u Q I rx ry h hs
 obtain ⟨z,i,c,rfl,rfl,hz,he,q⟩:=h
 obtain ⟨t,rfl⟩:=rx
 obtain ⟨t',rfl⟩:=ry
 obtain ⟨j,h1,h2,h3,h4,h5⟩:=mR he
 have hl:z.cps.toList.length=z.length:=by simp [Str.length]
 rw [hl] at h1 h4 h5
 have hn:=ju
 exact tail_any (typeIs_str s z t) slot_str_getitem.lookup (getItem_str (c:=c) (by
  have e1:decide (i < -(2 ^ 63:Int))=false:=Qi (by lia)
  have e2:decide (i ≥ 2 ^ 63)=false:=Qi (by lia)
  rw [e1,e2,Bool.or_false]) (by rw [h1];simpa using h2) ⟨.str ⟨#[c]⟩,H,I.tok _,⟨_,rfl⟩,q⟩) hs
theorem yf (lo hi:Option Int) (n:Nat):(sliceBounds lo hi none n).1=((HT.sIx n 0 lo:Nat):Int)/\(sliceBounds lo hi none n).2.1=((HT.sIx n n hi:Nat):Int)/\(sliceBounds lo hi none n).2.2=1:=by
 refine ⟨?_,?_,rfl⟩
 ·cases lo with
  | none=>simp [sliceBounds,HT.sIx]
  | some i =>
   simp only [sliceBounds,HT.sIx,Option.getD_none,show (1:Int)>0 by decide,if_true]
   by_cases h:i<0
   ·simp only [h,if_true]<;>lia
   ·simp only [h,if_false]<;>lia
 ·cases hi with
  | none=>simp [sliceBounds,HT.sIx]
  | some i =>
   simp only [sliceBounds,HT.sIx,Option.getD_none,show (1:Int)>0 by decide,if_true]
   by_cases h:i<0
   ·simp only [h,if_true]<;>lia
   ·simp only [h,if_false]<;>lia
theorem yg (its:List Value) (lo hi:Option Int):slicePick its.toArray lo hi none=((its.drop (HT.sIx its.length 0 lo)).take (HT.sIx its.length its.length hi-HT.sIx its.length 0 lo)).toArray:=by
 obtain ⟨h1,h2,h3⟩:=yf lo hi its.toArray.size
 unfold slicePick
 rw [h1,h2,h3]
 simp only [sliceRange_one,pick_run,Qj]<;>rfl
inductive qG (K:PySem.W.Frag) (x:V) (lo hi:Option Int) (H:Hp) (Q:VK):Prop
 | mk:∀ a xs,x=.ref a->aj K H a xs->(∀ p,H p=none->Q (.ref p) (upd H p (.lst (dW xs lo hi))))->qG K x lo hi H Q
theorem yh:jv X (qG X.K):=by
 intro Df s σ H x v vl vu lo hi sl Q I rx hs pl pu h
 obtain ⟨a,xs,rfl,hx,q⟩:=h
 cases rx
 obtain ⟨its,r,ht,hz⟩:=I.list hx
 have Dj:=r.length
 refine ⟨"list",_,slot_list_getitem.lookup,ht.isList.typeIs,?_⟩
 refine wpAny_getItem_list_slice ht.isList hs pl pu .none (by simp) ?_ (by rw [Qj]<;>lia)
 rw [yg,<- Dj]
 refine ⟨.ref s.heap.objs.size,_,I.laid (t':=s.toks) (o:=.lst (dW xs lo hi)) (fun b ob q=>Qg _ q) (Qf _) ?_,rfl,q _ (I.hok.fresh (Qf _))⟩
 exact ⟨QC (qD xs lo hi) hz,_,0,(r.drop (HT.sIx xs.length 0 lo)).take (HT.sIx xs.length xs.length hi-HT.sIx xs.length 0 lo),Qz _ rfl⟩
noncomputable def f8:V->Bool
 | .non=>true
 | .bl _=>true
 | .int _=>true
 | .str _=>true
 | _=>false
noncomputable def f9:V->V->Bool
 | .non,.non=>true
 | .bl a,.bl b=>a == b
 | .bl a,.int b=>(if a then 1 else 0) == b
 | .int a,.bl b=>a == (if b then 1 else 0)
 | .int a,.int b=>a == b
 | .str a,.str b=>a == b
 | _,_=>false
theorem yi {A:Around} {s:Shared} {y x:V} {u v:Value} (ry:RelV y u) (rx:RelV x v) (fy:f8 y=true) (fx:f8 x=true):SeqAt.EqAt A s u v (f9 y x):=by
 cases y with
 | non =>
  cases ry
  cases x with
  | non=>cases rx;exact SeqAt.EqAt.same _
  | bl b=>cases rx;exact SeqAt.EqAt.none_bool b
  | int b=>obtain ⟨t,rfl⟩:=rx;exact SeqAt.EqAt.none_int b t
  | str b=>obtain ⟨t,rfl⟩:=rx;exact SeqAt.EqAt.none_str b t
  | _=>exact absurd (show false=true from fx) QG
 | bl a =>
  cases ry
  cases x with
  | non=>cases rx;exact SeqAt.EqAt.bool_none a
  | bl b=>cases rx;exact SeqAt.EqAt.bool_bool a b
  | int b=>obtain ⟨t,rfl⟩:=rx;exact SeqAt.EqAt.bool_int a b t
  | str b=>obtain ⟨t,rfl⟩:=rx;exact SeqAt.EqAt.bool_str a b t
  | _=>exact absurd (show false=true from fx) QG
 | int a =>
  obtain ⟨t',rfl⟩:=ry
  cases x with
  | non=>cases rx;exact SeqAt.EqAt.int_none a t'
  | bl b=>cases rx;exact SeqAt.EqAt.int_bool a t' b
  | int b=>obtain ⟨t,rfl⟩:=rx;exact SeqAt.EqAt.int_int a t' b t
  | str b=>obtain ⟨t,rfl⟩:=rx;exact SeqAt.EqAt.int_str a t' b t
  | _=>exact absurd (show false=true from fx) QG
 | str a =>
  obtain ⟨t',rfl⟩:=ry
  cases x with
  | non=>cases rx;exact SeqAt.EqAt.str_none a t'
  | bl b=>cases rx;exact SeqAt.EqAt.str_bool a t' b
  | int b=>obtain ⟨t,rfl⟩:=rx;exact SeqAt.EqAt.str_int a t' b t
  | str b=>obtain ⟨t,rfl⟩:=rx;exact SeqAt.EqAt.str_str a t' b t
  | _=>exact absurd (show false=true from fx) QG
 | _=>exact absurd (show false=true from fy) QG
noncomputable def dn (x:V) (u:Value):Bool:=match u with
 | .none=>f9 .non x
 | .bool b=>f9 (.bl b) x
 | .int i _=>f9 (.int i) x
 | .str z _=>f9 (.str z) x
 | _=>false
theorem qH {x y:V} {u:Value} (r:RelV y u) (f:f8 y=true):dn x u=f9 y x:=by
 cases y with
 | non=>cases r;rfl
 | bl b=>cases r;rfl
 | int i=>obtain ⟨t,rfl⟩:=r;rfl
 | str z=>obtain ⟨t,rfl⟩:=r;rfl
 | _=>exact absurd (show false=true from f) QG
theorem jw {x:V}:∀ {xs:List V} {us:List Value},ap xs us->xs.all f8=true->us.any (dn x)=xs.any fun y=>f9 y x
 | _,_,.nil,_=>rfl
 | y::xs,u::us,.cons r t,f=>by
  rw [List.all_cons,QP] at f
  rw [List.any_cons,List.any_cons,qH r f.1,jw t f.2]
theorem jx {A:Around} {s:Shared} {x:V} {v:Value} (rx:RelV x v) (fx:f8 x=true):∀ {xs:List V} {us:List Value},ap xs us->xs.all f8=true->∀ u∈us,SeqAt.EqAt A s u v (dn x u)
 | _,_,.nil,_=>fun u hu=>by cases hu
 | y::xs,u::us,.cons r t,f=>fun u' hu=>by
  rw [List.all_cons,QP] at f
  rcases Qn hu with rfl | hu
  ·rw [qH r f.1];exact yi r rx f.1 fx
  ·exact jx rx fx t f.2 u' hu
noncomputable def gc (x:V) (xs:List V):Bool:=xs.any fun y=>f9 y x
inductive jy (K:PySem.W.Frag) (neg:Bool) (x y:V) (H:Hp) (Q:VK):Prop
 | mk:∀ p xs,y=.ref p->(aj K H p xs∨ah K H p xs)->f8 x=true->xs.all f8=true->Q (.bl (if neg then !gc x xs else gc x xs)) H->jy K neg x y H Q
theorem yj:bD X (compareOp .In) (jy X.K false):=by
 intro Df s σ H x y v u Q I rx ry h
 obtain ⟨p,xs,rfl,hq,fx,fs,q⟩:=h
 cases ry
 rcases hq with hq | hq
 ·obtain ⟨its,r,pl,hz⟩:=I.list hq
  refine SeqAt.in_listAt (dn x) pl.isList (fun w hw=>jx rx fx r fs w (by simpa using hw)) ⟨.bl _,H,I,rfl,?_⟩
  rw [show its.toArray.any (dn x)=its.any (dn x) by simp,jw r fs]
  exact q
 ·obtain ⟨its,r,pl,hz⟩:=I.tuple hq
  refine SeqAt.in_tupleAt (dn x) pl (fun w hw=>jx rx fx r fs w (by simpa using hw)) ⟨.bl _,H,I,rfl,?_⟩
  rw [show its.toArray.any (dn x)=its.any (dn x) by simp,jw r fs]
  exact q
theorem yk:bD X (compareOp .NotIn) (jy X.K true):=by
 intro Df s σ H x y v u Q I rx ry h
 obtain ⟨p,xs,rfl,hq,fx,fs,q⟩:=h
 cases ry
 rcases hq with hq | hq
 ·obtain ⟨its,r,pl,hz⟩:=I.list hq
  refine SeqAt.notIn_listAt (dn x) pl.isList (fun w hw=>jx rx fx r fs w (by simpa using hw)) ⟨.bl _,H,I,rfl,?_⟩
  rw [show its.toArray.any (dn x)=its.any (dn x) by simp,jw r fs]
  exact q
 ·obtain ⟨its,r,pl,hz⟩:=I.tuple hq
  refine SeqAt.notIn_tupleAt (dn x) pl (fun w hw=>jx rx fx r fs w (by simpa using hw)) ⟨.bl _,H,I,rfl,?_⟩
  rw [show its.toArray.any (dn x)=its.any (dn x) by simp,jw r fs]
  exact q
theorem fo:fJ X (.builtin "len") (fun xs H Q=>∃ p ys,xs=[.ref p]/\(aj X.K H p ys∨ah X.K H p ys)/\Q (.int ys.length) H):=by
 intro Df s σ H xs us Q I r h
 obtain ⟨p,ys,rfl,hq,q⟩:=h
 obtain ⟨u,rfl,rx⟩:=vals1 r
 cases rx
 have hn:=ju
 rcases hq with hq | hq
 ·obtain ⟨its,r',pl,hz⟩:=I.list hq
  have Dj:=r'.length
  exact Calls.call_len_list pl.isList (by simp only [Qj]<;>lia) ⟨.int ys.length,H,I.tok _,⟨s.toks+1,by rw [Qj,Dj]⟩,q⟩
 ·obtain ⟨its,r',pl,hz⟩:=I.tuple hq
  have Dj:=r'.length
  exact len_tuple pl (by simp only [Qj]<;>lia) ⟨.int ys.length,H,I.tok _,⟨s.toks+1,by rw [Qj,Dj]⟩,q⟩
theorem yl:fJ X (.builtin "len") (fun xs H Q=>∃ z,xs=[.str z]/\z.length<=sizeLine/\Q (.int z.length) H):=by
 intro Df s σ H xs us Q I r h
 obtain ⟨z,rfl,hz,q⟩:=h
 obtain ⟨u,rfl,t,rfl⟩:=vals1 r
 have hn:=ju
 exact len_str (by lia) ⟨.int z.length,H,I.tok _,⟨_,rfl⟩,q⟩
theorem jz:fJ X (.type "tuple") (fun xs H Q=>∃ p ys,xs=[.ref p]/\((aj X.K H p ys/\∀ l,H l=none->Q (.ref l) (upd H l (.tup ys)))∨(ah X.K H p ys/\Q (.ref p) H))):=by
 intro Df s σ H xs us Q I r h
 obtain ⟨p,ys,rfl,h⟩:=h
 obtain ⟨u,rfl,rx⟩:=vals1 r
 cases rx
 rcases h with ⟨hq,q⟩ | ⟨hq,q⟩
 ·obtain ⟨its,r',pl,hz⟩:=I.list hq
  have Dj:=r'.length
  refine call_tuple_list pl.isList (fun h' kp=>?_) (by simp only [Qj]<;>lia)
  have I1:Inv X Df σ H { s with heap:=h' }:=I.kept (t':=s.toks) kp
  have I2:Inv X Df σ (upd H h'.objs.size (.tup ys)) { s with heap:=h'.push { cls:=.type "tuple",data:=.seq its.toArray } } :=
   I1.laid (t':=s.toks) (fun b o e=>Qg _ e) (Qf _) (show bC X.prog X.w _ _ _ (.tup ys) from ⟨hz,its,r',IsTup.new _ _,ik.new _ _⟩)
  exact ⟨.ref h'.objs.size,_,I2,rfl,q _ (I1.hok.fresh (Qf _))⟩
 ·obtain ⟨its,r',pl,hz⟩:=I.tuple hq
  exact call_tuple_same pl ⟨.ref p,H,I,rfl,q⟩
def mV (K:PySem.W.Frag) (T:String) (x:V) (H:Hp):Prop:=match x with
 | .str _=>T="str"
 | .int _=>T="int"
 | .ref p=>(T="list"/\∃ xs,aj K H p xs)∨(T="tuple"/\∃ o,K.lookup p=some o/\o.cls=.type "tuple"/\o.dict=none) ∨
   (T="dict"/\((∃ Di,H p=some (.dK Di))∨∃ Di,H p=some (.dT Di)))∨(T="set"/\∃ S n,H p=some (.set S n))
 | _=>False
theorem qI {Df:List (Addr × Obj)} {σ:St} {H:Hp} {s:Shared} {T:String} {x:V} {v:Value} (I:Inv X Df σ H s) (r:RelV x v) (ty:mV X.K T x H) :
  s.TypeIs v T/\∀ a,v=.ref a->∃ ob,s.heap.get? a=some ob/\ob.dict=none:=by
 cases x with
 | str z =>
  obtain ⟨t,rfl⟩:=r
  cases (show T="str" from ty)
  exact ⟨typeIs_str s z t,fun _ e=>nomatch e⟩
 | int i =>
  obtain ⟨t,rfl⟩:=r
  cases (show T="int" from ty)
  exact ⟨typeIs_int s i t,fun _ e=>nomatch e⟩
 | ref p =>
  cases r
  rcases ty with ⟨rfl,xs,hq⟩ | ⟨rfl,o,hk,hc,hd⟩ | ⟨rfl,hk⟩ | ⟨rfl,S,n,hk⟩
  ·obtain ⟨its,_,pl,_⟩:=I.list hq
   refine ⟨pl.isList.typeIs,fun a e=>?_⟩
   cases e
   obtain ⟨o,n,e,c,hd,_⟩:=pl
   exact ⟨o,e,hd⟩
  ·refine ⟨⟨o,I.kIn p o hk,hc⟩,fun a e=>?_⟩
   cases e
   exact ⟨o,I.kIn _ o hk,hd⟩
  ·have z:∃ o,s.heap.get? p=some o/\o.ExactDict:=by
    rcases hk with ⟨Di,hk⟩ | ⟨Di,hk⟩
    ·obtain ⟨_,_,_,_,o,_,_,e,ex,_⟩:=I.hok p _ hk
     exact ⟨o,e,ex⟩
    ·obtain ⟨_,_,_,_,o,_,_,e,ex,_⟩:=I.hok p _ hk
     exact ⟨o,e,ex⟩
   obtain ⟨o,e,ex⟩:=z
   refine ⟨⟨o,e,ex.1⟩,fun a e2=>?_⟩
   cases e2
   exact ⟨o,e,ex.2.1⟩
  ·obtain ⟨o,_,_,_,e,ex,_⟩:=I.hok p _ hk
   refine ⟨⟨o,e,ex.1⟩,fun a e2=>?_⟩
   cases e2
   exact ⟨o,e,ex.2.1⟩
 | _=>exact False.elim ty
def ym (K:PySem.W.Frag) (T:String) (r:V->List V->Hp->VK->Prop) (to:TE):TE:=fun σ H Q=>to σ H fun x H1=>mV K T x H1/\r x [] H1 Q
def yn (K:PySem.W.Frag) (T:String) (r:V->List V->Hp->VK->Prop) (to:TE) (t:TA):TE:=fun σ H Q=>to σ H fun x H1=>mV K T x H1/\t σ H1 fun xs H2=>r x xs H2 Q
variable {o e:Expr} {es:List Expr} {to:TE} {t:TA} {name:Str} {apos DT:Pos} {T id:String} {r:V->List V->Hp->VK->Prop}
theorem kJ (pa:PlainAttrs T) (slot:Slot T name id) (hty:typeOf (.builtin id)=pure (.type "method_descriptor")) (hm:mS X id r) (ho:PE X o to)
  (G6:attributeBase o name X.env (eval o X.env)=eval o X.env:=by rfl) (G4:(apos.endLine == DT.line)=true:=by rfl):PE X (.Call (.Attribute o name apos) [] [] DT) (ym X.K T r to):=by
 intro Df s σ H Q I h
 refine wpAny_Call_method0_late G6 G4 (aE (ho Df s σ H _ I h) fun v s1 hsl35=>?_)
 obtain ⟨x,H1,I1,r1,ty,q1⟩:=hsl35
 obtain ⟨h1,h2⟩:=qI I1 r1 ty
 exact ⟨T,id,pa,slot,hty,h1,h2,Calls.callWith_builtin rfl (PySem.evalArgs_none (hm Df s1 σ H1 x [] v [] Q I1 r1 .nil q1))⟩
theorem iA (pa:PlainAttrs T) (slot:Slot T name id) (hty:typeOf (.builtin id)=pure (.type "method_descriptor")) (hm:mS X id r) (ho:PE X o to) (ha:PA X (e::es) t)
  (G6:attributeBase o name X.env (eval o X.env)=eval o X.env:=by rfl)
  (hfew:((backTo DT (starEach (e::es) X.env)).all (fun x=>!x.1)&&(backToKw DT (keywordEach [] X.env)).all (fun x=>x.1.isSome)
   && decide ((e::es).length+([]:List Keyword).length+(if ([]:List Keyword).isEmpty then 0 else 1)<30))=true:=by rfl)
  (G4:(apos.endLine == DT.line)=true:=by rfl) (hs:starEach (e::es) X.env=(false,eval e X.env)::starEach es X.env:=by rfl) (hplain:(backTo DT (starEach es X.env)).any (·.1)=false:=by rfl) :
  PE X (.Call (.Attribute o name apos) (e::es) [] DT) (yn X.K T r to t):=by
 intro Df s σ H Q I h
 refine wpAny_Call_method_late G6 hfew G4 rfl (aE (ho Df s σ H _ I h) fun v s1 hsl36=>?_)
 obtain ⟨x,H1,I1,r1,ty,q1⟩:=hsl36
 obtain ⟨h1,h2⟩:=qI I1 r1 ty
 refine ⟨T,id,pa,slot,hty,h1,h2,?_⟩
 have hA:=ha DT Df s1 σ H1 _ I1 q1
 rw [hs] at hA ⊢
 refine Calls.callWith_builtin (by show (false||(backTo DT (starEach es X.env)).any (·.1))=false;rw [hplain]<;>rfl) (Calls.evalArgs_plain ?_)
 exact aE hA fun us s2 hsl37=>by obtain ⟨vs,H2,I2,r2,q2⟩:=hsl37;exact hm Df s2 σ H2 x vs v us Q I2 r1 r2 q2
end
def mW (X:Cx) (id:String) (r:V->List V->Hp->VK->Prop):Prop :=
 ∀ (Df:List (Addr × Obj)) (s:Shared) (σ:St) (H:Hp) (x:V) (xs:List V) (v:Value) (us:List Value) (Q:VK),Inv X Df σ H s->RelV x v->ap xs us->r x xs H Q ->
  wpAny (model X.prog X.w) X.A (call (.builtin id) (v::us)) (EP X Df σ Q) X.xe s
theorem ap.one:∀ {x:V} {us:List Value},ap [x] us->∃ u,us=[u]/\RelV x u
 | _,_,.cons r .nil=>⟨_,rfl,r⟩
theorem ap.zero:∀ {us:List Value},ap [] us->us=[]
 | _,.nil=>rfl
theorem ap.dropLast {xs:List V} {us:List Value} (h:ap xs us):ap xs.dropLast us.dropLast:=by
 induction h with
 | nil=>exact .nil
 | cons r t ih =>
  cases t with
  | nil=>exact .nil
  | cons q t'=>exact .cons r ih
theorem yo {α:Type} (l:List α):l.eraseIdx (l.length-1)=l.dropLast:=by
 induction l with
 | nil=>rfl
 | cons a r ih =>
  cases r with
  | nil=>rfl
  | cons b r =>
   have e:(a::b::r).length-1=((b::r).length-1)+1:=by
    have h1:(a::b::r).length=r.length+2:=rfl
    have h2:(b::r).length=r.length+1:=rfl
    lia
   rw [e,List.eraseIdx_cons_succ,ih]
   all_goals rfl
section
variable {X:Cx} {Df:List (Addr × Obj)} {σ:St} {H:Hp} {s:Shared} {l b:Addr} {xs ys zs:List V}
theorem Inv.lset {its its':List Value} {n:Nat} {f:Array Value->Array Value} {t':Nat} (I:Inv X Df σ H s) (hH:H l=some (.lst xs))
  (e:s.heap.get? l=some { cls:=.type "list",data:=.seq its.toArray n }) (hf:f its.toArray=its'.toArray) (hv:ap ys its') (hz:ys.length<=sizeLine) :
  Inv X Df σ (upd H l (.lst ys)) { s with heap:=s.heap.update l (Obj.mapSeq f),toks:=t' }:=by
 have q:=PySem.IsL.update e f
 rw [hf] at q
 refine I.write (x:=l) (e:=l) (by rw [hH];exact trivial) (.inl rfl) (fun b' u hb hu=>(Heap.get?_update_other s.heap (Obj.mapSeq f) (Ne.symm hb)).trans hu) ⟨_,q⟩ ?_
 exact ⟨hz,its',_,hv,q⟩
theorem Inv.lnew {its:List Value} {t':Nat} (I:Inv X Df σ H s) (hv:ap ys its) (hz:ys.length<=sizeLine) :
  Inv X Df σ (upd H s.heap.objs.size (.lst ys)) { s with heap:=s.heap.push { cls:=.type "list",data:=.seq its.toArray },toks:=t' } :=
 I.laid (fun _ _ q=>Qg _ q) (Qf _) ⟨hz,its,0,hv,Qz _ rfl⟩
theorem Inv.fresh (I:Inv X Df σ H s):H s.heap.objs.size=none:=I.hok.fresh (Qf _)
theorem Inv.lstM (I:Inv X Df σ H s) (hH:H l=some (.lst xs)):xs.length<=sizeLine/\∃ (its:List Value) (n:Nat),ap xs its/\xs.length=its.length/\s.heap.get? l=some { cls:=.type "list",data:=.seq its.toArray n }:=by
 obtain ⟨z,its,n,r,e⟩:=I.hok l _ hH
 exact ⟨z,its,n,r,r.length,e⟩
theorem yp {n:Nat} (h:n<=sizeLine):Builtin.List.listTooLong n=false:=by
 unfold Builtin.List.listTooLong
 exact Qi (by lia)
end
section
variable {X:Cx}
inductive qJ (x:V) (vs:List V) (H:Hp) (Q:VK):Prop
 | mk:∀ l xs y,x=.ref l->vs=[y]->H l=some (.lst xs)->xs.length<sizeLine->Q .non (upd H l (.lst (xs++[y])))->qJ x vs H Q
theorem jA:mW X "list.append" qJ:=by
 intro Df s σ H x vs v us Q I rx rv h
 obtain ⟨l,xs,y,rfl,rfl,hH,hz,q⟩:=h
 cases rx
 obtain ⟨u,rfl,ru⟩:=rv.one
 obtain ⟨z,its,n,r,hl,e⟩:=I.lstM hH
 refine call_meets F.slot_list_append ⟨_,e,rfl⟩ F.entry_list_append (F.args_list_append_2 _ _) (PySem.list_append l its.toArray n u (by rw [Qj];lia)) ⟨e,?_⟩
 refine ⟨.non,_,I.lset (its':=its++[u]) hH e (by simp) (r.append (.cons ru .nil)) ?_,rfl,q⟩
 rw [QK,List.length_singleton]
 lia
inductive qK (x:V) (vs:List V) (H:Hp) (Q:VK):Prop
 | mk:∀ l b xs zs,x=.ref l->vs=[.ref b]->H l=some (.lst xs)->H b=some (.lst zs)->xs.length+zs.length<=sizeLine->Q .non (upd H l (.lst (xs++zs)))->qK x vs H Q
theorem yq:mW X "list.extend" qK:=by
 intro Df s σ H x vs v us Q I rx rv h
 obtain ⟨l,b,xs,zs,rfl,rfl,hH,hB,hz,q⟩:=h
 cases rx
 obtain ⟨u,rfl,ru⟩:=rv.one
 cases ru
 obtain ⟨z,its,n,r,hl,e⟩:=I.lstM hH
 obtain ⟨z2,Fj,n2,r2,hl2,e2⟩:=I.lstM hB
 have hsz:its.toArray.size+Fj.toArray.size<=sizeLine:=by rw [Qj,Qj];lia
 have hlong:¬ (!its.toArray.isEmpty&&Builtin.List.listTooLong (its.toArray.size+Fj.toArray.size))=true:=by
  rw [yp hsz,Bool.and_false]
  exact QG
 refine call_meets F.slot_list_extend ⟨_,e,rfl⟩ F.entry_list_extend (F.args_list_extend_2 _ _)
  (AutoSeq1.list_extend_list_list_0 l its.toArray n b Fj.toArray n2 hlong (by rw [Qj];lia) (by lia)) ⟨e,e2,?_⟩
 refine ⟨.non,_,I.lset (its':=its++Fj) hH e (by simp) (r.append r2) ?_,rfl,q⟩
 rw [QK]
 lia
inductive qL (x:V) (vs:List V) (H:Hp) (Q:VK):Prop
 | mk:∀ l xs y,x=.ref l->vs=[]->H l=some (.lst xs)->xs[xs.length-1]?=some y->Q y (upd H l (.lst xs.dropLast))->qL x vs H Q
theorem mX:mW X "list.pop" qL:=by
 intro Df s σ H x vs v us Q I rx rv h
 obtain ⟨l,xs,y,rfl,rfl,hH,hy,q⟩:=h
 cases rx
 have DY:=rv.zero
 subst DY
 obtain ⟨z,its,n,r,hl,e⟩:=I.lstM hH
 obtain ⟨u,hu,ru⟩:=r.get hy
 have hy':its.toArray[its.toArray.size-1]?=some u:=by
  show its.toArray[its.length-1]?=some u
  rw [<- Array.getElem?_toList,<- hl]
  exact hu
 refine call_meets F.slot_list_pop ⟨_,e,rfl⟩ F.entry_list_pop (F.args_list_pop_1 _) (MeetsSeq.list_pop_last l its.toArray n u hy' (by rw [Qj];omega)) ⟨e,?_⟩
 refine ⟨y,_,I.lset (its':=its.dropLast) hH e ?_ r.dropLast ?_,ru,q⟩
 ·show its.toArray.eraseIdxIfInBounds (its.toArray.size-1)=its.dropLast.toArray
  rw [Qj,List.eraseIdxIfInBounds_toArray,yo]
 ·rw [List.length_dropLast]
  omega
inductive qM (x y:V) (H:Hp) (Q:VK):Prop
 | mk:∀ l b xs zs,x=.ref l->y=.ref b->H l=some (.lst xs)->H b=some (.lst zs)->xs.length+zs.length<=sizeLine->(∀ p,H p=none->Q (.ref p) (upd H p (.lst (xs++zs))))->qM x y H Q
theorem qN:bD X (binaryOp .Add) qM:=by
 intro Df s σ H x y v u Q I rx ry h
 obtain ⟨l,b,xs,zs,rfl,rfl,hH,hB,hz,q⟩:=h
 cases rx
 cases ry
 obtain ⟨z,its,n,r,hl,e⟩:=I.lstM hH
 obtain ⟨z2,Fj,n2,r2,hl2,e2⟩:=I.lstM hB
 refine PySem.P.add_list e e2 ?_ (by rw [Qj,Qj];omega)
 have ea:its.toArray++Fj.toArray=(its++Fj).toArray:=by simp
 rw [ea]
 exact ⟨.ref _,_,I.lnew (t':=s.toks) (r.append r2) (by rw [QK];omega),rfl,q _ I.fresh⟩
end
end L2
namespace Att
open PySem PySem.W PySem.Calls PyProof.Rows
theorem yr {P:Params} {h:Heap}:∀ (ns:List Int) (vs:List Value),WellAll P h vs (ns.map WData.int)->IntsAre vs ns:=by
 intro ns
 induction ns with
 | nil =>
  intro vs w
  rw [List.map_nil] at w
  cases w
  exact .nil
 | cons n ns ih =>
  intro vs w
  rw [List.map_cons] at w
  cases w with
  | cons a b =>
   cases a
   exact .cons _ _ (ih _ b)
theorem yt {l:OpenLaw} {n:Nat} (hn:l.most=some n) {P:Params} {h:Heap} {args:List WData} {vals:List Value}
  (hpre:l.row.toRowW.claim.pre args=true) (hwl:WellAll P h vals args) :
  ∃ a vs ns,vals=[Value.ref a]/\args=[WData.list (ns.map WData.int)]/\h.get? a=some { cls:=.type "list",data:=.seq vs.toArray }/\IntsAre vs ns/\ns.length<=n:=by
 have DV:WShape.hasAll [] args [.list .int]=true:=(pre_splitW hpre).1
 have hc:l.pre.holds [] { args:=args }=true:=(pre_splitW hpre).2
 obtain ⟨d,r,rfl,h1,h2⟩:=hasAllW_cons DV
 obtain rfl:=hasAllW_nil h2
 obtain ⟨xs,rfl,h3⟩:=hasW_list h1
 obtain ⟨ns,rfl⟩:=items_int h3
 have Dj:ns.length<=n:=by
  unfold OpenLaw.pre at hc
  have h4:(WTm.not (.lt (.lit (.int (n:Int))) (.len (.arg 0)))).holds [] { args:=[.list (ns.map .int)] }=true:=by
   have h4:=(holds_andW hc).1
   rw [hn] at h4
   exact h4
  have h5:=condW_of h4 (w_not (w_lt w_lit (w_len_list (w_arg rfl))))
  rw [Qd] at h5
  refine Nat.le_of_not_lt fun q=>?_
  have q':(n:Int)<((ns.length:Nat):Int):=by omega
  first
   | (rw [Qo q'] at h5;exact absurd h5 (by decide))
   | (simp at h5;omega)
 cases hwl with
 | cons w1 w2 =>
  cases w2
  cases w1 with
  | list ho hall=>exact ⟨_,_,ns,rfl,rfl,ho,yr ns _ hall,Dj⟩
theorem yu (l:OpenLaw) (args:List WData):l.row.toRowW.claim.post args (.bool true) args=true :=
 postW_of (r:=l.row.toRowW) (X:=(true == true))
  (show WShape.has [] (.bool true) .bool=true by first | rfl | decide | simp [WShape.has,WShape.arms,WShape.armsAll])
  (show (WTm.eq .res (.lit (.bool true))).value [] { args:=args,res:=some (.bool true),after:=args }=some (.bool (true == true)) from w_eq_bool (w_res rfl) w_lit) rfl
theorem attach_call {l:OpenLaw} {n:Nat} {q:Program} {loose:List Str} {XP:(Str->Option Value)->Heap->Prop} {YP:World->Heap->Prop} {d:DefRec}
  (hn:l.most=some n) (hdf:d.params.defaults=[])
  (call:∀ (w:World) (s₀ s₁:Shared) (mg mb:Str->Option Value) (fa:Addr) (o:Obj) (pm cd FR:Value) (a:Addr) (vs:List Value) (ns:List Int),
   Ground q loose [] XP w s₀ mg mb s₁.heap->YP w s₁.heap ->
   s₁.heap.get? fa=some o->o.data=.func (docDef d.name d.params d.body d.scope pm cd FR)->s₁.heap.CodeRec cd d.name->mg d.name=some (.ref fa) ->
   s₁.heap.get? a=some { cls:=.type "list",data:=.seq vs.toArray }->IntsAre vs ns->ns.length<=n->s₁.gens=#[] ->
   codeAny (model l.prog w) callerA (.call (.ref fa) ⟨[.ref a],[]⟩) (fun r s'=>r=.ok (.ret (.bool true))/\OldK s₁.heap s'.heap/\s'.os=s₁.os/\AllBare s'.gens) s₁) :
  WalkO q loose XP YP l.row.toRowW d [] (fun f vs=>PySem.call f vs):=by
 intro w s₀ s₁ mg mb G Y fa o pm cd FR dV kV ho hd FP hD hmg hg args vals as hpre hlay hrd hwl Dk
 obtain rfl:dV=.none:=Dflts.none hD hdf
 obtain rfl:kV=.none:=Dflts.noKw hD
 obtain ⟨a,vs,ns,rfl,rfl,hobj,G5,Dj⟩:=yt hn hpre hwl
 refine enter_call (codeAny_mono (call w s₀ s₁ mg mb fa o pm cd FR a vs ns G Y ho (fd_plain hd) FP hmg hobj G5 Dj hg) fun r s' hq=>?_)
 obtain ⟨rfl,h2,h3,h4⟩:=hq
 exact ⟨.inl ⟨.bool true,.bool true,[],rfl,fun _=>rfl,.bool true,yu l _,fun _=>⟨List.Pairwise.nil,fun _ hm=>(nomatch hm)⟩⟩,h2,h3,h4⟩
end Att
namespace L2
open PySem PySem.Spec PyProof.Rows
theorem qO:∀ {vs:List Value} {ns:List Int},IntsAre vs ns->ap (ns.map V.int) vs
 | _,_,.nil=>.nil
 | _,_,.cons n t h=>.cons ⟨t,rfl⟩ (qO h)
noncomputable def gf (s:Stmt) (j:Nat):Stmt:=match s with
 | .ClassDef _ _ _ body _ _ _ _ _ _ _=>body.getD j (.Pass ⟨0,0,0,0⟩)
 | _=>.Pass ⟨0,0,0,0⟩
noncomputable def iB (s:Stmt):Arguments:=match s with
 | .FunctionDef _ a _ _ _ _ _ _ _ _=>a
 | _=>{ posonlyargs:=[],args:=[],vararg:=none,kwonlyargs:=[],kw_defaults:=[],kwarg:=none,defaults:=[] }
noncomputable def gg (s:Stmt):List Stmt:=match s with
 | .FunctionDef _ _ b _ _ _ _ _ _ _=>b
 | _=>[]
noncomputable def aL (s:Stmt):Scope:=match s with
 | .FunctionDef _ _ _ _ _ _ sc _ _ _=>sc
 | _=>{ kind:=.function,names:=[],isGenerator:=false,isCoroutine:=false }
abbrev aG:eN:=fun _ _ _ _ _ _=>False
abbrev E0:XK:=fun _ _ _=>False
theorem aD {X:Cx}:iu aG X E0:=fun _ _ _ _ _ _ _ h=>h.elim
structure aZ (K:PySem.W.Frag) (x qual:Str) (st:Stmt) (f:Addr) (fd:FuncData):Prop where
 ex:∃ (oc:Value) (od:Option Addr) (kV FR pm:Value) (an:Option Addr) (Ds ct:Value) (osl:Array (Option Value)),
  fd=PySem.W.fnOf x qual (iB st) (gg st) (aL st) .none kV FR pm an Ds ct/\K.lookup f=some ⟨oc,od,.func fd,osl⟩/\PySem.W.codeIn K Ds qual=true
 kp:PySem.W.keepIn K (.ref f)=true
section
variable {P:Program} {w:World} {K:PySem.W.Frag} {mg:Str->Option Value} {base:Heap}
theorem aZ.ok {x qual:Str} {st:Stmt} {f:Addr} {fd:FuncData} {N ps:List Str} {k:Nat} {sp:Sp} (F:aZ K x qual st f fd) (S:a7 N ps (aL st)) (len:∀ vs H Q E,sp vs H Q E->vs.length=ps.length)
  (EC:∀ (Ds:Value) (A:Around) (outer:List Env) (s:Shared) (H:Hp) (vs:List V) (Q:VK) (E:XK),ay k (A.deeper (envOfC qual (aL st) s.heap.objs.size f Ds))->sp vs H Q E ->
   ∃ t,dS (iw aG P w K mg base N qual (aL st) f Ds A outer s H E).nox (gg st) t/\t { nx:=fun _ H'=>Q .non H',rt:=Q } (start N vs) H):aF P w K mg base aG (k+1) f fd ps sp:=by
 obtain ⟨oc,od,kV,FR,pm,an,Ds,ct,osl,rfl,lk,FP⟩:=F.ex
 refine qz lk FP S len fun A outer s H vs Q E hr Fb=>?_
 obtain ⟨t,h,q⟩:=EC Ds A outer s H vs Q E hr Fb
 exact ⟨t,h.nox,q⟩
theorem yv {x qual:Str} {st:Stmt} {f:Addr} {oc:Value} {od an:Option Addr} {osl:Array (Option Value)} {kV FR pm Ds ct:Value} (l:K.lookup f=some ⟨oc,od,.func (PySem.W.fnOf x qual (iB st) (gg st) (aL st) .none kV FR pm an Ds ct),osl⟩)
  (c:PySem.W.codeIn K Ds qual=true) (k:PySem.W.keepIn K (.ref f)=true):aZ K x qual st f (PySem.W.fnOf x qual (iB st) (gg st) (aL st) .none kV FR pm an Ds ct):=⟨⟨oc,od,kV,FR,pm,an,Ds,ct,osl,rfl,l,c⟩,k⟩
end
theorem gN {n:Nat} (h:n<=1000):n<sizeLine:=QN h (by decide)
section
variable {X:Cx}
theorem pv (i:Nat) {x:Str} {pos:Pos} (hN:X.N[i]?=some x:=by rfl) (hv:mC X.env.scope x:=by first | exact Or.inl rfl | exact Or.inr (Or.inl rfl) | exact Or.inr (Or.inr rfl)) (hd:(x == ("__debug__":Str))=false:=by decide)
  (FP:(x == ("__classdict__":Str))=false:=by decide):PE X (.Name x pos) (km i):=wR hN hv hd FP
end
theorem dX {A B:Prop} (h:B):if false=true then A else B:=by
 rw [if_neg QG]
 exact h
theorem kK {A B:Prop} (h:A):if true=true then A else B:=by
 rw [if_pos rfl]
 exact h
theorem cD {c A B:Prop} [Decidable c] (h1:c->A) (h2:¬ c->B):if c then A else B:=by
 by_cases h:c
 ·rw [if_pos h]
  exact h1 h
 ·rw [if_neg h]
  exact h2 h
def Same (H H':Hp):Prop:=∀ b o,H b=some o->H' b=some o
theorem Same.refl (H:Hp):Same H H:=fun _ _ h=>h
theorem Same.trans {H H1 H2:Hp} (a:Same H H1) (b:Same H1 H2):Same H H2:=fun c o h=>b c o (a c o h)
theorem Same.free {H H':Hp} (e:Same H H') {l:Addr} (h:H' l=Option.none):H l=Option.none:=by
 cases q:H l with
 | none=>rfl
 | some o =>
  rw [e l o q] at h
  cases h
theorem Same.seq {K:PySem.W.Frag} {H H':Hp} {a:Addr} {xs:List V} (e:Same H H') (h:aj K H a xs):aj K H' a xs:=by
 rcases h with (h | ⟨o,h⟩) | h
 ·exact .inl (.inl (e _ _ h))
 ·exact .inl (.inr ⟨o,e _ _ h⟩)
 ·exact .inr h
noncomputable abbrev qP (D9:List Expr) (env:Env):Sem Bool :=
 forIn D9 true fun c r=>if r=true then do let ok <- isTrue c env (eval c env);pure (ForInStep.yield ok) else pure (ForInStep.yield r)
noncomputable def bM (cells:List (Str × Addr)):List (Str × NameKind)->List (Str × Addr)->List (Str × Addr)
 | [],DF=>DF
 | (n,k)::r,DF=>bM cells r (if k == .free then (n,(cells.lookup n).getD 0)::DF else DF)
theorem mY {env:Env}:∀ (ns:List (Str × NameKind)) (DF:List (Str × Addr)),(∀ y∈ns,y.2=.free->∃ c,env.cells.lookup y.1=some c) ->
  (forIn ns DF fun (p:Str × NameKind) (cs:List (Str × Addr))=>(if p.2 == .free then (do let c <- cellOf env p.1;pure (ForInStep.yield ((p.1,c)::cs))) else pure (ForInStep.yield cs):Sem (ForInStep (List (Str × Addr)))))=(pure (bM env.cells ns DF):Sem (List (Str × Addr)))
 | [],DF,_=>rfl
 | (n,k)::r,DF,h=>by
  rw [List.forIn_cons]
  by_cases hk:k=.free
  ·subst hk
   obtain ⟨c,hc⟩:=h (n,.free) QF rfl
   have e1:cellOf env n=pure c:=by unfold cellOf;rw [show env.cells.lookup n=some c from hc]
   simp only [beq_self_eq_true,if_true,e1,bM,hc,Option.getD_some]
   exact mY r ((n,c)::DF) fun y hy=>h y (Qy _ hy)
  ·have hb:(k == NameKind.free)=false:=by simpa using hk
   simp only [hb,QT,if_false,bM]
   exact mY r DF fun y hy=>h y (Qy _ hy)
theorem iC {env:Env} {sc:Scope} (h:∀ y∈sc.names,y.2=.free->∃ c,env.cells.lookup y.1=some c):closureFor sc env=pure (bM env.cells sc.names []):=by
 unfold closureFor
 have q:=mY (env:=env) sc.names [] h
 have e:(forIn sc.names [] fun (p:Str × NameKind) (cs:List (Str × Addr))=>(match p with | (name,kind)=>if kind == .free then (do let c <- cellOf env name;pure (ForInStep.yield ((name,c)::cs))) else pure (ForInStep.yield cs):Sem (ForInStep (List (Str × Addr)))))=(pure (bM env.cells sc.names []):Sem (List (Str × Addr))):=q
 simp only [e]
 rfl
theorem mZ {cells:List (Str × Addr)}:∀ (ns:List (Str × NameKind)) (DF:List (Str × Addr)),(∀ y∈ns,y.2=.free->∃ c,cells.lookup y.1=some c)->(∀ y c,DF.lookup y=some c->cells.lookup y=some c) ->
  (∀ y c,(bM cells ns DF).lookup y=some c->cells.lookup y=some c)/\(∀ y,(DF.lookup y).isSome=true->((bM cells ns DF).lookup y).isSome=true)/\(∀ y,(y,NameKind.free)∈ns->((bM cells ns DF).lookup y).isSome=true)
 | [],DF,_,h2=>⟨h2,fun _ h=>h,fun _ h=>nomatch h⟩
 | (n,k)::r,DF,h1,h2=>by
  have F0:∀ y∈r,y.2=.free->∃ c,cells.lookup y.1=some c:=fun y hy=>h1 y (Qy _ hy)
  by_cases hk:k=.free
  ·subst hk
   obtain ⟨c,hc⟩:=h1 (n,.free) QF rfl
   have E7:cells.lookup n=some c:=hc
   have e:bM cells ((n,.free)::r) DF=bM cells r ((n,c)::DF):=by simp only [bM,beq_self_eq_true,if_true,E7,Option.getD_some]
   have ih:=mZ (cells:=cells) r ((n,c)::DF) F0 (fun y d hy=>by
    rw [List.lookup_cons] at hy
    cases q:y == n with
    | true=>rw [q] at hy;cases hy;rw [eq_of_beq q];exact E7
    | false=>rw [q] at hy;exact h2 y d hy)
   rw [e]
   refine ⟨ih.1,fun y hy=>ih.2.1 y ?_,fun y hy=>?_⟩
   ·rw [List.lookup_cons];split
    ·rfl
    ·exact hy
   ·rcases Qn hy with z | z
    ·cases z;exact ih.2.1 n (by rw [List.lookup_cons];simp)
    ·exact ih.2.2 y z
  ·have hb:(k == NameKind.free)=false:=by simpa using hk
   have e:bM cells ((n,k)::r) DF=bM cells r DF:=by simp only [bM,hb,QT,if_false]
   have ih:=mZ (cells:=cells) r DF F0 h2
   rw [e]
   refine ⟨ih.1,ih.2.1,fun y hy=>?_⟩
   rcases Qn hy with z | z
   ·cases z;exact absurd rfl hk
   ·exact ih.2.2 y z
structure jB (D7 sc:Scope) (NX:List Str) (x:Str) (fv:List Str) (js:List Nat):Prop where
 kind:sc.kind=.function
 kindX:D7.kind=.function
 cell:∀ y∈sc.names,y.2≠.cell
 own:sc.names.lookup x=some .local
 names:∀ y∈sc.names,y.2=.local->sc.names.lookup y.1=some .local
 free:∀ y∈sc.names,y.2=.free->D7.names.lookup y.1=some .cell
 nd:(x::fv).Nodup
 at':js.map (fun j=>NX[j]?)=fv.map some
 fr:∀ y∈fv,sc.names.lookup y=some .free
theorem qQ {env:Env} (hk:env.scope.kind=.function):∀ {ns:List (Str × NameKind)} {y:Str},ns.lookup y=some .free->env.kindOf y=some .cell ->
  (ns.map fun (n,k)=>if (k == NameKind.free&&env.scope.kind == .function&&env.kindOf n == some .cell) then (n,NameKind.cell) else (n,k)).lookup y=some .cell
 | [],_,h,_=>by simp at h
 | (n,k)::r,y,h,hc=>by
  have ih:=@qQ env hk r y
  show List.lookup y ((if (k == NameKind.free&&env.scope.kind == .function&&env.kindOf n == some .cell)=true then (n,NameKind.cell) else (n,k))::_)=_
  cases hx:y == n with
  | true =>
   simp only [List.lookup_cons,hx] at h
   cases h
   have e:y=n:=eq_of_beq hx
   subst e
   simp [List.lookup_cons,hc,hk]
  | false =>
   simp only [List.lookup_cons,hx] at h
   split<;>(simp only [List.lookup_cons,hx];exact ih h hc)
theorem qS {env:Env}:∀ {ns:List (Str × NameKind)} {y:Str},(∀ z∈ns,z.2≠.cell) ->
  ((ns.map fun (n,k)=>if (k == NameKind.free&&env.scope.kind == .function&&env.kindOf n == some .cell) then (n,NameKind.cell) else (n,k)).lookup y=some .cell ∨
   (ns.map fun (n,k)=>if (k == NameKind.free&&env.scope.kind == .function&&env.kindOf n == some .cell) then (n,NameKind.cell) else (n,k)).lookup y=some .free)->(y,NameKind.free)∈ns
 | [],_,_,h=>by simp at h
 | (n,k)::r,y,hz,h=>by
  have ih:=@qS env r y fun z hm=>hz z (Qy _ hm)
  have hk:k≠.cell:=hz (n,k) QF
  rw [List.map_cons] at h
  by_cases hc:(k == NameKind.free&&env.scope.kind == .function&&env.kindOf n == some .cell)=true
  ·have hf:k=.free:=by
    rw [QP,QP] at hc
    exact eq_of_beq hc.1.1
   simp only [hc,if_true,List.lookup_cons] at h
   cases hx:y == n with
   | true=>rw [eq_of_beq hx,hf];exact QF
   | false=>rw [hx] at h;exact Qy _ (ih h)
  ·rw [Bool.not_eq_true] at hc
   simp only [hc,QT,if_false,List.lookup_cons] at h
   cases hx:y == n with
   | true =>
    rw [hx] at h
    rcases h with h | h
    ·exact absurd (Qq h) hk
    ·have:k=.free:=Qq h
     rw [eq_of_beq hx,this];exact QF
   | false=>rw [hx] at h;exact Qy _ (ih h)
noncomputable def cg (js:List Nat) (σ:St):St:=js.map fun j=>(σ[j]?).getD none
noncomputable abbrev xc (X:Cx) (sc:Scope) (x:Str) (fv:List Str) (C:Addr) (s0:Shared) (H0:Hp) (ex:List Addr):Cx :=
 { X with N:=x::fv,s₀:=s0,H₀:=H0,env:=compEnvC sc (bM X.env.cells sc.names []) C X.env,outer:=X.stack,ex:=ex,fn:=fun _=>false,pn:=[],xe:=fun _ _=>False }
def gh (X:Cx) (D9:List Expr) (t:TT):Prop :=
 ∀ (Df:List (Addr × Obj)) (s:Shared) (σ:St) (H:Hp) (Q:Bool->Hp->Prop),Inv X Df σ H s->t σ H Q->wpAny (model X.prog X.w) X.A (qP D9 X.env) (TP X Df σ Q) X.xe s
def qT:TT:=fun _ H Q=>Q true H
theorem eP {σ:St} {H:Hp} {Q:Bool->Hp->Prop} (h:Q true H):qT σ H Q:=h
theorem eQ {X:Cx}:gh X [] qT:=fun _ _ _ H _ I h=>wpAny_tests_nil ⟨H,I,h⟩
theorem kL {X:Cx} {c:Expr} {t:TT} (hc:PT X c t):gh X [c] t:=fun Df s σ H Q I h=>wpAny_tests_one (hc Df s σ H Q I h)
def gi (J:It) (js:List Nat) (tt:TT) (te:TE):TE:=fun σ H1 Q=>∃ W:Nat->Nat->List V->Hp->Prop,(∃ m,W 0 m [] H1)/\∀ i m ys H,W i m ys H ->
 (J.stop i H/\∀ p,H p=none->Q (.ref p) (upd H p (.lst ys))) ∨
 (J.go i H/\∃ N:List V->Hp->Prop,(∀ EV H',N EV H'->∃ m',m'<m/\W (i+1) m' EV H') /\
  ∀ x H',J.yld i H x H'->tt (some x::cg js σ) H' fun b H2=>if b=true then te (some x::cg js σ) H2 fun y H3=>ys.length<sizeLine/\N (ys++[y]) H3 else N ys H2)
def qU (wi:TI) (js:List Nat) (tt:TT) (te:TE):TE:=fun σ H Q=>wi σ H fun J H1=>gi J js tt te σ H1 Q
section
variable {X:Cx} {Df:List (Addr × Obj)} {σ:St} {H2:Hp} {s2:Shared} {Ey iter:Expr} {x:Str} {px:Pos} {D9:List Expr} {sc D7:Scope} {pos:Pos} {fv:List Str} {js:List Nat} {tt:TT} {te:TE}
theorem m4 {lo:Int} {n:Nat} {σ:St} {H:Hp} {Q:VK} (Pv:Nat->List V->Hp->Prop) (h0:Pv 0 [] H)
  (hs:∀ i ys H,i<n->Pv i ys H->tt (some (.int (lo+i))::cg js σ) H fun b H2=>if b=true then te (some (.int (lo+i))::cg js σ) H2 fun y H3=>ys.length<sizeLine/\Pv (i+1) (ys++[y]) H3 else Pv (i+1) ys H2)
  (hd:∀ ys H,Pv n ys H->∀ p,H p=none->Q (.ref p) (upd H p (.lst ys))) :
  gi (fh lo n) js tt te σ H Q:=by
 refine ⟨fun i m ys H=>m=n-i/\i<=n/\Pv i ys H,⟨n,by simp,Qu _,h0⟩,?_⟩
 rintro i m ys H ⟨rfl,hi,p⟩
 by_cases Do:i<n
 ·refine .inr ⟨Do,Pv (i+1),fun EV H' p'=>⟨n-(i+1),by lia,rfl,Do,p'⟩,fun x H' y=>?_⟩
  obtain ⟨e,y⟩:=y
  subst e y
  exact hs i ys _ Do p
 ·have e:i=n:=by lia
  subst e
  exact .inl ⟨Qf _,hd ys H p⟩
theorem m5 {K:PySem.W.Frag} {a:Addr} {xs:List V} {σ:St} {H:Hp} {Q:VK} (Pv:Nat->List V->Hp->Prop) (h0:Pv 0 [] H) (hl:∀ i ys H,i<=xs.length->Pv i ys H->aj K H a xs)
  (hs:∀ i x ys H,xs[i]?=some x->Pv i ys H->tt (some x::cg js σ) H fun b H2=>if b=true then te (some x::cg js σ) H2 fun y H3=>ys.length<sizeLine/\Pv (i+1) (ys++[y]) H3 else Pv (i+1) ys H2)
  (hd:∀ ys H,Pv xs.length ys H->∀ p,H p=none->Q (.ref p) (upd H p (.lst ys))) :
  gi (gI K a) js tt te σ H Q:=by
 refine ⟨fun i m ys H=>m=xs.length-i/\i<=xs.length/\Pv i ys H,⟨xs.length,by simp,Qu _,h0⟩,?_⟩
 rintro i m ys H ⟨rfl,hi,p⟩
 have q:=hl i ys H hi p
 by_cases Do:i<xs.length
 ·refine .inr ⟨⟨xs,xs[i],q,by simp [Do]⟩,Pv (i+1),fun EV H' p'=>⟨xs.length-(i+1),by lia,rfl,Do,p'⟩,fun x H' y=>?_⟩
  obtain ⟨e,y⟩:=y
  subst e
  exact hs i x ys _ (y xs q) p
 ·have e:i=xs.length:=by lia
  subst e
  exact .inl ⟨⟨xs,q,Qf _⟩,hd ys H p⟩
end
end L2
namespace Mm
open PySem
theorem qV:∀ (n a b:Nat),a<=n->(a ||| b)=(a ^^^ b)+(a &&& b)
 | 0,a,b,h=>by
  have:a=0:=by lia
  subst this
  simp
 | n+1,a,b,h=>by
  by_cases ha:a=0
  ·subst ha;simp
  ·have ih:=qV n (a / 2) (b / 2) (by lia)
   have e1:(a ||| b) / 2=a / 2 ||| b / 2:=Nat.or_div_two
   have e2:(a ^^^ b) / 2=a / 2 ^^^ b / 2:=Nat.xor_div_two
   have e3:(a &&& b) / 2=a / 2 &&& b / 2:=Nat.and_div_two
   have m1:(a ||| b) % 2=(a % 2 ||| b % 2):=by simpa using Nat.or_mod_two_pow (a:=a) (b:=b) (n:=1)
   have m2:(a ^^^ b) % 2=(a % 2 ^^^ b % 2):=by simpa using Nat.xor_mod_two_pow (a:=a) (b:=b) (n:=1)
   have m3:(a &&& b) % 2=(a % 2 &&& b % 2):=by simpa using Nat.and_mod_two_pow (a:=a) (b:=b) (n:=1)
   have d:∀ x<2,∀ y<2,(x ||| y)=(x ^^^ y)+(x &&& y):=by decide
   have dd:=d (a % 2) (by lia) (b % 2) (by lia)
   lia
theorem fO (a b:Nat):Builtin.bitAnd (a:Int) (b:Int)=((a &&& b:Nat):Int):=by
 rw [PyProof.Rows.bitAnd_pp (by lia) (by lia)]
 simp
theorem m6 (a b:Nat):Builtin.bitOr (a:Int) (b:Int)=((a ||| b:Nat):Int):=by
 have ha:¬ 0<=Builtin.bitNot (a:Int):=by unfold Builtin.bitNot;lia
 have hb:¬ 0<=Builtin.bitNot (b:Int):=by unfold Builtin.bitNot;lia
 unfold Builtin.bitOr
 rw [PyProof.Rows.bitAnd_nn ha hb,PyProof.Rows.bitNot_bitNot,PyProof.Rows.bitNot_bitNot,PyProof.Rows.bitNot_bitNot]
 simp
theorem kM (a b:Nat):Builtin.bitXor (a:Int) (b:Int)=((a ^^^ b:Nat):Int):=by
 unfold Builtin.bitXor
 rw [m6,fO]
 have:=qV a a b (Qf _)
 lia
theorem yw {a m:Nat} (h:a<2 ^ m):(Builtin.Int.intBits (a:Int):Nat)<=m:=intBits_le_iff.mpr (by simpa using h)
end Mm
namespace L2
open PySem PySem.Spec PyProof.Rows
section
variable {X:Cx}
def yx (i j:Int):Prop:=0<=j/\∃ m:Nat,i.natAbs<2 ^ m/\(m:Int)+j<=2 ^ 27
theorem qW:bD X (binaryOp .LShift) (rI yx fun i j=>.int (i*2 ^ j.toNat)):=ip fun i j _ _ _ _ _ hc q=>by
 obtain ⟨h0,m,hm,hs⟩:=hc
 have hb:(Builtin.Int.intBits i:Nat)<=m:=intBits_le_iff.mpr hm
 exact lshift_int h0 (by lia) q
theorem yy {n:String}:fJ X (.builtin "isinstance") (fun xs H Q=>∃ x t b,xs=[x,.ty n]/\cN X.K H x t/\PySem.W.kitOne X.K t (.type n)=some b/\Q (.bl b) H):=by
 intro Df s σ H xs us Q I r h
 obtain ⟨x,t,b,rfl,ty,e,q⟩:=h
 obtain ⟨u,w',rfl,rx,F8⟩:=vals2 r
 cases (show w'=Value.type n from F8)
 exact xK I rx ty e fun tk=>⟨.bl b,H,I.tok _,rfl,q⟩
end
theorem eR:bootBuiltins "len"=some (.builtin "len"):=by decide +kernel
theorem gO:bootBuiltins "isinstance"=some (.builtin "isinstance"):=by decide +kernel
theorem yz:bootBuiltins "int"=some (.type "int"):=by decide +kernel
theorem yA:bootBuiltins "bool"=some (.type "bool"):=by decide +kernel
theorem b9 {X:Cx} {K:PySem.W.Frag} (h:X.K=K):iz X (mT K):=by subst h;exact yd
section
variable {X:Cx}
theorem yB:mS X "int.bit_length" (fun x xs H Q=>∃ i,x=.int i/\xs=[]/\Q (.int ((Builtin.Int.intBits i:Nat):Int)) H):=by
 intro Df s σ H x xs v us Q I rx rs h
 obtain ⟨i,rfl,rfl,q⟩:=h
 obtain ⟨t,rfl⟩:=rx
 cases rs
 exact call_int_bit_length ⟨.int _,H,I.tok _,⟨_,rfl⟩,q⟩
end
theorem kN:bootBuiltins "list"=some (.type "list"):=by decide +kernel
section
variable {X:Cx}
noncomputable def gj (z:Str) (lo hi:Option Int):Str:=⟨((z.cps.toList.drop (HT.sIx z.length 0 lo)).take (HT.sIx z.length z.length hi-HT.sIx z.length 0 lo)).toArray⟩
theorem qX (n d:Nat) (v:Option Int):(match v with | none=>(d:Int) | some i=>max 0 (min (if i<0 then i+(n:Int) else i) (n:Int)))=((HT.sIx n d v:Nat):Int):=by
 cases v with
 | none=>rfl
 | some i =>
  show max 0 (min (if i<0 then i+(n:Int) else i) (n:Int))=(((if i<0 then (i+(n:Int)).toNat else min i.toNat n):Nat):Int)
  by_cases h:i<0
  ·simp only [if_pos h];lia
  ·simp only [if_neg h];lia
theorem yC (lo hi:Option Int) (n:Nat):Builtin.Str.strSliceIndices lo hi 1 n=(List.range (HT.sIx n n hi-HT.sIx n 0 lo)).map (HT.sIx n 0 lo+·):=by
 rw [<- sliceRange_one]
 have e1:=qX n 0 lo
 have e2:=qX n n hi
 rw [<- e1,<- e2]
 rfl
theorem yD (z:Str) (lo hi:Option Int):Txt.slice z lo hi=gj z lo hi:=by
 have hL:=HT.sIx_le z.length 0 (Qu _) lo
 have hH:=HT.sIx_le z.length z.length (Qf _) hi
 have hz:z.cps.toList.length=z.length:=by simp [Str.length]
 unfold Txt.slice gj
 rw [yC]
 split
 ·rename_i h
  have h':HT.sIx z.length z.length hi-HT.sIx z.length 0 lo=z.length:=by simpa using h
  rw [h']
  by_cases h0:HT.sIx z.length 0 lo=0
  ·rw [h0,List.drop_zero,Qv (by lia)]
  ·have:z.length=0:=by lia
   lia
 ·rw [pick_run]
theorem yE (z:Str) (lo hi:Option Int):(gj z lo hi).cps.toList=(z.cps.toList.drop (HT.sIx z.length 0 lo)).take (HT.sIx z.length z.length hi-HT.sIx z.length 0 lo):=rfl
theorem qY (z:Str) (lo hi:Option Int):(gj z lo hi).length<=z.length:=by
 show ((z.cps.toList.drop (HT.sIx z.length 0 lo)).take (HT.sIx z.length z.length hi-HT.sIx z.length 0 lo)).toArray.size<=z.length
 rw [Qj,QD,List.length_drop]
 have hz:z.cps.toList.length=z.length:=by simp [Str.length]
 omega
theorem qZ:jv X (fun x lo hi H Q=>∃ z,x=.str z/\z.length<=sizeLine/\Q (.str (gj z lo hi)) H):=by
 intro Df s σ H x v vl vu lo hi sl Q I rx hs pl pu h
 obtain ⟨z,rfl,hz,q⟩:=h
 obtain ⟨t,rfl⟩:=rx
 rw [<- yD] at q
 refine ⟨"str",_,slot_str_getitem.lookup,typeIs_str s z t,?_⟩
 have key:∀ (l u:Option (Int × Tok)),s.heap.IsSliceOf sl (partValue l) (partValue u) .none->l.map (·.1)=lo->u.map (·.1)=hi->wpAny (model X.prog X.w) X.A (getItem (.str z t) (.ref sl)) (EP X Df σ Q) X.xe s:=by
  intro l u hs' hl hu
  subst hl hu
  exact wpAny_getItem_str_slice (l:=l) (u:=u) (st:=none) hs' rfl (post_val_or_str ⟨QC (Txt.slice_le z _ _) hz,fun t' k=>⟨.str (Txt.slice z (l.map (·.1)) (u.map (·.1))),H,I.tok k,⟨t',rfl⟩,q⟩⟩)
 cases pl with
 | none=>cases pu with
  | none=>exact key none none hs rfl rfl
  | int j tj=>exact key none (some (j,tj)) hs rfl rfl
 | int i ti=>cases pu with
  | none=>exact key (some (i,ti)) none hs rfl rfl
  | int j tj=>exact key (some (i,ti)) (some (j,tj)) hs rfl rfl
noncomputable def m7 (n:Nat) (y:Nat->V):It:=⟨fun i _=>i<n,fun i H x H'=>H'=H/\x=y i,fun i _=>n<=i⟩
end
theorem yF (K:PySem.W.Frag) (C:Addr):PySem.W.kitOne K (.ref C) (.ref C)=some true:=by
 unfold PySem.W.kitOne
 rw [if_pos (by simp)]
end L2
namespace L2
theorem bt {p:Prop} (h:∀ G:Prop,(p->G)->G):p:=h p id
theorem hid2.{u,v} {α:Sort u} {β:Sort v} {p:α->β->Prop} (c:α) (y:β) (h:∀ G:α->β->Prop,(∀ a b,p a b->G a b)->G c y):p c y:=h p fun _ _ x=>x
end L2
namespace L2
open PySem PySem.Spec PyProof.Rows
theorem yG {prog:Program} {w:World} {A:Around} {R:Result->Shared->Prop} {s:Shared} {Ey iter:Expr} {tg:Expr} {D9:List Expr} {sc:Scope} {pos:Pos} {it DF:Value} {env:Env} (J:Nat->Shared->Prop)
  (one:∀ k st,J k st->wpAny (model prog w) A (pyNext it) (fun r s₁=>match r with
   | none=>R (.ok .next) s₁
   | some v=>wpAny (model prog w) A (letOwnedTupleGo tg it v) (fun _ sg=>wpAny (model prog w) A (assign tg env v) (fun _ s₂ =>
     wpAny (model prog w) A (qP D9 env) (fun ok s₃ =>
      if ok=true then wpAny (model prog w) A (eval Ey env) (fun y s₄=>wpAny (model prog w) A (call (.builtin "list.append") [DF,y]) (fun _ s₅=>∃ m,m<k/\J m s₅) (fun _ _=>False) s₄) (fun _ _=>False) s₃
      else ∃ m,m<k/\J m s₃) (fun _ _=>False) s₂) (fun _ _=>False) sg) (fun _ _=>False) s₁) (fun _ _=>False) st)
  (k0:Nat) (h0:J k0 s):codeAny (model prog w) A (.compLoop (.ListComp Ey [⟨tg,iter,D9,0⟩] sc pos) 0 it DF env) R s:=by
 refine codeAny_loop rfl J (fun k st hk=>?_) k0 h0
 show wpAny _ A ((compTurn (.ListComp Ey [⟨tg,iter,D9,0⟩] sc pos) 0 it DF env).onRaise (fun y=>do noteFrame y env;theTreesLotGoes y)) _ _ st
 refine wpAny_noted ?_
 rw [compTurn_list]
 refine Qb (wpAny_standAt (Qb (QV (one k st hk) (fun r s₁ h₁=>?_) fun _ _ z=>z.elim)))
 cases r with
 | none=>exact Qk h₁
 | some v =>
  refine Qb (QV h₁ (fun _ sg hg=>?_) fun _ _ z=>z.elim)
  refine Qb (QV hg (fun _ s₂ h₂=>?_) fun _ _ z=>z.elim)
  refine Qb (QV h₂ (fun ok s₃ h₃=>?_) fun _ _ z=>z.elim)
  cases ok with
  | false=>exact Qk ⟨rfl,h₃⟩
  | true =>
   refine Qb (Qb (QV h₃ (fun y s₄ h₄=>?_) fun _ _ z=>z.elim))
   exact Qb (QV h₄ (fun _ s₅ h₅=>Qk (Qk ⟨rfl,h₅⟩)) fun _ _ z=>z.elim)
structure kO (D7 sc:Scope) (NX:List Str) (xs:List Str) (fv:List Str) (js:List Nat):Prop where
 kind:sc.kind=.function
 kindX:D7.kind=.function
 cell:∀ y∈sc.names,y.2≠.cell
 own:∀ x∈xs,sc.names.lookup x=some .local
 names:∀ y∈sc.names,y.2=.local->sc.names.lookup y.1=some .local
 free:∀ y∈sc.names,y.2=.free->D7.names.lookup y.1=some .cell
 nd:(xs++fv).Nodup
 at':js.map (fun j=>NX[j]?)=fv.map some
 fr:∀ y∈fv,sc.names.lookup y=some .free
noncomputable abbrev dr (X:Cx) (sc:Scope) (xs:List Str) (fv:List Str) (C:Addr) (s0:Shared) (H0:Hp) (ex:List Addr):Cx :=
 { X with N:=xs++fv,s₀:=s0,H₀:=H0,env:=compEnvC sc (bM X.env.cells sc.names []) C X.env,outer:=X.stack,ex:=ex,fn:=fun _=>false,pn:=[],xe:=fun _ _=>False }
def kP (k:Nat) (js:List Nat) (g:TG) (tt:TT) (te:TE) (σ:St) (ys:List V) (N:List V->Hp->Prop) (x:V) (H':Hp):Prop :=
 ∀ os:List (Option V),os.length=k->g x (os++cg js σ) H' fun σ6 H6=>(∃ D1:List (Option V),D1.length=k/\σ6=D1++cg js σ) /\
  tt σ6 H6 fun b H2=>if b=true then te σ6 H2 fun y H3=>ys.length<sizeLine/\N (ys++[y]) H3 else N ys H2
def m8 (J:It) (k:Nat) (js:List Nat) (g:TG) (tt:TT) (te:TE):TE:=fun σ H1 Q=>∃ W:Nat->Nat->List V->Hp->Prop,(∃ m,W 0 m [] H1)/\∀ i m ys H,W i m ys H ->
 (J.stop i H/\∀ p,H p=none->Q (.ref p) (upd H p (.lst ys))) ∨
 (J.go i H/\∃ N:List V->Hp->Prop,(∀ EV H',N EV H'->∃ m',m'<m/\W (i+1) m' EV H')/\∀ x H',J.yld i H x H'->kP k js g tt te σ ys N x H')
def q5 (wi:TI) (k:Nat) (js:List Nat) (g:TG) (tt:TT) (te:TE):TE:=fun σ H Q=>wi σ H fun J H1=>m8 J k js g tt te σ H1 Q
section
variable {X:Cx} {Df:List (Addr × Obj)} {σ:St} {H2:Hp} {s2:Shared} {Ey iter tg:Expr} {xs:List Str} {D9:List Expr} {sc D7:Scope} {pos:Pos} {fv:List Str} {js:List Nat} {g:TG} {tt:TT} {te:TE}
theorem m9 (S:kO D7 sc X.N xs fv js) (Fa:X.env.scope=D7) (DM:X.calm=true) (hgg:∀ C s0 H0 ex,PG (dr X sc xs fv C s0 H0 ex) tg g)
  (ht:∀ C s0 H0 ex,gh (dr X sc xs fv C s0 H0 ex) D9 tt) (he:∀ C s0 H0 ex,PE (dr X sc xs fv C s0 H0 ex) Ey te)
  {it:Addr} {fp:List Addr} {tn:Nat->Heap->Prop} {J:It} (I2:Inv X Df σ H2 s2) (T:fX X.prog X.w X.K tg J fp it tn) (FE:tn 0 s2.heap) (f2:∀ b∈fp,cc X Df H2 b)
  {Q:VK} {W:Nat->Nat->List V->Hp->Prop} (w0:∃ m,W 0 m [] H2)
  (step:∀ i m ys H,W i m ys H->(J.stop i H/\∀ p,H p=none->Q (.ref p) (upd H p (.lst ys))) ∨
   (J.go i H/\∃ N:List V->Hp->Prop,(∀ EV H',N EV H'->∃ m',m'<m/\W (i+1) m' EV H') /\
    ∀ x H',J.yld i H x H'->kP xs.length js g tt te σ ys N x H'))
  {RR:Value->Addr->Result->Shared->Prop} {E:Value->Shared->Prop}
  (fin:∀ (D C:Addr) (s':Shared) (H':Hp),Inv X Df σ H' s'->Q (.ref D) H'->(∃ m,s'.heap.Ns C m)->cc X Df H' C->RR (.ref D) C (.ok .next) s') :
  wpAny (model X.prog X.w) X.A (newList []) (fun DF s₃=>wpAny (model X.prog X.w) X.A (newFunctionEnv sc X.env.globals (bM X.env.cells sc.names []) [] X.env.qual none .none (some X.env)) (fun G3 s₄ =>
   codeAny (model X.prog X.w) X.A (.compStart (.ListComp Ey [⟨tg,iter,D9,0⟩] sc pos) 0 (.ref it) DF { G3 with scope:=relabel sc X.env }) (RR DF G3.locals) s₄) E s₃) E s2:=by
 have DE:∀ y∈sc.names,y.2=.free->∃ c,X.env.cells.lookup y.1=some c:=fun y hy hf=>I2.ok.has y.1 (.inl (by show X.env.scope.names.lookup y.1=_;rw [Fa];exact S.free y hy hf))
 obtain ⟨cl1,_,cl3⟩:=mZ (cells:=X.env.cells) sc.names [] DE (fun y c h=>by simp at h)
 refine wpAny_newObj_type (wpAny_newFunctionEnv S.cell (by intro y hy;simp at hy) (fun h₁ hns₁ hsb₁=>?_) S.kind)
 dsimp only at hns₁ hsb₁ ⊢
 generalize hG:s2.heap.push { cls:=.type "list",dict:=none,data:=.seq ([]:List Value).toArray }=G at hns₁ hsb₁ ⊢
 have hGz:G.objs.size=s2.heap.objs.size+1:=by rw [<- hG,Heap.size_push]
 have Gi:∀ b o,s2.heap.get? b=some o->G.get? b=some o:=fun b o e=>hG ▸ Qg _ e
 have upH:∀ b o,G.get? b=some o->h₁.get? b=some o:=fun b o e=>hsb₁.extBut b o (QB (Qs e)) (Qg _ e)
 have ltD:∀ b o,s2.heap.get? b=some o->b≠s2.heap.objs.size:=fun b o e=>QB (Qs e)
 have fpo:∀ b∈fp,∃ o,s2.heap.get? b=some o:=fun b hb=>by obtain ⟨o,e,_⟩:=T.obj 0 _ FE b hb;exact ⟨o,e⟩
 have fpD:∀ b∈fp,b≠s2.heap.objs.size:=fun b hb=>by obtain ⟨o,e⟩:=fpo b hb;exact ltD b o e
 have fpC:∀ b∈fp,b≠G.objs.size:=fun b hb=>by obtain ⟨o,e⟩:=fpo b hb;exact QB (Qs (Gi b o e))
 have cellO:∀ y c,(bM X.env.cells sc.names []).lookup y=some c->∃ v,s2.heap.IsCell c v:=fun y c e=>I2.cell y c (cl1 y c e)
 have cellD:∀ y c,(bM X.env.cells sc.names []).lookup y=some c->c≠s2.heap.objs.size:=fun y c e=>by obtain ⟨v,q⟩:=cellO y c e;exact QB q.lt
 have Dfs:s2.heap.objs.size∉di X.stack:=fun hb=>by
  rcases Qn (I2.stkSub _ hb) with z | z
  ·exact absurd I2.lt (by rw [<- z];exact Nat.lt_irrefl _)
  ·exact I2.nofs (Qf _) z
 have fpfs:∀ b∈fp,b∉di X.stack:=fun b hb hz=>by
  refine bt fun _ γ=>?_;obtain ⟨_,f1,f2',_⟩:=f2 b hb;refine γ ?_
  rcases Qn (I2.stkSub _ hz) with z | z
  ·exact f1 z
  ·exact f2' z
 have HD:H2 s2.heap.objs.size=none:=I2.hok.fresh (Qf _)
 have HC:H2 G.objs.size=none:=I2.hok.fresh (by rw [hGz];exact Nat.le_succ _)
 have DC:s2.heap.objs.size≠G.objs.size:=by rw [hGz];exact QB (Nat.lt_succ_self _)
 have okC:Cx.Ok (dr X sc xs fv G.objs.size { s2 with heap:=G } H2 (s2.heap.objs.size::fp)):=by
  refine ⟨I2.ok.mod,S.kind,I2.ok.glob,I2.ok.blt,Qf _,fun y z c h1 h2=>I2.ok.inj y z c (cl1 _ _ h1) (cl1 _ _ h2),fun y hy=>?_,fun y c hfn _=>(by cases hfn),I2.ok.hd,I2.ok.frames,.inl rfl,fun b hb=>?_,fun b o e=>?_,?_,fun b o e hb=>?_,fun b hb=>?_,?_,I2.stkFree⟩
  ·exact Option.isSome_iff_exists.mp (cl3 y (qS S.cell hy))
  ·rcases Qn hb with z | z
   ·subst z;exact ⟨DC,cellD⟩
   ·refine ⟨fpC b z,fun y c e=>?_⟩
    refine bt fun _ γ=>?_;obtain ⟨_,_,_,_,f4,_⟩:=f2 b z;refine γ ?_
    exact f4 y c (cl1 y c e)
  ·exact ⟨Gi b o (I2.bs b o e).1,(I2.bs b o e).2⟩
  ·show X.base.objs.size<=G.objs.size
   rw [hGz];exact Nat.le_succ_of_le (QC I2.ok.bsz I2.sz)
  ·rcases Qn hb with z | z
   ·exact ltD b o (I2.bk b o e) z
   ·refine bt fun _ γ=>?_;obtain ⟨_,_,_,f3,_⟩:=f2 b z;refine γ ?_
    rcases f3 with q | q
    ·exact I2.ok.noex b o e q
    ·exact absurd (QI (Qs e) (QC I2.ok.bsz q)) (Nat.lt_irrefl _)
  ·rcases Qn hb with z | z
   ·subst z;exact Dfs
   ·exact fpfs b z
  ·exact (I2.stack).of_keeps fun b o e _=>⟨o,Gi b o e,rfl⟩
 have lenC:∀ os:List (Option V),os.length=xs.length->(os++cg js σ).length=(xs++fv).length:=fun os ho=>by
  have:=congrArg List.length S.at'
  simp only [Qd] at this
  simp [cg,this,ho]
 have hacc:h₁.get? s2.heap.objs.size=some { cls:=.type "list",dict:=none,data:=.seq ([]:List Value).toArray }:=upH _ _ (hG ▸ Qz _ rfl)
 have I4:Inv (dr X sc xs fv G.objs.size { s2 with heap:=G } H2 (s2.heap.objs.size::fp)) [(s2.heap.objs.size,{ cls:=.type "list",dict:=none,data:=.seq ([]:List Value).toArray })] (xs.map (fun _=>none)++cg js σ) H2 { s2 with heap:=h₁,toks:=s2.toks+([]:List (Str × Value)).length }:=by
  refine ⟨okC,rfl,I2.bare,Un.kept upH,⟨_,hns₁,fun i y v e1 e2 e3=>?_⟩,fun y c e=>?_,HC,fun y c e=>I2.freeC y c (cl1 y c e),fun p hp=>?_,I2.hok.kept fun b u e=>upH b u (Gi b u e),lenC _ (by simp)⟩
  ·by_cases Ej:i<xs.length
   ·have:(xs.map (fun _=>(none:Option V))++cg js σ)[i]?=some none:=by
     rw [Qp (by simpa using Ej),Qr,Qa Ej];rfl
    rw [this] at e2
    cases e2
   ·obtain ⟨i',rfl⟩:∃ i',i=xs.length+i':=⟨i-xs.length,by lia⟩
    have e1':fv[i']?=some y:=by
     have e1a:(xs++fv)[xs.length+i']?=some y:=e1
     rw [Ql (by lia),Nat.add_sub_cancel_left] at e1a
     exact e1a
    have e2':(cg js σ)[i']?=some (some v):=by
     have e2a:=e2
     rw [Ql (by simp),Qd,Nat.add_sub_cancel_left] at e2a
     exact e2a
    have q:=congrArg (fun l=>l[i']?) S.at'
    simp only [Qr,e1',Option.map_some] at q
    cases hj:js[i']? with
    | none=>rw [hj] at q;cases q
    | some j =>
     rw [hj] at q
     have hj':X.N[j]?=some y:=Qq q
     unfold cg at e2'
     rw [Qr,hj] at e2'
     have e2'':(σ[j]?).getD none=some v:=Qq e2'
     have e2b:σ[j]?=some (some v):=by
      cases hh:σ[j]? with
      | none=>rw [hh] at e2'';cases e2''
      | some o=>rw [hh] at e2'';exact congrArg some e2''
     have hm:y∈fv:=Qh e1'
     have hcX:D7.names.lookup y=some .cell:=S.free (y,.free) (PySem.mem_of_lookup (S.fr y hm)) rfl
     have kX:X.env.kindOf y=some .cell:=by show X.env.scope.names.lookup y=_;rw [Fa];exact hcX
     obtain ⟨m,hn,hl⟩:=I2.loc
     obtain ⟨u,r,lk⟩:=hl j y v hj' e2b (.inr (.inl kX))
     refine ⟨u,r,?_⟩
     rcases lk with ⟨k,_⟩ | ⟨_,c,ec,z⟩
     ·rw [kX] at k;cases k
     ·refine .inr ⟨.inl (qQ (by rw [Fa];exact S.kindX) (S.fr y hm) kX),c,?_,?_⟩
      ·obtain ⟨c',ec'⟩:=Option.isSome_iff_exists.mp (cl3 y (PySem.mem_of_lookup (S.fr y hm)))
       have:=cl1 y c' ec'
       rw [ec] at this;cases this
       exact ec'
      ·obtain ⟨o,ho,hd⟩:=z
       exact ⟨o,upH c o (Gi c o ho),hd⟩
  ·refine bt fun _ γ=>?_;obtain ⟨v,o,ho,hd⟩:=cellO y c e;refine γ ?_
   exact ⟨v,o,upH c o (Gi c o ho),hd⟩
  ·have EJ:p=(s2.heap.objs.size,{ cls:=.type "list",dict:=none,data:=.seq ([]:List Value).toArray }):=by simpa using hp
   subst EJ
   exact ⟨hacc,HD,DC,Dfs,fun v z=>by cases z⟩
 have loop:codeAny (model X.prog X.w) X.A (.compLoop (.ListComp Ey [⟨tg,iter,D9,0⟩] sc pos) 0 (.ref it) (.ref s2.heap.objs.size) (compEnvC sc (bM X.env.cells sc.names []) G.objs.size X.env)) (RR (.ref s2.heap.objs.size) G.objs.size) { s2 with heap:=h₁,toks:=s2.toks+([]:List (Str × Value)).length }:=by
  obtain ⟨m0,w0⟩:=w0
  have fok:∀ {H':Hp} {o:Obj},(∀ b∈fp,H' b=none)->∀ b∈fp,cc (dr X sc xs fv G.objs.size { s2 with heap:=G } H2 (s2.heap.objs.size::fp)) [(s2.heap.objs.size,o)] H' b:=fun {H' o} hn b hb=>by
   refine ⟨hn b hb,fpC b hb,fpfs b hb,.inl (Qy _ hb),fun y c e=>?_,fun p hp=>?_⟩
   ·refine bt fun _ γ=>?_;obtain ⟨_,_,_,_,f4,_⟩:=f2 b hb;refine γ ?_
    exact f4 y c (cl1 y c e)
   ·have EJ:p=(s2.heap.objs.size,o):=by simpa using hp
    subst EJ
    exact (fpD b hb).symm
  refine yG (fun k st=>∃ (i:Nat) (ys:List V) (its:List Value) (n:Nat) (os:List (Option V)) (H':Hp),os.length=xs.length/\Inv (dr X sc xs fv G.objs.size { s2 with heap:=G } H2 (s2.heap.objs.size::fp)) [(s2.heap.objs.size,{ cls:=.type "list",data:=.seq its.toArray n })] (os++cg js σ) H' st /\
   ap ys its/\ys.length<=sizeLine/\tn i st.heap/\(∀ b∈fp,H' b=none)/\W i k ys H') ?_ m0
   ⟨0,[],[],_,xs.map (fun _=>none),H2,by simp,I4,.nil,Qu _,T.keep _ _ _ FE fun b _ o e=>upH b o (Gi b o e),fun b hb=>(f2 b hb).1,w0⟩
  rintro k s3 hh;refine bt fun _ γ=>?_;obtain ⟨i,ys,its,n,os,H3,Es,I3,rv,hz,st3,fr3,w3⟩:=hh;refine γ ?_
  rcases step i k ys H3 w3 with ⟨stop,q⟩ | ⟨go,N,hN,hgo⟩
  ·refine aE (T.done (dr X sc xs fv G.objs.size { s2 with heap:=G } H2 (s2.heap.objs.size::fp)) rfl rfl rfl DM i _ s3 _ H3 _ I3 (fok fr3) st3 stop) fun r s4 hsl38=>?_
   obtain ⟨hr,I4⟩:=hsl38
   subst hr
   refine bt fun _ γ=>?_;obtain ⟨pD,pn,_,_,_⟩:=I4.pin _ (Qx _ QF);refine γ ?_
   have B:=I4.base
   have nD:∀ b o,s2.heap.get? b=some o->b∉fp->b∉s2.heap.objs.size::fp:=fun b o e hx hm=>(Qn hm).elim (ltD b o e) hx
   have neH:∀ b u,H2 b=some u->b≠s2.heap.objs.size:=fun b u e z=>by rw [z,HD] at e;cases e
   have JX:Inv X Df σ (upd H3 s2.heap.objs.size (.lst ys)) s4:=by
    refine I2.call' (ch:=fp) I4.os ⟨fun b o e hn hb hx=>B.keep b o (Gi b o e) hn hb (nD b o e hx),fun b o e hn hb hx=>B.slot b o (Gi b o e) hn hb (nD b o e hx),fun b o e hn hx=>?_,fun b o e hx=>B.there b o (Gi b o e) (nD b o e hx),fun b xs e=>?_,fun b o u e=>?_,fun b ps e=>?_⟩ (fun b u e=>?_) I4.bare fun b hb=>?_
    ·rw [al (ltD b o e)];exact B.free b o (Gi b o e) hn (nD b o e hx)
    ·rw [al (neH b _ e)];exact B.tups b xs e
    ·rw [al (neH b _ e)];exact B.frzs b o u e
    ·rw [al (neH b _ e)];exact B.tbls b ps e
    ·by_cases hb:b=s2.heap.objs.size
     ·subst hb
      rw [ai] at e;cases e
      exact ⟨hz,its,n,rv,pD⟩
     ·rw [al hb] at e
      exact (I4.hok b u e).stay (fun _ _ _ z=>z) (fun c z=>by rw [al (cr z pn)];exact z) fun c xs z=>by rw [al (cr z pn)];exact z
    ·refine bt fun _ γ=>?_;obtain ⟨_,f1,_,f3,f4,f5⟩:=f2 b hb;refine γ ?_
     exact ⟨f3,f1,f4,f5⟩
   refine fin _ _ s4 _ JX (q _ pn) (by obtain ⟨m,hm,_⟩:=I4.loc;exact ⟨m,hm⟩) (I2.fpOk (by rw [hGz];exact Nat.le_succ _) ?_)
   rw [al DC.symm];exact I4.free
  ·refine aE (T.item (dr X sc xs fv G.objs.size { s2 with heap:=G } H2 (s2.heap.objs.size::fp)) rfl rfl rfl DM i _ s3 _ H3 _ I3 (fok fr3) st3 go) fun r s4 hsl39=>?_
   obtain ⟨u,hr,h4⟩:=hsl39
   subst hr
   refine aE h4 fun _ s5 hsl40=>?_
   obtain ⟨y,H5,I5,r5,y5,st5,fr5⟩:=hsl40
   have I5':=I5.pinned (fok fr5) (T.obj _ _ st5)
   refine aE (hgg _ _ _ _ _ s5 _ H5 y u _ I5' r5 (hgo y _ y5 os Es)) fun _ s6 hsl41=>?_
   obtain ⟨σ6,H6,I6,⟨D1,hos',eσ⟩,q6⟩:=hsl41
   subst eσ
   refine aE (ht _ _ _ _ _ s6 _ _ _ I6 q6) fun b s7 hsl42=>?_
   obtain ⟨H7,I7,q7⟩:=hsl42
   cases b with
   | false =>
    rw [if_neg QG] at q7 ⊢
    obtain ⟨m',hm,w7⟩:=hN ys H7 q7
    exact ⟨m',hm,i+1,ys,its,n,D1,H7,hos',I7.unpinned,rv,hz,T.keep _ _ _ st5 fun b hb o e=>(I7.pin (b,o) (Qx _ (Qx _ (fi hb e)))).1,fun b hb=>by
     obtain ⟨o,e,d⟩:=T.obj _ _ st5 b hb
     exact (I7.pin (b,o) (Qx _ (Qx _ (fi hb e)))).2.1,w7⟩
   | true =>
    rw [if_pos rfl] at q7 ⊢
    refine aE (he _ _ _ _ _ s7 _ H7 _ I7 q7) fun u8 s8 hsl43=>?_
    obtain ⟨y8,H8,I8,r8,hl8,q8⟩:=hsl43
    obtain ⟨m',hm,w8⟩:=hN _ H8 q8
    refine bt fun _ γ=>?_;obtain ⟨pD,pn,pC,pf,_⟩:=I8.pin _ (Qx _ (List.mem_append_left _ QF));refine γ ?_
    refine wpAny_list_append_plain (items:=its.toArray) ⟨n,pD⟩ (fun h9 hl9 sb9=>?_) (by rw [Qj,<- rv.length];exact QY hl8)
    have pinF:∀ p∈gK fp s5.heap,p∈[(s2.heap.objs.size,({ cls:=.type "list",data:=.seq its.toArray n }:Obj))]++gK fp s5.heap:=fun p hp=>Qx _ hp
    have I8a:=I8.pins_of (pins':=gK fp s5.heap) fun p hp=>I8.pin p (Qx _ (pinF p hp))
    have I9:=I8a.turned (it:=s2.heap.objs.size) (h':=h9) (t':=s8.toks) (fun b o hb e=>(sb9.2 b hb).trans e) pn DC (.inl QF) (fun y c e=>cellD y c e) fun p hp=>fpD p.1 (qa (by simpa using hp)).1
    obtain ⟨n9,e9⟩:=hl9
    have e9':h9.get? s2.heap.objs.size=some { cls:=.type "list",data:=.seq (its++[u8]).toArray n9 }:=by
     rw [e9,show (its++[u8]).toArray=its.toArray.push u8 by simp]
    refine ⟨m',hm,i+1,ys++[y8],its++[u8],n9,D1,H8,hos',I9.pins_of fun p hp=>?_,rv.append (.cons r8 .nil),by rw [QK];exact hl8,T.keep _ _ _ st5 fun b hb o e=>(I9.pin (b,o) (Qx _ (fi hb e))).1,fun b hb=>?_,w8⟩
    ·have EJ:p=(s2.heap.objs.size,{ cls:=.type "list",data:=.seq (its++[u8]).toArray n9 }):=by simpa using hp
     subst EJ
     exact ⟨e9',pn,DC,pf,fun v z=>by cases z⟩
    ·obtain ⟨o,e,d⟩:=T.obj _ _ st5 b hb
     exact (I9.pin (b,o) (Qx _ (fi hb e))).2.1
 exact codeAny_compStart_list loop (T.self _ 0 _ _ _ (T.keep _ _ _ FE fun b _ o e=>upH b o (Gi b o e)) loop)
theorem kR {wi:TI} (D7:Scope) (NX fv:List Str) (js:List Nat) (hNX:X.N=NX) (S:kO D7 sc NX xs fv js) (Fa:X.env.scope=D7) (DM:X.calm=true) (hi:PI X tg iter wi) (hgg:∀ C s0 H0 ex,PG (dr X sc xs fv C s0 H0 ex) tg g)
  (ht:∀ C s0 H0 ex,gh (dr X sc xs fv C s0 H0 ex) D9 tt) (he:∀ C s0 H0 ex,PE (dr X sc xs fv C s0 H0 ex) Ey te)
  (hs:∀ v,foldedSetIterable iter X.env v=pure v:=by intro _;rfl):PE X (.ListComp Ey [⟨tg,iter,D9,0⟩] sc pos) (q5 wi xs.length js g tt te):=by
 intro Df s σ H Q I h
 rw [<- hNX] at S
 have DE:∀ y∈sc.names,y.2=.free->∃ c,X.env.cells.lookup y.1=some c:=fun y hy hf=>I.ok.has y.1 (.inl (by show X.env.scope.names.lookup y.1=_;rw [Fa];exact S.free y hy hf))
 rw [eval_ListComp]
 refine wpAny_comprehension_free (use:=none) rfl hs (iC DE) S.kind S.names (aE (hi Df s σ H _ I h) fun v s1 h1=>aE h1 fun itv s2 h2=>?_)
 obtain ⟨it,fp,tn,J,H2,e,I2,T,FE,f2,W,w0,step⟩:=h2
 subst e
 refine m9 (RR:=fun DF C=>compPost (model X.prog X.w) X.A X.xe none (EP X Df σ Q) DF C) S Fa DM hgg ht he I2 T FE f2 w0 step fun D C s' H' I' q hsl44 hC=>?_
 obtain ⟨m,hm⟩:=hsl44
 obtain ⟨f0,f1,_,f3,f4,f5⟩:=hC
 exact ⟨m,hm,fun h' sb=>⟨.ref D,H',I'.turned (t':=s'.toks) (fun b o hb e=>(sb.2 b hb).trans e) f0 f1 f3 f4 f5,rfl,q⟩⟩
theorem yH {wi:TI} {i:Nat} {y:Str} {py GH:Pos} (D7:Scope) (NX fv:List Str) (js:List Nat) (hNX:X.N=NX) (S:kO D7 sc NX xs fv js) (Fa:X.env.scope=D7) (DM:X.calm=true) (hi:PI X tg iter wi) (hgg:∀ C s0 H0 ex,PG (dr X sc xs fv C s0 H0 ex) tg g)
  (ht:∀ C s0 H0 ex,gh (dr X sc xs fv C s0 H0 ex) D9 tt) (he:∀ C s0 H0 ex,PE (dr X sc xs fv C s0 H0 ex) Ey te)
  (hN:X.N.Nodup) (hy:X.N[i]?=some y) (hl:X.env.scope.names.lookup y=some .local) (hsw:swapsWith (.ListComp Ey [⟨tg,iter,D9,0⟩] sc pos) (some (.Name y py)) GH.line X.env=pure true)
  (hs:∀ v,foldedSetIterable iter X.env v=pure v:=by intro _;rfl):PS X (.Assign [.Name y py] (.ListComp Ey [⟨tg,iter,D9,0⟩] sc pos) GH) (jp (q5 wi xs.length js g tt te) (aW i)):=by
 intro Df s σ H D I h
 rw [<- hNX] at S
 have DE:∀ y∈sc.names,y.2=.free->∃ c,X.env.cells.lookup y.1=some c:=fun y hy hf=>I.ok.has y.1 (.inl (by show X.env.scope.names.lookup y.1=_;rw [Fa];exact S.free y hy hf))
 rw [exec_Assign_Name_used _ _ _ _ hsw]
 refine Qb (wpAny_standAt (Qb ?_))
 show wpAny _ _ (do let _ <- comprehension (.ListComp Ey [⟨tg,iter,D9,0⟩] sc pos) sc X.env _ (newList []) false (eval iter X.env) (some (assign (.Name y py) X.env))) _ _ s
 refine Qb (QV (wpAny_comprehension_free (use:=some (assign (.Name y py) X.env)) (Q:=fun _ st=>SP X Df D .next st) rfl hs (iC DE) S.kind S.names
  (aE (hi Df s σ H _ I h) fun v s1 h1=>aE h1 fun itv s2 h2=>?_)) (fun _ st hq=>Qk (Qk hq)) fun _ _ e=>e)
 obtain ⟨it,fp,tn,J,H2,e,I2,T,FE,f2,W,w0,step⟩:=h2
 subst e
 refine m9 (Q:=fun v H1=>aW i v σ H1 D.nx) (RR:=fun DF C=>compPost (model X.prog X.w) X.A X.xe (some (assign (.Name y py) X.env)) (fun _ st=>SP X Df D .next st) DF C) S Fa DM hgg ht he I2 T FE f2 w0 step fun Dl C s' H' I' q hsl45 hC=>?_
 obtain ⟨m,hm⟩:=hsl45
 obtain ⟨f0,f1,_,f3,f4,f5⟩:=hC
 refine wpAny_assign_Name (mD I' hN hy (.inl hl) (show RelV (.ref Dl) (.ref Dl) from rfl) (fun s'' I'' hsl46=>?_) (.inr hl))
 obtain ⟨a,sb,ha⟩:=hsl46
 have aC:C≠a:=fun z=>by
  rcases ha with ha | ha
  ·exact f1 (z.trans ha)
  ·exact f4 y a ha z.symm
 refine ⟨m,hm.sameBut sb aC,fun h' sb'=>?_⟩
 exact ⟨_,_,I''.turned (t':=s''.toks) (fun b o hb e=>(sb'.2 b hb).trans e) f0 f1 f3 f4 f5,q⟩
end
theorem jB.two {D7 sc:Scope} {NX:List Str} {x:Str} {fv:List Str} {js:List Nat} (S:jB D7 sc NX x fv js):kO D7 sc NX [x] fv js :=
 ⟨S.kind,S.kindX,S.cell,fun y hy=>by rw [Qt hy];exact S.own,S.names,S.free,S.nd,S.at',S.fr⟩
section
variable {X:Cx} {Df:List (Addr × Obj)} {σ:St} {H2:Hp} {s2:Shared} {Ey iter:Expr} {x:Str} {px:Pos} {D9:List Expr} {sc D7:Scope} {pos:Pos} {fv:List Str} {js:List Nat} {tt:TT} {te:TE}
theorem q9 (S:jB D7 sc X.N x fv js) (Fa:X.env.scope=D7) (DM:X.calm=true)
  (ht:∀ C s0 H0 ex,gh (xc X sc x fv C s0 H0 ex) D9 tt) (he:∀ C s0 H0 ex,PE (xc X sc x fv C s0 H0 ex) Ey te)
  {it:Addr} {fp:List Addr} {tn:Nat->Heap->Prop} {J:It} (I2:Inv X Df σ H2 s2) (T:fX X.prog X.w X.K (.Name x px) J fp it tn) (FE:tn 0 s2.heap) (f2:∀ b∈fp,cc X Df H2 b)
  {Q:VK} {W:Nat->Nat->List V->Hp->Prop} (w0:∃ m,W 0 m [] H2)
  (step:∀ i m ys H,W i m ys H->(J.stop i H/\∀ p,H p=none->Q (.ref p) (upd H p (.lst ys))) ∨
   (J.go i H/\∃ N:List V->Hp->Prop,(∀ EV H',N EV H'->∃ m',m'<m/\W (i+1) m' EV H') /\
    ∀ x H',J.yld i H x H'->tt (some x::cg js σ) H' fun b H2=>if b=true then te (some x::cg js σ) H2 fun y H3=>ys.length<sizeLine/\N (ys++[y]) H3 else N ys H2))
  {RR:Value->Addr->Result->Shared->Prop} {E:Value->Shared->Prop}
  (fin:∀ (D C:Addr) (s':Shared) (H':Hp),Inv X Df σ H' s'->Q (.ref D) H'->(∃ m,s'.heap.Ns C m)->cc X Df H' C->RR (.ref D) C (.ok .next) s') :
  wpAny (model X.prog X.w) X.A (newList []) (fun DF s₃=>wpAny (model X.prog X.w) X.A (newFunctionEnv sc X.env.globals (bM X.env.cells sc.names []) [] X.env.qual none .none (some X.env)) (fun G3 s₄ =>
   codeAny (model X.prog X.w) X.A (.compStart (.ListComp Ey [⟨.Name x px,iter,D9,0⟩] sc pos) 0 (.ref it) DF { G3 with scope:=relabel sc X.env }) (RR DF G3.locals) s₄) E s₃) E s2:=by
 refine m9 (xs:=[x]) (g:=aW 0) (RR:=RR) S.two Fa DM (fun C s0 H0 ex=>a9 S.nd rfl (.inl (lookup_relabel_local S.own)) (.inr (lookup_relabel_local S.own))) ht he I2 T FE f2 w0 (fun i m ys H w=>?_) fin
 rcases step i m ys H w with h | ⟨go,N,hN,st⟩
 ·exact .inl h
 ·refine .inr ⟨go,N,hN,fun y H' hy os Es=>?_⟩
  obtain ⟨o,rfl⟩:=List.length_eq_one_iff.mp Es
  exact ⟨⟨[some y],rfl,rfl⟩,st y H' hy⟩
theorem gP {wi:TI} (D7:Scope) (NX fv:List Str) (js:List Nat) (hNX:X.N=NX) (S:jB D7 sc NX x fv js) (Fa:X.env.scope=D7) (DM:X.calm=true) (hi:PI X (.Name x px) iter wi)
  (ht:∀ C s0 H0 ex,gh (xc X sc x fv C s0 H0 ex) D9 tt) (he:∀ C s0 H0 ex,PE (xc X sc x fv C s0 H0 ex) Ey te)
  (hs:∀ v,foldedSetIterable iter X.env v=pure v:=by intro _;rfl):PE X (.ListComp Ey [⟨.Name x px,iter,D9,0⟩] sc pos) (qU wi js tt te):=by
 intro Df s σ H Q I h
 rw [<- hNX] at S
 have DE:∀ y∈sc.names,y.2=.free->∃ c,X.env.cells.lookup y.1=some c:=fun y hy hf=>I.ok.has y.1 (.inl (by show X.env.scope.names.lookup y.1=_;rw [Fa];exact S.free y hy hf))
 rw [eval_ListComp]
 refine wpAny_comprehension_free (use:=none) rfl hs (iC DE) S.kind S.names (aE (hi Df s σ H _ I h) fun v s1 h1=>aE h1 fun itv s2 h2=>?_)
 obtain ⟨it,fp,tn,J,H2,e,I2,T,FE,f2,W,w0,step⟩:=h2
 subst e
 refine q9 (RR:=fun DF C=>compPost (model X.prog X.w) X.A X.xe none (EP X Df σ Q) DF C) S Fa DM ht he I2 T FE f2 w0 step fun D C s' H' I' q hsl47 hC=>?_
 obtain ⟨m,hm⟩:=hsl47
 obtain ⟨f0,f1,_,f3,f4,f5⟩:=hC
 exact ⟨m,hm,fun h' sb=>⟨.ref D,H',I'.turned (t':=s'.toks) (fun b o hb e=>(sb.2 b hb).trans e) f0 f1 f3 f4 f5,rfl,q⟩⟩
theorem nh {wi:TI} {i:Nat} {y:Str} {py GH:Pos} (D7:Scope) (NX fv:List Str) (js:List Nat) (hNX:X.N=NX) (S:jB D7 sc NX x fv js) (Fa:X.env.scope=D7) (DM:X.calm=true) (hi:PI X (.Name x px) iter wi)
  (ht:∀ C s0 H0 ex,gh (xc X sc x fv C s0 H0 ex) D9 tt) (he:∀ C s0 H0 ex,PE (xc X sc x fv C s0 H0 ex) Ey te)
  (hN:X.N.Nodup) (hy:X.N[i]?=some y) (hl:X.env.scope.names.lookup y=some .local) (hsw:swapsWith (.ListComp Ey [⟨.Name x px,iter,D9,0⟩] sc pos) (some (.Name y py)) GH.line X.env=pure true)
  (hs:∀ v,foldedSetIterable iter X.env v=pure v:=by intro _;rfl):PS X (.Assign [.Name y py] (.ListComp Ey [⟨.Name x px,iter,D9,0⟩] sc pos) GH) (jp (qU wi js tt te) (aW i)):=by
 intro Df s σ H D I h
 rw [<- hNX] at S
 have DE:∀ y∈sc.names,y.2=.free->∃ c,X.env.cells.lookup y.1=some c:=fun y hy hf=>I.ok.has y.1 (.inl (by show X.env.scope.names.lookup y.1=_;rw [Fa];exact S.free y hy hf))
 rw [exec_Assign_Name_used _ _ _ _ hsw]
 refine Qb (wpAny_standAt (Qb ?_))
 show wpAny _ _ (do let _ <- comprehension (.ListComp Ey [⟨.Name x px,iter,D9,0⟩] sc pos) sc X.env _ (newList []) false (eval iter X.env) (some (assign (.Name y py) X.env))) _ _ s
 refine Qb (QV (wpAny_comprehension_free (use:=some (assign (.Name y py) X.env)) (Q:=fun _ st=>SP X Df D .next st) rfl hs (iC DE) S.kind S.names
  (aE (hi Df s σ H _ I h) fun v s1 h1=>aE h1 fun itv s2 h2=>?_)) (fun _ st hq=>Qk (Qk hq)) fun _ _ e=>e)
 obtain ⟨it,fp,tn,J,H2,e,I2,T,FE,f2,W,w0,step⟩:=h2
 subst e
 refine q9 (Q:=fun v H1=>aW i v σ H1 D.nx) (RR:=fun DF C=>compPost (model X.prog X.w) X.A X.xe (some (assign (.Name y py) X.env)) (fun _ st=>SP X Df D .next st) DF C) S Fa DM ht he I2 T FE f2 w0 step fun Dl C s' H' I' q hsl48 hC=>?_
 obtain ⟨m,hm⟩:=hsl48
 obtain ⟨f0,f1,_,f3,f4,f5⟩:=hC
 refine wpAny_assign_Name (mD I' hN hy (.inl hl) (show RelV (.ref Dl) (.ref Dl) from rfl) (fun s'' I'' hsl49=>?_) (.inr hl))
 obtain ⟨a,sb,ha⟩:=hsl49
 have aC:C≠a:=fun z=>by
  rcases ha with ha | ha
  ·exact f1 (z.trans ha)
  ·exact f4 y a ha z.symm
 refine ⟨m,hm.sameBut sb aC,fun h' sb'=>?_⟩
 exact ⟨_,_,I''.turned (t':=s''.toks) (fun b o hb e=>(sb'.2 b hb).trans e) f0 f1 f3 f4 f5,q⟩
end
section
variable {κ:Type} [DecidableEq κ]
noncomputable def bv (Di:List (κ × V)) (k:κ):Option V:=(Di.find? fun kv=>decide (kv.1=k)).map (·.2)
noncomputable def b8 (Di:List (κ × V)) (k:κ) (v:V):List (κ × V) :=
 if (Di.any fun kv=>decide (kv.1=k))=true then Di.map (fun kv=>if kv.1=k then (kv.1,v) else kv) else Di++[(k,v)]
theorem eT {p:κ × V} {r:List (κ × V)} {k:κ} (e:p.1=k):bv (p::r) k=some p.2:=by simp [bv,List.find?_cons,e]
theorem eU {p:κ × V} {r:List (κ × V)} {k:κ} (e:¬ p.1=k):bv (p::r) k=bv r k:=by simp [bv,List.find?_cons,e]
theorem kS (k:κ):∀ Di:List (κ × V),(Di.any fun kv=>decide (kv.1=k))=(bv Di k).isSome
 | []=>rfl
 | p::r=>by
  rw [List.any_cons]
  by_cases e:p.1=k
  ·simp only [eT e,Qo e,Bool.true_or,Option.isSome_some]
  ·rw [eU e,Qi e,Bool.false_or];exact kS k r
theorem rc (k j:κ) (y:V):∀ Di:List (κ × V),bv (Di.map fun kv=>if kv.1=k then (kv.1,y) else kv) j=(bv Di j).map fun x=>if j=k then y else x
 | []=>rfl
 | p::r=>by
  have ih:=rc k j y r
  rw [List.map_cons]
  by_cases h:p.1=k
  ·rw [if_pos h]
   by_cases e:p.1=j
   ·rw [eT (p:=(p.1,y)) e,eT e,Option.map_some,if_pos (e.symm.trans h)]
   ·rw [eU (p:=(p.1,y)) e,eU e,ih]
  ·rw [if_neg h]
   by_cases e:p.1=j
   ·rw [eT (p:=p) e,eT e,Option.map_some,if_neg (fun z=>h (e.trans z))]
   ·rw [eU (p:=p) e,eU e,ih]
theorem re (k j:κ) (y:V):∀ Di:List (κ × V),bv Di k=none->bv (Di++[(k,y)]) j=if j=k then some y else bv Di j
 | [],_=>by
  by_cases e:k=j
  ·rw [if_pos e.symm];exact eT (p:=(k,y)) e
  ·rw [if_neg (fun z=>e z.symm)];exact eU (p:=(k,y)) e
 | p::r,hn=>by
  rw [List.cons_append]
  have hk:¬ p.1=k:=fun z=>by rw [eT z] at hn;cases hn
  rw [eU hk] at hn
  have ih:=re k j y r hn
  by_cases e:p.1=j
  ·rw [eT e,eT e,if_neg (fun z=>hk (e.trans z))]
  ·rw [eU e,eU e,ih]
theorem kT (Di:List (κ × V)) (k j:κ) (y:V):bv (b8 Di k y) j=if j=k then some y else bv Di j:=by
 unfold b8
 by_cases a:(Di.any fun kv=>decide (kv.1=k))=true
 ·rw [if_pos a,rc]
  rw [kS] at a
  by_cases e:j=k
  ·obtain ⟨x,hx⟩:=Option.isSome_iff_exists.mp a
   rw [if_pos e,e,hx,Option.map_some,if_pos rfl]
  ·rw [if_neg e]
   cases bv Di j with
   | none=>rfl
   | some x=>rw [Option.map_some,if_neg e]
 ·rw [if_neg a]
  refine re k j y Di ?_
  rw [kS] at a
  cases q:bv Di k with
  | none=>rfl
  | some x=>rw [q] at a;exact (a rfl).elim
theorem jC (Di:List (κ × V)) (k:κ) (v:V):(b8 Di k v).length<=Di.length+1:=by
 unfold b8
 split
 ·rw [Qd];lia
 ·rw [QK,QR,List.length_nil];lia
theorem cC.isSome_eq {o:Option V} {u:Option Value} (r:cC o u):o.isSome=u.isSome:=by
 cases o with
 | none=>cases u with
  | none=>rfl
  | some _=>exact (show False from r).elim
 | some _=>cases u with
  | none=>exact (show False from r).elim
  | some _=>rfl
theorem cC.getD {o:Option V} {u:Option Value} {d:V} {d':Value} (r:cC o u) (rd:RelV d d'):RelV (o.getD d) (u.getD d'):=by
 cases o with
 | none=>cases u with
  | none=>exact rd
  | some _=>exact (show False from r).elim
 | some _=>cases u with
  | none=>exact (show False from r).elim
  | some _=>exact r
theorem KV.val {Di:List (κ × V)} {vs:List (κ × Value)} (r:KV Di vs) (k:κ):cC (bv Di k) (valueAt vs k):=by
 unfold KV at r
 induction r with
 | nil=>exact True.intro
 | @cons p q ps qs h t ih =>
  obtain ⟨h1,h2⟩:=h
  by_cases e:p.1=k
  ·have e':q.1=k:=h1.symm.trans e
   have b:valueAt (q::qs) k=some q.2:=by simp [valueAt,List.find?_cons,e']
   rw [eT e,b];exact h2
  ·have e':¬ q.1=k:=fun z=>e (h1.trans z)
   have b:valueAt (q::qs) k=valueAt qs k:=by simp [valueAt,List.find?_cons,e']
   rw [eU e,b];exact ih
theorem KV.any {Di:List (κ × V)} {vs:List (κ × Value)} (r:KV Di vs) (k:κ):(Di.any fun kv=>decide (kv.1=k))=vs.any fun kv=>decide (kv.1=k):=by
 unfold KV at r
 induction r with
 | nil=>rfl
 | cons h t ih=>rw [List.any_cons,List.any_cons,ih,h.1]
theorem KV.repl {Di:List (κ × V)} {vs:List (κ × Value)} (r:KV Di vs) (k:κ) {y:V} {u:Value} (ry:RelV y u) :
  KV (Di.map fun kv=>if kv.1=k then (kv.1,y) else kv) (vs.map fun kv=>if kv.1=k then (kv.1,u) else kv):=by
 unfold KV at r ⊢
 induction r with
 | nil=>exact .nil
 | @cons p q ps qs h t ih =>
  rw [List.map_cons,List.map_cons]
  refine .cons ?_ ih
  obtain ⟨h1,h2⟩:=h
  by_cases e:p.1=k
  ·rw [if_pos e,if_pos (h1.symm.trans e)];exact ⟨h1,ry⟩
  ·rw [if_neg e,if_neg (fun z=>e (h1.trans z))];exact ⟨h1,h2⟩
theorem KV.put {Di:List (κ × V)} {vs:List (κ × Value)} (r:KV Di vs) (k:κ) {y:V} {u:Value} (ry:RelV y u):KV (b8 Di k y) (stored vs k u):=by
 unfold b8 stored
 rw [r.any k]
 by_cases e:(vs.any fun kv=>decide (kv.1=k))=true
 ·rw [if_pos e,if_pos e];exact r.repl k ry
 ·rw [if_neg e,if_neg e];exact Paired.snoc r ⟨rfl,ry⟩
theorem KV.length {Di:List (κ × V)} {vs:List (κ × Value)} (r:KV Di vs):Di.length=vs.length:=Paired.length r
end
theorem gQ {P:Program} {w:World} {k:ae} {u:Value} (r:RelV (kV k) u):(bR P w).is k u=true:=by
 cases k with
 | inl i=>obtain ⟨t,e⟩:=(show ∃ t,u=Value.int i t from r);subst e;exact wK P w i t
 | inr x=>obtain ⟨t,e⟩:=(show ∃ t,u=Value.str x t from r);subst e;exact wL P w x t
theorem rh {P:Program} {w:World}:∀ {ks:List ae} {us:List Value},ap (ks.map kV) us->ItemsAre (bR P w) ks us
 | [],_,r=>by rw [List.map_nil] at r;cases r;exact .nil
 | k::ks,_,r=>by
  rw [List.map_cons] at r
  cases r with
  | cons h t=>exact .cons (gQ h) (rh t)
abbrev KT (H:Hp):List (List ae × V)->List (List ae × Addr × Value)->Prop:=Paired fun p q=>p.1=q.1/\H q.2.1=some (.tup (p.1.map kV))/\RelV p.2 q.2.2
theorem KT.val {H:Hp} {Di:List (List ae × V)} {xs:List (List ae × Addr × Value)} (r:KT H Di xs) (k:List ae):cC (bv Di k) ((atKey xs k).map (·.2)):=by
 induction r with
 | nil=>exact True.intro
 | @cons p q ps qs h t ih =>
  obtain ⟨h1,_,h2⟩:=h
  by_cases e:p.1=k
  ·have e':q.1=k:=h1.symm.trans e
   have b:atKey (q::qs) k=some q.2:=by simp [atKey,List.find?_cons,e']
   rw [eT e,b];exact h2
  ·have e':¬ q.1=k:=fun z=>e (h1.trans z)
   have b:atKey (q::qs) k=atKey qs k:=by simp [atKey,List.find?_cons,e']
   rw [eU e,b];exact ih
theorem KT.repl {H:Hp} {Di:List (List ae × V)} {xs:List (List ae × Addr × Value)} (r:KT H Di xs) (k:List ae) {y:V} {u:Value} (ry:RelV y u) :
  KT H (Di.map fun kv=>if kv.1=k then (kv.1,y) else kv) (xs.map (putAt k u)):=by
 induction r with
 | nil=>exact .nil
 | @cons p q ps qs h t ih =>
  rw [List.map_cons,List.map_cons]
  refine .cons ?_ ih
  obtain ⟨h1,h2,h3⟩:=h
  unfold putAt
  by_cases e:p.1=k
  ·rw [if_pos e,if_pos (h1.symm.trans e)];exact ⟨h1,h2,ry⟩
  ·rw [if_neg e,if_neg (fun z=>e (h1.trans z))];exact ⟨h1,h2,h3⟩
theorem KT.put {H:Hp} {Di:List (List ae × V)} {xs:List (List ae × Addr × Value)} (r:KT H Di xs) (k:List ae) {b:Addr} {y:V} {u:Value} (hb:H b=some (.tup (k.map kV))) (ry:RelV y u) :
  KT H (b8 Di k y) (storedH xs k b u):=by
 have e:(Di.any fun kv=>decide (kv.1=k))=(atKey xs k).isSome:=by
  rw [kS,(r.val k).isSome_eq,Option.isSome_map]
 unfold b8 storedH
 rw [e]
 by_cases q:(atKey xs k).isSome=true
 ·rw [if_pos q,if_pos q];exact r.repl k ry
 ·rw [if_neg q,if_neg q];exact Paired.snoc r ⟨rfl,hb,ry⟩
theorem KT.keeps {H H':Hp} {Di:List (List ae × V)} {xs:List (List ae × Addr × Value)} (r:KT H Di xs) (ht:∀ b ys,H b=some (.tup ys)->H' b=some (.tup ys)):KT H' Di xs :=
 Paired.mapP r fun _ _ z=>⟨z.1,ht _ _ z.2.1,z.2.2⟩
section
variable {P:Program} {w:World} {H:Hp} {h:Heap} {a:Addr}
theorem ri {u:HO} (ok:bq P w H h) (e:Rd H a u):bC P w H h a u:=e.ok ok
theorem jD {Di:List (ae × V)} (ok:bq P w H h) (e:Rd H a (.dK Di)):Di.length<=sizeLine/\(a == sysModules)=false/\∃ vs,KV Di vs/\h.DictOf (bR P w) a vs :=
 show bC P w H h a (.dK Di) from ri ok e
theorem yI {Di:List (ae × V)} (ok:bq P w H h) (e:H a=some (.dK Di)):Di.length<=sizeLine/\(a == sysModules)=false/\∃ vs,KV Di vs/\h.DictOf (bR P w) a vs:=jD ok (.inl e)
theorem kU {ks:List ae} (ok:bq P w H h) (e:H a=some (.tup (ks.map kV))):(tupleKind (bR P w)).is h ks a:=by
 obtain ⟨_,its,r,⟨o,h1,h2,n,h3⟩,_⟩:=(show bC P w H h a (.tup (ks.map kV)) from ok a _ e)
 exact ⟨o,its.toArray,n,h1,h2,h3,by simpa using rh r⟩
theorem jE {Di:List (List ae × V)} (ok:bq P w H h) (e:Rd H a (.dT Di)):Di.length<=sizeLine/\(a == sysModules)=false /\
  ∃ xs,KT H Di xs/\h.DictOfH (tupleKind (bR P w)) a xs:=by
 obtain ⟨z,y,xs,r,o,es,ep,h1,h2,h3,h4,h5⟩:=(show bC P w H h a (.dT Di) from ri ok e)
 refine ⟨z,y,xs,r,o,es,ep,h1,h2,h3,h4,fun x hx=>?_,h5⟩
 have all:∀ {l:List (List ae × V)} {m:List (List ae × Addr × Value)},KT H l m->∀ x∈m,(tupleKind (bR P w)).is h x.1 x.2.1:=by
  intro l m q
  induction q with
  | nil=>intro x hx;exact nomatch hx
  | @cons p q ps qs hq t ih =>
   intro x hx
   rcases Qn hx with e | hx
   ·subst e
    exact kU ok (by rw [<- hq.1];exact hq.2.1)
   ·exact ih x hx
 exact all r x hx
theorem rl {Di:List (List ae × V)} (ok:bq P w H h) (e:H a=some (.dT Di)):Di.length<=sizeLine/\(a == sysModules)=false /\
  ∃ xs,KT H Di xs/\h.DictOfH (tupleKind (bR P w)) a xs:=jE ok (.inl e)
end
def cv (H:Hp) (a:Addr) (y:V) (r:Option V):Prop :=
 (∃ Di k,Rd H a (.dK Di)/\y=kV k/\r=bv Di k)∨∃ Di k b,Rd H a (.dT Di)/\y=.ref b/\H b=some (.tup (k.map kV))/\r=bv Di k
def eV (H:Hp) (a:Addr) (y v:V) (H':Hp):Prop :=
 (∃ Di k,H a=some (.dK Di)/\y=kV k/\Di.length<sizeLine/\H'=upd H a (.dK (b8 Di k v))) ∨
 ∃ Di k b,H a=some (.dT Di)/\y=.ref b/\H b=some (.tup (k.map kV))/\Di.length<sizeLine/\H'=upd H a (.dT (b8 Di k v))
theorem cv.k {H:Hp} {a:Addr} {Di:List (ae × V)} {k:ae} (e:H a=some (.dK Di)):cv H a (kV k) (bv Di k):=.inl ⟨Di,k,.inl e,rfl,rfl⟩
theorem cv.t {H:Hp} {a b:Addr} {Di:List (List ae × V)} {k:List ae} (e:H a=some (.dT Di)) (eb:H b=some (.tup (k.map kV))):cv H a (.ref b) (bv Di k):=.inr ⟨Di,k,b,.inl e,rfl,eb,rfl⟩
theorem eV.k {H:Hp} {a:Addr} {Di:List (ae × V)} {k:ae} {v:V} (e:H a=some (.dK Di)) (hl:Di.length<sizeLine):eV H a (kV k) v (upd H a (.dK (b8 Di k v))):=.inl ⟨Di,k,e,rfl,hl,rfl⟩
theorem eV.t {H:Hp} {a b:Addr} {Di:List (List ae × V)} {k:List ae} {v:V} (e:H a=some (.dT Di)) (eb:H b=some (.tup (k.map kV))) (hl:Di.length<sizeLine) :
  eV H a (.ref b) v (upd H a (.dT (b8 Di k v))):=.inr ⟨Di,k,b,e,rfl,eb,hl,rfl⟩
section
variable {X:Cx} {Df:List (Addr × Obj)} {σ:St} {H:Hp} {s:Shared} {a:Addr} {y v:V} {u r:Value} {o:Option V} {A:Around} {E:Value->Shared->Prop}
theorem Inv.big (I:Inv X Df σ H s):sysModules<s.heap.objs.size:=by
 have h:mainGlobals<s.heap.objs.size:=(I.mod.glob.keeps I.bk).lt
 exact Nat.lt_trans (by decide) h
theorem yJ {Q:Value->Shared->Prop} (hu:A.units+1<cLine) (I:Inv X Df σ H s) (g:cv H a y (some v)) (ry:RelV y u) (h:∀ w' s',Inv X Df σ H s'->RelV v w'->Q w' s') :
  wpAny (model X.prog X.w) A (getItem (.ref a) u) Q E s:=by
 rcases g with ⟨Di,k,e,ey,l⟩ | ⟨Di,k,b,e,ey,eb,l⟩
 ·subst ey
  obtain ⟨z,hd,vs,E6,dd⟩:=jD I.hok e
  obtain ⟨w',hw,F8⟩:=cC.some_of (v:=v) (o:=valueAt vs k) (by rw [l];exact E6.val k)
  exact wpAny_getItem_of (gQ ry) dd.mapOf hw (h w' _ (I.tok _) F8)
 ·subst ey
  cases (show u=Value.ref b from ry)
  obtain ⟨z,hd,xs,E6,dd⟩:=jE I.hok e
  obtain ⟨w',hw,F8⟩:=cC.some_of (v:=v) (o:=(atKey xs k).map (·.2)) (by rw [l];exact E6.val k)
  obtain ⟨p,hp,Ff⟩:=Option.map_eq_some_iff.mp hw
  refine wpAny_getItem_heap (tupleKind_room_in1 hu) (kU I.hok eb) dd hp ?_
  rw [Ff]
  exact h w' _ (I.tok _) F8
theorem rm {h':Heap} {t':Nat} {ob:HO} (I:Inv X Df σ H s) (mu:jl (H a)) (hs:Heap.SameBut a s.heap h') (he:∃ q,h'.get? a=some q) (new:bC X.prog X.w (upd H a ob) h' a ob) :
  Inv X Df σ (upd H a ob) { s with heap:=h',toks:=t' } :=
 I.write (x:=a) (e:=a) mu (.inl rfl) (fun b q hb z=>(hs.2 b hb).trans z) he new
theorem rn {P:Program} {w:World} {H':Hp} {h':Heap} {Di:List (ae × V)} {vs:List (ae × Value)} (z:Di.length<=sizeLine) (hd:(a == sysModules)=false) (E6:KV Di vs) (dd:h'.DictOf (bR P w) a vs) :
  bC P w H' h' a (.dK Di):=⟨z,hd,vs,E6,dd⟩
theorem yK {H':Hp} {Q:Unit->Shared->Prop} (hu:A.units+1<cLine) (I:Inv X Df σ H s) (g:eV H a y v H') (ry:RelV y u) (rv:RelV v r) (h:∀ s',Inv X Df σ H' s'->Q () s') :
  wpAny (model X.prog X.w) A (setItem (.ref a) u r) Q E s:=by
 rcases g with ⟨Di,k,e,ey,l,eH⟩ | ⟨Di,k,b,e,ey,eb,l,eH⟩
 ·subst ey eH
  obtain ⟨z,hd,vs,E6,dd⟩:=yI I.hok e
  have hz:vs.length<=sizeLine:=by rw [<- E6.length];exact z
  have hl:(b8 Di k v).length<=sizeLine:=by have:=jC Di k v;lia
  refine wpAny_setItem_pairs (hsz:=hz) (gQ ry) dd fun h' dd' hs=>h _ ?_
  have he:∃ q,h'.get? a=some q:=by obtain ⟨q,_,_,hq,_⟩:=dd';exact ⟨q,hq⟩
  exact rm I (by rw [e];exact True.intro) hs he (rn hl hd (E6.put k rv) dd')
 ·subst ey eH
  cases (show u=Value.ref b from ry)
  obtain ⟨z,hd,xs,E6,dd⟩:=rl I.hok e
  have hz:xs.length<=sizeLine:=by rw [<- Paired.length E6];exact z
  have hl:(b8 Di k v).length<=sizeLine:=by have:=jC Di k v;lia
  refine wpAny_setItem_heap (hsz:=hz) (tupleKind_room_in1 hu) (kU I.hok eb) dd fun h' dd' hs=>h _ ?_
  obtain ⟨q,es,ep,hq,h2,h3,h4,_,h5⟩:=dd'
  refine rm I (by rw [e];exact True.intro) hs ⟨q,hq⟩ ⟨hl,hd,_,(E6.put k eb rv).keeps fun c ys ec=>?_,q,es,ep,hq,h2,h3,h4,h5⟩
  rw [al (wM ec e (fun z=>nomatch z))]
  exact ec
end
def ro (i:Expr):Prop:=∀ ov iv,subscripted i false ov iv=operate [ov,iv] (getItem ov iv)
theorem yL {prog:Program} {w:World} {A:Around} {E:Value->Shared->Prop} {s:Shared} {env:Env} {value slice:Expr} {pos:Pos} {T id:String} {Q:Value->Shared->Prop}
  (hl:typeLookup (.type T) "__getitem__"=pure (some (.builtin id))) (hs:ro slice)
  (h:wpAny (model prog w) A (eval value env) (fun o s₁=>wpAny (model prog w) A (eval slice env) (fun i s₂=>s₂.TypeIs o T/\wpAny (model prog w) A (getItem o i) Q E s₂) E s₁) E s) :
  wpAny (model prog w) A (eval (.Subscript value slice pos) env) Q E s:=by
 refine Subscript_ (QV h (fun o s₁ h₁=>QV h₁ (fun i s₂ h₂=>?_) fun _ _ x=>x) fun _ _ x=>x)
 obtain ⟨hT,h₂⟩:=h₂
 unfold subscriptTail
 refine Qb ?_
 rw [getitemInPython_of_ne hT.not_modules]
 refine Qb (wpAny_specialOf hT hl ?_)
 have fin:wpAny (model prog w) A (subscripted slice false o i) (fun r s₃=>wpAny (model prog w) A (letTemporaryGo value o r >>= fun _=>pure r) Q E s₃) E s₂:=by
  rw [hs o i]
  exact wpAny_operating (QV h₂ (fun r s₃ h₃=>Qb (wpAny_letTemporaryGo (Qk h₃))) fun _ _ x=>x)
 first
  | exact Qk (Qb fin)
  | exact Qb (Qk (Qb fin))
  | exact Qb fin
theorem yM {X:Cx} {Df:List (Addr × Obj)} {σ:St} {H:Hp} {s:Shared} {a:Addr} {y:V} {o:Option V} (I:Inv X Df σ H s) (g:cv H a y o):s.TypeIs (.ref a) "dict":=by
 rcases g with ⟨Di,k,e,_,_⟩ | ⟨Di,k,b,e,_,_,_⟩
 ·obtain ⟨_,_,vs,_,dd⟩:=jD I.hok e
  exact dd.typeIs
 ·obtain ⟨_,_,xs,_,dd⟩:=jE I.hok e
  exact dd.typeIs
def yN (td ty:TE):TE:=fun σ H Q=>td σ H fun x H1=>ty σ H1 fun y H2=>∃ a v,x=.ref a/\cv H2 a y (some v)/\Q v H2
def yO (td ty tv:TE):TS:=fun D σ H=>tv σ H fun v H1=>td σ H1 fun x H2=>ty σ H2 fun y H3=>∃ a H4,x=.ref a/\eV H3 a y v H4/\D.nx σ H4
section
variable {X:Cx} {o i e value:Expr} {pos Fi GG:Pos} {td ty tv:TE}
theorem yP (hu:X.A.units+1<cLine) (ho:PE X o td) (hi:PE X i ty) (hs:ro i):PE X (.Subscript o i pos) (yN td ty):=by
 intro Df s σ H Q I h
 refine yL PySem.F.slot_dict_getitem.lookup hs (aE (ho Df s σ H _ I h) fun u s1 ⟨x,H1,I1,rx,q1⟩=>aE (hi Df s1 σ H1 _ I1 q1) fun iv s2 hsl50=>?_)
 obtain ⟨y,H2,I2,ry,a,v,ex,g,q2⟩:=hsl50
 subst ex
 obtain rfl:u=Value.ref a:=rx
 exact ⟨yM I2 g,yJ hu I2 g ry fun w' s3 I3 F8=>⟨v,H2,I3,F8,q2⟩⟩
theorem rp (hu:X.A.units+1<cLine) (ho:PE X o td) (hi:PE X i ty) (hv:PE X value tv) (hs:swapsWith value (some (.Subscript o i Fi)) pos.line X.env=pure false) :
  PS X (.Assign [.Subscript o i Fi] value pos) (yO td ty tv):=by
 intro Df s σ H D I h
 refine wpAny_Assign_Subscript (aE (hv Df s σ H _ I h) fun r s1 ⟨v,H1,I1,rv,q1⟩=>aE (ho Df s1 σ H1 _ I1 q1) fun u s2 ⟨x,H2,I2,rx,q2⟩=>aE (hi Df s2 σ H2 _ I2 q2) fun iv s3 hsl51=>?_) hs
 obtain ⟨y,H3,I3,ry,a,H4,ex,g,q3⟩:=hsl51
 subst ex
 obtain rfl:u=Value.ref a:=rx
 exact yK hu I3 g ry rv fun s4 I4=>⟨σ,H4,I4,q3⟩
end
theorem yQ {P:Program} {w:World} {H:Hp} (h:Heap) (hb:sysModules<h.objs.size):bC P w H (h.push { cls:=.type "dict",data:=.dict #[] }) h.objs.size (.dK []) :=
 ⟨Qu _,beq_eq_false_iff_ne.mpr (Ne.symm (QB hb)),[],.nil,Heap.DictOf.new h⟩
theorem yR {P:Program} {w:World} {H:Hp} (h:Heap) (hb:sysModules<h.objs.size):bC P w H (h.push { cls:=.type "dict",data:=.dict #[] }) h.objs.size (.dT []) :=
 ⟨Qu _,beq_eq_false_iff_ne.mpr (Ne.symm (QB hb)),[],.nil,_,#[],0,Qz _ rfl,⟨rfl,rfl,rfl⟩,rfl,rfl,List.nodup_nil⟩
def yS:TE:=fun _ H Q=>∀ p,H p=none->Q (.ref p) (upd H p (.dK []))
def yT:TE:=fun _ H Q=>∀ p,H p=none->Q (.ref p) (upd H p (.dT []))
section
variable {X:Cx} {pos:Pos}
theorem rq:PE X (.Dict [] [] pos) yS:=fun Df s σ H Q I h =>
 wpAny_Dict_empty ⟨.ref s.heap.objs.size,_,I.laid (a:=s.heap.objs.size) (o:=.dK []) (t':=s.toks) (fun _ _ q=>Qg _ q) (Qf _) (yQ s.heap I.big),rfl,h _ (I.hok.fresh (Qf _))⟩
theorem rA:PE X (.Dict [] [] pos) yT:=fun Df s σ H Q I h =>
 wpAny_Dict_empty ⟨.ref s.heap.objs.size,_,I.laid (a:=s.heap.objs.size) (o:=.dT []) (t':=s.toks) (fun _ _ q=>Qg _ q) (Qf _) (yR s.heap I.big),rfl,h _ (I.hok.fresh (Qf _))⟩
end
structure M2 (X:Cx) (o:Expr) (m:Str) (apos:Pos) (e f:Expr) (DT:Pos):Prop where
 base:attributeBase o m X.env (eval o X.env)=eval o X.env
 few:((backTo DT (starEach [e,f] X.env)).all (fun x=>!x.1)&&(backToKw DT (keywordEach [] X.env)).all (fun x=>x.1.isSome)
  && decide (([e,f]:List Expr).length+([]:List Keyword).length+(if ([]:List Keyword).isEmpty then 0 else 1)<30))=true
 line:(apos.endLine == DT.line)=true
 trees:backTo DT (starEach [e,f] X.env)=[(false,eval e X.env),(false,eval f X.env)]
def ni (H:Hp) (a:Addr):Prop:=(∃ Di,Rd H a (.dK Di))∨∃ Di,Rd H a (.dT Di)
theorem yU {X:Cx} {Df:List (Addr × Obj)} {σ:St} {H:Hp} {s:Shared} {a:Addr} (I:Inv X Df σ H s) (d:ni H a) :
  s.TypeIs (.ref a) "dict"/\(∀ b,Value.ref a=.ref b->∃ ob,s.heap.get? b=some ob/\ob.dict=none)/\(a == sysModules)=false:=by
 rcases d with ⟨Di,e⟩ | ⟨Di,e⟩
 ·obtain ⟨_,hd,vs,_,dd⟩:=jD I.hok e
  refine ⟨dd.typeIs,fun b q=>?_,hd⟩
  cases q
  obtain ⟨ob,_,_,h1,h2,_⟩:=dd
  exact ⟨ob,h1,h2.2.1⟩
 ·obtain ⟨_,hd,xs,_,dd⟩:=jE I.hok e
  refine ⟨dd.typeIs,fun b q=>?_,hd⟩
  cases q
  obtain ⟨ob,_,_,h1,h2,_⟩:=dd
  exact ⟨ob,h1,h2.2.1⟩
section
variable {X:Cx} {Df:List (Addr × Obj)} {σ:St} {H:Hp} {s:Shared} {a:Addr} {y d:V} {u r:Value} {o:Option V} {A:Around} {E:Value->Shared->Prop}
theorem yV {Q:Value->Shared->Prop} (hu:A.units+1<cLine) (I:Inv X Df σ H s) (g:cv H a y o) (ry:RelV y u) (rd:RelV d r) (h:∀ w' s',Inv X Df σ H s'->RelV (o.getD d) w'->Q w' s') :
  wpAny (model X.prog X.w) A (call (.builtin "dict.get") [.ref a,u,r]) Q E s:=by
 rcases g with ⟨Di,k,e,ey,l⟩ | ⟨Di,k,b,e,ey,eb,l⟩
 ·subst ey
  obtain ⟨z,hd,vs,E6,dd⟩:=jD I.hok e
  refine call_meetsIn PySem.F.slot_dict_get dd.typeIs PySem.F.entry_dict_get (PySem.F.args_dict_get_3 _ _ _) (meets_dict_get_default (bR X.prog X.w) a (gQ ry) hd r) ⟨_,dd.mapOf,h _ _ (I.tok _) ?_⟩
  rw [l]
  exact (E6.val k).getD rd
 ·subst ey
  cases (show u=Value.ref b from ry)
  obtain ⟨z,hd,xs,E6,dd⟩:=jE I.hok e
  refine call_meetsIn PySem.F.slot_dict_get dd.typeIs PySem.F.entry_dict_get (PySem.F.args_dict_get_3 _ _ _) (meetsH_dict_get_default (tupleKind (bR X.prog X.w)) a b hd r) ⟨tupleKind_room_in1 hu,k,xs,kU I.hok eb,dd,h _ _ (I.tok _) ?_⟩
  rw [l]
  exact (E6.val k).getD rd
end
def yW (td ty tx:TE):TE:=fun σ H Q=>td σ H fun x H1=>∃ a,x=.ref a/\ni H1 a/\ty σ H1 fun y H2=>tx σ H2 fun z H3=>∃ o,cv H3 a y o/\Q (o.getD z) H3
section
variable {X:Cx} {o e f:Expr} {apos DT:Pos} {td ty tx:TE}
theorem iD (hu:X.A.units+1<cLine) (ho:PE X o td) (he:PE X e ty) (hf:PE X f tx) (m:M2 X o "get" apos e f DT):PE X (.Call (.Attribute o "get" apos) [e,f] [] DT) (yW td ty tx):=by
 intro Df s σ H Q I h
 refine wpAny_Call_method m.base m.few m.line PySem.F.plainAttrs_dict PySem.F.slot_dict_get PySem.F.type_dict_get (aE (ho Df s σ H _ I h) fun u s1 hsl52=>?_)
 obtain ⟨x,H1,I1,rx,a,ex,d,q1⟩:=hsl52
 subst ex
 obtain rfl:u=Value.ref a:=rx
 obtain ⟨t1,t2,_⟩:=yU I1 d
 refine ⟨t1,t2,?_⟩
 rw [m.trees]
 refine Calls.callWith_builtin rfl (Calls.evalArgs_plain (Calls.spliced_cons (aE (he Df s1 σ H1 _ I1 q1) fun iv s2 ⟨y,H2,I2,ry,q2⟩ =>
  Calls.spliced_cons (aE (hf Df s2 σ H2 _ I2 q2) fun fv s3 ⟨z,H3,I3,rz,ov,g,q3⟩=>Calls.spliced_nil ?_))))
 exact yV hu I3 g ry rz fun w' s4 I4 F8=>⟨_,H3,I4,F8,q3⟩
end
end L2
namespace Mm
open PySem
theorem kW:∀ (n m:Nat),m<=n->m≠0->∃ t q,m=2 ^ (t+1)*q+2 ^ t
 | 0,m,h,h0=>absurd (by lia) h0
 | n+1,m,h,h0=>by
  by_cases hm:m % 2=1
  ·exact ⟨0,m / 2,by simp;lia⟩
  ·obtain ⟨t,q,e⟩:=kW n (m / 2) (by lia) (by lia)
   refine ⟨t+1,q,?_⟩
   have e1:2 ^ (t+1+1)*q=2*(2 ^ (t+1)*q):=by rw [Nat.pow_succ 2 (t+1),Nat.mul_comm (2 ^ (t+1)) 2,Nat.mul_assoc]
   have e2:2 ^ (t+1)=2*2 ^ t:=by rw [Nat.pow_succ,Nat.mul_comm]
   rw [e1]
   lia
theorem rB (t q:Nat):(2 ^ (t+1)*q+2 ^ t).testBit t=true:=by
 rw [Nat.testBit_two_pow_mul_add _ (Nat.pow_lt_pow_right (by decide) (by lia)),if_pos (by lia),Nat.testBit_two_pow]
 simp
theorem nj (t q:Nat):(2 ^ (t+1)*q+2 ^ t) ^^^ (2 ^ (t+1)*q+2 ^ t-1)=2 ^ (t+1)-1:=by
 have hp:=Nat.two_pow_pos t
 have e2:2 ^ (t+1)=2*2 ^ t:=by rw [Nat.pow_succ,Nat.mul_comm]
 have e:2 ^ (t+1)*q+2 ^ t-1=2 ^ (t+1)*q+(2 ^ t-1):=by omega
 rw [e]
 refine Nat.eq_of_testBit_eq fun j=>?_
 rw [Nat.testBit_xor,Nat.testBit_two_pow_mul_add _ (show 2 ^ t<2 ^ (t+1) by omega),Nat.testBit_two_pow_mul_add _ (show 2 ^ t-1<2 ^ (t+1) by omega),Nat.testBit_two_pow_sub_one]
 by_cases hj:j<t+1
 ·rw [if_pos hj,if_pos hj,Nat.testBit_two_pow,Nat.testBit_two_pow_sub_one]
  by_cases hjt:j<t
  ·have:¬ t=j:=by omega
   simp [hj,hjt,this]
  ·have:t=j:=by omega
   subst this
   simp
 ·rw [if_neg hj,if_neg hj]
  simp [hj]
theorem rC (t:Nat):Builtin.Int.intBits ((2 ^ (t+1)-1:Nat):Int)=t+1:=by
 have hp:=Nat.two_pow_pos t
 have e2:2 ^ (t+1)=2*2 ^ t:=by rw [Nat.pow_succ,Nat.mul_comm]
 have h1:Builtin.Int.intBits ((2 ^ (t+1)-1:Nat):Int)<=t+1:=yw (by omega)
 have h2:¬ Builtin.Int.intBits ((2 ^ (t+1)-1:Nat):Int)<=t:=fun h=>by
  have:=intBits_le_iff.mp h
  rw [Int.natAbs_natCast] at this
  omega
 omega
end Mm
namespace Mm
open PySem L2
theorem aN {X:Cx} {K:PySem.W.Frag} (h:X.K=K):iz X (mU K):=by subst h;exact ye
theorem iE:bootBuiltins "tuple"=some (.type "tuple"):=by decide +kernel
theorem nk {js:List Nat} {tt:TT} {te:TE} {K:PySem.W.Frag} {a:Addr} {xs:List V} {σ:St} {H:Hp} {Q:VK} (Pv:Nat->List V->Hp->Prop) (h0:Pv 0 [] H) (hl:∀ i ys H,i<=xs.length->Pv i ys H->ah K H a xs)
  (hs:∀ i x ys H,xs[i]?=some x->Pv i ys H->tt (some x::cg js σ) H fun b H2=>if b=true then te (some x::cg js σ) H2 fun y H3=>ys.length<sizeLine/\Pv (i+1) (ys++[y]) H3 else Pv (i+1) ys H2)
  (hd:∀ ys H,Pv xs.length ys H->∀ p,H p=none->Q (.ref p) (upd H p (.lst ys))) :
  gi (gJ K a) js tt te σ H Q:=by
 refine ⟨fun i m ys H=>m=xs.length-i/\i<=xs.length/\Pv i ys H,⟨xs.length,by simp,Qu _,h0⟩,?_⟩
 rintro i m ys H ⟨rfl,hi,p⟩
 have q:=hl i ys H hi p
 by_cases Do:i<xs.length
 ·refine .inr ⟨⟨xs,xs[i],q,by simp [Do]⟩,Pv (i+1),fun EV H' p'=>⟨xs.length-(i+1),by omega,rfl,Do,p'⟩,fun x H' y=>?_⟩
  obtain ⟨e,y⟩:=y
  subst e
  exact hs i x ys _ (y xs q) p
 ·have e:i=xs.length:=by omega
  subst e
  exact .inl ⟨⟨xs,q,Qf _⟩,hd ys H p⟩
theorem nl {v:V} {i:Nat} {b:TS} {D:dB} {σ:St} {H:Hp} (h:b D (σ.set i (some v)) H):jn (jp (tC v) (aW i)) b D σ H:=h
theorem gk {c:TT} {t u b:TS} {D:dB} {σ:St} {H:Hp} (P:St->Hp->Prop) (h1:∀ R:St->Hp->Prop,(∀ σ' H',P σ' H'->R σ' H')->ku c t u { D with nx:=R } σ H) (h2:∀ σ' H',P σ' H'->b D σ' H'):jn (ku c t u) b D σ H:=h1 (b D) h2
theorem gl {wi:TI} {g:TG} {tb b:TS} {D:dB} {σ:St} {H:Hp} (P:St->Hp->Prop) (h1:∀ R:St->Hp->Prop,(∀ σ' H',P σ' H'->R σ' H')->mG wi g tb { D with nx:=R } σ H) (h2:∀ σ' H',P σ' H'->b D σ' H'):jn (mG wi g tb) b D σ H:=h1 (b D) h2
end Mm
namespace L2
open PySem PySem.Spec PyProof.Rows
noncomputable def jF (K:PySem.W.Frag) (a:Addr):It:=⟨fun i H=>∃ xs x,aj K H a xs/\xs[i]?=some x,fun i H x H'=>∃ (t:Addr) (y:V),(∀ xs,aj K H a xs->xs[i]?=some y)/\H t=none/\x=.ref t/\H'=upd H t (.tup [.int ((i:Nat):Int),y]),fun i H=>∃ xs,aj K H a xs/\xs.length<=i⟩
theorem yX {P:Program} {w:World} {K:PySem.W.Frag} {elts:List Expr} {k:Nat} {GG:Pos} (a e it:Addr) (hei:e≠it) :
  fX P w K (.Tuple elts k GG) (jF K a) [e,it] e (fun i h=>(∃ FU,IsEnum h e it i FU)/\h.IsListIter it a i) where
 mem:=by simp
 obj:=fun i h st b hb=>by
  rcases (show b=e∨b=it by simpa using hb) with z | z
  ·subst z
   obtain ⟨⟨FU,he⟩,_⟩:=st
   exact ⟨_,he,fun v z=>by cases z⟩
  ·subst z
   obtain ⟨_,o,e,c,d⟩:=st
   exact ⟨o,e,fun v z=>by rw [d] at z;cases z⟩
 keep:=fun i h h' st kk=>⟨by obtain ⟨FU,he⟩:=st.1;exact ⟨FU,kk e (by simp) _ he⟩,st.2.at fun o q=>kk it (by simp) o q⟩
 item:=by
  intro X hP hw hK hc i Df s σ H E I hf st hg
  subst hP hw hK
  obtain ⟨xs,x,hq,hx⟩:=hg
  obtain ⟨its,rv,p,hz⟩:=I.list hq
  obtain ⟨u,hu,ru⟩:=rv.get hx
  obtain ⟨⟨FU,he⟩,FY⟩:=st
  obtain ⟨e0,e1,e2,e3,e4,e5⟩:=hf e (by simp)
  obtain ⟨f0,f1,f2,f3,f4,f5⟩:=hf it (by simp)
  refine wpAny_pyNext_enum_item he FY p.isList (x:=u) (by simpa using hu) hei fun h1 ho hit1 ht hsz kk=>?_
  refine ⟨_,rfl,?_⟩
  have hel:e<s.heap.objs.size:=Qs he
  have DJ:it<s.heap.objs.size:=by obtain ⟨_,q,_⟩:=FY;exact Qs q
  refine wpAny_letOwnedTupleGo_enum (s:={ s with heap:=h1,toks:=s.toks+1 }) ho fun h2 he2 DH=>?_
  have DH:Heap.SameBut e h1 h2:=DH
  have kk2:∀ b o,b≠e->b≠it->s.heap.get? b=some o->h2.get? b=some o:=fun b o q1 q2 q=>(DH.2 b q1).trans (kk b o q1 q2 q)
  have D5:h2.get? s.heap.objs.size=some { cls:=.type "tuple",data:=.seq #[.int i s.toks,u] }:=(DH.2 _ (QX hel)).trans ht
  have hT:H s.heap.objs.size=none:=I.fresh
  have I2:Inv X Df σ (upd H s.heap.objs.size (.tup [.int ((i:Nat):Int),x])) { s with heap:=h2,toks:=s.toks+1 }:=by
   refine I.call' (ch:=[e,it]) rfl ⟨fun b o q hn hb hx=>?_,fun b o q hn hb hx=>?_,fun b o q hn hx=>?_,fun b o q hx=>?_,fun b ys q=>?_,fun b o v q=>?_,fun b ps q=>?_⟩ (fun b v q=>?_) I.bare fun b hb=>?_
   ·exact kk2 b o (fun z=>hx (by simp [z])) (fun z=>hx (by simp [z])) q
   ·exact ⟨o.slots,kk2 b o (fun z=>hx (by simp [z])) (fun z=>hx (by simp [z])) q⟩
   ·rw [al (QB (Qs q))];exact hn
   ·exact ⟨o,kk2 b o (fun z=>hx (by simp [z])) (fun z=>hx (by simp [z])) q⟩
   ·rw [al (cr q hT)];exact q
   ·rw [al (cr q hT)];exact q
   ·exact ⟨#[],by rw [al (cr q hT)];simpa using q⟩
   ·by_cases hb:b=s.heap.objs.size
    ·subst hb
     rw [ai] at q
     cases q
     exact ⟨bL,[.int i s.toks,u],.cons ⟨_,rfl⟩ (.cons ru .nil),⟨_,D5,rfl,_,rfl⟩,_,D5,rfl⟩
    ·rw [al hb] at q
     have Dp:b≠e:=fun z=>by rw [z,e0] at q;cases q
     have hni:b≠it:=fun z=>by rw [z,f0] at q;cases q
     refine (I.hok b v q).stay (fun c o hcb z=>kk2 c o (fun y=>?_) (fun y=>?_) z) (fun c z=>by rw [al (cr z hT)];exact z) fun c ys z=>by rw [al (cr z hT)];exact z
     ·rcases hcb with r | r
      ·exact Dp (r ▸ y)
      ·rw [y,e0] at r;cases r
     ·rcases hcb with r | r
      ·exact hni (r ▸ y)
      ·rw [y,f0] at r;cases r
   ·rcases (show b=e∨b=it by simpa using hb) with z | z
    ·subst z;exact ⟨e3,e1,e4,e5⟩
    ·subst z;exact ⟨f3,f1,f4,f5⟩
  refine ⟨.ref s.heap.objs.size,_,I2,rfl,⟨_,x,fun ys hy=>by rw [I.list_inj hy hq];exact hx,hT,rfl,rfl⟩,⟨⟨u,by simpa using he2⟩,hit1.at fun o q=>(DH.2 it hei.symm).trans q⟩,fun b hb=>?_⟩
  rcases (show b=e∨b=it by simpa using hb) with z | z
  ·subst z;rw [al (QB hel)];exact e0
  ·subst z;rw [al (QB DJ)];exact f0
 done:=by
  intro X hP hw hK hc i Df s σ H E I hf st hg
  subst hP hw hK
  obtain ⟨xs,hq,hx⟩:=hg
  obtain ⟨its,rv,p,hz⟩:=I.list hq
  obtain ⟨f0,f1,f2,f3,f4,f5⟩:=hf it (by simp)
  obtain ⟨⟨FU,he⟩,FY⟩:=st
  have hl:=rv.length
  exact wpAny_pyNext_enum_end (I.ok.hd hc) he FY p.isList (by simp;lia) fun h' eb=>⟨rfl,I.turned (t':=s.toks) (fun b o hb q=>eb b o hb q) f0 f1 f3 f4 f5⟩
 self:=fun _ _ _ _ _ st h=>by obtain ⟨⟨FU,he⟩,_⟩:=st;exact wpAny_pyIter_enum he h
section
variable {X:Cx}
def yY (K:PySem.W.Frag) (ta:TA):TI:=fun σ H R=>ta σ H fun vs H1=>∃ a xs,vs=[.ref a]/\aj K H1 a xs/\R (jF K a) H1
theorem yZ {a:Expr} {ta:TA} {p pos GG:Pos} {elts:List Expr} {k:Nat} (hg:Gl X "enumerate") (hm:X.mg "enumerate"=none) (ha:PA X [a] ta) (hs:starEach [a] X.env=[(false,eval a X.env)]:=by rfl) :
  PI X (.Tuple elts k GG) (.Call (.Name "enumerate" p) [a] [] pos) (yY X.K ta):=by
 intro Df s σ H R I h
 refine Call_ (gF I hg hm boot_enumerate (PyProof.Rows.callWith_type1 (aE (ha pos Df s σ H _ I h) fun us s1 hsl53=>?_) hs rfl))
 obtain ⟨vs,H1,I1,r1,q1⟩:=hsl53
 obtain ⟨l,xs,e,hq,q⟩:=q1
 subst e
 obtain ⟨u,rfl,ru⟩:=vals1 r1
 cases ru
 obtain ⟨its,rv,pp,hz⟩:=I1.list hq
 refine call_enumerate_list pp.isList fun h' he FY hsz kk=>?_
 refine wpAny_pyIter_enum (s:={ s1 with heap:=h' }) he ?_
 refine ⟨s1.heap.objs.size+1,[s1.heap.objs.size+1,s1.heap.objs.size],_,_,H1,rfl,I1.kept (t':=s1.toks) kk,yX l _ _ (Nat.succ_ne_self _),⟨⟨_,he⟩,FY⟩,fun b hb=>?_,q⟩
 rcases (show b=s1.heap.objs.size+1∨b=s1.heap.objs.size by simpa using hb) with z | z
 ·subst z;exact I1.fpOk (Nat.le_succ _) (I1.hok.fresh (Nat.le_succ _))
 ·subst z;exact I1.fpOk (Qf _) (I1.hok.fresh (Qf _))
end
theorem jG {X:Cx} {K:PySem.W.Frag} {es:List Expr} {k:Nat} {pos:Pos} {t:gH} {n:Nat} (hK:X.K=K) (hc:X.calm=true) (h:jo X es t)
  (hn:(assignEach es X.env).length=n:=by rfl) (hst:(assignEach es X.env).findIdx? (·.1)=none:=by rfl):PG X (.Tuple es k pos) (mE K n t):=by
 subst hK
 exact eK hc h hn hst
section
variable {k:Nat} {js:List Nat} {g:TG} {tt:TT} {te:TE}
theorem np {K:PySem.W.Frag} {a:Addr} {xs:List V} {σ:St} {H:Hp} {Q:VK} (Pv:Nat->List V->Hp->Prop) (h0:Pv 0 [] H) (hl:∀ i ys H,i<=xs.length->Pv i ys H->aj K H a xs)
  (hs:∀ i x ys H,xs[i]?=some x->Pv i ys H->kP k js g tt te σ ys (Pv (i+1)) x H)
  (hd:∀ ys H,Pv xs.length ys H->∀ p,H p=none->Q (.ref p) (upd H p (.lst ys))):m8 (gI K a) k js g tt te σ H Q:=by
 refine ⟨fun i m ys H=>m=xs.length-i/\i<=xs.length/\Pv i ys H,⟨xs.length,by simp,Qu _,h0⟩,?_⟩
 rintro i m ys H ⟨rfl,hi,p⟩
 have q:=hl i ys H hi p
 by_cases Do:i<xs.length
 ·refine .inr ⟨⟨xs,xs[i],q,by simp [Do]⟩,Pv (i+1),fun EV H' p'=>⟨xs.length-(i+1),by lia,rfl,Do,p'⟩,fun x H' y=>?_⟩
  obtain ⟨e,y⟩:=y
  subst e
  exact hs i x ys _ (y xs q) p
 ·have e:i=xs.length:=by lia
  subst e
  exact .inl ⟨⟨xs,q,Qf _⟩,hd ys H p⟩
end
theorem y2 {K:PySem.W.Frag} {a:Addr} {xs:List V} {g:TG} {tb:TS} {D:dB} {σ:St} {H:Hp} (Pv:Nat->St->Hp->Prop) (h0:Pv 0 σ H) (hl:∀ i σ H,i<=xs.length->Pv i σ H->aj K H a xs)
  (hs:∀ i x σ H t,xs[i]?=some x->Pv i σ H->H t=none->g (.ref t) σ (upd H t (.tup [.int ((i:Nat):Int),x])) fun σ2 H2=>tb { D with nx:=Pv (i+1),ct:=Pv (i+1),bk:=D.nx } σ2 H2) (hd:∀ σ H,Pv xs.length σ H->D.nx σ H) :
  ∃ W:Nat->Nat->St->Hp->Prop,(∃ m,W 0 m σ H)/\∀ i m σ H,W i m σ H ->
   ((jF K a).stop i H/\D.nx σ H)∨((jF K a).go i H/\∃ N:St->Hp->Prop,(∀ σ' H',N σ' H'->∃ m',m'<m/\W (i+1) m' σ' H')/\∀ x H',(jF K a).yld i H x H'->g x σ H' fun σ2 H2=>tb { D with nx:=N,ct:=N,bk:=D.nx } σ2 H2):=by
 refine ⟨fun i m σ H=>m=xs.length-i/\i<=xs.length/\Pv i σ H,⟨xs.length,by simp,Qu _,h0⟩,?_⟩
 rintro i m σ H ⟨rfl,hi,p⟩
 have q:=hl i σ H hi p
 by_cases Do:i<xs.length
 ·refine .inr ⟨⟨xs,xs[i],q,by simp [Do]⟩,Pv (i+1),fun σ' H' p'=>⟨xs.length-(i+1),by lia,rfl,Do,p'⟩,fun x H' y=>?_⟩
  obtain ⟨t,y,hy,hn,rfl,rfl⟩:=y
  exact hs i y σ _ t (hy xs q) p hn
 ·have e:i=xs.length:=by lia
  subst e
  exact .inl ⟨⟨xs,q,Qf _⟩,hd σ H p⟩
section
variable {prog:Program} {w:World} {A:Around} {E:Value->Shared->Prop} {s:Shared}
def iF (l:Bool) (h:Heap) (b:Addr) (ys:Array Value):Prop:=∃ o,h.get? b=some o/\o.cls=.type (bif l then "list" else "tuple")/\∃ n,o.data=.seq ys n
def y6 (l:Bool) (h:Heap) (d b:Addr) (k:Nat):Prop:=∃ o,h.get? d=some o/\o.cls=.type (bif l then "list_iterator" else "tuple_iterator")/\o.data=.fields #[.ref b,.int k 0]
noncomputable abbrev y7 (l:Bool) (t:Addr):Obj:={ cls:=.type (bif l then "list_iterator" else "tuple_iterator"),data:=.fields #[.ref t,.int 0 0] }
end
theorem y9:typeLookup (.type "list") "keys"=pure none:=by rw [typeLookup_type,builtinLookup_eq_fast];kernel_rfl
theorem za:typeLookup (.type "list") "__getattr__"=pure none:=by rw [typeLookup_type,builtinLookup_eq_fast];kernel_rfl
section
variable {prog:Program} {w:World} {A:Around} {E:Value->Shared->Prop} {h:Heap} {g:Array GenState} {d:Drawn} {t:Nat} {os:OsState} {a:Addr} {its:Array Value} {nn:Nat} {sl:Array (Option Value)}
noncomputable abbrev kY (its:Array Value) (nn:Nat) (sl:Array (Option Value)):Obj:={ cls:=.type "list",dict:=none,data:=.seq its nn,slots:=sl }
theorem zb {tk:Tok} {Q:Fin->Shared->Prop} (hx:h.get? a=some (kY its nn sl)) (hh:A.handled=none)
  (hq:∀ hp tk e,Heap.NewAttrErr h hp e (.ref a) "keys"->E (.ref e) ⟨hp,g,d,tk,os⟩):wpAny (model prog w) A (Builtin.«object.__getattribute__» ⟨[.ref a,.str "keys" tk],[]⟩) Q E ⟨h,g,d,t,os⟩:=by
 have hT:(⟨h,g,d,t,os⟩:Shared).TypeIs (.ref a) "list":=⟨_,hx,rfl⟩
 have f4:=y9
 repeat (any_goals (first | assumption | wp_step))
 exact wpAny_raiseAttrError hh hq (attrMsg_fits (by decide +kernel) (by decide +kernel))
theorem zc {tk:Tok} {R:Result->Shared->Prop} (hx:h.get? a=some (kY its nn sl)) (hh:A.handled=none) (hq:∀ hp tk e,Heap.NewAttrErr h hp e (.ref a) "keys"->R (.error (.ref e)) ⟨hp,g,d,tk,os⟩) :
  codeAny (model prog w) A (.call (.builtin "list.__getattribute__") ⟨[.ref a,.str "keys" tk],[]⟩) R ⟨h,g,d,t,os⟩:=by
 refine codeAny_call_builtin F.slot_list_getattribute.plain F.entry_list_ga (F.slot_list_getattribute.check _ _ _ _ _ _ _ _ (show (⟨h,g,d,t,os⟩:Shared).TypeIs (.ref a) "list" from ⟨_,hx,rfl⟩) (F.args_list_getattribute_2 _ _) (zb hx (by simpa using hh) hq))
theorem zd {tk:Tok} {Q:Value->Shared->Prop} (hx:h.get? a=some (kY its nn sl)) (hh:A.handled=none) (hq:∀ hp tk e,Heap.NewAttrErr h hp e (.ref a) "keys"->E (.ref e) ⟨hp,g,d,tk,os⟩) :
  wpAny (model prog w) A (getAttrBy (.ref a) (.str "keys" tk) false) Q E ⟨h,g,d,t,os⟩:=by
 have hT:(⟨h,g,d,t,os⟩:Shared).TypeIs (.ref a) "list":=⟨_,hx,rfl⟩
 have f1:=sub_AttributeError
 have f2:=F.slot_list_getattribute.lookup
 have f3:=F.slot_list_getattribute.bind (.ref a)
 have f5:=za
 unfold getAttrBy
 repeat (any_goals (first | assumption | wp_step))
 refine zc hx hh fun hp tk' e hn=>?_
 obtain ⟨t',u',he⟩:=hn.there
 show wpAny _ _ (getattributeRaised _ _ _ _ _ _ _) _ _ _
 unfold getattributeRaised
 repeat (any_goals (first | assumption | wp_step))
 exact hq _ _ _ hn
theorem ze {Q:Option Value->Shared->Prop} (hx:h.get? a=some (kY its nn sl)) (hh:A.handled=none) (hq:∀ hp tk e,Heap.NewAttrErr h hp e (.ref a) "keys"->Q none ⟨hp,g,d,tk,os⟩) :
  wpAny (model prog w) A (getAttr? (.ref a) "keys") Q E ⟨h,g,d,t,os⟩:=by
 unfold getAttr? getAttrBy?
 refine Qb (wpAny_mkText (Qb (wpAny_attempt (zd hx hh fun hp tk' e hn=>?_))))
 obtain ⟨t',u',he⟩:=hn.there
 have f1:=sub_AttributeError
 repeat (any_goals (first | assumption | wp_step))
 exact hq _ _ _ hn
end
theorem zf:typeLookup (.type "tuple") "keys"=pure none:=by rw [typeLookup_type,builtinLookup_eq_fast];kernel_rfl
theorem zg:typeLookup (.type "tuple") "__getattr__"=pure none:=by rw [typeLookup_type,builtinLookup_eq_fast];kernel_rfl
section
variable {prog:Program} {w:World} {A:Around} {E:Value->Shared->Prop} {h:Heap} {g:Array GenState} {d:Drawn} {t:Nat} {os:OsState} {a:Addr} {its:Array Value} {nn:Nat} {sl:Array (Option Value)}
noncomputable abbrev kZ (its:Array Value) (nn:Nat) (sl:Array (Option Value)):Obj:={ cls:=.type "tuple",dict:=none,data:=.seq its nn,slots:=sl }
theorem zh {tk:Tok} {Q:Fin->Shared->Prop} (hx:h.get? a=some (kZ its nn sl)) (hh:A.handled=none)
  (hq:∀ hp tk e,Heap.NewAttrErr h hp e (.ref a) "keys"->E (.ref e) ⟨hp,g,d,tk,os⟩):wpAny (model prog w) A (Builtin.«object.__getattribute__» ⟨[.ref a,.str "keys" tk],[]⟩) Q E ⟨h,g,d,t,os⟩:=by
 have hT:(⟨h,g,d,t,os⟩:Shared).TypeIs (.ref a) "tuple":=⟨_,hx,rfl⟩
 have f4:=zf
 repeat (any_goals (first | assumption | wp_step))
 exact wpAny_raiseAttrError hh hq (attrMsg_fits (by decide +kernel) (by decide +kernel))
theorem zi {tk:Tok} {R:Result->Shared->Prop} (hx:h.get? a=some (kZ its nn sl)) (hh:A.handled=none) (hq:∀ hp tk e,Heap.NewAttrErr h hp e (.ref a) "keys"->R (.error (.ref e)) ⟨hp,g,d,tk,os⟩) :
  codeAny (model prog w) A (.call (.builtin "tuple.__getattribute__") ⟨[.ref a,.str "keys" tk],[]⟩) R ⟨h,g,d,t,os⟩:=by
 refine codeAny_call_builtin F.slot_tuple_getattribute.plain F.entry_tuple_ga (F.slot_tuple_getattribute.check _ _ _ _ _ _ _ _ (show (⟨h,g,d,t,os⟩:Shared).TypeIs (.ref a) "tuple" from ⟨_,hx,rfl⟩) (F.args_tuple_getattribute_2 _ _) (zh hx (by simpa using hh) hq))
theorem zj {tk:Tok} {Q:Value->Shared->Prop} (hx:h.get? a=some (kZ its nn sl)) (hh:A.handled=none) (hq:∀ hp tk e,Heap.NewAttrErr h hp e (.ref a) "keys"->E (.ref e) ⟨hp,g,d,tk,os⟩) :
  wpAny (model prog w) A (getAttrBy (.ref a) (.str "keys" tk) false) Q E ⟨h,g,d,t,os⟩:=by
 have hT:(⟨h,g,d,t,os⟩:Shared).TypeIs (.ref a) "tuple":=⟨_,hx,rfl⟩
 have f1:=sub_AttributeError
 have f2:=F.slot_tuple_getattribute.lookup
 have f3:=F.slot_tuple_getattribute.bind (.ref a)
 have f5:=zg
 unfold getAttrBy
 repeat (any_goals (first | assumption | wp_step))
 refine zi hx hh fun hp tk' e hn=>?_
 obtain ⟨t',u',he⟩:=hn.there
 show wpAny _ _ (getattributeRaised _ _ _ _ _ _ _) _ _ _
 unfold getattributeRaised
 repeat (any_goals (first | assumption | wp_step))
 exact hq _ _ _ hn
theorem zk {Q:Option Value->Shared->Prop} (hx:h.get? a=some (kZ its nn sl)) (hh:A.handled=none) (hq:∀ hp tk e,Heap.NewAttrErr h hp e (.ref a) "keys"->Q none ⟨hp,g,d,tk,os⟩) :
  wpAny (model prog w) A (getAttr? (.ref a) "keys") Q E ⟨h,g,d,t,os⟩:=by
 unfold getAttr? getAttrBy?
 refine Qb (wpAny_mkText (Qb (wpAny_attempt (zj hx hh fun hp tk' e hn=>?_))))
 obtain ⟨t',u',he⟩:=hn.there
 have f1:=sub_AttributeError
 repeat (any_goals (first | assumption | wp_step))
 exact hq _ _ _ hn
end
theorem rD:entryFor table "dict.update.loop"=some Builtin.«dict.update.loop»:=entryFor_of_tree (by kernel_rfl)
theorem k5:plainId "dict.update.loop"=true:=by decide +kernel
noncomputable def eW (ps:List (ae × Value)):List (ae × Value):=ps.foldl (fun q p=>stored q p.1 p.2) []
theorem zm (ps:List (ae × Value)) (p:ae × Value):eW (ps++[p])=stored (eW ps) p.1 p.2:=by
 unfold eW;rw [List.foldl_append];rfl
section
variable {prog:Program} {w:World} {A:Around} {E:Value->Shared->Prop} {s:Shared} {R:Result->Shared->Prop} {I:Addr} {fp wr:List Addr} {G:Array GenState->Array GenState->Prop} {n:Nat} {P:Nat->Value->Prop} {St:Nat->Shared->Prop}
theorem zn (W:WalksS prog w A.in1 I fp wr G n P St) (S:Addr) (hSf:S∉fp) (ps:List (ae × Value)) (hn:ps.length=n) (tp:Nat->Addr) (kyv:Nat->Value) (hky:∀ i p,ps[i]?=some p->(bR prog w).is p.1 (kyv i)=true)
  (hval:∀ i v,P i v->v=.ref (tp i)) (hw:∀ i,tp i∉wr/\tp i≠S) (hsz:∀ i,(eW (ps.take i)).length<=sizeLine) :
  ∀ (k i:Nat) (j:Tok) (s:Shared),n-i=k->i<=n->St i s->s.heap.DictOf (bR prog w) S (eW (ps.take i))->(∀ i p,ps[i]?=some p->s.heap.IsTuple (tp i) #[kyv i,p.2]) ->
   (∀ s',Moved (S::wr) G s s'->s'.heap.DictOf (bR prog w) S (eW ps)->R (.ok (.ret .none)) s') ->
   codeAny (model prog w) A (.builtin "dict.update.loop" ⟨[.ref S,.ref I,.int i j,.none],[]⟩) R s:=by
 have hSw:S∉wr:=fun h=>hSf (W.sub _ h)
 have hsub:∀ b∈wr,b∈S::wr:=fun b hb=>Qy _ hb
 have dk:∀ {s s':Shared} {q},Moved wr G s s'->s.heap.DictOf (bR prog w) S q->s'.heap.DictOf (bR prog w) S q:=fun hm hD=>by
  obtain ⟨o,es,ep,ho,Dr⟩:=hD
  exact ⟨o,es,ep,hm.heap S _ hSw ho,Dr⟩
 intro k
 induction k with
 | zero =>
  intro i j s hk hi hst hS hT hR
  have hin:i=n:=by lia
  subst hin
  refine codeAny_builtin rD ?_
  rw [Around.under_plainId k5 _]
  show wpAny _ A.in1 (pyNext (.ref I) >>= _) _ _ s
  refine Qb (W.done s _ _ hst fun s' hm=>?_)
  show wpAny _ _ (Builtin.Dict.addKeywords S [] >>= _) _ _ _
  refine Qb (Qk (Qk (hR s' (hm.mono hsub) ?_)))
  rw [Qv (by lia)] at hS
  exact dk hm hS
 | succ k ih =>
  intro i j s hk hi hst hS hT hR
  have Do:i<n:=by lia
  have hip:i<ps.length:=by lia
  refine codeAny_builtin rD ?_
  rw [Around.under_plainId k5 _]
  show wpAny _ A.in1 (pyNext (.ref I) >>= _) _ _ s
  refine Qb (W.item i s _ _ Do hst fun v s' hP hst' hm=>?_)
  obtain rfl:=hval i v hP
  have hT1:∀ i p,ps[i]?=some p->s'.heap.IsTuple (tp i) #[kyv i,p.2]:=fun i p h=>(hT i p h).at fun o r=>hm.heap _ o (hw i).1 r
  have hti:=hT1 i ps[i] (Qa hip)
  have hky:=hky i ps[i] (Qa hip)
  refine Qb (wpAny_holding (Qb (wpAny_tryCatch ?_)))
  unfold Builtin.Dict.pairItems
  refine Qb (wpAny_typeOf hti.typeIs ?_)
  obtain ⟨ot,h1,h2,nt,h3⟩:=id hti
  rw [if_pos (by decide)]
  refine Qb (wpAny_seqItems h1 h3 (Qk ?_))
  show wpAny _ _ (holding [kyv i,ps[i].2] (dictSet S (kyv i) ps[i].2)) _ _ _
  refine wpAny_holding (wpAny_dictSet_pairs (hsz:=hsz i) hky (dk hm hS) fun h' dd hs=>?_)
  rw [<- zm,<- Qm hip] at dd
  refine Qk ⟨plainId_quiet k5 _,ih (i+1) _ _ (by lia) Do (W.frame _ s' _ _ hst' (Nat.le_succ _) fun b hb o e=>?_) dd (fun i p h=>(hT1 i p h).at fun o r=>?_) fun s2 hm2 Gf=>?_⟩
  ·rw [hs.2 b (fun h:b=S=>hSf (by rw [<- h];exact hb))];exact e
  ·exact (hs.2 _ (hw i).2).trans r
  ·refine hR s2 (Moved.trans W.gtrans ((hm.mono hsub).then_heap (Nat.le_succ _) fun b o hb e=>?_) hm2) Gf
   rw [hs.2 b (fun h:b=S=>hb (by rw [h];exact QF))];exact e
end
theorem iF.at {l:Bool} {h h':Heap} {b:Addr} {ys:Array Value} (p:iF l h b ys) (e:∀ o,h.get? b=some o->h'.get? b=some o):iF l h' b ys :=
 let ⟨o,q,r⟩:=p;⟨o,e o q,r⟩
theorem zo {prog:Program} {w:World} {A:Around} {E:Value->Shared->Prop} {s:Shared} {l:Bool} {a:Addr} {its:Array Value} {Q:Value->Shared->Prop} (h:iF l s.heap a its) (hq:Q (.ref s.heap.objs.size) { s with heap:=s.heap.push (y7 l a) }):wpAny (model prog w) A (pyIter (.ref a)) Q E s:=by
 cases l
 ·exact wpAny_pyIter_tuple h hq
 ·exact wpAny_pyIter_list h hq
theorem zp (l:Bool) {prog:Program} {w:World} {A:Around} (hh:A.handled=none) (I ax:Addr) (Dp:ax≠I) (items:Array Value) :
  Walks prog w A I [I,ax] [I] items.size (fun i v=>items[i]?=some v) (fun i h=>y6 l h I ax i/\iF l h ax items):=by
 cases l
 ·exact .tuple hh I ax Dp items
 ·exact .list hh I ax Dp items
section
variable {prog:Program} {w:World} {A:Around} {E:Value->Shared->Prop} {s:Shared}
noncomputable abbrev nr (l:Bool) (its:Array Value) (nn:Nat) (sl:Array (Option Value)):Obj:={ cls:=.type (bif l then "list" else "tuple"),dict:=none,data:=.seq its nn,slots:=sl }
noncomputable abbrev iG:Obj:={ cls:=.type "dict",data:=.dict #[] }
theorem zq {c:Bool} {l:Addr} {items:Array Value} {nn:Nat} {sl:Array (Option Value)} {Q:Value->Shared->Prop} (hl:s.heap.get? l=some (nr c items nn sl)) (hh:A.handled=none) (ps:List (ae × Value)) (tp:Nat->Addr) (kyv:Nat->Value)
  (Dj:ps.length=items.size) (hky:∀ i p,ps[i]?=some p->(bR prog w).is p.1 (kyv i)=true) (FY:∀ (i:Nat) (v:Value),items[i]?=some v->v=.ref (tp i)) (htp:∀ i,tp i<s.heap.objs.size) (hsz:∀ i,(eW (ps.take i)).length<=sizeLine)
  (hT:∀ i p,ps[i]?=some p->s.heap.IsTuple (tp i) #[kyv i,p.2])
  (k:∀ (hp:Heap) (tk:Nat),hp.DictOf (bR prog w) s.heap.objs.size (eW ps)->(∀ b o,s.heap.get? b=some o->hp.get? b=some o)->Q (.ref s.heap.objs.size) { s with heap:=hp,toks:=tk }) :
  wpAny (model prog w) A (call (.type "dict") [.ref l]) Q E s:=by
 refine callType_codes (Q₁:=fun obj s₁=>obj=.ref s.heap.objs.size/\s₁={ s with heap:=s.heap.push iG }) F.kt_called_dict (F.kt_typeCall_dict_1 _) F.entry_dict_init (kt_code_dict_new _ ⟨rfl,rfl⟩) ?_
 rintro obj s₁ ⟨rfl,rfl⟩
 have E2:(s.heap.push iG).DictOf (bR prog w) s.heap.objs.size []:=Heap.DictOf.new s.heap
 have EY:(s.heap.push iG).get? l=some (nr c items nn sl):=Qg _ hl
 have hll:l<s.heap.objs.size:=Qs hl
 refine ⟨E2.typeIs,F.args_dict_init_2 _ _,?_⟩
 unfold Builtin.«dict.__init__»
 refine Qb ?_
 unfold Builtin.Dict.selfAndRest
 refine Qb (wpAny_notOrdered_dict E2.typeIs (Qk ?_))
 change wpAny _ _ (Builtin.Dict.updateFrom "dict.__init__" s.heap.objs.size (.ref l) [] .none) _ _ _
 unfold Builtin.Dict.updateFrom
 have ty:Shared.TypeIs { s with heap:=s.heap.push iG } (.ref l) (bif c then "list" else "tuple"):=⟨_,EY,rfl⟩
 refine Qb (wpAny_typeOf ty ?_)
 rw [if_pos (by cases c<;>decide)]
 have kn:∀ {Q:Option Value->Shared->Prop} {E:Value->Shared->Prop},(∀ hp tk e,Heap.NewAttrErr (s.heap.push iG) hp e (.ref l) "keys"->Q none ⟨hp,s.gens,s.drawn,tk,s.os⟩)->wpAny (model prog w) A.in1.in1 (getAttr? (.ref l) "keys") Q E { s with heap:=s.heap.push iG }:=fun hq=>by
  cases c
  ·exact zk EY (by simpa using hh) hq
  ·exact ze EY (by simpa using hh) hq
 refine Qb (kn fun hp tk e hn=>?_)
 have kp:∀ b o,s.heap.get? b=some o->hp.get? b=some o:=fun b o r=>hn.keeps b o (Qg _ r)
 have hD:hp.DictOf (bR prog w) s.heap.objs.size []:=by
  obtain ⟨o,es,ep,ho,Dr⟩:=E2
  exact ⟨o,es,ep,hn.keeps _ _ ho,Dr⟩
 have hSl:s.heap.objs.size<hp.objs.size:=by
  obtain ⟨o,es,ep,ho,Dr⟩:=hD
  exact Qs ho
 rw [if_pos (by rfl)]
 refine Qb (wpAny_rule ?_)
 have hlp:iF c hp l items:=⟨_,kp _ _ hl,rfl,nn,rfl⟩
 refine Qb (zo (s:=⟨hp,s.gens,s.drawn,tk,s.os⟩) hlp ?_)
 refine Qk ⟨plainId_quiet k5 _,?_⟩
 have hneI:l≠hp.objs.size:=QB (Nat.lt_trans hll hSl)
 have hSf:s.heap.objs.size∉[hp.objs.size,l]:=by
  simp only [List.mem_cons,List.mem_singleton,List.not_mem_nil,or_false,not_or]
  exact ⟨QB hSl,QX hll⟩
 have W:=(zp c (prog:=prog) (w:=w) (A:=A.in1.in1) (by simp [hh]) hp.objs.size l hneI items).toS
 refine zn W s.heap.objs.size hSf ps Dj tp kyv hky FY (fun i=>?_) hsz (items.size-0) 0 0 _ (by lia) (Qu _) ⟨⟨_,Qz _ rfl,rfl,rfl⟩,hlp.at fun o r=>Qg _ r⟩ ?_ (fun i p h=>((hT i p h).at fun o r=>kp _ o r).push _) fun s' hm hS'=>?_
 ·refine ⟨?_,QB (htp i)⟩
  simp only [List.mem_cons,List.mem_singleton,List.not_mem_nil,or_false]
  exact QB (Nat.lt_trans (htp i) hSl)
 ·obtain ⟨o,es,ep,ho,Dr⟩:=hD
  exact ⟨o,es,ep,Qg _ ho,Dr⟩
 ·obtain ⟨h',g',d',tk',D1⟩:=s'
  have eg:g'=s.gens:=hm.gens
  have ed:d'=s.drawn:=hm.drawn
  have eo:D1=s.os:=hm.os
  subst eg;subst ed;subst eo
  refine ⟨rfl,k h' tk' hS' fun b o r=>?_⟩
  have hb:b<s.heap.objs.size:=Qs r
  refine hm.heap b o ?_ (Qg _ (kp b o r))
  simp only [List.mem_cons,List.mem_singleton,List.not_mem_nil,or_false,not_or]
  exact ⟨QB hb,QB (Nat.lt_trans hb hSl)⟩
end
theorem zr:bootBuiltins "dict"=some (.type "dict"):=by decide +kernel
noncomputable def fq (ps:List (ae × V)):List (ae × V):=ps.foldl (fun q p=>b8 q p.1 p.2) []
theorem nu (ps:List (ae × V)):(fq ps).length<=ps.length:=by
 have go:∀ (ps:List (ae × V)) (q:List (ae × V)),(ps.foldl (fun q p=>b8 q p.1 p.2) q).length<=q.length+ps.length:=fun ps=>by
  induction ps with
  | nil=>intro q;simp
  | cons p ps ih=>intro q;have h1:=ih (b8 q p.1 p.2);have h2:=jC q p.1 p.2;simp only [List.foldl_cons,QR];lia
 simpa [fq] using go ps []
theorem rE:∀ {ps:List (ae × V)} {qs:List (ae × Value)},ps.length=qs.length->(∀ (i:Nat) (p:ae × V) (q:ae × Value),ps[i]?=some p->qs[i]?=some q->p.1=q.1/\RelV p.2 q.2)->KV (fq ps) (eW qs):=by
 have go:∀ (ps:List (ae × V)) (qs:List (ae × Value)) (a:List (ae × V)) (b:List (ae × Value)),KV a b->ps.length=qs.length->(∀ (i:Nat) (p:ae × V) (q:ae × Value),ps[i]?=some p->qs[i]?=some q->p.1=q.1/\RelV p.2 q.2) ->
   KV (ps.foldl (fun q p=>b8 q p.1 p.2) a) (qs.foldl (fun q p=>stored q p.1 p.2) b):=fun ps=>by
  induction ps with
  | nil=>intro qs a b h hl _;cases qs with | nil=>exact h | cons _ _=>simp at hl
  | cons p ps ih =>
   intro qs a b h hl hr
   cases qs with
   | nil=>simp at hl
   | cons q qs =>
    obtain ⟨e,r⟩:=hr 0 p q rfl rfl
    simp only [List.foldl_cons]
    refine ih qs _ _ ?_ (by simpa using hl) fun i p' q' h1 h2=>hr (i+1) p' q' (by simpa using h1) (by simpa using h2)
    rw [e];exact h.put q.1 r
 intro ps qs hl hr
 exact go ps qs [] [] .nil hl hr
section
variable {X:Cx}
theorem zt (c:Bool) (hc:X.calm=true):fJ X (.type "dict") (fun xs H Q=>∃ (l:Addr) (ts:List Addr) (ps:List (ae × V)),xs=[V.ref l]/\H l=some (bif c then .lst (ts.map V.ref) else .tup (ts.map V.ref))/\ts.length=ps.length /\
  (∀ (i:Nat) (t:Addr) (p:ae × V),ts[i]?=some t->ps[i]?=some p->H t=some (.tup [kV p.1,p.2]))/\∀ q,H q=none->Q (.ref q) (upd H q (.dK (fq ps)))):=by
 intro Df s σ H xs us Q I r h
 obtain ⟨l,ts,ps,rfl,hl,htl,E8,kq⟩:=h
 obtain ⟨u,rfl,ru⟩:=vals1 r
 cases (show u=Value.ref l from ru)
 obtain ⟨its,rv,n,sl,ho,hz⟩:∃ its,ap (ts.map V.ref) its/\∃ n sl,s.heap.get? l=some (nr c its.toArray n sl)/\(ts.map V.ref).length<=sizeLine:=by
  cases c
  ·obtain ⟨hz,its,rv,⟨o,ho,FZ,n,hda⟩,o2,Et,hd⟩:=(show bC X.prog X.w H s.heap l (.tup (ts.map V.ref)) from I.hok l _ hl)
   rw [ho] at Et
   cases Et
   obtain ⟨ocls,odict,odata,oslots⟩:=o
   simp only at FZ hd hda
   subst FZ;subst hd;subst hda
   exact ⟨its,rv,n,_,ho,hz⟩
  ·obtain ⟨its,rv,⟨o,n,ho,FZ,hd,hda⟩,hz⟩:=I.list (aj.of hl)
   obtain ⟨ocls,odict,odata,oslots⟩:=o
   simp only at FZ hd hda
   subst FZ;subst hd;subst hda
   exact ⟨its,rv,n,_,ho,hz⟩
 have DJ:its.length=ts.length:=by rw [<- rv.length,Qd]
 obtain ⟨tp,htpe⟩:∃ tp:Nat->Addr,∀ i,tp i=ts.getD i l:=⟨_,fun _=>rfl⟩
 have pr:∀ i:Nat,∃ q:Value × Value,i<ps.length->its[i]?=some (.ref (tp i))/\IsTup s.heap (tp i) #[q.1,q.2]/\∀ p,ps[i]?=some p->RelV (kV p.1) q.1/\RelV p.2 q.2:=fun i=>by
  by_cases hi:i<ps.length
  ·have hti:i<ts.length:=by lia
   have h1:ts[i]?=some ts[i]:=Qa hti
   have h2:ps[i]?=some ps[i]:=Qa hi
   have et:tp i=ts[i]:=by rw [htpe,Qe,h1];rfl
   obtain ⟨v,hv,rvv⟩:=rv.get (i:=i) (x:=.ref ts[i]) (by rw [Qr,h1];rfl)
   cases (show v=Value.ref ts[i] from rvv)
   obtain ⟨jts,rj,pj,_⟩:=I.tuple (ah.of (E8 i _ _ h1 h2))
   cases rj with
   | cons ra r2 =>
   cases r2 with
   | cons rb r3 =>
   cases r3
   refine ⟨(_,_),fun _=>⟨by rw [et];exact hv,by rw [et];exact pj,fun p hp=>?_⟩⟩
   rw [h2] at hp;cases hp;exact ⟨ra,rb⟩
  ·exact ⟨(.none,.none),fun h=>absurd h hi⟩
 obtain ⟨qv,Gg⟩:=Classical.axiomOfChoice pr
 obtain ⟨qs,hqs⟩:∃ qs:List (ae × Value),qs=(List.range ps.length).map fun i=>((ps.getD i (.inl 0,.non)).1,(qv i).2):=⟨_,rfl⟩
 have qsl:qs.length=ps.length:=by rw [hqs];simp
 have qsg:∀ (i:Nat) (q:ae × Value),qs[i]?=some q->i<ps.length/\∃ p,ps[i]?=some p/\q=(p.1,(qv i).2):=fun i q h=>by
  have hi:i<ps.length:=by have:=(Qc h).1;lia
  refine ⟨hi,ps[i],Qa hi,?_⟩
  rw [hqs,Qr,List.getElem?_range hi] at h
  have h:=Qq h
  rw [<- h]
  show ((ps.getD i (.inl 0,.non)).1,(qv i).2)=_
  rw [Qe,Qa hi];rfl
 have E6:KV (fq ps) (eW qs):=rE qsl.symm fun i p q h1 h2=>by
  obtain ⟨hi,p',EJ,rfl⟩:=qsg i q h2
  rw [h1] at EJ;cases EJ
  exact ⟨rfl,((Gg i hi).2.2 p h1).2⟩
 have relT:∀ i,KV (fq (ps.take i)) (eW (qs.take i)):=fun i=>rE (by simp [qsl]) fun j p q h1 h2=>by
  rw [List.getElem?_take] at h1 h2
  split at h1
  ·rename_i hj
   rw [if_pos hj] at h2
   obtain ⟨hi,p',EJ,rfl⟩:=qsg j q h2
   rw [h1] at EJ;cases EJ
   exact ⟨rfl,((Gg j hi).2.2 p h1).2⟩
  ·cases h1
 have hpz:ps.length<=sizeLine:=by rw [Qd] at hz;lia
 refine zq ho (I.ok.hd hc) qs tp (fun i=>(qv i).1) (by rw [qsl];simp;lia) (fun i q h=>?_) (fun i v h=>?_) (fun i=>?_) (fun i=>?_) (fun i q h=>?_) fun hp tk hD kk=>?_
 ·obtain ⟨hi,p,hp,rfl⟩:=qsg i q h
  exact gQ ((Gg i hi).2.2 p hp).1
 ·have hi:i<ps.length:=by
   have:=(Array.getElem?_eq_some_iff.mp h).1
   simp at this;lia
  have:=(Gg i hi).1
  have h:its[i]?=some v:=by simpa using h
  rw [this] at h;exact (Qq h).symm
 ·by_cases hi:i<ps.length
  ·obtain ⟨_,⟨o,r,_⟩,_⟩:=Gg i hi
   exact Qs r
  ·have:tp i=l:=by
    rw [htpe,Qe,List.getElem?_eq_none (by lia)];rfl
   rw [this];exact Qs ho
 ·rw [<- (relT i).length]
  have:=nu (ps.take i)
  rw [QD] at this
  lia
 ·obtain ⟨hi,p,hp,rfl⟩:=qsg i q h
  exact (Gg i hi).2.1
 ·have hf:=nu ps
  refine ⟨.ref s.heap.objs.size,_,I.laid (a:=s.heap.objs.size) (o:=.dK (fq ps)) (t':=tk) kk (Qf _) (rn (by lia) (beq_eq_false_iff_ne.mpr (Ne.symm (QB I.big))) E6 hD),rfl,kq _ I.fresh⟩
end
theorem dt {t u:TS} {D:dB} {σ:St} {H:Hp} (h:∀ N:St->Hp->Prop,(∀ a b,u D a b->N a b)->t { D with nx:=N } σ H):jn t u D σ H:=h _ fun _ _ x=>x
mutual
inductive cX (K:PySem.W.Frag) (H:Hp):V->PyData->Prop
 | non:cX K H .non .none
 | bl (b:Bool):cX K H (.bl b) (.bool b)
 | int (i:Int):cX K H (.int i) (.int i)
 | str (x:Str):cX K H (.str x) (.str x)
 | lst {a:Addr} {xs:List V} {ds:List PyData}:aj K H a xs->RdvA K H xs ds->cX K H (.ref a) (.list ds)
 | tup {a:Addr} {xs:List V} {ds:List PyData}:ah K H a xs->RdvA K H xs ds->cX K H (.ref a) (.tuple ds)
inductive RdvA (K:PySem.W.Frag) (H:Hp):List V->List PyData->Prop
 | nil:RdvA K H [] []
 | cons {x:V} {d:PyData} {xs:List V} {ds:List PyData}:cX K H x d->RdvA K H xs ds->RdvA K H (x::xs) (d::ds)
end
section
variable {X:Cx} {Df:List (Addr × Obj)} {σ:St} {H:Hp} {s:Shared}
mutual
theorem cX.reads (I:Inv X Df σ H s):∀ {x:V} {d:PyData} {u:Value},cX X.K H x d->RelV x u->∃ as,Reads s.heap u d as
 | _,_,_,.non,r=>by cases r;exact ⟨_,.none⟩
 | _,_,_,.bl b,r=>by cases r;exact ⟨_,.bool b⟩
 | _,_,_,.int i,r=>by obtain ⟨t,rfl⟩:=r;exact ⟨_,.int i t⟩
 | _,_,_,.str x,r=>by obtain ⟨t,rfl⟩:=r;exact ⟨_,.str x t⟩
 | _,_,_,.lst hq ha,r=>by
  cases r
  obtain ⟨its,rv,p,_⟩:=I.list hq
  obtain ⟨as,ra⟩:=RdvA.reads I ha rv
  obtain ⟨o,ho,hc,n,hd⟩:=p.isList
  exact ⟨_,.list ho hc hd (by simpa using ra)⟩
 | _,_,_,.tup hq ha,r=>by
  cases r
  obtain ⟨its,rv,p,_⟩:=I.tuple hq
  obtain ⟨as,ra⟩:=RdvA.reads I ha rv
  obtain ⟨o,ho,hc,n,hd⟩:=p
  exact ⟨_,.tuple ho hc hd (by simpa using ra)⟩
theorem RdvA.reads (I:Inv X Df σ H s):∀ {xs:List V} {ds:List PyData} {us:List Value},RdvA X.K H xs ds->ap xs us->∃ as,ReadsAll s.heap us ds as
 | _,_,_,.nil,r=>by cases r;exact ⟨_,.nil⟩
 | _,_,_,.cons h t,r=>by
  cases r with
  | cons r1 r2 =>
   obtain ⟨as,ra⟩:=cX.reads I h r1
   obtain ⟨bs,rb⟩:=RdvA.reads I t r2
   exact ⟨_,.cons ra rb⟩
end
end
section
variable {X:Cx}
theorem k6 {K:PySem.W.Frag} (hK:X.K=K) (hu:X.A.units+64<cLine):bD X (compareOp .NotEq) (fun x y H Q=>∃ d e,cX K H x d/\cX K H y e/\SeqAt.shaped d=true/\SeqAt.shaped e=true/\Q (.bl (!PyData.eqv d e)) H):=by
 intro Df s σ H x y v u Q I rx ry h
 subst hK
 obtain ⟨d,e,h1,h2,s1,s2,q⟩:=h
 obtain ⟨as,ra⟩:=h1.reads I rx
 obtain ⟨bs,rb⟩:=h2.reads I ry
 exact ne_dataH ra rb s1 s2 hu ⟨.bl _,H,I,rfl,q⟩
end
def aU (n:Nat) (d:PyData):Prop:=d.canLay0=true/\d.depth<=n
theorem aU.int (i:Int):aU 0 (.int i):=⟨rfl,Qf _⟩
theorem aU.str {z:Str} (h:∀ c∈z.cps.toList,c<128):aU 0 (.str z):=⟨by
 show PyData.strOk z=true
 unfold PyData.strOk
 rw [Array.all_eq_true]
 intro i hi
 have:=h z.cps[i] (by simp)
 simp only [decide_eq_true_eq]
 lia,Qf _⟩
theorem jH {n:Nat}:∀ {ds:List PyData},(∀ d∈ds,aU n d)->PyData.canLayAll0 ds=true/\PyData.depthAll ds<=n
 | [],_=>⟨rfl,Qu _⟩
 | d::r,h=>by
  obtain ⟨a,b⟩:=h d QF
  obtain ⟨c,e⟩:=jH (ds:=r) fun x hx=>h x (Qy _ hx)
  exact ⟨by simp only [PyData.canLayAll0];rw [a,c];rfl,by simp only [PyData.depthAll];lia⟩
theorem aU.list {n:Nat} {ds:List PyData} (h:∀ d∈ds,aU n d):aU (n+1) (.list ds):=⟨by simp only [PyData.canLay0];exact (jH h).1,by simp only [PyData.depth];have:=(jH h).2;lia⟩
theorem aU.tuple {n:Nat} {ds:List PyData} (h:∀ d∈ds,aU n d):aU (n+1) (.tuple ds):=⟨by simp only [PyData.canLay0];exact (jH h).1,by simp only [PyData.depth];have:=(jH h).2;lia⟩
theorem aU.up {n m:Nat} {d:PyData} (h:aU n d) (hm:n<=m):aU m d:=⟨h.1,QC h.2 hm⟩
theorem aU.ok {n:Nat} {d:PyData} (h:aU n d) (hn:n<=64):SeqAt.shaped d=true:=by
 show (d.canLay0&&decide (d.depth<=64))=true
 rw [h.1,Qo (QC h.2 hn)];rfl
theorem aU.refl {n:Nat} {d:PyData} (h:aU n d):PyData.eqv d d=true:=SeqAt.eqv_refl d h.1
theorem rF (a v:Value):argsOk "list.sort" ⟨[a],[(Str.ofString "key",v)]⟩:=by unfold argsOk;kernel_rfl
theorem rG (a v:Value):argsOk "sorted" ⟨[a],[(Str.ofString "key",v)]⟩:=by unfold argsOk;kernel_rfl
theorem rH (a f:Addr):Builtin.«list.sort» ⟨[.ref a],[(Str.ofString "key",.ref f)]⟩=(do
  let items <- Builtin.List.listItems (.ref a)
  Builtin.List.listUpdate (.ref a) fun _=>#[]
  let before <- seqEpoch a
  let held <- newTuple items.toList
  let keyStore <- newList []
  holding [held,keyStore] do
   rule "list.sort.key"
   for x in items do
    match <- (call (.ref f) [x]).attempt with
    | .ok k=>Builtin.List.listUpdate keyStore (·.push k)
    | .error e =>
     rule "list.sort.key-raised"
     let made <- Builtin.List.listItems keyStore
     Builtin.List.listUpdate keyStore fun _=>#[]
     letGo made.toList.reverse [e]
     Builtin.List.listUpdate (.ref a) fun _=>items;throw e
   let keys <- Builtin.List.listItems keyStore
   let kind <- if items.size<2 then pure general' else keyKind' keys
   let ((),s) <- (if items.size<2 then pure () else sortRuns').run (SortSt.mk' kind (keys.zip items) #[] 7 none)
   let sorted:=(arrOf s).map (·.2)
   Builtin.List.listUpdate keyStore fun _=>#[]
   letGo ((arrOf s).map (·.1)).toList (failedOf s).toList
   let touched:=(<- seqEpoch a) != before
   Builtin.List.listUpdate (.ref a) fun _=>sorted
   if let some e:=failedOf s then rule "list.sort.comparison-raised";throw e
   if touched then rule "list.sort.modified";raiseError "ValueError" "list modified during sort"
   ret .none):=by
 first | rfl | (fail "not by rfl")
theorem Inv.adopt {X:Cx} {Df:List (Addr × Obj)} {σ:St} {H:Hp} {s:Shared} {a:Addr} {o:HO} (I:Inv X Df σ H s) (f:cc X Df H a) (new:bC X.prog X.w (upd H a o) s.heap a o):Inv X Df σ (upd H a o) s:=by
 obtain ⟨f0,f1,f2,f3,f4,f5⟩:=f
 have ne:∀ b u,H b=some u->b≠a:=fun b u e=>cr e f0
 have hok:bq X.prog X.w (upd H a o) s.heap:=fun b u e=>by
  by_cases hb:b=a
  ·subst hb;rw [ai] at e;cases e;exact new
  ·rw [al hb] at e
   exact (I.hok b u e).stay (fun c v _ q=>q) (fun c q=>by rw [al (ne c _ q)];exact q) fun c xs q=>by rw [al (ne c _ q)];exact q
 have nc:∀ {b:Addr},b∉[a]->b≠a:=fun h z=>h (by simp [z])
 exact I.step (g':=s.gens) (d':=s.drawn) (t':=s.toks) (h':=s.heap) (ch:=[a]) (fun b hb=>by
   have e:b=a:=by simpa using hb
   subst e
   exact ⟨f3,f1,f4,f5⟩)
  (fun b o _ _ _ e _=>e) (fun b o _ _ _ e _=>⟨o.slots,e⟩) (fun b o hc e n=>by rw [al (nc hc)];exact n) (fun b o _ e=>⟨o,e⟩)
  (fun b xs e=>by rw [al (ne b _ e)];exact e) (fun b o u e=>by rw [al (ne b _ e)];exact e) (fun b ps e=>⟨#[],by rw [al (ne b _ e),e];simp⟩) (fun m hm=>hm) hok I.bare
theorem zu {α β:Type} {f:α->β} {l' l:List β} (p:l'.Perm l):∀ t:List α,l=t.map f->∃ t':List α,t'.Perm t/\l'=t'.map f:=by
 induction p with
 | nil=>intro t h;exact ⟨[],by have:t=[]:=by simpa using h.symm
                               rw [this],rfl⟩
 | cons x p ih =>
  intro t h
  cases t with
  | nil=>simp at h
  | cons a t =>
   simp only [List.map_cons,List.cons.injEq] at h
   obtain ⟨t',h1,h2⟩:=ih t h.2
   exact ⟨a::t',h1.cons a,by rw [List.map_cons,<- h.1,h2]⟩
 | swap x y l =>
  intro t h
  match t,h with
  | [],h=>simp at h
  | [_],h=>simp at h
  | a::b::t,h =>
   simp only [List.map_cons,List.cons.injEq] at h
   exact ⟨b::a::t,.swap _ _ _,by simp [h.1,h.2.1,h.2.2]⟩
 | trans p q ih1 ih2 =>
  intro t h
  obtain ⟨t1,h1,h2⟩:=ih2 t h
  obtain ⟨t2,h3,h4⟩:=ih1 t1 h2
  exact ⟨t2,h3.trans h1,h4⟩
def gm (ks:List Int) (xs ys:List V):Prop:=∃ zs:List (Int × V),zs.Perm (ks.zip xs)/\zs.Pairwise (fun a b=>a.1<=b.1)/\ys=zs.map (·.2)
theorem zv {ks:List Int} {xs:List V} {kv vs:List Value} {ar:Array Keyed} (hl:ks.length=xs.length) (rk:IntsAre kv ks) (rv:ap xs vs) (hp:ar.Perm (kv.toArray.zip vs.toArray)) (hs:SortedTo ar (kv.toArray.zip vs.toArray).size) :
  ∃ ys,gm ks xs ys/\ap ys (ar.map (·.2)).toList:=by
 obtain ⟨t,e1,e2,ht⟩:∃ t:List ((Value × Value) × (Int × V)),t.map (·.1)=kv.zip vs/\t.map (·.2)=ks.zip xs/\∀ q∈t,(∃ tk,q.1.1=Value.int q.2.1 tk)/\RelV q.2.2 q.1.2:=by
  clear hp hs
  induction rk generalizing xs vs with
  | nil=>exact ⟨[],by simp,by simp,fun q h=>nomatch h⟩
  | cons n tk r ih =>
   cases rv with
   | nil=>simp at hl
   | @cons x u xs vs h2 r2 =>
    obtain ⟨t,a,b,c⟩:=ih (by simpa using hl) r2
    refine ⟨((Value.int n tk,u),(n,x))::t,by rw [List.map_cons,a];rfl,by rw [List.map_cons,b];rfl,fun q hq=>?_⟩
    rcases Qn hq with z | z
    ·subst z;exact ⟨⟨_,rfl⟩,h2⟩
    ·exact c q z
 have EJ:ar.toList.Perm (t.map (·.1)):=by rw [e1];simpa using Array.perm_iff_toList_perm.mp hp
 obtain ⟨t',p',e'⟩:=zu EJ t rfl
 have ht':∀ q∈t',(∃ tk,q.1.1=Value.int q.2.1 tk)/\RelV q.2.2 q.1.2:=fun q hq=>ht q (p'.mem_iff.mp hq)
 refine ⟨(t'.map (·.2)).map (·.2),⟨t'.map (·.2),by rw [<- e2];exact p'.map _,?_,rfl⟩,?_⟩
 ·rw [List.pairwise_map,List.pairwise_iff_getElem]
  intro i j hi hj En
  have hsz:(kv.toArray.zip vs.toArray).size=t'.length:=by rw [<- Array.Perm.size_eq hp,<- QA,e',Qd]
  have h:=hs i j (QY En) (by rw [hsz];exact hj)
  have at_:∀ k (hk:k<t'.length),PyProof.Rows.K ar k=t'[k].2.1:=fun k hk=>by
   have ea:ar[k]?=some t'[k].1:=by rw [<- Array.getElem?_toList,e',Qr,Qa hk];rfl
   obtain ⟨⟨tk,q⟩,_⟩:=ht' t'[k] (QL hk)
   unfold PyProof.Rows.K
   rw [ea]
   show numOf t'[k].1.1=_
   rw [q];rfl
  rw [at_ i hi,at_ j hj] at h
  exact h
 ·have:(ar.map (·.2)).toList=t'.map (·.1.2):=by rw [Array.toList_map,e',QZ];rfl
  rw [this,QZ]
  clear this e' p' EJ
  have go:∀ l:List ((Value × Value) × (Int × V)),(∀ q∈l,(∃ tk,q.1.1=Value.int q.2.1 tk)/\RelV q.2.2 q.1.2)->ap (l.map ((·.2)∘(·.2))) (l.map (·.1.2)):=by
   intro l
   induction l with
   | nil=>intro _;exact .nil
   | cons q l ih=>intro h;exact .cons (h q QF).2 (ih fun x hx=>h x (Qy _ hx))
  exact go t' ht'
theorem ints_snoc:∀ {vs:List Value} {ns:List Int} {n:Int} {t:Tok},IntsAre vs ns->IntsAre (vs++[.int n t]) (ns++[n])
 | _,_,n,t,.nil=>.cons n t .nil
 | _,_,_,_,.cons m u r=>.cons m u (ints_snoc r)
theorem nw:∀ {vs:List Value} {ns:List Int},IntsAre vs ns->vs.length=ns.length
 | _,_,.nil=>rfl
 | _,_,.cons _ _ r=>by simp [nw r]
section
variable {X:Cx} {k:Nat} {f:Addr} {fd:FuncData} {ps:List Str} {sp:Sp} {dvs:List V} {ds:List Value} {Df:List (Addr × Obj)} {σ:St} {H:Hp} {s:Shared} {xs:List V} {ks:List Int}
theorem zw {A:Around} {E:Value->Shared->Prop} {a:Addr} {its:List Value} {n:Nat} {P:Fin->Shared->Prop} (F:aF X.prog X.w X.K X.mg X.base aG k f fd ps sp) (hr:ay k A)
  (hA:∀ s H,dD X.prog X.w X.K X.mg X.base X.A X.stack s H->dD X.prog X.w X.K X.mg X.base A X.stack s H) (hb:Binds X.K fd ps ds) (hd:ap dvs ds)
  (I:Inv X Df σ H s) (fa:cc X Df H a) (ho:s.heap.get? a=some (seqObj "list" its.toArray n)) (rv:ap xs its) (Gq:xs.length<64) (hl:ks.length=xs.length)
  (hk:∀ (i:Nat) (x:V) (m:Int),xs[i]?=some x->ks[i]?=some m->∀ Q':VK,Q' (.int m) H->sp ([x]++dvs) H Q' E0)
  (fin:∀ (s':Shared) (ys:List V) (out:Array Value) (n':Nat),Inv X Df σ H s'->s'.heap.get? a=some (seqObj "list" out n')->gm ks xs ys->ap ys out.toList->P (.done (.ret .none)) s') :
  wpAny (model X.prog X.w) A (Builtin.«list.sort» ⟨[.ref a],[(Str.ofString "key",.ref f)]⟩) P E s:=by
 have DJ:its.length=xs.length:=rv.length.symm
 have hz:its.length<=sizeLine:=by rw [sizeLine_eq];lia
 obtain ⟨f0,f1,f2,f3,f4,f5⟩:=id fa
 rw [rH]
 refine Qb (listItems_at ho rfl ?_)
 refine Qb (listUpdate_at ho rfl ?_ (by rw [Qj];exact hz) (by show (#[]:Array Value).size<=_;simp))
 obtain ⟨e1,EX⟩:∃ e1,(s.heap.update a (Obj.mapSeq fun _=>#[])).get? a=some (seqObj "list" #[] e1):=⟨_,get?_update_seq ho (fun _=>#[])⟩
 have I1:Inv X Df σ H { s with heap:=s.heap.update a (Obj.mapSeq fun _=>#[]) }:=I.turned (t':=s.toks) (fun b o hb e=>by rw [QO _ _ _ _ hb];exact e) f0 f1 f3 f4 f5
 generalize s.heap.update a (Obj.mapSeq fun _=>#[])=h1 at EX I1
 refine Qb (seqEpoch_at (s:={ s with heap:=h1 }) EX rfl ?_)
 refine Qb (wpAny_newTuple (s:={ s with heap:=h1 }) ?_ (by simpa using hz))
 have Et:=Qg (seqObj "tuple" its.toArray.toList.toArray 0) EX
 have I2:Inv X Df σ H { s with heap:=h1.push (seqObj "tuple" its.toArray.toList.toArray 0) }:=I1.kept (t':=s.toks) fun b o e=>Qg _ e
 change wpAny _ _ _ _ _ { s with heap:=h1.push (seqObj "tuple" its.toArray.toList.toArray 0) }
 generalize h1.push (seqObj "tuple" its.toArray.toList.toArray 0)=h2 at Et I2
 refine Qb (wpAny_newList (s:={ s with heap:=h2 }) ?_ (by simp))
 have Gb:=Qg (seqObj "list" #[] 0) Et
 have hK3:(h2.push (seqObj "list" #[] 0)).get? h2.objs.size=some (seqObj "list" #[] 0):=Qz _ rfl
 have fK:cc X Df H h2.objs.size:=I2.fpOk (Qf _) (I2.hok.fresh (Qf _))
 have naK:a≠h2.objs.size:=QB (Qs Et)
 have I3:Inv X Df σ H { s with heap:=h2.push (seqObj "list" #[] 0) }:=I2.kept (t':=s.toks) fun b o e=>Qg _ e
 change wpAny _ _ _ _ _ { s with heap:=h2.push (seqObj "list" #[] 0) }
 generalize h2.push (seqObj "list" #[] 0)=h3 at Gb hK3 I3
 dsimp only
 generalize h2.objs.size=K at hK3 fK naK
 obtain ⟨g0,g1,g2,g3,g4,g5⟩:=id fK
 refine wpAny_holding ?_
 refine Qb (wpAny_rule ?_)
 refine Qb ?_
 rw [<- Array.forIn_toList]
 refine wpAny_forIn_list _ (fun Dr _ s'=>∃ (i:Nat) (kv:List Value) (n':Nat),Dr=its.drop i/\Inv X Df σ H s'/\s'.heap.get? a=some (seqObj "list" #[] e1)/\s'.heap.get? K=some (seqObj "list" kv.toArray n')/\IntsAre kv (ks.take i)/\i<=its.length) _ ?_ ?_ _ _
  ⟨0,[],0,by simp,I3,Gb,hK3,by simpa using IntsAre.nil,Qu _⟩
 ·rintro x Dr b s' ⟨i,kv,n',er,I',FH,Gw,rk,hi⟩
  have Do:i<its.length:=by
   have:=congrArg List.length er
   simp at this
   lia
  have e2:its[i]?=some x/\its.drop (i+1)=Dr:=by
   rw [List.drop_eq_getElem_cons Do] at er
   obtain ⟨z1,z2⟩:=List.cons.inj er
   exact ⟨by rw [Qa Do,z1],z2.symm⟩
  have Ej:i<xs.length:=by lia
  have hik:i<ks.length:=by lia
  obtain ⟨u,eu,ru⟩:=rv.get (Qa Ej)
  rw [e2.1] at eu
  cases eu
  have r1:ap ([xs[i]]++dvs) ([x]++ds):=ap.append (.cons ru .nil) hd
  have Fb:=hk i xs[i] ks[i] (Qa Ej) (Qa hik) (fun v H'=>v=.int ks[i]/\H'=H) ⟨rfl,rfl⟩
  have Dj:([x]++ds).length=ps.length:=by rw [<- r1.length];exact F.len _ _ _ _ Fb
  have ho2':∀ b∈[a,K],∃ o,s'.heap.get? b=some o/\∀ v,o.data≠.cell v:=by
   intro b hb
   rcases Qn hb with z | z
   ·subst z;exact ⟨_,FH,fun v z=>nomatch z⟩
   ·have z:b=K:=by simpa using z
    subst z;exact ⟨_,Gw,fun v z=>nomatch z⟩
  have hf2:∀ b∈[a,K],cc X Df H b:=by
   intro b hb
   rcases Qn hb with z | z
   ·subst z;exact fa
   ·have z:b=K:=by simpa using z
    subst z;exact fK
  have Ip:=I'.pinned hf2 ho2'
  refine Qb (wpAny_attempt ?_)
  refine wpAny_call (codeAny_mono (F.run A X.stack s' H ⟨[x],[]⟩ ([x]++ds) ([xs[i]]++dvs) _ E0 hr (hA _ _ I'.env0) (hb s' [x] I'.kIn Dj) r1 Fb) fun r s2 hq=>?_)
  cases r with
  | error e=>exact False.elim hq
  | ok fl =>
   cases fl with
   | next=>exact False.elim hq
   | brk=>exact False.elim hq
   | cont=>exact False.elim hq
   | ret u =>
    obtain ⟨v,H',os,bare,un,hok,rr,ev,eH⟩:=(show CE X.stack X.prog X.w H s' _ u s2 from hq)
    subst ev eH
    obtain ⟨tk,rfl⟩:=(show ∃ t,u=Value.int ks[i] t from rr)
    have I2':=Ip.call' os un hok bare (fun b z=>absurd z (by simp))
    have EA:=(I2'.pin (a,_) (Qx _ (Qx _ (fi (by simp) FH)))).1
    have G1:=(I2'.pin (K,_) (Qx _ (Qx _ (fi (by simp) Gw)))).1
    have I3':=I2'.unpinned
    have D2:kv.length<=64:=by
     have:=nw rk
     rw [QD] at this
     lia
    dsimp only
    refine Qb (listUpdate_at G1 rfl ?_ (by rw [Qj,sizeLine_eq];lia) (by rw [Array.size_push,Qj,sizeLine_eq];lia))
    obtain ⟨n2,hn2⟩:∃ n2,(s2.heap.update K (Obj.mapSeq (·.push (Value.int ks[i] tk)))).get? K=some (seqObj "list" (kv++[Value.int ks[i] tk]).toArray n2):=⟨_,(get?_update_seq G1 (·.push (Value.int ks[i] tk))).trans (by rw [List.push_toArray])⟩
    refine Qk ⟨i+1,kv++[Value.int ks[i] tk],n2,e2.2.symm,I3'.turned (t':=s2.toks) (fun b o hb e=>by rw [QO _ _ _ _ hb];exact e) g0 g1 g3 g4 g5,?_,hn2,?_,Do⟩
    ·show (s2.heap.update K _).get? a=_
     rw [QO _ _ _ _ naK];exact EA
    ·rw [Qm hik]
     exact ints_snoc rk
 ·rintro b s' ⟨i,kv,n',er,I',FH,Gw,rk,hi⟩
  have hi':i=its.length:=by
   have:=congrArg List.length er
   simp at this
   lia
  have rk':IntsAre kv ks:=by
   rw [hi',Qv (by lia)] at rk
   exact rk
  have D2:kv.length=its.length:=by rw [nw rk'];lia
  clear rk er hi hi'
  refine Qb (listItems_at Gw rfl ?_)
  have Du:∀ Dv:SortSt,(arrOf Dv).Perm (kv.toArray.zip its.toArray)->failedOf Dv=none->SortedTo (arrOf Dv) (kv.toArray.zip its.toArray).size->wpAny (model X.prog X.w) A (do
    Builtin.List.listUpdate (.ref K) fun _=>#[]
    letGo ((arrOf Dv).map (·.1)).toList (failedOf Dv).toList
    let touched:=(<- seqEpoch a) != e1
    Builtin.List.listUpdate (.ref a) fun _=>(arrOf Dv).map (·.2)
    if let some e:=failedOf Dv then rule "list.sort.comparison-raised";throw e
    if touched then rule "list.sort.modified";raiseError "ValueError" "list modified during sort"
    ret .none) P E s':=by
   intro Dv hp hf hs
   obtain ⟨ys,sb,vy⟩:=zv hl rk' rv hp hs
   have hsz:((arrOf Dv).map (·.2)).size=its.length:=by
    rw [Array.size_map,hp.size_eq,Array.size_zip,Qj,Qj,D2,Nat.min_self]
   refine Qb (listUpdate_at Gw rfl ?_ (by rw [Qj];lia) (by show (#[]:Array Value).size<=_;simp))
   refine Qb (wpAny_letGo ?_)
   have EA:(s'.heap.update K (Obj.mapSeq fun _=>#[])).get? a=some (seqObj "list" #[] e1):=by rw [QO _ _ _ _ naK];exact FH
   have I2:Inv X Df σ H { s' with heap:=s'.heap.update K (Obj.mapSeq fun _=>#[]) }:=I'.turned (t':=s'.toks) (fun b o hb e=>by rw [QO _ _ _ _ hb];exact e) g0 g1 g3 g4 g5
   refine Qb (seqEpoch_at (s:={ s' with heap:=s'.heap.update K (Obj.mapSeq fun _=>#[]) }) EA rfl ?_)
   refine Qb (listUpdate_at (s:={ s' with heap:=s'.heap.update K (Obj.mapSeq fun _=>#[]) }) EA rfl ?_ (by simp) (by rw [hsz];lia))
   rw [hf]
   simp only [bne_self_eq_false,QT,if_false]
   exact Qk (fin _ ys _ _ (I2.turned (t':=s'.toks) (fun b o hb e=>by rw [QO _ _ _ _ hb];exact e) f0 f1 f3 f4 f5) (get?_update_seq EA (fun _=>(arrOf Dv).map (·.2))) sb vy)
  by_cases h2:its.toArray.size<2
  ·rw [if_pos h2,if_pos h2]
   refine Qb (Qk ?_)
   rw [StateT.run_pure]
   refine Qb (Qk ?_)
   refine Du (SortSt.mk' general' (kv.toArray.zip its.toArray) #[] 7 none) (Array.Perm.refl _) rfl ?_
   intro i j En hj
   rw [Array.size_zip,Qj,Qj] at hj
   rw [Qj] at h2
   have:i=j:=by lia
   subst this;exact Int.le_refl _
  ·rw [if_neg h2,if_neg h2]
   obtain ⟨v₁,v₂,Dr,rfl⟩:∃ v₁ v₂ Dr,kv=v₁::v₂::Dr:=by
    rw [Qj] at h2
    match kv,D2 with
    | [],h=>simp at h;lia
    | [_],h=>simp at h;lia
    | v₁::v₂::Dr,_=>exact ⟨v₁,v₂,Dr,rfl⟩
   rw [keyKind_ints rk']
   refine Qb (Qk ?_)
   have hzz:((v₁::v₂::Dr).toArray.zip its.toArray).size=its.length:=by rw [Array.size_zip,Qj,Qj,D2,Nat.min_self]
   have hik:IntKeys ((v₁::v₂::Dr).toArray.zip its.toArray):=by
    intro p hp
    have hp:p∈(v₁::v₂::Dr).zip its:=by simpa using hp
    have:=(List.of_mem_zip hp).1
    obtain ⟨m,t,e⟩:=rk'.all _ this
    exact ⟨m,t,e⟩
   rw [Qj] at h2
   refine Qb (QV (wpS_sortRuns (a₀:=(v₁::v₂::Dr).toArray.zip its.toArray) (st:=SortSt.mk' oneType' ((v₁::v₂::Dr).toArray.zip its.toArray) #[] 7 none)
    (Q:=fun _ Dv=>(arrOf Dv).Perm ((v₁::v₂::Dr).toArray.zip its.toArray)/\failedOf Dv=none/\SortedTo (arrOf Dv) ((v₁::v₂::Dr).toArray.zip its.toArray).size)
    hik ⟨Array.Perm.refl _,rfl,rfl,rfl⟩ (by rw [hzz];lia) (by rw [hzz];lia) fun Dv a1 a2 a3=>⟨a1,a2,a3⟩) ?_ fun _ _ e=>e)
   rintro ⟨⟨⟩,Dv⟩ s2 ⟨rfl,hp,hf,hs⟩
   exact Du Dv hp hf hs
theorem zx {Q:VK} {l:Addr} (F:aF X.prog X.w X.K X.mg X.base aG k f fd ps sp) (hr:ay (k+2) X.A) (hb:Binds X.K fd ps ds) (hd:ap dvs ds)
  (I:Inv X Df σ H s) (hq:aj X.K H l xs) (Gq:xs.length<64) (hl:ks.length=xs.length)
  (hk:∀ (i:Nat) (x:V) (m:Int),xs[i]?=some x->ks[i]?=some m->∀ Q':VK,Q' (.int m) H->sp ([x]++dvs) H Q' E0)
  (q:∀ p ys,H p=none->gm ks xs ys->Q (.ref p) (upd H p (.lst ys))) :
  wpAny (model X.prog X.w) X.A (call (.builtin "sorted") [.ref l] [(Str.ofString "key",.ref f)]) (EP X Df σ Q) X.xe s:=by
 obtain ⟨its,rv,pl,hz⟩:=I.list hq
 have DJ:its.length=xs.length:=rv.length.symm
 refine call_function_entry_kw kind_sorted plain_sorted entry_sorted (rG _ _) ?_
 unfold Builtin.«sorted»
 refine Qb (m:=checkCount "sorted" 1 1 _) (Qk ?_)
 refine Qb (collect_list pl.isList ?_ (by rw [DJ];exact hz))
 have I1:Inv X Df σ H { s with heap:=(s.heap.push (seqObj "list" #[] 0)).update s.heap.objs.size (Obj.mapSeq (·++its.toArray)) }:=I.kept (t':=s.toks) fun b o e=>by
  rw [QO _ _ _ _ (QB (Qs e))]
  exact Qg _ e
 generalize (s.heap.push (seqObj "list" #[] 0)).update s.heap.objs.size (Obj.mapSeq (·++its.toArray))=h1 at I1
 refine Qb (wpAny_newList (s:={ s with heap:=h1 }) ?_ (by rw [DJ];exact hz))
 have Fy:(h1.push (seqObj "list" its.toArray 0)).get? h1.objs.size=some (seqObj "list" its.toArray 0):=Qz _ rfl
 have I2:Inv X Df σ H { s with heap:=h1.push (seqObj "list" its.toArray 0) }:=I1.kept (t':=s.toks) fun b o e=>Qg _ e
 have fL:cc X Df H h1.objs.size:=I1.fpOk (Qf _) (I1.hok.fresh (Qf _))
 change wpAny _ _ _ _ _ { s with heap:=h1.push (seqObj "list" its.toArray 0) }
 dsimp only
 generalize h1.push (seqObj "list" its.toArray 0)=h2 at Fy I2
 generalize h1.objs.size=L at Fy fL
 have EF:ay k X.A.in1.in1:=(ay.in1 (k:=k+1) hr).in1
 refine Qb (wpAny_holding (wpAny_call_entry_kw (s:={ s with heap:=h2 }) slot_list_sort ⟨_,Fy,rfl⟩ entry_list_sort (zw F EF (fun _ _ e=>e.in1.in1) hb hd I2 fL Fy rv Gq hl hk fun s' ys out n' I' FH sb vy=>⟨_,rfl,?_⟩) (rF _ _)))
 refine Qk ⟨_,rfl,.ref L,upd H L (.lst ys),I'.adopt fL ?_,rfl,q L ys fL.1 sb⟩
 have D8:ys.length<=sizeLine:=by
  obtain ⟨zs,p,_,e⟩:=sb
  rw [e,Qd,p.length_eq,List.length_zip]
  lia
 exact ⟨D8,out.toList,n',vy,by simpa using FH⟩
end
end L2
namespace L2
open PySem PySem.Spec PyProof.Rows PySem.W
def aT (n:Nat) (p:Array Nat):Prop:=∀ x∈p.toList,x<n
theorem aT.at {n:Nat} {p:Array Nat} (h0:0<n) (h:aT n p) (k:Nat):p.getD k 0<n:=by
 rw [Array.getD_eq_getD_getElem?]
 cases e:p[k]? with
 | none=>exact h0
 | some x =>
  refine h x ?_
  rw [<- Array.getElem?_toList] at e
  exact Qh e
structure Ev where
 κ:SortKind
 it:Array Keyed
def ny (n:Nat) (lt:Nat->Nat->Bool) (e:Ev) (prog:Program) (w:World) (A:Around) (s:Shared):Prop :=
 ∀ i j,i<n->j<n->∀ C:Bool->Shared->Prop,C (lt i j) s->kas_cmp prog w A e.κ e.it i j C s
def aH (n:Nat) (lt:Nat->Nat->Bool) {α:Type} (m:Ev->StateT SortSt Sem α) (x:Ev->SortSt) (R:(Ev->α)->(Ev->SortSt)->Prop):Prop :=
 ∃ (a:Ev->α) (y:Ev->SortSt),R a y/\∀ (e:Ev) (prog:Program) (w:World) (A:Around) (E:Value->Shared->Prop) (s:Shared),ny n lt e prog w A s ->
  ∀ Q:α->SortSt->Shared->Prop,Q (a e) (y e) s->kasC (model prog w) A E (m e) Q (x e) s
section
variable {n:Nat} {lt:Nat->Nat->Bool} {α β:Type} {x:Ev->SortSt}
theorem aB {a:Ev->α} {R:(Ev->α)->(Ev->SortSt)->Prop} (h:R a x):aH n lt (fun e=>pure (a e)) x R :=
 ⟨a,x,h,fun e prog w A E s _ Q q=>kasC_pure q⟩
theorem av {m:Ev->StateT SortSt Sem α} {f:Ev->α->StateT SortSt Sem β} {R:(Ev->β)->(Ev->SortSt)->Prop} (h:aH n lt m x (fun a y=>aH n lt (fun e=>f e (a e)) y R)):aH n lt (fun e=>m e >>= f e) x R:=by
 obtain ⟨a,y,⟨b,z,r,h2⟩,h1⟩:=h
 exact ⟨b,z,r,fun e prog w A E s ho Q q=>kasC_bind (h1 e prog w A E s ho _ (h2 e prog w A E s ho Q q))⟩
theorem aH.mono {m:Ev->StateT SortSt Sem α} {R R':(Ev->α)->(Ev->SortSt)->Prop} (h:aH n lt m x R) (hr:∀ a y,R a y->R' a y):aH n lt m x R':=by
 obtain ⟨a,y,r,h1⟩:=h
 exact ⟨a,y,hr a y r,h1⟩
theorem rJ {R:(Ev->SortSt)->(Ev->SortSt)->Prop} (h:R x x):aH n lt (fun _=>(get:StateT SortSt Sem SortSt)) x R :=
 ⟨x,x,h,fun e prog w A E s _ Q q=>kasC_get q⟩
theorem iH {f:Ev->SortSt->SortSt} {R:(Ev->PUnit)->(Ev->SortSt)->Prop} (h:R (fun _=>⟨⟩) (fun e=>f e (x e))):aH n lt (fun e=>(modify (f e):StateT SortSt Sem PUnit)) x R :=
 ⟨_,_,h,fun e prog w A E s _ Q q=>kasC_modify q⟩
theorem zy {f:Ev->SortSt} {R:(Ev->PUnit)->(Ev->SortSt)->Prop} (h:R (fun _=>⟨⟩) f):aH n lt (fun e=>(set (f e):StateT SortSt Sem PUnit)) x R :=
 ⟨_,_,h,fun e prog w A E s _ Q q=>by unfold kasC;rw [StateT.run_set];exact Qk q⟩
theorem iI {t:String} {R:(Ev->Unit)->(Ev->SortSt)->Prop} (h:R (fun _=>()) x):aH n lt (fun _=>(liftM (rule t):StateT SortSt Sem Unit)) x R :=
 ⟨_,_,h,fun e prog w A E s _ Q q=>kasC_lift (wpAny_rule q)⟩
theorem a6 {c:Prop} {inst:Ev->Decidable c} {p q:Ev->StateT SortSt Sem α} {R:(Ev->α)->(Ev->SortSt)->Prop} (h1:c->aH n lt p x R) (h2:¬c->aH n lt q x R):aH n lt (fun e=>@ite _ c (inst e) (p e) (q e)) x R:=by
 by_cases h:c
 ·simp only [if_pos h];exact h1 h
 ·simp only [if_neg h];exact h2 h
theorem rK {β:Type} {f:Ev->Nat->β->StateT SortSt Sem (ForInStep β)} (I:List Nat->(Ev->β)->(Ev->SortSt)->Prop) (Q:(Ev->β)->(Ev->SortSt)->Prop)
  (F3:∀ i l c y,I (i::l) c y->aH n lt (fun e=>f e i (c e)) y (fun r z=>(∃ c',r=(fun e=>.done (c' e))/\Q c' z)∨(∃ c',r=(fun e=>.yield (c' e))/\I l c' z)))
  (hend:∀ c y,I [] c y->Q c y):∀ (l:List Nat) (c:Ev->β) (x:Ev->SortSt),I l c x->aH n lt (fun e=>forIn l (c e) (f e)) x Q
 | [],c,x,h=>⟨c,x,hend c x h,fun e prog w A E s _ Q q=>kasC_nil q⟩
 | i::l,c,x,h=>by
  obtain ⟨r,z,hr,h1⟩:=F3 i l c x h
  rcases hr with ⟨c',rfl,hq⟩ | ⟨c',rfl,hi⟩
  ·exact ⟨c',z,hq,fun e prog w A E s ho Q q=>kasC_cons (h1 e prog w A E s ho _ q)⟩
  ·obtain ⟨b,y,r,h2⟩:=rK I Q F3 hend l c' z hi
   exact ⟨b,y,r,fun e prog w A E s ho Q q=>kasC_cons (h1 e prog w A E s ho _ (h2 e prog w A E s ho Q q))⟩
theorem cw {β:Type} {a b:Nat} {c:Ev->β} {f:Ev->Nat->β->StateT SortSt Sem (ForInStep β)} (I:Nat->(Ev->β)->(Ev->SortSt)->Prop) (Q:(Ev->β)->(Ev->SortSt)->Prop)
  (F3:∀ i c y,a<=i->i<b->I i c y->aH n lt (fun e=>f e i (c e)) y (fun r z=>(∃ c',r=(fun e=>.done (c' e))/\Q c' z)∨(∃ c',r=(fun e=>.yield (c' e))/\I (i+1) c' z)))
  (hend:∀ c y,I (max a b) c y->Q c y) (h:I a c x):aH n lt (fun e=>forIn [a:b] (c e) (f e)) x Q:=by
 have key:aH n lt (fun e=>forIn (List.range' a (b-a)) (c e) (f e)) x Q:=by
  refine rK (fun l c y=>∃ i,a<=i/\i<=max a b/\l=List.range' i (max a b-i) 1/\I i c y) Q ?_ ?_ _ c x ⟨a,Qf _,by lia,by congr 1;lia,h⟩
  ·rintro j l c y ⟨i,hai,Eb,hl,hI⟩
   have Do:i<max a b:=by
    rcases Nat.lt_or_ge i (max a b) with h' | h'
    ·exact h'
    ·rw [show max a b-i=0 by lia] at hl;simp at hl
   obtain ⟨k,hk⟩:∃ k,max a b-i=k+1:=⟨max a b-i-1,by lia⟩
   rw [hk,List.range'_succ] at hl
   obtain ⟨rfl,rfl⟩:=List.cons.inj hl
   refine (F3 j c y hai (by lia) hI).mono fun r z hr=>?_
   rcases hr with hr | ⟨c',e',h'⟩
   ·exact .inl hr
   ·exact .inr ⟨c',e',j+1,by lia,by lia,by congr 1;lia,h'⟩
  ·rintro c y ⟨i,hai,Eb,hl,hI⟩
   have:i=max a b:=by
    rcases Nat.lt_or_ge i (max a b) with h' | h'
    ·obtain ⟨k,hk⟩:∃ k,max a b-i=k+1:=⟨max a b-i-1,by lia⟩
     rw [hk,List.range'_succ] at hl;simp at hl
    ·lia
   subst this
   exact hend _ _ hI
 obtain ⟨b',y,r,h1⟩:=key
 exact ⟨b',y,r,fun e prog w A E s ho Q q=>kasC_range (h1 e prog w A E s ho Q q)⟩
end
noncomputable def cY (e:Ev) (i:Nat):Keyed:=kas_item e.it i
noncomputable def aO (e:Ev) (p:Array Nat):Array Keyed:=p.map (cY e)
noncomputable def aq (p:Array Nat) (Dh:Array (Nat × Nat × Nat)) (g:Nat):Ev->SortSt:=fun e=>SortSt.mk' e.κ (aO e p) Dh g none
theorem cZ {e:Ev} {p:Array Nat}:(aO e p).size=p.size:=Array.size_map ..
section
variable {n:Nat} {lt:Nat->Nat->Bool} {p:Array Nat} {Dh:Array (Nat × Nat × Nat)} {g:Nat}
theorem zz {e:Ev} {i:Nat} (hi:i<p.size):(aO e p)[i]?=some (cY e (p.getD i 0)):=by
 have e1:p.getD i 0=p[i]:=by simp [Array.getD,hi]
 rw [e1]
 simp [aO,hi]
theorem ca {i:Nat} {x:Ev->SortSt} {R:(Ev->Keyed)->(Ev->SortSt)->Prop} (hi:i<p.size) (h:R (fun e=>cY e (p.getD i 0)) x):aH n lt (fun e=>elem' (aO e p) i) x R:=by
 refine ⟨_,_,h,fun e prog w A E s _ Q q=>?_⟩
 show kasC _ _ _ (elem' (aO e p) i) _ _ _
 rw [elem'_eq,zz hi]
 exact kasC_pure q
theorem jI {i j:Nat} {R:(Ev->Option Bool)->(Ev->SortSt)->Prop} (hi:i<n) (hj:j<n) (h:R (fun _=>some (lt i j)) (aq p Dh g)):aH n lt (fun e=>lt' (cY e i) (cY e j)) (aq p Dh g) R:=by
 refine ⟨_,_,h,fun e prog w A E s ho Q q=>?_⟩
 show kasC _ _ _ (lt' (cY e i) (cY e j)) _ _ _
 rw [lt'_eq]
 refine kasC_bind (kasC_get ?_)
 refine kasC_bind (kasC_lift (wpAny_attempt (QV (ho i j hi hj (fun b s'=>b=lt i j/\s'=s) ⟨rfl,rfl⟩) (fun c s' hc=>?_) fun _ _ hF=>hF.elim)))
 obtain ⟨rfl,rfl⟩:=hc
 exact kasC_pure q
theorem iJ {i j:Nat} {R:(Ev->Option Bool)->(Ev->SortSt)->Prop} (h0:0<n) (hp:aT n p) (hi:i<p.size) (hj:j<p.size) (h:R (fun _=>some (lt (p.getD i 0) (p.getD j 0))) (aq p Dh g)):aH n lt (fun _=>ltAt' i j) (aq p Dh g) R:=by
 refine av (rJ ?_)
 refine av (ca (p:=p) hi ?_)
 refine av (ca (p:=p) hj ?_)
 exact jI (hp.at h0 _) (hp.at h0 _) h
theorem k7 {i j:Nat} {R:(Ev->Unit)->(Ev->SortSt)->Prop} (h:R (fun _=>()) (aq (kas_rev p i j) Dh g)):aH n lt (fun _=>reverseSlice' i j) (aq p Dh g) R:=by
 simp only [reverseSlice'_eq]
 refine iH ?_
 have e:(fun e=>setArr (aq p Dh g e) (mirror (arrOf (aq p Dh g e)) i j ((j-i) / 2)))=aq (kas_rev p i j) Dh g:=by
  funext e
  show SortSt.mk' e.κ (mirror (aO e p) i j ((j-i) / 2)) Dh g none=SortSt.mk' e.κ (aO e (kas_rev p i j)) Dh g none
  have e1:mirror (aO e p) i j ((j-i) / 2)=aO e (kas_rev p i j):=kas_swaps_map (cY e) (fun k=>i+k) (fun k=>j-1-k) _ p
  rw [e1]
 rw [e]
 exact h
theorem zA {k l:Nat} {R:(Ev->Unit)->(Ev->SortSt)->Prop} (h:R (fun _=>()) (aq (bubble p k (k-l)) Dh g)):aH n lt (fun _=>moveDown' k l) (aq p Dh g) R:=by
 simp only [moveDown'_eq]
 refine iH ?_
 have e:(fun e=>setArr (aq p Dh g e) (bubble (arrOf (aq p Dh g e)) k (k-l)))=aq (bubble p k (k-l)) Dh g:=by
  funext e
  show SortSt.mk' e.κ (bubble (aO e p) k (k-l)) Dh g none=SortSt.mk' e.κ (aO e (bubble p k (k-l))) Dh g none
  have e1:bubble (aO e p) k (k-l)=aO e (bubble p k (k-l)):=kas_swaps_map (cY e) (fun i=>k-i) (fun i=>k-i-1) _ p
  rw [e1]
 rw [e]
 exact h
end
noncomputable def zB:Bool->Keyed->Array Keyed->Nat->Nat->Nat->StateT SortSt Sem (Option Nat):=sortPriv% PySem.Builtin.gallop
noncomputable def zC:Array Keyed->Array Keyed->StateT SortSt Sem (Array Keyed):=sortPriv% PySem.Builtin.mergeLo
noncomputable def zD:Array Keyed->Array Keyed->StateT SortSt Sem (Array Keyed):=sortPriv% PySem.Builtin.mergeHi
noncomputable def zE:Nat->StateT SortSt Sem Unit:=sortPriv% PySem.Builtin.setMinGallop
theorem dE {e:Ev} {p:Array Nat} {i:Nat}:(aO e p).push (cY e i)=aO e (p.push i):=by simp [aO]
theorem dF {e:Ev} {p q:Array Nat}:aO e p++aO e q=aO e (p++q):=by simp [aO]
theorem du {e:Ev} {p:Array Nat} {i j:Nat}:(aO e p).extract i j=aO e (p.extract i j):=by simp [aO]
theorem dG {e:Ev} {i:Nat}:#[cY e i]=aO e #[i]:=by simp [aO]
theorem gR {e:Ev} {p:Array Nat}:(aO e p).reverse=aO e p.reverse:=by simp [aO]
theorem aT.push {n:Nat} {p:Array Nat} (h:aT n p) {i:Nat} (hi:i<n):aT n (p.push i):=by
 intro x hx
 rw [Array.toList_push,List.mem_append] at hx
 rcases hx with hx | hx
 ·exact h x hx
 ·rw [List.mem_singleton] at hx;exact hx ▸ hi
theorem aT.app {n:Nat} {p q:Array Nat} (h:aT n p) (h':aT n q):aT n (p++q):=by
 intro x hx
 rw [QJ,List.mem_append] at hx
 exact hx.elim (h x) (h' x)
theorem aT.ext {n:Nat} {p:Array Nat} (h:aT n p) (i j:Nat):aT n (p.extract i j):=by
 intro x hx
 rw [Array.toList_extract] at hx
 exact h x (List.mem_of_mem_drop (List.mem_of_mem_take hx))
theorem aT.reverse {n:Nat} {p:Array Nat} (h:aT n p):aT n p.reverse:=by
 intro x hx
 rw [Array.toList_reverse,List.mem_reverse] at hx
 exact h x hx
section
variable {n:Nat} {lt:Nat->Nat->Bool} {α:Type} {x:Ev->SortSt} {P:Array Nat} {Dh:Array (Nat × Nat × Nat)} {g:Nat}
theorem dv {a b:Nat} {inst:Ev->Decidable ((a == b)=true)} {p q:Ev->StateT SortSt Sem α} {R:(Ev->α)->(Ev->SortSt)->Prop} (h1:a=b->aH n lt p x R) (h2:a≠b->aH n lt q x R):aH n lt (fun e=>@ite _ ((a == b)=true) (inst e) (p e) (q e)) x R :=
 a6 (fun h=>h1 (by simpa using h)) (fun h=>h2 (by simpa using h))
theorem k8 {k:Nat} {R:(Ev->Unit)->(Ev->SortSt)->Prop} (h:R (fun _=>()) (aq P Dh k)):aH n lt (fun _=>zE k) (aq P Dh g) R:=iH h
theorem ft {γ:Type} {f:Ev->SortSt->StateT SortSt Sem γ} {R:(Ev->γ)->(Ev->SortSt)->Prop} (h:aH n lt (fun e=>f e (SortSt.mk' e.κ (aO e P) Dh g none)) (aq P Dh g) R):aH n lt (fun e=>get >>= f e) (aq P Dh g) R:=av (rJ h)
theorem rL {c:Prop} {inst:Ev->Decidable c} {q:Ev->StateT SortSt Sem α} {R:(Ev->α)->(Ev->SortSt)->Prop} {X:Nat->Ev->StateT SortSt Sem α} (v:Nat) (e:q=X v) (h:∀ v,aH n lt (X v) x R):∀ m1,aH n lt (fun e=>@ite _ c (inst e) (X m1 e) (q e)) x R :=
 fun m1=>a6 (fun _=>h m1) (fun _=>e ▸ h v)
variable {pa pb:Array Nat}
end
theorem zF (p:Array Nat) (i j:Nat):(kas_rev p i j).size=p.size:=mirror_size _ _ _ _
noncomputable def putN (po:List Nat) (k:Nat) (s:Nat) (p:Array Nat):Array Nat:=(po.zipIdx k).foldl (fun a x=>a.setIfInBounds (s+x.2) x.1) p
theorem rM {α:Type} (f:Nat->α) (s:Nat):∀ (po:List Nat) (k:Nat) (p:Array Nat),((po.map f).zipIdx k).foldl (fun a (x:α × Nat)=>a.setIfInBounds (s+x.2) x.1) (p.map f)=(putN po k s p).map f
 | [],k,p=>rfl
 | a::po,k,p=>by
  show ((po.map f).zipIdx (k+1)).foldl _ ((p.map f).setIfInBounds (s+k) (f a))=(putN po (k+1) s (p.setIfInBounds (s+k) a)).map f
  rw [<- rM f s po (k+1),Array.map_setIfInBounds]
theorem rN (s:Nat):∀ (po:List Nat) (k:Nat) (p:Array Nat),(putN po k s p).size=p.size
 | [],k,p=>rfl
 | a::po,k,p=>by
  show (putN po (k+1) s (p.setIfInBounds (s+k) a)).size=p.size
  rw [rN s po,Array.size_setIfInBounds]
def Ch:Nat->List (Nat × Nat × Nat)->Nat->Prop
 | s,[],e=>s=e
 | s,(a,k,_)::l,e=>a=s/\0<k/\Ch (s+k) l e
theorem Ch.le:∀ {s:Nat} {l:List (Nat × Nat × Nat)} {e:Nat},Ch s l e->s<=e
 | s,[],e,h=>Nat.le_of_eq h
 | s,(a,k,_)::l,e,h=>QC (Nat.le_add_right s k) h.2.2.le
theorem Ch.two:∀ {s:Nat} {l:List (Nat × Nat × Nat)} {e:Nat} (i:Nat),Ch s l e->i+1<l.length->∃ a k u m v,l[i]?=some (a,k,u)/\l[i+1]?=some (a+k,m,v)/\0<k/\0<m/\a+k+m<=e/\Ch s ((l.set i (a,k+m,u)).eraseIdx (i+1)) e
 | s,[],e,i,h,hi=>absurd hi (by simp)
 | s,[x],e,i,h,hi=>absurd hi (by simp)
 | s,(a,k,u)::(b,m,v)::l,e,0,h,hi=>by
  obtain ⟨rfl,hk,rfl,hm,h⟩:=h
  exact ⟨a,k,u,m,v,rfl,rfl,hk,hm,h.le,rfl,by lia,by rw [<- Nat.add_assoc];exact h⟩
 | s,(a,k,u)::y::l,e,i+1,h,hi=>by
  obtain ⟨rfl,hk,h⟩:=h
  obtain ⟨b,m,v,m2,v2,e1,e2,h1,h2,h3,h4⟩:=Ch.two i h (by simpa using hi)
  exact ⟨b,m,v,m2,v2,e1,e2,h1,h2,h3,rfl,hk,h4⟩
theorem Ch.push:∀ {s:Nat} {l:List (Nat × Nat × Nat)} {e:Nat} (k u:Nat),Ch s l e->0<k->Ch s (l++[(e,k,u)]) (e+k)
 | s,[],e,k,u,h,hk=>by cases (show s=e from h);exact ⟨rfl,hk,rfl⟩
 | s,(a,m,v)::l,e,k,u,h,hk=>⟨h.1,h.2.1,Ch.push k u h.2.2 hk⟩
theorem Ch.mod:∀ {s:Nat} {l:List (Nat × Nat × Nat)} {e:Nat} (i u:Nat),Ch s l e->Ch s (l.modify i fun x=>(x.1,x.2.1,u)) e
 | s,[],e,i,u,h=>by cases i<;>exact h
 | s,(a,m,v)::l,e,0,u,h=>h
 | s,(a,m,v)::l,e,i+1,u,h=>⟨h.1,h.2.1,Ch.mod i u h.2.2⟩
section
variable {n:Nat} {lt:Nat->Nat->Bool} {α:Type} {x:Ev->SortSt} {p:Array Nat} {Dh:Array (Nat × Nat × Nat)} {g:Nat}
theorem zG {pend':Array (Nat × Nat × Nat)} {R:(Ev->PUnit)->(Ev->SortSt)->Prop} (h:R (fun _=>⟨⟩) (aq p pend' g)):aH n lt (fun e=>(set (SortSt.mk' e.κ (aO e p) pend' g none):StateT SortSt Sem PUnit)) x R:=zy h
theorem zH {f:Ev->SortSt->SortSt} {p':Array Nat} {pend':Array (Nat × Nat × Nat)} {g':Nat} {R:(Ev->PUnit)->(Ev->SortSt)->Prop} (e:∀ e,f e (aq p Dh g e)=aq p' pend' g' e) (h:R (fun _=>⟨⟩) (aq p' pend' g')):aH n lt (fun e=>(modify (f e):StateT SortSt Sem PUnit)) (aq p Dh g) R :=
 iH (by rw [funext e];exact h)
theorem zI {c:Prop} {inst:Decidable c} {a b:Nat} (h:a+1<b):(@ite _ c inst (a-1) a)+1<b:=by
 by_cases hc:c
 ·rw [if_pos hc];omega
 ·rw [if_neg hc];exact h
theorem k9 {v:Nat × Nat × Nat} {R:(Ev->PUnit)->(Ev->SortSt)->Prop} (h:R (fun _=>⟨⟩) (aq p (Dh.push v) g)):aH n lt (fun _=>(modify fun s=>setPending s ((pendingOf s).push v):StateT SortSt Sem PUnit)) (aq p Dh g) R:=iH h
theorem rO {f:Nat × Nat × Nat->Nat × Nat × Nat} {R:(Ev->PUnit)->(Ev->SortSt)->Prop} (h:R (fun _=>⟨⟩) (aq p (Dh.modify (Dh.size-1) f) g)):aH n lt (fun _=>(modify fun s=>setPending s ((pendingOf s).modify ((pendingOf s).size-1) f):StateT SortSt Sem PUnit)) (aq p Dh g) R:=iH h
end
noncomputable def bj (left:Bool) (lt:Nat->Nat->Bool) (p:Array Nat) (k base i:Nat):Bool:=if left=true then lt (p.getD (base+i) 0) k else !(lt k (p.getD (base+i) 0))
section
variable {n:Nat} {lt:Nat->Nat->Bool} {p P:Array Nat} {Dh:Array (Nat × Nat × Nat)} {g:Nat}
theorem jJ {left:Bool} {k base i:Nat} {R:(Ev->Option Bool)->(Ev->SortSt)->Prop} (h0:0<n) (hk:k<n) (hp:aT n p) (hb:base+i<p.size) (h:R (fun _=>some (bj left lt p k base i)) (aq P Dh g)) :
  aH n lt (fun e=>elem' (aO e p) (base+i) >>= fun x=>if left=true then lt' x (cY e k) else lt' (cY e k) x >>= fun r=>pure (r.map (!·))) (aq P Dh g) R:=by
 refine av (ca (p:=p) hb (a6 (fun z=>jI (hp.at h0 _) hk ?_) (fun z=>av (jI hk (hp.at h0 _) (aB ?_)))))
 ·rw [bj,if_pos z] at h;exact h
 ·rw [bj,if_neg z] at h;exact h
theorem iK {left:Bool} {k base m hint:Nat} {R:(Ev->Option Nat)->(Ev->SortSt)->Prop} (h0:0<n) (hk:k<n) (hp:aT n p) (hh:hint<m) (hb:base+m<=p.size)
  (hm:∀ i j,i<=j->j<m->bj left lt p k base j=true->bj left lt p k base i=true)
  (h:∀ r,r<=m->(∀ i,i<r->bj left lt p k base i=true)->(∀ i,r<=i->i<m->bj left lt p k base i=false)->R (fun _=>some r) (aq P Dh g)) :
  aH n lt (fun e=>zB left (cY e k) (aO e p) base m hint) (aq P Dh g) R:=by
 have hm':∀ i j,i<=j->j<m->bj left lt p k base i=false->bj left lt p k base j=false:=fun i j En hj z=>by
  cases e:bj left lt p k base j with
  | false=>rfl
  | true=>rw [hm i j En hj e] at z;cases z
 refine av (jJ h0 hk hp (by omega) ?_)
 dsimp only
 refine a6 (fun z=>?_) (fun z=>?_)
 ·refine av (aH.mono (cw (fun i c y=>∃ la of:Nat,c=(fun _=>(none,la,of))/\y=aq P Dh g/\la<of/\i+1<=of/\hint+la<m/\bj left lt p k base (hint+la)=true)
   (fun c y=>∃ la of:Nat,c=(fun _=>(none,la,of))/\y=aq P Dh g/\la<of/\hint+la<m/\bj left lt p k base (hint+la)=true/\(m-hint<=of∨(hint+of<m/\bj left lt p k base (hint+of)=false))) ?_ ?_ ⟨_,_,rfl,rfl,by omega,by omega,by omega,z⟩) ?_)
  ·rintro i c0 y0 _ _ hh;apply hid2 c0 y0;intro _ γ;obtain ⟨la,of,rfl,rfl,h1,h2,h3,Eu⟩:=hh;refine γ _ _ ?_
   dsimp only
   refine a6 (fun EZ=>aB (.inl ⟨_,rfl,_,_,rfl,rfl,h1,h3,Eu,.inl EZ⟩)) (fun Do=>?_)
   refine av (jJ h0 hk hp (by omega) ?_)
   dsimp only
   exact a6 (fun q=>aB (.inl ⟨_,rfl,_,_,rfl,rfl,h1,h3,Eu,.inr ⟨by omega,by simpa using q⟩⟩)) (fun q=>aB (.inr ⟨_,rfl,_,_,rfl,rfl,by omega,by omega,by omega,by simpa using q⟩))
  ·rintro c0 y0 hh;apply hid2 c0 y0;intro _ γ;obtain ⟨la,of,rfl,rfl,h1,h2,h3,Eu⟩:=hh;refine γ _ _ ?_
   exact ⟨la,of,rfl,rfl,h1,h3,Eu,.inl (by omega)⟩
  ·rintro c0 y0 hh;apply hid2 c0 y0;intro _ γ;obtain ⟨la,of,rfl,rfl,h1,h3,Eu,FK⟩:=hh;refine γ _ _ ?_
   dsimp only
   refine av (aH.mono (cw (fun i c y=>∃ lo hi,c=(fun _=>(none,lo,hi))/\y=aq P Dh g/\lo<=hi/\hi<=m/\hi-lo<=m-i/\(∀ i,i<lo->bj left lt p k base i=true)/\(∀ i,hi<=i->i<m->bj left lt p k base i=false))
    (fun c y=>∃ lo hi,c=(fun _=>(none,lo,hi))/\y=aq P Dh g/\lo=hi/\hi<=m/\(∀ i,i<lo->bj left lt p k base i=true)/\(∀ i,hi<=i->i<m->bj left lt p k base i=false)) ?_ ?_ ⟨_,_,rfl,rfl,by omega,by omega,by omega,?_,?_⟩) ?_)
   ·rintro i c0 y0 _ _ hh;apply hid2 c0 y0;intro _ γ;obtain ⟨lo,hi,rfl,rfl,h1,h2,h3,hA,hB⟩:=hh;refine γ _ _ ?_
    dsimp only
    refine a6 (fun EZ=>aB (.inl ⟨_,rfl,_,_,rfl,rfl,by omega,h2,hA,hB⟩)) (fun Do=>?_)
    refine av (jJ h0 hk hp (by omega) ?_)
    dsimp only
    refine a6 (fun q=>aB (.inr ⟨_,rfl,_,_,rfl,rfl,by omega,h2,by omega,fun i hi=>hm i _ (by omega) (by omega) q,hB⟩)) (fun q=>aB (.inr ⟨_,rfl,_,_,rfl,rfl,by omega,by omega,by omega,hA,fun i h1 h2=>hm' _ i h1 h2 (by simpa using q)⟩))
   ·rintro c0 y0 hh;apply hid2 c0 y0;intro _ γ;obtain ⟨lo,hi,rfl,rfl,h1,h2,h3,hA,hB⟩:=hh;refine γ _ _ ?_
    exact ⟨lo,hi,rfl,rfl,by omega,h2,hA,hB⟩
   ·exact fun i hi=>hm i _ (by omega) h3 Eu
   ·intro i h4 h5
    rcases FK with FK | ⟨FK,hex2⟩
    ·omega
    ·exact hm' _ i (by omega) h5 hex2
   ·rintro c0 y0 hh;apply hid2 c0 y0;intro _ γ;obtain ⟨lo,hi,rfl,rfl,rfl,h2,hA,hB⟩:=hh;refine γ _ _ ?_
    exact aB (h _ h2 hA hB)
 ·refine av (aH.mono (cw (fun i c y=>∃ la of:Nat,c=(fun _=>(none,la,of))/\y=aq P Dh g/\la<of/\i+1<=of/\la<=hint/\bj left lt p k base (hint-la)=false)
   (fun c y=>∃ la of:Nat,c=(fun _=>(none,la,of))/\y=aq P Dh g/\la<of/\la<=hint/\bj left lt p k base (hint-la)=false/\(hint+1<=of∨(of<=hint/\bj left lt p k base (hint-of)=true))) ?_ ?_ ⟨_,_,rfl,rfl,by omega,by omega,by omega,by simpa using z⟩) ?_)
  ·rintro i c0 y0 _ _ hh;apply hid2 c0 y0;intro _ γ;obtain ⟨la,of,rfl,rfl,h1,h2,h3,Eu⟩:=hh;refine γ _ _ ?_
   dsimp only
   refine a6 (fun EZ=>aB (.inl ⟨_,rfl,_,_,rfl,rfl,h1,h3,Eu,.inl EZ⟩)) (fun Do=>?_)
   refine av (jJ h0 hk hp (by omega) ?_)
   dsimp only
   exact a6 (fun q=>aB (.inl ⟨_,rfl,_,_,rfl,rfl,h1,h3,Eu,.inr ⟨by omega,q⟩⟩)) (fun q=>aB (.inr ⟨_,rfl,_,_,rfl,rfl,by omega,by omega,by omega,by simpa using q⟩))
  ·rintro c0 y0 hh;apply hid2 c0 y0;intro _ γ;obtain ⟨la,of,rfl,rfl,h1,h2,h3,Eu⟩:=hh;refine γ _ _ ?_
   exact ⟨la,of,rfl,rfl,h1,h3,Eu,.inl (by omega)⟩
  ·rintro c0 y0 hh;apply hid2 c0 y0;intro _ γ;obtain ⟨la,of,rfl,rfl,h1,h3,Eu,FK⟩:=hh;refine γ _ _ ?_
   dsimp only
   refine av (aH.mono (cw (fun i c y=>∃ lo hi,c=(fun _=>(none,lo,hi))/\y=aq P Dh g/\lo<=hi/\hi<=m/\hi-lo<=m-i/\(∀ i,i<lo->bj left lt p k base i=true)/\(∀ i,hi<=i->i<m->bj left lt p k base i=false))
    (fun c y=>∃ lo hi,c=(fun _=>(none,lo,hi))/\y=aq P Dh g/\lo=hi/\hi<=m/\(∀ i,i<lo->bj left lt p k base i=true)/\(∀ i,hi<=i->i<m->bj left lt p k base i=false)) ?_ ?_ ⟨_,_,rfl,rfl,by omega,by omega,by omega,?_,?_⟩) ?_)
   ·rintro i c0 y0 _ _ hh;apply hid2 c0 y0;intro _ γ;obtain ⟨lo,hi,rfl,rfl,h1,h2,h3,hA,hB⟩:=hh;refine γ _ _ ?_
    dsimp only
    refine a6 (fun EZ=>aB (.inl ⟨_,rfl,_,_,rfl,rfl,by omega,h2,hA,hB⟩)) (fun Do=>?_)
    refine av (jJ h0 hk hp (by omega) ?_)
    dsimp only
    refine a6 (fun q=>aB (.inr ⟨_,rfl,_,_,rfl,rfl,by omega,h2,by omega,fun i hi=>hm i _ (by omega) (by omega) q,hB⟩)) (fun q=>aB (.inr ⟨_,rfl,_,_,rfl,rfl,by omega,by omega,by omega,hA,fun i h1 h2=>hm' _ i h1 h2 (by simpa using q)⟩))
   ·rintro c0 y0 hh;apply hid2 c0 y0;intro _ γ;obtain ⟨lo,hi,rfl,rfl,h1,h2,h3,hA,hB⟩:=hh;refine γ _ _ ?_
    exact ⟨lo,hi,rfl,rfl,by omega,h2,hA,hB⟩
   ·intro i h4
    rcases FK with FK | ⟨FK,hex2⟩
    ·omega
    ·exact hm i _ (by omega) (by omega) hex2
   ·exact fun i h4 h5=>hm' _ i h4 h5 Eu
   ·rintro c0 y0 hh;apply hid2 c0 y0;intro _ γ;obtain ⟨lo,hi,rfl,rfl,rfl,h2,hA,hB⟩:=hh;refine γ _ _ ?_
    exact aB (h _ h2 hA hB)
end
def bJ (lt:Nat->Nat->Bool) (l:List Nat):Prop:=l.Pairwise fun a b=>lt b a=false
structure ei (lt:Nat->Nat->Bool):Prop where
 as:∀ a b,lt a b=true->lt b a=false
 tr:∀ a b c,lt b a=false->lt c b=false->lt c a=false
structure MM (lt:Nat->Nat->Bool) (A o a b:List Nat):Prop where
 pm:(o++(a++b)).Perm A
 so:bJ lt o
 sa:bJ lt a
 sb:bJ lt b
 le:∀ x∈o,∀ y∈a++b,lt y x=false
structure MF (lt:Nat->Nat->Bool) (A o:List Nat):Prop where
 pm:o.Perm A
 so:bJ lt o
section
variable {lt:Nat->Nat->Bool} {A o a b t:List Nat}
theorem fu:bJ lt (a++b)↔bJ lt a/\bJ lt b/\∀ x∈a,∀ y∈b,lt y x=false:=List.pairwise_append
theorem MM.takeA (h:MM lt A o (t++a) b) (hb:∀ x∈t,∀ y∈b,lt y x=false):MM lt A (o++t) a b:=by
 obtain ⟨p,s1,s2,s3,l⟩:=h
 obtain ⟨q1,q2,q3⟩:=fu.mp s2
 refine ⟨by simpa [QW] using p,fu.mpr ⟨s1,q1,fun x hx y hy=>l x hx y (by simp [hy])⟩,q2,s3,fun x hx y hy=>?_⟩
 rcases Qw hx with hx | hx
 ·exact l x hx y (by rcases Qw hy with z | z<;>simp [z])
 ·rcases Qw hy with z | z
  ·exact q3 x hx y z
  ·exact hb x hx y z
theorem MM.takeB (h:MM lt A o a (t++b)) (ha:∀ x∈t,∀ y∈a,lt y x=false):MM lt A (o++t) a b:=by
 obtain ⟨p,s1,s2,s3,l⟩:=h
 obtain ⟨q1,q2,q3⟩:=fu.mp s3
 refine ⟨?_,fu.mpr ⟨s1,q1,fun x hx y hy=>l x hx y (by simp [hy])⟩,s2,q2,fun x hx y hy=>?_⟩
 ·refine List.Perm.trans ?_ p
  rw [QW]
  refine List.Perm.append_left o ?_
  rw [<- QW,<- QW]
  exact List.Perm.append_right b List.perm_append_comm
 rcases Qw hx with hx | hx
 ·exact l x hx y (by rcases Qw hy with z | z<;>simp [z])
 ·rcases Qw hy with z | z
  ·exact ha x hx y z
  ·exact q3 x hx y z
theorem MM.endA (h:MM lt A o a []):MF lt A (o++a):=by
 obtain ⟨p,s1,s2,s3,l⟩:=h
 exact ⟨by simpa using p,fu.mpr ⟨s1,s2,fun x hx y hy=>l x hx y (by simpa using hy)⟩⟩
theorem MM.endB (h:MM lt A o [] b):MF lt A (o++b):=by
 obtain ⟨p,s1,s2,s3,l⟩:=h
 exact ⟨by simpa using p,fu.mpr ⟨s1,s3,fun x hx y hy=>l x hx y (by simpa using hy)⟩⟩
theorem MM.endBA (h:MM lt A o a b) (hb:∀ x∈b,∀ y∈a,lt y x=false):MF lt A (o++(b++a)):=by
 obtain ⟨p,s1,s2,s3,l⟩:=h
 refine ⟨List.Perm.trans (List.Perm.append_left o List.perm_append_comm) p,fu.mpr ⟨s1,fu.mpr ⟨s3,s2,hb⟩,fun x hx y hy=>l x hx y ?_⟩⟩
 rcases Qw hy with z | z<;>simp [z]
end
theorem rP {p:Array Nat} {i:Nat} (h:i<p.size):p.toList.drop i=p.getD i 0::p.toList.drop (i+1):=by
 have e1:p.getD i 0=p[i]:=by simp [Array.getD,h]
 rw [e1,List.drop_eq_getElem_cons (by simpa using h)]
 simp
theorem lc {p:Array Nat} {i k:Nat} (h:i+k<=p.size):p.toList.drop i=(p.extract i (i+k)).toList++p.toList.drop (i+k):=by
 rw [Array.toList_extract]
 simp only [List.extract]
 rw [show i+k-i=k by omega,<- List.drop_drop]
 exact (List.take_append_drop k _).symm
theorem iL {p:Array Nat} {i:Nat}:(p.extract i p.size).toList=p.toList.drop i:=by
 rw [Array.toList_extract]
 simp only [List.extract]
 rw [Qv (by simp)]
theorem lf {p:Array Nat} {i:Nat} {y:Nat} (h:y∈p.toList.drop i):∃ j,i<=j/\j<p.size/\y=p.getD j 0:=by
 obtain ⟨j,hj,e⟩:=QU h
 rw [List.length_drop,QA] at hj
 refine ⟨i+j,by lia,by lia,?_⟩
 rw [List.getElem_drop] at e
 rw [<- e]
 simp [Array.getD,show i+j<p.size by lia]
theorem jK {p:Array Nat} {i k:Nat} {y:Nat} (h:y∈(p.extract i (i+k)).toList):∃ j,j<k/\i+j<p.size/\y=p.getD (i+j) 0:=by
 obtain ⟨j,hj,e⟩:=QU h
 simp at hj
 refine ⟨j,by omega,by omega,?_⟩
 rw [<- e]
 simp [Array.getD,show i+j<p.size by omega]
theorem gS {lt:Nat->Nat->Bool} {p:Array Nat} (h:bJ lt p.toList) {i j:Nat} (En:i<j) (hj:j<p.size):lt (p.getD j 0) (p.getD i 0)=false:=by
 have:=List.pairwise_iff_getElem.mp h i j (by simpa using Nat.lt_trans En hj) (by simpa using hj) En
 simpa [Array.getD,hj,Nat.lt_trans En hj] using this
structure bw (n:Nat) (lt:Nat->Nat->Bool) (pa pb po:Array Nat) (ia ib:Nat):Prop where
 en:aT n po
 mm:MM lt (pa.toList++pb.toList) po.toList (pa.toList.drop ia) (pb.toList.drop ib)
structure GF (n:Nat) (lt:Nat->Nat->Bool) (A:List Nat) (po:Array Nat):Prop where
 en:aT n po
 mf:MF lt A po.toList
section
variable {n:Nat} {lt:Nat->Nat->Bool} {pa pb po:Array Nat} {ia ib k:Nat}
theorem bw.pushB (h0:0<n) (hb:aT n pb) (h:bw n lt pa pb po ia ib) (hi:ib<pb.size) (q:∀ y∈pa.toList.drop ia,lt y (pb.getD ib 0)=false):bw n lt pa pb (po.push (pb.getD ib 0)) ia (ib+1):=by
 obtain ⟨e,m⟩:=h
 rw [rP hi] at m
 refine ⟨e.push (hb.at h0 _),?_⟩
 rw [Array.toList_push]
 exact MM.takeB (t:=[pb.getD ib 0]) m fun x hx y hy=>by rw [Qt hx];exact q y hy
theorem bw.pushA (h0:0<n) (ha:aT n pa) (h:bw n lt pa pb po ia ib) (hi:ia<pa.size) (q:∀ y∈pb.toList.drop ib,lt y (pa.getD ia 0)=false):bw n lt pa pb (po.push (pa.getD ia 0)) (ia+1) ib:=by
 obtain ⟨e,m⟩:=h
 rw [rP hi] at m
 refine ⟨e.push (ha.at h0 _),?_⟩
 rw [Array.toList_push]
 exact MM.takeA (t:=[pa.getD ia 0]) m fun x hx y hy=>by rw [Qt hx];exact q y hy
theorem bw.extB (hb:aT n pb) (h:bw n lt pa pb po ia ib) (hi:ib+k<=pb.size) (q:∀ j,j<k->∀ y∈pa.toList.drop ia,lt y (pb.getD (ib+j) 0)=false):bw n lt pa pb (po++pb.extract ib (ib+k)) ia (ib+k):=by
 obtain ⟨e,m⟩:=h
 rw [lc hi] at m
 refine ⟨e.app (hb.ext _ _),?_⟩
 rw [QJ]
 refine MM.takeB m fun x hx y hy=>?_
 obtain ⟨j,h1,h2,rfl⟩:=jK hx
 exact q j h1 y hy
theorem bw.extA (ha:aT n pa) (h:bw n lt pa pb po ia ib) (hi:ia+k<=pa.size) (q:∀ j,j<k->∀ y∈pb.toList.drop ib,lt y (pa.getD (ia+j) 0)=false):bw n lt pa pb (po++pa.extract ia (ia+k)) (ia+k) ib:=by
 obtain ⟨e,m⟩:=h
 rw [lc hi] at m
 refine ⟨e.app (ha.ext _ _),?_⟩
 rw [QJ]
 refine MM.takeA m fun x hx y hy=>?_
 obtain ⟨j,h1,h2,rfl⟩:=jK hx
 exact q j h1 y hy
theorem rQ {p:Array Nat} {i:Nat} (h:p.size<=i):p.toList.drop i=[]:=List.drop_eq_nil_of_le (by simpa using h)
theorem bw.finB (ha:aT n pa) (hb:aT n pb) (h:bw n lt pa pb po ia ib) (e:pb.size<=ib):GF n lt (pa.toList++pb.toList) (po++pa.extract ia pa.size++pb.extract ib pb.size):=by
 obtain ⟨en,m⟩:=h
 refine ⟨(en.app (ha.ext _ _)).app (hb.ext _ _),?_⟩
 rw [QJ,QJ,iL,iL]
 rw [rQ e] at m ⊢
 rw [QM]
 exact m.endA
theorem bw.finA (ha:aT n pa) (hb:aT n pb) (h:bw n lt pa pb po ia ib) (e:pa.size<=ia):GF n lt (pa.toList++pb.toList) (po++pa.extract ia pa.size++pb.extract ib pb.size):=by
 obtain ⟨en,m⟩:=h
 refine ⟨(en.app (ha.ext _ _)).app (hb.ext _ _),?_⟩
 rw [QJ,QJ,iL,iL]
 rw [rQ e] at m ⊢
 rw [QM]
 exact m.endB
theorem bw.finL (ha:aT n pa) (hb:aT n pb) (hl:∀ y∈pb.toList,lt (pa.getD (pa.size-1) 0) y=false) (h:bw n lt pa pb po ia ib) (e:ia+1=pa.size):GF n lt (pa.toList++pb.toList) (po++pb.extract ib pb.size++pa.extract ia pa.size):=by
 obtain ⟨en,m⟩:=h
 refine ⟨(en.app (hb.ext _ _)).app (ha.ext _ _),?_⟩
 rw [QJ,QJ,iL,iL,QW]
 refine m.endBA fun x hx y hy=>?_
 obtain ⟨j,h1,h2,rfl⟩:=lf hy
 rw [show j=pa.size-1 by lia]
 exact hl x (List.mem_of_mem_drop hx)
theorem iM (O:ei lt) (sa:bJ lt pa.toList) {x:Nat} (h:lt (pa.getD ia 0) x=false):∀ y∈pa.toList.drop ia,lt y x=false:=fun y hy=>by
 obtain ⟨j,h1,h2,rfl⟩:=lf hy
 by_cases e:j=ia
 ·subst e;exact h
 ·exact O.tr _ _ _ h (gS sa (by lia) h2)
end
section
variable {n:Nat} {lt:Nat->Nat->Bool} {α:Type} {x:Ev->SortSt}
theorem rR {c:Prop} {i0:Ev->Decidable c} {q:Ev->StateT SortSt Sem α} {R:(Ev->α)->(Ev->SortSt)->Prop} {X d:Array Nat->Nat->Ev->StateT SortSt Sem α} {c1:Nat->Prop} {i1:∀ v,Ev->Decidable (c1 v)}
  (po:Array Nat) (ia:Nat) (e:q=X po ia) (C J:Array Nat->Nat->Prop) (c0:¬c->C po ia) (h:∀ po ia,C po ia->aH n lt (X po ia) x R) (hd:∀ po ia,J po ia->c1 ia->aH n lt (d po ia) x R) (hx:∀ po ia,J po ia->¬c1 ia->C po ia) :
  ∀ Ec Eo,J Ec Eo->aH n lt (fun e=>@ite _ c (i0 e) (@ite _ (c1 Eo) (i1 Eo e) (d Ec Eo e) (X Ec Eo e)) (q e)) x R :=
 fun Ec Eo hj=>a6 (fun _=>a6 (fun z=>hd _ _ hj z) (fun z=>h _ _ (hx _ _ hj z))) (fun z=>e ▸ h _ _ (c0 z))
theorem rS {c:Prop} {i0:Ev->Decidable c} {q:Ev->StateT SortSt Sem α} {R:(Ev->α)->(Ev->SortSt)->Prop} {X d d2:Array Nat->Nat->Ev->StateT SortSt Sem α} {c1 c2:Nat->Prop} {i1:∀ v,Ev->Decidable (c1 v)} {i2:∀ v,Ev->Decidable (c2 v)}
  (po:Array Nat) (ia:Nat) (e:q=X po ia) (C J:Array Nat->Nat->Prop) (c0:¬c->C po ia) (h:∀ po ia,C po ia->aH n lt (X po ia) x R) (hd:∀ po ia,J po ia->c1 ia->aH n lt (d po ia) x R) (ES:∀ po ia,J po ia->c2 ia->aH n lt (d2 po ia) x R) (hx:∀ po ia,J po ia->¬c1 ia->¬c2 ia->C po ia) :
  ∀ Ec Eo,J Ec Eo->aH n lt (fun e=>@ite _ c (i0 e) (@ite _ (c1 Eo) (i1 Eo e) (d Ec Eo e) (@ite _ (c2 Eo) (i2 Eo e) (d2 Ec Eo e) (X Ec Eo e))) (q e)) x R :=
 fun Ec Eo hj=>a6 (fun _=>a6 (fun z=>hd _ _ hj z) (fun z=>a6 (fun z2=>ES _ _ hj z2) (fun z2=>h _ _ (hx _ _ hj z z2)))) (fun z=>e ▸ h _ _ (c0 z))
end
section
variable {n:Nat} {lt:Nat->Nat->Bool} {P pa pb:Array Nat} {Dh:Array (Nat × Nat × Nat)} {g:Nat}
theorem zJ {R:(Ev->Array Keyed)->(Ev->SortSt)->Prop} (O:ei lt) (h0:0<n) (ha:aT n pa) (hb:aT n pb) (ha0:0<pa.size) (hb0:0<pb.size) (sa:bJ lt pa.toList) (sb:bJ lt pb.toList)
  (hf:lt (pb.getD 0 0) (pa.getD 0 0)=true) (hl:∀ y∈pb.toList,lt (pa.getD (pa.size-1) 0) y=false) (h:∀ po g',GF n lt (pa.toList++pb.toList) po->R (fun e=>aO e po) (aq P Dh g')) :
  aH n lt (fun e=>zC (aO e pa) (aO e pb)) (aq P Dh g) R:=by
 have G0:bw n lt pa pb #[pb.getD 0 0] 0 1:=by
  have G:bw n lt pa pb #[] 0 0:=⟨fun x hx=>by simp at hx,by simp,List.Pairwise.nil,by simpa using sa,by simpa using sb,fun x hx=>by simp at hx⟩
  simpa using G.pushB h0 hb hb0 (iM O sa (O.as _ _ hf))
 refine av (iI ?_)
 refine av (ca (p:=pb) hb0 ?_)
 dsimp only
 try simp only [cZ,dE,dF,du,dG]
 refine dv (fun z=>aB (h _ _ (G0.finB ha hb (by omega)))) (fun Eu=>dv (fun z=>aB (h _ _ (G0.finL ha hb hl (by omega)))) (fun ha1=>ft ?_))
 dsimp only
 refine av (aH.mono (cw
  (fun i c y=>∃ po ia ib mg g',c=(fun e=>(none,aO e po,ia,ib,mg))/\y=aq P Dh g'/\bw n lt pa pb po ia ib/\ia+1<pa.size/\ib<pb.size/\i+1<=ia+ib)
  (fun c y=>∃ po,∃ r:Ev->Array Keyed × Nat × Nat × Nat,∃ g',c=(fun e=>(some (aO e po),r e))/\y=aq P Dh g'/\GF n lt (pa.toList++pb.toList) po) ?_ ?_ ⟨_,_,_,_,_,rfl,rfl,G0,by omega,by omega,by omega⟩) ?_)
 ·rintro t c0 y0 _ htt hh;apply hid2 c0 y0;intro _ γ;obtain ⟨po,ia,ib,mg,g',rfl,rfl,Dx,FJ,Eb,EI⟩:=hh;refine γ _ _ ?_
  dsimp only
  refine av (aH.mono (cw
   (fun i c y=>∃ po ia ib ac bc g',c=(fun e=>(none,aO e po,ia,ib,ac,bc))/\y=aq P Dh g'/\bw n lt pa pb po ia ib/\ia+1<pa.size/\ib<pb.size/\i+t+1<=ia+ib)
   (fun c y=>(∃ po,∃ r:Ev->Array Keyed × Nat × Nat × Nat × Nat,∃ g',c=(fun e=>(some (aO e po),r e))/\y=aq P Dh g'/\GF n lt (pa.toList++pb.toList) po)∨∃ po ia ib ac bc g',c=(fun e=>(none,aO e po,ia,ib,ac,bc))/\y=aq P Dh g'/\bw n lt pa pb po ia ib/\ia+1<pa.size/\ib<pb.size/\t+2<=ia+ib) ?_ ?_ ⟨_,_,_,_,_,_,rfl,rfl,Dx,FJ,Eb,by omega⟩) ?_)
  ·rintro i c0 y0 _ _ hh;apply hid2 c0 y0;intro _ γ;obtain ⟨po,ia,ib,ac,bc,g',rfl,rfl,Dx,FJ,Eb,EI⟩:=hh;refine γ _ _ ?_
   dsimp only
   refine av (ca Eb (av (ca (by omega) (av (jI (hb.at h0 _) (ha.at h0 _) ?_)))))
   dsimp only
   refine a6 (fun zl=>av (ca Eb ?_)) (fun zl=>av (ca (by omega) ?_))
   ·have G:=Dx.pushB h0 hb Eb (iM O sa (O.as _ _ zl))
    dsimp only
    try simp only [cZ,dE,dF,du,dG]
    exact dv (fun z=>aB (.inl ⟨_,rfl,.inl ⟨_,_,_,rfl,rfl,G.finB ha hb (by omega)⟩⟩)) (fun _=>a6 (fun _=>aB (.inl ⟨_,rfl,.inr ⟨_,_,_,_,_,_,rfl,rfl,G,by omega,by omega,by omega⟩⟩)) (fun _=>aB (.inr ⟨_,rfl,⟨_,_,_,_,_,_,rfl,rfl,G,by omega,by omega,by omega⟩⟩)))
   ·have G:=Dx.pushA h0 ha (by omega) (iM O sb (by simpa using zl))
    dsimp only
    try simp only [cZ,dE,dF,du,dG]
    exact dv (fun z=>aB (.inl ⟨_,rfl,.inl ⟨_,_,_,rfl,rfl,G.finL ha hb hl (by omega)⟩⟩)) (fun _=>a6 (fun _=>aB (.inl ⟨_,rfl,.inr ⟨_,_,_,_,_,_,rfl,rfl,G,by omega,by omega,by omega⟩⟩)) (fun _=>aB (.inr ⟨_,rfl,⟨_,_,_,_,_,_,rfl,rfl,G,by omega,by omega,by omega⟩⟩)))
  ·rintro c0 y0 hh;apply hid2 c0 y0;intro _ γ;obtain ⟨po,ia,ib,ac,bc,g',rfl,rfl,Dx,FJ,Eb,EI⟩:=hh;refine γ _ _ ?_
   exact .inr ⟨po,ia,ib,ac,bc,g',rfl,rfl,Dx,FJ,Eb,by omega⟩
  ·rintro c0 y0 hh;apply hid2 c0 y0;intro _ γ;obtain (⟨po,r,g',rfl,rfl,Dx⟩ | ⟨po,ia,ib,ac,bc,g',rfl,rfl,Dx,FJ,Eb,EI⟩):=hh<;>refine γ _ _ ?_
   ·exact aB (.inl ⟨_,rfl,_,_,_,rfl,rfl,Dx⟩)
   refine av (iI ?_)
   dsimp only
   refine av (aH.mono (cw
    (fun i c y=>∃ po ia ib mg ac bc g',c=(fun e=>(none,aO e po,ia,ib,mg,ac,bc))/\y=aq P Dh g'/\bw n lt pa pb po ia ib/\ia+1<pa.size/\ib<pb.size/\t+2<=ia+ib)
    (fun c y=>(∃ po,∃ r:Ev->Array Keyed × Nat × Nat × Nat × Nat × Nat,∃ g',c=(fun e=>(some (aO e po),r e))/\y=aq P Dh g'/\GF n lt (pa.toList++pb.toList) po)∨∃ po ia ib mg ac bc g',c=(fun e=>(none,aO e po,ia,ib,mg,ac,bc))/\y=aq P Dh g'/\bw n lt pa pb po ia ib/\ia+1<pa.size/\ib<pb.size/\t+2<=ia+ib) ?_ (fun _ _ z=>.inr z) ⟨_,_,_,_,_,_,_,rfl,rfl,Dx,FJ,Eb,EI⟩) ?_)
   ·rintro i c0 y0 _ _ hh;apply hid2 c0 y0;intro _ γ;obtain ⟨po,ia,ib,mg,ac,bc,g',rfl,rfl,Dx,FJ,Eb,EI⟩:=hh;refine γ _ _ ?_
    dsimp only
    dsimp +instances only
    generalize mg-1=m1
    revert m1
    refine rL mg rfl fun mg=>?_
    refine av (k8 (av (ca Eb (av (iK h0 (hb.at h0 _) ha (by omega) (by omega) ?_ fun k hk hA hB=>?_)))))
    ·intro i j En hj
     simp only [bj,QT,if_false,Bool.not_eq_true']
     intro z
     by_cases e:i=j
     ·subst e;exact z
     ·exact O.tr _ _ _ (gS sa (by omega) (by omega)) z
    dsimp +instances only
    try simp only [cZ,dE,dF,du,dG]
    simp only [bj,QT,if_false,Bool.not_eq_true',Bool.not_eq_false'] at hA hB
    have hJ:bw n lt pa pb (po++pa.extract ia (ia+k)) (ia+k) ib/\ia<=ia+k/\ia+k<=pa.size/\(∀ y∈pa.toList.drop (ia+k),lt y (pb.getD ib 0)=false):=by
     refine ⟨Dx.extA ha (by omega) fun j hj=>iM O sb (hA j hj),by omega,by omega,fun y hy=>?_⟩
     refine bt fun _ γ=>?_;obtain ⟨j,h1,h2,rfl⟩:=lf hy;refine γ ?_
     have:=hB (j-ia) (by omega) (by omega)
     rw [show ia+(j-ia)=j by omega] at this
     exact O.as _ _ this
    have hK:¬k>0->bw n lt pa pb po ia ib/\ia+1<pa.size/\t+2<=ia+ib/\(∀ y∈pa.toList.drop ia,lt y (pb.getD ib 0)=false):=fun z=>by
     have e:ia+k=ia:=by omega
     exact ⟨Dx,FJ,EI,by have:=hJ.2.2.2;rwa [e] at this⟩
    clear hA hB
    generalize po++pa.extract ia (ia+k)=Ec at hJ ⊢
    generalize ia+k=Eo at hJ ⊢
    revert hJ
    revert Eo
    revert Ec
    refine rS po ia rfl (fun po ia=>bw n lt pa pb po ia ib/\ia+1<pa.size/\t+2<=ia+ib/\(∀ y∈pa.toList.drop ia,lt y (pb.getD ib 0)=false)) (fun Ec Eo=>bw n lt pa pb Ec Eo ib/\ia<=Eo/\Eo<=pa.size/\(∀ y∈pa.toList.drop Eo,lt y (pb.getD ib 0)=false)) hK ?_
     (fun po ia hj z=>aB (.inl ⟨_,rfl,.inl ⟨_,_,_,rfl,rfl,hj.1.finL ha hb hl (by simpa using z)⟩⟩)) (fun po ia hj z=>aB (.inl ⟨_,rfl,.inl ⟨_,_,_,rfl,rfl,hj.1.finA ha hb (by simp only [beq_iff_eq] at z;omega)⟩⟩)) (fun po ia hj z1 z2=>by simp only [beq_iff_eq] at z1 z2;exact ⟨hj.1,by omega,by omega,hj.2.2.2⟩)
    rintro po ia hh;refine bt fun _ γ=>?_;obtain ⟨Dx,FJ,EI,hq⟩:=hh;refine γ ?_
    refine av (ca Eb ?_)
    have G:=Dx.pushB h0 hb Eb hq
    dsimp +instances only
    try simp only [cZ,dE,dF,du,dG]
    refine dv (fun z=>aB (.inl ⟨_,rfl,.inl ⟨_,_,_,rfl,rfl,G.finB ha hb (by omega)⟩⟩)) fun Dy=>av (ca (by omega) (av (iK h0 (ha.at h0 _) hb (by omega) (by omega) ?_ fun k' FX hA hB=>?_)))
    ·intro i j En hj
     simp only [bj,if_true]
     intro z
     by_cases e:i=j
     ·subst e;exact z
     ·have h1:=gS sb (i:=ib+1+i) (j:=ib+1+j) (by omega) (by omega)
      cases e2:lt (pb.getD (ib+1+i) 0) (pa.getD ia 0) with
      | true=>rfl
      | false=>rw [O.tr _ _ _ e2 h1] at z;cases z
    dsimp +instances only
    try simp only [cZ,dE,dF,du,dG]
    simp only [bj,if_true] at hA hB
    have Ek:ib+1<pb.size/\t+3<=ia+(ib+1):=⟨by omega,by omega⟩
    generalize po.push (pb.getD ib 0)=po at G ⊢
    clear hq Dx
    generalize ib+1=ib at Ek FX hA hB G ⊢
    have hJ:bw n lt pa pb (po++pb.extract ib (ib+k')) ia (ib+k')/\ib<=ib+k'/\ib+k'<=pb.size/\(∀ y∈pb.toList.drop (ib+k'),lt y (pa.getD ia 0)=false):=by
     refine ⟨G.extB hb (by omega) fun j hj=>iM O sa (O.as _ _ (hA j hj)),by omega,by omega,fun y hy=>?_⟩
     refine bt fun _ γ=>?_;obtain ⟨j,h1,h2,rfl⟩:=lf hy;refine γ ?_
     have:=hB (j-ib) (by omega) (by omega)
     rwa [show ib+(j-ib)=j by omega] at this
    have hK:¬k'>0->bw n lt pa pb po ia ib/\ib<pb.size/\t+2<=ia+ib/\(∀ y∈pb.toList.drop ib,lt y (pa.getD ia 0)=false):=fun z=>by
     have e:ib+k'=ib:=by omega
     exact ⟨G,Ek.1,by omega,by have:=hJ.2.2.2;rwa [e] at this⟩
    clear hA hB
    generalize po++pb.extract ib (ib+k')=Ec at hJ ⊢
    generalize ib+k'=ib1 at hJ ⊢
    revert hJ
    revert ib1
    revert Ec
    refine rR po ib rfl (fun po ib=>bw n lt pa pb po ia ib/\ib<pb.size/\t+2<=ia+ib/\(∀ y∈pb.toList.drop ib,lt y (pa.getD ia 0)=false)) (fun Ec ib1=>bw n lt pa pb Ec ia ib1/\ib<=ib1/\ib1<=pb.size/\(∀ y∈pb.toList.drop ib1,lt y (pa.getD ia 0)=false)) hK ?_
     (fun po ib hj z=>aB (.inl ⟨_,rfl,.inl ⟨_,_,_,rfl,rfl,hj.1.finB ha hb (by simp only [beq_iff_eq] at z;omega)⟩⟩)) (fun po ib hj z1=>by simp only [beq_iff_eq] at z1;exact ⟨hj.1,by omega,by omega,hj.2.2.2⟩)
    rintro po ib hh;refine bt fun _ γ=>?_;obtain ⟨Dx,Eb,EI,hq⟩:=hh;refine γ ?_
    refine av (ca (by omega) ?_)
    have G:=Dx.pushA h0 ha (by omega) hq
    dsimp +instances only
    try simp only [cZ,dE,dF,du,dG]
    exact dv (fun z=>aB (.inl ⟨_,rfl,.inl ⟨_,_,_,rfl,rfl,G.finL ha hb hl (by omega)⟩⟩)) fun _=>a6 (fun _=>aB (.inl ⟨_,rfl,.inr ⟨_,_,_,_,_,_,_,rfl,rfl,G,by omega,by omega,by omega⟩⟩)) (fun _=>aB (.inr ⟨_,rfl,⟨_,_,_,_,_,_,_,rfl,rfl,G,by omega,by omega,by omega⟩⟩))
   ·rintro c0 y0 hh;apply hid2 c0 y0;intro _ γ;obtain (⟨po,r,g',rfl,rfl,Dx⟩ | ⟨po,ia,ib,mg,ac,bc,g',rfl,rfl,Dx,FJ,Eb,EI⟩):=hh<;>refine γ _ _ ?_
    ·exact aB (.inl ⟨_,rfl,_,_,_,rfl,rfl,Dx⟩)
    dsimp only
    exact av (k8 (aB (.inr ⟨_,rfl,_,_,_,_,_,rfl,rfl,Dx,FJ,Eb,by omega⟩)))
 ·rintro c0 y0 hh;apply hid2 c0 y0;intro _ γ;obtain ⟨po,ia,ib,mg,g',rfl,rfl,Dx,FJ,Eb,EI⟩:=hh;refine γ _ _ ?_
  exfalso
  omega
 ·rintro c0 y0 hh;apply hid2 c0 y0;intro _ γ;obtain ⟨po,r,g',rfl,rfl,Dx⟩:=hh;refine γ _ _ ?_
  exact aB (h _ _ Dx)
end
noncomputable def jL (lt:Nat->Nat->Bool):Nat->Nat->Bool:=fun a b=>lt b a
section
variable {lt:Nat->Nat->Bool} {A o a b t:List Nat}
theorem MM.endAB (h:MM lt A o a b) (hb:∀ x∈a,∀ y∈b,lt y x=false):MF lt A (o++(a++b)):=by
 obtain ⟨p,s1,s2,s3,l⟩:=h
 exact ⟨p,fu.mpr ⟨s1,fu.mpr ⟨s2,s3,hb⟩,l⟩⟩
theorem rT {l:List Nat} (h:bJ lt l):bJ (jL lt) l.reverse:=List.pairwise_reverse.mpr h
theorem MF.rev (h:MF (jL lt) A o):MF lt A o.reverse:=⟨(List.reverse_perm o).trans h.pm,List.pairwise_reverse.mpr h.so⟩
end
theorem rV {p:Array Nat} {i:Nat} (h0:0<i) (h:i<=p.size):(p.toList.take i).reverse=p.getD (i-1) 0::(p.toList.take (i-1)).reverse:=by
 obtain ⟨j,rfl⟩:∃ j,i=j+1:=⟨i-1,by lia⟩
 have hj:j<p.size:=by lia
 have e1:p.getD j 0=p[j]:=by simp [Array.getD,hj]
 rw [show j+1-1=j by lia,e1,Qm (by simpa using hj),List.reverse_append]
 simp
theorem rW {p:Array Nat} {i j:Nat} (h:i<=j) (hj:j<=p.size):(p.toList.take j).reverse=((p.extract i j).reverse).toList++(p.toList.take i).reverse:=by
 rw [Array.toList_reverse,Array.toList_extract,<- List.reverse_append]
 simp only [List.extract]
 congr 1
 obtain ⟨k,rfl⟩:∃ k,j=i+k:=⟨j-i,by omega⟩
 rw [show i+k-i=k by omega,List.take_add]
theorem iN {p:Array Nat} {i:Nat}:(p.extract 0 i).toList=p.toList.take i:=by
 rw [Array.toList_extract]
 simp [List.extract]
theorem jM {p:Array Nat} {i y:Nat} (h:y∈(p.toList.take i).reverse):∃ j,j<i/\j<p.size/\y=p.getD j 0:=by
 obtain ⟨j,hj,e⟩:=QU (List.mem_reverse.mp h)
 rw [QD,QA] at hj
 refine ⟨j,by lia,by lia,?_⟩
 rw [List.getElem_take] at e
 rw [<- e]
 simp [Array.getD,show j<p.size by lia]
theorem rX {p:Array Nat} {i j y:Nat} (h:y∈((p.extract i j).reverse).toList):∃ k,i<=k/\k<j/\k<p.size/\y=p.getD k 0:=by
 rw [Array.toList_reverse] at h
 obtain ⟨k,hk,e⟩:=QU (List.mem_reverse.mp h)
 simp at hk
 refine ⟨i+k,by lia,by lia,by lia,?_⟩
 rw [<- e]
 simp [Array.getD,show i+k<p.size by lia]
structure bx (n:Nat) (lt:Nat->Nat->Bool) (pa pb po:Array Nat) (na nb:Nat):Prop where
 en:aT n po
 mm:MM (jL lt) (pa.toList++pb.toList) po.toList (pa.toList.take na).reverse (pb.toList.take nb).reverse
section
variable {n:Nat} {lt:Nat->Nat->Bool} {pa pb po:Array Nat} {na nb k:Nat}
theorem bx.pushB (h0:0<n) (hb:aT n pb) (h:bx n lt pa pb po na nb) (hi:0<nb) (hj:nb<=pb.size) (q:∀ y∈(pa.toList.take na).reverse,lt (pb.getD (nb-1) 0) y=false):bx n lt pa pb (po.push (pb.getD (nb-1) 0)) na (nb-1):=by
 obtain ⟨e,m⟩:=h
 rw [rV hi hj] at m
 refine ⟨e.push (hb.at h0 _),?_⟩
 rw [Array.toList_push]
 exact MM.takeB (t:=[pb.getD (nb-1) 0]) m fun x hx y hy=>by rw [Qt hx];exact q y hy
theorem bx.pushA (h0:0<n) (ha:aT n pa) (h:bx n lt pa pb po na nb) (hi:0<na) (hj:na<=pa.size) (q:∀ y∈(pb.toList.take nb).reverse,lt (pa.getD (na-1) 0) y=false):bx n lt pa pb (po.push (pa.getD (na-1) 0)) (na-1) nb:=by
 obtain ⟨e,m⟩:=h
 rw [rV hi hj] at m
 refine ⟨e.push (ha.at h0 _),?_⟩
 rw [Array.toList_push]
 exact MM.takeA (t:=[pa.getD (na-1) 0]) m fun x hx y hy=>by rw [Qt hx];exact q y hy
theorem bx.extB (hb:aT n pb) (h:bx n lt pa pb po na nb) (hi:k<=nb) (hj:nb<=pb.size) (q:∀ j,k<=j->j<nb->∀ y∈(pa.toList.take na).reverse,lt (pb.getD j 0) y=false):bx n lt pa pb (po++(pb.extract k nb).reverse) na k:=by
 obtain ⟨e,m⟩:=h
 rw [rW hi hj] at m
 refine ⟨e.app (hb.ext _ _).reverse,?_⟩
 rw [QJ]
 refine MM.takeB m fun x hx y hy=>?_
 obtain ⟨j,h1,h2,_,rfl⟩:=rX hx
 exact q j h1 h2 y hy
theorem bx.extA (ha:aT n pa) (h:bx n lt pa pb po na nb) (hi:k<=na) (hj:na<=pa.size) (q:∀ j,k<=j->j<na->∀ y∈(pb.toList.take nb).reverse,lt (pa.getD j 0) y=false):bx n lt pa pb (po++(pa.extract k na).reverse) k nb:=by
 obtain ⟨e,m⟩:=h
 rw [rW hi hj] at m
 refine ⟨e.app (ha.ext _ _).reverse,?_⟩
 rw [QJ]
 refine MM.takeA m fun x hx y hy=>?_
 obtain ⟨j,h1,h2,_,rfl⟩:=rX hx
 exact q j h1 h2 y hy
theorem bx.finA (ha:aT n pa) (hb:aT n pb) (h:bx n lt pa pb po na nb) (e:na=0):GF n lt (pa.toList++pb.toList) (pa.extract 0 na++pb.extract 0 nb++po.reverse):=by
 subst e
 obtain ⟨en,m⟩:=h
 refine ⟨((ha.ext _ _).app (hb.ext _ _)).app en.reverse,?_⟩
 rw [QJ,QJ,iN,iN,Array.toList_reverse]
 have m':MM (jL lt) (pa.toList++pb.toList) po.toList [] (pb.toList.take nb).reverse:=by simpa using m
 have q:=m'.endB.rev
 rw [List.reverse_append,List.reverse_reverse] at q
 simpa using q
theorem bx.finB (ha:aT n pa) (hb:aT n pb) (h:bx n lt pa pb po na nb) (e:nb=0):GF n lt (pa.toList++pb.toList) (pa.extract 0 na++pb.extract 0 nb++po.reverse):=by
 subst e
 obtain ⟨en,m⟩:=h
 refine ⟨((ha.ext _ _).app (hb.ext _ _)).app en.reverse,?_⟩
 rw [QJ,QJ,iN,iN,Array.toList_reverse]
 have m':MM (jL lt) (pa.toList++pb.toList) po.toList (pa.toList.take na).reverse []:=by simpa using m
 have q:=m'.endA.rev
 rw [List.reverse_append,List.reverse_reverse] at q
 simpa using q
theorem bx.finL (ha:aT n pa) (hb:aT n pb) (hl:∀ y∈pa.toList,lt y (pb.getD 0 0)=false) (h:bx n lt pa pb po na nb) (e:nb=1):GF n lt (pa.toList++pb.toList) (pb.extract 0 nb++pa.extract 0 na++po.reverse):=by
 subst e
 obtain ⟨en,m⟩:=h
 refine ⟨((hb.ext _ _).app (ha.ext _ _)).app en.reverse,?_⟩
 rw [QJ,QJ,iN,iN,Array.toList_reverse]
 have:=(m.endAB fun x hx y hy=>by
  obtain ⟨j,h1,h2,rfl⟩:=jM hy
  rw [show j=0 by lia]
  exact hl x (List.mem_of_mem_take (List.mem_reverse.mp hx))).rev
 simpa using this
theorem lg (O:ei lt) (sa:bJ lt pa.toList) {x:Nat} (hn:na<=pa.size) (h:lt x (pa.getD (na-1) 0)=false):∀ y∈(pa.toList.take na).reverse,lt x y=false:=fun y hy=>by
 obtain ⟨j,h1,h2,rfl⟩:=jM hy
 by_cases e:j=na-1
 ·subst e;exact h
 ·exact O.tr _ _ _ (gS sa (i:=j) (j:=na-1) (by lia) (by lia)) h
end
section
variable {n:Nat} {lt:Nat->Nat->Bool} {P pa pb:Array Nat} {Dh:Array (Nat × Nat × Nat)} {g:Nat}
theorem zK {R:(Ev->Array Keyed)->(Ev->SortSt)->Prop} (O:ei lt) (h0:0<n) (ha:aT n pa) (hb:aT n pb) (ha0:0<pa.size) (hb0:0<pb.size) (sa:bJ lt pa.toList) (sb:bJ lt pb.toList)
  (hf:lt (pb.getD 0 0) (pa.getD 0 0)=true) (hl:∀ y∈pb.toList,lt (pa.getD (pa.size-1) 0) y=false) (h:∀ po g',GF n lt (pa.toList++pb.toList) po->R (fun e=>aO e po) (aq P Dh g')) :
  aH n lt (fun e=>zD (aO e pa) (aO e pb)) (aq P Dh g) R:=by
 have hl0:∀ y∈pa.toList,lt y (pb.getD 0 0)=false:=by simpa using iM O sa (ia:=0) (O.as _ _ hf)
 have G0:bx n lt pa pb #[pa.getD (pa.size-1) 0] (pa.size-1) pb.size:=by
  have G:bx n lt pa pb #[] pa.size pb.size:=by
   refine ⟨fun x hx=>by simp at hx,?_,List.Pairwise.nil,?_,?_,fun x hx=>by simp at hx⟩
   ·rw [Qv (by simp),Qv (by simp)]
    simp only [List.nil_append]
    exact (List.reverse_perm _).append (List.reverse_perm _)
   ·rw [Qv (by simp)];exact rT sa
   ·rw [Qv (by simp)];exact rT sb
  simpa using G.pushA h0 ha ha0 (Qf _) fun y hy=>by
   refine bt fun _ γ=>?_;obtain ⟨j,h1,h2,rfl⟩:=jM hy;refine γ ?_
   exact hl _ (by simp [Array.getD,h2])
 refine av (iI ?_)
 dsimp only
 simp only [cZ]
 refine av (ca (p:=pa) (by omega) ?_)
 dsimp only
 try simp only [cZ,dE,dF,du,dG,gR]
 refine dv (fun z=>aB (h _ _ (G0.finA ha hb (by omega)))) (fun ha1=>dv (fun z=>aB (h _ _ (G0.finL ha hb hl0 (by omega)))) (fun Eu=>ft ?_))
 dsimp only
 refine av (aH.mono (cw
  (fun i c y=>∃ na nb po mg g',c=(fun e=>(none,na,nb,aO e po,mg))/\y=aq P Dh g'/\bx n lt pa pb po na nb/\0<na/\na<=pa.size/\1<nb/\nb<=pb.size/\na+nb+i+1<=pa.size+pb.size)
  (fun c y=>∃ po,∃ r:Ev->Nat × Nat × Array Keyed × Nat,∃ g',c=(fun e=>(some (aO e po),r e))/\y=aq P Dh g'/\GF n lt (pa.toList++pb.toList) po) ?_ ?_ ⟨_,_,_,_,_,rfl,rfl,G0,by omega,by omega,by omega,by omega,by omega⟩) ?_)
 ·rintro t c0 y0 _ htt hh;apply hid2 c0 y0;intro _ γ;obtain ⟨na,nb,po,mg,g',rfl,rfl,Dx,DI,Fg,Dy,FI,EI⟩:=hh;refine γ _ _ ?_
  dsimp only
  refine av (aH.mono (cw
   (fun i c y=>∃ na nb po ac bc g',c=(fun e=>(none,na,nb,aO e po,ac,bc))/\y=aq P Dh g'/\bx n lt pa pb po na nb/\0<na/\na<=pa.size/\1<nb/\nb<=pb.size/\na+nb+t+i+1<=pa.size+pb.size)
   (fun c y=>(∃ po,∃ r:Ev->Nat × Nat × Array Keyed × Nat × Nat,∃ g',c=(fun e=>(some (aO e po),r e))/\y=aq P Dh g'/\GF n lt (pa.toList++pb.toList) po)∨∃ na nb po ac bc g',c=(fun e=>(none,na,nb,aO e po,ac,bc))/\y=aq P Dh g'/\bx n lt pa pb po na nb/\0<na/\na<=pa.size/\1<nb/\nb<=pb.size/\na+nb+t+2<=pa.size+pb.size) ?_ ?_ ⟨_,_,_,_,_,_,rfl,rfl,Dx,DI,Fg,Dy,FI,by omega⟩) ?_)
  ·rintro i c0 y0 _ _ hh;apply hid2 c0 y0;intro _ γ;obtain ⟨na,nb,po,ac,bc,g',rfl,rfl,Dx,DI,Fg,Dy,FI,EI⟩:=hh;refine γ _ _ ?_
   dsimp only
   refine av (ca (by omega) (av (ca (by omega) (av (jI (hb.at h0 _) (ha.at h0 _) ?_)))))
   dsimp only
   refine a6 (fun zl=>av (ca (by omega) ?_)) (fun zl=>av (ca (by omega) ?_))
   ·have G:=Dx.pushA h0 ha DI Fg (lg O sb FI (O.as _ _ zl))
    dsimp only
    try simp only [cZ,dE,dF,du,dG,gR]
    exact dv (fun z=>aB (.inl ⟨_,rfl,.inl ⟨_,_,_,rfl,rfl,G.finA ha hb (by omega)⟩⟩)) (fun _=>a6 (fun _=>aB (.inl ⟨_,rfl,.inr ⟨_,_,_,_,_,_,rfl,rfl,G,by omega,by omega,by omega,by omega,by omega⟩⟩)) (fun _=>aB (.inr ⟨_,rfl,⟨_,_,_,_,_,_,rfl,rfl,G,by omega,by omega,by omega,by omega,by omega⟩⟩)))
   ·have G:=Dx.pushB h0 hb (by omega) FI (lg O sa Fg (by simpa using zl))
    dsimp only
    try simp only [cZ,dE,dF,du,dG,gR]
    exact dv (fun z=>aB (.inl ⟨_,rfl,.inl ⟨_,_,_,rfl,rfl,G.finL ha hb hl0 (by omega)⟩⟩)) (fun _=>a6 (fun _=>aB (.inl ⟨_,rfl,.inr ⟨_,_,_,_,_,_,rfl,rfl,G,by omega,by omega,by omega,by omega,by omega⟩⟩)) (fun _=>aB (.inr ⟨_,rfl,⟨_,_,_,_,_,_,rfl,rfl,G,by omega,by omega,by omega,by omega,by omega⟩⟩)))
  ·rintro c0 y0 hh;apply hid2 c0 y0;intro _ γ;obtain ⟨na,nb,po,ac,bc,g',rfl,rfl,Dx,DI,Fg,Dy,FI,EI⟩:=hh;refine γ _ _ ?_
   exact .inr ⟨na,nb,po,ac,bc,g',rfl,rfl,Dx,DI,Fg,Dy,FI,by omega⟩
  ·rintro c0 y0 hh;apply hid2 c0 y0;intro _ γ;obtain (⟨po,r,g',rfl,rfl,Dx⟩ | ⟨na,nb,po,ac,bc,g',rfl,rfl,Dx,DI,Fg,Dy,FI,EI⟩):=hh<;>refine γ _ _ ?_
   ·exact aB (.inl ⟨_,rfl,_,_,_,rfl,rfl,Dx⟩)
   refine av (iI ?_)
   dsimp only
   refine av (aH.mono (cw
    (fun i c y=>∃ na nb po mg ac bc g',c=(fun e=>(none,na,nb,aO e po,mg,ac,bc))/\y=aq P Dh g'/\bx n lt pa pb po na nb/\0<na/\na<=pa.size/\1<nb/\nb<=pb.size/\na+nb+t+2<=pa.size+pb.size)
    (fun c y=>(∃ po,∃ r:Ev->Nat × Nat × Array Keyed × Nat × Nat × Nat,∃ g',c=(fun e=>(some (aO e po),r e))/\y=aq P Dh g'/\GF n lt (pa.toList++pb.toList) po)∨∃ na nb po mg ac bc g',c=(fun e=>(none,na,nb,aO e po,mg,ac,bc))/\y=aq P Dh g'/\bx n lt pa pb po na nb/\0<na/\na<=pa.size/\1<nb/\nb<=pb.size/\na+nb+t+2<=pa.size+pb.size) ?_ (fun _ _ z=>.inr z) ⟨_,_,_,_,_,_,_,rfl,rfl,Dx,DI,Fg,Dy,FI,EI⟩) ?_)
   ·rintro i c0 y0 _ _ hh;apply hid2 c0 y0;intro _ γ;obtain ⟨na,nb,po,mg,ac,bc,g',rfl,rfl,Dx,DI,Fg,Dy,FI,EI⟩:=hh;refine γ _ _ ?_
    dsimp only
    dsimp +instances only
    generalize mg-1=m1
    revert m1
    refine rL mg rfl fun mg=>?_
    refine av (k8 (av (ca (by omega) (av (iK h0 (hb.at h0 _) ha (by omega) (by omega) ?_ fun Fh hk hA hB=>?_)))))
    ·intro i j En hj
     simp only [bj,QT,if_false,Bool.not_eq_true',Nat.zero_add]
     intro z
     by_cases e:i=j
     ·subst e;exact z
     ·exact O.tr _ _ _ (gS sa (by omega) (by omega)) z
    dsimp +instances only
    try simp only [cZ,dE,dF,du,dG,gR]
    simp only [bj,QT,if_false,Bool.not_eq_true',Bool.not_eq_false',Nat.zero_add] at hA hB
    generalize Ea:na-Fh=k
    have hJ:bx n lt pa pb (po++(pa.extract Fh na).reverse) Fh nb/\Fh<=na/\na-Fh=k/\(∀ y∈(pa.toList.take Fh).reverse,lt (pb.getD (nb-1) 0) y=false):=by
     refine ⟨Dx.extA ha hk Fg fun j h1 h2=>lg O sb FI (O.as _ _ (hB j h1 h2)),hk,Ea,fun y hy=>?_⟩
     refine bt fun _ γ=>?_;obtain ⟨j,h1,h2,rfl⟩:=jM hy;refine γ ?_
     exact hA j h1
    have hK:¬k>0->bx n lt pa pb po na nb/\0<na/\na<=pa.size/\na+nb+t+2<=pa.size+pb.size/\(∀ y∈(pa.toList.take na).reverse,lt (pb.getD (nb-1) 0) y=false):=fun z=>by
     have e:Fh=na:=by omega
     exact ⟨Dx,DI,Fg,EI,by have:=hJ.2.2.2;rwa [e] at this⟩
    clear hA hB hk Ea
    generalize po++(pa.extract Fh na).reverse=Ec at hJ ⊢
    revert hJ
    revert Fh
    revert Ec
    refine rR po na rfl (fun po na=>bx n lt pa pb po na nb/\0<na/\na<=pa.size/\na+nb+t+2<=pa.size+pb.size/\(∀ y∈(pa.toList.take na).reverse,lt (pb.getD (nb-1) 0) y=false)) (fun Ec Fh=>bx n lt pa pb Ec Fh nb/\Fh<=na/\na-Fh=k/\(∀ y∈(pa.toList.take Fh).reverse,lt (pb.getD (nb-1) 0) y=false)) hK ?_
     (fun po na hj z=>aB (.inl ⟨_,rfl,.inl ⟨_,_,_,rfl,rfl,hj.1.finA ha hb (by simpa using z)⟩⟩)) (fun po na hj z1=>by simp only [beq_iff_eq] at z1;exact ⟨hj.1,by omega,by omega,by omega,hj.2.2.2⟩)
    rintro po na hh;refine bt fun _ γ=>?_;obtain ⟨Dx,DI,Fg,EI,hq⟩:=hh;refine γ ?_
    refine av (ca (by omega) ?_)
    have G:=Dx.pushB h0 hb (by omega) FI hq
    dsimp +instances only
    try simp only [cZ,dE,dF,du,dG,gR]
    refine dv (fun z=>aB (.inl ⟨_,rfl,.inl ⟨_,_,_,rfl,rfl,G.finL ha hb hl0 (by omega)⟩⟩)) fun hnb1=>av (ca (by omega) (av (iK h0 (ha.at h0 _) hb (by omega) (by omega) ?_ fun E9 FX hA hB=>?_)))
    ·intro i j En hj
     simp only [bj,if_true,Nat.zero_add]
     intro z
     by_cases e:i=j
     ·subst e;exact z
     ·have h1:=gS sb (i:=i) (j:=j) (by omega) (by omega)
      cases e2:lt (pb.getD i 0) (pa.getD (na-1) 0) with
      | true=>rfl
      | false=>rw [O.tr _ _ _ e2 h1] at z;cases z
    dsimp +instances only
    try simp only [cZ,dE,dF,du,dG,gR]
    simp only [bj,if_true,Nat.zero_add] at hA hB
    generalize po.push (pb.getD (nb-1) 0)=po at G ⊢
    clear hq Dx
    have Ek:1<nb-1/\nb-1<=pb.size/\na+(nb-1)+t+2<=pa.size+pb.size:=⟨by omega,by omega,by omega⟩
    generalize nb-1=nb at Ek FX hA hB G ⊢
    generalize Ea:nb-E9=k2
    have hJ:bx n lt pa pb (po++(pb.extract E9 nb).reverse) na E9/\E9<=nb/\nb-E9=k2/\(∀ y∈(pb.toList.take E9).reverse,lt (pa.getD (na-1) 0) y=false):=by
     refine ⟨G.extB hb FX Ek.2.1 fun j h1 h2=>lg O sa Fg (hB j h1 h2),FX,Ea,fun y hy=>?_⟩
     refine bt fun _ γ=>?_;obtain ⟨j,h1,h2,rfl⟩:=jM hy;refine γ ?_
     exact O.as _ _ (hA j h1)
    have hK:¬k2>0->bx n lt pa pb po na nb/\1<nb/\nb<=pb.size/\na+nb+t+2<=pa.size+pb.size/\(∀ y∈(pb.toList.take nb).reverse,lt (pa.getD (na-1) 0) y=false):=fun z=>by
     have e:E9=nb:=by omega
     exact ⟨G,Ek.1,Ek.2.1,Ek.2.2,by have:=hJ.2.2.2;rwa [e] at this⟩
    clear hA hB FX Ea
    generalize po++(pb.extract E9 nb).reverse=Ec at hJ ⊢
    revert hJ
    revert E9
    revert Ec
    refine rS po nb rfl (fun po nb=>bx n lt pa pb po na nb/\1<nb/\nb<=pb.size/\na+nb+t+2<=pa.size+pb.size/\(∀ y∈(pb.toList.take nb).reverse,lt (pa.getD (na-1) 0) y=false)) (fun Ec E9=>bx n lt pa pb Ec na E9/\E9<=nb/\nb-E9=k2/\(∀ y∈(pb.toList.take E9).reverse,lt (pa.getD (na-1) 0) y=false)) hK ?_
     (fun po nb hj z=>aB (.inl ⟨_,rfl,.inl ⟨_,_,_,rfl,rfl,hj.1.finL ha hb hl0 (by simpa using z)⟩⟩)) (fun po nb hj z=>aB (.inl ⟨_,rfl,.inl ⟨_,_,_,rfl,rfl,hj.1.finB ha hb (by simpa using z)⟩⟩)) (fun po nb hj z1 z2=>by simp only [beq_iff_eq] at z1 z2;exact ⟨hj.1,by omega,by omega,by omega,hj.2.2.2⟩)
    rintro po nb hh;refine bt fun _ γ=>?_;obtain ⟨Dx,Dy,FI,EI,hq⟩:=hh;refine γ ?_
    refine av (ca (by omega) ?_)
    have G:=Dx.pushA h0 ha DI Fg hq
    dsimp +instances only
    try simp only [cZ,dE,dF,du,dG,gR]
    exact dv (fun z=>aB (.inl ⟨_,rfl,.inl ⟨_,_,_,rfl,rfl,G.finA ha hb (by omega)⟩⟩)) fun _=>a6 (fun _=>aB (.inl ⟨_,rfl,.inr ⟨_,_,_,_,_,_,_,rfl,rfl,G,by omega,by omega,by omega,by omega,by omega⟩⟩)) (fun _=>aB (.inr ⟨_,rfl,⟨_,_,_,_,_,_,_,rfl,rfl,G,by omega,by omega,by omega,by omega,by omega⟩⟩))
   ·rintro c0 y0 hh;apply hid2 c0 y0;intro _ γ;obtain (⟨po,r,g',rfl,rfl,Dx⟩ | ⟨na,nb,po,mg,ac,bc,g',rfl,rfl,Dx,DI,Fg,Dy,FI,EI⟩):=hh<;>refine γ _ _ ?_
    ·exact aB (.inl ⟨_,rfl,_,_,_,rfl,rfl,Dx⟩)
    dsimp only
    exact av (k8 (aB (.inr ⟨_,rfl,_,_,_,_,_,rfl,rfl,Dx,DI,Fg,Dy,FI,by omega⟩)))
 ·rintro c0 y0 hh;apply hid2 c0 y0;intro _ γ;obtain ⟨na,nb,po,mg,g',rfl,rfl,Dx,DI,Fg,Dy,FI,EI⟩:=hh;refine γ _ _ ?_
  exfalso
  omega
 ·rintro c0 y0 hh;apply hid2 c0 y0;intro _ γ;obtain ⟨po,r,g',rfl,rfl,Dx⟩:=hh;refine γ _ _ ?_
  exact aB (h _ _ Dx)
end
def Sg (lt:Nat->Nat->Bool) (p:Array Nat) (i j:Nat):Prop:=∀ a b,i<=a->a<b->b<j->lt (p.getD b 0) (p.getD a 0)=false
def Dg (lt:Nat->Nat->Bool) (p:Array Nat) (i j:Nat):Prop:=∀ a b,i<=a->a<b->b<j->lt (p.getD a 0) (p.getD b 0)=false
structure Kp (p p':Array Nat) (lo hi:Nat):Prop where
 sz:p'.size=p.size
 pm:p'.Perm p
 out:∀ k,k<lo∨hi<=k->p'.getD k 0=p.getD k 0
theorem getD_at {p q:Array Nat} {i j:Nat} (h:p[i]?=q[j]?):p.getD i 0=q.getD j 0:=by
 rw [Array.getD_eq_getD_getElem?,Array.getD_eq_getD_getElem?,h]
theorem eX {p:Array Nat} {i j:Nat} (hj:j<=p.size) (k:Nat):(kas_rev p i j).getD k 0=if i<=k/\k<j then p.getD (i+j-1-k) 0 else p.getD k 0:=by
 have e:=getElem?_mirror_all (xs:=p) (i:=i) hj k
 unfold kas_rev
 split at e<;>rename_i h
 ·rw [if_pos h];exact getD_at e
 ·rw [if_neg h];exact getD_at e
theorem nz {p:Array Nat} {s l:Nat} (hs:s<p.size) (hl:l<=s) (k:Nat):(bubble p s (s-l)).getD k 0=if k=l then p.getD s 0 else if l<k/\k<=s then p.getD (k-1) 0 else p.getD k 0:=by
 have e:=getElem?_bubble hs (s-l) (by (exact Nat.sub_le _ _)) k
 rw [show s-(s-l)=l by (clear hs;omega)] at e
 split at e<;>rename_i h
 ·rw [if_pos h];exact getD_at e
 ·rw [if_neg h]
  split at e<;>rename_i h2
  ·rw [if_pos h2];exact getD_at e
  ·rw [if_neg h2];exact getD_at e
section
variable {n:Nat} {lt:Nat->Nat->Bool} {p p' p'':Array Nat} {lo hi i j k:Nat}
theorem Kp.refl:Kp p p lo hi:=⟨rfl,Array.Perm.refl _,fun _ _=>rfl⟩
theorem Kp.trans (h:Kp p p' lo hi) (h':Kp p' p'' lo hi):Kp p p'' lo hi:=⟨h'.sz.trans h.sz,h'.pm.trans h.pm,fun k hk=>(h'.out k hk).trans (h.out k hk)⟩
theorem Kp.ent (h:Kp p p' lo hi) (e:aT n p):aT n p':=fun x hx=>e x ((Array.perm_iff_toList_perm.mp h.pm).mem_iff.mp hx)
theorem Kp.rev (h1:lo<=i) (h2:j<=hi) (hj:j<=p.size):Kp p (kas_rev p i j) lo hi:=⟨zF _ _ _,mirror_perm _ _ _ _,fun k hk=>by rw [eX hj,if_neg (by (clear hj;omega))]⟩
theorem Kp.bub (h1:lo<=i) (h2:j<hi) (En:i<=j) (hj:j<p.size):Kp p (bubble p j (j-i)) lo hi:=⟨bubble_size _ _ _,bubble_perm _ _ _,fun k hk=>by rw [nz hj En,if_neg (by lia),if_neg (by (clear hj En;lia))]⟩
theorem Sg.out (h:Sg lt p i j) (q:Kp p p' lo hi) (d:j<=lo∨hi<=i):Sg lt p' i j:=fun a b h1 h2 h3=>by
 rw [q.out a (by lia),q.out b (by lia)];exact h a b h1 h2 h3
theorem Sg.snoc (O:ei lt) (h:Sg lt p i j) (e:i<j->lt (p.getD j 0) (p.getD (j-1) 0)=false):Sg lt p i (j+1):=fun a b h1 h2 h3=>by
 by_cases hb:b<j
 ·exact h a b h1 h2 hb
 ·obtain rfl:b=j:=by (clear h2 h1 e;lia)
  by_cases ha:a=b-1
  ·subst ha;exact e (by (exact QN (by assumption) (by assumption)))
  ·exact O.tr _ _ _ (h a (b-1) h1 (by (clear hb h3 e h1;lia)) (by (clear ha hb h3 e h1;lia))) (e (by (exact QN (by assumption) (by assumption))))
theorem Dg.snoc (O:ei lt) (h:Dg lt p i j) (e:i<j->lt (p.getD (j-1) 0) (p.getD j 0)=false):Dg lt p i (j+1):=fun a b h1 h2 h3=>by
 by_cases hb:b<j
 ·exact h a b h1 h2 hb
 ·obtain rfl:b=j:=by lia
  by_cases ha:a=b-1
  ·subst ha;exact e (by lia)
  ·exact O.tr _ _ _ (e (by (exact QN (by assumption) (by assumption)))) (h a (b-1) h1 (by lia) (by lia))
theorem Sg.one:Sg lt p i (i+1):=fun a b h1 h2 h3=>by omega
theorem Dg.one:Dg lt p i (i+1):=fun a b h1 h2 h3=>by omega
theorem Sg.rev (h:Sg lt p i j) (hj:j<=p.size):Dg lt (kas_rev p i j) i j:=fun a b h1 h2 h3=>by
 rw [eX hj,eX hj,if_pos (by (clear hj;lia)),if_pos (by (clear hj;lia))]
 exact h _ _ (by (clear h2 h1 hj;lia)) (by (clear h1 hj;lia)) (by (clear h2 hj;lia))
theorem Dg.rev (h:Dg lt p i j) (hj:j<=p.size):Sg lt (kas_rev p i j) i j:=fun a b h1 h2 h3=>by
 rw [eX hj,eX hj,if_pos (by lia),if_pos (by lia)]
 exact h _ _ (by lia) (by lia) (by lia)
theorem Dg.tail (h:Dg lt p i j) (t:Sg lt p k j) (hk:i<=k) (hj:j<=p.size):Dg lt (kas_rev p k j) i j:=fun a b h1 h2 h3=>by
 rw [eX hj,eX hj]
 by_cases ha:k<=a
 ·rw [if_pos (by (clear h1 hj hk;omega)),if_pos (by (clear h1 hj hk;omega))]
  exact t _ _ (by (clear ha h2 h1 hj hk;omega)) (by (clear ha h1 hj hk;omega)) (by (clear h2 h1 hj hk;omega))
 ·rw [if_neg (by (clear h3 h2 h1 hj hk;omega))]
  by_cases hb:k<=b
  ·rw [if_pos (by (solve_by_elim (maxDepth:=4) only [*,QI,QY,Nat.succ_le_of_lt,Qf]))];exact h _ _ h1 (by (clear hb h2 h1 hj hk;omega)) (by (clear ha h2 h1 hj hk;omega))
  ·rw [if_neg (by (clear ha h3 h2 h1 hj hk;omega))];exact h _ _ h1 h2 h3
end
section
variable {n:Nat} {lt:Nat->Nat->Bool} {p:Array Nat} {Dh:Array (Nat × Nat × Nat)} {g:Nat}
theorem nA {α:Type} {c:Prop} {inst:Ev->Decidable c} {q r:Ev->StateT SortSt Sem α} {R:(Ev->α)->(Ev->SortSt)->Prop} (C:Array Nat->Prop) (c0:¬c->C p) (h:∀ p',C p'->aH n lt q (aq p' Dh g) R) (h1:c->(∀ p',C p'->aH n lt q (aq p' Dh g) R)->aH n lt r (aq p Dh g) R):aH n lt (fun e=>@ite _ c (inst e) (r e) (q e)) (aq p Dh g) R :=
 a6 (fun z=>h1 z h) (fun z=>h p (c0 z))
theorem zM {lo m:Nat} {R:(Ev->Option Nat)->(Ev->SortSt)->Prop} (O:ei lt) (h0:0<n) (hp:aT n p) (hm:0<m) (Dk:lo+m<=p.size) (h:∀ p' k,Kp p p' lo (lo+m)->0<k->k<=m->Sg lt p' lo (lo+k)->(Sg lt p lo (lo+m)->p'=p/\k=m)->R (fun _=>some k) (aq p' Dh g)) :
  aH n lt (fun _=>countRun' lo m) (aq p Dh g) R:=by
 refine av (aH.mono (cw (fun i c y=>∃ k,c=(fun _=>(none,k))/\y=aq p Dh g/\0<k/\k=i/\Sg lt p lo (lo+k)) (fun c y=>∃ k,c=(fun _=>(none,k))/\y=aq p Dh g/\0<k/\k<=m/\Sg lt p lo (lo+k)/\(k<m->lt (p.getD (lo+k) 0) (p.getD (lo+k-1) 0)=true)) ?_ ?_ ⟨_,rfl,rfl,by (exact Nat.lt_succ_self _),by (rfl),Sg.one⟩) ?_)
 ·rintro i c0 y0 _ _ hh;apply hid2 c0 y0;intro _ γ;obtain ⟨k,rfl,rfl,h1,h2,hS⟩:=hh;refine γ _ _ ?_
  refine av (iJ h0 hp (by dsimp only;(clear h1 h hm h0;lia)) (by dsimp only;(clear h1 h hm h0;lia)) ?_)
  dsimp only
  exact a6 (fun z=>aB (.inl ⟨_,rfl,_,rfl,rfl,h1,by (clear h1 h Dk hm h0;lia),hS,fun _=>z⟩)) (fun z=>aB (.inr ⟨_,rfl,_,rfl,rfl,by (exact Nat.lt_succ_of_lt (by assumption)),by (clear z h1 h Dk hm h0;lia),hS.snoc O fun _=>by simpa using z⟩))
 ·rintro c0 y0 hh;apply hid2 c0 y0;intro _ γ;obtain ⟨k,rfl,rfl,h1,h2,hS⟩:=hh;refine γ _ _ ?_
  exact ⟨k,rfl,rfl,h1,by (clear h1 h Dk h0;lia),hS,fun z=>by lia⟩
 rintro c0 y0 hh;apply hid2 c0 y0;intro _ γ;obtain ⟨k,rfl,rfl,h1,h2,hS,hx⟩:=hh;refine γ _ _ ?_
 dsimp only
 refine dv (fun e=>aB (h _ _ Kp.refl h1 h2 hS fun _=>⟨rfl,e⟩)) fun Dp=>?_
 have hx:=hx (by (clear hx h1 h Dk hm h0;lia))
 have no:¬Sg lt p lo (lo+m):=fun q=>by have:=q (lo+k-1) (lo+k) (by (clear Dp h2 h Dk hm h0;lia)) (by (clear Dp h2 h Dk hm h0;lia)) (by (clear h1 h Dk hm h0;lia));rw [hx] at this;cases this
 refine nA (fun p'=>Kp p p' lo (lo+m)/\Dg lt p' lo (lo+k+1)) (fun hk=>⟨Kp.refl,?_⟩) ?_ (fun hk key=>av (iJ h0 hp (by (clear key hk no Dp h2 h1 h h0;lia)) (by (clear key hk no Dp h1 h h0;lia)) ?_))
 ·obtain rfl:k=1:=by (clear no Dp h2 h Dk hm h0;lia)
  exact Dg.one.snoc O fun _=>O.as _ _ hx
 rotate_left
 ·dsimp only
  refine a6 (fun _=>aB (h _ _ Kp.refl h1 h2 hS fun q=>absurd q no)) (fun z=>av (k7 (key _ ⟨Kp.rev (Qf _) (by (clear z key hk no Dp h1 h Dk hm h0;lia)) (by (clear z key hk no Dp h1 h hm h0;lia)),?_⟩)))
  refine (hS.rev (by lia)).snoc O fun _=>?_
  rw [eX (by lia),eX (by lia),if_pos (by (clear z key hk no Dp h2 h1 h Dk hm h0;lia)),if_neg (by (simp;done)),show lo+(lo+k)-1-(lo+k-1)=lo by (clear z key hk no Dp h2 h1 h Dk hm h0;lia)]
  exact O.tr _ _ _ (O.as _ _ hx) (by simpa using z)
 rintro p1 ⟨DG,hD1⟩
 refine av (iI ?_)
 refine av (aH.mono (cw (fun i c y=>∃ p' j q,c=(fun _=>(none,j,q))/\y=aq p' Dh g/\Kp p p' lo (lo+m)/\j=i/\q+1<=j/\Dg lt p' lo (lo+j)/\Sg lt p' (lo+j-(q+1)) (lo+j))
  (fun c y=>∃ p' j q,c=(fun _=>(none,j,q))/\y=aq p' Dh g/\Kp p p' lo (lo+m)/\j<=m/\q+1<=j/\Dg lt p' lo (lo+j)/\Sg lt p' (lo+j-(q+1)) (lo+j)) ?_ ?_ ⟨_,_,_,rfl,rfl,DG,by (rfl),by (exact Nat.lt_succ_of_lt (by assumption)),hD1,fun a b h1 h2 h3=>by (clear no Dp h Dk hm h0;lia)⟩) ?_)
 ·rintro i c0 y0 _ _ hh;apply hid2 c0 y0;intro _ γ;obtain ⟨p2,j,q,rfl,rfl,Dq,h3,h4,hD,hS⟩:=hh;refine γ _ _ ?_
  have Ff:=Dq.ent hp
  have DH:=Dq.sz
  dsimp only
  refine av (iJ h0 Ff (by (clear h4 no Dp h2 h1 h hm h0;lia)) (by (clear h4 no Dp h2 h1 h hm h0;lia)) ?_)
  dsimp only
  refine a6 (fun z=>nA (fun p'=>Kp p p' lo (lo+m)/\Dg lt p' lo (lo+j+1)) (fun _=>⟨Dq,hD.snoc O fun _=>O.as _ _ z⟩) (fun p' EJ=>aB (.inr ⟨_,rfl,_,_,_,rfl,rfl,EJ.1,by (clear EJ DH h4 no Dp h2 h1 h Dk hm h0;lia),by (exact Nat.le_add_left _ _),EJ.2,fun a b h1 h2 h3=>by (clear EJ DH h4 no Dp h Dk hm h0;lia)⟩)) (fun _ key=>av (k7 (key _ ⟨Dq.trans (Kp.rev (by (clear key DH h3 no Dp h2 h1 h Dk hm h0;lia)) (by (clear key DH h4 no Dp h2 h1 h Dk hm h0;lia)) (by (clear key h4 no Dp h2 h1 h hm h0;lia))),?_⟩)))) (fun z=>?_)
  ·refine (hD.tail hS (by lia) (by lia)).snoc O fun _=>?_
   rw [eX (by lia),eX (by lia),if_pos (by (clear key DH h4 h3 no Dp h2 h1 h Dk hm h0;lia)),if_neg (by (simp;done)),show lo+j-(q+1)+(lo+j)-1-(lo+j-1)=lo+j-(q+1) by (clear key DH h4 h3 no Dp h2 h1 h Dk hm h0;lia)]
   by_cases hq:q=0
   ·subst hq;exact O.as _ _ z
   ·exact O.tr _ _ _ (O.as _ _ z) (hD _ _ (by lia) (by (clear hq key DH h4 no Dp h2 h Dk hm h0;lia)) (by (clear hq key DH h4 h3 no Dp h2 h1 h Dk hm h0;lia)))
  refine av (iJ h0 Ff (by lia) (by lia) ?_)
  dsimp only
  exact a6 (fun _=>aB (.inl ⟨_,rfl,_,_,_,rfl,rfl,Dq,by (clear z DH h4 no Dp h2 h1 h Dk hm h0;lia),h4,hD,hS⟩)) (fun z2=>aB (.inr ⟨_,rfl,_,_,_,rfl,rfl,Dq,by lia,by (exact Nat.lt_succ_of_le (by assumption)),hD.snoc O fun _=>by simpa using z2,by
   rw [show lo+(j+1)-(q+1+1)=lo+j-(q+1) by lia]
   exact hS.snoc O fun _=>by simpa using z⟩))
 ·rintro c0 y0 hh;apply hid2 c0 y0;intro _ γ;obtain ⟨p2,j,q,rfl,rfl,Dq,h3,h4,hD,hS⟩:=hh;refine γ _ _ ?_
  exact ⟨p2,j,q,rfl,rfl,Dq,by (clear h4 no h1 h Dk hm h0;lia),h4,hD,hS⟩
 rintro c0 y0 hh;apply hid2 c0 y0;intro _ γ;obtain ⟨p2,j,q,rfl,rfl,Dq,h3,h4,hD,hS⟩:=hh;refine γ _ _ ?_
 have DH:=Dq.sz
 dsimp only
 refine nA (fun p'=>Kp p p' lo (lo+m)/\Dg lt p' lo (lo+j)) (fun _=>⟨Dq,hD⟩) ?_ (fun _ key=>av (k7 (key _ ⟨Dq.trans (Kp.rev (by (clear key DH h3 no Dp h2 h1 h Dk hm h0;lia)) (by (clear key DH h4 no Dp h2 h1 h Dk hm h0;lia)) (by (clear key h4 no Dp h2 h1 h hm h0;lia))),hD.tail hS (by lia) (by lia)⟩)))
 rintro p3 ⟨Dn,hD3⟩
 have FF:=Dn.sz
 refine av (k7 ?_)
 have Dz:Kp p (kas_rev p3 lo (lo+j)) lo (lo+m):=Dn.trans (Kp.rev (Qf _) (by (clear FF DH h4 no Dp h2 h1 h Dk hm h0;lia)) (by (clear DH h4 no Dp h2 h1 h hm h0;lia)))
 have hS4:=hD3.rev (by lia)
 generalize kas_rev p3 lo (lo+j)=p4 at Dz hS4 ⊢
 have hs4:=Dz.sz
 have hp4:=Dz.ent hp
 refine av (aH.mono (cw (fun i c y=>∃ k,c=(fun _=>(none,k))/\y=aq p4 Dh g/\0<k/\k=i/\Sg lt p4 lo (lo+k)) (fun c y=>∃ k,c=(fun _=>(none,k))/\y=aq p4 Dh g/\0<k/\k<=m/\Sg lt p4 lo (lo+k)) ?_ ?_ ⟨_,rfl,rfl,by (clear hs4 FF DH h3 no Dp h2 h1 h Dk hm h0;lia),by (rfl),hS4⟩) ?_)
 ·rintro i c0 y0 _ _ hh;apply hid2 c0 y0;intro _ γ;obtain ⟨k,rfl,rfl,h1,h2,hS⟩:=hh;refine γ _ _ ?_
  refine av (iJ h0 hp4 (by dsimp only;(clear h1 FF DH h4 h3 no Dp h hm h0;lia)) (by dsimp only;(clear h1 FF DH h4 h3 no Dp h hm h0;lia)) ?_)
  dsimp only
  exact a6 (fun _=>aB (.inl ⟨_,rfl,_,rfl,rfl,h1,by (clear h1 hs4 FF DH h4 h3 no Dp h Dk hm h0;lia),hS⟩)) (fun z=>aB (.inr ⟨_,rfl,_,rfl,rfl,by (exact Nat.lt_succ_of_lt (by assumption)),by (clear z h1 hs4 FF DH h4 h3 no Dp h Dk hm h0;lia),hS.snoc O fun _=>by simpa using z⟩))
 ·rintro c0 y0 hh;apply hid2 c0 y0;intro _ γ;obtain ⟨k,rfl,rfl,h1,h2,hS⟩:=hh;refine γ _ _ ?_
  exact ⟨k,rfl,rfl,h1,by (clear h1 hs4 FF DH h4 no Dp h Dk hm h0;lia),hS⟩
 rintro c0 y0 hh;apply hid2 c0 y0;intro _ γ;obtain ⟨k,rfl,rfl,h1,h2,hS⟩:=hh;refine γ _ _ ?_
 exact aB (h _ _ Dz h1 h2 hS fun q=>absurd q no)
theorem zO {lo m ok:Nat} {R:(Ev->Bool)->(Ev->SortSt)->Prop} (O:ei lt) (h0:0<n) (hp:aT n p) (Dk:lo+m<=p.size) (hok:0<ok) (hm:ok<=m) (Gy:Sg lt p lo (lo+ok)) (h:∀ p',Kp p p' lo (lo+m)->Sg lt p' lo (lo+m)->(ok=m->p'=p)->R (fun _=>true) (aq p' Dh g)) :
  aH n lt (fun _=>binarySort' lo m ok) (aq p Dh g) R:=by
 refine av (aH.mono (cw (fun i c y=>∃ p',c=(fun _=>(none,()))/\y=aq p' Dh g/\Kp p p' lo (lo+m)/\Sg lt p' lo (lo+i)/\(i<=ok->p'=p)) (fun c y=>∃ p',c=(fun _=>(none,()))/\y=aq p' Dh g/\Kp p p' lo (lo+m)/\Sg lt p' lo (lo+m)/\(ok=m->p'=p)) ?_ ?_ ⟨_,rfl,rfl,Kp.refl,by rw [show max ok 1=ok by (clear h hm Dk h0;omega)];exact Gy,fun _=>rfl⟩) ?_)
 ·rintro i c0 y0 DR hi hh;apply hid2 c0 y0;intro _ γ;obtain ⟨p1,rfl,rfl,DG,Gp,_⟩:=hh;refine γ _ _ ?_
  have EG:=DG.ent hp
  have DB:=DG.sz
  dsimp only
  refine av (aH.mono (cw (fun t c y=>∃ l r,c=(fun _=>(none,l,r))/\y=aq p1 Dh g/\l<=r/\r<=i/\r-l<=i-t/\(∀ a,a<l->lt (p1.getD (lo+i) 0) (p1.getD (lo+a) 0)=false)/\(∀ a,r<=a->a<i->lt (p1.getD (lo+i) 0) (p1.getD (lo+a) 0)=true))
   (fun c y=>∃ l r:Nat,c=(fun _=>(none,l,r))/\y=aq p1 Dh g/\l<=i/\(∀ a,a<l->lt (p1.getD (lo+i) 0) (p1.getD (lo+a) 0)=false)/\(∀ a,l<=a->a<i->lt (p1.getD (lo+i) 0) (p1.getD (lo+a) 0)=true)) ?_ ?_ ⟨_,_,rfl,rfl,Qu _,Qf _,by (exact Nat.sub_le _ _),fun a h=>by (contradiction),fun a h1 h2=>by (clear DB hi DR h hm hok Dk h0;omega)⟩) ?_)
  ·rintro k c0 y0 _ hk hh;apply hid2 c0 y0;intro _ γ;obtain ⟨l,r,rfl,rfl,h1,h2,h3,hA,hB⟩:=hh;refine γ _ _ ?_
   dsimp only
   refine a6 (fun z=>aB (.inl ⟨_,rfl,_,_,rfl,rfl,by (exact QC (by assumption) (by assumption)),hA,fun a q=>hB a (by (exact QC (by assumption) (by assumption)))⟩)) (fun hlr=>av (iJ h0 EG (by (clear hlr hB hA h3 h2 h1 hk DR h hm hok h0;omega)) (by (clear hlr hB hA h3 hk DR h hm hok h0;omega)) ?_))
   dsimp only
   refine a6 (fun z=>aB (.inr ⟨_,rfl,_,_,rfl,rfl,by (clear hlr hB hA h3 h2 hk DB hi DR h hm hok Dk h0;omega),by (clear hlr hB hA h3 hk DB hi DR h hm hok Dk h0;omega),by (clear hlr hB hA h2 h1 hk DB hi DR h hm hok Dk h0;omega),hA,fun a q1 q2=>?_⟩)) (fun z=>aB (.inr ⟨_,rfl,_,_,rfl,rfl,by (clear z hB hA h3 h2 h1 hk DB hi DR h hm hok Dk h0;omega),by (assumption),by (clear z hlr hB hA h2 h1 hk DB hi DR h hm hok Dk h0;omega),fun a q1=>?_,hB⟩))
   ·by_cases e:a=(l+r) / 2
    ·subst e;exact z
    ·cases e2:lt (p1.getD (lo+i) 0) (p1.getD (lo+a) 0) with
     | true=>rfl
     | false=>rw [O.tr _ _ _ (Gp (lo+(l+r) / 2) (lo+a) (by (exact Nat.le_add_right _ _)) (by (clear q2 hlr hB hA h3 h2 h1 hk DB hi DR h hm hok Dk h0;omega)) (by (clear e q1 hlr hB hA h3 h2 h1 hk DB hi DR h hm hok Dk h0;omega))) e2] at z;cases z
   ·by_cases e:a=(l+r) / 2
    ·subst e;simpa using z
    ·exact O.tr _ _ _ (Gp (lo+a) (lo+(l+r) / 2) (by (exact Nat.le_add_right _ _)) (by (clear z hlr hB hA h3 h2 h1 hk DB hi DR h hm hok Dk h0;omega)) (by (clear e q1 z hB hA h3 h1 hk DB hi DR h hm hok Dk h0;omega))) (by simpa using z)
  ·rintro c0 y0 hh;apply hid2 c0 y0;intro _ γ;obtain ⟨l,r,rfl,rfl,h1,h2,h3,hA,hB⟩:=hh;refine γ _ _ ?_
   exact ⟨l,r,rfl,rfl,by (exact QC (by assumption) (by assumption)),hA,fun a q=>hB a (by (clear hB hA h2 h1 DB hi DR h hm hok Dk h0;omega))⟩
  rintro c0 y0 hh;apply hid2 c0 y0;intro _ γ;obtain ⟨l,r,rfl,rfl,hl,hA,hB⟩:=hh;refine γ _ _ ?_
  dsimp only
  refine av (zA (aB (.inr ⟨_,rfl,_,rfl,rfl,DG.trans (Kp.bub (by (exact Nat.le_add_right _ _)) (by (clear hB hA hl DB DR h hm hok Dk h0;omega)) (by (clear hB hA DB hi DR h hm hok Dk h0;omega)) (by (clear hB hA hl DR h hm hok h0;omega))),fun a b h1 h2 h3=>?_,fun q=>absurd q (by (clear q hB hA hl DB hi h hm hok Dk h0;omega))⟩)))
  rw [nz (by omega) (by (clear h3 h2 h1 hB hA DB hi DR h hm hok Dk h0;omega)),nz (by omega) (by omega)]
  have key:∀ a,lo<=a->a<lo+l->lt (p1.getD (lo+i) 0) (p1.getD a 0)=false:=fun a q1 q2=>by have:=hA (a-lo) (by (clear h3 h2 h1 hB hA hl DB hi DR h hm hok Dk h0;omega));rwa [show lo+(a-lo)=a by (clear q2 h3 h2 h1 hB hA hl DB hi DR h hm hok Dk h0;omega)] at this
  have DX:∀ a,lo+l<=a->a<lo+i->lt (p1.getD (lo+i) 0) (p1.getD a 0)=true:=fun a q1 q2=>by have:=hB (a-lo) (by (clear q2 key h3 h2 h1 hB hA hl DB hi DR h hm hok Dk h0;omega)) (by omega);rwa [show lo+(a-lo)=a by (clear q2 key h3 h2 h1 hB hA hl DB hi DR h hm hok Dk h0;omega)] at this
  by_cases ea:a=lo+l
  ·rw [if_pos ea,if_neg (by (clear DX key h3 h1 hB hA hl DB hi DR h hm hok Dk h0;omega)),if_pos (by (clear DX key h1 hB hA hl DB hi DR h hm hok Dk h0;omega))]
   exact O.as _ _ (DX _ (by (clear DX key h3 h1 hB hA hl DB hi DR h hm hok Dk h0;omega)) (by (clear ea DX key h2 h1 hB hA hl DB hi h hm hok Dk h0;omega)))
  ·rw [if_neg ea]
   by_cases eb:b=lo+l
   ·rw [if_pos eb,if_neg (by (clear ea DX key h3 h1 hB hA hl DB hi DR h hm hok Dk h0;omega))]
    exact key a h1 (by (clear ea DX key h3 h1 hB hA hl DB hi DR h hm hok Dk h0;omega))
   ·rw [if_neg eb]
    by_cases ha:lo+l<a
    ·rw [if_pos (by (clear eb ea DX key h1 hB hA hl DB hi DR h hm hok Dk h0;omega)),if_pos (by (clear eb ea DX key h1 hB hA hl DB hi DR h hm hok Dk h0;omega))]
     exact Gp _ _ (by (clear eb ea DX key h3 h2 h1 hB hA hl DB hi DR h hm hok Dk h0;omega)) (by (clear eb ea DX key h3 h1 hB hA hl DB hi DR h hm hok Dk h0;omega)) (by omega)
    ·rw [if_neg (show ¬(lo+l<a/\a<=lo+i) by (clear eb ea DX key h3 h2 h1 hB hA hl DB hi DR h hm hok Dk h0;omega))]
     by_cases hb:lo+l<b
     ·rw [if_pos (by (clear ha eb ea DX key h2 h1 hB hA hl DB hi DR h hm hok Dk h0;omega))];exact Gp _ _ (by (assumption)) (by (clear eb DX key h3 h2 h1 hB hA hl DB hi DR h hm hok Dk h0;omega)) (by omega)
     ·rw [if_neg (by (clear ha eb ea DX key h3 h2 h1 hB hA hl DB hi DR h hm hok Dk h0;omega))];exact Gp _ _ (by (assumption)) (by (assumption)) (by (clear ha ea DX key h3 h2 h1 hB hA DB hi DR h hm hok Dk h0;omega))
 ·rintro c0 y0 hh;apply hid2 c0 y0;intro _ γ;obtain ⟨p1,rfl,rfl,DG,Gp,he⟩:=hh;refine γ _ _ ?_
  exact ⟨p1,rfl,rfl,DG,by rwa [show max (max ok 1) m=m by (clear he h Dk h0;omega)] at Gp,fun q=>he (by (clear he h hm Dk h0;omega))⟩
 rintro c0 y0 hh;apply hid2 c0 y0;intro _ γ;obtain ⟨p1,rfl,rfl,DG,Gp,he⟩:=hh;refine γ _ _ ?_
 exact aB (h _ DG Gp he)
end
theorem rY (s:Nat):∀ (po:List Nat) (k:Nat) (p:Array Nat) (j:Nat),s+k+po.length<=p.size->(putN po k s p).getD j 0=if s+k<=j/\j<s+k+po.length then po.getD (j-(s+k)) 0 else p.getD j 0
 | [],k,p,j,h=>by rw [if_neg (fun q=>by have:=q.2;simp at this;(clear h;lia))];rfl
 | a::po,k,p,j,h=>by
  show (putN po (k+1) s (p.setIfInBounds (s+k) a)).getD j 0=_
  rw [QR] at h ⊢
  rw [rY s po (k+1) _ j (by rw [Array.size_setIfInBounds];lia)]
  by_cases h1:j=s+k
  ·subst h1
   rw [if_neg (by (clear h;lia)),if_pos (by (simp;done))]
   simp [Array.getD,show s+k<p.size by lia]
  ·have e:(p.setIfInBounds (s+k) a).getD j 0=p.getD j 0:=getD_at (by rw [Array.getElem?_setIfInBounds];rw [if_neg (by (solve_by_elim (maxDepth:=4) only [*,QI,QY,Nat.succ_le_of_lt,Qf]))])
   rw [e]
   by_cases h2:s+k<=j/\j<s+k+(po.length+1)
   ·rw [if_pos h2,if_pos (by (clear e h;lia)),show j-(s+k)=(j-(s+(k+1)))+1 by (clear e h;lia),List.getD_cons_succ]
   ·rw [if_neg h2,if_neg (by (clear e h1 h;lia))]
theorem rZ (s:Nat):∀ (po:List Nat) (k:Nat) (p:Array Nat),s+k+po.length<=p.size->(putN po k s p).toList=p.toList.take (s+k)++po++p.toList.drop (s+k+po.length)
 | [],k,p,h=>by simp [putN]
 | a::po,k,p,h=>by
  show (putN po (k+1) s (p.setIfInBounds (s+k) a)).toList=_
  rw [QR] at h ⊢
  rw [rZ s po (k+1) _ (by rw [Array.size_setIfInBounds];lia),Array.toList_setIfInBounds,List.set_eq_take_append_cons_drop,if_pos (by simp;lia)]
  have hl:(p.toList.take (s+k)).length=s+k:=by rw [QD,QA];lia
  have e1:(p.toList.take (s+k)++a::p.toList.drop (s+k+1)).take (s+(k+1))=p.toList.take (s+k)++[a]:=by
   rw [show s+(k+1)=(p.toList.take (s+k)).length+1 by (clear h;lia),List.take_length_add_append]
   simp
  have e2:(p.toList.take (s+k)++a::p.toList.drop (s+k+1)).drop (s+(k+1)+po.length)=p.toList.drop (s+k+(po.length+1)):=by
   rw [show s+(k+1)+po.length=(p.toList.take (s+k)).length+(1+po.length) by (clear h;lia),List.drop_length_add_append,show 1+po.length=po.length+1 by (simp only [Nat.add_comm];done),List.drop_succ_cons,List.drop_drop]
   congr 1
   (clear hl h;lia)
  rw [e1,e2]
  simp
theorem Ch.ge:∀ {s:Nat} {l:List (Nat × Nat × Nat)} {e:Nat},Ch s l e->∀ x∈l,s<=x.1
 | s,[],e,h,x,hx=>by simp at hx
 | s,(a,k,u)::l,e,h,x,hx=>by
  obtain ⟨rfl,hk,h⟩:=h
  rcases Qn hx with z | z
  ·subst z;exact Qf _
  ·exact QC (Nat.le_add_right _ _) (h.ge x z)
theorem Ch.two2 {S S':Nat × Nat × Nat->Prop}:∀ {s:Nat} {l:List (Nat × Nat × Nat)} {e:Nat} (i a k u m v:Nat),Ch s l e->l[i]?=some (a,k,u)->l[i+1]?=some (a+k,m,v)->(∀ x∈l,S x)->(∀ x,S x->(x.1+x.2.1<=a∨a+k+m<=x.1)->S' x)->S' (a,k+m,u) ->
  ∀ x∈(l.set i (a,k+m,u)).eraseIdx (i+1),S' x
 | s,[],e,i,a,k,u,m,v,h,h1,h2,hS,hk,hn,x,hx=>by simp at h1
 | s,[y],e,i,a,k,u,m,v,h,h1,h2,hS,hk,hn,x,hx=>by cases i<;>simp at h1 h2
 | s,(a',k',u')::(b',m',v')::l,e,0,a,k,u,m,v,h,h1,h2,hS,hk,hn,x,hx=>by
  have e1:=Qq (show some (a',k',u')=some (a,k,u) from h1)
  have e2:=Qq (show some (b',m',v')=some (a+k,m,v) from h2)
  simp only [Prod.mk.injEq] at e1 e2
  obtain ⟨g1,g2,g3,g4,h⟩:=h
  have hx:x∈(a,k+m,u)::l:=hx
  rcases Qn hx with z | z
  ·subst z;exact hn
  ·refine hk x (hS x (by simp [z])) (.inr ?_)
   have:=h.ge x z
   lia
 | s,(a',k',u')::y::l,e,i+1,a,k,u,m,v,h,h1,h2,hS,hk,hn,x,hx=>by
  obtain ⟨rfl,FX,h⟩:=h
  have hx:x∈(a',k',u')::((y::l).set i (a,k+m,u)).eraseIdx (i+1):=hx
  rcases Qn hx with z | z
  ·subst z
   refine hk _ (hS _ (by simp)) (.inl ?_)
   have F0:(y::l)[i]?=some (a,k,u):=h1
   exact h.ge _ (Qh F0)
  ·exact Ch.two2 i a k u m v h h1 h2 (fun x hx=>hS x (Qy _ hx)) hk hn x z
theorem nB {p:Array Nat} {i j k:Nat} (hj:j<=p.size) (hk:i+k<j):(p.extract i j).getD k 0=p.getD (i+k) 0:=by
 have h1:k<(p.extract i j).size:=by simp;lia
 simp [Array.getD,show k<min j p.size-i by lia,show i+k<p.size by (exact QI (by assumption) (by assumption))]
theorem Sg.asc {lt:Nat->Nat->Bool} {p:Array Nat} {i j:Nat} (h:Sg lt p i j) (hj:j<=p.size):bJ lt (p.extract i j).toList:=by
 refine List.pairwise_iff_getElem.mpr fun a b ha hb hab=>?_
 simp at ha hb
 have:=h (i+a) (i+b) (by (exact Nat.le_add_right _ _)) (by (clear hb ha hj;omega)) (by (clear ha hab hj;omega))
 simpa [Array.getD,show i+a<p.size by omega,show i+b<p.size by omega] using this
def Rs (lt:Nat->Nat->Bool) (p:Array Nat) (l:List (Nat × Nat × Nat)):Prop:=∀ x∈l,Sg lt p x.1 (x.1+x.2.1)
section
variable {n:Nat} {lt:Nat->Nat->Bool} {p:Array Nat} {Dh:Array (Nat × Nat × Nat)} {g:Nat}
theorem zP (O:ei lt) {sa na nb k k2:Nat} {po:Array Nat} (hz:sa+na+nb<=p.size) (hk:k<na) (Dq:0<k2) (Dn:k2<=nb) (sA:Sg lt p sa (sa+na)) (sB:Sg lt p (sa+na) (sa+na+nb))
  (hA:∀ i,i<k->lt (p.getD (sa+na) 0) (p.getD (sa+i) 0)=false) (hB:∀ i,k2<=i->i<nb->lt (p.getD (sa+na+i) 0) (p.getD (sa+na-1) 0)=false)
  (G:GF n lt ((p.extract (sa+k) (sa+na)).toList++(p.extract (sa+na) (sa+na+k2)).toList) po) :
  Kp p (putN po.toList 0 (sa+k) p) sa (sa+na+nb)/\Sg lt (putN po.toList 0 (sa+k) p) sa (sa+na+nb):=by
 have hl:po.toList.length=na-k+k2:=by
  rw [G.mf.pm.length_eq,QK,QA,QA,Array.size_extract,Array.size_extract,Nat.min_eq_left (QC (Nat.le_add_right _ nb) hz),Nat.min_eq_left (QC (Nat.add_le_add_left Dn _) hz),Nat.add_sub_add_left,Nat.add_sub_cancel_left]
 have at_:∀ j,(putN po.toList 0 (sa+k) p).getD j 0=if sa+k<=j/\j<sa+na+k2 then po.getD (j-(sa+k)) 0 else p.getD j 0:=fun j=>by
  rw [rY (sa+k) po.toList 0 p j (by lia)]
  by_cases h:sa+k<=j/\j<sa+na+k2
  ·rw [if_pos h,if_pos (by (clear hB hA Dn Dq hk hz;lia)),Nat.add_zero]
   have h2:j-(sa+k)<po.size:=by rw [<- QA];(clear hB hA Dn Dq hk hz;lia)
   simp [Array.getD,List.getD,h2]
  ·rw [if_neg h,if_neg (by (clear hB hA Dn Dq hz;lia))]
 have mem:∀ j,sa+k<=j->j<sa+na+k2->∃ i,sa+k<=i/\i<sa+na+k2/\po.getD (j-(sa+k)) 0=p.getD i 0:=fun j h1 h2=>by
  have h3:j-(sa+k)<po.size:=by rw [<- QA];(clear h1 at_ hB hA Dn Dq hz;lia)
  have hm:po.getD (j-(sa+k)) 0∈po.toList:=by simp [Array.getD,h3]
  rcases Qw (G.mf.pm.mem_iff.mp hm) with z | z
  ·rw [show sa+na=sa+k+(na-k) by (clear h3 h2 h1 at_ hl hB hA Dn Dq hz;lia)] at z
   obtain ⟨i,q1,q2,q3⟩:=jK z
   exact ⟨sa+k+i,by (exact Nat.le_add_right _ _),by (clear q3 q2 h3 h2 h1 at_ hl hB hA Dn Dq hk hz;lia),q3⟩
  ·obtain ⟨i,q1,q2,q3⟩:=jK z
   exact ⟨sa+na+i,by (clear q3 q2 q1 h3 h2 h1 at_ hl hB hA Dn Dq hz;lia),by (clear q3 q2 h3 h2 h1 at_ hl hB hA Dn Dq hk hz;lia),q3⟩
 have ER:∀ a i,sa<=a->a<sa+k->a<i->i<sa+na+nb->lt (p.getD i 0) (p.getD a 0)=false:=fun a i h1 h2 h3 h4=>by
  by_cases hi:i<sa+na
  ·exact sA a i h1 h3 hi
  ·have e:=hA (a-sa) (by (clear hi h4 h3 mem at_ hl hB hA Dn Dq hk hz;lia))
   rw [show sa+(a-sa)=a by (clear hi h4 h3 h2 mem at_ hl hB hA Dn Dq hk hz;lia)] at e
   by_cases h:i=sa+na
   ·subst h;exact e
   ·exact O.tr _ _ _ e (sB (sa+na) i (Qf _) (by (clear h4 h3 h2 h1 mem at_ hl hB hA Dn Dq hk hz;lia)) h4)
 have D3:∀ b i,sa+na+k2<=b->b<sa+na+nb->sa<=i->i<b->lt (p.getD b 0) (p.getD i 0)=false:=fun b i h1 h2 h3 h4=>by
  by_cases hi:i<sa+na
  ·have e:=hB (b-(sa+na)) (by (clear hi h4 h3 h2 ER mem at_ hl hB hA Dn Dq hk hz;lia)) (by (clear hi h4 h3 h1 ER mem at_ hl hB hA hk hz;lia))
   rw [show sa+na+(b-(sa+na))=b by (clear hi h4 h3 h2 ER mem at_ hl hB hA Dn Dq hk hz;lia)] at e
   by_cases h:i=sa+na-1
   ·subst h;exact e
   ·exact O.tr _ _ _ (sA i (sa+na-1) h3 (by (clear h4 h3 h2 h1 ER mem at_ hl hB hA Dn Dq hk hz;lia)) (by (clear h hi h4 h3 h2 h1 ER mem at_ hl hB hA Dn Dq hz;lia))) e
  ·exact sB i b (by (exact Nat.le_of_not_lt (by assumption))) h4 h2
 refine ⟨⟨rN _ _ _ _,Array.perm_iff_toList_perm.mpr ?_,fun j hj=>by rw [at_,if_neg (by (clear D3 ER mem at_ hl hB hA Dq hk hz;lia))]⟩,fun a b h1 h2 h3=>?_⟩
 ·rw [rZ (sa+k) po.toList 0 p (by lia),Nat.add_zero]
  have e:p.toList=p.toList.take (sa+k)++((p.extract (sa+k) (sa+na)).toList++(p.extract (sa+na) (sa+na+k2)).toList)++p.toList.drop (sa+k+po.toList.length):=by
   have e1:=lc (p:=p) (i:=sa+k) (k:=na-k) (by (clear D3 ER mem at_ hl hB hA Dn Dq;lia))
   rw [show sa+k+(na-k)=sa+na by (clear D3 ER mem at_ hl hB hA Dn Dq hz;lia),lc (p:=p) (i:=sa+na) (k:=k2) (by (clear D3 ER mem at_ hl hB hA Dq hk;lia))] at e1
   rw [hl,show sa+k+(na-k+k2)=sa+na+k2 by lia,QW,QW,<- e1,List.take_append_drop]
  conv=>rhs;rw [e]
  exact List.Perm.append_right _ (List.Perm.append_left _ G.mf.pm)
 ·rw [at_,at_]
  by_cases ha:sa+k<=a/\a<sa+na+k2
  ·rw [if_pos ha]
   by_cases hb:sa+k<=b/\b<sa+na+k2
   ·rw [if_pos hb]
    exact gS G.mf.so (by (clear hb h3 h1 D3 ER mem at_ hl hB hA Dn Dq hk hz;lia)) (by rw [<- QA];(clear ha h3 h2 h1 D3 ER mem at_ hB hA Dn Dq hk hz;lia))
   ·rw [if_neg hb]
    obtain ⟨i,q1,q2,q3⟩:=mem a ha.1 ha.2
    rw [q3]
    exact D3 b i (by (clear q3 q2 q1 h3 h1 D3 ER mem at_ hl hB hA Dn Dq hk hz;lia)) h3 (by (clear q3 q2 hb ha h3 h2 h1 D3 ER mem at_ hl hB hA Dn Dq hk hz;lia)) (by (clear q3 q1 h3 h1 D3 ER mem at_ hl hB hA Dn Dq hk hz;lia))
  ·rw [if_neg ha]
   by_cases hb:sa+k<=b/\b<sa+na+k2
   ·rw [if_pos hb]
    obtain ⟨i,q1,q2,q3⟩:=mem b hb.1 hb.2
    rw [q3]
    exact ER a i h1 (by (clear q3 q2 q1 h3 h1 D3 ER mem at_ hl hB hA Dn Dq hk hz;lia)) (by (clear q3 q2 h3 h1 D3 ER mem at_ hl hB hA Dn Dq hk hz;lia)) (by (clear q3 q1 hb ha h3 h2 h1 D3 ER mem at_ hl hB hA Dq hk hz;lia))
   ·rw [if_neg hb]
    by_cases h:a<sa+k
    ·exact ER a b h1 h h2 h3
    ·exact D3 b a (by (clear hb h3 h1 D3 ER mem at_ hl hB hA Dn Dq hk hz;lia)) h3 h1 h2
theorem nC {i lo:Nat} {R:(Ev->Bool)->(Ev->SortSt)->Prop} (O:ei lt) (h0:0<n) (hp:aT n p) (hc:Ch 0 Dh.toList lo) (hr:Rs lt p Dh.toList) (Dk:lo<=p.size) (hi:i+1<Dh.size)
  (h:∀ p' pend' g',Kp p p' 0 lo->Ch 0 pend'.toList lo->Rs lt p' pend'.toList->pend'.size+1=Dh.size->R (fun _=>true) (aq p' pend' g')):aH n lt (fun _=>mergeAt' i) (aq p Dh g) R:=by
 obtain ⟨sa,na,u,nb,v,e1,e2,DI,Dy,Ei,E7⟩:=hc.two i (by simpa using hi)
 have sA:=hr _ (Qh e1)
 have sB:=hr _ (Qh e2)
 dsimp only at sA sB
 have e3:((Dh.setIfInBounds i (sa,na+nb,u)).eraseIdxIfInBounds (i+1)).toList=(Dh.toList.set i (sa,na+nb,u)).eraseIdx (i+1):=by simp
 have DQ:∀ p',Kp p p' sa (sa+na+nb)->Sg lt p' sa (sa+na+nb)->Rs lt p' ((Dh.setIfInBounds i (sa,na+nb,u)).eraseIdxIfInBounds (i+1)).toList:=fun p' hk hS=>by
  rw [e3]
  exact Ch.two2 (S:=fun x=>Sg lt p x.1 (x.1+x.2.1)) (S':=fun x=>Sg lt p' x.1 (x.1+x.2.1)) i sa na u nb v hc e1 e2 hr (fun x hx d=>hx.out hk d) (by show Sg lt p' sa (sa+(na+nb));rw [<- Nat.add_assoc];exact hS)
 rw [<- e3] at E7
 have DU:((Dh.setIfInBounds i (sa,na+nb,u)).eraseIdxIfInBounds (i+1)).size+1=Dh.size:=by
  have:((Dh.setIfInBounds i (sa,na+nb,u)).eraseIdxIfInBounds (i+1)).toList.length+1=Dh.size:=by
   rw [e3,List.length_eraseIdx,List.length_set,QA,if_pos hi];(clear DQ Ei Dy DI h Dk h0;lia)
  rwa [QA] at this
 rw [Array.getElem?_toList] at e1 e2
 have up:∀ {p'},Kp p p' sa (sa+na+nb)->Kp p p' 0 lo:=fun q=>⟨q.sz,q.pm,fun k hk=>q.out k (by (clear DU DQ Dy DI h hi Dk h0;lia))⟩
 refine ft ?_
 dsimp only
 simp only [e1,e2]
 refine av (zG ?_)
 generalize (Dh.setIfInBounds i (sa,na+nb,u)).eraseIdxIfInBounds (i+1)=pend' at E7 DQ DU ⊢
 refine av (ca (by (clear DU DQ up DI h hi h0;lia)) (av (iK h0 (hp.at h0 _) hp DI (by (clear DU DQ up Dy DI h hi h0;lia)) ?_ fun k hk hA hB=>?_)))
 ·intro i j En hj
  simp only [bj,QT,if_false,Bool.not_eq_true']
  intro z
  by_cases e:i=j
  ·subst e;exact z
  ·exact O.tr _ _ _ (sA (sa+i) (sa+j) (by (exact Nat.le_add_right _ _)) (by (clear hj DU DQ up Ei Dy DI h hi Dk h0;lia)) (by (clear e En DU DQ up Ei Dy DI h hi Dk h0;lia))) z
 simp only [bj,QT,if_false,Bool.not_eq_true',Bool.not_eq_false'] at hA hB
 dsimp only
 refine dv (fun z=>aB (h _ _ _ Kp.refl E7 (DQ _ Kp.refl ?_) DU)) fun Dq=>av (ca (by (clear Dq hB hA DU DQ up Dy h hi h0;lia)) (av (iK h0 (hp.at h0 _) hp (by (exact Nat.sub_lt_sub_left (by assumption) (Nat.lt_succ_self _))) (by (exact QC (by assumption) (by assumption))) ?_ fun k2 Dn EH Ew=>?_)))
 ·intro a b h1 h2 h3
  by_cases hb:b<sa+na
  ·exact sA a b h1 h2 hb
  ·by_cases ha:a<sa+na
   ·have e:=hA (a-sa) (by (clear hb h3 h2 h1 hB hA hk DU DQ up Ei Dy h hi Dk h0;lia))
    rw [show sa+(a-sa)=a by (clear ha hb h3 h2 z hB hA hk DU DQ up Ei Dy DI h hi Dk h0;lia)] at e
    by_cases q:b=sa+na
    ·subst q;exact e
    ·exact O.tr _ _ _ e (sB (sa+na) b (Qf _) (by (clear ha h3 h2 h1 z hB hA hk DU DQ up Ei Dy DI h hi Dk h0;lia)) h3)
   ·exact sB a b (by (exact Nat.le_of_not_lt (by assumption))) h2 h3
 ·intro i j En hj
  simp only [bj,if_true]
  intro z
  by_cases e:i=j
  ·subst e;exact z
  ·have q1:=sB (sa+na+i) (sa+na+j) (by (exact Nat.le_add_right _ _)) (by (clear hj Dq hB hA hk DU DQ up Ei Dy DI h hi Dk h0;lia)) (by (clear e En Dq hB hA hk DU DQ up Ei Dy DI h hi Dk h0;lia))
   cases e2:lt (p.getD (sa+na+i) 0) (p.getD (sa+k+(na-k)-1) 0) with
   | true=>rfl
   | false=>rw [O.tr _ _ _ e2 q1] at z;cases z
 simp only [bj,if_true] at EH Ew
 rw [show sa+k+(na-k)-1=sa+na-1 by lia] at EH Ew
 dsimp only
 refine dv (fun z=>aB (h _ _ _ Kp.refl E7 (DQ _ Kp.refl ?_) DU)) fun Dz=>?_
 ·intro a b h1 h2 h3
  by_cases hb:b<sa+na
  ·exact sA a b h1 h2 hb
  ·by_cases ha:a<sa+na
   ·have e:=Ew (b-(sa+na)) (by (clear ha hb h3 h2 h1 Ew EH Dn Dq hB hA hk DU DQ up Ei Dy DI h hi Dk h0;lia)) (by (clear ha hb h2 h1 z Ew EH Dn Dq hB hA hk DU DQ up Ei DI h hi Dk h0;lia))
    rw [show sa+na+(b-(sa+na))=b by (clear ha h3 h2 h1 z Ew EH Dn Dq hB hA hk DU DQ up Ei Dy DI h hi Dk h0;lia)] at e
    by_cases q:a=sa+na-1
    ·subst q;exact e
    ·exact O.tr _ _ _ (sA a (sa+na-1) h1 (by (clear hb h3 h2 h1 z Ew EH Dn Dq hB hA hk DU DQ up Ei Dy DI h hi Dk h0;lia)) (by (clear q ha hb h3 h2 h1 z Ew EH Dn Dq hB hA hk DU DQ up Ei Dy h hi Dk h0;lia))) e
   ·exact sB a b (by (exact Nat.le_of_not_lt (by assumption))) h2 h3
 simp only [du]
 have fin:∀ (po:Array Nat) (g':Nat),GF n lt ((p.extract (sa+k) (sa+na)).toList++(p.extract (sa+na) (sa+na+k2)).toList) po->R (fun _=>true) (aq (putN po.toList 0 (sa+k) p) pend' g'):=fun po g' Dx=>by
  obtain ⟨q1,q2⟩:=zP O (by (exact QC (by assumption) (by assumption))) (by (clear Dz Ew EH Dn hB hA hk DU DQ up Ei Dy DI h hi Dk h0;lia)) (by (exact Nat.pos_of_ne_zero (by assumption))) Dn sA sB hA Ew Dx
  exact h _ _ _ (up q1) E7 (DQ _ q1 q2) DU
 have put:∀ (e:Ev) (po:Array Nat),(aO e po).toList.zipIdx.foldl (fun a (x:Keyed × Nat)=>a.setIfInBounds (sa+k+x.2) x.1) (aO e p)=aO e (putN po.toList 0 (sa+k) p):=fun e po=>by
  rw [show (aO e po).toList=po.toList.map (cY e) from Array.toList_map]
  exact rM (cY e) (sa+k) po.toList 0 p
 have Du:∀ (po:Array Nat) (g':Nat),GF n lt ((p.extract (sa+k) (sa+na)).toList++(p.extract (sa+na) (sa+na+k2)).toList) po->aH n lt (fun e=>(do
   modify fun s=>SortSt.mk' (kindOf s) ((aO e po).toList.zipIdx.foldl (fun a (x:Keyed × Nat)=>a.setIfInBounds (sa+k+x.2) x.1) (arrOf s)) (pendingOf s) (gallopOf s) (failedOf s)
   let s <- get
   pure (failedOf s).isNone:StateT SortSt Sem Bool)) (aq p pend' g') R:=fun po g' Dx =>
  av (zH (p':=putN po.toList 0 (sa+k) p) (pend':=pend') (g':=g') (fun e=>congrArg (fun a=>SortSt.mk' e.κ a pend' g' none) (put e po)) (ft (aB (fin po g' Dx))))
 have hz:sa+na+nb<=p.size:=QC Ei Dk
 have z1:(p.extract (sa+k) (sa+na)).size=na-k:=by rw [Array.size_extract,Nat.min_eq_left (QC (Nat.le_add_right _ nb) hz),Nat.add_sub_add_left]
 have z2:(p.extract (sa+na) (sa+na+k2)).size=k2:=by rw [Array.size_extract,Nat.min_eq_left (QC (Nat.add_le_add_left Dn _) hz),Nat.add_sub_cancel_left]
 have s1:bJ lt (p.extract (sa+k) (sa+na)).toList:=Sg.asc (fun a b q1 q2 q3=>sA a b (by (clear q3 q2 z2 z1 hz Du put fin Dz Ew EH Dn Dq hB hA hk DU DQ up Ei Dy DI h hi Dk h0;lia)) q2 q3) (by (clear z2 z1 hz Du put fin Dz Ew EH Dn Dq hB hA hk DU DQ up Dy DI h hi h0;lia))
 have s2:bJ lt (p.extract (sa+na) (sa+na+k2)).toList:=Sg.asc (fun a b q1 q2 q3=>sB a b (by (assumption)) q2 (by (clear q2 q1 z2 z1 hz Du put fin Dz Ew EH Dq hB hA hk DU DQ up Ei Dy DI h hi Dk h0;lia))) (by (clear z2 z1 hz Du put fin Dz Ew EH Dq hB hA hk DU DQ up Dy DI h hi h0;lia))
 have hf:lt ((p.extract (sa+na) (sa+na+k2)).getD 0 0) ((p.extract (sa+k) (sa+na)).getD 0 0)=true:=by
  rw [nB (by lia) (by (clear z2 z1 hz Du put fin Ew EH Dn Dq hB hA hk DU DQ up Ei Dy DI h hi Dk h0;lia)),nB (by lia) (by (clear z2 z1 hz Du put fin Dz Ew EH Dn hB hA hk DU DQ up Ei Dy DI h hi Dk h0;lia))]
  exact hB k (Qf _) (by (clear z2 z1 hz Du put fin Dz Ew EH Dn hB hA hk DU DQ up Ei Dy DI h hi Dk h0;lia))
 have hl:∀ y∈(p.extract (sa+na) (sa+na+k2)).toList,lt ((p.extract (sa+k) (sa+na)).getD ((p.extract (sa+k) (sa+na)).size-1) 0) y=false:=fun y hy=>by
  obtain ⟨j,q1,q2,rfl⟩:=jK hy
  rw [z1,nB (by (clear q2 q1 z2 z1 hz Du put fin Dz Ew EH Dn Dq hB hA hk DU DQ up Dy DI h hi h0;lia)) (by (clear q2 q1 z2 z1 hz Du put fin Dz Ew EH Dn hB hA hk DU DQ up Ei Dy DI h hi Dk h0;lia)),show sa+k+(na-k-1)=sa+na-1 by (clear q2 q1 z2 z1 hz Du put fin Dz Ew EH Dn hB hA hk DU DQ up Ei Dy DI h hi Dk h0;lia)]
  exact O.as _ _ (EH j q1)
 refine a6 (fun _=>av (zJ O h0 (hp.ext _ _) (hp.ext _ _) (by (clear hl z2 hz Du put fin Dz Ew EH Dn hB hA hk DU DQ up Ei Dy DI h hi Dk h0;lia)) (by (clear hl z1 hz Du put fin Dz Ew EH Dn hB hA hk DU DQ up Ei Dy DI h hi Dk h0;lia)) s1 s2 hf hl fun po g' Dx=>?_)) (fun _=>av (zK O h0 (hp.ext _ _) (hp.ext _ _) (by (clear hl z2 hz Du put fin Dz Ew EH Dn Dq hB hA hk DU DQ up Ei Dy DI h hi Dk h0;lia)) (by lia) s1 s2 hf hl fun po g' Dx=>?_))
 ·exact Du po g' Dx
 ·exact Du po g' Dx
end
theorem Rs.push {lt:Nat->Nat->Bool} {p:Array Nat} {l:List (Nat × Nat × Nat)} {a k:Nat} (u:Nat) (h:Rs lt p l) (q:Sg lt p a (a+k)):Rs lt p (l++[(a,k,u)]):=fun x hx=>by
 rcases Qw hx with z | z
 ·exact h x z
 ·rw [Qt z];exact q
theorem Rs.mod {lt:Nat->Nat->Bool} {p:Array Nat}:∀ {l:List (Nat × Nat × Nat)} (i u:Nat),Rs lt p l->Rs lt p (l.modify i fun x=>(x.1,x.2.1,u))
 | [],i,u,h=>by cases i<;>exact h
 | y::l,0,u,h=>fun x hx=>by
  have hx:x∈(y.1,y.2.1,u)::l:=hx
  rcases Qn hx with z | z
  ·subst z;exact h y (by simp)
  ·exact h x (by simp [z])
 | y::l,i+1,u,h=>fun x hx=>by
  have hx:x∈y::l.modify i fun x=>(x.1,x.2.1,u):=hx
  rcases Qn hx with z | z
  ·subst z;exact h x (by simp)
  ·exact Rs.mod i u (fun x hx=>h x (Qy _ hx)) x z
theorem Rs.out {lt:Nat->Nat->Bool} {p p':Array Nat} {l:List (Nat × Nat × Nat)} {lo hi:Nat} (h:Rs lt p l) (hc:Ch 0 l lo) (q:Kp p p' lo hi):Rs lt p' l:=fun x hx=>by
 refine (h x hx).out q (.inl ?_)
 have go:∀ {s:Nat} {l:List (Nat × Nat × Nat)} {e:Nat},Ch s l e->∀ x∈l,x.1+x.2.1<=e:=by
  intro s l
  induction l generalizing s with
  | nil=>intro e _ x hx;simp at hx
  | cons y l ih =>
   intro e h x hx
   obtain ⟨a,k,u⟩:=y
   obtain ⟨rfl,hk,h⟩:=h
   rcases Qn hx with z | z
   ·subst z;exact h.le
   ·exact ih h x z
 exact go hc x hx
theorem Ch.len:∀ {s:Nat} {l:List (Nat × Nat × Nat)} {e:Nat},Ch s l e->s+l.length<=e
 | s,[],e,h=>by simpa using Nat.le_of_eq h
 | s,(a,k,u)::l,e,h=>by have:=h.2.2.len;have:=h.2.1;simp;lia
section
variable {n:Nat} {lt:Nat->Nat->Bool} {p:Array Nat} {g:Nat}
theorem zQ {R:(Ev->Unit)->(Ev->SortSt)->Prop} (O:ei lt) (h0:0<n) (hp:aT n p) (hs:p.size=n) (h:∀ p' pend' g',p'.Perm p->Sg lt p' 0 n->(Sg lt p 0 n->p'=p)->R (fun _=>()) (aq p' pend' g')) :
  aH n lt (fun _=>sortRuns') (aq p #[] g) R:=by
 refine ft ?_
 dsimp only
 simp only [cZ,hs]
 refine av (aH.mono (cw (fun i c y=>∃ p' pend' g' lo,c=(fun _=>(none,lo))/\y=aq p' pend' g'/\Kp p p' 0 n/\Ch 0 pend'.toList lo/\Rs lt p' pend'.toList/\lo<=n/\i<=lo/\(Sg lt p 0 n->p'=p/\(lo=0∨lo=n/\pend'.size<=1))) (fun c y=>∃ p' pend' g' lo,c=(fun _=>(none,lo))/\y=aq p' pend' g'/\Kp p p' 0 n/\Ch 0 pend'.toList lo/\Rs lt p' pend'.toList/\lo=n/\(Sg lt p 0 n->p'=p/\pend'.size<=1)) ?_ ?_ ⟨_,_,_,_,rfl,rfl,Kp.refl,rfl,fun x hx=>by simp at hx,Qu _,Qu _,fun _=>⟨rfl,.inl rfl⟩⟩) ?_)
 ·rintro i c0 y0 _ _ hh;apply hid2 c0 y0;intro _ γ;obtain ⟨p1,pe1,g1,lo,rfl,rfl,DG,Gd,Dw,EY,EK,hT⟩:=hh;refine γ _ _ ?_
  have DB:=DG.sz
  dsimp only
  refine a6 (fun _=>aB (.inl ⟨_,rfl,_,_,_,_,rfl,rfl,DG,Gd,Dw,by (exact Nat.le_antisymm (by assumption) (by assumption)),fun q=>⟨(hT q).1,by rcases (hT q).2 with z | z<;>lia⟩⟩)) (fun Do=>?_)
  refine av (zM O h0 (DG.ent hp) (by (clear DB hT EK EY h hs h0;lia)) (by (clear Do hT EK h h0;lia)) fun p2 k Dq D6 Gn hS2 hE=>?_)
  have hq:Sg lt p 0 n->p2=p/\lo=0/\k=n/\pe1=#[]:=fun q=>by
   obtain ⟨e1,e2⟩:=hT q
   obtain rfl:lo=0:=by (clear hE Gn D6 DB hT EK EY h hs h0;lia)
   have e3:=hE (by rw [e1];simpa using q)
   have e4:=Gd.len
   exact ⟨e3.1.trans e1,rfl,by (clear e4 e2 hE Gn Do hT EK EY D6 DB h hs h0;lia),by apply Array.eq_empty_of_size_eq_zero;rw [<- QA];(clear e3 e2 hE Gn Do hT EK EY D6 DB h hs h0;lia)⟩
  have DH:=Dq.sz
  have hk2':Kp p p2 0 n:=DG.trans ⟨Dq.sz,Dq.pm,fun k hk=>Dq.out k (by (clear DH hq hE Gn D6 Do DB hT EK EY h hs h0;lia))⟩
  have EF:=Dw.out Gd Dq
  dsimp only
  refine a6 (fun hmr=>av (iI (av (zO O h0 (hk2'.ent hp) (by lia) D6 (by (clear DH hq hE D6 Do DB hT EK EY h hs h0;lia)) hS2 fun p5 Gc hSP hE5=>?_)))) (fun _=>?_)
  ·have hP:Kp p p5 0 n:=hk2'.trans ⟨Gc.sz,Gc.pm,fun k hk=>Gc.out k (by (clear hE5 hmr DH hq hE Gn D6 Do DB hT EK EY h hs h0;lia))⟩
   have hrP:=EF.out Gd Gc
   have FW:Sg lt p 0 n->p5=p/\lo=0/\min (n-lo) ((sortPriv% PySem.Builtin.minRun) n n 0)=n/\pe1=#[]:=fun q=>by
    refine bt fun _ γ=>?_;obtain ⟨e1,e2,e3,e4⟩:=hq q;refine γ ?_
    exact ⟨(hE5 (by (clear e2 hE5 DH hq hE D6 Do DB hT EK EY h hs h0;lia))).trans e1,e2,by (clear e2 hE5 DH hq hE D6 Do DB hT EK EY h hs h0;lia),e4⟩
   refine a6 (fun z=>absurd z (by decide)) (fun _=>?_)
   have Ea:0<min (n-lo) ((sortPriv% PySem.Builtin.minRun) n n 0):=by (clear FW hE5 DH hq hE Gn D6 DB hT EK EY h hs h0;lia)
   have D2:lo+min (n-lo) ((sortPriv% PySem.Builtin.minRun) n n 0)<=n:=by (clear Ea FW hE5 hmr DH hq hE Gn D6 Do DB hT EK h hs h0;lia)
   refine ft ?_
   dsimp only
   cases hb:pe1.back? with
   | none =>
    simp only [hb]
    exact av (k9 (aB (.inr ⟨_,rfl,_,_,_,_,rfl,rfl,hP,by rw [Array.toList_push];exact Gd.push _ 0 Ea,by rw [Array.toList_push];exact hrP.push 0 hSP,D2,by lia,fun q=>by
     refine bt fun _ γ=>?_;obtain ⟨e1,e2,e3,e4⟩:=FW q;refine γ ?_
     exact ⟨e1,.inr ⟨by lia,by rw [e4];simp⟩⟩⟩)))
   | some y =>
    obtain ⟨s1,n1,u1⟩:=y
    simp only [hb]
    refine av (aH.mono (cw (fun _ c y=>∃ p' pend' g',c=(fun _=>(none,()))/\y=aq p' pend' g'/\Kp p p' 0 n/\Ch 0 pend'.toList lo/\Rs lt p' pend'.toList/\Sg lt p' lo (lo+min (n-lo) ((sortPriv% PySem.Builtin.minRun) n n 0))) (fun c y=>∃ p' pend' g',c=(fun _=>(none,()))/\y=aq p' pend' g'/\Kp p p' 0 n/\Ch 0 pend'.toList lo/\Rs lt p' pend'.toList/\Sg lt p' lo (lo+min (n-lo) ((sortPriv% PySem.Builtin.minRun) n n 0))) ?_ (fun _ _ z=>z) ⟨_,_,_,rfl,rfl,hP,Gd,hrP,hSP⟩) ?_)
    ·rintro j c0 y0 _ _ hh;apply hid2 c0 y0;intro _ γ;obtain ⟨p3,Gj,g3,rfl,rfl,Dn,ET,Ep,Gf⟩:=hh;refine γ _ _ ?_
     have FF:=Dn.sz
     refine ft ?_
     dsimp only
     by_cases hz:Gj.size>1
     ·obtain ⟨a,b,u,m,v,e1,_⟩:=ET.two (Gj.size-2) (by rw [QA];(clear FF D2 Ea FW hE5 hmr DH hq hE Gn D6 Do DB hT EK EY h hs h0;lia))
      rw [Array.getElem?_toList] at e1
      simp only [if_pos hz,e1]
      refine a6 (fun _=>aB (.inl ⟨_,rfl,_,_,_,rfl,rfl,Dn,ET,Ep,Gf⟩)) (fun _=>av (nC O h0 (Dn.ent hp) ET Ep (by (clear hz D2 Ea FW hE5 hmr DH hq hE Gn D6 Do DB hT EK h h0;lia)) (by (clear FF D2 Ea FW hE5 hmr DH hq hE Gn D6 Do DB hT EK EY h hs h0;lia)) fun p4 pe4 g4 Dz hc4 hr4 _=>?_))
      exact a6 (fun z=>absurd z (by decide)) (fun _=>aB (.inr ⟨_,rfl,_,_,_,rfl,rfl,Dn.trans ⟨Dz.sz,Dz.pm,fun k hk=>Dz.out k (by (clear hz FF D2 Ea FW hE5 hmr DH hq hE Gn D6 Do DB hT EK h hs h0;lia))⟩,hc4,hr4,Gf.out Dz (.inr (Qf _))⟩))
     ·simp only [if_neg hz]
      exact aB (.inl ⟨_,rfl,_,_,_,rfl,rfl,Dn,ET,Ep,Gf⟩)
    ·rintro c0 y0 hh;apply hid2 c0 y0;intro _ γ;obtain ⟨p3,Gj,g3,rfl,rfl,Dn,ET,Ep,Gf⟩:=hh;refine γ _ _ ?_
     dsimp only
     refine av (rO ?_)
     refine av (k9 (aB (.inr ⟨_,rfl,_,_,_,_,rfl,rfl,Dn,?_,?_,D2,by lia,fun q=>by
      refine bt fun _ γ=>?_;obtain ⟨e1,e2,e3,e4⟩:=FW q;refine γ ?_
      rw [e4] at hb
      simp at hb⟩)))
     ·rw [Array.toList_push,Array.toList_modify]
      exact (ET.mod _ _).push _ _ Ea
     ·rw [Array.toList_push,Array.toList_modify]
      exact (Ep.mod _ _).push _ Gf
  ·have FW:=hq
   have hP:=hk2'
   have hrP:=EF
   have hSP:=hS2
   have Ea:=D6
   have D2:lo+k<=n:=by (clear Ea FW DH hq hE D6 Do DB hT EK h hs h0;lia)
   refine ft ?_
   dsimp only
   cases hb:pe1.back? with
   | none =>
    simp only [hb]
    exact av (k9 (aB (.inr ⟨_,rfl,_,_,_,_,rfl,rfl,hP,by rw [Array.toList_push];exact Gd.push _ 0 Ea,by rw [Array.toList_push];exact hrP.push 0 hSP,D2,by (clear D2 Ea FW DH hq hE Gn Do DB hT EY h hs h0;lia),fun q=>by
     refine bt fun _ γ=>?_;obtain ⟨e1,e2,e3,e4⟩:=FW q;refine γ ?_
     exact ⟨e1,.inr ⟨by (clear e2 D2 Ea FW DH hq hE D6 Do DB hT EK EY h hs h0;lia),by rw [e4];simp⟩⟩⟩)))
   | some y =>
    obtain ⟨s1,n1,u1⟩:=y
    simp only [hb]
    refine av (aH.mono (cw (fun _ c y=>∃ p' pend' g',c=(fun _=>(none,()))/\y=aq p' pend' g'/\Kp p p' 0 n/\Ch 0 pend'.toList lo/\Rs lt p' pend'.toList/\Sg lt p' lo (lo+k)) (fun c y=>∃ p' pend' g',c=(fun _=>(none,()))/\y=aq p' pend' g'/\Kp p p' 0 n/\Ch 0 pend'.toList lo/\Rs lt p' pend'.toList/\Sg lt p' lo (lo+k)) ?_ (fun _ _ z=>z) ⟨_,_,_,rfl,rfl,hP,Gd,hrP,hSP⟩) ?_)
    ·rintro j c0 y0 _ _ hh;apply hid2 c0 y0;intro _ γ;obtain ⟨p3,Gj,g3,rfl,rfl,Dn,ET,Ep,Gf⟩:=hh;refine γ _ _ ?_
     have FF:=Dn.sz
     refine ft ?_
     dsimp only
     by_cases hz:Gj.size>1
     ·obtain ⟨a,b,u,m,v,e1,_⟩:=ET.two (Gj.size-2) (by rw [QA];lia)
      rw [Array.getElem?_toList] at e1
      simp only [if_pos hz,e1]
      refine a6 (fun _=>aB (.inl ⟨_,rfl,_,_,_,rfl,rfl,Dn,ET,Ep,Gf⟩)) (fun _=>av (nC O h0 (Dn.ent hp) ET Ep (by lia) (by lia) fun p4 pe4 g4 Dz hc4 hr4 _=>?_))
      exact a6 (fun z=>absurd z (by decide)) (fun _=>aB (.inr ⟨_,rfl,_,_,_,rfl,rfl,Dn.trans ⟨Dz.sz,Dz.pm,fun k hk=>Dz.out k (by lia)⟩,hc4,hr4,Gf.out Dz (.inr (Qf _))⟩))
     ·simp only [if_neg hz]
      exact aB (.inl ⟨_,rfl,_,_,_,rfl,rfl,Dn,ET,Ep,Gf⟩)
    ·rintro c0 y0 hh;apply hid2 c0 y0;intro _ γ;obtain ⟨p3,Gj,g3,rfl,rfl,Dn,ET,Ep,Gf⟩:=hh;refine γ _ _ ?_
     dsimp only
     refine av (rO ?_)
     refine av (k9 (aB (.inr ⟨_,rfl,_,_,_,_,rfl,rfl,Dn,?_,?_,D2,by lia,fun q=>by
      refine bt fun _ γ=>?_;obtain ⟨e1,e2,e3,e4⟩:=FW q;refine γ ?_
      rw [e4] at hb
      simp at hb⟩)))
     ·rw [Array.toList_push,Array.toList_modify]
      exact (ET.mod _ _).push _ _ Ea
     ·rw [Array.toList_push,Array.toList_modify]
      exact (Ep.mod _ _).push _ Gf
 ·rintro c0 y0 hh;apply hid2 c0 y0;intro _ γ;obtain ⟨p1,pe1,g1,lo,rfl,rfl,DG,Gd,Dw,EY,EK,hT⟩:=hh;refine γ _ _ ?_
  exact ⟨p1,pe1,g1,lo,rfl,rfl,DG,Gd,Dw,by (exact Nat.le_antisymm (by assumption) (by assumption)),fun q=>⟨(hT q).1,by rcases (hT q).2 with z | z<;>lia⟩⟩
 rintro c0 y0 hh;apply hid2 c0 y0;intro _ γ;obtain ⟨p1,pe1,g1,lo,rfl,rfl,DG,Gd,Dw,rfl,hT⟩:=hh;refine γ _ _ ?_
 dsimp only
 have Dj:=Gd.len
 rw [QA] at Dj
 refine av (aH.mono (cw (fun j c y=>∃ p' pend' g',c=(fun _=>(none,()))/\y=aq p' pend' g'/\Kp p p' 0 lo/\Ch 0 pend'.toList lo/\Rs lt p' pend'.toList/\pend'.size+j<=lo/\(Sg lt p 0 lo->p'=p/\pend'.size<=1)) (fun c y=>∃ p' pend' g',c=(fun _=>(none,()))/\y=aq p' pend' g'/\Kp p p' 0 lo/\Ch 0 pend'.toList lo/\Rs lt p' pend'.toList/\pend'.size<=1/\(Sg lt p 0 lo->p'=p)) ?_ ?_ ⟨_,_,_,rfl,rfl,DG,Gd,Dw,by (clear hT h hs h0;lia),hT⟩) ?_)
 ·rintro j c0 y0 _ _ hh;apply hid2 c0 y0;intro _ γ;obtain ⟨p3,Gj,g3,rfl,rfl,Dn,ET,Ep,hz3,hT3⟩:=hh;refine γ _ _ ?_
  have FF:=Dn.sz
  refine ft ?_
  dsimp +instances only
  refine a6 (fun z=>aB (.inl ⟨_,rfl,_,_,_,rfl,rfl,Dn,ET,Ep,z,fun q=>(hT3 q).1⟩)) (fun hz=>av (nC O h0 (Dn.ent hp) ET Ep (by (clear hz hT3 hz3 Dj hT h h0;lia)) ?_ fun p4 pe4 g4 Dz hc4 hr4 hz4=>?_))
  ·exact zI (by (clear FF hT3 hz3 Dj hT h hs h0;lia))
  ·exact a6 (fun z=>absurd z (by decide)) (fun _=>aB (.inr ⟨_,rfl,_,_,_,rfl,rfl,Dn.trans Dz,hc4,hr4,by (clear hz FF hT3 Dj hT h hs h0;lia),fun q=>absurd (hT3 q).2 hz⟩))
 ·rintro c0 y0 hh;apply hid2 c0 y0;intro _ γ;obtain ⟨p3,Gj,g3,rfl,rfl,Dn,ET,Ep,hz3,hT3⟩:=hh;refine γ _ _ ?_
  exact ⟨p3,Gj,g3,rfl,rfl,Dn,ET,Ep,by (clear hT3 Dj hT h hs h0;lia),fun q=>(hT3 q).1⟩
 ·rintro c0 y0 hh;apply hid2 c0 y0;intro _ γ;obtain ⟨p3,Gj,g3,rfl,rfl,Dn,ET,Ep,hz3,hT3⟩:=hh;refine γ _ _ ?_
  refine aB (h _ _ _ Dn.pm ?_ hT3)
  rw [<- QA] at hz3
  match hq:Gj.toList,hz3,ET,Ep with
  | [],_,hc,_=>exact absurd (show 0=lo from hc) (by (exact QB (by assumption)))
  | [(a,k,u)],_,hc,hr =>
   obtain ⟨rfl,_,rfl⟩:=hc
   exact hr (0,k,u) (by simp)
end
theorem r0 (n:Nat) (lt:Nat->Nat->Bool) (h0:0<n) (as:∀ a b,a<n->b<n->lt a b=true->lt b a=false) (tr:∀ a b c,a<n->b<n->c<n->lt b a=false->lt c b=false->lt c a=false) :
  ∃ P:Array Nat,(P.Perm (List.range n).toArray/\Sg lt P 0 n/\(Sg lt (List.range n).toArray 0 n->P=(List.range n).toArray))/\∃ (Dh:Array (Nat × Nat × Nat)) (g:Nat),∀ (e:Ev) (prog:Program) (w:World) (A:Around) (E:Value->Shared->Prop) (s:Shared),ny n lt e prog w A s ->
  ∀ Q:Unit->SortSt->Shared->Prop,Q () (aq P Dh g e) s->kasC (model prog w) A E sortRuns' Q (aq (List.range n).toArray #[] 7 e) s:=by
 obtain ⟨c,hc⟩:∃ c:Nat->Nat,∀ i,c i=if i<n then i else 0:=⟨_,fun _=>rfl⟩
 have cn:∀ i,c i<n:=fun i=>by rw [hc];split<;>(assumption)
 have ce:∀ i,i<n->c i=i:=fun i h=>by rw [hc,if_pos h]
 have O:ei fun i j=>lt (c i) (c j):=⟨fun a b h=>as _ _ (cn a) (cn b) h,fun a b d h1 h2=>tr _ _ _ (cn a) (cn b) (cn d) h1 h2⟩
 obtain ⟨a,y,⟨P,Dh,g,h1,h2,h4,rfl⟩,h3⟩:=zQ (n:=n) (g:=7) (p:=(List.range n).toArray) (R:=fun _ y=>∃ P Dh g,P.Perm (List.range n).toArray/\Sg (fun i j=>lt (c i) (c j)) P 0 n/\(Sg (fun i j=>lt (c i) (c j)) (List.range n).toArray 0 n->P=(List.range n).toArray)/\y=aq P Dh g) O h0 (fun x hx=>by simpa using hx) (by simp) fun p' pend' g' h1 h2 h4=>⟨p',pend',g',h1,h2,h4,rfl⟩
 have hz:P.size=n:=by rw [h1.size_eq];simp
 have ent:∀ i,i<n->P.getD i 0<n:=fun i hi=>by
  have hm:P.getD i 0∈P.toList:=by simp [Array.getD,show i<P.size by lia]
  simpa using (Array.perm_iff_toList_perm.mp h1).mem_iff.mp hm
 refine ⟨P,⟨h1,fun i j q1 q2 q3=>?_,fun q=>h4 fun i j q1 q2 q3=>?_⟩,Dh,g,fun e prog w A E s ho=>h3 e prog w A E s fun i j hi hj C hC=>ho i j hi hj C (by have hC:C (lt (c i) (c j)) s:=hC;rwa [ce i hi,ce j hj] at hC)⟩
 ·have:=(show lt (c (P.getD j 0)) (c (P.getD i 0))=false from h2 i j q1 q2 q3)
  rwa [ce _ (ent i (by (exact Nat.lt_trans (by assumption) (by assumption)))),ce _ (ent j q3)] at this
 ·have e:∀ i,i<n->(List.range n).toArray.getD i 0=i:=fun i h=>by simp [Array.getD,h]
  have:=q i j q1 q2 q3
  show lt (c _) (c _)=false
  rw [e i (by (exact Nat.lt_trans (by assumption) (by assumption))),e j q3] at this ⊢
  rwa [ce i (by (exact Nat.lt_trans (by assumption) (by assumption))),ce j q3]
noncomputable def bn:ae->Bool
 | .inl _=>true
 | .inr _=>false
noncomputable def dY:ae->ae->Bool
 | .inl i,.inl j=>decide (i<j)
 | .inr a,.inr c=>decide (a.cps.toList<c.cps.toList)
 | _,_=>false
noncomputable def a8:List ae->List ae->Bool
 | a::r,b::q=>if a=b then a8 r q else dY a b
 | _,_=>false
theorem zR {a c:Str} (h:a.cps.toList=c.cps.toList):a=c:=by
 obtain ⟨x⟩:=a
 obtain ⟨y⟩:=c
 have:x=y:=Array.toList_inj.mp h
 rw [this]
theorem zS {a b c:ae} (h:dY a b=true) (g:dY b c=true):dY a c=true:=by
 cases a<;>cases b<;>cases c<;>simp only [dY,decide_eq_true_eq] at*<;>first | lia | exact List.lt_trans h g | cases h | cases g
theorem r9 {a b:ae} (h:dY a b=true):dY b a=false:=by
 cases a<;>cases b<;>simp only [dY,decide_eq_true_eq,decide_eq_false_iff_not] at*<;>first | lia | exact List.lt_asymm h | cases h
theorem zT {a b:ae} (hs:bn a=bn b) (hn:a≠b) (h:dY a b=false):dY b a=true:=by
 cases a<;>cases b<;>simp only [dY,decide_eq_true_eq,decide_eq_false_iff_not] at *
 ·rename_i i j
  have:i≠j:=fun e=>hn (by rw [e])
  lia
 ·cases hs
 ·cases hs
 ·rename_i x y
  refine Classical.byContradiction fun g=>hn ?_
  rw [zR (List.le_antisymm (List.not_lt.mp g) (List.not_lt.mp h))]
theorem sd:∀ {a b c:List ae},a8 a b=true->a8 b c=true->a8 a c=true
 | a::r,b::q,c::p,h,g=>by
  unfold a8 at h g ⊢
  by_cases e1:a=b
  ·subst e1
   rw [if_pos rfl] at h
   by_cases e2:a=c
   ·subst e2
    rw [if_pos rfl] at g ⊢
    exact sd h g
   ·rw [if_neg e2] at g ⊢
    exact g
  ·rw [if_neg e1] at h
   by_cases e2:b=c
   ·subst e2
    rw [if_neg e1]
    exact h
   ·rw [if_neg e2] at g
    have e3:a≠c:=fun z=>by
     subst z
     rw [r9 h] at g
     cases g
    rw [if_neg e3]
    exact zS h g
 | [],_,_,h,_=>by unfold a8 at h;cases h
 | _::_,[],_,h,_=>by unfold a8 at h;cases h
 | _::_,_::_,[],_,g=>by unfold a8 at g;cases g
theorem gn:∀ {a b:List ae},a8 a b=true->a8 b a=false
 | a::r,b::q,h=>by
  unfold a8 at h ⊢
  by_cases e1:a=b
  ·subst e1
   rw [if_pos rfl] at h ⊢
   exact gn h
  ·rw [if_neg e1] at h
   rw [if_neg (Ne.symm e1)]
   exact r9 h
 | [],_,h=>by unfold a8 at h;cases h
 | _::_,[],h=>by unfold a8 at h;cases h
theorem lh:∀ {a b:List ae},a.map bn=b.map bn->a≠b->a8 a b=false->a8 b a=true
 | a::r,b::q,hs,hn,h=>by
  unfold a8 at h ⊢
  have hs':=List.cons.inj hs
  by_cases e1:a=b
  ·subst e1
   rw [if_pos rfl] at h ⊢
   exact lh hs'.2 (fun z=>hn (by rw [z])) h
  ·rw [if_neg e1] at h
   rw [if_neg (Ne.symm e1)]
   exact zT hs'.1 e1 h
 | [],[],_,hn,_=>absurd rfl hn
 | [],_::_,hs,_,_=>by cases hs
 | _::_,[],hs,_,_=>by cases hs
theorem zU {prog:Program} {w:World} {A:Around} {E:Value->Shared->Prop} {fl:Bool} {Q:Bool->Shared->Prop} {s:Shared} {a b:ae} {u v:Value} (ra:RelV (kV a) u) (rb:RelV (kV b) v) (h:bn a=bn b) (q:Q (dY a b) s):wpAny (model prog w) A (oneLt' fl u v) Q E s:=by
 cases a with
 | inl i =>
  cases b with
  | inr y=>cases h
  | inl j =>
   obtain ⟨t,rfl⟩:=(show ∃ t,u=Value.int i t from ra)
   obtain ⟨t',rfl⟩:=(show ∃ t,v=Value.int j t from rb)
   cases fl with
   | true=>exact kat_lt_int q
   | false=>exact kat_one _ _ (lt_int q)
 | inr x =>
  cases b with
  | inl j=>cases h
  | inr y =>
   obtain ⟨t,rfl⟩:=(show ∃ t,u=Value.str x t from ra)
   obtain ⟨t',rfl⟩:=(show ∃ t,v=Value.str y t from rb)
   cases fl with
   | true=>exact kas_lt_str q
   | false=>exact kat_one _ _ (lt_str q)
theorem nE {prog:Program} {w:World} {A:Around} {fl:Bool} {Q:Bool->Shared->Prop} {s:Shared}:∀ {a b:List ae} {us vs:List Value} (i:Nat),ap (a.map kV) us->ap (b.map kV) vs->a.map bn=b.map bn->Q (a8 a b) s->KatLex prog w A fl false Q (us.zip vs) i s
 | [],[],us,vs,i,ra,rb,h,q=>by cases ra;cases rb;unfold KatLex;exact q
 | [],_::_,us,vs,i,ra,rb,h,q=>by cases h
 | _::_,[],us,vs,i,ra,rb,h,q=>by cases h
 | a::r,b::t,us,vs,i,ra,rb,h,q=>by
  cases ra with
  | @cons _ u _ us ra1 ra2 =>
   cases rb with
   | @cons _ v _ vs rb1 rb2 =>
    simp only [List.map_cons,List.cons.injEq] at h
    show KatLex prog w A fl false Q ((u,v)::us.zip vs) i s
    unfold KatLex
    refine (bR prog w).eqBool (gQ ra1) (gQ rb1) ?_
    unfold a8 at q
    by_cases e:a=b
    ·rw [if_pos e] at q
     rw [if_pos (Qo e)]
     exact nE (i+1) ra2 rb2 h.2 q
    ·rw [if_neg e] at q
     rw [if_neg (by rw [Qi e];exact QG)]
     exact zU ra1 rb1 h.1 q
noncomputable def eY (ds:List (List ae)) (i j:Nat):Bool:=a8 (ds.getD i []) (ds.getD j [])
structure jN (n:Nat) (lt:Nat->Nat->Bool):Prop where
 as:∀ a b,a<n->b<n->lt a b=true->lt b a=false
 tr:∀ a b c,a<n->b<n->c<n->lt b a=false->lt c b=false->lt c a=false
open Classical in
noncomputable def cO (n:Nat) (lt:Nat->Nat->Bool):Array Nat:=if h:0<n/\jN n lt then Classical.choose (r0 n lt h.1 h.2.as h.2.tr) else (List.range n).toArray
theorem nF {n:Nat} {lt:Nat->Nat->Bool} (h0:0<n) (o:jN n lt):((cO n lt).Perm (List.range n).toArray/\Sg lt (cO n lt) 0 n/\(Sg lt (List.range n).toArray 0 n->cO n lt=(List.range n).toArray))/\∃ (Dh:Array (Nat × Nat × Nat)) (g:Nat),∀ (e:Ev) (prog:Program) (w:World) (A:Around) (E:Value->Shared->Prop) (s:Shared),ny n lt e prog w A s ->
  ∀ Q:Unit->SortSt->Shared->Prop,Q () (aq (cO n lt) Dh g e) s->kasC (model prog w) A E sortRuns' Q (aq (List.range n).toArray #[] 7 e) s:=by
 unfold cO
 rw [dif_pos ⟨h0,o⟩]
 exact Classical.choose_spec (r0 n lt h0 o.as o.tr)
theorem se (n:Nat) (lt:Nat->Nat->Bool):(cO n lt).Perm (List.range n).toArray:=by
 by_cases h:0<n/\jN n lt
 ·exact (nF h.1 h.2).1.1
 ·unfold cO
  rw [dif_neg h]
theorem sf (n:Nat) (lt:Nat->Nat->Bool):(cO n lt).size=n:=by rw [(se n lt).size_eq];simp
theorem nG {n:Nat} (lt:Nat->Nat->Bool) (h0:0<n):aT n (cO n lt):=fun x hx=>by simpa using (Array.perm_iff_toList_perm.mp (se n lt)).mem_iff.mp hx
theorem nH {ds:List (List ae)} {sh:List Bool} (DV:∀ d∈ds,d.map bn=sh):jN ds.length (eY ds):=by
 have gd:∀ i,i<ds.length->(ds.getD i []).map bn=sh:=fun i hi=>DV _ (by
  rw [Qe,Qa hi]
  exact QL hi)
 have ir:∀ x:List ae,a8 x x=false:=fun x=>by
  cases e:a8 x x with
  | false=>rfl
  | true=>rw [gn e] at e;cases e
 refine ⟨fun a b _ _ h=>gn h,fun a b c ha hb hc h1 h2=>?_⟩
 unfold eY at h1 h2 ⊢
 have s1:=gd a ha
 have s2:=gd b hb
 have s3:=gd c hc
 generalize ds.getD a []=x at *
 generalize ds.getD b []=y at *
 generalize ds.getD c []=z at *
 by_cases e1:y=x
 ·subst e1;exact h2
 by_cases e2:z=y
 ·subst e2;exact h1
 exact gn (sd (lh (s2.trans s1.symm) e1 h1) (lh (s3.trans s2.symm) e2 h2))
theorem si {prog:Program} {w:World} {A:Around} {E:Value->Shared->Prop} {κ:SortKind} {ks vs:List Value} {lt:Nat->Nat->Bool} {s:Shared} (hl:ks.length=vs.length) (h2:2<=vs.length) (ho:jN vs.length lt)
  (hc:∀ i j,i<vs.length->j<vs.length->∀ C:Bool->Shared->Prop,C (lt i j) s->kas_ask prog w A κ ks i j C s) :
  wpAny (model prog w) A ((sortRuns').run (SortSt.mk' κ (ks.toArray.zip vs.toArray) #[] 7 none)) (fun r s'=>s'=s/\failedOf r.2=none/\(arrOf r.2).size=vs.length/\arrOf r.2=Array.map (kas_item (ks.toArray.zip vs.toArray)) (cO vs.length lt)) E s:=by
 obtain ⟨⟨h3,h4⟩,Dh,g,run⟩:=nF (n:=vs.length) (lt:=lt) (by lia) ho
 have est:SortSt.mk' κ (ks.toArray.zip vs.toArray) #[] 7 none=aq (List.toArray (List.range vs.length)) #[] 7 ⟨κ,ks.toArray.zip vs.toArray⟩:=by
  have e:=kas_range (ks.toArray.zip vs.toArray)
  rw [show (ks.toArray.zip vs.toArray).size=vs.length by simp [hl]] at e
  exact congrArg (fun a=>SortSt.mk' κ a #[] 7 none) e.symm
 rw [est]
 rw [kat_ask_eq hl] at hc
 exact run ⟨κ,ks.toArray.zip vs.toArray⟩ prog w A E s hc (fun r Dv s'=>s'=s/\failedOf Dv=none/\(arrOf Dv).size=vs.length/\arrOf Dv=Array.map (kas_item (ks.toArray.zip vs.toArray)) (cO vs.length lt)) ⟨rfl,rfl,by show (Array.map _ _).size=_;rw [Array.size_map];exact sf _ _,rfl⟩
noncomputable def ck (ds:List (List ae)):List Nat:=if ds.length<2 then List.range ds.length else (cO ds.length (eY ds)).toList
noncomputable def bX (ds:List (List ae)) (xs:List V):List V:=(ck ds).map fun i=>xs.getD i .non
def bY (H:Hp) (xs:List V) (ds:List (List ae)):Prop:=xs.length=ds.length/\∀ (i:Nat) (x:V) (d:List ae),xs[i]?=some x->ds[i]?=some d->∃ t,x=.ref t/\H t=some (.tup (d.map kV))
theorem jO {X:Cx} {Df:List (Addr × Obj)} {σ:St} {H:Hp} {s:Shared} (I:Inv X Df σ H s) {t:Addr} {d:List ae} (h:H t=some (.tup (d.map kV))):∃ (o:Obj) (vs:List Value) (n:Nat),s.heap.get? t=some o/\o.cls=.type "tuple"/\o.data=.seq vs.toArray n/\ap (d.map kV) vs:=by
 obtain ⟨_,its,rv,⟨o,ho,hc,n,hd⟩,_⟩:=I.hok t _ h
 exact ⟨o,its,n,ho,hc,hd,rv⟩
theorem nI {X:Cx} {Df:List (Addr × Obj)} {σ:St} {H:Hp} {s:Shared} (I:Inv X Df σ H s):∀ {xs:List V} {ds:List (List ae)} {its:List Value},ap xs its->bY H xs ds->(∀ d∈ds,d≠[])->∃ fs:List Value,KatTups s.heap its fs/\fs.length=ds.length/\∀ (i:Nat) (f:Value) (d:List ae),fs[i]?=some f->ds[i]?=some d->∃ k r,d=k::r/\RelV (kV k) f
 | [],[],_,rv,h,_=>by cases rv;exact ⟨[],KatTups.nil,rfl,fun i f d h=>by simp at h⟩
 | [],_::_,_,_,h,_=>by simp [bY] at h
 | _::_,[],_,_,h,_=>by simp [bY] at h
 | x::xs,d::ds,_,rv,h,hn=>by
  cases rv with
  | @cons _ u _ us r1 r2 =>
   obtain ⟨t,rfl,ht⟩:=h.2 0 x d rfl rfl
   cases (show u=Value.ref t from r1)
   obtain ⟨o,vs,n,ho,hc,hd,rd⟩:=jO I ht
   obtain ⟨fs,k1,k2,k3⟩:=nI I r2 (ds:=ds) ⟨by simpa using h.1,fun i y e a b=>h.2 (i+1) y e a b⟩ fun e he=>hn e (Qy _ he)
   cases d with
   | nil=>exact absurd rfl (hn [] (by simp))
   | cons k r =>
    cases rd with
    | @cons _ f _ gs q1 q2 =>
     refine ⟨f::fs,KatTups.cons ho hc hd (by simp) k1,by simp [k2],fun i g e a b=>?_⟩
     cases i with
     | zero =>
      have e1:f=g:=by simpa using a
      have e2:k::r=e:=by simpa using b
      subst e1 e2
      exact ⟨k,r,rfl,q1⟩
     | succ i=>exact k3 i g e a b
theorem ll:∀ {xs:List V} {vs:List Value},ap xs vs->∀ i,i<xs.length->RelV (xs.getD i .non) (vs.getD i Value.none)
 | _,_,.nil,i,h=>by simp at h
 | _,_,.cons r1 r2,0,_=>r1
 | _,_,.cons r1 r2,i+1,h=>ll r2 i (by simpa using h)
theorem nJ {xs:List V} {vs:List Value} (r:ap xs vs):∀ p:List Nat,(∀ i∈p,i<xs.length)->ap (p.map fun i=>xs.getD i .non) (p.map fun i=>vs.getD i Value.none)
 | [],_=>.nil
 | i::p,h=>.cons (ll r i (h i (by simp))) (nJ r p fun j hj=>h j (Qy _ hj))
theorem sj {α:Type} (d:α):∀ xs:List α,(List.range xs.length).map (fun i=>xs.getD i d)=xs:=by
 intro xs
 refine List.ext_getElem (by simp) fun i h1 h2=>?_
 simp [Qa h2]
section
variable {X:Cx} {Df:List (Addr × Obj)} {σ:St} {H:Hp} {s:Shared} {xs:List V} {ds:List (List ae)} {sh:List Bool}
theorem zV {A:Around} {E:Value->Shared->Prop} {a:Addr} {its:List Value} {n:Nat} {P:Fin->Shared->Prop}
  (I:Inv X Df σ H s) (fa:cc X Df H a) (ho:s.heap.get? a=some (seqObj "list" its.toArray n)) (rv:ap xs its) (hz:xs.length<=sizeLine) (ht:bY H xs ds) (DV:∀ d∈ds,d.map bn=sh) (Dp:sh≠[])
  (fin:∀ (s':Shared) (out:Array Value) (n':Nat),Inv X Df σ H s'->s'.heap.get? a=some (seqObj "list" out n')->out.size<=sizeLine->ap (bX ds xs) out.toList->P (.done (.ret .none)) s') :
  wpAny (model X.prog X.w) A (Builtin.«list.sort» ⟨[.ref a],[]⟩) P E s:=by
 have DJ:its.length=xs.length:=rv.length.symm
 rw [<- DJ] at hz
 obtain ⟨f0,f1,f2,f3,f4,f5⟩:=id fa
 rw [list_sort_plain]
 refine Qb (listItems_at ho rfl ?_)
 refine Qb (listUpdate_at ho rfl ?_ (by rw [Qj];exact hz) (by show (#[]:Array Value).size<=_;simp))
 obtain ⟨e1,EX⟩:∃ e1,(s.heap.update a (Obj.mapSeq fun _=>#[])).get? a=some (seqObj "list" #[] e1):=⟨_,get?_update_seq ho (fun _=>#[])⟩
 have I1:Inv X Df σ H { s with heap:=s.heap.update a (Obj.mapSeq fun _=>#[]) }:=I.turned (t':=s.toks) (fun b o hb e=>by rw [QO _ _ _ _ hb];exact e) f0 f1 f3 f4 f5
 generalize s.heap.update a (Obj.mapSeq fun _=>#[])=h1 at EX I1
 refine Qb (seqEpoch_at (s:={ s with heap:=h1 }) EX rfl ?_)
 refine Qb (wpAny_newTuple (s:={ s with heap:=h1 }) ?_ (by simpa using hz))
 have Et:=Qg (seqObj "tuple" its.toArray.toList.toArray 0) EX
 have I2:Inv X Df σ H { s with heap:=h1.push (seqObj "tuple" its.toArray.toList.toArray 0) }:=I1.kept (t':=s.toks) fun b o e=>Qg _ e
 change wpAny _ _ _ _ _ { s with heap:=h1.push (seqObj "tuple" its.toArray.toList.toArray 0) }
 generalize h1.push (seqObj "tuple" its.toArray.toList.toArray 0)=h2 at Et I2
 refine Qb (wpAny_newList (s:={ s with heap:=h2 }) ?_ (by simp))
 have Gb:=Qg (seqObj "list" #[] 0) Et
 have I3:Inv X Df σ H { s with heap:=h2.push (seqObj "list" #[] 0) }:=I2.kept (t':=s.toks) fun b o e=>Qg _ e
 change wpAny _ _ _ _ _ { s with heap:=h2.push (seqObj "list" #[] 0) }
 generalize h2.push (seqObj "list" #[] 0)=h3 at Gb I3
 dsimp only
 refine wpAny_holding ?_
 have Gb:({ s with heap:=h3 }:Shared).heap.get? a=some (seqObj "list" #[] e1):=Gb
 generalize { s with heap:=h3 }=s3 at I3 Gb ⊢
 have Du:∀ Dv:SortSt,failedOf Dv=none->((arrOf Dv).map (·.2)).size<=sizeLine->ap (bX ds xs) ((arrOf Dv).map (·.2)).toList->wpAny (model X.prog X.w) A (do
   let __do_lift <- seqEpoch a
   Builtin.List.listUpdate (Value.ref a) fun x=>Array.map (fun x=>x.snd) (arrOf Dv)
   match failedOf Dv with
    | some e=>do
     rule "list.sort.comparison-raised"
     throw e
     if (__do_lift != e1)=true then do
         rule "list.sort.modified"
         raiseErrorWords "ValueError" "list modified during sort"
         ret Value.none
      else ret Value.none
    | x =>
     if (__do_lift != e1)=true then do
      rule "list.sort.modified"
      raiseErrorWords "ValueError" "list modified during sort"
      ret Value.none
     else ret Value.none) P E s3:=by
  intro Dv hf hsz hv
  refine Qb (seqEpoch_at Gb rfl ?_)
  refine Qb (listUpdate_at Gb rfl ?_ (by simp) (Nat.le_succ_of_le hsz))
  rw [hf]
  simp only [bne_self_eq_false,QT,if_false]
  exact Qk (fin _ _ _ (I3.turned (t':=s3.toks) (fun b o hb e=>by rw [QO _ _ _ _ hb];exact e) f0 f1 f3 f4 f5) (get?_update_seq Gb (fun _=>(arrOf Dv).map (·.2))) hsz hv)
 have FC:ds.length=its.length:=by rw [DJ];exact ht.1.symm
 by_cases h2:its.toArray.size<2
 ·rw [if_pos h2]
  refine Qb (Qk ?_)
  rw [if_pos h2,StateT.run_pure]
  refine Qb (Qk ?_)
  have e:((arrOf (SortSt.mk' general' (its.toArray.zip its.toArray) #[] 7 none)).map (·.2))=its.toArray:=by
   show (its.toArray.zip its.toArray).map (·.2)=its.toArray
   rw [<- Array.toList_inj]
   simp [List.map_snd_zip]
  refine Du _ rfl (by rw [e,Qj];exact hz) ?_
  rw [e]
  rw [Qj] at h2
  unfold bX ck
  rw [if_pos (by rw [FC];exact h2),FC,DJ,sj]
  exact rv
 ·rw [if_neg h2]
  rw [Qj] at h2
  have hnn:∀ d∈ds,d≠[]:=fun d hd z=>Dp (by rw [<- DV d hd,z];rfl)
  obtain ⟨fs,kt,kl,kf⟩:=nI I3 rv ht hnn
  have hds:2<=its.length:=by lia
  obtain ⟨b0,sh',rfl⟩:∃ b r,sh=b::r:=by
   cases sh with
   | nil=>exact absurd rfl Dp
   | cons b r=>exact ⟨b,r,rfl⟩
  refine Qb (kat_kind (T:=if b0=true then Value.type "int" else Value.type "str") kt (by rw [kl,FC];lia) (fun v hv=>?_) (by cases b0<;>rfl) ?_)
  ·obtain ⟨i,hi⟩:=List.mem_iff_getElem?.mp hv
   have hil2:=(Qc hi).1
   have hid:i<ds.length:=by rw [<- kl];exact hil2
   obtain ⟨k,r,ed,rk⟩:=kf i v ds[i] hi (Qa hid)
   have hs:=DV ds[i] (QL hid)
   rw [ed,List.map_cons] at hs
   have hb:bn k=b0:=(List.cons.inj hs).1
   cases k with
   | inl m =>
    obtain ⟨t,rfl⟩:=(show ∃ t,v=Value.int m t from rk)
    rw [<- hb]
    exact fun A Q E s _ q=>Qk q
   | inr z =>
    obtain ⟨t,rfl⟩:=(show ∃ t,v=Value.str z t from rk)
    rw [<- hb]
    exact fun A Q E s _ q=>Qk q
  rw [if_neg (by rw [Qj];exact h2)]
  refine Qb (QV (si (vs:=its) (ks:=its) (lt:=eY ds) rfl hds (by rw [DJ,ht.1];exact nH DV) fun i j hi hj C hC=>?_) ?_ fun _ _ e=>e)
  ·have one:∀ i,i<its.length->∃ (t:Addr) (o:Obj) (vs:List Value) (m:Nat),its.getD i Value.none=.ref t/\s3.heap.get? t=some o/\o.data=.seq vs.toArray m/\ap ((ds.getD i []).map kV) vs/\(ds.getD i []).map bn=b0::sh':=fun i hi=>by
    have Ej:i<xs.length:=by rw [<- DJ];exact hi
    have hid:i<ds.length:=by rw [FC];exact hi
    obtain ⟨t,ex,hH⟩:=ht.2 i xs[i] ds[i] (Qa Ej) (Qa hid)
    obtain ⟨o,vs,m,ho,hc,hd,rd⟩:=jO I3 hH
    have rg:=ll rv i Ej
    have e1:xs.getD i .non=.ref t:=by rw [Qe,Qa Ej,ex];rfl
    have e2:ds.getD i []=ds[i]:=by rw [Qe,Qa hid];rfl
    rw [e1] at rg
    exact ⟨t,o,vs,m,rg,ho,hd,by rw [e2];exact rd,by rw [e2];exact DV _ (QL hid)⟩
   obtain ⟨t1,o1,v1,m1,a1,a2,a3,a4,a5⟩:=one i hi
   obtain ⟨t2,o2,v2,m2,c1,c2,c3,c4,c5⟩:=one j hj
   show wpAny (model X.prog X.w) A (keyLt' _ (its.getD i Value.none) (its.getD j Value.none)) C _ s3
   rw [a1,c1]
   have hl:v1.length=v2.length:=by
    have q1:=a4.length
    have q2:=c4.length
    have q3:=congrArg List.length (a5.trans c5.symm)
    simp only [Qd] at q1 q2 q3
    lia
   refine kat_lt a2 a3 c2 c3 ?_
   rw [Qi (by simp [hl])]
   exact nE 0 a4 c4 (a5.trans c5.symm) hC
  rintro ⟨⟨⟩,Dv⟩ s2 ⟨rfl,hf,hsz,ha⟩
  have hp:aT its.length (cO its.length (eY ds)):=nG _ (by lia)
  have em:((arrOf Dv).map (·.2)).toList=(cO its.length (eY ds)).toList.map fun i=>its.getD i Value.none:=by
   rw [ha,Array.toList_map,Array.toList_map,QZ]
   refine List.map_congr_left fun i _=>?_
   show (kas_item (its.toArray.zip its.toArray) i).2=_
   rw [kat_item rfl]
  refine Du Dv hf ?_ ?_
  ·rw [Array.size_map,hsz];exact hz
  ·rw [em]
   unfold bX ck
   rw [if_neg (by rw [FC];exact h2),FC]
   exact nJ rv _ fun i hi=>by rw [<- DJ];exact hp i hi
end
section
variable {X:Cx} {k:Nat} {f:Addr} {fd:FuncData} {ps:List Str} {sp:Sp} {dvs:List V} {ds:List Value} {Df:List (Addr × Obj)} {σ:St} {H:Hp} {s:Shared} {xs:List V} {DL:List (List ae)} {sh:List Bool}
theorem zW {A:Around} {E:Value->Shared->Prop} {a:Addr} {its:List Value} {n:Nat} {P:Fin->Shared->Prop} (F:aF X.prog X.w X.K X.mg X.base aG k f fd ps sp) (hr:ay k A)
  (hA:∀ s H,dD X.prog X.w X.K X.mg X.base X.A X.stack s H->dD X.prog X.w X.K X.mg X.base A X.stack s H) (hb:Binds X.K fd ps ds) (hd:ap dvs ds)
  (I:Inv X Df σ H s) (fa:cc X Df H a) (ho:s.heap.get? a=some (seqObj "list" its.toArray n)) (rv:ap xs its) (Gq:xs.length<64) (hl:DL.length=xs.length) (DV:∀ d∈DL,d.map bn=sh) (Dp:sh≠[])
  (hk:∀ (i:Nat) (x:V) (d:List ae) (H':Hp),Same H H'->xs[i]?=some x->DL[i]?=some d->∀ Q':VK,(∀ t H2,Same H' H2->H2 t=some (.tup (d.map kV))->Q' (.ref t) H2)->sp ([x]++dvs) H' Q' E0)
  (fin:∀ (s':Shared) (H':Hp) (out:Array Value) (n':Nat),Same H H'->H' a=none->Inv X Df σ H' s'->s'.heap.get? a=some (seqObj "list" out n')->out.size<=sizeLine->ap (bX DL xs) out.toList->P (.done (.ret .none)) s') :
  wpAny (model X.prog X.w) A (Builtin.«list.sort» ⟨[.ref a],[(Str.ofString "key",.ref f)]⟩) P E s:=by
 have DJ:its.length=xs.length:=rv.length.symm
 have hz:its.length<=sizeLine:=by rw [sizeLine_eq];lia
 refine bt fun _ γ=>?_;obtain ⟨f0,f1,f2,f3,f4,f5⟩:=id fa;refine γ ?_
 rw [rH]
 refine Qb (listItems_at ho rfl ?_)
 refine Qb (listUpdate_at ho rfl ?_ (by rw [Qj];exact hz) (by show (#[]:Array Value).size<=_;simp))
 obtain ⟨e1,EX⟩:∃ e1,(s.heap.update a (Obj.mapSeq fun _=>#[])).get? a=some (seqObj "list" #[] e1):=⟨_,get?_update_seq ho (fun _=>#[])⟩
 have I1:Inv X Df σ H { s with heap:=s.heap.update a (Obj.mapSeq fun _=>#[]) }:=I.turned (t':=s.toks) (fun b o hb e=>by rw [QO _ _ _ _ hb];exact e) f0 f1 f3 f4 f5
 generalize s.heap.update a (Obj.mapSeq fun _=>#[])=h1 at EX I1
 refine Qb (seqEpoch_at (s:={ s with heap:=h1 }) EX rfl ?_)
 refine Qb (wpAny_newTuple (s:={ s with heap:=h1 }) ?_ (by simpa using hz))
 have Et:=Qg (seqObj "tuple" its.toArray.toList.toArray 0) EX
 have I2:Inv X Df σ H { s with heap:=h1.push (seqObj "tuple" its.toArray.toList.toArray 0) }:=I1.kept (t':=s.toks) fun b o e=>Qg _ e
 change wpAny _ _ _ _ _ { s with heap:=h1.push (seqObj "tuple" its.toArray.toList.toArray 0) }
 generalize h1.push (seqObj "tuple" its.toArray.toList.toArray 0)=h2 at Et I2
 refine Qb (wpAny_newList (s:={ s with heap:=h2 }) ?_ (by simp))
 have Gb:=Qg (seqObj "list" #[] 0) Et
 have hK3:(h2.push (seqObj "list" #[] 0)).get? h2.objs.size=some (seqObj "list" #[] 0):=Qz _ rfl
 have fK:cc X Df H h2.objs.size:=I2.fpOk (Qf _) (I2.hok.fresh (Qf _))
 have naK:a≠h2.objs.size:=QB (Qs Et)
 have I3:Inv X Df σ H { s with heap:=h2.push (seqObj "list" #[] 0) }:=I2.kept (t':=s.toks) fun b o e=>Qg _ e
 change wpAny _ _ _ _ _ { s with heap:=h2.push (seqObj "list" #[] 0) }
 generalize h2.push (seqObj "list" #[] 0)=h3 at Gb hK3 I3
 dsimp only
 generalize h2.objs.size=K at hK3 fK naK
 refine bt fun _ γ=>?_;obtain ⟨g0,g1,g2,g3,g4,g5⟩:=id fK;refine γ ?_
 refine wpAny_holding ?_
 refine Qb (wpAny_rule ?_)
 refine Qb ?_
 rw [<- Array.forIn_toList]
 refine wpAny_forIn_list _ (fun Dr _ s'=>∃ (i:Nat) (kv:List Value) (kx:List V) (n':Nat) (H':Hp),Dr=its.drop i/\Same H H'/\H' a=none/\H' K=none/\Inv X Df σ H' s'/\s'.heap.get? a=some (seqObj "list" #[] e1)/\s'.heap.get? K=some (seqObj "list" kv.toArray n')/\ap kx kv/\bY H' kx (DL.take i)/\i<=its.length) _ ?_ ?_ _ _
  ⟨0,[],[],0,H,by simp,Same.refl _,f0,g0,I3,Gb,hK3,.nil,⟨by simp,fun i x d h=>by simp at h⟩,Qu _⟩
 ·rintro x Dr b s' hh;refine bt fun _ γ=>?_;obtain ⟨i,kv,kx,n',H1,er,sm,na1,nK1,I',FH,Gw,rk,tk,hi⟩:=hh;refine γ ?_
  have Do:i<its.length:=by
   have:=congrArg List.length er
   simp at this
   lia
  have e2:its[i]?=some x/\its.drop (i+1)=Dr:=by
   rw [List.drop_eq_getElem_cons Do] at er
   obtain ⟨z1,z2⟩:=List.cons.inj er
   exact ⟨by rw [Qa Do,z1],z2.symm⟩
  have Ej:i<xs.length:=by lia
  have hik:i<DL.length:=by lia
  obtain ⟨u,eu,ru⟩:=rv.get (Qa Ej)
  rw [e2.1] at eu
  cases eu
  have r1:ap ([xs[i]]++dvs) ([x]++ds):=ap.append (.cons ru .nil) hd
  have Fb:=hk i xs[i] DL[i] H1 sm (Qa Ej) (Qa hik) (fun v H2=>∃ t,v=.ref t/\Same H1 H2/\H2 t=some (.tup (DL[i].map kV))) fun t H2 a b=>⟨t,rfl,a,b⟩
  have Dj:([x]++ds).length=ps.length:=by rw [<- r1.length];exact F.len _ _ _ _ Fb
  have ho2':∀ b∈[a,K],∃ o,s'.heap.get? b=some o/\∀ v,o.data≠.cell v:=by
   intro b hb
   rcases Qn hb with z | z
   ·subst z;exact ⟨_,FH,fun v z=>nomatch z⟩
   ·have z:b=K:=by simpa using z
    subst z;exact ⟨_,Gw,fun v z=>nomatch z⟩
  have hf2:∀ b∈[a,K],cc X Df H1 b:=by
   intro b hb
   rcases Qn hb with z | z
   ·subst z;exact ⟨na1,fa.2⟩
   ·have z:b=K:=by simpa using z
    subst z;exact ⟨nK1,fK.2⟩
  have Ip:=I'.pinned hf2 ho2'
  refine Qb (wpAny_attempt ?_)
  refine wpAny_call (codeAny_mono (F.run A X.stack s' H1 ⟨[x],[]⟩ ([x]++ds) ([xs[i]]++dvs) _ E0 hr (hA _ _ I'.env0) (hb s' [x] I'.kIn Dj) r1 Fb) fun r s2 hq=>?_)
  cases r with
  | error e=>exact False.elim hq
  | ok fl =>
   cases fl with
   | next=>exact False.elim hq
   | brk=>exact False.elim hq
   | cont=>exact False.elim hq
   | ret u =>
    refine bt fun _ γ=>?_;obtain ⟨v,H2,os,bare,un,hok,rr,t,ev,sm2,D5⟩:=(show CE X.stack X.prog X.w H1 s' _ u s2 from hq);refine γ ?_
    subst ev
    cases (show u=Value.ref t from rr)
    have I2':=Ip.call' os un hok bare (fun b z=>absurd z (by simp))
    have pa:=I2'.pin (a,_) (Qx _ (Qx _ (fi (by simp) FH)))
    have pK:=I2'.pin (K,_) (Qx _ (Qx _ (fi (by simp) Gw)))
    have EA:=pa.1
    have G1:=pK.1
    have I3':=I2'.unpinned
    have FV:kx.length=i:=by
     have:=tk.1
     rw [QD] at this
     lia
    have D2:kv.length<=64:=by
     have:=rk.length
     lia
    dsimp only
    refine Qb (listUpdate_at G1 rfl ?_ (by rw [Qj,sizeLine_eq];lia) (by rw [Array.size_push,Qj,sizeLine_eq];lia))
    obtain ⟨n2,hn2⟩:∃ n2,(s2.heap.update K (Obj.mapSeq (·.push (Value.ref t)))).get? K=some (seqObj "list" (kv++[Value.ref t]).toArray n2):=⟨_,(get?_update_seq G1 (·.push (Value.ref t))).trans (by rw [List.push_toArray])⟩
    refine Qk ⟨i+1,kv++[Value.ref t],kx++[.ref t],n2,H2,e2.2.symm,sm.trans sm2,pa.2.1,pK.2.1,I3'.turned (t':=s2.toks) (fun b o hb e=>by rw [QO _ _ _ _ hb];exact e) pK.2.1 g1 g3 g4 g5,?_,hn2,rk.append (.cons (show RelV (.ref t) (Value.ref t) from rfl) .nil),?_,Do⟩
    ·show (s2.heap.update K _).get? a=_
     rw [QO _ _ _ _ naK];exact EA
    ·rw [Qm hik]
     refine ⟨by simp only [QK,QD,QR,List.length_nil];lia,fun j y d hy hd'=>?_⟩
     by_cases hj:j<i
     ·rw [Qp (by lia)] at hy
      rw [Qp (by rw [QD];lia)] at hd'
      obtain ⟨t',a1,a2⟩:=tk.2 j y d hy hd'
      exact ⟨t',a1,sm2 _ _ a2⟩
     ·rw [Ql (by lia)] at hy
      rw [Ql (by rw [QD];lia)] at hd'
      have hj2:=(Qc hy).1
      have hji:j-kx.length=0:=by simp at hj2;lia
      rw [hji] at hy
      rw [show j-(List.take i DL).length=0 by rw [QD];lia] at hd'
      have y1:V.ref t=y:=by simpa using hy
      have d1:DL[i]=d:=by simpa using hd'
      exact ⟨t,y1.symm,by rw [<- d1];exact D5⟩
 ·rintro b s' hh;refine bt fun _ γ=>?_;obtain ⟨i,kv,kx,n',H1,er,sm,na1,nK1,I',FH,Gw,rk,tk,hi⟩:=hh;refine γ ?_
  have hi':i=its.length:=by
   have:=congrArg List.length er
   simp at this
   lia
  have tk':bY H1 kx DL:=by
   rw [hi',Qv (by lia)] at tk
   exact tk
  have D2:kv.length=its.length:=by rw [<- rk.length,tk'.1];lia
  clear tk er hi hi'
  have FC:DL.length=its.length:=by lia
  refine Qb (listItems_at Gw rfl ?_)
  have Du:∀ Dv:SortSt,failedOf Dv=none->((arrOf Dv).map (·.2)).size=its.length->ap (bX DL xs) ((arrOf Dv).map (·.2)).toList->wpAny (model X.prog X.w) A (do
    Builtin.List.listUpdate (.ref K) fun _=>#[]
    letGo ((arrOf Dv).map (·.1)).toList (failedOf Dv).toList
    let touched:=(<- seqEpoch a) != e1
    Builtin.List.listUpdate (.ref a) fun _=>(arrOf Dv).map (·.2)
    if let some e:=failedOf Dv then rule "list.sort.comparison-raised";throw e
    if touched then rule "list.sort.modified";raiseError "ValueError" "list modified during sort"
    ret .none) P E s':=by
   intro Dv hf hsz vy
   refine Qb (listUpdate_at Gw rfl ?_ (by rw [Qj];lia) (by show (#[]:Array Value).size<=_;simp))
   refine Qb (wpAny_letGo ?_)
   have EA:(s'.heap.update K (Obj.mapSeq fun _=>#[])).get? a=some (seqObj "list" #[] e1):=by rw [QO _ _ _ _ naK];exact FH
   have I2:Inv X Df σ H1 { s' with heap:=s'.heap.update K (Obj.mapSeq fun _=>#[]) }:=I'.turned (t':=s'.toks) (fun b o hb e=>by rw [QO _ _ _ _ hb];exact e) nK1 g1 g3 g4 g5
   refine Qb (seqEpoch_at (s:={ s' with heap:=s'.heap.update K (Obj.mapSeq fun _=>#[]) }) EA rfl ?_)
   refine Qb (listUpdate_at (s:={ s' with heap:=s'.heap.update K (Obj.mapSeq fun _=>#[]) }) EA rfl ?_ (by simp) (by rw [hsz];lia))
   rw [hf]
   simp only [bne_self_eq_false,QT,if_false]
   exact Qk (fin _ H1 _ _ sm na1 (I2.turned (t':=s'.toks) (fun b o hb e=>by rw [QO _ _ _ _ hb];exact e) na1 f1 f3 f4 f5) (get?_update_seq EA (fun _=>(arrOf Dv).map (·.2))) (by show ((arrOf Dv).map (·.2)).size<=_;rw [hsz];exact hz) vy)
  by_cases h2:its.toArray.size<2
  ·rw [if_pos h2,if_pos h2]
   refine Qb (Qk ?_)
   rw [StateT.run_pure]
   refine Qb (Qk ?_)
   have e:((arrOf (SortSt.mk' general' (kv.toArray.zip its.toArray) #[] 7 none)).map (·.2))=its.toArray:=by
    show (kv.toArray.zip its.toArray).map (·.2)=its.toArray
    rw [<- Array.toList_inj]
    simp [List.map_snd_zip,D2]
   refine Du _ rfl (by rw [e,Qj]) ?_
   rw [e]
   rw [Qj] at h2
   unfold bX ck
   rw [if_pos (by rw [FC];exact h2),FC,DJ,sj]
   exact rv
  ·rw [if_neg h2,if_neg h2]
   rw [Qj] at h2
   have hnn:∀ d∈DL,d≠[]:=fun d hd z=>Dp (by rw [<- DV d hd,z];rfl)
   refine bt fun _ γ=>?_;obtain ⟨fs,kt,kl,kf⟩:=nI I' rk tk' hnn;refine γ ?_
   have hds:2<=its.length:=by lia
   obtain ⟨b0,sh',rfl⟩:∃ b r,sh=b::r:=by
    cases sh with
    | nil=>exact absurd rfl Dp
    | cons b r=>exact ⟨b,r,rfl⟩
   refine Qb (kat_kind (T:=if b0=true then Value.type "int" else Value.type "str") kt (by rw [kl,FC];lia) (fun v hv=>?_) (by cases b0<;>rfl) ?_)
   ·obtain ⟨i,hi⟩:=List.mem_iff_getElem?.mp hv
    have hil2:=(Qc hi).1
    have hid:i<DL.length:=by rw [<- kl];exact hil2
    refine bt fun _ γ=>?_;obtain ⟨k,r,ed,rk⟩:=kf i v DL[i] hi (Qa hid);refine γ ?_
    have hs:=DV DL[i] (QL hid)
    rw [ed,List.map_cons] at hs
    have hb:bn k=b0:=(List.cons.inj hs).1
    cases k with
    | inl m =>
     obtain ⟨t,rfl⟩:=(show ∃ t,v=Value.int m t from rk)
     rw [<- hb]
     exact fun A Q E s _ q=>Qk q
    | inr z =>
     obtain ⟨t,rfl⟩:=(show ∃ t,v=Value.str z t from rk)
     rw [<- hb]
     exact fun A Q E s _ q=>Qk q
   refine Qb (QV (si (vs:=its) (ks:=kv) (lt:=eY DL) D2 hds (by rw [DJ,<- hl];exact nH DV) fun i j hi hj C hC=>?_) ?_ fun _ _ e=>e)
   ·have one:∀ i,i<its.length->∃ (t:Addr) (o:Obj) (vs:List Value) (m:Nat),kv.getD i Value.none=.ref t/\s'.heap.get? t=some o/\o.data=.seq vs.toArray m/\ap ((DL.getD i []).map kV) vs/\(DL.getD i []).map bn=b0::sh':=fun i hi=>by
     have Ej:i<kx.length:=by rw [tk'.1,FC];exact hi
     have hid:i<DL.length:=by rw [FC];exact hi
     obtain ⟨t,ex,hH⟩:=tk'.2 i kx[i] DL[i] (Qa Ej) (Qa hid)
     refine bt fun _ γ=>?_;obtain ⟨o,vs,m,ho,hc,hd,rd⟩:=jO I' hH;refine γ ?_
     have rg:=ll rk i Ej
     have e1:kx.getD i .non=.ref t:=by rw [Qe,Qa Ej,ex];rfl
     have e2:DL.getD i []=DL[i]:=by rw [Qe,Qa hid];rfl
     rw [e1] at rg
     exact ⟨t,o,vs,m,rg,ho,hd,by rw [e2];exact rd,by rw [e2];exact DV _ (QL hid)⟩
    refine bt fun _ γ=>?_;obtain ⟨t1,o1,v1,m1,a1,a2,a3,a4,a5⟩:=one i hi;refine γ ?_
    refine bt fun _ γ=>?_;obtain ⟨t2,o2,v2,m2,c1,c2,c3,c4,c5⟩:=one j hj;refine γ ?_
    show wpAny (model X.prog X.w) A (keyLt' _ (kv.getD i Value.none) (kv.getD j Value.none)) C _ s'
    rw [a1,c1]
    have hl:v1.length=v2.length:=by
     have q1:=a4.length
     have q2:=c4.length
     have q3:=congrArg List.length (a5.trans c5.symm)
     simp only [Qd] at q1 q2 q3
     lia
    refine kat_lt a2 a3 c2 c3 ?_
    rw [Qi (by simp [hl])]
    exact nE 0 a4 c4 (a5.trans c5.symm) hC
   rintro ⟨⟨⟩,Dv⟩ s2 ⟨rfl,hf,hsz,ha⟩
   have hp:aT its.length (cO its.length (eY DL)):=nG _ (by lia)
   have em:((arrOf Dv).map (·.2)).toList=(cO its.length (eY DL)).toList.map fun i=>its.getD i Value.none:=by
    rw [ha,Array.toList_map,Array.toList_map,QZ]
    refine List.map_congr_left fun i _=>?_
    show (kas_item (kv.toArray.zip its.toArray) i).2=_
    rw [kat_item D2]
   refine Du Dv hf (by rw [Array.size_map,hsz]) ?_
   rw [em]
   unfold bX ck
   rw [if_neg (by rw [FC];exact h2),FC]
   exact nJ rv _ fun i hi=>by rw [<- DJ];exact hp i hi
theorem zX {Q:VK} {l:Addr} (F:aF X.prog X.w X.K X.mg X.base aG k f fd ps sp) (hr:ay (k+2) X.A) (hb:Binds X.K fd ps ds) (hd:ap dvs ds)
  (I:Inv X Df σ H s) (hq:aj X.K H l xs) (Gq:xs.length<64) (hl:DL.length=xs.length) (DV:∀ d∈DL,d.map bn=sh) (Dp:sh≠[])
  (hk:∀ (i:Nat) (x:V) (d:List ae) (H':Hp),Same H H'->xs[i]?=some x->DL[i]?=some d->∀ Q':VK,(∀ t H2,Same H' H2->H2 t=some (.tup (d.map kV))->Q' (.ref t) H2)->sp ([x]++dvs) H' Q' E0)
  (q:∀ p H',Same H H'->H' p=none->Q (.ref p) (upd H' p (.lst (bX DL xs)))) :
  wpAny (model X.prog X.w) X.A (call (.builtin "sorted") [.ref l] [(Str.ofString "key",.ref f)]) (EP X Df σ Q) X.xe s:=by
 obtain ⟨its,rv,pl,hz⟩:=I.list hq
 have DJ:its.length=xs.length:=rv.length.symm
 refine call_function_entry_kw kind_sorted plain_sorted entry_sorted (rG _ _) ?_
 unfold Builtin.«sorted»
 refine Qb (m:=checkCount "sorted" 1 1 _) (Qk ?_)
 refine Qb (collect_list pl.isList ?_ (by rw [DJ];exact hz))
 have I1:Inv X Df σ H { s with heap:=(s.heap.push (seqObj "list" #[] 0)).update s.heap.objs.size (Obj.mapSeq (·++its.toArray)) }:=I.kept (t':=s.toks) fun b o e=>by
  rw [QO _ _ _ _ (QB (Qs e))]
  exact Qg _ e
 generalize (s.heap.push (seqObj "list" #[] 0)).update s.heap.objs.size (Obj.mapSeq (·++its.toArray))=h1 at I1
 refine Qb (wpAny_newList (s:={ s with heap:=h1 }) ?_ (by rw [DJ];exact hz))
 have Fy:(h1.push (seqObj "list" its.toArray 0)).get? h1.objs.size=some (seqObj "list" its.toArray 0):=Qz _ rfl
 have I2:Inv X Df σ H { s with heap:=h1.push (seqObj "list" its.toArray 0) }:=I1.kept (t':=s.toks) fun b o e=>Qg _ e
 have fL:cc X Df H h1.objs.size:=I1.fpOk (Qf _) (I1.hok.fresh (Qf _))
 change wpAny _ _ _ _ _ { s with heap:=h1.push (seqObj "list" its.toArray 0) }
 dsimp only
 generalize h1.push (seqObj "list" its.toArray 0)=h2 at Fy I2
 generalize h1.objs.size=L at Fy fL
 have EF:ay k X.A.in1.in1:=(ay.in1 (k:=k+1) hr).in1
 refine Qb (wpAny_holding (wpAny_call_entry_kw (s:={ s with heap:=h2 }) slot_list_sort ⟨_,Fy,rfl⟩ entry_list_sort (zW F EF (fun _ _ e=>e.in1.in1) hb hd I2 fL Fy rv Gq hl DV Dp hk fun s' H' out n' sm nL I' FH Es vy=>⟨_,rfl,?_⟩) (rF _ _)))
 refine Qk ⟨_,rfl,.ref L,upd H' L (.lst (bX DL xs)),I'.adopt ⟨nL,fL.2⟩ ?_,rfl,q L H' sm nL⟩
 have D8:(bX DL xs).length<=sizeLine:=by rw [vy.length,QA];exact Es
 exact ⟨D8,out.toList,n',vy,by simpa using FH⟩
end
def zY (sp:Sp) (dvs:List V) (K:PySem.W.Frag) (t:TE):TE:=fun σ H Q=>t σ H fun x H1=>∃ (l:Addr) (xs:List V) (DL:List (List ae)) (sh:List Bool),x=.ref l/\aj K H1 l xs/\xs.length<64/\DL.length=xs.length/\(∀ d∈DL,d.map bn=sh)/\sh≠[] /\
 (∀ (i:Nat) (x:V) (d:List ae) (H':Hp),Same H1 H'->xs[i]?=some x->DL[i]?=some d->∀ Q':VK,(∀ t H2,Same H' H2->H2 t=some (.tup (d.map kV))->Q' (.ref t) H2)->sp ([x]++dvs) H' Q' E0)/\∀ p H',Same H1 H'->H' p=none->Q (.ref p) (upd H' p (.lst (bX DL xs)))
theorem zZ {X:Cx} {k:Nat} {f:Addr} {fd:FuncData} {ps:List Str} {sp:Sp} {dvs:List V} {ds:List Value} {K:PySem.W.Frag} {e:Expr} {t:TE} {y:Str} {p p2 p3 pos:Pos} (hK:X.K=K) (F:aF X.prog X.w X.K X.mg X.base aG k f fd ps sp) (hr:ay (k+2) X.A) (hb:Binds X.K fd ps ds) (hd:ap dvs ds)
  (hg:Gl X "sorted") (hm:X.mg "sorted"=none) (hgf:Gl X y) (hmf:X.mg y=some (.ref f)) (he:PE X e t) (hy:(y == ("__debug__":Str))=false:=by decide)
  (hs:starEach [e] X.env=(false,eval e X.env)::starEach [] X.env:=by rfl) :
  PE X (.Call (.Name "sorted" p) [e] [⟨some "key",.Name y p2,p3⟩] pos) (zY sp dvs K t):=by
 intro Df s σ H Q I h
 subst hK
 refine wpAny_Call_Name_kw (gF I hg hm (show bootBuiltins "sorted"=some (.builtin "sorted") from by decide +kernel) ?_)
 refine callWith_kw ?_ (by rw [hs];rfl) (by rw [hs];rfl)
 rw [hs]
 show wpAny _ _ (spliced ((false,eval e X.env)::backTo pos (starEach [] X.env))) _ _ s
 refine Calls.spliced_cons (aE (he Df s σ H _ I h) fun u s1 ⟨x,H1,I1,r1,q1⟩=>Calls.spliced_nil ?_)
 obtain ⟨l,xs,DL,sh,e1,hq,Gq,hl,DV,Dp,hk,q⟩:=q1
 subst e1
 cases (show u=Value.ref l from r1)
 refine aE ((qr (te:=fun _ H Q=>Q (.ref f) H) (fun Df s σ H Q I h=>ko I hgf hmf ⟨.ref f,H,I,rfl,h⟩ hy) qq) pos Df s1 σ H1 (fun zs H2=>zs=[.ref f]/\H2=H1) I1 ⟨rfl,rfl⟩) fun ws s2 hsl54=>?_
 obtain ⟨zs,H2,I2,rz,ez,eH⟩:=hsl54
 subst ez eH
 obtain ⟨u,rfl,ru⟩:=vals1 rz
 cases (show u=Value.ref f from ru)
 exact zX F hr hb hd I2 hq Gq hl DV Dp hk q
end L2
namespace L2
open PySem PySem.Spec PyProof.Rows
noncomputable def nK (z:Str) (i:Nat):V:=.str ⟨#[z.cps.toList.getD i 0]⟩
theorem z0 {P:Program} {w:World} {K:PySem.W.Frag} {tg:Expr} (it:Addr) (z:Str) (t:Tok) :
  fX P w K tg (m7 z.length (nK z)) [it] it (fun i h=>i<=z.length/\h.IsStrIter it "str_ascii_iterator" z t i) where
 mem:=by simp
 obj:=fun i h st b hb=>by
  have e:b=it:=by simpa using hb
  subst e
  obtain ⟨_,o,e,c,d⟩:=st
  exact ⟨o,e,fun v z=>by rw [d] at z;cases z⟩
 keep:=fun i h h' st k=>⟨st.1,by obtain ⟨o,e,r⟩:=st.2;exact ⟨o,k it (by simp) o e,r⟩⟩
 item:=by
  intro X hP hw hK hc i Df s σ H E I hf st hg
  subst hP hw hK
  have hg:i<z.length:=hg
  obtain ⟨f0,f1,f2,f3,f4,f5⟩:=hf it (by simp)
  have hl:z.cps.toList.length=z.length:=by simp [Str.length]
  have hcc:z.cps[i]?=some (z.cps.toList.getD i 0):=by
   rw [Qe,Qa (by lia),<- Array.getElem?_toList,Qa (by lia)];rfl
  refine wpAny_pyNext_ascii_item st.2 hcc fun h' Dv sb=>?_
  have I1:Inv X Df σ H { s with heap:=h',toks:=s.toks+1 }:=I.turned (fun b o hb e=>(sb.2 b hb).trans e) f0 f1 f3 f4 f5
  obtain ⟨o,e,c,d⟩:=id Dv
  exact ⟨_,rfl,ky (s:={ s with heap:=h',toks:=s.toks+1 }) e c d (by decide) ⟨nK z i,H,I1,⟨s.toks,rfl⟩,⟨rfl,rfl⟩,⟨hg,Dv⟩,fun b hb=>(hf b hb).1⟩⟩
 done:=by
  intro X hP hw hK hc i Df s σ H E I hf st hg
  subst hP hw hK
  have hg:z.length<=i:=hg
  obtain ⟨f0,f1,f2,f3,f4,f5⟩:=hf it (by simp)
  exact wpAny_pyNext_ascii_end (I.ok.hd hc) st.2 (Array.getElem?_eq_none (by show z.length<=i;exact hg)) fun h' eb=>⟨rfl,I.turned (t':=s.toks) (fun b o hb e=>eb b o hb e) f0 f1 f3 f4 f5⟩
 self:=fun _ _ _ _ _ st h=>wpAny_pyIter_striter_ascii st.2 h
section
variable {X:Cx} {tg:Expr}
def z4 (te:TE):TI:=fun σ H R=>te σ H fun x H1=>∃ z:Str,x=.str z/\z.cps.all (·<128)=true/\R (m7 z.length (nK z)) H1
theorem z5 {e:Expr} {te:TE} (he:PE X e te):PI X tg e (z4 te):=by
 intro Df s σ H R I h
 refine aE (he Df s σ H _ I h) fun v s1 hsl55=>?_
 obtain ⟨x,H1,I1,r1,q1⟩:=hsl55
 obtain ⟨z,e,ha,q⟩:=q1
 subst e
 obtain ⟨t,rfl⟩:=r1
 refine wpAny_pyIter_ascii ha ?_
 refine ⟨s1.heap.objs.size,[s1.heap.objs.size],_,_,H1,rfl,I1.kept (t':=s1.toks) fun b o e=>Qg _ e,z0 _ z t,⟨Qu _,_,Qz _ rfl,rfl,rfl⟩,fun b hb=>?_,q⟩
 have e:b=s1.heap.objs.size:=by simpa using hb
 subst e
 exact I1.fpOk (Qf _) (I1.hok.fresh (Qf _))
end
section
variable {X:Cx}
theorem jP {K:PySem.W.Frag} (hK:X.K=K):bD X (compareOp .In) (jy K false):=by subst hK;exact yj
theorem z6 {K:PySem.W.Frag} (hK:X.K=K):bD X (compareOp .NotIn) (jy K true):=by subst hK;exact yk
end
section
variable {js:List Nat} {tt:TT} {te:TE}
theorem z7 {n:Nat} {y:Nat->V} {σ:St} {H:Hp} {Q:VK} (Pv:Nat->List V->Hp->Prop) (h0:Pv 0 [] H)
  (hs:∀ i ys H,i<n->Pv i ys H->tt (some (y i)::cg js σ) H fun b H2=>if b=true then te (some (y i)::cg js σ) H2 fun z H3=>ys.length<sizeLine/\Pv (i+1) (ys++[z]) H3 else Pv (i+1) ys H2)
  (hd:∀ ys H,Pv n ys H->∀ p,H p=none->Q (.ref p) (upd H p (.lst ys))):gi (m7 n y) js tt te σ H Q:=by
 refine ⟨fun i m ys H=>i+m=n/\Pv i ys H,⟨n,by simp,h0⟩,?_⟩
 rintro i m ys H1 ⟨e,q⟩
 rcases Nat.lt_or_ge i n with Do | EZ
 ·refine .inr ⟨Do,fun EV H'=>Pv (i+1) EV H',fun EV H' q'=>⟨m-1,by lia,by lia,q'⟩,?_⟩
  rintro x H' ⟨rfl,rfl⟩
  exact hs i ys _ Do q
 ·have:i=n:=by lia
  subst this
  exact .inl ⟨EZ,hd ys H1 q⟩
end
end L2
namespace Mm
open PySem L2 PyProof.Rows
noncomputable def sk:List Str:=["+","-","*","less","same","and","or"]
inductive Ex where
 | num (n:Int)
 | truth (z:Str)
 | name (z:Str)
 | not (e:Ex)
 | op (w:Str) (a b:Ex)
 | of (n:Str) (e:Ex)
 | many (w n:Str) (es:List Ex)
mutual
inductive bo (H:Hp):V->Ex->Prop where
 | num {t:Addr} {n:Int}:H t=some (.tup [.str "num",.int n])->bo H (.ref t) (.num n)
 | truth {t:Addr} {z:Str}:H t=some (.tup [.str "truth",.str z])->bo H (.ref t) (.truth z)
 | name {t:Addr} {z:Str}:H t=some (.tup [.str "name",.str z])->bo H (.ref t) (.name z)
 | not {t:Addr} {v:V} {e:Ex}:H t=some (.tup [.str "not",v])->bo H v e->bo H (.ref t) (.not e)
 | op {t:Addr} {z:Str} {v u:V} {a b:Ex}:H t=some (.tup [.str z,v,u])->bo H v a->bo H u b->bo H (.ref t) (.op z a b)
 | of {t:Addr} {n:Str} {v:V} {e:Ex}:H t=some (.tup [.str "of",.str n,v])->bo H v e->bo H (.ref t) (.of n e)
 | many {t l:Addr} {z n:Str} {vs:List V} {es:List Ex}:H t=some (.tup [.str z,.str n,.ref l])->H l=some (.tup vs)->ExsAt H vs es->bo H (.ref t) (.many z n es)
inductive ExsAt (H:Hp):List V->List Ex->Prop where
 | nil:ExsAt H [] []
 | cons {v:V} {vs:List V} {e:Ex} {es:List Ex}:bo H v e->ExsAt H vs es->ExsAt H (v::vs) (e::es)
end
def nM (H H':Hp):Prop:=∀ b xs,H b=some (.tup xs)->H' b=some (.tup xs)
mutual
theorem bo.kept {H H':Hp} (s:nM H H'):∀ {v:V} {e:Ex},bo H v e->bo H' v e
 | _,_,.num h=>.num (s _ _ h)
 | _,_,.truth h=>.truth (s _ _ h)
 | _,_,.name h=>.name (s _ _ h)
 | _,_,.not h a=>.not (s _ _ h) (a.kept s)
 | _,_,.op h a b=>.op (s _ _ h) (a.kept s) (b.kept s)
 | _,_,.of h a=>.of (s _ _ h) (a.kept s)
 | _,_,.many h l a=>.many (s _ _ h) (s _ _ l) (a.kept s)
theorem ExsAt.kept {H H':Hp} (s:nM H H'):∀ {vs:List V} {es:List Ex},ExsAt H vs es->ExsAt H' vs es
 | _,_,.nil=>.nil
 | _,_,.cons a b=>.cons (a.kept s) (b.kept s)
end
theorem _root_.L2.Same.tups {H H':Hp} (s:Same H H'):nM H H':=fun _ _ h=>s _ _ h
end Mm
namespace L2
open PySem PySem.Spec PyProof.Rows PySem.W
theorem z8 {X:Cx} {K:PySem.W.Frag} (hK:X.K=K):bD X (binaryOp .Add) (mQ K):=by subst hK;exact kH
theorem z9:bootBuiltins "sorted"=some (.builtin "sorted"):=by decide +kernel
theorem jQ (ds:List (List ae)):(ck ds).length=ds.length:=by
 unfold ck
 split
 ·simp
 ·rw [QA]
  exact sf _ _
end L2
namespace Mm
open PySem L2 PyProof.Rows
inductive Tr where
 | set (m r:Nat) (n:Str) (e:Ex)
 | tell (m r:Nat) (e:Ex)
 | iff (m r:Nat) (e:Ex) (b o:List Tr)
 | whl (m r:Nat) (e:Ex) (b:List Tr)
 | give (m r:Nat) (e:Ex)
 | df (m r:Nat) (n k:Str) (ps:List (Str × Str)) (b:List Tr)
 | kd (m r:Nat) (n:Str) (ps:List (Str × Str))
noncomputable def Tr.mask:Tr->Nat
 | .set m _ _ _=>m
 | .tell m _ _=>m
 | .iff m _ _ _ _=>m
 | .whl m _ _ _=>m
 | .give m _ _=>m
 | .df m _ _ _ _ _=>m
 | .kd m _ _ _=>m
noncomputable def Tr.row:Tr->Nat
 | .set _ r _ _=>r
 | .tell _ r _=>r
 | .iff _ r _ _ _=>r
 | .whl _ r _ _=>r
 | .give _ r _=>r
 | .df _ r _ _ _ _=>r
 | .kd _ r _ _=>r
mutual
noncomputable def Tr.deep:Tr->Nat
 | .set _ _ _ _=>0
 | .tell _ _ _=>0
 | .iff _ _ _ b o=>max (deeps b) (deeps o)
 | .whl _ _ _ b=>deeps b
 | .give _ _ _=>0
 | .df _ _ _ _ _ b=>deeps b
 | .kd _ _ _ _=>0
noncomputable def deeps:List Tr->Nat
 | []=>0
 | t::ts=>max (t.deep+1) (deeps ts)
end
inductive aP where
 | s (z:Str)
 | i (n:Nat)
 | e (x:Ex)
 | b (ts:List Tr)
 | p (ps:List (Str × Str))
noncomputable def Tr.parts:Tr->List aP
 | .set _ r n e=>[.s "set",.i r,.s n,.e e]
 | .tell _ r e=>[.s "tell",.i r,.e e]
 | .iff _ r e b o=>[.s "if",.i r,.e e,.b b,.b o]
 | .whl _ r e b=>[.s "while",.i r,.e e,.b b]
 | .give _ r e=>[.s "give",.i r,.e e]
 | .df _ r n k ps b=>[.s "def",.i r,.s n,.s k,.p ps,.b b]
 | .kd _ r n ps=>[.s "kind",.i r,.s n,.p ps]
theorem Tr.parts_len (t:Tr):t.parts.length<=6:=by cases t<;>simp [Tr.parts]
def dw (H:Hp) (v:V) (ps:List (Str × Str)):Prop:=∃ (t:Addr) (us:List Addr),v=.ref t/\H t=some (.tup (us.map V.ref))/\us.length=ps.length/\∀ (i:Nat) (u:Addr) (q:Str × Str),us[i]?=some u->ps[i]?=some q->H u=some (.tup [.str q.1,.str q.2])
mutual
inductive bz (H:Hp) (sh:Bool):V->Tr->Prop where
 | mk {t:Addr} {vs:List V} {x:Tr}:H t=some (.tup vs)->PsAt H sh vs x.parts->bz H sh (.ref t) x
inductive PsAt (H:Hp) (sh:Bool):List V->List aP->Prop where
 | nil:PsAt H sh [] []
 | cons {v:V} {vs:List V} {p:aP} {ps:List aP}:PAt H sh v p->PsAt H sh vs ps->PsAt H sh (v::vs) (p::ps)
inductive PAt (H:Hp) (sh:Bool):V->aP->Prop where
 | s (z:Str):PAt H sh (.str z) (.s z)
 | i (n:Nat):PAt H sh (.int (n:Int)) (.i n)
 | e {v:V} {x:Ex}:bo H v x->PAt H sh v (.e x)
 | b {l:Addr} {xs:List V} {ts:List Tr}:H l=some (.lst xs)->LAt H sh xs ts->PAt H sh (.ref l) (.b ts)
 | p {v:V} {ps:List (Str × Str)}:dw H v ps->PAt H sh v (.p ps)
inductive LAt (H:Hp) (sh:Bool):List V->List Tr->Prop where
 | nil:LAt H sh [] []
 | cons {v:V} {vs:List V} {t:Tr} {ts:List Tr}:OAt H sh v t->LAt H sh vs ts->LAt H sh (v::vs) (t::ts)
inductive OAt (H:Hp) (sh:Bool):V->Tr->Prop where
 | plain {v:V} {t:Tr}:sh=false->t.mask=1->bz H sh v t->OAt H sh v t
 | shared {p:Addr} {v:V} {t:Tr}:sh=true->H p=some (.tup [.int ((t.mask:Nat):Int),v])->bz H sh v t->OAt H sh (.ref p) t
end
structure bI (H H':Hp):Prop where
 t:∀ b xs,H b=some (.tup xs)->H' b=some (.tup xs)
 l:∀ b xs,H b=some (.lst xs)->H' b=some (.lst xs)
 z:∀ b o x,H b=some (.frz o x)->H' b=some (.frz o x)
 b:∀ b ps,H b=some (.tbl ps)->H' b=some (.tbl ps)
theorem bI.refl (H:Hp):bI H H:=⟨fun _ _ h=>h,fun _ _ h=>h,fun _ _ _ h=>h,fun _ _ h=>h⟩
theorem bI.trans {H H1 H2:Hp} (a:bI H H1) (b:bI H1 H2):bI H H2:=⟨fun _ _ h=>b.1 _ _ (a.1 _ _ h),fun _ _ h=>b.2 _ _ (a.2 _ _ h),fun _ _ _ h=>b.z _ _ _ (a.z _ _ _ h),fun _ _ h=>b.b _ _ (a.b _ _ h)⟩
theorem bI.seq {K:PySem.W.Frag} {H H':Hp} (s:bI H H') {a:Addr} {xs:List V} (h:aj K H a xs):aj K H' a xs:=by
 rcases h with (h | ⟨o,h⟩) | h
 ·exact .inl (.inl (s.2 _ _ h))
 ·exact .inl (.inr ⟨o,s.z _ _ _ h⟩)
 ·exact .inr h
theorem _root_.L2.Same.ls {H H':Hp} (s:Same H H'):bI H H':=⟨fun _ _ h=>s _ _ h,fun _ _ h=>s _ _ h,fun _ _ _ h=>s _ _ h,fun _ _ h=>s _ _ h⟩
structure gp (H H':Hp):Prop where
 t:∀ b xs,H b=some (.tup xs)->H' b=some (.tup xs)
 l:∀ b xs,H b=some (.lst xs)->H' b=some (.lst xs)
theorem bI.w {H H':Hp} (s:bI H H'):gp H H':=⟨s.1,s.2⟩
theorem dw.keep {H H':Hp} {v:V} {ps:List (Str × Str)} (h:dw H v ps) (s:gp H H'):dw H' v ps:=by obtain ⟨t,us,a,b,c,d⟩:=h;exact ⟨t,us,a,s.1 _ _ b,c,fun i u q x y=>s.1 _ _ (d i u q x y)⟩
mutual
theorem bz.keep {H H':Hp} {sh:Bool} (s:gp H H'):∀ {v:V} {t:Tr},bz H sh v t->bz H' sh v t
 | _,_,.mk h a=>.mk (s.1 _ _ h) (a.keep s)
theorem PsAt.keep {H H':Hp} {sh:Bool} (s:gp H H'):∀ {vs:List V} {ps:List aP},PsAt H sh vs ps->PsAt H' sh vs ps
 | _,_,.nil=>.nil
 | _,_,.cons a b=>.cons (a.keep s) (b.keep s)
theorem PAt.keep {H H':Hp} {sh:Bool} (s:gp H H'):∀ {v:V} {p:aP},PAt H sh v p->PAt H' sh v p
 | _,_,.s z=>.s z
 | _,_,.i n=>.i n
 | _,_,.e a=>.e (a.kept s.1)
 | _,_,.b l a=>.b (s.2 _ _ l) (a.keep s)
 | _,_,.p a=>.p (a.keep s)
theorem LAt.keep {H H':Hp} {sh:Bool} (s:gp H H'):∀ {vs:List V} {ts:List Tr},LAt H sh vs ts->LAt H' sh vs ts
 | _,_,.nil=>.nil
 | _,_,.cons a b=>.cons (a.keep s) (b.keep s)
theorem OAt.keep {H H':Hp} {sh:Bool} (s:gp H H'):∀ {v:V} {t:Tr},OAt H sh v t->OAt H' sh v t
 | _,_,.plain e m a=>.plain e m (a.keep s)
 | _,_,.shared e h a=>.shared e (s.1 _ _ h) (a.keep s)
end
theorem dw.kept {H H':Hp} {v:V} {ps:List (Str × Str)} (h:dw H v ps) (s:bI H H'):dw H' v ps:=h.keep s.w
theorem bz.kept {H H':Hp} {sh:Bool} (s:bI H H') {v:V} {t:Tr} (h:bz H sh v t):bz H' sh v t:=h.keep s.w
theorem PsAt.kept {H H':Hp} {sh:Bool} (s:bI H H') {vs:List V} {ps:List aP} (h:PsAt H sh vs ps):PsAt H' sh vs ps:=h.keep s.w
theorem PAt.kept {H H':Hp} {sh:Bool} (s:bI H H') {v:V} {p:aP} (h:PAt H sh v p):PAt H' sh v p:=h.keep s.w
theorem LAt.kept {H H':Hp} {sh:Bool} (s:bI H H') {vs:List V} {ts:List Tr} (h:LAt H sh vs ts):LAt H' sh vs ts:=h.keep s.w
theorem OAt.kept {H H':Hp} {sh:Bool} (s:bI H H') {v:V} {t:Tr} (h:OAt H sh v t):OAt H' sh v t:=h.keep s.w
theorem PsAt.length {H:Hp} {sh:Bool}:∀ {vs:List V} {ps:List aP},PsAt H sh vs ps->vs.length=ps.length
 | _,_,.nil=>rfl
 | _,_,.cons _ b=>by simp [b.length]
theorem PsAt.get {H:Hp} {sh:Bool}:∀ {vs:List V} {ps:List aP},PsAt H sh vs ps->∀ {i:Nat} {v:V},vs[i]?=some v->∃ p,ps[i]?=some p/\PAt H sh v p
 | _,_,.nil,i,v,h=>by simp at h
 | _,_,.cons a b,0,v,h=>by
  cases (show some _=some v from h)
  exact ⟨_,rfl,a⟩
 | _,_,.cons a b,i+1,v,h=>b.get h
theorem PsAt.snoc {H:Hp} {sh:Bool}:∀ {vs:List V} {ps:List aP} {v:V} {p:aP},PsAt H sh vs ps->PAt H sh v p->PsAt H sh (vs++[v]) (ps++[p])
 | _,_,_,_,.nil,h=>.cons h .nil
 | _,_,_,_,.cons a b,h=>.cons a (b.snoc h)
theorem PAt.other {H:Hp} {sh sh':Bool} {v:V} {p:aP} (h:PAt H sh v p) (n:∀ ts,p≠.b ts):PAt H sh' v p:=by
 cases h with
 | s z=>exact .s z
 | i m=>exact .i m
 | e a=>exact .e a
 | b _ _=>exact absurd rfl (n _)
 | p a=>exact .p a
theorem bo.tup {H:Hp} {v:V} {e:Ex} (h:bo H v e):∃ t xs,v=.ref t/\H t=some (.tup xs):=by
 cases h with
 | num h=>exact ⟨_,_,rfl,h⟩
 | truth h=>exact ⟨_,_,rfl,h⟩
 | name h=>exact ⟨_,_,rfl,h⟩
 | not h _=>exact ⟨_,_,rfl,h⟩
 | op h _ _=>exact ⟨_,_,rfl,h⟩
 | of h _=>exact ⟨_,_,rfl,h⟩
 | many h _ _=>exact ⟨_,_,rfl,h⟩
theorem Aa (K:PySem.W.Frag):PySem.W.kitOne K (.type "int") (.type "list")=some false:=by rfl
theorem Ab (K:PySem.W.Frag):PySem.W.kitOne K (.type "str") (.type "list")=some false:=by rfl
theorem sn (K:PySem.W.Frag):PySem.W.kitOne K (.type "tuple") (.type "list")=some false:=by rfl
theorem PAt.isL {K:PySem.W.Frag} {H:Hp} {sh:Bool} {v:V} {p:aP} (h:PAt H sh v p):(∃ ts l xs,p=.b ts/\v=.ref l/\H l=some (.lst xs)/\LAt H sh xs ts/\cN K H v (.type "list")/\PySem.W.kitOne K (.type "list") (.type "list")=some true) ∨
  (∀ ts,p≠.b ts)/\∃ t,cN K H v t/\PySem.W.kitOne K t (.type "list")=some false:=by
 cases h with
 | s z=>exact .inr ⟨fun _ h=>(nomatch h),_,.str z,Ab K⟩
 | i n=>exact .inr ⟨fun _ h=>(nomatch h),_,.int _,Aa K⟩
 | e a =>
  obtain ⟨t,xs,rfl,ht⟩:=bo.tup a
  exact .inr ⟨fun _ h=>(nomatch h),_,.tup ht,sn K⟩
 | b h a=>exact .inl ⟨_,_,_,rfl,rfl,h,a,.lst h,by rfl⟩
 | p a =>
  obtain ⟨t,us,rfl,ht,_⟩:=a
  exact .inr ⟨fun _ h=>(nomatch h),_,.tup ht,sn K⟩
theorem LAt.length {H:Hp} {sh:Bool}:∀ {vs:List V} {ts:List Tr},LAt H sh vs ts->vs.length=ts.length
 | _,_,.nil=>rfl
 | _,_,.cons _ b=>by simp [b.length]
theorem LAt.get {H:Hp} {sh:Bool}:∀ {vs:List V} {ts:List Tr},LAt H sh vs ts->∀ {i:Nat} {v:V},vs[i]?=some v->∃ t,ts[i]?=some t/\OAt H sh v t
 | _,_,.nil,i,v,h=>by simp at h
 | _,_,.cons a b,0,v,h=>by
  cases (show some _=some v from h)
  exact ⟨_,rfl,a⟩
 | _,_,.cons a b,i+1,v,h=>b.get h
theorem LAt.snoc {H:Hp} {sh:Bool}:∀ {vs:List V} {ts:List Tr} {v:V} {t:Tr},LAt H sh vs ts->OAt H sh v t->LAt H sh (vs++[v]) (ts++[t])
 | _,_,_,_,.nil,h=>.cons h .nil
 | _,_,_,_,.cons a b,h=>.cons a (b.snoc h)
mutual
noncomputable def Tr.cnt:Tr->Nat
 | .set _ _ _ _=>1
 | .tell _ _ _=>1
 | .iff _ _ _ b o=>1+(cnts b+cnts o)
 | .whl _ _ _ b=>1+cnts b
 | .give _ _ _=>1
 | .df _ _ _ _ _ b=>1+cnts b
 | .kd _ _ _ _=>1
noncomputable def cnts:List Tr->Nat
 | []=>0
 | t::ts=>t.cnt+cnts ts
end
mutual
noncomputable def Ex.deep:Ex->Nat
 | .num _=>0
 | .truth _=>0
 | .name _=>0
 | .not e=>e.deep+1
 | .op _ a b=>max a.deep b.deep+1
 | .of _ e=>e.deep+1
 | .many _ _ es=>eZ es+1
noncomputable def eZ:List Ex->Nat
 | []=>0
 | e::es=>max e.deep (eZ es)
end
mutual
def Ex.good:Ex->Prop
 | .num _=>True
 | .truth _=>True
 | .name _=>True
 | .not e=>e.good
 | .op w a b=>w∈sk/\a.good/\b.good
 | .of _ e=>e.good
 | .many w _ es=>(w="do"∨w="new")/\es.length<=20/\lm es
def lm:List Ex->Prop
 | []=>True
 | e::es=>e.good/\lm es
end
theorem sr:∀ {es:List Ex} {e:Ex},e∈es->e.deep<=eZ es
 | x::es,e,h=>by
  rcases Qn h with z | z
  ·subst z;simp [eZ];lia
  ·have:=sr z;simp [eZ];lia
theorem ss:∀ {es:List Ex} {e:Ex},lm es->e∈es->e.good
 | x::es,e,g,h=>by
  rcases Qn h with z | z
  ·subst z;exact g.1
  ·exact ss g.2 z
def Ex.fit (e:Ex):Prop:=e.good/\e.deep<8
def c6 (m:Nat) (ts:List Tr):Prop:=∀ t∈ts,t.mask &&& m=t.mask
def bK (m:Nat):Prop:=0<m/\m<256
def c7 (t u:Tr):Prop:=t.row<=u.row/\(t.row=u.row->t.mask &&& u.mask=0)
mutual
def Tr.asc:Tr->Prop
 | .set _ _ _ e=>e.fit
 | .tell _ _ e=>e.fit
 | .iff m _ e b o=>e.fit/\(b.length<=40/\c6 m b/\ascs b)/\o.length<=40/\c6 m o/\ascs o
 | .whl m _ e b=>e.fit/\b.length<=40/\c6 m b/\ascs b
 | .give _ _ e=>e.fit
 | .df m _ _ _ ps b=>ps.length<=20/\b.length<=40/\c6 m b/\ascs b
 | .kd _ _ _ ps=>ps.length<=20
def ascs:List Tr->Prop
 | []=>True
 | t::ts=>bK t.mask/\t.asc/\(∀ u∈ts,c7 t u)/\ascs ts
end
theorem ExsAt.get {H:Hp}:∀ {vs:List V} {es:List Ex},ExsAt H vs es->∀ {i:Nat} {v:V},vs[i]?=some v->∃ e,es[i]?=some e/\bo H v e
 | _,_,.nil,i,v,h=>by simp at h
 | _,_,.cons a b,0,v,h=>by
  cases (show some _=some v from h)
  exact ⟨_,rfl,a⟩
 | _,_,.cons a b,i+1,v,h=>ExsAt.get b h
theorem ExsAt.len {H:Hp}:∀ {vs:List V} {es:List Ex},ExsAt H vs es->vs.length=es.length
 | _,_,.nil=>rfl
 | _,_,.cons a b=>by simp [ExsAt.len b]
theorem iO {t:Tr} {ts:List Tr} (h:aP.b ts∈t.parts):deeps ts<=t.deep:=by
 cases t with
 | set m r n e=>simp [Tr.parts] at h
 | tell m r e=>simp [Tr.parts] at h
 | iff m r e b o =>
  simp [Tr.parts] at h
  rcases h with h | h<;>subst h<;>simp [Tr.deep]<;>lia
 | whl m r e b=>simp [Tr.parts] at h;subst h;simp [Tr.deep]
 | give m r e=>simp [Tr.parts] at h
 | df m r n k ps b=>simp [Tr.parts] at h;subst h;simp [Tr.deep]
 | kd m r n ps=>simp [Tr.parts] at h
theorem gq {t:Tr} {ts:List Tr} (a:t.asc) (h:aP.b ts∈t.parts):ts.length<=40/\c6 t.mask ts/\ascs ts:=by
 cases t with
 | set m r n e=>simp [Tr.parts] at h
 | tell m r e=>simp [Tr.parts] at h
 | iff m r e b o =>
  simp [Tr.parts] at h
  rcases h with h | h<;>subst h
  ·exact a.2.1
  ·exact a.2.2
 | whl m r e b=>simp [Tr.parts] at h;subst h;exact a.2
 | give m r e=>simp [Tr.parts] at h
 | df m r n k ps b=>simp [Tr.parts] at h;subst h;exact a.2
 | kd m r n ps=>simp [Tr.parts] at h
theorem iP:∀ {ts:List Tr} {t:Tr},t∈ts->t.deep+1<=deeps ts
 | u::ts,t,h=>by
  rcases Qn h with z | z
  ·subst z;simp [deeps];lia
  ·have:=iP z;simp [deeps];lia
theorem gT:∀ {ts:List Tr} {t:Tr},ascs ts->t∈ts->bK t.mask/\t.asc
 | u::ts,t,a,h=>by
  rcases Qn h with z | z
  ·subst z;exact ⟨a.1,a.2.1⟩
  ·exact gT a.2.2.2 z
theorem sv:∀ {ts:List Tr},ascs ts->ts.Pairwise c7
 | [],_=>.nil
 | t::ts,h=>.cons h.2.2.1 (sv h.2.2.2)
theorem nN:∀ {ts:List Tr},(∀ t∈ts,bK t.mask/\t.asc)->ts.Pairwise c7->ascs ts
 | [],_,_=>trivial
 | t::ts,h,p=>by
  rw [List.pairwise_cons] at p
  exact ⟨(h t (by simp)).1,(h t (by simp)).2,p.1,nN (fun x hx=>h x (by simp [hx])) p.2⟩
end Mm
namespace L2
open PySem PySem.Spec PyProof.Rows PySem.W
theorem sw:∀ {a b:List (List ae)},a.Pairwise (fun x y=>a8 x y=true)->b.Pairwise (fun x y=>a8 x y=true)->(∀ d,d∈a↔d∈b)->a=b
 | [],[],_,_,_=>rfl
 | [],y::b,_,_,h=>nomatch (h y).mpr QF
 | x::a,[],_,_,h=>nomatch (h x).mp QF
 | x::a,y::b,ha,hb,h=>by
  have Ge:=List.pairwise_cons.mp ha
  have E1:=List.pairwise_cons.mp hb
  have e:x=y:=by
   rcases Qn ((h x).mp QF) with e | h1
   ·exact e
   ·rcases Qn ((h y).mpr QF) with e | h2
    ·exact e.symm
    ·have g1:=E1.1 x h1
     have g2:=Ge.1 y h2
     rw [gn g1] at g2
     cases g2
  subst e
  have nx:∀ {l:List (List ae)},(∀ z∈l,a8 x z=true)->x∉l:=fun hl hm=>by
   have:=hl x hm
   have g:=gn this
   rw [this] at g
   cases g
  rw [sw Ge.2 E1.2 fun d=>?_]
  constructor
  ·intro hd
   rcases Qn ((h d).mp (Qy _ hd)) with e | g
   ·subst e;exact absurd hd (nx Ge.1)
   ·exact g
  ·intro hd
   rcases Qn ((h d).mpr (Qy _ hd)) with e | g
   ·subst e;exact absurd hd (nx E1.1)
   ·exact g
theorem sy {ds:List (List ae)} {sh:List Bool} (DV:∀ d∈ds,d.map bn=sh) (nd:ds.Nodup) :
  ((ck ds).map fun i=>ds.getD i []).Pairwise (fun x y=>a8 x y=true)/\(∀ i∈ck ds,i<ds.length)/\∀ j,j<ds.length->j∈ck ds:=by
 unfold ck
 by_cases h2:ds.length<2
 ·rw [if_pos h2]
  refine ⟨?_,fun i hi=>List.mem_range.mp hi,fun j hj=>List.mem_range.mpr hj⟩
  match ds,h2 with
  | [],_=>exact .nil
  | [a],_=>exact List.pairwise_singleton ..
 ·rw [if_neg h2]
  have gd:∀ i,i<ds.length->ds.getD i []∈ds:=fun i hi=>by
   rw [Qe,Qa hi]
   exact QL hi
  have ok:=(nF (by omega) (nH DV)).1
  generalize cO ds.length (eY ds)=q at ok
  obtain ⟨pm,sg,_⟩:=ok
  have pl:=Array.perm_iff_toList_perm.mp pm
  have hm:∀ i,i∈q.toList↔i<ds.length:=fun i=>by rw [pl.mem_iff];simp
  refine ⟨?_,fun i hi=>(hm i).mp hi,fun j hj=>(hm j).mpr hj⟩
  rw [List.pairwise_map]
  refine List.pairwise_iff_getElem.mpr fun i j hi hj En=>?_
  have ndq:q.toList.Nodup:=pl.nodup_iff.mpr (by simpa using List.nodup_range)
  have Dp:q.toList[i]≠q.toList[j]:=List.pairwise_iff_getElem.mp ndq i j hi hj En
  have li:=(hm _).mp (QL hi)
  have lj:=(hm _).mp (QL hj)
  have hq:∀ i (h:i<q.toList.length),q.toList[i]=q.getD i 0:=fun i h=>by
   rw [QA] at h
   simp [Array.getD,h]
  have hz:q.toList.length=ds.length:=by rw [pl.length_eq];simp
  have h1:=sg i j (Qu _) En (by omega)
  rw [<- hq i hi,<- hq j hj] at h1
  refine lh ((DV _ (gd _ lj)).trans (DV _ (gd _ li)).symm) (fun e=>Dp ?_) h1
  rw [Qe,Qe,Qa li,Qa lj] at e
  have pw:=List.pairwise_iff_getElem.mp nd
  rcases Nat.lt_trichotomy q.toList[i] q.toList[j] with g | g | g
  ·exact absurd e.symm (pw _ _ li lj g)
  ·exact g
  ·exact absurd e (pw _ _ lj li g)
end L2
namespace Mm
open PySem L2 PyProof.Rows
mutual
noncomputable def Ex.sz:Ex->Nat
 | .many _ _ es=>szL es+1
 | .name _=>1
 | .not e=>e.sz+1
 | .op _ a b=>a.sz+b.sz+1
 | .of _ e=>e.sz+1
 | .num _=>1
 | .truth _=>1
noncomputable def szL:List Ex->Nat
 | []=>0
 | e::es=>e.sz+szL es
end
mutual
noncomputable def Tr.co:Tr->Nat
 | .set _ _ _ e=>e.sz
 | .tell _ _ e=>e.sz
 | .give _ _ e=>e.sz
 | .iff _ _ e b o=>e.sz+cos b+cos o
 | .whl _ _ e b=>e.sz+cos b
 | .df _ _ _ _ _ b=>1+cos b
 | .kd _ _ _ _=>0
noncomputable def cos:List Tr->Nat
 | []=>0
 | t::ts=>t.co+cos ts
end
theorem ln:∀ ts:List Tr,cos ts=(ts.map Tr.co).sum
 | []=>by simp [cos]
 | t::ts=>by simp [cos,ln ts]
theorem lq:∀ ts:List Tr,cnts ts=(ts.map Tr.cnt).sum
 | []=>by simp [cnts]
 | t::ts=>by simp [cnts,lq ts]
mutual
noncomputable def au (s:Nat):Tr->Tr
 | .set _ r n e=>.set 1 r n e
 | .tell _ r e=>.tell 1 r e
 | .iff _ r e b o=>.iff 1 r e (cutM s b) (cutM s o)
 | .whl _ r e b=>.whl 1 r e (cutM s b)
 | .give _ r e=>.give 1 r e
 | .df _ r n k ps b=>.df 1 r n k ps (cutM s b)
 | .kd _ r n ps=>.kd 1 r n ps
noncomputable def cutM (s:Nat):List Tr->List Tr
 | []=>[]
 | t::ts=>if t.mask.testBit s=true then au s t::cutM s ts else cutM s ts
end
theorem gU (s:Nat):∀ a b:List Tr,cutM s (a++b)=cutM s a++cutM s b
 | [],b=>by simp [cutM]
 | t::a,b=>by
  rw [List.cons_append,cutM,cutM,gU s a b]
  split<;>rfl
theorem jR (s:Nat) (t:Tr):cutM s [t]=if t.mask.testBit s=true then [au s t] else []:=by
 rw [cutM,cutM]
theorem gr {s:Nat} {x:Tr}:∀ {ts:List Tr},x∈cutM s ts↔∃ t∈ts,t.mask.testBit s=true/\x=au s t
 | []=>by simp [cutM]
 | t::ts=>by
  rw [cutM]
  split
  ·rename_i h
   rw [List.mem_cons,gr]
   constructor
   ·rintro (e | ⟨u,hu,q⟩)
    ·exact ⟨t,by simp,h,e⟩
    ·exact ⟨u,by simp [hu],q⟩
   ·rintro ⟨u,hu,q1,q2⟩
    rcases Qn hu with rfl | hu
    ·exact .inl q2
    ·exact .inr ⟨u,hu,q1,q2⟩
  ·rename_i h
   rw [gr]
   constructor
   ·rintro ⟨u,hu,q⟩
    exact ⟨u,by simp [hu],q⟩
   ·rintro ⟨u,hu,q1,q2⟩
    rcases Qn hu with rfl | hu
    ·exact absurd q1 h
    ·exact ⟨u,hu,q1,q2⟩
theorem gW (s:Nat) (t:Tr):(au s t).row=t.row:=by cases t<;>simp [au,Tr.row]
theorem jS {m n s:Nat} (h:m &&& n=0) (hm:m.testBit s=true):n.testBit s=false:=by
 have:=congrArg (fun x=>x.testBit s) h
 simp only [Nat.testBit_and,hm,Bool.true_and,Nat.zero_testBit] at this
 exact this
theorem Ac {m n s:Nat} (h:m &&& n=m) (hn:n.testBit s=false):m.testBit s=false:=by
 have:=congrArg (fun x=>x.testBit s) h
 simp only [Nat.testBit_and,hn,Bool.and_false] at this
 exact this.symm
theorem nQ {m s:Nat} {ts:List Tr} (h:c6 m ts) (hs:m.testBit s=false):cutM s ts=[]:=by
 cases e:cutM s ts with
 | nil=>rfl
 | cons x xs =>
  obtain ⟨t,ht,hb,_⟩:=gr.mp (show x∈cutM s ts by rw [e];simp)
  rw [Ac (h t ht) hs] at hb;cases hb
theorem lr {s:Nat}:∀ {ts:List Tr},ts.Pairwise c7->(cutM s ts).Pairwise fun a b=>a.row<b.row
 | [],_=>by rw [cutM];exact .nil
 | t::ts,h=>by
  rw [List.pairwise_cons] at h
  rw [cutM]
  split
  ·rename_i hb
   refine .cons (fun x hx=>?_) (lr h.2)
   obtain ⟨u,hu,q1,rfl⟩:=gr.mp hx
   obtain ⟨g1,g2⟩:=h.1 u hu
   rw [gW,gW]
   rcases Nat.lt_or_eq_of_le g1 with z | z
   ·exact z
   ·have:=jS (g2 z) hb
    rw [q1] at this;cases this
  ·exact lr h.2
theorem sC:∀ {a b:List Tr},a.Pairwise (fun x y=>x.row<y.row)->b.Pairwise (fun x y=>x.row<y.row)->(∀ d,d∈a↔d∈b)->a=b
 | [],[],_,_,_=>rfl
 | [],y::b,_,_,h=>nomatch (h y).mpr QF
 | x::a,[],_,_,h=>nomatch (h x).mp QF
 | x::a,y::b,ha,hb,h=>by
  have Ge:=List.pairwise_cons.mp ha
  have E1:=List.pairwise_cons.mp hb
  have e:x=y:=by
   rcases Qn ((h x).mp QF) with e | h1
   ·exact e
   ·rcases Qn ((h y).mpr QF) with e | h2
    ·exact e.symm
    ·have g1:=E1.1 x h1
     have g2:=Ge.1 y h2
     omega
  subst e
  have nx:∀ {l:List Tr},(∀ z∈l,x.row<z.row)->x∉l:=fun hl hm=>Nat.lt_irrefl _ (hl x hm)
  rw [sC Ge.2 E1.2 fun d=>?_]
  constructor
  ·intro hd
   rcases Qn ((h d).mp (Qy _ hd)) with e | g
   ·subst e;exact absurd hd (nx Ge.1)
   ·exact g
  ·intro hd
   rcases Qn ((h d).mpr (Qy _ hd)) with e | g
   ·subst e;exact absurd hd (nx E1.1)
   ·exact g
noncomputable def dZ (m:Nat):Nat:=Builtin.Int.intBits ((m ^^^ (m-1):Nat):Int)-1
theorem sD {m t q:Nat} (e:m=2 ^ (t+1)*q+2 ^ t):dZ m=t:=by
 unfold dZ
 rw [e,nj,rC];rfl
theorem lu {m:Nat} (h:m≠0):m.testBit (dZ m)=true:=by
 obtain ⟨t,q,e⟩:=kW m m (Qf _) h
 rw [sD e,e];exact rB t q
noncomputable def cm (t:Tr):List ae:=[.inl ((t.row:Nat):Int),.inl ((dZ t.mask:Nat):Int)]
theorem Ad {a b:Tr} (h:a8 (cm a) (cm b)=true):a.row<=b.row:=by
 have e:a8 (cm a) (cm b)=if (Sum.inl ((a.row:Nat):Int):ae)=Sum.inl ((b.row:Nat):Int) then a8 [.inl ((dZ a.mask:Nat):Int)] [.inl ((dZ b.mask:Nat):Int)] else dY (Sum.inl ((a.row:Nat):Int)) (Sum.inl ((b.row:Nat):Int)):=rfl
 rw [e] at h
 split at h
 ·rename_i q
  injection q with q
  lia
 ·have:=QS (show decide (((a.row:Nat):Int)<((b.row:Nat):Int))=true from h)
  lia
structure jT (rule:Nat) (ts us:List Tr):Prop where
 asc:ascs us
 dp:deeps us<=deeps ts
 len:us.length<=ts.length
 sub:c6 rule us
 sub2:∀ m,c6 m ts->c6 m us
 cut:∀ s,rule.testBit s=true->cutM s us=cutM s ts
 co:cos us<=cos ts
 cn:cnts us<=cnts ts
structure lv (rule:Nat) (t u:Tr):Prop where
 mask:u.mask=t.mask &&& rule
 row:u.row=t.row
 asc:u.asc
 dp:u.deep<=t.deep
 cut:∀ s,rule.testBit s=true->au s u=au s t
 co:u.co<=t.co
 cn:u.cnt<=t.cnt
inductive gX (rule:Nat):aP->aP->Prop
 | b {ts us:List Tr}:jT rule ts us->gX rule (.b ts) (.b us)
 | o {p:aP}:(∀ ts,p≠.b ts)->gX rule p p
inductive c8 (rule:Nat):List aP->List aP->Prop
 | nil:c8 rule [] []
 | cons {p q:aP} {ps qs:List aP}:gX rule p q->c8 rule ps qs->c8 rule (p::ps) (q::qs)
theorem c8.snoc {rule:Nat}:∀ {ps qs:List aP} {p q:aP},c8 rule ps qs->gX rule p q->c8 rule (ps++[p]) (qs++[q])
 | _,_,_,_,.nil,h=>.cons h .nil
 | _,_,_,_,.cons a b,h=>.cons a (b.snoc h)
theorem sE {rule:Nat} {p:aP} {ps qs:List aP} (h:c8 rule (p::ps) qs):∃ q r,qs=q::r/\gX rule p q/\c8 rule ps r:=by
 cases h with | cons a b=>exact ⟨_,_,rfl,a,b⟩
theorem gY {rule:Nat} {qs:List aP} (h:c8 rule [] qs):qs=[]:=by cases h;rfl
theorem Ae {rule:Nat} {p q:aP} (h:gX rule p q) (n:∀ ts,p≠.b ts):q=p:=by
 cases h with
 | b _=>exact absurd rfl (n _)
 | o _=>rfl
theorem Af {rule:Nat} {ts:List Tr} {q:aP} (h:gX rule (.b ts) q):∃ us,q=.b us/\jT rule ts us:=by
 cases h with
 | b k=>exact ⟨_,rfl,k⟩
 | o n=>exact absurd rfl (n _)
theorem bZ {rule:Nat} {p:aP} {ps qs:List aP} (n:∀ ts,p≠.b ts) (h:c8 rule (p::ps) qs):∃ r,qs=p::r/\c8 rule ps r:=by
 obtain ⟨q,r,e,h1,h2⟩:=sE h
 exact ⟨r,by rw [e,Ae h1 n],h2⟩
theorem lw {rule:Nat} {ts:List Tr} {ps qs:List aP} (h:c8 rule (.b ts::ps) qs):∃ us r,qs=.b us::r/\jT rule ts us/\c8 rule ps r:=by
 obtain ⟨q,r,e,h1,h2⟩:=sE h
 obtain ⟨us,e2,k⟩:=Af h1
 exact ⟨us,r,by rw [e,e2],k,h2⟩
theorem lx {m rule:Nat} {us:List Tr} (h1:c6 m us) (h2:c6 rule us):c6 (m &&& rule) us:=fun t ht=>by
 rw [<- Nat.and_assoc,h1 t ht,h2 t ht]
theorem Ag {rule:Nat} {t:Tr} {qs:List aP} (ha:t.asc) (h:c8 rule t.parts qs):∃ u,u.parts=qs/\lv rule t u:=by
 cases t with
 | set m r n e =>
  obtain ⟨r1,e1,h⟩:=bZ (by intro _ z;cases z) h
  obtain ⟨r2,e2,h⟩:=bZ (by intro _ z;cases z) h
  obtain ⟨r3,e3,h⟩:=bZ (by intro _ z;cases z) h
  obtain ⟨r4,e4,h⟩:=bZ (by intro _ z;cases z) h
  exact ⟨.set (m &&& rule) r n e,by rw [e1,e2,e3,e4,gY h];rfl,rfl,rfl,ha,Qf _,fun s _=>by simp [au],Qf _,Qf _⟩
 | tell m r e =>
  obtain ⟨r1,e1,h⟩:=bZ (by intro _ z;cases z) h
  obtain ⟨r2,e2,h⟩:=bZ (by intro _ z;cases z) h
  obtain ⟨r3,e3,h⟩:=bZ (by intro _ z;cases z) h
  exact ⟨.tell (m &&& rule) r e,by rw [e1,e2,e3,gY h];rfl,rfl,rfl,ha,Qf _,fun s _=>by simp [au],Qf _,Qf _⟩
 | give m r e =>
  obtain ⟨r1,e1,h⟩:=bZ (by intro _ z;cases z) h
  obtain ⟨r2,e2,h⟩:=bZ (by intro _ z;cases z) h
  obtain ⟨r3,e3,h⟩:=bZ (by intro _ z;cases z) h
  exact ⟨.give (m &&& rule) r e,by rw [e1,e2,e3,gY h];rfl,rfl,rfl,ha,Qf _,fun s _=>by simp [au],Qf _,Qf _⟩
 | kd m r n ps =>
  obtain ⟨r1,e1,h⟩:=bZ (by intro _ z;cases z) h
  obtain ⟨r2,e2,h⟩:=bZ (by intro _ z;cases z) h
  obtain ⟨r3,e3,h⟩:=bZ (by intro _ z;cases z) h
  obtain ⟨r4,e4,h⟩:=bZ (by intro _ z;cases z) h
  exact ⟨.kd (m &&& rule) r n ps,by rw [e1,e2,e3,e4,gY h];rfl,rfl,rfl,ha,Qf _,fun s _=>by simp [au],Qf _,Qf _⟩
 | whl m r e b =>
  obtain ⟨r1,e1,h⟩:=bZ (by intro _ z;cases z) h
  obtain ⟨r2,e2,h⟩:=bZ (by intro _ z;cases z) h
  obtain ⟨r3,e3,h⟩:=bZ (by intro _ z;cases z) h
  obtain ⟨us,r4,e4,k,h⟩:=lw h
  refine ⟨.whl (m &&& rule) r e us,by rw [e1,e2,e3,e4,gY h];rfl,rfl,rfl,⟨ha.1,QC k.len ha.2.1,lx (k.sub2 m ha.2.2.1) k.sub,k.asc⟩,?_,fun s hs=>by simp [au,k.cut s hs],by have:=k.co;simp [Tr.co];lia,by have:=k.cn;simp [Tr.cnt];lia⟩
  have:=k.dp
  simpa [Tr.deep] using this
 | df m r n kk ps b =>
  obtain ⟨r1,e1,h⟩:=bZ (by intro _ z;cases z) h
  obtain ⟨r2,e2,h⟩:=bZ (by intro _ z;cases z) h
  obtain ⟨r3,e3,h⟩:=bZ (by intro _ z;cases z) h
  obtain ⟨r5,e5,h⟩:=bZ (by intro _ z;cases z) h
  obtain ⟨r6,e6,h⟩:=bZ (by intro _ z;cases z) h
  obtain ⟨us,r4,e4,k,h⟩:=lw h
  refine ⟨.df (m &&& rule) r n kk ps us,by rw [e1,e2,e3,e5,e6,e4,gY h];rfl,rfl,rfl,⟨ha.1,QC k.len ha.2.1,lx (k.sub2 m ha.2.2.1) k.sub,k.asc⟩,?_,fun s hs=>by simp [au,k.cut s hs],by have:=k.co;simp [Tr.co];lia,by have:=k.cn;simp [Tr.cnt];lia⟩
  have:=k.dp
  simpa [Tr.deep] using this
 | iff m r e b o =>
  obtain ⟨r1,e1,h⟩:=bZ (by intro _ z;cases z) h
  obtain ⟨r2,e2,h⟩:=bZ (by intro _ z;cases z) h
  obtain ⟨r3,e3,h⟩:=bZ (by intro _ z;cases z) h
  obtain ⟨us,r4,e4,k,h⟩:=lw h
  obtain ⟨vs,r5,e5,k2,h⟩:=lw h
  refine ⟨.iff (m &&& rule) r e us vs,by rw [e1,e2,e3,e4,e5,gY h];rfl,rfl,rfl,⟨ha.1,⟨QC k.len ha.2.1.1,lx (k.sub2 m ha.2.1.2.1) k.sub,k.asc⟩,QC k2.len ha.2.2.1,lx (k2.sub2 m ha.2.2.2.1) k2.sub,k2.asc⟩,?_,fun s hs=>by simp [au,k.cut s hs,k2.cut s hs],by have:=k.co;have:=k2.co;simp [Tr.co];lia,by have:=k.cn;have:=k2.cn;simp [Tr.cnt];lia⟩
  have h1:=k.dp
  have h2:=k2.dp
  simp [Tr.deep];lia
inductive cE (rule:Nat):List Tr->List Tr->Prop
 | nil:cE rule [] []
 | skip {ts us:List Tr} {t:Tr}:cE rule ts us->t.mask &&& rule=0->cE rule (ts++[t]) us
 | keep {ts us:List Tr} {t u:Tr}:cE rule ts us->t.mask &&& rule≠0->lv rule t u->cE rule (ts++[t]) (us++[u])
theorem cE.from {rule:Nat} {ts us:List Tr} (h:cE rule ts us):∀ u∈us,∃ t∈ts,lv rule t u/\t.mask &&& rule≠0:=by
 induction h with
 | nil=>intro u hu;simp at hu
 | skip _ _ ih=>intro u hu;obtain ⟨t,ht,q⟩:=ih u hu;exact ⟨t,by simp [ht],q⟩
 | keep _ hm hk ih =>
  intro u hu
  rcases Qw hu with hu | hu
  ·obtain ⟨t,ht,q⟩:=ih u hu;exact ⟨t,by simp [ht],q⟩
  ·rw [Qt hu];exact ⟨_,by simp,hk,hm⟩
theorem cE.len {rule:Nat} {ts us:List Tr} (h:cE rule ts us):us.length<=ts.length:=by
 induction h with
 | nil=>exact Qf _
 | skip _ _ ih=>simp;lia
 | keep _ _ _ ih=>simp;lia
theorem cE.co {rule:Nat} {ts us:List Tr} (h:cE rule ts us):(us.map Tr.co).sum<=(ts.map Tr.co).sum/\(us.map Tr.cnt).sum<=(ts.map Tr.cnt).sum:=by
 induction h with
 | nil=>exact ⟨Qf _,Qf _⟩
 | skip _ _ ih=>simp;lia
 | keep _ _ hk ih =>
  have h1:=hk.co
  have h2:=hk.cn
  simp;lia
theorem Ah {a b r:Nat} (h:a &&& b=0):(a &&& r) &&& (b &&& r)=0:=by
 have e:(a &&& r) &&& (b &&& r)=(a &&& b) &&& r:=by
  refine Nat.eq_of_testBit_eq fun i=>?_
  simp only [Nat.testBit_and]
  cases a.testBit i<;>cases b.testBit i<;>cases r.testBit i<;>rfl
 rw [e,h,Nat.zero_and]
theorem cE.pw {rule:Nat} {ts us:List Tr} (h:cE rule ts us) (p:ts.Pairwise c7):us.Pairwise c7:=by
 induction h with
 | nil=>exact .nil
 | skip _ _ ih=>exact ih (List.pairwise_append.mp p).1
 | keep hk _ hs ih =>
  obtain ⟨p1,_,p3⟩:=List.pairwise_append.mp p
  refine List.pairwise_append.mpr ⟨ih p1,by simp,fun a ha b hb=>?_⟩
  rw [Qt hb]
  obtain ⟨t,ht,k,_⟩:=hk.from a ha
  obtain ⟨g1,g2⟩:=p3 t ht _ (List.mem_singleton.mpr rfl)
  refine ⟨by rw [k.row,hs.row];exact g1,fun e=>?_⟩
  rw [k.row,hs.row] at e
  rw [k.mask,hs.mask]
  exact Ah (g2 e)
theorem cE.cut {rule s:Nat} {ts us:List Tr} (h:cE rule ts us) (hs:rule.testBit s=true):cutM s us=cutM s ts:=by
 induction h with
 | nil=>rfl
 | @skip ts us t _ hm ih =>
  rw [gU,ih,jR,if_neg,QM]
  have:=jS (show rule &&& t.mask=0 by rw [Nat.and_comm];exact hm) hs
  rw [this];exact fun z=>nomatch z
 | @keep ts us t u _ _ hk ih =>
  rw [gU,gU,ih,jR,jR,hk.mask,Nat.testBit_and,hs,Bool.and_true,hk.cut s hs]
theorem nR {a b:Nat} (h:a<256):a &&& b<256:=QN Nat.and_le_left h
theorem Ai {l:List Tr} (h:l.Pairwise c7) {a b:Tr} (ha:a∈l) (hb:b∈l) (Dp:a≠b) (hr:a.row=b.row):a.mask &&& b.mask=0:=by
 obtain ⟨i,hi,rfl⟩:=QU ha
 obtain ⟨j,hj,rfl⟩:=QU hb
 have pw:=List.pairwise_iff_getElem.mp h
 rcases Nat.lt_trichotomy i j with z | z | z
 ·exact (pw i j hi hj z).2 hr
 ·subst z;exact absurd rfl Dp
 ·rw [Nat.and_comm];exact (pw j i hj hi z).2 hr.symm
theorem ly {us:List Tr} {d:Nat}:∀ {vs:List Tr},(∀ t∈vs,t.deep+1<=d)->deeps vs<=d
 | [],_=>by simp [deeps]
 | t::ts,h=>by
  have h1:=h t (by simp)
  have h2:=ly (us:=us) (vs:=ts) fun x hx=>h x (by simp [hx])
  rw [deeps];lia
noncomputable def sG:Tr:=.kd 0 0 "" []
noncomputable def dH (us:List Tr):List Tr:=(ck (us.map cm)).map fun i=>us.getD i sG
theorem Aj {us:List Tr} (h:us.Pairwise c7) (ho:∀ u∈us,bK u.mask):(us.map cm).Nodup:=by
 refine List.pairwise_map.mpr (List.Pairwise.imp_of_mem (fun {a b} ha hb g e=>?_) h)
 have e1:a.row=b.row:=by
  have:(Sum.inl ((a.row:Nat):Int):ae)=Sum.inl ((b.row:Nat):Int):=by injection e
  injection this with this;lia
 have e2:dZ a.mask=dZ b.mask:=by
  have:([.inl ((dZ a.mask:Nat):Int)]:List ae)=[.inl ((dZ b.mask:Nat):Int)]:=by injection e
  injection this with this;injection this with this;lia
 have h1:=lu (QX (ho a ha).1)
 have h2:=lu (QX (ho b hb).1)
 have:=jS (g.2 e1) h1
 rw [e2,h2] at this;cases this
theorem Ak {rule:Nat} {ts us:List Tr} (ha:ascs ts) (h:cE rule ts us):jT rule ts (dH us)/\(dH us).length=us.length:=by
 have pw:=h.pw (sv ha)
 have hok:∀ u∈us,bK u.mask/\u.asc/\u.mask &&& rule=u.mask:=fun u hu=>by
  obtain ⟨t,ht,k,hm⟩:=h.from u hu
  obtain ⟨o1,o2⟩:=gT ha ht
  refine ⟨⟨by rw [k.mask];exact Nat.pos_of_ne_zero hm,by rw [k.mask];exact nR o1.2⟩,k.asc,by rw [k.mask,Nat.and_assoc,Nat.and_self]⟩
 have nd:=Aj pw fun u hu=>(hok u hu).1
 obtain ⟨u1,u2,u3⟩:=sy (ds:=us.map cm) (sh:=[true,true]) (fun d hd=>by obtain ⟨t,_,rfl⟩:=QH hd;rfl) nd
 have Dj:(dH us).length=us.length:=by
  unfold dH
  rw [Qd,jQ,Qd]
 rw [Qd] at u2 u3
 have mem:∀ u,u∈dH us↔u∈us:=fun u=>by
  unfold dH
  rw [List.mem_map]
  constructor
  ·rintro ⟨i,hi,rfl⟩
   rw [Qe,Qa (u2 i hi)]
   exact QL _
  ·intro hu
   obtain ⟨j,hj,rfl⟩:=QU hu
   exact ⟨j,u3 j hj,by rw [Qe,Qa hj];rfl⟩
 have pk:(dH us).Pairwise fun a b=>a8 (cm a) (cm b)=true:=by
  unfold dH
  rw [List.pairwise_map] at u1 ⊢
  refine List.Pairwise.imp_of_mem (fun {a b} Ge E1 g=>?_) u1
  have e:∀ i,i∈ck (us.map cm)->(us.map cm).getD i []=cm (us.getD i sG):=fun i hi=>by
   rw [Qe,Qe,Qr,Qa (u2 i hi)];rfl
  rw [e a Ge,e b E1] at g
  exact g
 have pb:(dH us).Pairwise c7:=List.Pairwise.imp_of_mem (fun {a b} Ge E1 g=>⟨Ad g,fun e=>Ai pw ((mem a).mp Ge) ((mem b).mp E1) (fun z=>by rw [z] at g;have:=gn g;rw [g] at this;cases this) e⟩) pk
 have und:us.Nodup:=(List.pairwise_map.mp nd).imp fun {a b} g z=>g (by rw [z])
 have snd:(dH us).Nodup:=pk.imp fun {a b} g z=>by rw [z] at g;have:=gn g;rw [g] at this;cases this
 have pm:(dH us).Perm us:=(List.perm_ext_iff_of_nodup snd und).mpr mem
 refine ⟨⟨nN (fun u hu=>let q:=hok u ((mem u).mp hu);⟨q.1,q.2.1⟩) pb,ly (us:=us) fun u hu=>?_,by rw [Dj];exact h.len,fun u hu=>(hok u ((mem u).mp hu)).2.2,fun m hs u hu=>?_,fun s hs=>?_,by rw [ln,ln,(pm.map _).sum_nat];exact h.co.1,by rw [lq,lq,(pm.map _).sum_nat];exact h.co.2⟩,Dj⟩
 ·obtain ⟨t,ht,k,_⟩:=h.from u ((mem u).mp hu)
  exact QC (Nat.succ_le_succ k.dp) (iP ht)
 ·obtain ⟨t,ht,k,_⟩:=h.from u ((mem u).mp hu)
  rw [k.mask,Nat.and_assoc,Nat.and_comm rule m,<- Nat.and_assoc,hs t ht]
 ·rw [<- h.cut hs]
  refine sC (lr pb) (lr pw) fun d=>?_
  rw [gr,gr]
  constructor
  ·rintro ⟨t,ht,q⟩;exact ⟨t,(mem t).mp ht,q⟩
  ·rintro ⟨t,ht,q⟩;exact ⟨t,(mem t).mpr ht,q⟩
theorem Al {H:Hp} {sh:Bool} {ys:List V} {us:List Tr} (h:LAt H sh ys us) (hl:∀ i∈ck (us.map cm),i<us.length):LAt H sh (bX (us.map cm) ys) (dH us):=by
 unfold bX dH
 generalize ck (us.map cm)=is at hl
 have D8:=h.length
 induction is with
 | nil=>exact .nil
 | cons i is ih =>
  have hi:=hl i (by simp)
  have hiy:i<ys.length:=by lia
  obtain ⟨t,ht,hO⟩:=h.get (Qa hiy)
  refine .cons ?_ (ih fun j hj=>hl j (by simp [hj]))
  dsimp only
  rw [Qe,Qe,Qa hiy,ht]
  exact hO
end Mm
namespace L2
open PySem PySem.Spec PyProof.Rows
section
variable {prog:Program} {w:World} {A:Around} {E:Value->Shared->Prop} {s:Shared} {it d:Addr} {i ep:Nat} {es:Array DictEntry} {od:Obj}
theorem Am {Q:Option Value->Shared->Prop} (FY:s.heap.IsKeyIter it d i es.size ep) (Gv:s.heap.get? d=some od) (FL:od.data=.dict es ep) (Do:i<es.size)
  (hQ:∀ h',h'.IsKeyIter it d (i+1) es.size ep->Heap.SameBut it s.heap h'->Q (some es[i].key) { s with heap:=h' }):wpAny (model prog w) A (pyNext (.ref it)) Q E s:=by
 have hT:=FY.typeIs
 obtain ⟨o,ho,hc,hd⟩:=FY
 unfold pyNext
 refine Qb (wpAny_attempt (wpAny_callSpecial?_slot (name:=Str.ofString "__next__") hT F.slot_dict_keyiterator_next (wpAny_call_entry F.slot_dict_keyiterator_next hT F.entry_dict_keyiterator_next ?_ (F.args_dict_keyiterator_next_1 _))))
 refine Qb (Qk (Qb (Qb ?_)))
 first | refine Qb (wpAny_typeNameOfWhole_keyiter hT (Qk (Qb (wpAny_fieldsOf ho hd ?_)))) | refine Qb (wpAny_typeNameOf_keyiter hT (Qk (Qb (wpAny_fieldsOf ho hd ?_))))
 simp only [show Builtin.Dict_items.ownsTuple "dict_keyiterator"=false by decide,QT,if_false]
 show wpAny _ _ (if (Value.ref d == Value.none)=true then _ else _) _ _ _
 rw [if_neg (show ¬ (Value.ref d == Value.none)=true from fun z=>by cases z)]
 refine Qb (Qk (Qb (wpAny_dictEntries Gv FL ?_)))
 rw [if_neg (by simp)]
 refine Qb (Qk (Qb (wpAny_dictEpoch Gv FL ?_)))
 rw [if_neg (by simp)]
 refine Qk ?_
 simp only [show ¬ ((i:Int)<0) by lia,if_false,QE,Array.getElem?_eq_getElem Do]
 refine Qb ?_
 first | refine Qb (wpAny_typeNameOfWhole_keyiter hT (Qk (Qb (wpAny_isOneOf_keyiter hT ?_)))) | refine Qb (wpAny_typeNameOf_keyiter hT (Qk (Qb (wpAny_isOneOf_keyiter hT ?_))))
 show wpAny _ _ (setField (.ref it) 1 (rawInt ((i:Int)+1)) >>= _) _ _ _
 refine Qb (wpAny_setField ho hd (by simp) (Qb (wpAny_holding ?_)))
 have hi2:(s.heap.update it (Obj.mapFields (·.setIfInBounds 1 (rawInt ((i:Int)+1))))).IsKeyIter it d (i+1) es.size ep:=by
  refine ⟨_,Heap.get?_update_self _ ho (Obj.isFreed_of_fields (Obj.data_mapFields hd _)),(Obj.cls_mapFields ..).trans hc,?_⟩
  rw [Obj.data_mapFields hd]
  simp [rawInt]
 refine Qb (wpAny_isOneOf_keyiter (s:={ s with heap:=s.heap.update it (Obj.mapFields (·.setIfInBounds 1 (rawInt ((i:Int)+1)))) }) hi2.typeIs ?_)
 show wpAny _ _ (pure es[i].key) _ _ _
 exact Qk (Qk ⟨_,rfl,Qk (hQ _ hi2 (Heap.SameBut.update ..))⟩)
theorem An {Q:Option Value->Shared->Prop} (hh:A.handled=none) (FY:s.heap.IsKeyIter it d i es.size ep) (Gv:s.heap.get? d=some od) (FL:od.data=.dict es ep) (EZ:es.size<=i)
  (hQ:∀ h',Heap.ExtBut it s.heap h'->Q none { s with heap:=h' }):wpAny (model prog w) A (pyNext (.ref it)) Q E s:=by
 have hT:=FY.typeIs
 obtain ⟨o,ho,hc,hd⟩:=FY
 unfold pyNext
 refine Qb (wpAny_attempt (wpAny_callSpecial?_slot (name:=Str.ofString "__next__") hT F.slot_dict_keyiterator_next (wpAny_call_entry F.slot_dict_keyiterator_next hT F.entry_dict_keyiterator_next ?_ (F.args_dict_keyiterator_next_1 _))))
 refine Qb (Qk (Qb (Qb ?_)))
 first | refine Qb (wpAny_typeNameOfWhole_keyiter hT (Qk (Qb (wpAny_fieldsOf ho hd ?_)))) | refine Qb (wpAny_typeNameOf_keyiter hT (Qk (Qb (wpAny_fieldsOf ho hd ?_))))
 simp only [show Builtin.Dict_items.ownsTuple "dict_keyiterator"=false by decide,QT,if_false]
 show wpAny _ _ (if (Value.ref d == Value.none)=true then _ else _) _ _ _
 rw [if_neg (show ¬ (Value.ref d == Value.none)=true from fun z=>by cases z)]
 refine Qb (Qk (Qb (wpAny_dictEntries Gv FL ?_)))
 rw [if_neg (by simp)]
 refine Qb (Qk (Qb (wpAny_dictEpoch Gv FL ?_)))
 rw [if_neg (by simp)]
 refine Qk ?_
 simp only [show ¬ ((i:Int)<0) by omega,if_false,QE,Array.getElem?_eq_none EZ]
 refine Qb ?_
 first | refine Qb (wpAny_typeNameOfWhole_keyiter hT (Qk ?_)) | refine Qb (wpAny_typeNameOf_keyiter hT (Qk ?_))
 show wpAny _ _ (setField (.ref it) 0 .none >>= _) _ _ _
 refine Qb (wpAny_setField ho hd (by simp) ?_)
 show wpAny _ _ (newExc (.type "StopIteration") [] >>= _) _ _ _
 refine Qb ?_
 simp only [newExc,newTuple]
 refine Qb (wpAny_newObj_type (Qb (m:=firstArgMember _ _) (wpAny_of_eq (a:=Value.none) (by first | rfl | (simp only [firstArgMember];rfl)) (wpAny_newObj_type ?_ (by size_fits)))) (by size_fits))
 simp only [raiseNew]
 refine Qb (wpAny_handled ?_)
 rw [show A.in1.handled=none from hh]
 refine (Qb (Qk (wpAny_throw ?_)))
 refine (Qb (wpAny_isInstance (T:="StopIteration") (b:=true) ⟨_,Qz _ rfl,rfl⟩ isSubtype_stop (Qk (hQ _ ?_))))
 exact ((Heap.SameBut.update ..).extBut.push _).push _
theorem Ao {Q:Value->Shared->Prop} (hT:s.TypeIs (.ref d) "dict") (hd:(d == sysModules)=false) (Gv:s.heap.get? d=some od) (FL:od.data=.dict es ep)
  (hQ:Q (.ref s.heap.objs.size) { s with heap:=s.heap.push { cls:=.type "dict_keyiterator",data:=.fields #[.ref d,.int 0 0,.int es.size 0,.int ep 0] } }):wpAny (model prog w) A (pyIter (.ref d)) Q E s:=by
 refine wpAny_pyIter_slot hT F.slot_dict_iter (wpAny_call_entry F.slot_dict_iter hT F.entry_dict_iter ?_ (F.args_dict_iter_1 _))
 unfold Builtin.«dict.__iter__» Builtin.Dict.dictSlotNone
 refine Qb (Qb (wpAny_notOrdered_dict hT ?_))
 show wpAny _ _ (pure (Value.ref d)) _ _ _
 refine Qk ?_
 show wpAny _ _ (Builtin.Dict.showsAll d >>= _) _ _ _
 unfold Builtin.Dict.showsAll
 rw [if_neg (show ¬ (d == sysModules)=true by rw [hd];decide)]
 refine Qb (Qk (Qb (wpAny_dictEntries Gv FL (Qb (wpAny_dictEpoch Gv FL ?_)))))
 refine Qb (wpAny_newObj_type (Qk ⟨_,rfl,"dict_keyiterator",_,⟨_,Qz _ rfl,rfl⟩,F.slot_dict_keyiterator_next.lookup,?_⟩))
 simpa [rawInt] using hQ
end
theorem Ap {P:Program} {w:World} {H:Hp} {h:Heap} {d:Addr} {od:Obj} {Di:List (List ae × V)} {es:Array DictEntry} {ep:Nat} (ok:bq P w H h) (e:H d=some (.frz od (.dT Di))) (FL:od.data=.dict es ep) :
  h.get? d=some od/\es.size=Di.length/\∀ (i:Nat) (hi:i<es.size) kv,Di[i]?=some kv->∃ b,es[i].key=.ref b/\H b=some (.tup (kv.1.map kV)):=by
 obtain ⟨Gv,_,_,xs,r,o,es',ep',h1,_,h3,h4,_⟩:=(show bC P w H h d (.frz od (.dT Di)) from ok d _ e)
 rw [Gv] at h1
 cases h1
 rw [FL] at h3
 cases h3
 have hl:es.size=xs.length:=by rw [<- QA,h4,Qd]
 refine ⟨Gv,by rw [hl];exact (Paired.length r).symm,fun i hi kv hk=>?_⟩
 have Ej:i<xs.length:=by lia
 have ek:es[i]=entryOfKey (tupleKind (bR P w)) xs[i]:=by
  have:=congrArg (fun l=>l[i]?) h4
  simp only [Qr,Qa Ej] at this
  rw [Array.getElem?_toList,Array.getElem?_eq_getElem hi] at this
  exact Qq this
 have pr:∀ {l:List (List ae × V)} {m:List (List ae × Addr × Value)},Paired (fun (p:List ae × V) (q:List ae × Addr × Value)=>p.1=q.1/\H q.2.1=some (.tup (p.1.map kV))/\RelV p.2 q.2.2) l m->∀ (i:Nat) p q,l[i]?=some p->m[i]?=some q->H q.2.1=some (.tup (p.1.map kV)):=by
  intro l m pq
  induction pq with
  | nil=>intro i p q h;simp at h
  | cons hq _ ih =>
   intro i p q h1 h2
   cases i with
   | zero =>
    simp only [List.getElem?_cons_zero,Option.some.injEq] at h1 h2
    subst h1 h2
    exact hq.2.1
   | succ j =>
    simp only [List.getElem?_cons_succ] at h1 h2
    exact ih j p q h1 h2
 exact ⟨xs[i].2.1,by rw [ek];rfl,pr r i kv xs[i] hk (Qa Ej)⟩
section
variable {X:Cx} {tg:Expr}
theorem Inv.freeze {Df:List (Addr × Obj)} {σ:St} {H:Hp} {s:Shared} {d:Addr} {Di:List (List ae × V)} {od:Obj} (I:Inv X Df σ H s) (e:H d=some (.dT Di)) (ho:s.heap.get? d=some od):Inv X Df σ (upd H d (.frz od (.dT Di))) s:=by
 have h0:∀ {t:Nat},Inv X Df σ (upd H d (.frz od (.dT Di))) { s with heap:=s.heap,toks:=t }:=by
  intro t
  refine I.write (x:=d) (e:=d) (by rw [e];trivial) (.inl rfl) (fun b q hb z=>z) ⟨_,ho⟩ ⟨ho,?_⟩
  have q:=I.hok d _ e
  exact q.stay (fun _ _ _ z=>z) (fun c z=>by rw [al (fun y=>by rw [y,e] at z;cases z)];exact z) fun c xs z=>by rw [al (fun y=>by rw [y,e] at z;cases z)];exact z
 exact h0 (t:=s.toks)
end
end L2
namespace L2
open PySem PySem.Spec PyProof.Rows PySem.W
theorem Aq {prog:Program} {w:World} {d:Addr} {od:Obj} {es:Array DictEntry} {ep:Nat} (hc:od.cls=.type "dict") (FL:od.data=.dict es ep) (hs:(d == sysModules)=false) :
  KdlSrc prog w "dict" d d es.size (fun i v=>∃ h:i<es.size,v=es[i].key) (fun h=>h.get? d=some od) where
 type:=fun s h=>⟨od,h,hc⟩
 there:=fun h e=>⟨Qs e,Qs e⟩
 keep:=fun h h' e k=>k d (.inl rfl) _ e
 notList:=by decide
 notTuple:=by decide
 hint:=fun A E s Q h q=>kdl_hint_dict ⟨od,h,hc⟩ q
 iter:=fun A s hh h=>by
  refine ⟨_,fun i h'=>h'.IsKeyIter s.heap.objs.size d i es.size ep/\h'.get? d=some od,fun E Q q=>Ao ⟨od,h,hc⟩ hs h FL q,?_,?_⟩
  ·have Dp:d≠s.heap.objs.size:=QB (Qs h)
   refine ⟨fun b hb=>List.mem_cons.mpr (.inl (by simpa using hb)),fun i h1 h2 st k=>⟨st.1.at fun o e=>k _ (by simp) o e,k d (by simp) _ st.2⟩,?_,?_,?_⟩
   ·intro i s1 Q E hi st q
    refine Am st.1 st.2 FL hi fun h' Dv sb=>?_
    exact q _ h' s1.toks ⟨hi,rfl⟩ ⟨Dv,(sb.2 d Dp).trans st.2⟩ fun b o hb e=>(sb.2 b (by simpa using hb)).trans e
   ·intro s1 Q E st q
    refine An hh st.1 st.2 FL (Qf _) fun h' eb=>?_
    exact q h' s1.toks fun b o hb e=>eb b o (by simpa using hb) e
   ·intro i s1 Q E st q
    exact wpAny_pyIter_keyiter st.1 q
  ·exact ⟨⟨_,Qz _ rfl,rfl,rfl⟩,Qg _ h⟩
section
variable {X:Cx}
theorem Ar (hc:X.calm=true):fJ X (.builtin "sorted") (fun as H Q=>∃ (d:Addr) (Di:List (List ae × V)) (sh:List Bool),as=[.ref d]/\H d=some (.dT Di)/\Di.length<1000000/\(∀ kv∈Di,kv.1.map bn=sh)/\sh≠[] /\
  ∀ p xs,H p=none->bY H xs (Di.map (·.1))->Q (.ref p) (upd H p (.lst (bX (Di.map (·.1)) xs)))):=by
 intro Df s σ H as us Q I r h
 obtain ⟨d,Di,sh,rfl,hd,Gq,DV,Dp,q⟩:=h
 obtain ⟨u,rfl,ru⟩:=vals1 r
 cases (show u=Value.ref d from ru)
 obtain ⟨z,hs,ys,E6,dd⟩:=rl I.hok hd
 have hT:=dd.typeIs
 obtain ⟨od,es,ep,ho,FZ,hdat,_⟩:=dd
 have FZ:od.cls=.type "dict":=by
  obtain ⟨o,e,c⟩:=hT
  rw [ho] at e
  cases e
  exact c
 have If:=I.freeze hd ho
 obtain ⟨_,hsz,E8⟩:=Ap If.hok ai hdat
 refine Calls.call_function_entry kind_sorted plain_sorted entry_sorted (args_sorted1 _) ?_
 unfold Builtin.«sorted»
 refine Qb (m:=checkCount "sorted" 1 1 _) (Qk ?_)
 refine Qb (kdu_collect (Aq FZ hdat hs) (I.ok.hd hc) ho (by rw [hsz,sizeLine_eq];lia) fun h1 tk DF hk hacc=>?_)
 obtain ⟨hal,hav⟩:=hacc
 have I1:Inv X Df σ H { s with heap:=h1,toks:=tk }:=I.kept (t':=tk) hk
 have each:∀ (i:Nat) (v:Value),DF.toList[i]?=some v->∃ b kv,v=.ref b/\Di[i]?=some kv/\H b=some (.tup (kv.1.map kV)):=fun i v hv=>by
  rw [Array.getElem?_toList] at hv
  obtain ⟨hi,rfl⟩:=hav i v hv
  have hik:i<Di.length:=by rw [<- hsz];exact hi
  obtain ⟨b,e1,e2⟩:=E8 i hi Di[i] (Qa hik)
  have hbd:b≠d:=fun z=>by rw [z,ai] at e2;cases e2
  rw [al hbd] at e2
  exact ⟨b,Di[i],e1,Qa hik,e2⟩
 obtain ⟨xs,rv,hxt⟩:∃ xs:List V,ap xs DF.toList/\∀ (i:Nat) (x:V),xs[i]?=some x->∃ b kv,x=.ref b/\Di[i]?=some kv/\H b=some (.tup (kv.1.map kV)):=by
  have go:∀ (vs:List Value) (f:Nat->Option (List ae × V)),(∀ (i:Nat) (v:Value),vs[i]?=some v->∃ b kv,v=.ref b/\f i=some kv/\H b=some (.tup (kv.1.map kV)))->∃ xs:List V,ap xs vs/\∀ (i:Nat) (x:V),xs[i]?=some x->∃ b kv,x=.ref b/\f i=some kv/\H b=some (.tup (kv.1.map kV)):=by
   intro vs
   induction vs with
   | nil=>intro f _;exact ⟨[],.nil,fun i x h=>by simp at h⟩
   | cons v vs ih =>
    intro f h
    obtain ⟨b,kv,rfl,e2,e3⟩:=h 0 v rfl
    obtain ⟨xs,r1,r2⟩:=ih (fun i=>f (i+1)) fun i v hv=>h (i+1) v hv
    refine ⟨.ref b::xs,.cons rfl r1,fun i x hx=>?_⟩
    cases i with
    | zero =>
     have:V.ref b=x:=by simpa using hx
     subst this
     exact ⟨b,kv,rfl,e2,e3⟩
    | succ i=>exact r2 i x hx
  exact go DF.toList (fun i=>Di[i]?) each
 have FV:xs.length=Di.length:=by rw [rv.length,QA,hal,hsz]
 have ht:bY H xs (Di.map (·.1)):=⟨by rw [FV,Qd],fun i x k hx hk=>by
  obtain ⟨b,kv,e1,e2,e3⟩:=hxt i x hx
  rw [Qr,e2] at hk
  have:kv.1=k:=by simpa using hk
  exact ⟨b,e1,by rw [<- this];exact e3⟩⟩
 have hsh2:∀ k∈Di.map (·.1),k.map bn=sh:=fun k hk=>by
  obtain ⟨kv,h1,rfl⟩:=QH hk
  exact DV kv h1
 have h64x:xs.length<1000000:=by rw [FV];exact Gq
 generalize DF.toList=its at rv
 have DJ:its.length=xs.length:=rv.length.symm
 have hz:its.length<=sizeLine:=by rw [sizeLine_eq];lia
 refine Qb (wpAny_newList (s:={ s with heap:=h1,toks:=tk }) ?_ hz)
 have Fy:(h1.push (seqObj "list" its.toArray 0)).get? h1.objs.size=some (seqObj "list" its.toArray 0):=Qz _ rfl
 have I2:Inv X Df σ H { s with heap:=h1.push (seqObj "list" its.toArray 0),toks:=tk }:=I1.kept (t':=tk) fun b o e=>Qg _ e
 have fL:cc X Df H h1.objs.size:=I1.fpOk (Qf _) (I1.hok.fresh (Qf _))
 change wpAny _ _ _ _ _ { s with heap:=h1.push (seqObj "list" its.toArray 0),toks:=tk }
 dsimp only
 generalize h1.push (seqObj "list" its.toArray 0)=h2 at Fy I2
 generalize h1.objs.size=L at Fy fL
 refine Qb (wpAny_holding (wpAny_call_entry (s:={ s with heap:=h2,toks:=tk }) slot_list_sort ⟨_,Fy,rfl⟩ entry_list_sort (zV I2 fL Fy rv (by rw [<- DJ];exact hz) ht hsh2 Dp fun s' out n' I' FH Es vy=>⟨_,rfl,?_⟩) (args_list_sort _)))
 refine Qk ⟨_,rfl,.ref L,upd H L (.lst (bX (Di.map (·.1)) xs)),I'.adopt fL ?_,rfl,q L xs fL.1 ht⟩
 have D8:(bX (Di.map (·.1)) xs).length<=sizeLine:=by rw [vy.length,QA];exact Es
 exact ⟨D8,out.toList,n',vy,by simpa using FH⟩
end
end L2
namespace L2
open PySem PySem.Spec PyProof.Rows
theorem gZ {X:Cx} {K:PySem.W.Frag} {n:String} (hK:X.K=K):fJ X (.builtin "isinstance") (fun xs H Q=>∃ x t b,xs=[x,.ty n]/\cN K H x t/\PySem.W.kitOne K t (.type n)=some b/\Q (.bl b) H):=by subst hK;exact yy
end L2
namespace L2
theorem As {α:Type}:∀ {us:List α},us.length=1->∃ a,us=[a]
 | [a],_=>⟨a,rfl⟩
theorem nT {α:Type} {n:Nat}:∀ {us:List α},us.length=n+1->∃ a r,us=a::r/\r.length=n
 | a::r,h=>⟨a,r,rfl,Nat.succ.inj h⟩
theorem jU {α:Type} {us:List α} (h:us.length=2):∃ a b,us=[a,b]:=by
 obtain ⟨a,r,rfl,k⟩:=nT h
 obtain ⟨b,rfl⟩:=As k
 exact ⟨a,b,rfl⟩
theorem At {α:Type} {us:List α} (h:us.length=3):∃ a b c,us=[a,b,c]:=by
 obtain ⟨a,r,rfl,k⟩:=nT h
 obtain ⟨b,c,rfl⟩:=jU k
 exact ⟨a,b,c,rfl⟩
theorem Au {α:Type} {us:List α} (h:us.length=4):∃ a b c d,us=[a,b,c,d]:=by
 obtain ⟨a,r,rfl,k⟩:=nT h
 obtain ⟨b,c,d,rfl⟩:=At k
 exact ⟨a,b,c,d,rfl⟩
end L2
namespace L2
open PySem PySem.Spec PyProof.Rows PySem.W
inductive eA:List Value->List ae->Prop
 | nil:eA [] []
 | int {vs:List Value} {ks:List ae} (i:Int) (t:Tok):eA vs ks->eA (.int i t::vs) (.inl i::ks)
 | str {vs:List Value} {ks:List ae} (x:Str) (t:Tok):eA vs ks->eA (.str x t::vs) (.inr x::ks)
theorem eA.length:∀ {vs:List Value} {ks:List ae},eA vs ks->vs.length=ks.length
 | _,_,.nil=>rfl
 | _,_,.int _ _ h=>by simp [h.length]
 | _,_,.str _ _ h=>by simp [h.length]
theorem lz:∀ {ks:List ae} {us:List Value},ap (ks.map kV) us->eA us ks
 | [],us,h=>by cases h;exact .nil
 | .inl i::ks,us,h=>by
  cases h with
  | cons a b =>
   obtain ⟨t,rfl⟩:=(show ∃ t,_=Value.int i t from a)
   exact .int i t (lz b)
 | .inr x::ks,us,h=>by
  cases h with
  | cons a b =>
   obtain ⟨t,rfl⟩:=(show ∃ t,_=Value.str x t from a)
   exact .str x t (lz b)
section
open PySem.SeqAt
open PySem.AutoSeq1 (wpAny_loadPart')
open PySem.MeetsSeq PySem.MeetsSeq2 PySem.MeetsSeq3
theorem Av (l b:Addr) (items E3:Array Value) (n n2:Nat) (dd dd2:Option Addr) (sl sl2:Array (Option Value)) (ns ms:List ae) (hi:eA items.toList ns) (hj:eA E3.toList ms) (DV:ns.map bn=ms.map bn) :
  Meets (Builtin.«tuple.__ge__» ⟨[.ref l,.ref b],[]⟩)
   (fun _ R s=>s.heap.get? l=some { cls:=.type "tuple",dict:=dd,data:=.seq items n,slots:=sl }/\s.heap.get? b=some { cls:=.type "tuple",dict:=dd2,data:=.seq E3 n2,slots:=sl2 } /\
    R (.ok (.ret (.bool (!a8 ns ms)))) s) :=
 .of_wp fun prog w A R s h=>by
  obtain ⟨hp,g,d,tk,os⟩:=s;obtain ⟨hl,hb,h⟩:=h
  have f2:=AutoSeq1.sub_tuple_tuple
  have hll:ns.length=ms.length:=by have:=congrArg List.length DV;simpa using this
  have z1:items.size=ns.length:=by rw [<- hi.length];simp
  have z2:E3.size=ms.length:=by rw [<- hj.length];simp
  wp_walk using wpAny_loadPart' hl,wpAny_loadPart' hb,wpAny_forIn_list _ (fun Dr b s'=>b.1=none/\s'=⟨hp,g,d,tk,os⟩/\∃ (vs ws:List Value) (ns' ms':List ae),Dr=vs.zip ws /\
   eA vs ns'/\eA ws ms'/\ns'.map bn=ms'.map bn/\R (.ok (.ret (.bool (!a8 ns' ms')))) ⟨hp,g,d,tk,os⟩) _
  case turn =>
   rintro ⟨y,x⟩ Dr b s' ⟨E1,rfl,vs,ws,ns',ms',hz,hvi,hwi,Dj,hR⟩
   cases hvi with
   | nil=>rw [List.zip_nil_left] at hz;cases hz
   | int a t hvi' =>
    cases hwi with
    | nil=>rw [List.zip_nil_right] at hz;cases hz
    | str c u hwi'=>simp [bn] at Dj
    | int c u hwi' =>
     rw [List.zip_cons_cons] at hz
     injection hz with hyx hrest
     injection hyx with hy hx
     subst hy hx
     rename_i ks1 _ ks2
     have Do:a8 (Sum.inl a::ks1) (Sum.inl c::ks2)=if (Sum.inl a:ae)=Sum.inl c then a8 ks1 ks2 else decide (a<c):=rfl
     rw [Do] at hR
     have Dj:ks1.map bn=ks2.map bn:=by simpa [bn] using Dj
     refine Qb (SeqAt.EqAt.int_int a t c u prog w _ _ ?_)
     by_cases e:a=c
     ·rw [if_pos (by rw [e])] at hR
      rw [show (a == c)=true by simp [e]]
      wp_walk
      exact ⟨rfl,rfl,_,_,_,_,hrest,hvi',hwi',Dj,hR⟩
     ·rw [if_neg (fun z=>e (by injection z))] at hR
      rw [show (a == c)=false by simp [e]]
      have hri:∀ (E:Value->Shared->Prop) (Q:Value->Shared->Prop) (h:Q (.bool (decide (a ≥ c))) ⟨hp,g,d,tk,os⟩),wpAny (model prog w) A.in1 (richCompare .GtE (.int a t) (.int c u)) Q E ⟨hp,g,d,tk,os⟩:=fun E Q h=>(PySem.P.ge_int h:wpAny (model prog w) A.in1 (compareOp .GtE (.int a t) (.int c u)) Q E ⟨hp,g,d,tk,os⟩)
      wp_walk using hri
      have ed:(!decide (a<c))=decide (a ≥ c):=by
       by_cases q:a<c
       ·rw [Qo q,Qi (by lia)];rfl
       ·rw [Qi q,Qo (by lia)];rfl
      rw [ed] at hR
      exact ⟨_,rfl,by simpa using hR⟩
   | str a t hvi' =>
    cases hwi with
    | nil=>rw [List.zip_nil_right] at hz;cases hz
    | int c u hwi'=>simp [bn] at Dj
    | str c u hwi' =>
     rw [List.zip_cons_cons] at hz
     injection hz with hyx hrest
     injection hyx with hy hx
     subst hy hx
     rename_i ks1 _ ks2
     have Do:a8 (Sum.inr a::ks1) (Sum.inr c::ks2)=if (Sum.inr a:ae)=Sum.inr c then a8 ks1 ks2 else decide (a.cps.toList<c.cps.toList):=rfl
     rw [Do] at hR
     have Dj:ks1.map bn=ks2.map bn:=by simpa [bn] using Dj
     refine Qb (SeqAt.EqAt.str_str a t c u prog w _ _ ?_)
     by_cases e:a=c
     ·rw [if_pos (by rw [e])] at hR
      rw [show (a == c)=true by simp [e]]
      wp_walk
      exact ⟨rfl,rfl,_,_,_,_,hrest,hvi',hwi',Dj,hR⟩
     ·rw [if_neg (fun z=>e (by injection z))] at hR
      rw [show (a == c)=false by simp [e]]
      have hri:∀ (E:Value->Shared->Prop) (Q:Value->Shared->Prop) (h:Q (.bool (!(a.cps.toList<c.cps.toList))) ⟨hp,g,d,tk,os⟩),wpAny (model prog w) A.in1 (richCompare .GtE (.str a t) (.str c u)) Q E ⟨hp,g,d,tk,os⟩:=fun E Q h=>(PySem.P.ge_str h:wpAny (model prog w) A.in1 (compareOp .GtE (.str a t) (.str c u)) Q E ⟨hp,g,d,tk,os⟩)
      wp_walk using hri
      exact ⟨_,rfl,by simpa using hR⟩
  case fin =>
   rintro ⟨b1,b2⟩ s' ⟨E1,rfl,vs,ws,ns',ms',hz,hvi,hwi,Dj,hR⟩
   simp only at E1
   subst E1
   have hv:a8 ns' ms'=false:=by
    cases hvi with
    | nil=>rfl
    | int a t hv =>
     cases hwi with
     | nil=>rfl
     | int c u hw=>rw [List.zip_cons_cons] at hz;cases hz
     | str c u hw=>rw [List.zip_cons_cons] at hz;cases hz
    | str a t hv =>
     cases hwi with
     | nil=>rfl
     | int c u hw=>rw [List.zip_cons_cons] at hz;cases hz
     | str c u hw=>rw [List.zip_cons_cons] at hz;cases hz
   rw [hv] at hR
   wp_walk
   exact ⟨_,rfl,by simpa [Builtin.Tuple.tupleCompareSizes,z1,z2,hll] using hR⟩
  case h =>
   exact ⟨rfl,rfl,items.toList,E3.toList,ns,ms,rfl,hi,hj,DV,h⟩
end
theorem Aw {X:Cx} (hu:X.A.units<cLine):bD X (compareOp .GtE) (fun x y H Q=>∃ (a b:Addr) (ds es:List ae),x=.ref a/\y=.ref b/\H a=some (.tup (ds.map kV))/\H b=some (.tup (es.map kV))/\ds.map bn=es.map bn/\Q (.bl (!a8 ds es)) H):=by
 intro Df s σ H x y v u Q I rx ry h
 obtain ⟨a,b,ds,es,rfl,rfl,ha,hb,DV,q⟩:=h
 cases rx
 cases ry
 obtain ⟨⟨cls,dd,data,sl⟩,vs,n,ho,hc,hd,rv⟩:=jO I ha
 obtain ⟨⟨cls2,dd2,data2,sl2⟩,vs2,n2,Et,hc2,ES,rv2⟩:=jO I hb
 simp only at hc hd hc2 ES
 subst hc hd hc2 ES
 exact richCompare_meets_room (op:=.GtE) ⟨_,ho,rfl⟩ ⟨_,Et,rfl⟩ PySem.F.slot_tuple_ge PySem.F.entry_tuple_ge (PySem.F.args_tuple_ge_2 _ _) (Av a b vs.toArray vs2.toArray n n2 dd dd2 sl sl2 ds es (lz (by simpa using rv)) (lz (by simpa using rv2)) DV)
  ⟨ho,Et,show Value.bool (!a8 ds es)≠Value.notImplemented/\_ from ⟨(fun x=>nomatch x),.bl _,H,I,rfl,q⟩⟩ hu
end L2
namespace Mm
open PySem L2 PyProof.Rows
noncomputable def Tr.nb:Tr->Nat
 | .iff _ _ _ _ _=>2
 | .whl _ _ _ _=>1
 | .df _ _ _ _ _ _=>1
 | _=>0
noncomputable def Tr.pre:Tr->List aP
 | .set _ r n e=>[.s "set",.i r,.s n,.e e]
 | .tell _ r e=>[.s "tell",.i r,.e e]
 | .iff _ r e _ _=>[.s "if",.i r,.e e]
 | .whl _ r e _=>[.s "while",.i r,.e e]
 | .give _ r e=>[.s "give",.i r,.e e]
 | .df _ r n k ps _=>[.s "def",.i r,.s n,.s k,.p ps]
 | .kd _ r n ps=>[.s "kind",.i r,.s n,.p ps]
noncomputable def Tr.fill:Tr->List (List Tr)->Tr
 | .iff m r e _ _,bs=>.iff m r e (bs.getD 0 []) (bs.getD 1 [])
 | .whl m r e _,bs=>.whl m r e (bs.getD 0 [])
 | .df m r n k ps _,bs=>.df m r n k ps (bs.getD 0 [])
 | .set m r n e,_=>.set m r n e
 | .tell m r e,_=>.tell m r e
 | .give m r e,_=>.give m r e
 | .kd m r n ps,_=>.kd m r n ps
theorem jV (t:Tr) (bs:List (List Tr)):(t.fill bs).mask=t.mask:=by cases t<;>rfl
theorem sH (t:Tr) (bs:List (List Tr)):(t.fill bs).row=t.row:=by cases t<;>rfl
theorem sJ {α:Type} {l:List α} (h:l.length=0):l=[]:=List.length_eq_zero_iff.mp h
theorem gu {α:Type} {l:List α} (h:l.length=1):∃ a,l=[a]:=List.length_eq_one_iff.mp h
theorem nU {α:Type} {l:List α} (h:l.length=2):∃ a b,l=[a,b]:=by
 obtain ⟨a,r,rfl⟩:=List.exists_cons_of_length_eq_add_one h
 obtain ⟨b,rfl⟩:=gu (l:=r) (by simpa using h)
 exact ⟨a,b,rfl⟩
theorem sK {t:Tr} {bs:List (List Tr)} (h:bs.length=t.nb):(t.fill bs).parts=t.pre++bs.map aP.b:=by
 cases t with
 | iff m r e b o=>obtain ⟨a,c,rfl⟩:=nU h;rfl
 | whl m r e b=>obtain ⟨a,rfl⟩:=gu h;rfl
 | df m r n k ps b=>obtain ⟨a,rfl⟩:=gu h;rfl
 | _=>rw [sJ h];rfl
structure Bk where
 m:Nat
 d:Nat
 rs:List (Tr × List Nat)
noncomputable def bN:Bk:=⟨0,0,[]⟩
noncomputable def ba (B:List Bk):Nat->Nat->List Tr
 | 0,_=>[]
 | n+1,i=>(B.getD i bN).rs.map fun q=>q.1.fill (q.2.map (ba B n))
structure g7 (B:List Bk) (k:Nat) (b:Bk) (q:Tr × List Nat):Prop where
 ok:bK q.1.mask
 asc:q.1.asc
 bare:q.1.fill []=q.1
 sub:q.1.mask &&& b.m=q.1.mask
 row:q.1.row<k
 nb:q.2.length=q.1.nb
 co:q.1.co<=15
 ch:∀ j∈q.2,∃ c,B[j]?=some c/\c.m=q.1.mask/\c.d=b.d+1
structure sL (B:List Bk) (k:Nat) (b:Bk):Prop where
 d:b.d<=3
 len:b.rs.length<=2*k
 pw:b.rs.Pairwise fun p q=>c7 p.1 q.1
 rw:∀ q∈b.rs,g7 B k b q
noncomputable def kids (b:Bk):List Nat:=b.rs.flatMap (·.2)
structure PI (B:List Bk) (k:Nat):Prop where
 b:∀ b∈B,sL B k b
 nd:∀ b∈B,(kids b).Nodup
 dj:∀ (i j:Nat) (a b:Bk),B[i]?=some a->B[j]?=some b->i≠j->∀ c∈kids a,c∉kids b
 sum:(B.map fun b=>b.rs.length).sum<=2*k
theorem d4 {B:List Bk} {i:Nat} {b:Bk} (h:B[i]?=some b):B.getD i bN=b:=by rw [Qe,h];rfl
theorem lA {B:List Bk} {i:Nat} (h:B[i]?=none):B.getD i bN=bN:=by rw [Qe,h];rfl
theorem sM (B:List Bk):∀ n i,deeps (ba B n i)<=n
 | 0,i=>by simp [ba,deeps]
 | n+1,i=>by
  rw [ba]
  refine ly (us:=[]) fun t ht=>?_
  obtain ⟨q,hq,rfl⟩:=QH ht
  have go:∀ j,deeps ((q.2.map (ba B n)).getD j [])<=n:=fun j=>by
   rw [Qe,Qr]
   cases q.2[j]? with
   | none=>simp [deeps]
   | some a=>exact sM B n a
  cases e:q.1 with
  | iff m r x b o=>have h1:=go 0;have h2:=go 1;simp only [Tr.fill,Tr.deep];lia
  | whl m r x b=>have h1:=go 0;simp only [Tr.fill,Tr.deep];lia
  | df m r n k ps b=>have h1:=go 0;simp only [Tr.fill,Tr.deep];lia
  | _=>simp [Tr.fill,Tr.deep]
theorem PI.len {B:List Bk} {k:Nat} (h:PI B k) (hk:k<=20) (n i:Nat):(ba B n i).length<=40:=by
 cases n with
 | zero=>simp [ba]
 | succ n =>
  rw [ba,Qd]
  cases e:B[i]? with
  | none=>rw [lA e];simp [bN]
  | some b=>rw [d4 e];have:=(h.b b (Qh e)).len;lia
theorem PI.ascs {B:List Bk} {k:Nat} (h:PI B k) (hk:k<=20):∀ n i,Mm.ascs (ba B n i)/\∀ c,B[i]?=some c->c6 c.m (ba B n i)
 | 0,i=>by rw [ba];exact ⟨trivial,fun c _ t ht=>by simp at ht⟩
 | n+1,i=>by
  rw [ba]
  cases e:B[i]? with
  | none=>rw [lA e];exact ⟨trivial,fun c hc=>by cases hc⟩
  | some b =>
   rw [d4 e]
   have hb:=h.b b (Qh e)
   have one:∀ q∈b.rs,(q.1.fill (q.2.map (ba B n))).asc:=fun q hq=>by
    have hr:=hb.rw q hq
    have ha:=hr.asc
    have go:∀ j,j<q.2.length->((q.2.map (ba B n)).getD j []).length<=40/\c6 q.1.mask ((q.2.map (ba B n)).getD j [])/\Mm.ascs ((q.2.map (ba B n)).getD j []):=fun j hj=>by
     rw [Qe,Qr,Qa hj]
     obtain ⟨c,hc,hm,_⟩:=hr.ch _ (QL hj)
     have:=h.ascs hk n q.2[j]
     exact ⟨h.len hk n _,by rw [<- hm];exact this.2 c hc,this.1⟩
    have Dy:=hr.nb
    cases eq:q.1 with
    | iff m r x bb o =>
     rw [eq] at ha Dy go
     exact ⟨ha.1,go 0 (by rw [Dy];show 0<2;decide),go 1 (by rw [Dy];show 1<2;decide)⟩
    | whl m r x bb =>
     rw [eq] at ha Dy go
     exact ⟨ha.1,go 0 (by rw [Dy];show 0<1;decide)⟩
    | df m r nn kk ps bb =>
     rw [eq] at ha Dy go
     exact ⟨ha.1,go 0 (by rw [Dy];show 0<1;decide)⟩
    | _=>rw [eq] at ha;exact ha
   refine ⟨nN (fun t ht=>?_) ?_,fun c hc t ht=>?_⟩
   ·obtain ⟨q,hq,rfl⟩:=QH ht
    exact ⟨by rw [jV];exact (hb.rw q hq).ok,one q hq⟩
   ·refine List.pairwise_map.mpr (hb.pw.imp fun {p q} g=>?_)
    unfold c7 at g ⊢
    rw [jV,jV,sH,sH]
    exact g
   ·cases hc
    obtain ⟨q,hq,rfl⟩:=QH ht
    rw [jV];exact (hb.rw q hq).sub
noncomputable def jW (B:List Bk) (L:List Nat):List Nat:=L.flatMap fun i=>kids (B.getD i bN)
noncomputable def g8 (B:List Bk):Nat->List Nat->List Nat
 | 0,_=>[]
 | n+1,L=>L++g8 B n (jW B L)
theorem PI.at {B:List Bk} {k:Nat} (h:PI B k) {i:Nat} {b:Bk} (e:B[i]?=some b):sL B k b:=h.b b (Qh e)
def Lv (B:List Bk) (d:Nat) (L:List Nat):Prop:=L.Nodup/\∀ i∈L,∃ b,B[i]?=some b/\b.d=d
theorem Lv.kids {B:List Bk} {k d:Nat} {L:List Nat} (h:PI B k) (l:Lv B d L):Lv B (d+1) (jW B L):=by
 refine ⟨List.pairwise_flatMap.mpr ⟨fun i hi=>?_,?_⟩,fun j hj=>?_⟩
 ·obtain ⟨b,hb,_⟩:=l.2 i hi
  rw [d4 hb];exact h.nd b (Qh hb)
 ·refine l.1.imp_of_mem fun {i j} hi hj Dp=>?_
  obtain ⟨a,ha,_⟩:=l.2 i hi
  obtain ⟨b,hb,_⟩:=l.2 j hj
  rw [d4 ha,d4 hb]
  exact fun c hc c' E7 e=>h.dj i j a b ha hb Dp c hc (by rw [e];exact E7)
 ·obtain ⟨i,hi,hj⟩:=List.mem_flatMap.mp hj
  obtain ⟨b,hb,hd⟩:=l.2 i hi
  rw [d4 hb] at hj
  obtain ⟨q,hq,hj⟩:=List.mem_flatMap.mp hj
  obtain ⟨c,hc,_,FP⟩:=((h.at hb).rw q hq).ch j hj
  exact ⟨c,hc,by rw [FP,hd]⟩
theorem Lv.all {B:List Bk} {k:Nat} (h:PI B k):∀ {n d:Nat} {L:List Nat},Lv B d L->(g8 B n L).Nodup/\∀ i∈g8 B n L,∃ b,B[i]?=some b/\d<=b.d
 | 0,d,L,_=>by rw [g8];exact ⟨.nil,fun i hi=>by simp at hi⟩
 | n+1,d,L,l=>by
  rw [g8]
  obtain ⟨h1,h2⟩:=Lv.all h (n:=n) (l.kids h)
  refine ⟨List.nodup_append.mpr ⟨l.1,h1,fun i hi j hj e=>?_⟩,fun i hi=>?_⟩
  ·subst e
   obtain ⟨b,hb,e1⟩:=l.2 i hi
   obtain ⟨c,hc,e2⟩:=h2 i hj
   rw [hb] at hc;cases hc;lia
  ·rcases Qw hi with q | q
   ·obtain ⟨b,hb,e1⟩:=l.2 i q;exact ⟨b,hb,by lia⟩
   ·obtain ⟨b,hb,e1⟩:=h2 i q;exact ⟨b,hb,by lia⟩
theorem nV {α:Type} {g:Nat->Nat}:∀ (l:List α) (f:α->List Nat),((l.flatMap f).map g).sum=(l.map fun a=>((f a).map g).sum).sum
 | [],f=>by simp
 | a::l,f=>by rw [List.flatMap_cons,QQ,List.sum_append_nat,nV l f,List.map_cons,List.sum_cons]
theorem nW {α:Type} {f g:α->Nat}:∀ {l:List α},(∀ a∈l,f a<=g a)->(l.map f).sum<=(l.map g).sum
 | [],_=>by simp
 | a::l,h=>by
  have h1:=h a (by simp)
  have h2:=nW (l:=l) fun x hx=>h x (by simp [hx])
  simp only [List.map_cons,List.sum_cons];lia
theorem nX {α:Type} {f g:α->Nat}:∀ (l:List α),(l.map fun a=>f a+g a).sum=(l.map f).sum+(l.map g).sum
 | []=>by simp
 | a::l=>by have:=nX (f:=f) (g:=g) l;simp only [List.map_cons,List.sum_cons];lia
theorem sN {B:List Bk} {k c:Nat} {F:List Tr->Nat} {f:Tr->Nat} (h:PI B k) (hF:∀ ts,F ts=(ts.map f).sum) (hf:∀ b q,g7 B k b q->∀ bs,bs.length=q.1.nb->f (q.1.fill bs)<=c+(bs.map F).sum):∀ (n:Nat) (L:List Nat),(L.map fun i=>F (ba B n i)).sum<=((g8 B n L).map fun i=>c*(B.getD i bN).rs.length).sum
 | 0,L=>by
  have:∀ L:List Nat,(L.map fun i=>F (ba B 0 i)).sum=0:=fun L=>by
   induction L with
   | nil=>rfl
   | cons a L ih=>rw [List.map_cons,List.sum_cons,ih,ba,hF];rfl
  rw [this];exact Qu _
 | n+1,L=>by
  rw [g8,QQ,List.sum_append_nat]
  have ih:=sN h hF hf n (jW B L)
  have one:∀ i∈L,F (ba B (n+1) i)<=c*(B.getD i bN).rs.length+((kids (B.getD i bN)).map fun j=>F (ba B n j)).sum:=fun i _=>by
   rw [ba,hF,QZ]
   have hr:∀ q∈(B.getD i bN).rs,g7 B k (B.getD i bN) q:=fun q hq=>by
    cases e:B[i]? with
    | none=>rw [lA e] at hq;simp [bN] at hq
    | some b=>rw [d4 e] at hq ⊢;exact (h.at e).rw q hq
   unfold kids
   rw [nV]
   have q1:=nW (l:=(B.getD i bN).rs) (f:=f∘fun q=>q.1.fill (q.2.map (ba B n))) (g:=fun q=>c+(q.2.map fun j=>F (ba B n j)).sum) fun q hq=>by
    have:=hf _ q (hr q hq) (q.2.map (ba B n)) (by rw [Qd];exact (hr q hq).nb)
    rw [QZ] at this
    exact this
   rw [nX] at q1
   have q2:(((B.getD i bN).rs).map fun _=>c).sum=c*(B.getD i bN).rs.length:=by
    generalize (B.getD i bN).rs=l
    induction l with
    | nil=>rfl
    | cons a l ih=>rw [List.map_cons,List.sum_cons,ih,QR,Nat.mul_succ,Nat.add_comm]
   rw [q2] at q1
   exact q1
  have q3:=nW one
  rw [nX] at q3
  have q4:(L.map fun i=>((kids (B.getD i bN)).map fun j=>F (ba B n j)).sum).sum=((jW B L).map fun j=>F (ba B n j)).sum:=by
   unfold jW;rw [nV]
  rw [q4] at q3
  lia
theorem Ax {g:Bk->Nat}:∀ {B:List Bk} {L:List Nat},L.Nodup->(∀ i∈L,i<B.length)->(L.map fun i=>g (B.getD i bN)).sum<=(B.map g).sum:=fun {B L} nd hl=>by
 have e:B.map g=(List.range B.length).map fun i=>g (B.getD i bN):=by
  refine List.ext_getElem (by simp) fun i h1 h2=>?_
  have F0:i<B.length:=by simpa using h1
  rw [List.getElem_map,List.getElem_map,List.getElem_range,Qe,Qa F0];rfl
 rw [e]
 have go:∀ {L R:List Nat},L.Nodup->(∀ i∈L,i∈R)->(L.map fun i=>g (B.getD i bN)).sum<=(R.map fun i=>g (B.getD i bN)).sum:=fun {L}=>by
  induction L with
  | nil=>intro R _ _;exact Qu _
  | cons a L ih =>
   intro R nd hs
   have ha:=hs a (by simp)
   have nd':=List.nodup_cons.mp nd
   have p:=List.perm_cons_erase ha
   rw [(p.map _).sum_nat,List.map_cons,List.map_cons,List.sum_cons,List.sum_cons]
   have:=ih (R:=R.erase a) nd'.2 fun i hi=>(List.mem_erase_of_ne (fun z=>nd'.1 (by rw [<- z];exact hi))).mpr (hs i (by simp [hi]))
   lia
 exact go nd fun i hi=>List.mem_range.mpr (hl i hi)
theorem PI.wt {B:List Bk} {k c:Nat} {F:List Tr->Nat} {f:Tr->Nat} {b0:Bk} (h:PI B k) (h0:B[0]?=some b0) (hd:b0.d=0) (hF:∀ ts,F ts=(ts.map f).sum) (hf:∀ b q,g7 B k b q->∀ bs,bs.length=q.1.nb->f (q.1.fill bs)<=c+(bs.map F).sum) (n:Nat):F (ba B n 0)<=c*(2*k):=by
 have l0:Lv B 0 [0]:=⟨by simp,fun i hi=>by rw [Qt hi];exact ⟨b0,h0,hd⟩⟩
 obtain ⟨a1,a2⟩:=l0.all h (n:=n)
 have q1:=sN h hF hf n [0]
 have q2:=Ax (g:=fun b=>c*b.rs.length) (B:=B) a1 fun i hi=>by
  obtain ⟨b,hb,_⟩:=a2 i hi
  exact (Qc hb).1
 have q3:(B.map fun b=>c*b.rs.length).sum=c*(B.map fun b=>b.rs.length).sum:=by
  generalize B=l
  induction l with
  | nil=>rfl
  | cons a l ih=>rw [List.map_cons,List.sum_cons,ih,List.map_cons,List.sum_cons,Nat.mul_add]
 rw [q3] at q2
 have q4:=Nat.mul_le_mul_left c h.sum
 simp only [List.map_cons,List.map_nil,List.sum_cons,List.sum_nil,Nat.add_zero] at q1
 lia
theorem sO {q:Tr × List Nat} {bs:List (List Tr)} (hb:q.1.fill []=q.1) (h:bs.length=q.1.nb):(q.1.fill bs).co=q.1.co+(bs.map cos).sum/\(q.1.fill bs).cnt=1+(bs.map cnts).sum:=by
 generalize q.1=t at hb h
 cases t with
 | iff m r e b o =>
  obtain ⟨a,c,rfl⟩:=nU h
  injection hb with _ _ _ h1 h2
  rw [<- h1,<- h2]
  simp [Tr.fill,Tr.co,cos,Tr.cnt];lia
 | whl m r e b =>
  obtain ⟨a,rfl⟩:=gu h
  injection hb with _ _ _ h1
  rw [<- h1]
  simp [Tr.fill,Tr.co,cos,Tr.cnt]
 | df m r n k ps b =>
  obtain ⟨a,rfl⟩:=gu h
  injection hb with _ _ _ _ _ h1
  rw [<- h1]
  simp [Tr.fill,Tr.co,cos,Tr.cnt]
 | _=>rw [sJ h];simp [Tr.fill,Tr.co,Tr.cnt]
theorem PI.cos {B:List Bk} {k:Nat} {b0:Bk} (h:PI B k) (h0:B[0]?=some b0) (hd:b0.d=0) (n:Nat):Mm.cos (ba B n 0)<=15*(2*k)/\cnts (ba B n 0)<=1*(2*k) :=
 ⟨h.wt h0 hd ln (fun b q hr bs hl=>by have:=(sO hr.bare hl).1;have:=hr.co;lia) n,h.wt h0 hd lq (fun b q hr bs hl=>by have:=(sO hr.bare hl).2;lia) n⟩
noncomputable def cx (d:Nat) (ts:List Tr):List Bk:=ts.flatMap fun t=>List.replicate t.nb ⟨t.mask,d,[]⟩
noncomputable def b7 (n:Nat) (ts:List Tr):List (Tr × List Nat):=ts.map fun t=>(t,List.range' n t.nb)
noncomputable def ci (B:List Bk) (i:Nat) (ts:List Tr):List Bk:=B.set i ⟨(B.getD i bN).m,(B.getD i bN).d,(B.getD i bN).rs++b7 B.length ts⟩++cx ((B.getD i bN).d+1) ts
def iQ (ts:List Tr):Prop:=(∃ t,ts=[t])∨∀ t∈ts,t.nb=0
theorem iR {d:Nat} {ts:List Tr} {j:Nat} {c:Bk} (h:(cx d ts)[j]?=some c):c.rs=[]/\c.d=d:=by
 obtain ⟨t,_,h⟩:=List.mem_flatMap.mp (Qh h)
 rw [List.eq_of_mem_replicate h];exact ⟨rfl,rfl⟩
theorem lB {B:List Bk} {i j:Nat} {ts:List Tr} {b:Bk} (hb:B[i]?=some b) (hj:j<B.length):(ci B i ts)[j]?=if i=j then some { b with rs:=b.rs++b7 B.length ts } else B[j]?:=by
 unfold ci
 rw [d4 hb,Qp (by simpa using hj),List.getElem?_set]
 split
 ·rename_i e;rw [if_pos (by lia)]
 ·rfl
theorem lC {B:List Bk} {i j:Nat} {ts:List Tr} {b:Bk} (hb:B[i]?=some b) (hj:B.length<=j):(ci B i ts)[j]?=(cx (b.d+1) ts)[j-B.length]?:=by
 unfold ci
 rw [d4 hb,Ql (by simpa using hj),List.length_set]
theorem Ay {B:List Bk} {i:Nat} {ts:List Tr}:(ci B i ts).length=B.length+(cx ((B.getD i bN).d+1) ts).length:=by
 unfold ci;rw [QK,List.length_set]
theorem lD {B:List Bk} {i j:Nat} {ts:List Tr} {b c:Bk} (hb:B[i]?=some b) (hc:B[j]?=some c):∃ c',(ci B i ts)[j]?=some c'/\c'.m=c.m/\c'.d=c.d:=by
 rw [lB hb (Qc hc).1]
 split
 ·rename_i e;subst e;rw [hb] at hc;cases hc;exact ⟨_,rfl,rfl,rfl⟩
 ·exact ⟨c,hc,rfl,rfl⟩
theorem sP {B:List Bk} {i:Nat} {ts:List Tr} {b:Bk} (hb:B[i]?=some b) (hl:iQ ts) {q:Tr × List Nat} (hq:q∈b7 B.length ts):q.1∈ts/\q.2.length=q.1.nb/\∀ j∈q.2,B.length<=j/\∃ c,(ci B i ts)[j]?=some c/\c.m=q.1.mask/\c.d=b.d+1:=by
 obtain ⟨t,ht,rfl⟩:=QH hq
 refine ⟨ht,List.length_range',fun j hj=>?_⟩
 obtain ⟨h1,h2⟩:=List.mem_range'_1.mp hj
 refine ⟨h1,?_⟩
 rcases hl with ⟨u,rfl⟩ | hl
 ·rw [Qt ht] at h2 ⊢
  rw [lC hb h1]
  unfold cx
  rw [List.flatMap_cons,List.flatMap_nil,QM,List.getElem?_replicate,if_pos (by omega)]
  exact ⟨_,rfl,rfl,rfl⟩
 ·have:=hl t ht;omega
theorem Az {n:Nat} {ts:List Tr} (hl:iQ ts):((b7 n ts).flatMap (·.2)).Nodup/\∀ j∈(b7 n ts).flatMap (·.2),n<=j:=by
 refine ⟨?_,fun j hj=>?_⟩
 ·rcases hl with ⟨u,rfl⟩ | hl
  ·unfold b7
   simp only [List.map_cons,List.map_nil,List.flatMap_cons,List.flatMap_nil,QM]
   exact List.nodup_range'
  ·have:(b7 n ts).flatMap (·.2)=[]:=List.flatMap_eq_nil_iff.mpr fun q hq=>by
    obtain ⟨t,ht,rfl⟩:=QH hq
    show List.range' n t.nb=[]
    rw [hl t ht];rfl
   rw [this];exact .nil
 ·obtain ⟨q,hq,hj⟩:=List.mem_flatMap.mp hj
  obtain ⟨t,_,rfl⟩:=QH hq
  exact (List.mem_range'_1.mp hj).1
theorem sum_set {g:Bk->Nat} {x b:Bk}:∀ {B:List Bk} {i:Nat},B[i]?=some b->((B.set i x).map g).sum+g b=(B.map g).sum+g x
 | [],i,h=>by simp at h
 | c::B,0,h=>by
  have:c=b:=by simpa using h
  subst this
  simp only [List.set_cons_zero,List.map_cons,List.sum_cons];lia
 | c::B,i+1,h=>by
  have:=sum_set (g:=g) (x:=x) (B:=B) (i:=i) (by simpa using h)
  simp only [List.set_cons_succ,List.map_cons,List.sum_cons];lia
theorem PI.add {B:List Bk} {k i:Nat} {b:Bk} {ts:List Tr} (h:PI B k) (hb:B[i]?=some b) (hl:iQ ts) (h2:ts.length<=2) (hd:(∃ t∈ts,t.nb≠0)->b.d<=2) (hpw:ts.Pairwise c7)
  (hr:∀ t∈ts,bK t.mask/\t.asc/\t.fill []=t/\t.mask &&& b.m=t.mask/\t.row=k/\t.co<=15):PI (ci B i ts) (k+1):=by
 have DJ:=(Qc hb).1
 have hbP:=h.at hb
 have klt:∀ j c,B[j]?=some c->∀ x∈kids c,x<B.length:=fun j c hc x hx=>by
  obtain ⟨q,hq,hx⟩:=List.mem_flatMap.mp hx
  obtain ⟨d,hd,_⟩:=((h.at hc).rw q hq).ch x hx
  exact (Qc hd).1
 have rwm:∀ {c c':Bk} {q},g7 B k c q->c'.m=c.m->c'.d=c.d->g7 (ci B i ts) (k+1) c' q:=fun {c c' q} r e1 e2=>⟨r.ok,r.asc,r.bare,by rw [e1];exact r.sub,Nat.lt_succ_of_lt r.row,r.nb,r.co,fun j hj=>by
  obtain ⟨x,hx,m1,m2⟩:=r.ch j hj
  obtain ⟨x',hx',n1,n2⟩:=lD (ts:=ts) hb hx
  exact ⟨x',hx',by rw [n1,m1],by rw [n2,m2,e2]⟩⟩
 have cas:∀ {j c},(ci B i ts)[j]?=some c->(j<B.length/\i=j/\c={ b with rs:=b.rs++b7 B.length ts })∨(j<B.length/\i≠j/\B[j]?=some c)∨(B.length<=j/\(cx (b.d+1) ts)[j-B.length]?=some c):=fun {j c} hc=>by
  by_cases hj:j<B.length
  ·rw [lB hb hj] at hc
   split at hc
   ·rename_i e;cases hc;exact .inl ⟨hj,e,rfl⟩
   ·rename_i e;exact .inr (.inl ⟨hj,e,hc⟩)
  ·rw [lC hb (by lia)] at hc;exact .inr (.inr ⟨by lia,hc⟩)
 have kn:∀ {c:Bk},c.rs=[]->kids c=[]:=fun {c} e=>by unfold kids;rw [e];rfl
 have kA:kids { b with rs:=b.rs++b7 B.length ts }=kids b++(b7 B.length ts).flatMap (·.2):=by unfold kids;rw [List.flatMap_append]
 obtain ⟨kd1,kd2⟩:=Az (n:=B.length) hl
 refine ⟨fun c hc=>?_,fun c hc=>?_,fun j j' a a' ha Ge Dp x hx hx'=>?_,?_⟩
 ·obtain ⟨j,hj⟩:=List.mem_iff_getElem?.mp hc
  rcases cas hj with ⟨_,_,rfl⟩ | ⟨_,_,hc⟩ | ⟨_,hc⟩
  ·refine ⟨hbP.d,?_,?_,fun q hq=>?_⟩
   ·show (b.rs++b7 B.length ts).length<=_
    have:=hbP.len
    rw [QK];unfold b7;rw [Qd];lia
   ·refine List.pairwise_append.mpr ⟨hbP.pw,?_,fun p hp q hq=>?_⟩
    ·unfold b7;exact List.pairwise_map.mpr hpw
    ·obtain ⟨t,ht,rfl⟩:=QH hq
     have h1:=(hbP.rw p hp).row
     have h2:=(hr t ht).2.2.2.2.1
     exact ⟨by show p.1.row<=t.row;lia,fun e=>by have e:p.1.row=t.row:=e;lia⟩
   ·rcases Qw (show q∈b.rs++b7 B.length ts from hq) with hq | hq
    ·exact rwm (hbP.rw q hq) rfl rfl
    ·obtain ⟨m1,m2,m3⟩:=sP hb hl hq
     obtain ⟨n1,n2,n3,n4,n5,n6⟩:=hr q.1 m1
     exact ⟨n1,n2,n3,n4,by lia,m2,n6,fun j hj=>(m3 j hj).2⟩
  ·have:=h.at hc
   exact ⟨this.d,by have:=this.len;lia,this.pw,fun q hq=>rwm (this.rw q hq) rfl rfl⟩
  ·obtain ⟨e1,e2⟩:=iR hc
   obtain ⟨t,ht,hm⟩:=List.mem_flatMap.mp (Qh hc)
   have Dp:t.nb≠0:=fun z=>by rw [z] at hm;simp at hm
   have:=hd ⟨t,ht,Dp⟩
   refine ⟨by lia,by rw [e1];exact Qu _,by rw [e1];exact .nil,fun q hq=>by rw [e1] at hq;simp at hq⟩
 ·obtain ⟨j,hj⟩:=List.mem_iff_getElem?.mp hc
  rcases cas hj with ⟨_,_,rfl⟩ | ⟨_,_,hc⟩ | ⟨_,hc⟩
  ·rw [kA]
   refine List.nodup_append.mpr ⟨h.nd b (Qh hb),kd1,fun x hx y hy e=>?_⟩
   have:=klt i b hb x hx
   have:=kd2 y hy
   lia
  ·exact h.nd c (Qh hc)
  ·rw [kn (iR hc).1];exact .nil
 ·have split:∀ {j a},(ci B i ts)[j]?=some a->x∈kids a->(∃ a0,B[j]?=some a0/\x∈kids a0/\x<B.length)∨(i=j/\B.length<=x):=fun {j a} ha hx=>by
   rcases cas ha with ⟨_,e,rfl⟩ | ⟨_,_,hc⟩ | ⟨_,hc⟩
   ·rw [kA] at hx
    rcases Qw hx with q | q
    ·exact .inl ⟨b,by rw [<- e];exact hb,q,klt i b hb x q⟩
    ·exact .inr ⟨e,kd2 x q⟩
   ·exact .inl ⟨a,hc,hx,klt j a hc x hx⟩
   ·rw [kn (iR hc).1] at hx;simp at hx
  rcases split ha hx with ⟨a0,g1,g2,g3⟩ | ⟨g1,g2⟩<;>rcases split Ge hx' with ⟨b0,f1,f2,f3⟩ | ⟨f1,f2⟩
  ·exact h.dj j j' a0 b0 g1 f1 Dp x g2 f2
  ·lia
  ·lia
  ·exact Dp (by rw [<- g1,<- f1])
 ·unfold ci
  rw [d4 hb,QQ,List.sum_append_nat]
  have e1:=sum_set (g:=fun b=>b.rs.length) (x:={ b with rs:=b.rs++b7 B.length ts }) hb
  have e2:((cx (b.d+1) ts).map fun b=>b.rs.length).sum=0:=by
   have:∀ l:List Bk,(∀ c∈l,c.rs=[])->(l.map fun b=>b.rs.length).sum=0:=fun l=>by
    induction l with
    | nil=>intro _;rfl
    | cons a l ih=>intro hc;rw [List.map_cons,List.sum_cons,ih fun c h=>hc c (by simp [h]),hc a (by simp)];rfl
   refine this _ fun c hc=>?_
   obtain ⟨j,hj⟩:=List.mem_iff_getElem?.mp hc
   exact (iR hj).1
  have e3:(b7 B.length ts).length=ts.length:=by unfold b7;rw [Qd]
  have:=h.sum
  have e4:(b.rs++b7 B.length ts).length=b.rs.length+(b7 B.length ts).length:=QK
  dsimp only at e1
  rw [e4] at e1
  rw [e2]
  lia
abbrev cy (H G:Hp):Prop:=∀ b xs,H b=some (.tup xs)->G b=some (.tup xs)
def cp (H:Hp) (u:Addr) (t:Tr) (bs:List Addr):Prop:=∃ a vs,H u=some (.tup [.int ((t.mask:Nat):Int),.ref a])/\H a=some (.tup (vs++bs.map V.ref))/\∀ G,cy H G->PsAt G true vs t.pre
theorem cp.kept {H G:Hp} {u:Addr} {t:Tr} {bs:List Addr} (h:cp H u t bs) (s:cy H G):cp G u t bs:=by obtain ⟨a,vs,h1,h2,h3⟩:=h;exact ⟨a,vs,s _ _ h1,s _ _ h2,fun G' s'=>h3 G' fun b xs e=>s' _ _ (s _ _ e)⟩
def dy (H:Hp) (as:List Addr) (us:List Addr) (rs:List (Tr × List Nat)):Prop:=us.length=rs.length/\∀ (k:Nat) (u:Addr) (q:Tr × List Nat),us[k]?=some u->rs[k]?=some q->cp H u q.1 (q.2.map fun j=>as.getD j 0)
structure FA (H:Hp) (as:List Addr) (B:List Bk):Prop where
 len:as.length=B.length
 nd:as.Nodup
 bl:∀ (i:Nat) (a:Addr) (b:Bk),as[i]?=some a->B[i]?=some b->∃ us:List Addr,H a=some (.lst (us.map V.ref))/\dy H as us b.rs
theorem FA.kept {H G:Hp} {as:List Addr} {B:List Bk} (h:FA H as B) (s:cy H G) (e:∀ a∈as,G a=H a):FA G as B :=
 ⟨h.len,h.nd,fun i a b ha hb=>by obtain ⟨us,h1,h2,h3⟩:=h.bl i a b ha hb;exact ⟨us,by rw [e a (Qh ha)];exact h1,h2,fun k u q x y=>(h3 k u q x y).kept s⟩⟩
theorem dy.ext {H:Hp} {as bs us:List Addr} {rs:List (Tr × List Nat)} (h:dy H as us rs) (hj:∀ q∈rs,∀ j∈q.2,j<as.length):dy H (as++bs) us rs:=⟨h.1,fun k u q x y=>by
 have:(q.2.map fun j=>(as++bs).getD j 0)=q.2.map fun j=>as.getD j 0:=List.map_congr_left fun j hm=>by
  have hl:=hj q (Qh y) j hm
  rw [Qe,Qe,Qp hl]
 rw [this];exact h.2 k u q x y⟩
theorem dy.app {H:Hp} {as us vs:List Addr} {rs qs:List (Tr × List Nat)} (h:dy H as us rs) (g:dy H as vs qs):dy H as (us++vs) (rs++qs):=by
 refine ⟨by rw [QK,QK,h.1,g.1],fun k u q x y=>?_⟩
 have e:=h.1
 by_cases hk:k<us.length
 ·rw [Qp hk] at x
  rw [Qp (by omega)] at y
  exact h.2 k u q x y
 ·rw [Ql (by omega)] at x
  rw [Ql (by omega)] at y
  exact g.2 (k-us.length) u q x (by rw [e];exact y)
theorem FA.add {H H3:Hp} {as us us' bs:List Addr} {B:List Bk} {k i:Nat} {a:Addr} {b:Bk} {ts:List Tr} (h:FA H as B) (hp:PI B k) (hi:as[i]?=some a) (hb:B[i]?=some b) (ha:H a=some (.lst (us.map V.ref))) (hT:cy H H3) (hL:∀ x∈as,H3 x=H x)
  (hr:dy H3 (as++bs) us' (b7 B.length ts)) (hbs:∀ x∈bs,x∉as/\H3 x=some (.lst [])) (hnd:bs.Nodup) (hl:bs.length=(cx (b.d+1) ts).length):FA (upd H3 a (.lst ((us++us').map V.ref))) (as++bs) (ci B i ts):=by
 have tk:cy H3 (upd H3 a (.lst ((us++us').map V.ref))):=fun c xs e=>by
  rw [al fun z=>by rw [z,hL a (Qh hi),ha] at e;cases e];exact e
 have rk:∀ {vs:List Addr} {rs:List (Tr × List Nat)} {as:List Addr},dy H3 as vs rs->dy (upd H3 a (.lst ((us++us').map V.ref))) as vs rs:=fun r=>⟨r.1,fun k u q x y=>(r.2 k u q x y).kept tk⟩
 have rk0:∀ {vs:List Addr} {rs:List (Tr × List Nat)} {as:List Addr},dy H as vs rs->dy H3 as vs rs:=fun r=>⟨r.1,fun k u q x y=>(r.2 k u q x y).kept hT⟩
 have lt:∀ c∈B,∀ q∈c.rs,∀ j∈q.2,j<as.length:=fun c hc q hq j hj=>by
  obtain ⟨d,hd,_⟩:=((hp.b c hc).rw q hq).ch j hj
  rw [h.len];exact (Qc hd).1
 refine ⟨by rw [QK,h.len,Ay,d4 hb,hl],List.nodup_append.mpr ⟨h.nd,hnd,fun x hx y hy e=>(hbs y hy).1 (by rw [<- e];exact hx)⟩,fun j x c hx hc=>?_⟩
 by_cases hj:j<B.length
 ·rw [Qp (by rw [h.len];exact hj)] at hx
  rw [lB hb hj] at hc
  by_cases e:i=j
  ·subst e
   rw [if_pos rfl] at hc
   rw [hi] at hx
   cases hx;cases hc
   obtain ⟨vs,h1,h2⟩:=h.bl i a b hi hb
   rw [ha] at h1
   have ev:us=vs:=by
    have h1:us.map V.ref=vs.map V.ref:=by injection h1 with h1;injection h1
    exact List.map_inj_right (fun x y z=>by injection z) |>.mp h1
   subst ev
   exact ⟨us++us',ai,((rk (rk0 h2)).ext (lt b (Qh hb))).app (rk hr)⟩
  ·rw [if_neg e] at hc
   obtain ⟨vs,h1,h2⟩:=h.bl j x c hx hc
   have Dp:x≠a:=fun z=>e (by
    obtain ⟨p1,p2⟩:=Qc hi
    obtain ⟨q1,q2⟩:=Qc hx
    exact (List.getElem_inj h.nd).mp (by rw [p2,q2,z]))
   exact ⟨vs,by rw [al Dp,hL x (Qh hx)];exact h1,(rk (rk0 h2)).ext (lt c (Qh hc))⟩
 ·rw [Ql (by rw [h.len];lia)] at hx
  rw [lC hb (by lia)] at hc
  obtain ⟨g1,g2⟩:=hbs x (Qh hx)
  refine ⟨[],by rw [al fun z=>g1 (by rw [z];exact Qh hi)];exact g2,?_⟩
  rw [(iR hc).1]
  exact ⟨rfl,fun k u q x=>by simp at x⟩
theorem PsAt.app {H:Hp} {sh:Bool}:∀ {vs us:List V} {ps qs:List aP},PsAt H sh vs ps->PsAt H sh us qs->PsAt H sh (vs++us) (ps++qs)
 | _,_,_,_,.nil,h=>h
 | _,_,_,_,.cons a b,h=>.cons a (b.app h)
theorem FA.lat {H:Hp} {as:List Addr} {B:List Bk} {k:Nat} (h:FA H as B) (p:PI B k):∀ (n i:Nat) (a:Addr) (b:Bk),as[i]?=some a->B[i]?=some b->4<=b.d+n->∃ us:List Addr,H a=some (.lst (us.map V.ref))/\LAt H true (us.map V.ref) (ba B n i)
 | 0,i,a,b,ha,hb,hd=>by have:=(p.at hb).d;lia
 | n+1,i,a,b,ha,hb,hd=>by
  obtain ⟨us,h1,h2,h3⟩:=h.bl i a b ha hb
  refine ⟨us,h1,?_⟩
  rw [ba,d4 hb]
  have blk:∀ {js:List Nat},(∀ j∈js,∃ c,B[j]?=some c/\c.d=b.d+1)->PsAt H true ((js.map fun j=>as.getD j 0).map V.ref) ((js.map (ba B n)).map aP.b):=fun {js}=>by
   induction js with
   | nil=>intro _;exact .nil
   | cons j js ih =>
    intro hj
    obtain ⟨c,hc,FP⟩:=hj j (by simp)
    have hjl:j<as.length:=by rw [h.len];exact (Qc hc).1
    obtain ⟨ws,g1,g2⟩:=FA.lat h p n j as[j] c (Qa hjl) hc (by lia)
    refine .cons ?_ (ih fun x hx=>hj x (by simp [hx]))
    show PAt H true (V.ref (as.getD j 0)) _
    rw [Qe,Qa hjl]
    exact .b g1 g2
  have go:∀ {rs:List (Tr × List Nat)} {us:List Addr},dy H as us rs->(∀ q∈rs,g7 B k b q)->LAt H true (us.map V.ref) (rs.map fun q=>q.1.fill (q.2.map (ba B n))):=fun {rs}=>by
   induction rs with
   | nil=>intro us g _;rw [List.length_eq_zero_iff.mp g.1];exact .nil
   | cons q rs ih =>
    intro us g hr
    obtain ⟨u,us,rfl⟩:=List.exists_cons_of_length_eq_add_one g.1
    have hq:=hr q (by simp)
    obtain ⟨x,vs,e1,e2,e3⟩:=g.2 0 u q rfl rfl
    refine .cons (.shared rfl (by rw [jV];exact e1) (.mk e2 ?_)) (ih ⟨by simpa using g.1,fun k u q x y=>g.2 (k+1) u q x y⟩ fun q hq=>hr q (by simp [hq]))
    rw [sK (by rw [Qd];exact hq.nb)]
    exact (e3 H fun _ _ e=>e).app (blk fun j hj=>by obtain ⟨c,hc,_,hd⟩:=hq.ch j hj;exact ⟨c,hc,hd⟩)
  exact go ⟨h2,h3⟩ (p.at hb).rw
end Mm
namespace L2
open PySem PySem.Spec PyProof.Rows
noncomputable abbrev cz (o:Obj):HO:=.frz o (.ext fun _=>True)
theorem lE {P:Program} {w:World} {H:Hp} {h:Heap} {a:Addr} {o:Obj} (e:h.get? a=some o):bC P w H h a (cz o):=⟨e,trivial,⟨o,e⟩,fun _ _ _ _=>trivial⟩
theorem iS {P:Program} {w:World} {H:Hp} {h:Heap} {a:Addr} {o:Obj} (x:bq P w H h) (e:H a=some (cz o)):h.get? a=some o:=(x a _ e).1
structure BMain (mg:Str->Option Value) (base:Heap):Prop where
 ex:∃ bm o,mg "__builtins__"=some (.ref bm)/\bm≠builtinsNs/\base.get? bm=some o/\o.cls=.type "module"/\o.dict=some builtinsNs/\o.data=.plain
def AB (qual:Str) (params:Arguments) (body:Expr) (sc:Scope) (pos:Pos) (cells:List (Str × Addr)) (pm:Value) (Pt:Addr):TE:=fun _ H Q=>∃ ps,H Pt=some (.tbl ps)/\TriplesOk ps.toList/\codeAmong pos ps.toList=none /\
 ∀ (f c':Addr) (oc:Obj) (vs:Array Value) (t:Tok) (EU:Value),H f=none->H c'=none->f≠c'->oc.data=.fields vs->vs[1]?=some (.str (qual++"<lambda>") t) ->
  Q (.ref f) (upd (upd (upd H Pt (.tbl (ps++#[rawInt pos.line,rawInt pos.col,.ref c']))) c' (cz oc)) f (cz (PySem.W.kla_obj "<lambda>" (qual++"<lambda>") params body sc (bM cells sc.names []) pm c' EU)))
theorem AC {X:Cx} {params:Arguments} {body:Expr} {sc:Scope} {pos:Pos} {c Pt:Addr} (hdef:defaultsOf params X.env=([],[])) (F4:X.env.code=.ref c) (hC:PySem.W.CodeHd X.base c Pt) (hB:BMain X.mg X.base)
  (DE:∀ y∈sc.names,y.2=.free->∃ c,X.env.cells.lookup y.1=some c) :
  PE X (.Lambda params body sc pos) (AB X.env.qual params body sc pos X.env.cells ((X.mg "__name__").getD .none) Pt):=by
 intro Df s σ H Q I h
 obtain ⟨ps,hP,ht,hnf,h⟩:=h
 have hP':s.heap.get? Pt=some (PySem.W.tabObj ps):=I.hok Pt _ hP
 have hg:s.heap.Ns mainGlobals X.mg:=I.mod.glob.keeps I.bk
 obtain ⟨bm,ob,b1,b2,b3,b4,b5,b6⟩:=hB.ex
 have Gz:=I.bk _ _ b3
 have hgP:mainGlobals≠Pt:=fun q=>by
  obtain ⟨o,es,ep,e,hd,_⟩:=hg
  rw [q,hP'] at e;cases e;cases hd
 have hbP:bm≠Pt:=fun q=>by rw [q,hP'] at Gz;cases Gz;cases b4
 have hbG:bm≠mainGlobals:=fun q=>by
  obtain ⟨o,es,ep,e,hd,_⟩:=hg
  rw [q,e] at Gz;cases Gz;rw [hd] at b6;cases b6
 refine PySem.W.kla_eval hdef ?_
 refine PySem.W.kla_makeFunction (mg:=X.mg) (iC DE) I.ok.glob hg F4 (hC.keeps I.bk) hP' ht hnf hgP ⟨bm,ob,b1,b2,hbG,hbP,Gz,b4,b5,b6⟩ fun c' EU h' tk hx EZ Do hrec EW=>?_
 obtain ⟨c2,oc,vs,t,e2,hoc,hd,hv⟩:=hrec
 cases e2
 have fF:H h'.objs.size=none:=I.hok.fresh (QY (QN EZ Do))
 have fC:H c'=none:=I.hok.fresh EZ
 refine ⟨.ref h'.objs.size,_,?_,rfl,h h'.objs.size c' oc vs t EU fF fC (QX Do) hd hv⟩
 have nPc:Pt≠c':=QB (QI (Qs hP') EZ)
 have nPf:Pt≠h'.objs.size:=QB (Nat.lt_trans (QI (Qs hP') EZ) Do)
 have sub:∀ b o,s.heap.get? b=some o->b≠c'/\b≠h'.objs.size:=fun b o e =>
  ⟨QB (QI (Qs e) EZ),QB (Nat.lt_trans (QI (Qs e) EZ) Do)⟩
 have FU:∀ {b o u},s.heap.get? b=some o->b≠Pt->(upd (upd (upd H Pt (.tbl (ps++#[rawInt pos.line,rawInt pos.col,.ref c']))) c' (cz oc)) h'.objs.size u) b=H b:=fun {b o u} e n=>by
  rw [al (sub b o e).2,al (sub b o e).1,al n]
 have GJ:∀ {b o u},H b=some o->b≠Pt->(upd (upd (upd H Pt (.tbl (ps++#[rawInt pos.line,rawInt pos.col,.ref c']))) c' (cz oc)) h'.objs.size u) b=H b:=fun {b o u} e n=>by
  rw [al (cr e fF),al (cr e fC),al n]
 have kp:∀ b o,b≠Pt->s.heap.get? b=some o->(h'.push (PySem.W.kla_obj "<lambda>" (X.env.qual++"<lambda>") params body sc (bM X.env.cells sc.names []) ((X.mg "__name__").getD .none) c' EU)).get? b=some o:=fun b o n e=>Qg _ (hx b o n e)
 refine I.un (t':=tk) ⟨fun b o e n _ _=>kp b o (fun z=>by rw [z,hP] at n;cases n) e,fun b o e n _ _=>⟨o.slots,kp b o (fun z=>by rw [z,hP] at n;cases n) e⟩,fun b o e n _=>?_,fun b o e _=>?_,fun b xs e=>?_,fun b o u e=>?_,fun b qs e=>?_⟩ ?_
 ·rw [FU e (fun z=>by rw [z,hP] at n;cases n)];exact n
 ·by_cases z:b=Pt
  ·subst z;exact ⟨_,Qg _ EW⟩
  ·exact ⟨o,kp b o z e⟩
 ·rw [GJ e (fun z=>by rw [z,hP] at e;cases e)];exact e
 ·rw [GJ e (fun z=>by rw [z,hP] at e;cases e)];exact e
 ·by_cases z:b=Pt
  ·subst z
   rw [hP] at e;cases e
   exact ⟨_,by rw [al nPf,al nPc,ai]⟩
  ·exact ⟨#[],by rw [GJ e z,e];simp⟩
 ·intro b o e
  by_cases z1:b=h'.objs.size
  ·subst z1
   rw [ai] at e;cases e
   exact lE (Qz _ rfl)
  rw [al z1] at e
  by_cases z2:b=c'
  ·subst z2
   rw [ai] at e;cases e
   exact lE (Qg _ hoc)
  rw [al z2] at e
  by_cases z3:b=Pt
  ·subst z3
   rw [ai] at e;cases e
   exact Qg _ EW
  rw [al z3] at e
  refine (I.hok b o e).stay (fun c v hc q=>kp c v ?_ q) (fun c r=>by rw [GJ r (fun z=>by rw [z,hP] at r;cases r)];exact r) fun c xs r=>by rw [GJ r (fun z=>by rw [z,hP] at r;cases r)];exact r
  rcases hc with rfl | hc
  ·exact z3
  ·rintro rfl
   rw [hP] at hc;cases hc
noncomputable def hid (cl:List (Str × Addr)) (H:Hp):Hp:=fun b=>if b∈cl.map (·.2) then none else H b
noncomputable def g9 (cl:List (Str × Addr)) (H H':Hp):Hp:=fun b=>if b∈cl.map (·.2) then H b else H' b
theorem gv {cl:List (Str × Addr)} {H:Hp} {b:Addr} (h:b∉cl.map (·.2)):hid cl H b=H b:=if_neg h
theorem jX {cl:List (Str × Addr)} {H:Hp} {b:Addr} (h:b∈cl.map (·.2)):hid cl H b=none:=if_pos h
theorem hU {cl:List (Str × Addr)} {H H':Hp} {b:Addr} (h:b∉cl.map (·.2)):g9 cl H H' b=H' b:=if_neg h
theorem sQ {cl:List (Str × Addr)} {H H':Hp} {b:Addr} (h:b∈cl.map (·.2)):g9 cl H H' b=H b:=if_pos h
theorem AD {cl:List (Str × Addr)} {H:Hp} {b:Addr} {o:HO} (h:hid cl H b=some o):b∉cl.map (·.2)/\H b=some o:=by
 by_cases z:b∈cl.map (·.2)
 ·rw [jX z] at h;cases h
 ·rw [gv z] at h;exact ⟨z,h⟩
theorem sR {x:Str}:∀ {ps:List Str} {us:List Value},x∉ps->(ps.zip us).reverse.lookup x=none
 | [],_,_=>rfl
 | _::_,[],_=>rfl
 | p::ps,u::us,h=>by
  have h1:x≠p:=fun z=>h (by simp [z])
  rw [List.zip_cons_cons,List.reverse_cons,List.lookup_append,sR (fun z=>h (Qy _ z))]
  have h2:(x == p)=false:=by simpa using h1
  simp [List.lookup_cons,h2]
theorem sS {x:Str} {u:Value}:∀ {ps:List Str} {us:List Value} {i:Nat},ps.Nodup->ps[i]?=some x->us[i]?=some u->(ps.zip us).reverse.lookup x=some u
 | [],_,_,_,h,_=>by simp at h
 | _::_,[],_,_,_,h=>by simp at h
 | p::ps,v::us,0,nd,h1,h2=>by
  simp at h1 h2;subst h1;subst h2
  rw [List.zip_cons_cons,List.reverse_cons,List.lookup_append,sR (List.nodup_cons.mp nd).1]
  simp [List.lookup_cons]
 | p::ps,v::us,i+1,nd,h1,h2=>by
  rw [List.zip_cons_cons,List.reverse_cons,List.lookup_append,sS (i:=i) (List.nodup_cons.mp nd).2 (by simpa using h1) (by simpa using h2)]
  rfl
structure sT (ps fv:List Str) (sc:Scope):Prop where
 kind:sc.kind=.function
 co:sc.isCoroutine=false
 gen:sc.isGenerator=false
 nd:ps.Nodup
 par:∀ x∈ps,sc.names.lookup x=some .local
 fr:∀ x∈fv,sc.names.lookup x=some .free
 nocell:∀ y∈sc.names,y.2≠.cell
noncomputable def nY (P:Program) (w:World) (K:PySem.W.Frag) (mg:Str->Option Value) (base:Heap) (N:List Str) (qual:Str) (scope:Scope) (f:Addr) (cd:Value) (cl:List (Str × Addr)) (A:Around) (outer:List Env) (s:Shared) (H:Hp):Cx where
 prog:=P
 w:=w
 K:=K
 mg:=mg
 base:=base
 A:=A.deeper (PySem.W.envX qual scope s.heap.objs.size f cd cl)
 N:=N
 s₀:=s
 H₀:=H
 env:=PySem.W.envX qual scope s.heap.objs.size f cd cl
 outer:=outer
 stack:=PySem.W.envX qual scope s.heap.objs.size f cd cl::outer
 ex:=[]
 calm:=true
 fn:=fun _=>false
 pn:=[]
 xe:=fun _ _=>False
theorem AE {P:Program} {w:World} {K:PySem.W.Frag} {mg:Str->Option Value} {base:Heap} {k:Nat} {f c':Addr} {name qual:Str} {params:Arguments} {body:Expr} {scope:Scope} {cl:List (Str × Addr)} {pm EU:Value} {ps fv:List Str} {sp:Sp}
  (S:sT ps fv scope) (hinj:∀ x y c,cl.lookup x=some c->cl.lookup y=some c->x=y) (hhas:∀ x,scope.names.lookup x=some .free->∃ c,cl.lookup x=some c)
  (len:∀ vs H Q E,sp vs H Q E->vs.length=ps.length)
  (EC:∀ (A:Around) (outer:List Env) (s:Shared) (H:Hp) (vs:List V) (Q:VK) (E:XK),ay k (A.deeper (PySem.W.envX qual scope s.heap.objs.size f (.ref c') cl))->sp vs H Q E ->
   H f=some (cz (PySem.W.kla_obj name qual params body scope cl pm c' EU))/\(∃ oc vsc t,H c'=some (cz oc)/\oc.data=.fields vsc/\vsc[1]?=some (.str qual t)) /\
   (∀ p∈cl,∃ o v,H p.2=some (cz o)/\o.data=.cell v) /\
   ∃ (ws:List V) (t:TE),ws.length=fv.length/\(∀ (i:Nat) (x:Str) (v:V),fv[i]?=some x->ws[i]?=some v->∃ c o u,cl.lookup x=some c/\H c=some (cz o)/\o.data=.cell (some u)/\RelV v u) /\
    PE (nY P w K mg base (ps++fv) qual scope f (.ref c') cl A outer s (hid cl H)) body t/\t (vs.map some++ws.map some) (hid cl H) (fun v H'=>(∀ b∈cl.map (·.2),H' b=none)->Q v (g9 cl H H'))) :
  aF P w K mg base aG (k+1) f (PySem.W.kla_fn name qual params body scope cl pm (.ref c') EU) ps sp:=by
 refine ⟨len,fun A outer s H args us vs Q E hr e0 hb r Fb=>?_⟩
 have hl:=len _ _ _ _ Fb
 have lim:s.heap.NoLimit:=e0.mod.nolimit.keeps fun b o e=>(e0.bs b o e).1
 obtain ⟨hf,⟨oc,vsc,tq,E7,hoc,hov⟩,FZ,ws,t,hwl,hws,hpe,ht⟩:=EC A outer s H vs Q E (hr.deeper _) Fb
 have hloc:∀ y∈ps.zip us,scope.names.lookup y.1=some .local:=fun hsl57 hy=>by obtain ⟨n,v⟩:=hsl57;exact S.par n (List.of_mem_zip hy).1
 refine PySem.W.kla_callFunE hr.depth (iS e0.hok hf) rfl S.co S.gen rfl ⟨c',oc,vsc,tq,rfl,iS e0.hok E7,hoc,hov⟩ (hb _ _ _ _ ?_)
 refine wpAny_newFunctionEnv S.nocell hloc (fun h₁ D4 hsb=>⟨?_,?_⟩) S.kind
 ·exact lim.fresh _ hsb
 show codeAny _ _ (.expr body (PySem.W.envX qual scope s.heap.objs.size f (.ref c') cl)) _ _
 have hk:∀ b o,s.heap.get? b=some o->h₁.get? b=some o:=fun b o e=>hsb.extBut b o (QB (Qs e)) (Qg _ e)
 have cellOf:∀ x c,cl.lookup x=some c->c∈cl.map (·.2)/\∃ o v,H c=some (cz o)/\o.data=.cell v:=fun x c e=>by
  have m:=PySem.mem_of_lookup e
  exact ⟨List.mem_map.mpr ⟨_,m,rfl⟩,FZ _ m⟩
 have Fk:∀ b,b∈cl.map (·.2)->∃ o v,H b=some (cz o)/\o.data=.cell v:=fun b hb=>by
  obtain ⟨p,hp,rfl⟩:=QH hb
  exact FZ p hp
 have noF:∀ b,H b=none->hid cl H b=none:=fun b n=>by
  by_cases z:b∈cl.map (·.2)
  ·exact jX z
  ·rw [gv z];exact n
 have nin:∀ b,H b=none->b∉cl.map (·.2):=fun b n z=>by
  obtain ⟨o,v,e,_⟩:=Fk b z
  rw [n] at e;cases e
 have hokH:bq P w (hid cl H) h₁:=fun b o e=>by
  obtain ⟨_,e'⟩:=AD e
  have g:∀ c u,H c=some u->(∀ o,u≠cz o)->hid cl H c=some u:=fun c u q n=>by
   rw [gv (fun z=>by
    obtain ⟨o,v,e,_⟩:=Fk c z
    rw [q] at e;exact n o (Qq e))]
   exact q
  exact (e0.hok b o e').stay (fun c u _ q=>hk c u q) (fun c q=>g c _ q (fun o z=>by cases z)) fun c xs q=>g c _ q (fun o z=>by cases z)
 have Gs:∀ b:Addr,b∉([]:List Addr):=fun b z=>by simp at z
 have I:Inv (nY P w K mg base (ps++fv) qual scope f (.ref c') cl A outer s (hid cl H)) [] (vs.map some++ws.map some) (hid cl H) { s with heap:=h₁,toks:=s.toks+(ps.zip us).length }:=by
  refine ⟨⟨e0.mod,S.kind,rfl,rfl,Qf _,hinj,fun y hy=>?_,fun _ _ z=>(by cases z),fun _=>hr.hd,Around.frames_deeper e0.frames,.inr ⟨rfl,rfl⟩,fun b z=>absurd z (Gs b),fun b o e=>⟨(e0.bs b o e).1,noF b (e0.bs b o e).2⟩,e0.bsz,fun b _ _=>Gs b,fun b z=>absurd z (Gs b),e0.funs,fun b hb=>noF b (e0.frf b hb)⟩,
   rfl,e0.bare,Un.kept hk,⟨_,D4,fun i y v h1 h2 h3=>?_⟩,fun y c e=>?_,?_,fun y c e=>jX (cellOf y c e).1,fun p hp=>absurd (show p∈([]:List (Addr × Obj)) from hp) (by simp),hokH,?_⟩
  ·have hy:scope.names.lookup y=some .cell∨scope.names.lookup y=some .free:=hy
   rcases hy with hy | hy
   ·exact absurd rfl (S.nocell _ (PySem.mem_of_lookup hy))
   ·exact hhas y hy
  ·by_cases hi:i<ps.length
   ·have F0:ps[i]?=some y:=by rw [<- h1];exact (Qp hi).symm
    have h2':vs[i]?=some v:=by
     rw [Qp (by simpa [hl] using hi),Qr] at h2
     cases q:vs[i]? with
     | none=>rw [q] at h2;cases h2
     | some a=>rw [q] at h2;cases h2;rfl
    obtain ⟨u,hu,rv⟩:=r.get h2'
    exact ⟨u,rv,.inl ⟨S.par y (Qh F0),sS S.nd F0 hu⟩⟩
   ·have F0:fv[i-ps.length]?=some y:=by rw [<- h1];exact (Ql (by lia)).symm
    have h2':ws[i-ps.length]?=some v:=by
     rw [Ql (by simpa [hl] using hi),Qr] at h2
     rw [Qd,hl] at h2
     cases q:ws[i-ps.length]? with
     | none=>rw [q] at h2;cases h2
     | some a=>rw [q] at h2;cases h2;rfl
    obtain ⟨c,o,u,e1,e2,e3,rv⟩:=hws _ y v F0 h2'
    exact ⟨u,rv,.inr ⟨.inr (S.fr y (Qh F0)),c,e1,o,hk _ _ (iS e0.hok e2),e3⟩⟩
  ·obtain ⟨_,o,v,e1,e2⟩:=cellOf y c e
   exact ⟨v,o,hk _ _ (iS e0.hok e1),e2⟩
  ·exact noF _ (e0.hok.fresh (Qf _))
  ·show (vs.map some++ws.map some).length=(ps++fv).length
   simp [hl,hwl]
 refine PySem.W.kla_codeExpr (QV (hpe [] _ _ _ _ I ht) (fun u s' hq=>?_) fun _ _ z=>False.elim z)
 obtain ⟨v,H',J,rv,q⟩:=hq
 have jb:Un (di outer) [] (hid cl H) H' s.heap s'.heap:=J.base
 have clF:∀ b,b∈cl.map (·.2)->b∉di outer:=fun b hb z=>by
  obtain ⟨o,v,e,_⟩:=Fk b hb
  rw [e0.frf b z] at e;cases e
 have clG:∀ b o,b∈cl.map (·.2)->H b=some (cz o)->s'.heap.get? b=some o/\H' b=none:=fun b o hb e =>
  ⟨jb.keep b o (iS e0.hok e) (jX hb) (clF b hb) (Gs b),jb.free b o (iS e0.hok e) (jX hb) (Gs b)⟩
 refine ⟨v,g9 cl H H',J.os,J.bare,⟨fun b o e n hb hx=>jb.keep b o e (noF b n) hb hx,fun b o e n hb hx=>jb.slot b o e (noF b n) hb hx,fun b o e n hx=>?_,jb.there,fun b xs e=>?_,fun b o u e=>?_,fun b qs e=>?_⟩,fun b o e=>?_,rv,q fun b hb=>by obtain ⟨o',_,e',_⟩:=Fk b hb;exact (clG b o' hb e').2⟩
 ·rw [hU (nin b n)];exact jb.free b o e (noF b n) hx
 ·have z:b∉cl.map (·.2):=fun z=>by
   obtain ⟨o,v,e',_⟩:=Fk b z
   rw [e] at e';cases e'
  rw [hU z];exact jb.tups b xs (by rw [gv z];exact e)
 ·by_cases z:b∈cl.map (·.2)
  ·rw [sQ z];exact e
  ·rw [hU z];exact jb.frzs b o u (by rw [gv z];exact e)
 ·have z:b∉cl.map (·.2):=fun z=>by
   obtain ⟨o,v,e',_⟩:=Fk b z
   rw [e] at e';cases e'
  rw [hU z];exact jb.tbls b qs (by rw [gv z];exact e)
 ·by_cases z:b∈cl.map (·.2)
  ·rw [sQ z] at e
   obtain ⟨o',_,e',_⟩:=Fk b z
   rw [e] at e';cases e'
   exact lE (clG b o' z e).1
  ·rw [hU z] at e
   have g:∀ c u,H' c=some u->g9 cl H H' c=some u:=fun c u q=>by
    rw [hU (fun z=>by
     obtain ⟨o',_,e',_⟩:=Fk c z
     rw [(clG c o' z e').2] at q;cases q)]
    exact q
   exact (J.hok b o e).stay (fun c u _ q=>q) (fun c q=>g c _ q) fun c xs q=>g c _ q
theorem AF {P:Program} {w:World} {K:PySem.W.Frag} {mg mb:Str->Option Value} {CX:eN} {k:Nat} {fa a:Addr} {fd:FuncData} {x:Str} {sp:Sp} {s₁:Shared} {vs:List Value} {ns:List Int} (ts:List Addr)
  (hts:∀ P∈ts,s₁.heap.get? P=some (PySem.W.tabObj #[])/\∃ c,PySem.W.CodeHd s₁.heap c P) (hKt:∀ P∈ts,K.lookup P=none) (hbm:BMain mg s₁.heap)
  (KX:K.In s₁.heap) (D4:s₁.heap.Ns mainGlobals mg) (hb:s₁.heap.Ns builtinsNs mb) (hbb:∀ x:Str,x≠"__name__"->mb x=bootBuiltins x) (hlim:s₁.heap.NoLimit) (hg:s₁.gens=#[])
  (ha:s₁.heap.get? a=some { cls:=.type "list",data:=.seq vs.toArray }) (hi:IntsAre vs ns) (hl:ns.length<=sizeLine) (hr:ay k callerA)
  (F:∀ base:Heap,K.In base->base.Ns mainGlobals mg->BMain mg base->aF P w K mg base CX k fa fd [x] sp) (hbind:∀ (s:Shared) (u:Value),BindsTo s fd ⟨[u],[]⟩ [(x,u)])
  (Fb:∀ H:Hp,aj K H a (ns.map V.int)->(∀ P∈ts,H P=some (.tbl #[]))->sp [.ref a] H (fun v _=>v=.bl true) fun _ _ _=>False)
  (hCX:∀ H e s',CX [] H s₁ (fun _ _ _=>False) e s'->False) :
  codeAny (model P w) callerA (.call (.ref fa) ⟨[.ref a],[]⟩) (fun r s'=>r=.ok (.ret (.bool true))/\OldK s₁.heap s'.heap/\s'.os=s₁.os/\AllBare s'.gens) s₁:=by
 have rv:=qO hi
 have lenV:=hi.length
 have nat:a∉ts:=fun z=>by
  have e:=(hts a z).1
  rw [ha] at e;cases e
 have core:∀ H:Hp,aj K H a (ns.map V.int)->(∀ P∈ts,H P=some (.tbl #[]))->(∀ b u,H b=some u->(b=a/\∃ o xs,u=.frz o (.lst xs)/\s₁.heap.get? a=some o)∨(b∈ts/\u=.tbl #[]))->bq P w H s₁.heap->(H a≠none->K.lookup a=none) ->
   codeAny (model P w) callerA (.call (.ref fa) ⟨[.ref a],[]⟩) (fun r s'=>r=.ok (.ret (.bool true))/\OldK s₁.heap s'.heap/\s'.os=s₁.os/\AllBare s'.gens) s₁:=by
  intro H hS hT hA hok hK
  have E4:∀ {b:Addr} {o:Obj},s₁.heap.get? b=some o->H b=none->(fe s₁.heap H).get? b=some o:=fun e n=>wO e n
  have Gs:∀ {b:Addr} {o:Obj} {es:Array DictEntry} {ep:Nat},s₁.heap.get? b=some o->o.data=.dict es ep->H b=none:=fun {b o es ep} e d=>by
   cases q:H b with
   | none=>rfl
   | some u =>
    rcases hA b u q with ⟨e',_⟩ | ⟨e',_⟩
    ·subst e'
     rw [ha] at e;cases e
     have d':Data.seq vs.toArray _=Data.dict es ep:=d
     cases d'
    ·rw [(hts b e').1] at e;cases e
     have d':Data.fields #[]=Data.dict es ep:=d
     cases d'
  have nsK:∀ {b:Addr} {m:Str->Option Value},s₁.heap.Ns b m->(fe s₁.heap H).Ns b m:=fun {b m} ⟨o,es,ep,e,d,r⟩=>⟨o,es,ep,E4 e (Gs e d),d,r⟩
  have hKb:K.In (fe s₁.heap H):=fun b o e=>E4 (KX b o e) (by
   cases q:H b with
   | none=>rfl
   | some u =>
    rcases hA b u q with ⟨e',_⟩ | ⟨e',_⟩
    ·subst e'
     rw [hK (by rw [q];simp)] at e;cases e
    ·rw [hKt b e'] at e;cases e)
  have hBb:BMain mg (fe s₁.heap H):=by
   obtain ⟨bm,o,b1,b2,b3,b4,b5,b6⟩:=hbm.ex
   refine ⟨bm,o,b1,b2,E4 b3 ?_,b4,b5,b6⟩
   cases q:H bm with
   | none=>rfl
   | some u =>
    rcases hA bm u q with ⟨e',_⟩ | ⟨e',_⟩
    ·rw [e',ha] at b3;cases b3
     have b4:Value.type "list"=Value.type "module":=b4
     injection b4 with b4
     exact absurd b4 (by decide)
    ·rw [(hts bm e').1] at b3;cases b3;cases b4
  have hM:Mod K mg (fe s₁.heap H):=⟨hKb,nsK D4,⟨mb,nsK hb,hbb⟩,by obtain ⟨mc,h1,h2⟩:=hlim;exact ⟨mc,nsK h1,h2⟩⟩
  have e0:dD P w K mg (fe s₁.heap H) callerA [] s₁ H:=⟨rfl,hM,fun b o e=>wP e,Nat.le_of_eq (wN _ _),trivial,fun b hb=>absurd (show b∈([]:List Addr) from hb) (by simp),hok,.of_eq hg⟩
  refine codeAny_mono ((F _ hKb (nsK D4) hBb).run callerA [] s₁ H ⟨[.ref a],[]⟩ [.ref a] [.ref a] _ _ hr e0 (hbind s₁ (.ref a)) (.cons rfl .nil) (Fb H hS hT)) fun r s' h=>?_
  cases r with
  | error e=>exact (hCX H e s' h).elim
  | ok fl =>
   cases fl with
   | next=>exact False.elim h
   | brk=>exact False.elim h
   | cont=>exact False.elim h
   | ret u =>
    obtain ⟨v,H',os,bare,un,hok',r',q⟩:=h
    have q':v=.bl true:=q
    subst q'
    obtain rfl:u=Value.bool true:=r'
    refine ⟨rfl,⟨fun b o e=>?_,fun b o e=>un.there b o e (by simp)⟩,os,bare⟩
    cases q:H b with
    | none=>exact .inl (un.keep b o e q (by intro z;exact absurd (show b∈([]:List Addr) from z) (by simp)) (by simp))
    | some u =>
     rcases hA b u q with ⟨e',ob,xs,rfl,eo⟩ | ⟨e',rfl⟩
     ·have z2:=un.frzs b ob _ q
      obtain ⟨e2,_⟩:=hok' b _ z2
      subst e'
      rw [e] at eo;cases eo
      exact .inl e2
     ·obtain ⟨Gh,z2⟩:=un.tbls b _ q
      have e2:s'.heap.get? b=some { cls:=.none,data:=.fields (#[]++Gh) }:=hok' b _ z2
      obtain ⟨h1,c,hC⟩:=hts b e'
      rw [h1] at e;cases e
      exact .inr (.inl ⟨(hC.tab h1).isCodeTable,rfl,#[],Gh,rfl,e2⟩)
 cases hk:K.lookup a with
 | some o =>
  have e:=KX a o hk
  rw [ha] at e
  cases e
  refine core (fun b=>if b∈ts then some (.tbl #[]) else none) (.inr ⟨_,vs.toArray,_,hk,rfl,rfl,rfl,by rw [Qj,lenV];exact hl,by simpa using rv⟩) (fun P hP=>if_pos hP) (fun b u z=>?_) (fun b u z=>?_) fun z=>absurd (if_neg nat) z
  ·by_cases hb:b∈ts
   ·have z':=(if_pos hb).symm.trans z
    exact .inr ⟨hb,(Qq z').symm⟩
   ·have z':=(if_neg hb).symm.trans z
    cases z'
  ·by_cases hb:b∈ts
   ·have z':=(if_pos hb).symm.trans z
    cases z'
    exact (hts b hb).1
   ·have z':=(if_neg hb).symm.trans z
    cases z'
 | none =>
  refine core (fun b=>if b=a then some (.frz { cls:=.type "list",data:=.seq vs.toArray } (.lst (ns.map V.int))) else if b∈ts then some (.tbl #[]) else none) (.inl (.inr ⟨{ cls:=.type "list",data:=.seq vs.toArray },if_pos rfl⟩)) (fun P hP=>?_) (fun b u z=>?_) (fun b u z=>?_) fun _=>hk
  ·have hn:P≠a:=fun z=>nat (z ▸ hP)
   show (if P=a then _ else _)=_
   rw [if_neg hn,if_pos hP]
  ·by_cases hb:b=a
   ·have z':=(if_pos hb).symm.trans z
    exact .inl ⟨hb,_,_,(Qq z').symm,ha⟩
   ·have z:(if b=a then _ else if b∈ts then some (HO.tbl #[]) else none)=some u:=z
    rw [if_neg hb] at z
    by_cases Ek:b∈ts
    ·rw [if_pos Ek] at z
     exact .inr ⟨Ek,(Qq z).symm⟩
    ·rw [if_neg Ek] at z;cases z
  ·by_cases hb:b=a
   ·have z':=(if_pos hb).symm.trans z
    cases z'
    subst hb
    exact ⟨ha,by rw [Qd];exact hl,vs,_,rv,ha⟩
   ·have z:(if b=a then _ else if b∈ts then some (HO.tbl #[]) else none)=some u:=z
    rw [if_neg hb] at z
    by_cases Ek:b∈ts
    ·rw [if_pos Ek] at z;cases z
     exact (hts b Ek).1
    ·rw [if_neg Ek] at z;cases z
theorem tab_of {p:Program} {loose:List Str} {mean:ExcName->Option Value} {K:PySem.W.Frag} {mg mb:Str->Option Value} {h:Heap} {x:Str} {f c P:Addr} {oc:Value} {od:Option Addr} {fd:FuncData} {sl:Array (Option Value)} (T:Top p loose mean mg mb h) (KX:K.In h)
  (hx:(recsOf p).any (fun d=>d.name == x)=true) (ha:PySem.W.nsIn K mainGlobals x=some (some (.ref f))) (hl:K.lookup f=some ⟨oc,od,.func fd,sl⟩) (hc:fd.code=.ref c) (hd:PySem.W.codeHdIn K c P=true) :
  h.get? P=some (PySem.W.tabObj #[])/\∃ c,PySem.W.CodeHd h c P:=by
 have C:=PySem.W.codeHd_of_K KX hd
 obtain ⟨d,FM,ES⟩:=List.any_eq_true.mp hx
 have ES:d.name=x:=eq_of_beq ES
 obtain ⟨a,o,fd',c',P',h1,h2,h3,h4,_,h6⟩:=T.tab d FM
 rw [ES] at h1
 have e1:=h1.symm.trans (PySem.W.mg_of KX T.g ha)
 cases e1
 have e2:=h2.symm.trans (KX _ _ hl)
 cases e2
 cases h3
 rw [hc] at h4;cases h4
 refine ⟨?_,c,C⟩
 obtain ⟨⟨o1,vs1,g1,g2,g3,g4⟩,g5⟩:=h6
 obtain ⟨o2,vs2,_,_,_,_,_,_,_,k1,k2,k3,k4,_⟩:=C
 rw [g1] at k1;cases k1
 rw [g3] at k3;cases k3
 rw [g4] at k4;cases k4
 exact g5
def RecAt (H:Hp) (c':Addr) (qual:Str):Prop:=∃ (oc:Obj) (vs:Array Value) (t:Tok),H c'=some (cz oc)/\oc.data=.fields vs/\vs[1]?=some (.str (qual++"<lambda>") t)
def LamTb (H:Hp) (Pt:Addr) (pos:Pos) (qual:Str):Prop:=∃ ps,H Pt=some (.tbl ps)/\TriplesOk ps.toList/\(codeAmong pos ps.toList=none∨∃ c',codeAmong pos ps.toList=some (.ref c')/\RecAt H c' qual)
def SamX (Pt:Addr) (H H':Hp):Prop:=∀ b o,b≠Pt->H b=some o->H' b=some o
def sU (qual:Str) (params:Arguments) (body:Expr) (sc:Scope) (pos:Pos) (cells:List (Str × Addr)) (pm:Value) (Pt:Addr):TE:=fun _ H Q=>LamTb H Pt pos qual /\
 ∀ (f c':Addr) (EU:Value) (H':Hp),SamX Pt H H'->LamTb H' Pt pos qual->RecAt H' c' qual->H f=none->H' f=some (cz (PySem.W.kla_obj "<lambda>" (qual++"<lambda>") params body sc (bM cells sc.names []) pm c' EU))->Q (.ref f) H'
theorem AG {X:Cx} {params:Arguments} {body:Expr} {sc:Scope} {pos:Pos} {c Pt:Addr} (hdef:defaultsOf params X.env=([],[])) (F4:X.env.code=.ref c) (hC:PySem.W.CodeHd X.base c Pt) (hB:BMain X.mg X.base)
  (DE:∀ y∈sc.names,y.2=.free->∃ c,X.env.cells.lookup y.1=some c) :
  PE X (.Lambda params body sc pos) (sU X.env.qual params body sc pos X.env.cells ((X.mg "__name__").getD .none) Pt):=by
 intro Df s σ H Q I h
 obtain ⟨⟨ps,hP,ht,hh⟩,h⟩:=h
 rcases hh with hnf | ⟨c',hf,hrec⟩
 ·refine AC hdef F4 hC hB DE Df s σ H Q I ⟨ps,hP,ht,hnf,fun f c' oc vs t EU hf E7 Dp hd hv=>?_⟩
  have nP:∀ b,H b=none->Pt≠b:=fun b q z=>by rw [<- z,hP] at q;cases q
  refine h f c' EU _ (fun b o hb e=>?_) ⟨_,by rw [al (nP f hf),al (nP c' E7),ai],?_,.inr ⟨c',?_,oc,vs,t,by rw [al Dp.symm,ai],hd,hv⟩⟩ ⟨oc,vs,t,by rw [al Dp.symm,ai],hd,hv⟩ hf ai
  ·rw [al (cr e hf),al (cr e E7),al hb];exact e
  ·rw [QJ];exact TriplesOk_snoc _ _ _ _ ht
  ·rw [QJ];exact codeAmong_snoc _ ht hnf
 ·have hP':s.heap.get? Pt=some (PySem.W.tabObj ps):=I.hok Pt _ hP
  have hg:s.heap.Ns mainGlobals X.mg:=I.mod.glob.keeps I.bk
  obtain ⟨bm,ob,b1,b2,b3,b4,b5,b6⟩:=hB.ex
  have Gz:=I.bk _ _ b3
  have hbP:bm≠Pt:=fun q=>by rw [q,hP'] at Gz;cases Gz;cases b4
  have hbG:bm≠mainGlobals:=fun q=>by
   obtain ⟨o,es,ep,e,hd,_⟩:=hg
   rw [q,e] at Gz;cases Gz;rw [hd] at b6;cases b6
  refine PySem.W.kla_eval hdef ?_
  refine PySem.W.kla_makeFunctionHit (mg:=X.mg) (iC DE) I.ok.glob hg F4 (hC.keeps I.bk) hP' ht hf ⟨bm,ob,b1,b2,hbG,hbP,Gz,b4,b5,b6⟩ fun EU h' tk hx EZ=>?_
  have fF:H h'.objs.size=none:=I.hok.fresh EZ
  have I1:Inv X Df σ H { s with heap:=h'.push (PySem.W.kla_obj "<lambda>" (X.env.qual++"<lambda>") params body sc (bM X.env.cells sc.names []) ((X.mg "__name__").getD .none) c' EU),toks:=tk }:=I.kept (t':=tk) fun b o e=>Qg _ (hx b o e)
  have FU:∀ b o (u:HO),H b=some o->upd H h'.objs.size u b=some o:=fun b o u e=>by rw [al (cr e fF)];exact e
  refine ⟨.ref h'.objs.size,_,I1.adopt (I.fpOk EZ fF) (lE (Qz _ rfl)),rfl,h _ c' EU _ (fun b o _ e=>FU b o _ e) ⟨ps,FU _ _ _ hP,ht,.inr ⟨c',hf,?_⟩⟩ ?_ fF ai⟩
  ·obtain ⟨oc,vs,t,e,q⟩:=hrec
   exact ⟨oc,vs,t,FU _ _ _ e,q⟩
  ·obtain ⟨oc,vs,t,e,q⟩:=hrec
   exact ⟨oc,vs,t,FU _ _ _ e,q⟩
def sV (P:Program) (w:World) (K:PySem.W.Frag) (mg:Str->Option Value) (base:Heap) (k:Nat) (ps:List Str) (t tl:TE):TE:=fun σ H Q=>t σ H fun x H1=>∃ (l:Addr) (xs:List V) (ks:List Int),x=.ref l/\xs.length<64/\ks.length=xs.length /\
 tl σ H1 fun v H2=>∃ f fd sp,v=.ref f/\aj K H2 l xs/\aF P w K mg base aG k f fd ps sp/\Binds K fd ps [] /\
 (∀ (i:Nat) (x:V) (m:Int),xs[i]?=some x->ks[i]?=some m->∀ Q':VK,Q' (.int m) H2->sp [x] H2 Q' E0)/\∀ p ys,H2 p=none->gm ks xs ys->Q (.ref p) (upd H2 p (.lst ys))
theorem AH {X:Cx} {P:Program} {w:World} {mg:Str->Option Value} {base:Heap} {k:Nat} (ps:List Str) {K:PySem.W.Frag} {e el:Expr} {t tl:TE} {p p3 pos:Pos} (e1:X.prog=P) (e2:X.w=w) (hK:X.K=K) (e4:X.mg=mg) (e5:X.base=base) (hr:ay (k+2) X.A)
  (hg:Gl X "sorted") (hm:X.mg "sorted"=none) (he:PE X e t) (hl:PE X el tl)
  (hs:starEach [e] X.env=(false,eval e X.env)::starEach [] X.env:=by rfl) :
  PE X (.Call (.Name "sorted" p) [e] [⟨some "key",el,p3⟩] pos) (sV P w K mg base k ps t tl):=by
 subst e1 e2 hK e4 e5
 intro Df s σ H Q I h
 refine wpAny_Call_Name_kw (gF I hg hm (show bootBuiltins "sorted"=some (.builtin "sorted") from by decide +kernel) ?_)
 refine callWith_kw ?_ (by rw [hs];rfl) (by rw [hs];rfl)
 rw [hs]
 show wpAny _ _ (spliced ((false,eval e X.env)::backTo pos (starEach [] X.env))) _ _ s
 refine Calls.spliced_cons (aE (he Df s σ H _ I h) fun u s1 ⟨x,H1,I1,r1,q1⟩=>Calls.spliced_nil ?_)
 obtain ⟨l,xs,ks,e1,Gq,D2,q⟩:=q1
 subst e1
 cases (show u=Value.ref l from r1)
 refine aE ((qr (te:=tl) hl qq) pos Df s1 σ H1 (fun zs H2=>match zs with
  | [v]=>∃ f fd sp,v=.ref f/\aj X.K H2 l xs/\aF X.prog X.w X.K X.mg X.base aG k f fd ps sp/\Binds X.K fd ps [] /\
   (∀ (i:Nat) (x:V) (m:Int),xs[i]?=some x->ks[i]?=some m->∀ Q':VK,Q' (.int m) H2->sp [x] H2 Q' E0)/\∀ p ys,H2 p=none->gm ks xs ys->Q (.ref p) (upd H2 p (.lst ys))
  | _=>False) I1 q) fun ws s2 ⟨zs,H2,I2,rz,q2⟩=>?_
 match zs,q2 with
 | [v],⟨f,fd,sp,ev,hq,F,hb,hk,fin⟩ =>
  subst ev
  obtain ⟨u,rfl,ru⟩:=vals1 rz
  cases (show u=Value.ref f from ru)
  exact zx (dvs:=[]) F hr hb .nil I2 hq Gq D2 (fun i x m a b Q' c=>by rw [QM];exact hk i x m a b Q' c) fin
theorem AI {l:PySem.W.OpenLaw} {n k:Nat} {q:Program} {loose:List Str} {XP:(Str->Option Value)->Heap->Prop} {YP:World->Heap->Prop} {d:DefRec} {K:Params->PySem.W.Frag} {CX:eN} {sp:PySem.W.Frag->Addr->Sp} {x:Str} (x1:Str)
  (hn:l.most=some n) (hn2:n<=sizeLine) (hdf:d.params.defaults=[]) (hr:ay k callerA)
  (hx1:(recsOf q).any (fun d=>d.name == x1)=true)
  (hY:∀ (w:World) (h:Heap),YP w h->(K w.params).In h)
  (F:∀ (w:World) (mg:Str->Option Value) (fa:Addr) (h:Heap),(K w.params).In h->h.Ns mainGlobals mg->mg d.name=some (.ref fa) ->
   ∃ (fd:FuncData) (P1:Addr),(∀ (s:Shared) (u:Value),BindsTo s fd ⟨[u],[]⟩ [(x,u)])/\(K w.params).lookup P1=none /\
    (∃ f c oc od fd sl,PySem.W.nsIn (K w.params) mainGlobals x1=some (some (.ref f))/\(K w.params).lookup f=some ⟨oc,od,.func fd,sl⟩/\fd.code=.ref c/\PySem.W.codeHdIn (K w.params) c P1=true) /\
    ∀ base:Heap,(K w.params).In base->base.Ns mainGlobals mg->BMain mg base->aF l.prog w (K w.params) mg base CX k fa fd [x] (sp (K w.params) P1))
  (Fb:∀ (K:PySem.W.Frag) (P1:Addr) (H:Hp) (a:Addr) (ns:List Int),ns.length<=n->aj K H a (ns.map V.int)->H P1=some (.tbl #[])->sp K P1 [.ref a] H (fun v _=>v=.bl true) fun _ _ _=>False)
  (hCX:∀ (H:Hp) (s:Shared) (e:Value) (s':Shared),CX [] H s (fun _ _ _=>False) e s'->False) :
  PySem.W.WalkO q loose XP YP l.row.toRowW d [] (fun f vs=>PySem.call f vs):=by
 refine Att.attach_call hn hdf fun w s₀ s₁ mg mb fa o pm cd FR a vs ns G Y ho hd FP hmg hobj G5 Dj hg=>?_
 have KX:=hY w _ Y
 obtain ⟨fd,P1,hb,n1,⟨f1,c1,oc1,od1,fd1,sl1,a1,l1,e1,d1⟩,hF⟩:=F w mg fa _ KX G.T.g hmg
 obtain ⟨bm,ob,b1,b2,b3,b4,b5,b6⟩:=G.T.bmain
 refine AF [P1] (fun P hP=>?_) (fun P hP=>?_) ⟨bm,ob,b1,b2,b3,b4,b5,b6⟩ KX G.T.g G.T.b G.T.builtins G.T.nolimit hg hobj G5 (QC Dj hn2) hr hF hb (fun H hS hT=>Fb _ P1 H a ns Dj hS (hT _ (by simp))) fun H e s'=>hCX H s₁ e s'
 ·rw [Qt hP];exact tab_of G.T KX hx1 a1 l1 e1 d1
 ·rw [Qt hP];exact n1
theorem AJ {P:Program} {w:World} {K:PySem.W.Frag} {mg:Str->Option Value} {base:Heap} {k:Nat} {f c':Addr} {name qual:Str} {params:Arguments} {body:Expr} {scope:Scope} {pm EU:Value} {ps:List Str} {sp:Sp}
  (S:sT ps [] scope) (hhas:∀ y∈scope.names,y.2≠.free) (len:∀ vs H Q E,sp vs H Q E->vs.length=ps.length)
  (EC:∀ (A:Around) (outer:List Env) (s:Shared) (H:Hp) (vs:List V) (Q:VK) (E:XK),ay k (A.deeper (PySem.W.envX qual scope s.heap.objs.size f (.ref c') []))->sp vs H Q E ->
   H f=some (cz (PySem.W.kla_obj name qual params body scope [] pm c' EU))/\(∃ oc vsc t,H c'=some (cz oc)/\oc.data=.fields vsc/\vsc[1]?=some (.str qual t)) /\
   ∃ t:TE,PE (nY P w K mg base ps qual scope f (.ref c') [] A outer s H) body t/\t (vs.map some) H Q) :
  aF P w K mg base aG (k+1) f (PySem.W.kla_fn name qual params body scope [] pm (.ref c') EU) ps sp:=by
 refine AE (fv:=[]) S (fun x y c h=>by simp at h) (fun x hx=>absurd rfl (hhas _ (PySem.mem_of_lookup hx))) len fun A outer s H vs Q E hr h=>?_
 obtain ⟨h1,h2,t,h3,h4⟩:=EC A outer s H vs Q E hr h
 refine ⟨h1,h2,(fun p hp=>by simp at hp),[],t,rfl,(fun i x v h=>by simp at h),?_,?_⟩
 ·have e3:hid [] H=H:=by funext b;exact gv (by simp)
  rw [e3,QM];exact h3
 have e:(fun v H'=>(∀ b∈([]:List (Str × Addr)).map (·.2),H' b=none)->Q v (g9 [] H H'))=fun v H'=>Q v H':=by
  funext v H'
  have e2:g9 [] H H'=H':=by funext b;exact hU (by simp)
  rw [e2]
  exact propext ⟨fun q=>q (fun b hb=>by simp at hb),fun q _=>q⟩
 have e3:hid [] H=H:=by funext b;exact gv (by simp)
 rw [e3,e,List.map_nil,QM]
 exact h4
end L2
namespace K34
open PySem L2 Mm
noncomputable def top (i:Nat):Stmt:=PySem.Challenge.pw_manymakes_k34_shared_names_cut.main.body.getD i (.Pass ⟨0,0,0,0⟩)
noncomputable abbrev nZ:Stmt:=top 1
noncomputable abbrev n8:Stmt:=top 2
noncomputable abbrev oh:Stmt:=top 3
noncomputable abbrev lF:Stmt:=top 4
noncomputable abbrev oi:Stmt:=top 5
noncomputable abbrev lG:Stmt:=top 6
noncomputable abbrev lH:Stmt:=top 8
noncomputable abbrev lI:Stmt:=top 9
noncomputable abbrev oj:Stmt:=top 10
noncomputable abbrev lJ:Stmt:=top 11
noncomputable abbrev lK:Stmt:=top 12
noncomputable abbrev lL:Stmt:=top 13
noncomputable abbrev ol:Stmt:=top 17
noncomputable abbrev om:Stmt:=top 18
noncomputable abbrev oo:Stmt:=top 19
noncomputable abbrev oq:Stmt:=top 20
noncomputable abbrev ou:Stmt:=top 21
noncomputable abbrev lM:Stmt:=top 22
noncomputable abbrev ow:Stmt:=top 24
noncomputable abbrev ox:Stmt:=top 25
noncomputable abbrev lN:Stmt:=top 26
noncomputable abbrev lO:Stmt:=top 27
noncomputable abbrev oy:Stmt:=top 28
noncomputable abbrev oz:Stmt:=top 29
noncomputable abbrev oA:Stmt:=top 30
noncomputable abbrev lP:Stmt:=top 31
noncomputable abbrev iT:Stmt:=top 32
noncomputable abbrev oB:Stmt:=top 33
noncomputable abbrev oC:Stmt:=top 34
noncomputable abbrev oE:Stmt:=top 35
noncomputable abbrev oF:Stmt:=gf (top 16) 0
noncomputable abbrev oG:Stmt:=gf (top 16) 1
noncomputable abbrev oH:Stmt:=gf (top 16) 2
noncomputable abbrev oI:Stmt:=gf (top 16) 3
noncomputable abbrev jY:Stmt:=gf (top 16) 4
noncomputable abbrev oJ:Stmt:=gf (top 16) 5
noncomputable abbrev oK:Stmt:=gf (top 16) 6
noncomputable abbrev oM:Stmt:=gf (top 16) 7
noncomputable abbrev lQ:Stmt:=top 36
structure oN where
 ZL:Addr
 ZE:Addr
 ZJ:Addr
 Zo:Addr
 ZK:Addr
 Zp:Addr
 Zt:Addr
 Zg:Addr
 Zh:Addr
 Zu:Addr
 Zf:Addr
 Zv:Addr
 Zq:Addr
 Zy:Addr
 ZF:Addr
 Zz:Addr
 Zl:Addr
 Zm:Addr
 Zn:Addr
 Zw:Addr
 Zx:Addr
 ZA:Addr
 ZB:Addr
 ZG:Addr
 Zr:Addr
 ZH:Addr
 ZC:Addr
 ZD:Addr
 ZI:Addr
 Zs:Addr
 Zi:Addr
 Zj:Addr
 Za:Addr
 Zb:Addr
 Zd:Addr
 Zc:Addr
 Ze:Addr
 Zk:Addr
 c_NameLook:Addr
 q_PLAIN_KINDS:Addr
structure lR where
 ZL:FuncData
 ZE:FuncData
 ZJ:FuncData
 Zo:FuncData
 ZK:FuncData
 Zp:FuncData
 Zt:FuncData
 Zg:FuncData
 Zh:FuncData
 Zu:FuncData
 Zf:FuncData
 Zv:FuncData
 Zq:FuncData
 Zy:FuncData
 ZF:FuncData
 Zz:FuncData
 Zl:FuncData
 Zm:FuncData
 Zn:FuncData
 Zw:FuncData
 Zx:FuncData
 ZA:FuncData
 ZB:FuncData
 ZG:FuncData
 Zr:FuncData
 ZH:FuncData
 ZC:FuncData
 ZD:FuncData
 ZI:FuncData
 Zs:FuncData
 Zi:FuncData
 Zj:FuncData
 Za:FuncData
 Zb:FuncData
 Zd:FuncData
 Zc:FuncData
 Ze:FuncData
 Zk:FuncData
structure All (P:Program) (w:World) (K:W.Frag) (mg:Str->Option Value) (A:oN) (D:lR):Prop where
 m_ZL:mg "least"=some (.ref A.ZL)
 k_ZL:W.keepIn K (.ref A.ZL)=true
 F_ZL:aZ K "least" "least" nZ A.ZL D.ZL
 b_ZL:Binds K D.ZL ["mask"] []
 m_ZE:mg "without"=some (.ref A.ZE)
 k_ZE:W.keepIn K (.ref A.ZE)=true
 F_ZE:aZ K "without" "without" n8 A.ZE D.ZE
 b_ZE:Binds K D.ZE ["mask","other"] []
 m_ZJ:mg "all_of"=some (.ref A.ZJ)
 k_ZJ:W.keepIn K (.ref A.ZJ)=true
 F_ZJ:aZ K "all_of" "all_of" oh A.ZJ D.ZJ
 b_ZJ:Binds K D.ZJ ["pairs"] []
 m_Zo:mg "kept_pairs"=some (.ref A.Zo)
 k_Zo:W.keepIn K (.ref A.Zo)=true
 F_Zo:aZ K "kept_pairs" "kept_pairs" lF A.Zo D.Zo
 b_Zo:Binds K D.Zo ["pairs","mask"] []
 m_ZK:mg "add_to"=some (.ref A.ZK)
 k_ZK:W.keepIn K (.ref A.ZK)=true
 F_ZK:aZ K "add_to" "add_to" oi A.ZK D.ZK
 b_ZK:Binds K D.ZK ["found","key","mask"] []
 m_Zp:mg "with_masks"=some (.ref A.Zp)
 k_Zp:W.keepIn K (.ref A.Zp)=true
 F_Zp:aZ K "with_masks" "with_masks" lG A.Zp D.Zp
 b_Zp:Binds K D.Zp ["found"] []
 m_Zt:mg "kept_tree"=some (.ref A.Zt)
 k_Zt:W.keepIn K (.ref A.Zt)=true
 F_Zt:aZ K "kept_tree" "kept_tree" lH A.Zt D.Zt
 b_Zt:Binds K D.Zt ["tree","mask"] []
 m_Zg:mg "kept_statement"=some (.ref A.Zg)
 k_Zg:W.keepIn K (.ref A.Zg)=true
 F_Zg:aZ K "kept_statement" "kept_statement" lI A.Zg D.Zg
 b_Zg:Binds K D.Zg ["one","mask"] []
 m_Zh:mg "row_and_least"=some (.ref A.Zh)
 k_Zh:W.keepIn K (.ref A.Zh)=true
 F_Zh:aZ K "row_and_least" "row_and_least" oj A.Zh D.Zh
 b_Zh:Binds K D.Zh ["pair"] []
 m_Zu:mg "shared_of"=some (.ref A.Zu)
 k_Zu:W.keepIn K (.ref A.Zu)=true
 F_Zu:aZ K "shared_of" "shared_of" lJ A.Zu D.Zu
 b_Zu:Binds K D.Zu ["tree"] []
 m_Zf:mg "shared_statement"=some (.ref A.Zf)
 k_Zf:W.keepIn K (.ref A.Zf)=true
 F_Zf:aZ K "shared_statement" "shared_statement" lK A.Zf D.Zf
 b_Zf:Binds K D.Zf ["one"] []
 m_Zv:mg "blocks_of"=some (.ref A.Zv)
 k_Zv:W.keepIn K (.ref A.Zv)=true
 F_Zv:aZ K "blocks_of" "blocks_of" lL A.Zv D.Zv
 b_Zv:Binds K D.Zv ["one"] []
 m_Zq:mg "first_rows"=some (.ref A.Zq)
 k_Zq:W.keepIn K (.ref A.Zq)=true
 F_Zq:aZ K "first_rows" "first_rows" ol A.Zq D.Zq
 b_Zq:Binds K D.Zq ["tree"] []
 m_Zy:mg "pairs_of"=some (.ref A.Zy)
 k_Zy:W.keepIn K (.ref A.Zy)=true
 F_Zy:aZ K "pairs_of" "pairs_of" om A.Zy D.Zy
 b_Zy:Binds K D.Zy ["one"] []
 m_ZF:mg "expr_of"=some (.ref A.ZF)
 k_ZF:W.keepIn K (.ref A.ZF)=true
 F_ZF:aZ K "expr_of" "expr_of" oo A.ZF D.ZF
 b_ZF:Binds K D.ZF ["one"] []
 m_Zz:mg "exprs_in"=some (.ref A.Zz)
 k_Zz:W.keepIn K (.ref A.Zz)=true
 F_Zz:aZ K "exprs_in" "exprs_in" oq A.Zz D.Zz
 b_Zz:Binds K D.Zz ["e"] []
 m_Zl:mg "shared_names"=some (.ref A.Zl)
 k_Zl:W.keepIn K (.ref A.Zl)=true
 F_Zl:aZ K "shared_names" "shared_names" ou A.Zl D.Zl
 b_Zl:Binds K D.Zl ["tree","mask"] []
 m_Zm:mg "plain_names"=some (.ref A.Zm)
 k_Zm:W.keepIn K (.ref A.Zm)=true
 F_Zm:aZ K "plain_names" "plain_names" lM A.Zm D.Zm
 b_Zm:Binds K D.Zm ["tree"] []
 m_Zn:mg "_law_cell_at"=some (.ref A.Zn)
 k_Zn:W.keepIn K (.ref A.Zn)=true
 F_Zn:aZ K "_law_cell_at" "_law_cell_at" ow A.Zn D.Zn
 b_Zn:Binds K D.Zn ["_law_script","_law_k"] []
 m_Zw:mg "_law_mixed"=some (.ref A.Zw)
 k_Zw:W.keepIn K (.ref A.Zw)=true
 F_Zw:aZ K "_law_mixed" "_law_mixed" ox A.Zw D.Zw
 b_Zw:Binds K D.Zw ["_law_cell","_law_k"] []
 m_Zx:mg "_law_names"=some (.ref A.Zx)
 k_Zx:W.keepIn K (.ref A.Zx)=true
 F_Zx:aZ K "_law_names" "_law_names" lN A.Zx D.Zx
 b_Zx:Binds K D.Zx ["_law_number"] []
 m_ZA:mg "_law_expr"=some (.ref A.ZA)
 k_ZA:W.keepIn K (.ref A.ZA)=true
 F_ZA:aZ K "_law_expr" "_law_expr" lO A.ZA D.ZA
 b_ZA:Binds K D.ZA ["_law_number","_law_names_here","_law_deep"] []
 m_ZB:mg "_law_mask"=some (.ref A.ZB)
 k_ZB:W.keepIn K (.ref A.ZB)=true
 F_ZB:aZ K "_law_mask" "_law_mask" oy A.ZB D.ZB
 b_ZB:Binds K D.ZB ["_law_number","_law_within"] []
 m_ZG:mg "_law_low"=some (.ref A.ZG)
 k_ZG:W.keepIn K (.ref A.ZG)=true
 F_ZG:aZ K "_law_low" "_law_low" oz A.ZG D.ZG
 b_ZG:Binds K D.ZG ["_law_mask_here"] []
 m_Zr:mg "_law_simple"=some (.ref A.Zr)
 k_Zr:W.keepIn K (.ref A.Zr)=true
 F_Zr:aZ K "_law_simple" "_law_simple" oA A.Zr D.Zr
 b_Zr:Binds K D.Zr ["_law_number","_law_at","_law_names_here","_law_word"] []
 m_ZH:mg "_law_def"=some (.ref A.ZH)
 k_ZH:W.keepIn K (.ref A.ZH)=true
 F_ZH:aZ K "_law_def" "_law_def" lP A.ZH D.ZH
 b_ZH:Binds K D.ZH ["_law_number","_law_at","_law_names_here"] []
 m_ZC:mg "_law_rows"=some (.ref A.ZC)
 k_ZC:W.keepIn K (.ref A.ZC)=true
 F_ZC:aZ K "_law_rows" "_law_rows" iT A.ZC D.ZC
 b_ZC:Binds K D.ZC ["_law_number","_law_at","_law_names_here","_law_stack"] []
 m_ZD:mg "_law_tree"=some (.ref A.ZD)
 k_ZD:W.keepIn K (.ref A.ZD)=true
 F_ZD:aZ K "_law_tree" "_law_tree" oB A.ZD D.ZD
 b_ZD:Binds K D.ZD ["_law_script","_law_full"] []
 m_ZI:mg "_law_cut"=some (.ref A.ZI)
 k_ZI:W.keepIn K (.ref A.ZI)=true
 F_ZI:aZ K "_law_cut" "_law_cut" oC A.ZI D.ZI
 b_ZI:Binds K D.ZI ["_law_block","_law_s"] []
 m_Zs:mg "_law_sorted"=some (.ref A.Zs)
 k_Zs:W.keepIn K (.ref A.Zs)=true
 F_Zs:aZ K "_law_sorted" "_law_sorted" oE A.Zs D.Zs
 b_Zs:Binds K D.Zs ["_law_found","_law_rule"] []
 M_NameLook:Mk K A.c_NameLook A.Zi
 k_Zi:W.keepIn K (.ref A.Zi)=true
 F_Zi:aZ K "__init__" "NameLook.__init__" oF A.Zi D.Zi
 b_Zi:Binds K D.Zi ["self","tree"] []
 M_Zj:fM K A.c_NameLook "note" A.Zj
 k_Zj:W.keepIn K (.ref A.Zj)=true
 F_Zj:aZ K "note" "NameLook.note" oG A.Zj D.Zj
 b_Zj:Binds K D.Zj ["self","mask","at","what","name"] []
 M_Za:fM K A.c_NameLook "look_twice" A.Za
 k_Za:W.keepIn K (.ref A.Za)=true
 F_Za:aZ K "look_twice" "NameLook.look_twice" oH A.Za D.Za
 b_Za:Binds K D.Za ["self","tree"] []
 M_Zb:fM K A.c_NameLook "look_body" A.Zb
 k_Zb:W.keepIn K (.ref A.Zb)=true
 F_Zb:aZ K "look_body" "NameLook.look_body" oI A.Zb D.Zb
 b_Zb:Binds K D.Zb ["self","statements","given"] []
 M_Zd:fM K A.c_NameLook "look_def" A.Zd
 k_Zd:W.keepIn K (.ref A.Zd)=true
 F_Zd:aZ K "look_def" "NameLook.look_def" jY A.Zd D.Zd
 b_Zd:Binds K D.Zd ["self","mask","one"] []
 M_Zc:fM K A.c_NameLook "look_expr" A.Zc
 k_Zc:W.keepIn K (.ref A.Zc)=true
 F_Zc:aZ K "look_expr" "NameLook.look_expr" oJ A.Zc D.Zc
 b_Zc:Binds K D.Zc ["self","mask","e","at","given"] []
 M_Ze:fM K A.c_NameLook "look_use" A.Ze
 k_Ze:W.keepIn K (.ref A.Ze)=true
 F_Ze:aZ K "look_use" "NameLook.look_use" oK A.Ze D.Ze
 b_Ze:Binds K D.Ze ["self","mask","e","at","word","missing"] []
 M_Zk:fM K A.c_NameLook "held" A.Zk
 k_Zk:W.keepIn K (.ref A.Zk)=true
 F_Zk:aZ K "held" "NameLook.held" oM A.Zk D.Zk
 b_Zk:Binds K D.Zk ["self","word","name"] []
 m_NameLook:mg "NameLook"=some (.ref A.c_NameLook)
 cl_NameLook:fk K A.c_NameLook
 na_NameLook_faults:f6 K A.c_NameLook "faults"
 na_NameLook_firsts:f6 K A.c_NameLook "firsts"
 ty_NameLook:∀ (H:Hp) (a dx:Addr) (fs:List (Str × V)),H a=some (.ins A.c_NameLook dx fs)->cN K H (.ref a) (.ref A.c_NameLook)
 is_NameLook:W.kitOne K (.ref A.c_NameLook) (.ref A.c_NameLook)=some true
 m_PLAIN_KINDS:mg "PLAIN_KINDS"=some (.ref A.q_PLAIN_KINDS)
 Q_PLAIN_KINDS:∀ H,ah K H A.q_PLAIN_KINDS [.str "num",.str "truth"]
 n_len:mg "len"=none
 n_range:mg "range"=none
 n_list:mg "list"=none
 n_dict:mg "dict"=none
 n_tuple:mg "tuple"=none
 n_sorted:mg "sorted"=none
 n_enumerate:mg "enumerate"=none
 n_isinstance:mg "isinstance"=none
 n_int:mg "int"=none
 n_bool:mg "bool"=none
theorem ak {H:Hp} {p:Addr} {o:HO} (h:H p=none):Same H (upd H p o):=fun b u e=>by rw [al (cr e h)];exact e
noncomputable def bE (fs:List (List ae)):List (List ae):=(ck fs).map fun i=>fs.getD i []
theorem lS {fs:List (List ae)}:∀ i∈ck fs,i<fs.length:=by
 unfold ck
 split
 ·intro i hi
  simpa using hi
 ·intro i hi
  exact nG (eY fs) (by omega) i hi
theorem AK {H:Hp} {xs:List V} {fs:List (List ae)} (h:bY H xs fs):bY H (bX fs xs) (bE fs):=by
 refine ⟨by simp [bX,bE],fun j x d hx hd=>?_⟩
 unfold bX at hx
 unfold bE at hd
 rw [Qr] at hx hd
 obtain ⟨i,hi,rfl⟩:=Option.map_eq_some_iff.mp hx
 rw [hi] at hd
 have hd:fs.getD i []=d:=by simpa using hd
 have Do:=lS i (Qh hi)
 have hlx:i<xs.length:=by rw [h.1];exact Do
 refine h.2 i _ d ?_ ?_
 ·rw [Qa hlx,Qe,Qa hlx];rfl
 ·rw [<- hd,Qa Do,Qe,Qa Do];rfl
section
variable {P:Program} {w:World} {K:W.Frag} {mg:Str->Option Value} {base:Heap} {AA:oN} {DD:lR}
theorem cG {H:Hp} {sh:Bool} {vs:List V} {p:aP} {ps:List aP} (h:PsAt H sh vs (p::ps)):∃ v r,vs=v::r/\PAt H sh v p/\PsAt H sh r ps:=by
 cases h with | cons a b=>exact ⟨_,_,rfl,a,b⟩
theorem iU {H:Hp} {sh:Bool} {vs:List V} (h:PsAt H sh vs []):vs=[]:=by cases h;rfl
theorem iV {H:Hp} {sh:Bool} {v:V} {z:Str} (h:PAt H sh v (.s z)):v=.str z:=by cases h;rfl
theorem AL {H:Hp} {sh:Bool} {v:V} {n:Nat} (h:PAt H sh v (.i n)):v=.int ((n:Nat):Int):=by cases h;rfl
theorem oO {H:Hp} {sh:Bool} {v:V} {x:Ex} (h:PAt H sh v (.e x)):bo H v x:=by cases h with | e a=>exact a
theorem lT {H:Hp} {sh:Bool} {v:V} {ts:List Tr} (h:PAt H sh v (.b ts)):∃ l xs,v=.ref l/\H l=some (.lst xs)/\LAt H sh xs ts:=by cases h with | b l a=>exact ⟨_,_,rfl,l,a⟩
theorem sW {H:Hp} {sh:Bool} {v:V} {ps:List (Str × Str)} (h:PAt H sh v (.p ps)):dw H v ps:=by cases h with | p a=>exact a
theorem fP {H:Hp} {sh:Bool} {v:V} {t:Tr} (h:bz H sh v t):∃ a vs,v=.ref a/\H a=some (.tup vs)/\PsAt H sh vs t.parts:=by cases h with | mk a b=>exact ⟨_,_,rfl,a,b⟩
theorem fw {H:Hp} {sh:Bool} {vs:List V} {z:Str} {n:Nat} {ps:List aP} (h:PsAt H sh vs (.s z::.i n::ps)):∃ r,vs=.str z::.int ((n:Nat):Int)::r/\PsAt H sh r ps:=by
 obtain ⟨a,r,e,h1,h⟩:=cG h
 obtain ⟨b,r',e',h2,h⟩:=cG h
 exact ⟨r',by rw [e,e',iV h1,AL h2],h⟩
theorem oP {H:Hp} {sh:Bool} {vs:List V} {x:Ex} (h:PsAt H sh vs [.e x]):∃ v,vs=[v]/\bo H v x:=by
 obtain ⟨a,r,e,h1,h⟩:=cG h
 exact ⟨a,by rw [e,iU h],oO h1⟩
theorem sX {H:Hp} {sh:Bool} {v:V} {m r:Nat} {z:Str} {e:Ex} (h:bz H sh v (.set m r z e)):∃ t ve,v=.ref t/\H t=some (.tup [.str "set",.int ((r:Nat):Int),.str z,ve])/\bo H ve e:=by
 obtain ⟨t,vs,e1,ht,h⟩:=fP h
 obtain ⟨q,e2,h⟩:=fw h
 obtain ⟨a,q',e3,h1,h⟩:=cG h
 obtain ⟨ve,e4,hx⟩:=oP h
 exact ⟨t,ve,e1,by rw [ht,e2,e3,iV h1,e4],hx⟩
theorem AM {H:Hp} {sh:Bool} {v:V} {m r:Nat} {e:Ex} (h:bz H sh v (.tell m r e)):∃ t ve,v=.ref t/\H t=some (.tup [.str "tell",.int ((r:Nat):Int),ve])/\bo H ve e:=by
 obtain ⟨t,vs,e1,ht,h⟩:=fP h
 obtain ⟨q,e2,h⟩:=fw h
 obtain ⟨ve,e4,hx⟩:=oP h
 exact ⟨t,ve,e1,by rw [ht,e2,e4],hx⟩
theorem AN {H:Hp} {sh:Bool} {v:V} {m r:Nat} {e:Ex} (h:bz H sh v (.give m r e)):∃ t ve,v=.ref t/\H t=some (.tup [.str "give",.int ((r:Nat):Int),ve])/\bo H ve e:=by
 obtain ⟨t,vs,e1,ht,h⟩:=fP h
 obtain ⟨q,e2,h⟩:=fw h
 obtain ⟨ve,e4,hx⟩:=oP h
 exact ⟨t,ve,e1,by rw [ht,e2,e4],hx⟩
theorem sY {H:Hp} {sh:Bool} {v:V} {m r:Nat} {e:Ex} {b o:List Tr} (h:bz H sh v (.iff m r e b o)):∃ t ve lb xb lo xo,v=.ref t/\H t=some (.tup [.str "if",.int ((r:Nat):Int),ve,.ref lb,.ref lo])/\bo H ve e/\H lb=some (.lst xb)/\LAt H sh xb b/\H lo=some (.lst xo)/\LAt H sh xo o:=by
 obtain ⟨t,vs,e1,ht,h⟩:=fP h
 obtain ⟨q,e2,h⟩:=fw h
 obtain ⟨ve,q',e3,h1,h⟩:=cG h
 obtain ⟨vb,q2,e4,h2,h⟩:=cG h
 obtain ⟨vo,q3,e5,h3,h⟩:=cG h
 obtain ⟨lb,xb,f1,f2,f3⟩:=lT h2
 obtain ⟨lo,xo,g1,g2,g3⟩:=lT h3
 exact ⟨t,ve,lb,xb,lo,xo,e1,by rw [ht,e2,e3,e4,e5,iU h,f1,g1],oO h1,f2,f3,g2,g3⟩
theorem sZ {H:Hp} {sh:Bool} {v:V} {m r:Nat} {e:Ex} {b:List Tr} (h:bz H sh v (.whl m r e b)):∃ t ve lb xb,v=.ref t/\H t=some (.tup [.str "while",.int ((r:Nat):Int),ve,.ref lb])/\bo H ve e/\H lb=some (.lst xb)/\LAt H sh xb b:=by
 obtain ⟨t,vs,e1,ht,h⟩:=fP h
 obtain ⟨q,e2,h⟩:=fw h
 obtain ⟨ve,q',e3,h1,h⟩:=cG h
 obtain ⟨vb,q2,e4,h2,h⟩:=cG h
 obtain ⟨lb,xb,f1,f2,f3⟩:=lT h2
 exact ⟨t,ve,lb,xb,e1,by rw [ht,e2,e3,e4,iU h,f1],oO h1,f2,f3⟩
theorem oQ {H:Hp} {sh:Bool} {v:V} {m r:Nat} {n k:Str} {ps:List (Str × Str)} {b:List Tr} (h:bz H sh v (.df m r n k ps b)):∃ t vp lb xb,v=.ref t/\H t=some (.tup [.str "def",.int ((r:Nat):Int),.str n,.str k,vp,.ref lb])/\dw H vp ps/\H lb=some (.lst xb)/\LAt H sh xb b:=by
 obtain ⟨t,vs,e1,ht,h⟩:=fP h
 obtain ⟨q,e2,h⟩:=fw h
 obtain ⟨a,q1,e3,h1,h⟩:=cG h
 obtain ⟨c,q2,e4,h2,h⟩:=cG h
 obtain ⟨vp,q3,e5,h3,h⟩:=cG h
 obtain ⟨vb,q4,e6,h4,h⟩:=cG h
 obtain ⟨lb,xb,f1,f2,f3⟩:=lT h4
 exact ⟨t,vp,lb,xb,e1,by rw [ht,e2,e3,e4,e5,e6,iU h,f1,iV h1,iV h2],sW h3,f2,f3⟩
theorem AO {H:Hp} {sh:Bool} {v:V} {m r:Nat} {n:Str} {ps:List (Str × Str)} (h:bz H sh v (.kd m r n ps)):∃ t vp,v=.ref t/\H t=some (.tup [.str "kind",.int ((r:Nat):Int),.str n,vp])/\dw H vp ps:=by
 obtain ⟨t,vs,e1,ht,h⟩:=fP h
 obtain ⟨q,e2,h⟩:=fw h
 obtain ⟨a,q1,e3,h1,h⟩:=cG h
 obtain ⟨vp,q3,e5,h3,h⟩:=cG h
 exact ⟨t,vp,e1,by rw [ht,e2,e3,e5,iU h,iV h1],sW h3⟩
theorem cH {n:Nat} (h:n<1000):n<sizeLine:=by rw [sizeLine_eq];lia
inductive iW (k:Nat) (vs:List V) (H:Hp) (Q:VK) (E:XK):Prop
 | mk:∀ (l:Addr) (xs:List V) (ts:List Tr),vs=[.ref l]->H l=some (.lst xs)->LAt H false xs ts->deeps ts<k->ts.length<=40->ascs ts->(∀ p ys H',Same H H'->H' p=some (.lst ys)->LAt H' true ys ts->Q (.ref p) H')->iW k vs H Q E
inductive oR (k:Nat) (vs:List V) (H:Hp) (Q:VK) (E:XK):Prop
 | mk:∀ (v:V) (t:Tr),vs=[v]->bz H false v t->t.deep<k->t.asc->(∀ v' H',Same H H'->bz H' true v' t->Q v' H')->oR k vs H Q E
noncomputable abbrev tf:List Str:=["one"]
theorem tm:a7 tf ["one"] (aL lK):=⟨rfl,rfl,rfl,by decide +kernel,rfl,by decide +kernel,by decide +kernel⟩
theorem AQ (T:All P w K mg AA DD) (k:Nat) (GF:aF P w K mg base aG (2*k+1) AA.Zu DD.Zu ["tree"] (iW k)):aF P w K mg base aG (2*k+2) AA.Zf DD.Zf ["one"] (oR k):=by
 refine T.F_Zf.ok tm (fun vs H Q E h=>?_) (fun Ds A outer s H vs Q E hr h=>?_)
 ·obtain ⟨v,t,rfl,_⟩:=h
  rfl
 ·obtain ⟨v,t,rfl,hS,hd,ha,kq⟩:=h
  have nd:=tm.nd
  have Gu:ay (2*k+1) _:=hr
  refine ⟨_,(ao (aS (iy jz rfl T.n_tuple iE (aa (gP (aL lK) tf [] [] rfl (by exact ⟨rfl,rfl,by decide +kernel,rfl,by decide +kernel,by decide +kernel,by decide +kernel,rfl,by decide +kernel⟩) rfl rfl (im (pv 0)) (fun _ _ _ _=>eQ) (fun _ _ _ _=>(jm (fW (cu (gZ (K:=K) (n:="list") rfl) rfl T.n_isinstance gO (aa (pv 0) (aa (gG (v:=.ty "list") rfl T.n_list kN rfl) ag)))) (aK GF Gu rfl T.m_Zu T.k_Zu T.b_Zu .nil aD (aa (pv 0) ag)) (pv 0)))) ag)))),?_⟩
  cases hS with
  | @mk t0 xs _ ht DW =>
  refine ⟨_,rfl,t0,rfl,⟨_,ah.of ht⟩,?_⟩
  have Er:=t.parts_len
  have FV:=DW.length
  refine nk (K:=K) (a:=t0) (xs:=xs) (fun i ys H'=>Same H H'/\i<=xs.length/\PsAt H' true ys (t.parts.take i)) ⟨Same.refl _,Qu _,by simpa using PsAt.nil⟩ (fun i ys H' _ h=>ah.of (h.1 _ _ ht)) ?_ ?_
  ·rintro i x ys H1 hx ⟨sm,hi,DA⟩
   obtain ⟨p,hp,hP⟩:=DW.get hx
   have hP1:=hP.kept sm.ls
   have EB:=(Qc hx).1
   have D8:=DA.length
   rw [QD] at D8
   have DJ:i<t.parts.length:=by lia
   have Fw:t.parts.take (i+1)=t.parts.take i++[p]:=by
    rw [Qm DJ]
    rw [Qa DJ] at hp
    rw [Qq hp]
   refine eP ?_
   rw [if_pos rfl]
   rcases hP1.isL (K:=K) with ⟨bs,l,zs,e1,e2,hl,hL,ty,kb⟩ | ⟨nb,ty0,ty,kb⟩
   ·subst e1 e2
    have hm:aP.b bs∈t.parts:=Qh hp
    refine ⟨_,rfl,_,_,true,rfl,ty,kb,_,rfl,kK ?_⟩
    refine ⟨_,rfl,l,zs,bs,rfl,hl,hL,QN (iO hm) hd,(gq ha hm).1,(gq ha hm).2.2,fun q us H2 s2 hq hL2=>?_⟩
    refine ⟨cH (by lia),sm.trans s2,by lia,?_⟩
    rw [Fw]
    exact (DA.kept s2.ls).snoc (.b hq hL2)
   ·refine ⟨_,rfl,_,_,false,rfl,ty,kb,_,rfl,dX ?_⟩
    refine ⟨_,rfl,cH (by lia),sm,by lia,?_⟩
    rw [Fw]
    exact DA.snoc (hP1.other nb)
  ·rintro ys H1 ⟨sm,hi,DA⟩ p hp
   have s1:=ak (o:=.lst ys) hp
   refine ⟨p,ys,rfl,.inl ⟨aj.of ai,fun l hl=>?_⟩⟩
   have s2:=ak (o:=.tup ys) hl
   refine kq _ _ ((sm.trans s1).trans s2) (.mk ai ?_)
   rw [Qv (by lia)] at DA
   exact DA.kept (s1.trans s2).ls
noncomputable abbrev tu:List Str:=["tree"]
theorem oS:a7 tu ["tree"] (aL lJ):=⟨rfl,rfl,rfl,by decide +kernel,rfl,by decide +kernel,by decide +kernel⟩
theorem AR (T:All P w K mg AA DD) (k:Nat) (GS:aF P w K mg base aG (2*k+2) AA.Zf DD.Zf ["one"] (oR k)):aF P w K mg base aG (2*(k+1)+1) AA.Zu DD.Zu ["tree"] (iW (k+1)):=by
 refine T.F_Zu.ok oS (fun vs H Q E h=>?_) (fun Ds A outer s H vs Q E hr h=>?_)
 ·obtain ⟨l,xs,ts,rfl,_⟩:=h
  rfl
 ·obtain ⟨l,xs,ts,rfl,hl,hL,hd,h20,ha,kq⟩:=h
  have nd:=oS.nd
  have hrS:ay (2*k+2) _:=hr
  refine ⟨_,(ao (aS (gP (aL lJ) tu [] [] rfl (by exact ⟨rfl,rfl,by decide +kernel,rfl,by decide +kernel,by decide +kernel,by decide +kernel,rfl,by decide +kernel⟩) rfl rfl (dC (pv 0)) (fun _ _ _ _=>eQ) (fun _ _ _ _=>(aV (aa af (aa (aK GS hrS rfl T.m_Zf T.k_Zf T.b_Zf .nil aD (aa (pv 0) ag)) ag))))))),?_⟩
  refine ⟨_,rfl,l,rfl,⟨_,aj.of hl⟩,?_⟩
  have FV:=hL.length
  refine m5 (K:=K) (a:=l) (xs:=xs) (fun i ys H'=>Same H H'/\i<=xs.length/\LAt H' true ys (ts.take i)) ⟨Same.refl _,Qu _,by simpa using LAt.nil⟩ (fun i ys H' _ h=>aj.of (h.1 _ _ hl)) ?_ ?_
  ·rintro i x ys H1 hx ⟨sm,hi,DA⟩
   obtain ⟨t,ht,hO⟩:=hL.get hx
   have EB:=(Qc hx).1
   have D8:=DA.length
   rw [QD] at D8
   have DJ:i<ts.length:=by lia
   have Fw:ts.take (i+1)=ts.take i++[t]:=by
    rw [Qm DJ]
    rw [Qa DJ] at ht
    rw [Qq ht]
   have hm:t∈ts:=Qh ht
   obtain ⟨hm1,hS⟩:t.mask=1/\bz H1 false x t:=by
    cases hO with
    | plain _ hm a=>exact ⟨hm,a.kept sm.ls⟩
    | shared e _ _=>cases e
   refine eP ?_
   rw [if_pos rfl]
   refine ⟨_,rfl,x,t,rfl,hS,by have:=iP hm;lia,(gT ha hm).2,fun v' H2 s2 hS2=>?_⟩
   refine ⟨bL,fun q hq=>?_⟩
   have s3:=ak (o:=.tup [.int 1,v']) hq
   refine ⟨cH (by lia),(sm.trans s2).trans s3,by lia,?_⟩
   rw [Fw]
   exact (DA.kept (s2.trans s3).ls).snoc (.shared rfl (by rw [hm1];exact ai) (hS2.kept s3.ls))
  ·rintro ys H1 ⟨sm,hi,DA⟩ p hp
   have s1:=ak (o:=.lst ys) hp
   rw [Qv (by lia)] at DA
   exact kq p ys _ (sm.trans s1) ai (DA.kept s1.ls)
theorem AS (T:All P w K mg AA DD):aF P w K mg base aG 1 AA.Zu DD.Zu ["tree"] (iW 0):=by
 have no:∀ vs H Q E,¬ iW 0 vs H Q E:=fun vs H Q E h=>by
  obtain ⟨l,xs,ts,_,_,_,z,_⟩:=h
  lia
 exact T.F_Zu.ok oS (fun vs H Q E h=>(no _ _ _ _ h).elim) (fun Ds A outer s H vs Q E hr h=>(no _ _ _ _ h).elim)
theorem tw (T:All P w K mg AA DD):∀ k:Nat,aF P w K mg base aG (2*k+1) AA.Zu DD.Zu ["tree"] (iW k)
 | 0=>AS T
 | k+1=>AR T k (AQ T k (tw T k))
theorem bd {c:Bool} {a b:Prop} (h:c=false) (k:b):if c=true then a else b:=by rw [h];exact k
theorem bO {c:Bool} {a b:Prop} (h:c=true) (k:a):if c=true then a else b:=by rw [h];exact k
inductive tz (vs:List V) (H:Hp) (Q:VK) (E:XK):Prop
 | mk:∀ m:Nat,vs=[.int m]->m≠0->Q (.int ((dZ m:Nat):Int)) H->tz vs H Q E
noncomputable abbrev AT:List Str:=["mask"]
theorem tD:a7 AT ["mask"] (aL nZ):=⟨rfl,rfl,rfl,by decide +kernel,rfl,by decide +kernel,by decide +kernel⟩
theorem AU (T:All P w K mg AA DD):aF P w K mg base aG 1 AA.ZL DD.ZL ["mask"] tz:=by
 refine T.F_ZL.ok tD (fun vs H Q E h=>?_) (fun Ds A outer s H vs Q E hr h=>?_)
 ·obtain ⟨m,rfl,_⟩:=h
  rfl
 ·obtain ⟨m,rfl,h',k⟩:=h
  have nd:=tD.nd
  refine ⟨_,(aA (aX (aM bu (pv 0) af (aR _)) (ao (aS p6)) bi) (ao (aS (am fj (kJ PySem.F.plainAttrs_int PySem.F.slot_int_bit_length PySem.F.type_int_bit_length yB (am kB (pv 0) (am fj (pv 0) af))) af)))),?_⟩
  refine ⟨_,rfl,rfl,_,rfl,?_⟩
  rw [Qi (fun z=>h' (by injection z with z;omega))]
  refine dX ?_
  obtain ⟨t,q,e⟩:=kW m m (Qf _) h'
  refine ⟨_,rfl,_,rfl,_,_,rfl,rfl,_,_,rfl,rfl,rfl,_,rfl,rfl,_,_,rfl,rfl,?_⟩
  have hp:=Nat.two_pow_pos t
  have e1:(m:Int)-1=((m-1:Nat):Int):=by omega
  have e2:Builtin.bitXor (m:Int) ((m:Int)-1)=((2 ^ (t+1)-1:Nat):Int):=by rw [e1,kM,e,nj]
  rw [e2,rC]
  have e3:(((t+1:Nat):Int))-1=(t:Int):=by omega
  dsimp only
  rw [e3]
  rw [sD e] at k
  exact k
theorem AV {H:Hp} {sh:Bool} {vs:List V} {t:Tr} (h:PsAt H sh vs t.parts):∃ (a:V) (r:List V),vs=a::.int ((t.row:Nat):Int)::r:=by
 have g:∃ a ps,t.parts=.s a::.i t.row::ps:=by cases t<;>exact ⟨_,_,rfl⟩
 obtain ⟨a,ps,e⟩:=g
 rw [e] at h
 obtain ⟨r,e2,_⟩:=fw h
 exact ⟨_,r,e2⟩
inductive tE (vs:List V) (H:Hp) (Q:VK) (E:XK):Prop
 | mk:∀ (v:V) (t:Tr),vs=[v]->OAt H true v t->t.mask≠0->(∀ q H',Same H H'->H' q=some (.tup ((cm t).map kV))->Q (.ref q) H')->tE vs H Q E
noncomputable abbrev AW:List Str:=["pair"]
theorem tF:a7 AW ["pair"] (aL oj):=⟨rfl,rfl,rfl,by decide +kernel,rfl,by decide +kernel,by decide +kernel⟩
theorem AX (T:All P w K mg AA DD):aF P w K mg base aG 2 AA.Zh DD.Zh ["pair"] tE:=by
 have GL:=AU (base:=base) T
 refine T.F_Zh.ok tF (fun vs H Q E h=>?_) (fun Ds A outer s H vs Q E hr h=>?_)
 ·obtain ⟨v,t,rfl,_⟩:=h
  rfl
 ·obtain ⟨v,t,rfl,hO,hm,k⟩:=h
  have nd:=tF.nd
  have Dw:ay 1 _:=hr
  refine ⟨_,(ao (aS (aV (aa (az (aN (K:=K) rfl) (az (aN (K:=K) rfl) (pv 0) af (fun _ _=>rfl)) af (fun _ _=>rfl)) (aa (aK GL Dw rfl T.m_ZL T.k_ZL T.b_ZL .nil aD (aa (az (aN (K:=K) rfl) (pv 0) af (fun _ _=>rfl)) ag)) ag))))),?_⟩
  cases hO with
  | plain e _=>cases e
  | @shared p x _ _ hp hS =>
  cases hS with
  | @mk t0 vs _ ht DW =>
  obtain ⟨a,r,rfl⟩:=AV DW
  refine ⟨_,rfl,p,_,_,_,rfl,rfl,ah.of hp,rfl,?_⟩
  refine ⟨t0,_,_,_,rfl,rfl,ah.of ht,aw (j:=1) rfl,?_⟩
  refine ⟨_,rfl,p,_,_,_,rfl,rfl,ah.of hp,rfl,?_⟩
  refine ⟨t.mask,rfl,hm,bL,fun q hq=>?_⟩
  exact k q _ (ak hq) ai
inductive iX (k:Nat) (vs:List V) (H:Hp) (Q:VK) (E:XK):Prop
 | mk:∀ (l:Addr) (xs:List V) (ts:List Tr) (rule:Nat),vs=[.ref l,.int ((rule:Nat):Int)]->H l=some (.lst xs)->LAt H true xs ts->deeps ts<k->ts.length<=40->ascs ts->(∀ p ys us H',Same H H'->H' p=some (.lst ys)->LAt H' true ys us->jT rule ts us->Q (.ref p) H')->iX k vs H Q E
inductive oT (k:Nat) (vs:List V) (H:Hp) (Q:VK) (E:XK):Prop
 | mk:∀ (v:V) (t:Tr) (rule:Nat),vs=[v,.int ((rule:Nat):Int)]->bz H true v t->t.deep<k->t.asc->(∀ v' u H',Same H H'->bz H' true v' u->lv rule t u->Q v' H')->oT k vs H Q E
noncomputable abbrev tG:List Str:=["one","mask"]
theorem tH:a7 tG ["one","mask"] (aL lI):=⟨rfl,rfl,rfl,by decide +kernel,rfl,by decide +kernel,by decide +kernel⟩
theorem AY (T:All P w K mg AA DD) (k:Nat) (GF:aF P w K mg base aG (2*k+5) AA.Zt DD.Zt ["tree","mask"] (iX k)):aF P w K mg base aG (2*k+6) AA.Zg DD.Zg ["one","mask"] (oT k):=by
 refine T.F_Zg.ok tH (fun vs H Q E h=>?_) (fun Ds A outer s H vs Q E hr h=>?_)
 ·obtain ⟨v,t,rule,rfl,_⟩:=h
  rfl
 ·obtain ⟨v,t,rule,rfl,hS,hd,ha,kq⟩:=h
  have nd:=tH.nd
  have Gu:ay (2*k+5) _:=hr
  refine ⟨_,(ao (aS (iy jz rfl T.n_tuple iE (aa (gP (aL lI) tG ["mask"] [1] rfl (by exact ⟨rfl,rfl,by decide +kernel,rfl,by decide +kernel,by decide +kernel,by decide +kernel,rfl,by decide +kernel⟩) rfl rfl (im (pv 0)) (fun _ _ _ _=>eQ) (fun _ _ _ _=>(jm (fW (cu (gZ (K:=K) (n:="list") rfl) rfl T.n_isinstance gO (aa (pv 0) (aa (gG (v:=.ty "list") rfl T.n_list kN rfl) ag)))) (aK GF Gu rfl T.m_Zt T.k_Zt T.b_Zt .nil aD (aa (pv 0) (aa (pv 1) ag))) (pv 0)))) ag)))),?_⟩
  cases hS with
  | @mk t0 xs _ ht DW =>
  refine ⟨_,rfl,t0,rfl,⟨_,ah.of ht⟩,?_⟩
  have Er:=t.parts_len
  have FV:=DW.length
  refine nk (K:=K) (a:=t0) (xs:=xs) (fun i ys H'=>Same H H'/\i<=xs.length/\∃ qs,PsAt H' true ys qs/\c8 rule (t.parts.take i) qs/\qs.length=i) ⟨Same.refl _,Qu _,[],.nil,by simpa using c8.nil,rfl⟩ (fun i ys H' _ h=>ah.of (h.1 _ _ ht)) ?_ ?_
  ·rintro i x ys H1 hx ⟨sm,hi,qs,DA,hqs,hql⟩
   obtain ⟨p,hp,hP⟩:=DW.get hx
   have hP1:=hP.kept sm.ls
   have EB:=(Qc hx).1
   have D8:=DA.length
   have DJ:i<t.parts.length:=by lia
   have Fw:t.parts.take (i+1)=t.parts.take i++[p]:=by
    rw [Qm DJ]
    rw [Qa DJ] at hp
    rw [Qq hp]
   refine eP ?_
   rw [if_pos rfl]
   rcases hP1.isL (K:=K) with ⟨bs,l,zs,e1,e2,hl,hL,ty,kb⟩ | ⟨nb,ty0,ty,kb⟩
   ·subst e1 e2
    have hm:aP.b bs∈t.parts:=Qh hp
    refine ⟨_,rfl,_,_,true,rfl,ty,kb,_,rfl,kK ?_⟩
    refine ⟨_,rfl,_,rfl,l,zs,bs,rule,rfl,hl,hL,QN (iO hm) hd,(gq ha hm).1,(gq ha hm).2.2,fun q vs us H2 s2 hq hL2 hk=>?_⟩
    refine ⟨cH (by lia),sm.trans s2,by lia,qs++[.b us],(DA.kept s2.ls).snoc (.b hq hL2),?_,by simp [hql]⟩
    rw [Fw]
    exact hqs.snoc (.b hk)
   ·refine ⟨_,rfl,_,_,false,rfl,ty,kb,_,rfl,dX ?_⟩
    refine ⟨_,rfl,cH (by lia),sm,by lia,qs++[p],DA.snoc hP1,?_,by simp [hql]⟩
    rw [Fw]
    exact hqs.snoc (.o nb)
  ·rintro ys H1 ⟨sm,hi,qs,DA,hqs,hql⟩ p hp
   have s1:=ak (o:=.lst ys) hp
   refine ⟨p,ys,rfl,.inl ⟨aj.of ai,fun l hl=>?_⟩⟩
   have s2:=ak (o:=.tup ys) hl
   rw [Qv (by lia)] at hqs
   obtain ⟨u,eu,hk⟩:=Ag ha hqs
   refine kq _ u _ ((sm.trans s1).trans s2) (.mk ai ?_) hk
   rw [eu]
   exact DA.kept (s1.trans s2).ls
noncomputable abbrev tI:List Str:=["tree","mask","kept"]
theorem oU:a7 tI ["tree","mask"] (aL lH):=⟨rfl,rfl,rfl,by decide +kernel,rfl,by decide +kernel,by decide +kernel⟩
theorem AZ (T:All P w K mg AA DD) (k:Nat) (GS:aF P w K mg base aG (2*k+6) AA.Zg DD.Zg ["one","mask"] (oT k)):aF P w K mg base aG (2*(k+1)+5) AA.Zt DD.Zt ["tree","mask"] (iX (k+1)):=by
 have GR:=AX (base:=base) T
 refine T.F_Zt.ok oU (fun vs H Q E h=>?_) (fun Ds A outer s H vs Q E hr h=>?_)
 ·obtain ⟨l,xs,ts,rule,rfl,_⟩:=h
  rfl
 ·obtain ⟨l,xs,ts,rule,rfl,hl,hL,hd,h20,ha,kq⟩:=h
  have nd:=oU.nd
  have hrS:ay (2*k+6) _:=hr
  have hr4:ay 4 _:=hrS.mono (by lia)
  refine ⟨_,(aA (yH (i:=2) (xs:=["there","one"]) (aL lH) tI ["mask"] [1] rfl (by exact ⟨rfl,rfl,by decide +kernel,by decide +kernel,by decide +kernel,by decide +kernel,by decide +kernel,rfl,by decide +kernel⟩) rfl rfl (dC (pv 0)) (fun _ _ _ _=>(jG (K:=K) (n:=2) rfl rfl (br (a9 (i:=0) (show (["there","one","mask"]:List Str).Nodup by decide +kernel) rfl (Or.inl rfl)) (br (a9 (i:=1) (show (["there","one","mask"]:List Str).Nodup by decide +kernel) rfl (Or.inl rfl)) dm)))) (fun _ _ _ _=>kL (aM fZ (am eh (pv 0) (pv 2)) af (aR _))) (fun _ _ _ _=>(aV (aa (am eh (pv 0) (pv 2)) (aa (aK GS hrS rfl T.m_Zg T.k_Zg T.b_Zg .nil aD (aa (pv 1) (aa (pv 2) ag))) ag)))) nd rfl rfl rfl) (ao (aS (zZ (K:=K) rfl GR hr4 T.b_Zh .nil rfl T.n_sorted rfl T.m_Zh (pv 2))))),?_⟩
  refine ⟨_,rfl,l,rfl,⟨_,aj.of hl⟩,?_⟩
  have FV:=hL.length
  refine np (K:=K) (a:=l) (xs:=xs) (fun i ys H'=>Same H H'/\i<=xs.length/\∃ us,LAt H' true ys us/\cE rule (ts.take i) us) ⟨Same.refl _,Qu _,[],.nil,by simpa using cE.nil⟩ (fun i ys H' _ h=>aj.of (h.1 _ _ hl)) ?_ ?_
  ·rintro i x ys H1 hx ⟨sm,hi,us,DA,DY⟩
   obtain ⟨t,ht,hO⟩:=hL.get hx
   have hO:=hO.kept sm.ls
   have EB:=(Qc hx).1
   have D8:=DA.length
   have DZ:=DY.len
   rw [QD] at DZ
   have DJ:i<ts.length:=by lia
   have Fw:ts.take (i+1)=ts.take i++[t]:=by
    rw [Qm DJ]
    rw [Qa DJ] at ht
    rw [Qq ht]
   have hm:t∈ts:=Qh ht
   cases hO with
   | plain e _=>cases e
   | @shared q y _ _ hq hS =>
   intro os Es
   obtain ⟨a,b,rfl⟩:=jU Es
   refine ⟨q,_,rfl,ah.of hq,rfl,_,_,rfl,_,_,rfl,rfl,⟨[_,_],rfl,rfl⟩,?_⟩
   refine ⟨_,rfl,_,rfl,_,_,rfl,rfl,rfl,_,rfl,?_⟩
   have hb:Builtin.bitAnd ((t.mask:Nat):Int) ((rule:Nat):Int)=((t.mask &&& rule:Nat):Int):=fO _ _
   by_cases h0:t.mask &&& rule=0
   ·refine bd (by
     show (!decide (V.int (Builtin.bitAnd ((t.mask:Nat):Int) ((rule:Nat):Int))=V.int 0))=false
     rw [hb,h0];rfl) ?_
    refine ⟨sm,by lia,us,DA,?_⟩
    rw [Fw]
    exact DY.skip h0
   ·refine bO (by
     show (!decide (V.int (Builtin.bitAnd ((t.mask:Nat):Int) ((rule:Nat):Int))=V.int 0))=true
     rw [hb,Qi (fun z=>h0 (by injection z with z;lia))];rfl) ?_
    refine ⟨_,rfl,_,rfl,_,_,rfl,rfl,_,rfl,_,rfl,y,t,rule,rfl,hS,by have:=iP hm;lia,(gT ha hm).2,fun v' u H2 s2 hS2 hk=>?_⟩
    refine ⟨bL,fun q2 DN=>?_⟩
    dsimp only
    rw [hb]
    have s3:=ak (o:=.tup [.int ((t.mask &&& rule:Nat):Int),v']) DN
    refine ⟨cH (by lia),(sm.trans s2).trans s3,by lia,us++[u],(DA.kept (s2.trans s3).ls).snoc (.shared rfl (by rw [hk.mask];exact ai) (hS2.kept s3.ls)),?_⟩
    rw [Fw]
    exact DY.keep h0 hk
  ·rintro ys H1 ⟨sm,hi,us,DA,DY⟩ p hp
   have s1:=ak (o:=.lst ys) hp
   rw [Qv (by lia)] at DY
   have D8:=DA.length
   have DZ:=DY.len
   have GP:=DA.kept s1.ls
   obtain ⟨D6,D2⟩:=Ak ha DY
   refine ⟨_,rfl,p,ys,us.map cm,[true,true],rfl,aj.of ai,by lia,by simp [D8],fun d hd=>?_,by simp,fun i x d H' s2 hx hd Q' kQ=>?_,fun q H' s2 hq=>?_⟩
   ·obtain ⟨t,_,rfl⟩:=QH hd
    rfl
   ·obtain ⟨t,ht,hO⟩:=GP.get hx
    rw [Qr,ht] at hd
    cases (show some (cm t)=some d from hd)
    obtain ⟨t1,Fx,k1,hm1⟩:=DY.from t (Qh ht)
    exact ⟨x,t,rfl,hO.kept s2.ls,by rw [k1.mask];exact hm1,fun q H2 s3 hq=>kQ q H2 s3 hq⟩
   ·have s3:=ak (o:=.lst (bX (us.map cm) ys)) hq
    have Do:∀ i∈ck (us.map cm),i<us.length:=fun i hi=>by
     have:=lS i hi
     rwa [Qd] at this
    exact kq q _ (dH us) _ (((sm.trans s1).trans s2).trans s3) ai ((Al GP Do).kept (s2.trans s3).ls) D6
theorem A0 (T:All P w K mg AA DD):aF P w K mg base aG 5 AA.Zt DD.Zt ["tree","mask"] (iX 0):=by
 have no:∀ vs H Q E,¬ iX 0 vs H Q E:=fun vs H Q E h=>by
  obtain ⟨l,xs,ts,rule,_,_,_,z,_⟩:=h
  lia
 exact T.F_Zt.ok oU (fun vs H Q E h=>(no _ _ _ _ h).elim) (fun Ds A outer s H vs Q E hr h=>(no _ _ _ _ h).elim)
theorem tJ (T:All P w K mg AA DD):∀ k:Nat,aF P w K mg base aG (2*k+5) AA.Zt DD.Zt ["tree","mask"] (iX k)
 | 0=>A0 T
 | k+1=>AZ T k (AY T k (tJ T k))
theorem jZ {H:Hp} {d:Addr} {ob ob':HO} (h:H d=some ob) (n1:∀ xs,ob≠.tup xs) (n2:∀ xs,ob≠.lst xs) (n3:∀ o x,ob≠.frz o x) (n4:∀ ps,ob≠.tbl ps:=by intro _ z;cases z):bI H (upd H d ob') :=
 ⟨fun b xs e=>(by rw [al (fun z=>by rw [z,h] at e;exact n1 _ (Qq e))];exact e),fun b xs e=>(by rw [al (fun z=>by rw [z,h] at e;exact n2 _ (Qq e))];exact e),fun b o xs e=>by rw [al (fun z=>by rw [z,h] at e;exact n3 _ _ (Qq e))];exact e,fun b ps e=>by rw [al (fun z=>by rw [z,h] at e;exact n4 _ (Qq e))];exact e⟩
inductive tK (vs:List V) (H:Hp) (Q:VK) (E:XK):Prop
 | mk:∀ m o:Nat,vs=[.int m,.int o]->Q (.int ((m ^^^ (m &&& o):Nat):Int)) H->tK vs H Q E
noncomputable abbrev A1:List Str:=["mask","other"]
theorem tL:a7 A1 ["mask","other"] (aL n8):=⟨rfl,rfl,rfl,by decide +kernel,rfl,by decide +kernel,by decide +kernel⟩
theorem lU (T:All P w K mg AA DD):aF P w K mg base aG 1 AA.ZE DD.ZE ["mask","other"] tK:=by
 refine T.F_ZE.ok tL (fun vs H Q E h=>?_) (fun Ds A outer s H vs Q E hr h=>?_)
 ·obtain ⟨m,o,rfl,_⟩:=h
  rfl
 ·obtain ⟨m,o,rfl,k⟩:=h
  have nd:=tL.nd
  refine ⟨_,(ao (aS (am kB (pv 0) (am eh (pv 0) (pv 1))))),?_⟩
  refine ⟨_,rfl,_,rfl,_,rfl,_,_,rfl,rfl,_,_,rfl,rfl,?_⟩
  dsimp only
  rw [fO,kM]
  exact k
theorem lV (a:V) (ys:List V):dW (a::ys) (some 1) none=ys:=by
 unfold dW
 have h1:HT.sIx (a::ys).length 0 (some 1)=1:=by simp [HT.sIx]
 have h2:HT.sIx (a::ys).length (a::ys).length none=ys.length+1:=by simp [HT.sIx]
 rw [h1,h2]
 simp
theorem oV (z:Str) (l:List Str):gc (.str z) (l.map V.str)=decide (z∈l):=by
 induction l with
 | nil=>rfl
 | cons a r ih =>
  show ((a == z)||gc (.str z) (r.map V.str))=_
  rw [ih]
  by_cases h:a=z
  ·subst h;simp
  ·have:¬ z=a:=fun e=>h e.symm
   simp [h,this]
theorem fz {z:Str} {zs:List Str} {b:Bool} (h:decide (z∈zs)=b):(if false=true then !gc (V.str z) (zs.map V.str) else gc (V.str z) (zs.map V.str))=b:=by
 rw [<- h]
 exact oV _ _
inductive tM (vs:List V) (H:Hp) (Q:VK) (E:XK):Prop
 | mk:∀ (d:Addr) (y:V) (m:Nat),vs=[.ref d,y,.int ((m:Nat):Int)]->ni H d->((m=0/\Q .non H)∨(m≠0/\∃ (o:Option V) (n:Nat) (H':Hp),cv H d y o/\((o=none/\n=0)∨o=some (.int ((n:Nat):Int)))/\eV H d y (.int ((n ||| m:Nat):Int)) H'/\Q .non H'))->tM vs H Q E
noncomputable abbrev A2:List Str:=["found","key","mask"]
theorem tN:a7 A2 ["found","key","mask"] (aL oi):=⟨rfl,rfl,rfl,by decide +kernel,rfl,by decide +kernel,by decide +kernel⟩
theorem oW (T:All P w K mg AA DD):aF P w K mg base aG 1 AA.ZK DD.ZK ["found","key","mask"] tM:=by
 refine T.F_ZK.ok tN (fun vs H Q E h=>?_) (fun Ds A outer s H vs Q E hr h=>?_)
 ·obtain ⟨d,y,m,rfl,_⟩:=h
  rfl
 ·obtain ⟨d,y,m,rfl,hI,h⟩:=h
  have nd:=tN.nd
  have hu:_+1<cLine:=QN (Nat.add_le_add_left (show 1<=16*0+200 by decide) _) (by have:=hr.un;omega)
  refine ⟨_,(ao (aX (aM fZ (pv 2) af (aR _)) (ao (rp hu (pv 0) (pv 1) (am qc (iD hu (pv 0) (pv 1) af ⟨by rfl,by rfl,by rfl,by rfl⟩) (pv 2)) rfl)) bi)),?_⟩
  refine ⟨_,rfl,rfl,_,rfl,?_⟩
  rcases h with ⟨rfl,k⟩ | ⟨h0,o,n,H',g,ho,hp,k⟩
  ·exact dX k
  ·refine bO (by
    show (!decide (V.int ((m:Nat):Int)=V.int 0))=true
    rw [Qi (fun z=>h0 (by injection z with z;omega))];rfl) ?_
   refine ⟨_,rfl,d,rfl,hI,_,rfl,o,g,?_⟩
   have e:o.getD (V.int 0)=.int ((n:Nat):Int):=by
    rcases ho with ⟨z,z2⟩ | z<;>rw [z]
    ·rw [z2];rfl
    ·rfl
   rw [e]
   refine ⟨_,rfl,_,_,rfl,rfl,?_⟩
   dsimp only
   rw [m6]
   exact ⟨_,rfl,_,rfl,d,H',rfl,hp,k⟩
noncomputable def _root_.Mm.Ex.kids:Ex->List Ex
 | .not e=>[e]
 | .op _ a b=>[a,b]
 | .of _ e=>[e]
 | .many _ _ es=>es
 | _=>[]
noncomputable def e7:List Str:=["num","truth","name"]
noncomputable def fQ:List Str:=["do","new"]
theorem tO:∀ z∈sk,z∉e7/\z∉fQ/\z≠"of"/\z≠"name"/\z≠"do"/\z≠"new":=by decide +kernel
theorem oX:("not":Str)∉e7/\("not":Str)∉fQ/\("not":Str)≠"of"/\("not":Str)≠"name"/\("not":Str)≠"do"/\("not":Str)≠"new":=by decide +kernel
theorem tP:("of":Str)∉e7/\("of":Str)∉fQ/\("of":Str)≠"name"/\("of":Str)≠"do"/\("of":Str)≠"new":=by decide +kernel
theorem tQ:∀ w:Str,w="do"∨w="new"->w∉e7/\w∈fQ/\w≠"name":=by
 rintro w (rfl | rfl)<;>decide +kernel
theorem A3 {e:Ex} (hg:e.good):∀ x∈e.kids,x.good/\x.deep+1<=e.deep:=by
 cases e with
 | not e=>intro x h;simp [Ex.kids] at h;subst h;exact ⟨hg,by simp [Ex.deep]⟩
 | of n e=>intro x h;simp [Ex.kids] at h;subst h;exact ⟨hg,by simp [Ex.deep]⟩
 | op w a b =>
  intro x h
  simp [Ex.kids] at h
  rcases h with rfl | rfl
  ·exact ⟨hg.2.1,by simp [Ex.deep];lia⟩
  ·exact ⟨hg.2.2,by simp [Ex.deep];lia⟩
 | many w z es =>
  intro x h
  have h:x∈es:=h
  exact ⟨ss hg.2.2 h,by have:=sr h;simp [Ex.deep];lia⟩
 | _=>intro x h;simp [Ex.kids] at h
inductive tR (vs:List V) (H:Hp) (Q:VK) (E:XK):Prop
 | mk:∀ (v:V) (e:Ex),vs=[v]->bo H v e->e.good->(∀ t ys H',Same H H'->H' t=some (.tup ys)->ExsAt H' ys e.kids->Q (.ref t) H')->tR vs H Q E
theorem A4 {H:Hp} {v:V} {e:Ex} (h:bo H v e) (hp:e.good):∃ (t:Addr) (z:Str) (ys:List V),v=.ref t/\H t=some (.tup (.str z::ys)) /\
  ((z∈e7/\e.kids=[])∨(z∉e7/\z∈fQ/\∃ y l vs,ys=[y,.ref l]/\H l=some (.tup vs)/\ExsAt H vs e.kids)∨(z∉e7/\z∉fQ/\z="of"/\∃ y x,ys=[y,x]/\ExsAt H [x] e.kids)∨(z∉e7/\z∉fQ/\z≠"of"/\ExsAt H ys e.kids/\ys≠[])):=by
 cases h with
 | num h=>exact ⟨_,_,_,rfl,h,.inl ⟨by decide,rfl⟩⟩
 | truth h=>exact ⟨_,_,_,rfl,h,.inl ⟨by decide,rfl⟩⟩
 | name h=>exact ⟨_,_,_,rfl,h,.inl ⟨by decide,rfl⟩⟩
 | not h a=>exact ⟨_,_,_,rfl,h,.inr (.inr (.inr ⟨oX.1,oX.2.1,oX.2.2.1,.cons a .nil,by simp⟩))⟩
 | op h a b=>have q:=tO _ hp.1;exact ⟨_,_,_,rfl,h,.inr (.inr (.inr ⟨q.1,q.2.1,q.2.2.1,.cons a (.cons b .nil),by simp⟩))⟩
 | of h a=>exact ⟨_,_,_,rfl,h,.inr (.inr (.inl ⟨tP.1,tP.2.1,rfl,_,_,rfl,.cons a .nil⟩))⟩
 | many h l a=>have q:=tQ _ hp.1;exact ⟨_,_,_,rfl,h,.inr (.inl ⟨q.1,q.2.1,_,_,_,rfl,l,a⟩)⟩
noncomputable abbrev A5:List Str:=["e"]
theorem tS:a7 A5 ["e"] (aL oq):=⟨rfl,rfl,rfl,by decide +kernel,rfl,by decide +kernel,by decide +kernel⟩
theorem A6 (T:All P w K mg AA DD):aF P w K mg base aG 1 AA.Zz DD.Zz ["e"] tR:=by
 refine T.F_Zz.ok tS (fun vs H Q E h=>?_) (fun Ds A outer s H vs Q E hr h=>?_)
 ·obtain ⟨v,e,rfl,_⟩:=h
  rfl
 ·obtain ⟨v,e,rfl,hE,Er,k⟩:=h
  have nd:=tS.nd
  refine ⟨_,(aA (aX (aM (jP (K:=K) rfl) (az (aN (K:=K) rfl) (pv 0) af (fun _ _=>rfl)) (aV (aa aI (aa aI (aa aI ag)))) rfl) (ao (aS (aV ag))) bi) (aA (aX (aM (jP (K:=K) rfl) (az (aN (K:=K) rfl) (pv 0) af (fun _ _=>rfl)) (aV (aa aI (aa aI ag))) rfl) (ao (aS (az (aN (K:=K) rfl) (pv 0) af (fun _ _=>rfl)))) bi) (aA (aX (aM bu (az (aN (K:=K) rfl) (pv 0) af (fun _ _=>rfl)) aI (aR _)) (ao (aS (aV (aa (az (aN (K:=K) rfl) (pv 0) af (fun _ _=>rfl)) ag)))) bi) (ao (aS (fm gM (pv 0) (eO af) fN)))))),?_⟩
  obtain ⟨t,z,ys,rfl,ht,hc⟩:=A4 hE Er
  refine ⟨_,rfl,t,_,_,_,rfl,rfl,ah.of ht,aw (j:=0) rfl,dR,fun pt Ga=>⟨pt,e7.map V.str,rfl,.inr (ah.of ai),rfl,rfl,_,rfl,?_⟩⟩
  have s1:=ak (o:=.tup (e7.map V.str)) Ga
  by_cases hz:z∈e7
  ·refine bO (fz (Qo hz)) ?_
   refine ⟨eI,fun p hp=>?_⟩
   have hk:e.kids=[]:=by
    rcases hc with ⟨_,q⟩ | ⟨q,_⟩ | ⟨q,_⟩ | ⟨q,_⟩
    ·exact q
    ·exact absurd hz q
    ·exact absurd hz q
    ·exact absurd hz q
   exact k p _ _ (s1.trans (ak hp)) ai (by rw [hk];exact .nil)
  refine bd (fz (Qi hz)) ?_
  refine ⟨_,rfl,t,_,_,_,rfl,rfl,ah.of (s1 _ _ ht),aw (j:=0) rfl,bL,fun pu hpu=>⟨pu,fQ.map V.str,rfl,.inr (ah.of ai),rfl,rfl,_,rfl,?_⟩⟩
  have s2:=s1.trans (ak (o:=.tup (fQ.map V.str)) hpu)
  have D5:=s2 _ _ ht
  rcases hc with ⟨q,_⟩ | ⟨_,n2,y,l,vs,rfl,hl,hvs⟩ | ⟨_,n2,n3,y,x,rfl,hx⟩ | ⟨_,n2,n3,hk,hn⟩
  ·exact absurd q hz
  ·refine bO (fz (Qo n2)) ?_
   refine ⟨_,rfl,t,_,_,_,rfl,rfl,ah.of D5,aw (j:=2) rfl,?_⟩
   exact k l vs _ s2 (s2 _ _ hl) (hvs.kept s2.tups)
  ·refine bd (fz (Qi n2)) ?_
   refine ⟨_,rfl,t,_,_,_,rfl,rfl,ah.of D5,aw (j:=0) rfl,rfl,_,rfl,?_⟩
   refine bO (Qo (by rw [n3])) ?_
   refine ⟨_,rfl,t,_,_,_,rfl,rfl,ah.of D5,aw (j:=2) rfl,dh,fun p hp=>?_⟩
   have s3:=s2.trans (ak (o:=.tup [x]) hp)
   exact k p _ _ s3 ai (hx.kept s3.tups)
  ·refine bd (fz (Qi n2)) ?_
   refine ⟨_,rfl,t,_,_,_,rfl,rfl,ah.of D5,aw (j:=0) rfl,rfl,_,rfl,?_⟩
   refine bd (Qi fun q=>n3 (by injection q)) ?_
   refine ⟨_,rfl,_,rfl,t,_,rfl,ah.of D5,?_,fun p hp=>?_⟩
   ·rintro ⟨q,_⟩
    simp [HT.sIx] at q
   rw [lV]
   have s3:=s2.trans (ak (o:=.tup ys) hp)
   exact k p _ _ s3 ai (hk.kept s3.tups)
noncomputable def _root_.Mm.Tr.kw:Tr->Str
 | .set _ _ _ _=>"set"
 | .tell _ _ _=>"tell"
 | .iff _ _ _ _ _=>"if"
 | .whl _ _ _ _=>"while"
 | .give _ _ _=>"give"
 | .df _ _ _ _ _ _=>"def"
 | .kd _ _ _ _=>"kind"
noncomputable def _root_.Mm.Tr.ex:Tr->Option Ex
 | .set _ _ _ e=>some e
 | .tell _ _ e=>some e
 | .iff _ _ e _ _=>some e
 | .whl _ _ e _=>some e
 | .give _ _ e=>some e
 | .df _ _ _ _ _ _=>none
 | .kd _ _ _ _=>none
noncomputable def _root_.Mm.Tr.blocks:Tr->List (List Tr)
 | .iff _ _ _ b o=>[b,o]
 | .whl _ _ _ b=>[b]
 | .df _ _ _ _ _ b=>[b]
 | _=>[]
noncomputable def eJ:aP->Bool
 | .b _=>true
 | _=>false
theorem tT (t:Tr):t.parts.filter eJ=t.blocks.map aP.b:=by cases t<;>rfl
theorem A7 (t:Tr):t.cnt=1+(t.blocks.map cnts).sum:=by
 cases t<;>simp [Tr.cnt,Tr.blocks]
theorem tU {t:Tr} {e:Ex} (h:t.ex=some e):t.kw≠"def"/\t.kw≠"kind":=by cases t<;>first | (simp only [Tr.kw];decide +kernel) | cases h
theorem lW {H:Hp} {sh:Bool} {vs:List V} {t:Tr} (h:PsAt H sh vs t.parts):∃ (r:List V),vs=.str t.kw::.int ((t.row:Nat):Int)::r:=by
 have g:∃ ps,t.parts=.s t.kw::.i t.row::ps:=by cases t<;>exact ⟨_,rfl⟩
 obtain ⟨ps,e⟩:=g
 rw [e] at h
 obtain ⟨r,e2,_⟩:=fw h
 exact ⟨r,e2⟩
inductive tV (vs:List V) (H:Hp) (Q:VK) (E:XK):Prop
 | mk:∀ (v:V) (t:Tr) (e:Ex),vs=[v]->bz H true v t->t.ex=some e->(∀ x,bo H x e->Q x H)->tV vs H Q E
noncomputable abbrev A8:List Str:=["one"]
theorem tW:a7 A8 ["one"] (aL oo):=⟨rfl,rfl,rfl,by decide +kernel,rfl,by decide +kernel,by decide +kernel⟩
theorem A9 (T:All P w K mg AA DD):aF P w K mg base aG 1 AA.ZF DD.ZF ["one"] tV:=by
 refine T.F_ZF.ok tW (fun vs H Q E h=>?_) (fun Ds A outer s H vs Q E hr h=>?_)
 ·obtain ⟨v,t,e0,rfl,_⟩:=h
  rfl
 ·obtain ⟨v,t,e0,rfl,hS,F9,k⟩:=h
  have nd:=tW.nd
  obtain ⟨t0,vs,j,x,ev,ht,h0,hj,hx,hb⟩:∃ t0 vs j x,v=.ref t0/\H t0=some (.tup vs)/\vs[0]?=some (.str t.kw)/\vs[j]?=some x/\bo H x e0/\((t.kw="set"/\j=3)∨(t.kw≠"set"/\j=2)):=by
   cases t with
   | set m r n e=>cases F9;obtain ⟨t0,ve,e1,ht,hx⟩:=sX hS;exact ⟨t0,_,3,ve,e1,ht,rfl,rfl,hx,.inl ⟨rfl,rfl⟩⟩
   | tell m r e=>cases F9;obtain ⟨t0,ve,e1,ht,hx⟩:=AM hS;exact ⟨t0,_,2,ve,e1,ht,rfl,rfl,hx,.inr ⟨by show ("tell":Str)≠"set";decide,rfl⟩⟩
   | iff m r e b o=>cases F9;obtain ⟨t0,ve,_,_,_,_,e1,ht,hx,_⟩:=sY hS;exact ⟨t0,_,2,ve,e1,ht,rfl,rfl,hx,.inr ⟨by show ("if":Str)≠"set";decide,rfl⟩⟩
   | whl m r e b=>cases F9;obtain ⟨t0,ve,_,_,e1,ht,hx,_⟩:=sZ hS;exact ⟨t0,_,2,ve,e1,ht,rfl,rfl,hx,.inr ⟨by show ("while":Str)≠"set";decide,rfl⟩⟩
   | give m r e=>cases F9;obtain ⟨t0,ve,e1,ht,hx⟩:=AN hS;exact ⟨t0,_,2,ve,e1,ht,rfl,rfl,hx,.inr ⟨by show ("give":Str)≠"set";decide,rfl⟩⟩
   | df m r n k ps b=>cases F9
   | kd m r n ps=>cases F9
  subst ev
  refine ⟨_,(ao (aS (jm (aM bu (az (aN (K:=K) rfl) (pv 0) af (fun _ _=>rfl)) aI (aR _)) (az (aN (K:=K) rfl) (pv 0) af (fun _ _=>rfl)) (az (aN (K:=K) rfl) (pv 0) af (fun _ _=>rfl))))),?_⟩
  refine ⟨_,rfl,t0,_,_,_,rfl,rfl,ah.of ht,aw (j:=0) h0,rfl,_,rfl,?_⟩
  rcases hb with ⟨hw,e⟩ | ⟨hw,e⟩<;>subst e
  ·exact bO (Qo (by rw [hw])) ⟨_,rfl,t0,_,_,_,rfl,rfl,ah.of ht,aw (j:=3) hj,k _ hx⟩
  ·exact bd (Qi fun z=>hw (by injection z)) ⟨_,rfl,t0,_,_,_,rfl,rfl,ah.of ht,aw (j:=2) hj,k _ hx⟩
inductive tX (vs:List V) (H:Hp) (Q:VK) (E:XK):Prop
 | mk:∀ (v:V) (t:Tr),vs=[v]->bz H true v t->(∀ p ys H',Same H H'->H' p=some (.lst ys)->PsAt H' true ys (t.blocks.map aP.b)->Q (.ref p) H')->tX vs H Q E
noncomputable abbrev tY:List Str:=["one"]
theorem tZ:a7 tY ["one"] (aL lL):=⟨rfl,rfl,rfl,by decide +kernel,rfl,by decide +kernel,by decide +kernel⟩
theorem Ba (T:All P w K mg AA DD):aF P w K mg base aG 1 AA.Zv DD.Zv ["one"] tX:=by
 refine T.F_Zv.ok tZ (fun vs H Q E h=>?_) (fun Ds A outer s H vs Q E hr h=>?_)
 ·obtain ⟨v,t,rfl,_⟩:=h
  rfl
 ·obtain ⟨v,t,rfl,hS,k⟩:=h
  have nd:=tZ.nd
  refine ⟨_,(ao (aS (gP (aL lL) tY [] [] rfl (by exact ⟨rfl,rfl,by decide +kernel,rfl,by decide +kernel,by decide +kernel,by decide +kernel,rfl,by decide +kernel⟩) rfl rfl (im (pv 0)) (fun _ _ _ _=>kL (fW (cu (gZ (K:=K) (n:="list") rfl) rfl T.n_isinstance gO (aa (pv 0) (aa (gG (v:=.ty "list") rfl T.n_list kN rfl) ag))))) (fun _ _ _ _=>(pv 0))))),?_⟩
  cases hS with
  | @mk t0 xs _ ht DW =>
  refine ⟨_,rfl,t0,rfl,⟨_,ah.of ht⟩,?_⟩
  have Er:=t.parts_len
  have FV:=DW.length
  refine nk (K:=K) (a:=t0) (xs:=xs) (fun i ys H'=>H'=H/\i<=xs.length/\ys.length<=i/\PsAt H true ys ((t.parts.take i).filter eJ)) ⟨rfl,Qu _,Qu _,by simpa using PsAt.nil⟩ (fun i ys H' _ h=>by rw [h.1];exact ah.of ht) ?_ ?_
  ·rintro i x ys H1 hx ⟨rfl,hi,hy,DA⟩
   obtain ⟨p,hp,hP⟩:=DW.get hx
   have EB:=(Qc hx).1
   have DJ:i<t.parts.length:=by lia
   have Fw:(t.parts.take (i+1)).filter eJ=(t.parts.take i).filter eJ++[p].filter eJ:=by
    rw [Qm DJ,List.filter_append]
    rw [Qa DJ] at hp
    rw [Qq hp]
   rcases hP.isL (K:=K) with ⟨bs,l,zs,e1,e2,hl,hL,ty,kb⟩ | ⟨nb,ty0,ty,kb⟩
   ·subst e1 e2
    refine ⟨_,rfl,_,_,true,rfl,ty,kb,_,rfl,kK ?_⟩
    refine ⟨_,rfl,cH (by lia),rfl,by lia,by simp;lia,?_⟩
    rw [Fw]
    exact DA.snoc hP
   ·refine ⟨_,rfl,_,_,false,rfl,ty,kb,_,rfl,dX ?_⟩
    refine ⟨rfl,by lia,by lia,?_⟩
    rw [Fw]
    have:[p].filter eJ=[]:=by
     cases p with
     | b ts=>exact absurd rfl (nb ts)
     | s z=>rfl
     | i n=>rfl
     | e x=>rfl
     | p x=>rfl
    rw [this,QM]
    exact DA
  ·rintro ys H1 ⟨rfl,hi,hy,DA⟩ p hp
   rw [Qv (by lia),tT] at DA
   have s1:=ak (o:=.lst ys) hp
   exact k p ys _ s1 ai (DA.kept s1.ls)
noncomputable def _root_.Mm.Tr.hd:Tr->Option (Str × Str)
 | .df _ _ n _ _ _=>some ("def",n)
 | .kd _ _ n _=>some ("kind",n)
 | _=>none
noncomputable def eB (k:Str × Str) (ts:List Tr):Option Tr:=ts.find? fun t=>decide (t.hd=some k)
noncomputable def dA (k:Str × Str):List ae:=[.inr k.1,.inr k.2]
theorem Bb {a b:Str × Str} (h:dA a=dA b):a=b:=by
 simp [dA] at h
 exact Prod.ext h.1 h.2
noncomputable def iY:List Str:=["def","kind"]
theorem ua {H:Hp} {sh:Bool} {vs:List V} {t:Tr} (h:PsAt H sh vs t.parts):(t.kw∉iY/\t.hd=none)∨(t.kw∈iY/\∃ z r,t.hd=some (t.kw,z)/\vs=.str t.kw::.int ((t.row:Nat):Int)::.str z::r):=by
 have g:(t.kw∉iY/\t.hd=none)∨(t.kw∈iY/\∃ z ps,t.hd=some (t.kw,z)/\t.parts=.s t.kw::.i t.row::.s z::ps):=by
  cases t with
  | df m r n k ps b=>exact .inr ⟨by simp only [Tr.kw];decide +kernel,n,_,rfl,rfl⟩
  | kd m r n ps=>exact .inr ⟨by simp only [Tr.kw];decide +kernel,n,_,rfl,rfl⟩
  | _=>exact .inl ⟨by simp only [Tr.kw];decide +kernel,rfl⟩
 rcases g with g | ⟨g1,z,ps,g2,g3⟩
 ·exact .inl g
 ·rw [g3] at h
  obtain ⟨r,e,h⟩:=fw h
  obtain ⟨a,r',e',h1,h⟩:=cG h
  exact .inr ⟨g1,z,r',g2,by rw [e,e',iV h1]⟩
noncomputable def _root_.Mm.Tr.prs:Tr->List (Str × Str)
 | .df _ _ _ _ ps _=>ps
 | .kd _ _ _ ps=>ps
 | _=>[]
inductive ub (vs:List V) (H:Hp) (Q:VK) (E:XK):Prop
 | mk:∀ (v:V) (t:Tr),vs=[v]->bz H true v t->t.hd≠none->(∀ x,dw H x t.prs->Q x H)->ub vs H Q E
noncomputable abbrev Bc:List Str:=["one"]
theorem uc:a7 Bc ["one"] (aL om):=⟨rfl,rfl,rfl,by decide +kernel,rfl,by decide +kernel,by decide +kernel⟩
theorem Bd (T:All P w K mg AA DD):aF P w K mg base aG 1 AA.Zy DD.Zy ["one"] ub:=by
 refine T.F_Zy.ok uc (fun vs H Q E h=>?_) (fun Ds A outer s H vs Q E hr h=>?_)
 ·obtain ⟨v,t,rfl,_⟩:=h
  rfl
 ·obtain ⟨v,t,rfl,hS,hn,k⟩:=h
  have nd:=uc.nd
  obtain ⟨t0,vs,j,x,ev,ht,h0,hj,hp,hb⟩:∃ t0 vs j x,v=.ref t0/\H t0=some (.tup vs)/\vs[0]?=some (.str t.kw)/\vs[j]?=some x/\dw H x t.prs/\((t.kw="def"/\j=4)∨(t.kw≠"def"/\j=3)):=by
   cases t with
   | df m r n kd ps b=>obtain ⟨t0,vp,_,_,e1,ht,hp,_⟩:=oQ hS;exact ⟨t0,_,4,vp,e1,ht,rfl,rfl,hp,.inl ⟨rfl,rfl⟩⟩
   | kd m r n ps=>obtain ⟨t0,vp,e1,ht,hp⟩:=AO hS;exact ⟨t0,_,3,vp,e1,ht,rfl,rfl,hp,.inr ⟨by show ("kind":Str)≠"def";decide,rfl⟩⟩
   | _=>exact absurd rfl hn
  subst ev
  refine ⟨_,(ao (aS (jm (aM bu (az (aN (K:=K) rfl) (pv 0) af (fun _ _=>rfl)) aI (aR _)) (az (aN (K:=K) rfl) (pv 0) af (fun _ _=>rfl)) (az (aN (K:=K) rfl) (pv 0) af (fun _ _=>rfl))))),?_⟩
  refine ⟨_,rfl,t0,_,_,_,rfl,rfl,ah.of ht,aw (j:=0) h0,rfl,_,rfl,?_⟩
  rcases hb with ⟨hw,e⟩ | ⟨hw,e⟩<;>subst e
  ·exact bO (Qo (by rw [hw])) ⟨_,rfl,t0,_,_,_,rfl,rfl,ah.of ht,aw (j:=4) hj,k _ hp⟩
  ·exact bd (Qi fun z=>hw (by injection z)) ⟨_,rfl,t0,_,_,_,rfl,rfl,ah.of ht,aw (j:=3) hj,k _ hp⟩
def dI (H:Hp) (p:Addr) (ps:List (Nat × V)):Prop:=∃ ts:List Addr,H p=some (.lst (ts.map V.ref))/\ts.length=ps.length/\∀ (i:Nat) (t:Addr) (q:Nat × V),ts[i]?=some t->ps[i]?=some q->H t=some (.tup [.int ((q.1:Nat):Int),q.2])
theorem dI.kept {H H':Hp} {p:Addr} {ps:List (Nat × V)} (h:dI H p ps) (s:bI H H'):dI H' p ps:=by obtain ⟨ts,a,b,c⟩:=h;exact ⟨ts,s.2 _ _ a,b,fun i t k x y=>s.1 _ _ (c i t k x y)⟩
theorem dI.cat {H:Hp} {p q:Addr} {a b:List (Nat × V)} (ha:dI H p a) (hb:dI H q b):∃ xs ys,H p=some (.lst xs)/\H q=some (.lst ys)/\xs.length=a.length/\ys.length=b.length/\∀ l,H l=none->dI (upd H l (.lst (xs++ys))) l (a++b):=by
 obtain ⟨ts,a1,a2,a3⟩:=ha
 obtain ⟨us,b1,b2,b3⟩:=hb
 refine ⟨_,_,a1,b1,by simpa using a2,by simpa using b2,fun l hl=>⟨ts++us,by rw [ai,QQ],by simp [a2,b2],fun i t k x y=>?_⟩⟩
 have s:=ak (o:=.lst (ts.map V.ref++us.map V.ref)) hl
 by_cases hi:i<ts.length
 ·rw [Qp hi] at x
  rw [Qp (by lia)] at y
  exact s _ _ (a3 i t k x y)
 ·rw [Ql (by lia)] at x
  rw [Ql (by lia),<- a2] at y
  exact s _ _ (b3 _ t k x y)
noncomputable def orM:List (Nat × V)->Nat
 | []=>0
 | q::ps=>q.1 ||| orM ps
theorem Be (ps:List (Nat × V)) (q:Nat × V):orM (ps++[q])=orM ps ||| q.1:=by
 induction ps with
 | nil=>simp [orM]
 | cons a r ih=>rw [List.cons_append,orM,orM,ih,Nat.or_assoc]
theorem oY (ps:List (Nat × V)) (s:Nat):(orM ps).testBit s=ps.any fun q=>q.1.testBit s:=by
 induction ps with
 | nil=>simp [orM]
 | cons a r ih=>rw [orM,Nat.testBit_or,ih];rfl
inductive ud (vs:List V) (H:Hp) (Q:VK) (E:XK):Prop
 | mk:∀ (p:Addr) (ps:List (Nat × V)),vs=[.ref p]->dI H p ps->Q (.int ((orM ps:Nat):Int)) H->ud vs H Q E
noncomputable abbrev Bf:List Str:=["pairs","found","mask","value"]
theorem ue:a7 Bf ["pairs"] (aL oh):=⟨rfl,rfl,rfl,by decide +kernel,rfl,by decide +kernel,by decide +kernel⟩
theorem uf (T:All P w K mg AA DD):aF P w K mg base aG 1 AA.ZJ DD.ZJ ["pairs"] ud:=by
 refine T.F_ZJ.ok ue (fun vs H Q E h=>?_) (fun Ds A outer s H vs Q E hr h=>?_)
 ·obtain ⟨l,ps,rfl,_⟩:=h
  rfl
 ·obtain ⟨l,ps,rfl,⟨ts,hl,htl,E8⟩,k⟩:=h
  have nd:=ue.nd
  refine ⟨_,(aA (aY (i:=1) nd rfl (Or.inl rfl) af) (aA (dU PassesOwn.never rfl (dC (pv 0)) (eK rfl (br (a9 (i:=2) nd rfl (Or.inl rfl)) (br (a9 (i:=3) nd rfl (Or.inl rfl)) dm))) (ao (aY (i:=1) nd rfl (Or.inl rfl) (am qc (pv 1) (pv 2)))) (by intro _;rfl)) (ao (aS (pv 1))))),?_⟩
  refine nl ?_
  dsimp only [aW]
  refine gl (fun σ' H'=>H'=H/\∃ s2 s3:Option V,σ'=[some (.ref l),some (.int ((orM ps:Nat):Int)),s2,s3]) (fun R hRR=>?_) ?_
  ·refine ⟨_,rfl,l,rfl,⟨_,aj.of hl⟩,?_⟩
   refine fY (K:=K) (a:=l) (xs:=ts.map V.ref) (fun i σ' H'=>H'=H/\∃ s2 s3:Option V,σ'=[some (.ref l),some (.int ((orM (ps.take i):Nat):Int)),s2,s3]) ⟨rfl,none,none,rfl⟩ (fun i σ' H' _ hsl58=>by obtain ⟨e,_⟩:=hsl58;rw [e];exact aj.of hl) ?_ ?_
   ·rintro i x σ' H1 hx ⟨rfl,s2,s3,rfl⟩
    have hi:i<ts.length:=by
     have:=(Qc hx).1
     rw [Qd] at this;exact this
    have hik:i<ps.length:=by lia
    have ex:x=V.ref ts[i]:=by rw [Qr,Qa hi] at hx;exact (Qq hx).symm
    subst ex
    have ht:=E8 i ts[i] ps[i] (Qa hi) (Qa hik)
    refine ⟨ts[i],_,rfl,ah.of ht,rfl,_,_,rfl,_,_,rfl,rfl,?_⟩
    refine ⟨_,rfl,_,rfl,_,_,rfl,rfl,rfl,some (.int ((ps[i].1:Nat):Int)),some ps[i].2,?_⟩
    rw [Qm hik,Be,<- m6]
    rfl
   ·rintro σ' H1 ⟨rfl,s2,s3,rfl⟩
    refine hRR _ _ ⟨rfl,s2,s3,?_⟩
    rw [Qd,htl,List.take_length]
  ·rintro σ' H1 ⟨rfl,s2,s3,rfl⟩
   exact ⟨_,rfl,k⟩
noncomputable def eC (ps:List (Nat × V)) (m:Nat):List (Nat × V):=(ps.filter fun p=>!decide (p.1 &&& m=0)).map fun p=>(p.1 &&& m,p.2)
theorem ug (ps:List (Nat × V)) (p:Nat × V) (m:Nat):eC (ps++[p]) m=if p.1 &&& m=0 then eC ps m else eC ps m++[(p.1 &&& m,p.2)]:=by
 unfold eC
 rw [List.filter_append,QQ]
 by_cases h:p.1 &&& m=0
 ·rw [if_pos h];simp [h]
 ·rw [if_neg h];simp [h]
theorem Bg (ps:List (Nat × V)) (m:Nat):(eC ps m).length<=ps.length:=by
 unfold eC
 rw [Qd]
 exact List.length_filter_le _ _
inductive uh (vs:List V) (H:Hp) (Q:VK) (E:XK):Prop
 | mk:∀ (p:Addr) (ps:List (Nat × V)) (m:Nat),vs=[.ref p,.int ((m:Nat):Int)]->dI H p ps->ps.length<=200->(∀ q H',Same H H'->dI H' q (eC ps m)->Q (.ref q) H')->uh vs H Q E
noncomputable abbrev ui:List Str:=["pairs","mask"]
theorem uj:a7 ui ["pairs","mask"] (aL lF):=⟨rfl,rfl,rfl,by decide +kernel,rfl,by decide +kernel,by decide +kernel⟩
theorem uk (T:All P w K mg AA DD):aF P w K mg base aG 1 AA.Zo DD.Zo ["pairs","mask"] uh:=by
 refine T.F_Zo.ok uj (fun vs H Q E h=>?_) (fun Ds A outer s H vs Q E hr h=>?_)
 ·obtain ⟨p,ks,m,rfl,_⟩:=h
  rfl
 ·obtain ⟨p,ks,m,rfl,⟨ts,hp,htl,E8⟩,D2,k⟩:=h
  have nd:=uj.nd
  refine ⟨_,(ao (aS (kR (xs:=["there","value"]) (aL lF) ui ["mask"] [1] rfl (by exact ⟨rfl,rfl,by decide +kernel,by decide +kernel,by decide +kernel,by decide +kernel,by decide +kernel,rfl,by decide +kernel⟩) rfl rfl (dC (pv 0)) (fun _ _ _ _=>(jG (K:=K) (n:=2) rfl rfl (br (a9 (i:=0) (show (["there","value","mask"]:List Str).Nodup by decide +kernel) rfl (Or.inl rfl)) (br (a9 (i:=1) (show (["there","value","mask"]:List Str).Nodup by decide +kernel) rfl (Or.inl rfl)) dm)))) (fun _ _ _ _=>kL (aM fZ (am eh (pv 0) (pv 2)) af (aR _))) (fun _ _ _ _=>(aV (aa (am eh (pv 0) (pv 2)) (aa (pv 1) ag))))))),?_⟩
  refine ⟨_,rfl,p,rfl,⟨_,aj.of hp⟩,?_⟩
  refine np (K:=K) (a:=p) (xs:=ts.map V.ref) (fun i ys H'=>Same H H'/\i<=200/\∃ us:List Addr,ys=us.map V.ref/\us.length=(eC (ks.take i) m).length/\∀ (j:Nat) (t:Addr) (q:Nat × V),us[j]?=some t->(eC (ks.take i) m)[j]?=some q->H' t=some (.tup [.int ((q.1:Nat):Int),q.2]))
   ⟨Same.refl _,Qu _,[],rfl,rfl,fun j t q h=>by simp at h⟩ (fun i ys H' _ hsl59=>by obtain ⟨e,_⟩:=hsl59;exact aj.of (e _ _ hp)) ?_ ?_
  ·rintro i x ys H1 hx ⟨sm,_,us,rfl,DZ,DY⟩
   have hi:i<ts.length:=by
    have:=(Qc hx).1
    rw [Qd] at this;exact this
   have hik:i<ks.length:=by lia
   have ex:x=V.ref ts[i]:=by rw [Qr,Qa hi] at hx;exact (Qq hx).symm
   subst ex
   have hT1:=sm _ _ (E8 i ts[i] ks[i] (Qa hi) (Qa hik))
   have hkl2:=Bg (ks.take i) m
   rw [QD] at hkl2
   rw [Qm hik,ug]
   generalize ks[i]=q0 at hT1 ⊢
   intro os Es
   obtain ⟨a,b,rfl⟩:=jU Es
   refine ⟨ts[i],_,rfl,ah.of hT1,rfl,_,_,rfl,_,_,rfl,rfl,⟨[_,_],rfl,rfl⟩,?_⟩
   refine ⟨_,rfl,_,rfl,_,_,rfl,rfl,rfl,_,rfl,?_⟩
   have hb:Builtin.bitAnd ((q0.1:Nat):Int) ((m:Nat):Int)=((q0.1 &&& m:Nat):Int):=fO _ _
   by_cases h0:q0.1 &&& m=0
   ·rw [if_pos h0]
    refine bd (by
     show (!decide (V.int (Builtin.bitAnd ((q0.1:Nat):Int) ((m:Nat):Int))=V.int 0))=false
     rw [hb,h0];rfl) ?_
    exact ⟨sm,by lia,us,rfl,DZ,DY⟩
   ·rw [if_neg h0]
    refine bO (by
     show (!decide (V.int (Builtin.bitAnd ((q0.1:Nat):Int) ((m:Nat):Int))=V.int 0))=true
     rw [hb,Qi (fun z=>h0 (by injection z with z;lia))];rfl) ?_
    refine ⟨_,rfl,_,rfl,_,_,rfl,rfl,_,rfl,bL,fun t2 D5=>?_⟩
    dsimp only
    rw [hb]
    have s5:=ak (o:=.tup [V.int ((q0.1 &&& m:Nat):Int),q0.2]) D5
    refine ⟨by rw [Qd];exact cH (by lia),sm.trans s5,by lia,us++[t2],by simp,by simp [DZ],fun j t' q e1 e2=>?_⟩
    by_cases hj:j<us.length
    ·rw [Qp hj] at e1
     rw [Qp (by lia)] at e2
     exact s5 _ _ (DY j t' q e1 e2)
    ·have hjl:=(Qc e1).1
     rw [QK,List.length_singleton] at hjl
     have ej:j=us.length:=by lia
     subst ej
     rw [Ql (Qf _),Nat.sub_self] at e1
     rw [DZ,Ql (Qf _),Nat.sub_self] at e2
     have q1:t2=t':=by simpa using e1
     have q2:(q0.1 &&& m,q0.2)=q:=by simpa using e2
     subst q1 q2
     exact ai
  ·rintro ys H1 ⟨sm,_,us,rfl,DZ,DY⟩ q hq
   have sq:=ak (o:=.lst (us.map V.ref)) hq
   rw [Qd,htl,List.take_length] at DZ DY
   exact k q _ (sm.trans sq) ⟨us,ai,DZ,fun i t k' x y=>sq _ _ (DY i t k' x y)⟩
abbrev cI:=Nat × V × Tr
noncomputable def be (ps:List cI):List (Nat × V):=ps.map fun q=>(q.1,q.2.1)
structure d5 (H:Hp) (o:Option V) (k:Str × Str) (tt:Nat->List Tr) (n:Nat) (ps:List cI):Prop where
 at_:(o=none/\ps=[])∨∃ p,o=some (.ref p)/\dI H p (be ps)
 ok:∀ q∈ps,bK q.1/\bz H true q.2.1 q.2.2/\q.2.2.hd=some k
 len:ps.length<=n
 fst:∀ s,eB k (tt s)=(ps.find? fun q=>q.1.testBit s).map fun q=>au s q.2.2
 uni:∀ s,∀ q∈ps,q.1.testBit s=true->(ps.find? fun q=>q.1.testBit s)=some q
def d6 (H:Hp) (F:List (List ae × V)) (tt:Nat->List Tr) (n:Nat):Prop:=∀ k:Str × Str,∃ ps,d5 H (bv F (dA k)) k tt n ps
theorem d5.kept {H H':Hp} {o:Option V} {k:Str × Str} {tt:Nat->List Tr} {n:Nat} {ps:List cI} (h:d5 H o k tt n ps) (s:bI H H'):d5 H' o k tt n ps :=
 ⟨h.at_.imp_right fun hsl60=>by obtain ⟨p,a,b⟩:=hsl60;exact ⟨p,a,b.kept s⟩,fun q hq=>by obtain ⟨a,b,c⟩:=h.ok q hq;exact ⟨a,b.kept s,c⟩,h.len,h.fst,h.uni⟩
theorem d6.kept {H H':Hp} {F:List (List ae × V)} {tt:Nat->List Tr} {n:Nat} (h:d6 H F tt n) (s:bI H H'):d6 H' F tt n:=fun k=>by obtain ⟨ps,q⟩:=h k;exact ⟨ps,q.kept s⟩
theorem ul (k:Str × Str) (a b:List Tr):eB k (a++b)=(eB k a).or (eB k b):=by
 unfold eB
 rw [List.find?_append]
theorem lX (s:Nat) (t:Tr):(au s t).hd=t.hd:=by cases t<;>simp [au,Tr.hd]
theorem um (s:Nat) (t:Tr):(au s t).prs=t.prs:=by cases t<;>simp [au,Tr.prs]
theorem uo (k:Str × Str) (s:Nat) (t:Tr):eB k (cutM s [t])=if t.mask.testBit s=true/\t.hd=some k then some (au s t) else none:=by
 rw [jR]
 by_cases h1:t.mask.testBit s=true
 ·rw [if_pos h1]
  unfold eB
  rw [List.find?_cons,lX]
  by_cases h2:t.hd=some k
  ·rw [if_pos ⟨h1,h2⟩,Qo h2]
  ·rw [if_neg (fun z=>h2 z.2),Qi h2];rfl
 ·rw [if_neg h1,if_neg (fun z=>h1 z.1)];rfl
theorem d5.other {H:Hp} {o:Option V} {k:Str × Str} {ts:List Tr} {n i:Nat} {t:Tr} {ps:List cI} (h:d5 H o k (fun s=>cutM s (ts.take i)) n ps) (ht:ts[i]?=some t) (hk:t.hd≠some k):d5 H o k (fun s=>cutM s (ts.take (i+1))) n ps:=by
 refine ⟨h.at_,h.ok,h.len,fun s=>?_,h.uni⟩
 obtain ⟨hi,e⟩:=Qc ht
 show eB k (cutM s (ts.take (i+1)))=_
 rw [Qm hi,e,gU,ul,uo,if_neg (fun z=>hk z.2),Option.or_none]
 exact h.fst s
theorem uq (m o:Nat):m &&& (m ^^^ (m &&& o))=m ^^^ (m &&& o):=by
 refine Nat.eq_of_testBit_eq fun i=>?_
 simp only [Nat.testBit_and,Nat.testBit_xor]
 cases m.testBit i<;>cases o.testBit i<;>rfl
theorem j0 (m o s:Nat):(m ^^^ (m &&& o)).testBit s=(m.testBit s&&!o.testBit s):=by
 simp only [Nat.testBit_and,Nat.testBit_xor]
 cases m.testBit s<;>cases o.testBit s<;>rfl
theorem lY {m o:Nat} (h:m<256):m ^^^ (m &&& o)<256:=by
 rw [<- uq];exact QN Nat.and_le_left h
theorem Bh {k:Str × Str} {ts:List Tr} {i:Nat} {t:Tr} {v:V} {ps:List cI} (hf:∀ s,eB k (cutM s (ts.take i))=(ps.find? fun q=>q.1.testBit s).map fun q=>au s q.2.2) (ht:ts[i]?=some t) (hk:t.hd=some k) (s:Nat) :
  eB k (cutM s (ts.take (i+1)))=((ps++(if t.mask ^^^ (t.mask &&& orM (be ps))=0 then [] else [(t.mask ^^^ (t.mask &&& orM (be ps)),v,t)])).find? fun q=>q.1.testBit s).map fun q=>au s q.2.2:=by
 obtain ⟨hi,e⟩:=Qc ht
 rw [Qm hi,e,gU,ul,uo,hf s,List.find?_append]
 have hob:(orM (be ps)).testBit s=ps.any fun q=>q.1.testBit s:=by
  rw [oY];unfold be;rw [List.any_map];rfl
 cases hfd:ps.find? fun q=>q.1.testBit s with
 | some q=>rfl
 | none =>
  have hno:(orM (be ps)).testBit s=false:=by
   rw [hob,List.any_eq_false]
   intro q hq
   have:=List.find?_eq_none.mp hfd q hq
   simpa using this
  have hwb:=j0 t.mask (orM (be ps)) s
  rw [hno,Bool.not_false,Bool.and_true] at hwb
  by_cases hb:t.mask.testBit s=true
  ·rw [if_pos ⟨hb,hk⟩,if_neg (fun z=>by rw [z,Nat.zero_testBit] at hwb;rw [<- hwb] at hb;cases hb)]
   rw [List.find?_cons]
   dsimp only
   rw [hwb,hb];rfl
  ·rw [if_neg (fun z=>hb z.1)]
   split
   ·rfl
   ·rw [List.find?_cons]
    dsimp only
    rw [hwb]
    cases hq:t.mask.testBit s with
    | true=>exact absurd hq hb
    | false=>rfl
theorem Bi {ps:List cI} {m:Nat} {v:V} {t:Tr} (hu:∀ s,∀ q∈ps,q.1.testBit s=true->(ps.find? fun q=>q.1.testBit s)=some q) (s:Nat) :
  ∀ q∈ps++(if m ^^^ (m &&& orM (be ps))=0 then [] else [(m ^^^ (m &&& orM (be ps)),v,t)]),q.1.testBit s=true->((ps++(if m ^^^ (m &&& orM (be ps))=0 then [] else [(m ^^^ (m &&& orM (be ps)),v,t)])).find? fun q=>q.1.testBit s)=some q:=by
 intro q hq hb
 rw [List.find?_append]
 rcases Qw hq with hq | hq
 ·rw [hu s q hq hb];rfl
 ·split at hq
  ·simp at hq
  ·rename_i h0
   rw [Qt hq] at hb ⊢
   have hwb:=j0 m (orM (be ps)) s
   dsimp only at hb
   rw [hb] at hwb
   have hno:(orM (be ps)).testBit s=false:=by
    cases e:(orM (be ps)).testBit s with
    | false=>rfl
    | true=>rw [e,Bool.not_true,Bool.and_false] at hwb;cases hwb
   have hob:(orM (be ps)).testBit s=ps.any fun q=>q.1.testBit s:=by
    rw [oY];unfold be;rw [List.any_map];rfl
   have hfd:(ps.find? fun q=>q.1.testBit s)=none:=List.find?_eq_none.mpr fun q hq=>by
    rw [hob,List.any_eq_false] at hno
    exact hno q hq
   rw [hfd,if_neg h0,List.find?_cons]
   dsimp only
   rw [hb];rfl
inductive ur (vs:List V) (H:Hp) (Q:VK) (E:XK):Prop
 | mk:∀ (l:Addr) (xs:List V) (ts:List Tr),vs=[.ref l]->H l=some (.lst xs)->LAt H true xs ts->ts.length<=50->(∀ t∈ts,bK t.mask)->(∀ d F H',Same H H'->H' d=some (.dT F)->d6 H' F (fun s=>cutM s ts) ts.length->Q (.ref d) H')->ur vs H Q E
noncomputable abbrev Bj:List Str:=["tree","found","mask","one","key","rows"]
theorem ut:a7 Bj ["tree"] (aL ol):=⟨rfl,rfl,rfl,by decide +kernel,rfl,by decide +kernel,by decide +kernel⟩
theorem Bl (T:All P w K mg AA DD):aF P w K mg base aG 2 AA.Zq DD.Zq ["tree"] ur:=by
 have GA:=uf (base:=base) T
 have GN:=lU (base:=base) T
 have GB:=uk (base:=base) T
 refine T.F_Zq.ok ut (fun vs H Q E h=>?_) (fun Ds A outer s H vs Q E hr h=>?_)
 ·obtain ⟨l,xs,ts,rfl,_⟩:=h
  rfl
 ·obtain ⟨l,xs,ts,rfl,hl,hL,h50,hom,kq⟩:=h
  have nd:=ut.nd
  have Dw:ay 1 _:=hr
  have hu:=QN (Nat.add_le_add_left (show 1<=64 by decide) _) hr.units
  refine ⟨_,(aA (aY (i:=1) nd rfl (Or.inl rfl) (rA)) (aA (dU PassesOwn.never rfl (dC (pv 0)) (eK rfl (br (a9 (i:=2) nd rfl (Or.inl rfl)) (br (a9 (i:=3) nd rfl (Or.inl rfl)) dm))) (ao (aX (aM (jP (K:=K) rfl) (az (aN (K:=K) rfl) (pv 3) af (fun _ _=>rfl)) (aV (aa aI (aa aI ag))) rfl) (aA (aY (i:=4) nd rfl (Or.inl rfl) (aV (aa (az (aN (K:=K) rfl) (pv 3) af (fun _ _=>rfl)) (aa (az (aN (K:=K) rfl) (pv 3) af (fun _ _=>rfl)) ag)))) (aA (aY (i:=5) nd rfl (Or.inl rfl) (iD hu (pv 1) (pv 4) (bW ag) ⟨by rfl,by rfl,by rfl,by rfl⟩)) (ao (rp hu (pv 1) (pv 4) (am qN (pv 5) (aK GB Dw rfl T.m_Zo T.k_Zo T.b_Zo .nil aD (aa (bW (aa (aV (aa (pv 2) (aa (pv 3) ag))) ag)) (aa (aK GN Dw rfl T.m_ZE T.k_ZE T.b_ZE .nil aD (aa (pv 2) (aa (aK GA Dw rfl T.m_ZJ T.k_ZJ T.b_ZJ .nil aD (aa (pv 5) ag)) ag))) ag)))) rfl)))) bi)) (by intro _;rfl)) (ao (aS (pv 1))))),?_⟩
  refine fun d hd=>?_
  have s1:=ak (o:=.dT []) hd
  dsimp only [aW]
  have FV:=hL.length
  have FC:∀ {H':Hp} {F},H' d=some (.dT F)->∀ F',bI H' (upd H' d (.dT F')):=fun h F'=>jZ h (fun _ z=>nomatch z) (fun _ z=>nomatch z) fun _ _ z=>nomatch z
  refine gl (fun σ' H'=>(∃ F,H' d=some (.dT F)/\d6 H' F (fun s=>cutM s ts) ts.length)/\(∀ a,a≠d->∀ o,H a=some o->H' a=some o)/\∃ x2 x3 x4 x5,σ'=[some (.ref l),some (.ref d),x2,x3,x4,x5]) (fun R hR=>?_) ?_
  ·refine ⟨_,rfl,l,rfl,⟨_,aj.of (s1 _ _ hl)⟩,?_⟩
   refine fY (K:=K) (a:=l) (xs:=xs) (fun i σ' H'=>(∃ F,H' d=some (.dT F)/\d6 H' F (fun s=>cutM s (ts.take i)) i/\F.length<=i)/\(∀ a,a≠d->∀ o,H a=some o->H' a=some o)/\∃ x2 x3 x4 x5,σ'=[some (.ref l),some (.ref d),x2,x3,x4,x5]) ⟨⟨[],ai,fun k=>⟨[],.inl ⟨rfl,rfl⟩,fun q hq=>by simp at hq,Qf _,fun s=>by rw [List.take_zero,cutM];rfl,fun s q hq=>by simp at hq⟩,Qf _⟩,fun a ha o h=>by rw [al ha];exact h,_,_,_,_,rfl⟩ (fun i σ' H' _ h=>aj.of (h.2.1 _ (fun z=>by rw [z] at hl;rw [hl] at hd;cases hd) _ hl)) ?_ ?_
   ·rintro i x σ' H1 hx ⟨⟨F,hF,hFs,hFl⟩,sm,x2,x3,x4,x5,rfl⟩
    obtain ⟨t,ht,hO⟩:=hL.get hx
    have DJ:i<xs.length:=(Qc hx).1
    have Ez:=hom t (Qh ht)
    have ls1:bI H H1:=⟨fun b xs h=>sm b (fun z=>by rw [z,hd] at h;cases h) _ h,fun b xs h=>sm b (fun z=>by rw [z,hd] at h;cases h) _ h,fun b o x h=>sm b (fun z=>by rw [z,hd] at h;cases h) _ h,fun b x h=>sm b (fun z=>by rw [z,hd] at h;cases h) _ h⟩
    have hO1:=hO.kept ls1
    cases hO1 with
    | plain e _=>cases e
    | @shared p y _ _ hp hS =>
    have Gy:=hS
    cases hS with
    | @mk t0 vs _ DP DW =>
    have hda:=ua DW
    obtain ⟨vr,rfl⟩:=lW DW
    refine ⟨p,_,rfl,ah.of hp,rfl,_,_,rfl,_,_,rfl,rfl,?_⟩
    refine ⟨_,rfl,t0,_,_,_,rfl,rfl,ah.of DP,aw (j:=0) rfl,bL,fun pt Ga=>⟨pt,iY.map V.str,rfl,.inr (ah.of ai),rfl,rfl,_,rfl,?_⟩⟩
    have s2:=ak (o:=.tup [V.str "def",V.str "kind"]) Ga
    rcases hda with ⟨hh,hn⟩ | ⟨hh,z,r,hz,ev⟩
    ·refine bd (fz (Qi hh)) ?_
     refine ⟨⟨F,s2 _ _ hF,fun k=>?_,by lia⟩,fun a ha o h=>s2 _ _ (sm a ha o h),_,_,_,_,rfl⟩
     obtain ⟨ps,q⟩:=hFs k
     have q2:=(q.kept s2.ls).other ht (by rw [hn];exact fun z=>nomatch z)
     exact ⟨ps,q2.at_,q2.ok,by have:=q2.len;lia,q2.fst,q2.uni⟩
    ·refine bO (fz (Qo hh)) ?_
     have ev2:vr=.str z::r:=by injection ev with _ q;injection q
     subst ev2
     have D5:=s2 _ _ DP
     have hF2:=s2 _ _ hF
     have hFs2:=hFs.kept s2.ls
     have sm2:∀ a,a≠d->∀ o,H a=some o->upd H1 pt (.tup [V.str "def",V.str "kind"]) a=some o:=fun a ha o h=>s2 _ _ (sm a ha o h)
     have hS2:=Gy.kept s2.ls
     generalize upd H1 pt (.tup [V.str "def",V.str "kind"])=H2 at D5 hF2 hFs2 sm2 hS2 ⊢
     refine ⟨_,rfl,t0,_,_,_,rfl,rfl,ah.of D5,aw (j:=0) rfl,_,rfl,t0,_,_,_,rfl,rfl,ah.of D5,aw (j:=2) rfl,bL,fun q hq=>?_⟩
     have s3:=ak (o:=.tup [.str t.kw,.str z]) hq
     dsimp only [aW]
     refine ⟨_,rfl,d,rfl,.inr ⟨F,.inl (s3 _ _ hF2)⟩,_,rfl,eI,fun q2 DN=>?_⟩
     have s4:=ak (o:=.lst []) DN
     have Gr:=s3.trans s4
     have Ea:upd (upd H2 q (.tup [.str t.kw,.str z])) q2 (.lst []) q=some (.tup ((dA (t.kw,z)).map kV)):=s4 _ _ ai
     refine ⟨_,cv.t (k:=dA (t.kw,z)) (Gr _ _ hF2) Ea,?_⟩
     obtain ⟨ps,hK⟩:=hFs2 (t.kw,z)
     obtain ⟨l3,el3,hl3⟩:∃ l3,(bv F (dA (t.kw,z))).getD (V.ref q2)=.ref l3/\dI (upd (upd H2 q (.tup [.str t.kw,.str z])) q2 (.lst [])) l3 (be ps):=by
      rcases hK.at_ with ⟨a,b⟩ | ⟨p',a,b⟩
      ·exact ⟨q2,by rw [a];rfl,by rw [b];exact ⟨[],ai,rfl,fun i t k x=>by simp at x⟩⟩
      ·exact ⟨p',by rw [a];rfl,b.kept Gr.ls⟩
     rw [el3]
     have hF4:=Gr _ _ hF2
     have ht4:=Gr _ _ D5
     have hS4:=hS2.kept Gr.ls
     have hFs4:=hFs2.kept Gr.ls
     have hK4:=hK.kept Gr.ls
     have sm4:∀ a,a≠d->∀ o,H a=some o->upd (upd H2 q (.tup [.str t.kw,.str z])) q2 (.lst []) a=some o:=fun a ha o h=>Gr _ _ (sm2 a ha o h)
     generalize upd (upd H2 q (.tup [.str t.kw,.str z])) q2 (.lst [])=H4 at Ea hl3 hF4 ht4 hS4 hFs4 sm4 hK4 ⊢
     dsimp only [aW]
     refine ⟨_,rfl,_,rfl,_,rfl,bL,fun tp htp=>⟨dh,fun lp hlp=>?_⟩⟩
     have s5:=ak (o:=.tup [.int ((t.mask:Nat):Int),.ref t0]) htp
     have s6:=ak (o:=.lst [.ref tp]) hlp
     have D0:=s5.trans s6
     have hlp6:dI (upd (upd H4 tp (.tup [.int ((t.mask:Nat):Int),.ref t0])) lp (.lst [.ref tp])) lp [(t.mask,.ref t0)]:=⟨[tp],ai,rfl,fun i t' k x y=>by
      match i with
      | 0=>cases (show some tp=some t' from x);cases (show some (t.mask,V.ref t0)=some k from y);exact s6 _ _ ai
      | i+1=>simp at x⟩
     have hl6:=hl3.kept D0.ls
     have hF6:=D0 _ _ hF4
     have hS6:=hS4.kept D0.ls
     have hFs6:=hFs4.kept D0.ls
     have hK6:=hK4.kept D0.ls
     have hkk6:=D0 _ _ Ea
     have sm6:∀ a,a≠d->∀ o,H a=some o->upd (upd H4 tp (.tup [.int ((t.mask:Nat):Int),.ref t0])) lp (.lst [.ref tp]) a=some o:=fun a ha o h=>D0 _ _ (sm4 a ha o h)
     generalize upd (upd H4 tp (.tup [.int ((t.mask:Nat):Int),.ref t0])) lp (.lst [.ref tp])=H6 at hlp6 hl6 hF6 hS6 hFs6 hK6 hkk6 sm6 ⊢
     refine ⟨_,rfl,_,rfl,l3,be ps,rfl,hl6,?_⟩
     refine ⟨t.mask,orM (be ps),rfl,?_⟩
     generalize hm:(t.mask ^^^ (t.mask &&& orM (be ps)):Nat)=m
     refine ⟨lp,[(t.mask,.ref t0)],m,rfl,hlp6,by simp,fun p3 H7 s7 hK7=>?_⟩
     have ekp:eC [(t.mask,V.ref t0)] m=if m=0 then [] else [(m,V.ref t0)]:=by
      have e1:t.mask &&& m=m:=by rw [<- hm];exact uq _ _
      have:=ug [] (t.mask,V.ref t0) m
      rw [List.nil_append] at this
      rw [this]
      dsimp only
      rw [e1];rfl
     rw [ekp] at hK7
     obtain ⟨xs1,ys1,h1,h2,h3,h4,h5⟩:=(hl6.kept s7.ls).cat hK7
     have Er:=hK.len
     have epr:be ps++(if m=0 then [] else [(m,V.ref t0)])=be (ps++(if m=0 then [] else [(m,V.ref t0,t)])):=by
      unfold be
      rw [QQ]
      split<;>rfl
     have hnl:(if m=0 then ([]:List cI) else [(m,V.ref t0,t)]).length<=1:=by split<;>simp
     have h3':xs1.length=ps.length:=by rw [h3];unfold be;rw [Qd]
     have h4':ys1.length<=1:=by rw [h4];split<;>simp
     refine ⟨l3,p3,xs1,ys1,rfl,rfl,h1,h2,QY (cH (by lia)),fun l8 hl8=>?_⟩
     have hK8:=h5 l8 hl8
     rw [epr] at hK8
     have s8:=ak (o:=.lst (xs1++ys1)) hl8
     have s78:=s7.trans s8
     have hF8:=s78 _ _ hF6
     have hFs8:=hFs6.kept s78.ls
     have hK9:=hK6.kept s78.ls
     have hS8:=hS6.kept s78.ls
     have lsd:=FC hF8 (b8 F (dA (t.kw,z)) (.ref l8))
     refine ⟨_,rfl,_,rfl,d,_,rfl,eV.t hF8 (s78 _ _ hkk6) (cH (by lia)),⟨_,ai,fun k=>?_,?_⟩,fun a ha o h=>by rw [al ha];exact s78 _ _ (sm6 a ha o h),_,_,_,_,rfl⟩
     ·rw [kT]
      by_cases hk:k=(t.kw,z)
      ·subst hk
       rw [if_pos rfl]
       refine ⟨ps++(if m=0 then [] else [(m,V.ref t0,t)]),.inr ⟨l8,rfl,hK8.kept lsd⟩,fun q hq=>?_,by rw [QK];lia,fun s=>?_,fun s=>?_⟩
       ·rcases Qw hq with hq | hq
        ·obtain ⟨a,b,c⟩:=hK9.ok q hq
         exact ⟨a,b.kept lsd,c⟩
        ·split at hq
         ·simp at hq
         ·rename_i hm0
          rw [Qt hq]
          exact ⟨⟨Nat.pos_of_ne_zero hm0,by rw [<- hm];exact lY Ez.2⟩,hS8.kept lsd,hz⟩
       ·rw [<- hm]
        exact Bh (v:=V.ref t0) hK.fst ht hz s
       ·rw [<- hm]
        exact Bi (v:=V.ref t0) hK.uni s
      ·rw [if_neg (fun q=>hk (Bb q))]
       obtain ⟨ps',q'⟩:=hFs8 k
       have q2:=(q'.kept lsd).other ht (by rw [hz];exact fun e=>hk (by injection e with e;exact e.symm))
       exact ⟨ps',q2.at_,q2.ok,by have:=q2.len;lia,q2.fst,q2.uni⟩
     ·have:=jC F (dA (t.kw,z)) (V.ref l8);lia
   ·rintro σ' H1 ⟨⟨F,a,b,_⟩,sm,x2,x3,x4,x5,rfl⟩
    rw [Qv (by lia),FV] at b
    exact hR _ _ ⟨⟨F,a,b⟩,sm,_,_,_,_,rfl⟩
  ·rintro σ' H1 ⟨⟨F,a,b⟩,sm,x2,x3,x4,x5,rfl⟩
   refine ⟨_,rfl,kq d F _ (fun b o h=>sm b (fun z=>by rw [z,hd] at h;cases h) o h) a b⟩
noncomputable def k3 (r:Nat) (a z:Str):List ae:=[.inl ((r:Nat):Int),.inr a,.inr z]
noncomputable def lZ (fs:List (List ae)) (k:List ae):List (List ae):=if (fs.any fun d=>decide (d=k))=true then fs else fs++[k]
theorem Bm {fs:List (List ae)} {c k:List ae}:k∈lZ fs c↔k∈fs∨k=c:=by
 unfold lZ
 split
 ·rename_i h
  obtain ⟨d,hd,e⟩:=List.any_eq_true.mp h
  have e:=QS e
  subst e
  exact ⟨.inl,fun q=>q.elim id fun z=>by rw [z];exact hd⟩
 ·simp
noncomputable def cj (fs ks:List (List ae)):List (List ae):=ks.foldl lZ fs
theorem Bn (fs a b:List (List ae)):cj fs (a++b)=cj (cj fs a) b:=List.foldl_append
theorem fA {k:List ae}:∀ {ks fs:List (List ae)},k∈cj fs ks↔k∈fs∨k∈ks
 | [],fs=>by simp [cj]
 | c::ks,fs=>by
  show k∈cj (lZ fs c) ks↔_
  rw [fA,Bm,List.mem_cons,or_assoc]
abbrev Dm:=List (List ae × Nat)
noncomputable def dV (D:Dm):List (List ae × V):=D.map fun q=>(q.1,.int ((q.2:Nat):Int))
noncomputable def valN (D:Dm) (k:List ae):Option Nat:=(D.find? fun q=>decide (q.1=k)).map (·.2)
noncomputable def dJ (D:Dm) (k:List ae) (n:Nat):Dm:=if (D.any fun q=>decide (q.1=k))=true then D.map (fun q=>if q.1=k then (k,n) else q) else D++[(k,n)]
theorem l7 (D:Dm) (k:List ae):bv (dV D) k=(valN D k).map fun n=>.int ((n:Nat):Int):=by
 unfold bv valN dV
 rw [List.find?_map,Option.map_map,Option.map_map]
 rfl
theorem uv (D:Dm) (k:List ae) (n:Nat):b8 (dV D) k (.int ((n:Nat):Int))=dV (dJ D k n):=by
 unfold b8 dJ dV
 rw [List.any_map]
 have e:((fun kv:List ae × V=>decide (kv.1=k))∘fun q:List ae × Nat=>(q.1,V.int ((q.2:Nat):Int)))=fun q=>decide (q.1=k):=rfl
 rw [e]
 split
 ·rw [QZ,QZ]
  refine List.map_congr_left fun q _=>?_
  show (if q.1=k then (q.1,V.int ((n:Nat):Int)) else (q.1,V.int ((q.2:Nat):Int)))=((if q.1=k then (k,n) else q).1,V.int (((if q.1=k then (k,n) else q).2:Nat):Int))
  by_cases h:q.1=k<;>simp [h]
 ·rw [QQ];rfl
theorem Bo (D:Dm) (k:List ae) (n:Nat) (k':List ae):valN (dJ D k n) k'=if k'=k then some n else valN D k':=by
 have h1:=l7 (dJ D k n) k'
 rw [<- uv,kT,l7] at h1
 by_cases h:k'=k
 ·rw [if_pos h] at h1 ⊢
  cases e:valN (dJ D k n) k' with
  | none=>rw [e] at h1;cases h1
  | some x =>
   rw [e] at h1
   have h1:some (V.int ((n:Nat):Int))=some (V.int ((x:Nat):Int)):=h1
   injection h1 with h1;injection h1 with h1
   congr 1;lia
 ·rw [if_neg h] at h1 ⊢
  cases e:valN (dJ D k n) k' with
  | none =>
   rw [e] at h1
   cases e2:valN D k' with
   | none=>rfl
   | some y=>rw [e2] at h1;cases h1
  | some x =>
   rw [e] at h1
   cases e2:valN D k' with
   | none=>rw [e2] at h1;cases h1
   | some y =>
    rw [e2] at h1
    have h1:some (V.int ((y:Nat):Int))=some (V.int ((x:Nat):Int)):=h1
    injection h1 with h1;injection h1 with h1
    congr 1;lia
theorem Bp (D:Dm) (k:List ae) (n:Nat):(dJ D k n).length<=D.length+1:=by
 unfold dJ
 split<;>simp
theorem Bq {D:Dm} {k:List ae} {n:Nat} {q:List ae × Nat} (h:q∈dJ D k n):q∈D∨q=(k,n):=by
 unfold dJ at h
 split at h
 ·obtain ⟨p,hp,rfl⟩:=QH h
  by_cases e:p.1=k
  ·rw [if_pos e];exact .inr rfl
  ·rw [if_neg e];exact .inl hp
 ·rcases Qw h with h | h
  ·exact .inl h
  ·exact .inr (by simpa using h)
theorem Br {D:Dm} {k:List ae} {n:Nat} (h:(D.map (·.1)).Nodup):((dJ D k n).map (·.1)).Nodup:=by
 unfold dJ
 split
 ·have e:(D.map fun q=>if q.1=k then (k,n) else q).map (·.1)=D.map (·.1):=by
   rw [QZ]
   refine List.map_congr_left fun q _=>?_
   show (if q.1=k then (k,n) else q).1=q.1
   by_cases h:q.1=k<;>simp [h]
  rw [e];exact h
 ·rename_i hn
  rw [QQ]
  refine List.nodup_append.mpr ⟨h,by simp,fun a ha b hb e=>hn ?_⟩
  obtain ⟨q,hq,rfl⟩:=QH ha
  have hb:b=k:=by simpa using hb
  exact List.any_eq_true.mpr ⟨q,hq,Qo (by rw [e,hb])⟩
abbrev bS:=Nat->List (List ae)
structure cP (D:Dm) (fs:bS):Prop where
 nd:(D.map (·.1)).Nodup
 ok:∀ q∈D,bK q.2
 bit:∀ k s,((valN D k).getD 0).testBit s=true↔k∈fs s
theorem cP.to {D:Dm} {fs gs:bS} (h:cP D fs) (e:∀ s k,k∈fs s↔k∈gs s):cP D gs:=⟨h.nd,h.ok,fun k s=>(h.bit k s).trans (e s k)⟩
noncomputable def bB (m:Nat) (fs ks:bS):bS:=fun s=>if m.testBit s=true then cj (fs s) (ks s) else fs s
theorem eD {m s:Nat} {fs ks:bS} {k:List ae}:k∈bB m fs ks s↔k∈fs s∨(m.testBit s=true/\k∈ks s):=by
 unfold bB
 by_cases h:m.testBit s=true
 ·rw [if_pos h,fA]
  exact ⟨fun q=>q.imp_right fun z=>⟨h,z⟩,fun q=>q.imp_right fun z=>z.2⟩
 ·rw [if_neg h]
  exact ⟨.inl,fun q=>q.elim id fun z=>absurd z.1 h⟩
theorem Bs (fs ks:bS):bB 0 fs ks=fs:=by
 funext s
 unfold bB
 rw [if_neg (by rw [Nat.zero_testBit];exact fun z=>nomatch z)]
theorem oZ {a b:Nat} (h:a<256) (h':b<256):a ||| b<256:=Nat.or_lt_two_pow (n:=8) h h'
theorem cP.note {D:Dm} {fs:bS} (h:cP D fs) {m:Nat} (h0:m≠0) (hm:m<256) (k:List ae):cP (dJ D k (((valN D k).getD 0) ||| m)) (bB m fs fun _=>[k]):=by
 have Do:(valN D k).getD 0<256:=by
  unfold valN
  cases e:D.find? fun q=>decide (q.1=k) with
  | none=>decide
  | some q=>exact (h.ok q (List.mem_of_find?_eq_some e)).2
 refine ⟨Br h.nd,fun q hq=>?_,fun k' s=>?_⟩
 ·rcases Bq hq with hq | hq
  ·exact h.ok q hq
  ·rw [hq]
   refine ⟨Nat.pos_of_ne_zero fun z=>h0 ?_,oZ Do hm⟩
   exact (Nat.or_eq_zero_iff.mp z).2
 ·rw [Bo]
  by_cases e:k'=k
  ·subst e
   rw [if_pos rfl]
   show (((valN D k').getD 0) ||| m).testBit s=true↔_
   rw [Nat.testBit_or,Bool.or_eq_true,h.bit,eD]
   simp
  ·rw [if_neg e,h.bit,eD]
   simp [e]
structure bp (H:Hp) (C o dx d2:Addr) (F:List (List ae × V)) (fs:bS) (N:Nat):Prop where
 ins:∃ d1,H o=some (.ins C dx [("firsts",.ref d1),("faults",.ref d2)])/\H d1=some (.dT F)/\d1≠d2
 flt:∃ D,H d2=some (.dT (dV D))/\cP D fs/\D.length<=N
theorem bp.same {H H':Hp} {C o dx d2:Addr} {F:List (List ae × V)} {fs:bS} {N:Nat} (h:bp H C o dx d2 F fs N) (s:Same H H'):bp H' C o dx d2 F fs N:=by
 obtain ⟨⟨d1,h1,h3,h4⟩,D,h2,h5,h6⟩:=h
 exact ⟨⟨d1,s _ _ h1,s _ _ h3,h4⟩,D,s _ _ h2,h5,h6⟩
theorem bp.to {H:Hp} {C o dx d2:Addr} {F:List (List ae × V)} {fs gs:bS} {N M:Nat} (h:bp H C o dx d2 F fs N) (e:∀ s k,k∈fs s↔k∈gs s) (hN:N<=M):bp H C o dx d2 F gs M:=by
 obtain ⟨a,D,h2,h5,h6⟩:=h
 exact ⟨a,D,h2,h5.to e,QC h6 hN⟩
structure bP (H H':Hp):Prop where
 ls:bI H H'
 dk:∀ a kv,H a=some (.dK kv)->H' a=some (.dK kv)
theorem bP.refl (H:Hp):bP H H:=⟨bI.refl _,fun _ _ h=>h⟩
theorem bP.trans {H H1 H2:Hp} (a:bP H H1) (b:bP H1 H2):bP H H2:=⟨a.ls.trans b.ls,fun _ _ h=>b.dk _ _ (a.dk _ _ h)⟩
theorem dL {H H':Hp} (s:Same H H'):bP H H':=⟨s.ls,fun _ _ h=>s _ _ h⟩
theorem o0 {n:Nat} (h:n<1000000):n<sizeLine:=by rw [sizeLine_eq];lia
inductive uw (C:Addr) (vs:List V) (H:Hp) (Q:VK) (E:XK):Prop
 | mk:∀ (o dx d2:Addr) (F:List (List ae × V)) (fs:bS) (N m r:Nat) (a z:Str),vs=[.ref o,.int ((m:Nat):Int),.int ((r:Nat):Int),.str a,.str z]->bp H C o dx d2 F fs N->N<900000->m<256->(∀ H',bP H H'->bp H' C o dx d2 F (bB m fs fun _=>[k3 r a z]) (N+1)->Q .non H')->uw C vs H Q E
noncomputable abbrev Bt:List Str:=["self","mask","at","what","name"]
theorem ux:a7 Bt ["self","mask","at","what","name"] (aL oG):=⟨rfl,rfl,rfl,by decide +kernel,rfl,by decide +kernel,by decide +kernel⟩
theorem l9 (T:All P w K mg AA DD):aF P w K mg base aG 2 AA.Zj DD.Zj ["self","mask","at","what","name"] (uw AA.c_NameLook):=by
 have GD:=oW (base:=base) T
 refine T.F_Zj.ok ux (fun vs H Q E h=>?_) (fun Ds A outer s H vs Q E hr h=>?_)
 ·obtain ⟨o,dx,d2,F,fs,N,m,r,a,z,rfl,_⟩:=h
  rfl
 ·obtain ⟨o,dx,d2,F,fs,N,m,r,a,z,rfl,hk,hN,hm,k⟩:=h
  have nd:=ux.nd
  have Dw:ay 1 _:=hr
  refine ⟨_,(ao (bV (aK GD Dw rfl T.m_ZK T.k_ZK T.b_ZK .nil aD (aa (kG (pv 0) rfl) (aa (aV (aa (pv 2) (aa (pv 3) (aa (pv 4) ag)))) (aa (pv 1) ag)))) (by rfl))),?_⟩
  obtain ⟨d1,hi,_⟩:=hk.ins
  refine ⟨_,rfl,o,AA.c_NameLook,dx,_,_,rfl,hi,T.cl_NameLook,T.na_NameLook_faults,rfl,?_⟩
  refine ⟨_,rfl,_,rfl,_,rfl,dR,fun t ht=>?_⟩
  have s1:=ak (o:=.tup [.int ((r:Nat):Int),.str a,.str z]) ht
  have DG:=hk.same s1
  have e1:upd H t (.tup [.int ((r:Nat):Int),.str a,.str z]) t=some (.tup ((k3 r a z).map kV)):=ai
  generalize upd H t (.tup [.int ((r:Nat):Int),.str a,.str z])=H1 at s1 DG e1 ⊢
  obtain ⟨⟨d1',g1,g2,g3⟩,D,hD,hFl,hDl⟩:=DG
  refine ⟨_,rfl,d2,.ref t,m,rfl,.inr ⟨_,.inl hD⟩,?_⟩
  by_cases h0:m=0
  ·subst h0
   rw [Bs] at k
   exact .inl ⟨rfl,k _ (dL s1) ⟨⟨d1',g1,g2,g3⟩,D,hD,hFl,by lia⟩⟩
  ·refine .inr ⟨h0,_,(valN D (k3 r a z)).getD 0,_,cv.t hD e1,?_,eV.t hD e1 ?_,?_⟩
   ·rw [l7]
    cases valN D (k3 r a z) with
    | none=>exact .inl ⟨rfl,rfl⟩
    | some n=>exact .inr rfl
   ·unfold dV
    rw [Qd]
    exact o0 (by lia)
   ·rw [uv]
    have b1:bP H1 (upd H1 d2 (.dT (dV (dJ D (k3 r a z) ((valN D (k3 r a z)).getD 0 ||| m))))):=⟨jZ hD (fun _ z=>nomatch z) (fun _ z=>nomatch z) (fun _ _ z=>nomatch z),fun a kv e=>by rw [al (fun z=>by rw [z,hD] at e;cases e)];exact e⟩
    refine k _ ((dL s1).trans b1) ⟨⟨d1',?_,?_,g3⟩,_,ai,hFl.note h0 hm _,?_⟩
    ·rw [al (fun z=>by rw [z,hD] at g1;cases g1)];exact g1
    ·rw [al g3];exact g2
    ·have:=Bp D (k3 r a z) ((valN D (k3 r a z)).getD 0 ||| m);lia
theorem uy:∀ {ps:List (Nat × V)},(∀ q∈ps,q.1<256)->orM ps<256
 | [],_=>by decide
 | q::ps,h=>oZ (h q (by simp)) (uy fun x hx=>h x (by simp [hx]))
theorem uz {H:Hp} {F:List (List ae × V)} {tt:Nat->List Tr} {n:Nat} (hF:d6 H F tt n) {a z:Str} {q q2:Addr} (hq:H q=none) (DN:upd H q (.tup [.str a,.str z]) q2=none):∃ l3 ps,(bv F (dA (a,z))).getD (V.ref q2)=.ref l3/\dI (upd (upd H q (.tup [.str a,.str z])) q2 (.lst [])) l3 (be ps)/\d5 H (bv F (dA (a,z))) (a,z) tt n ps:=by
 have F7:=(ak (o:=.tup [.str a,.str z]) hq).trans (ak (o:=.lst []) DN)
 obtain ⟨ps,hK⟩:=hF (a,z)
 rcases hK.at_ with ⟨e1,e2⟩ | ⟨p',e1,e2⟩
 ·exact ⟨q2,ps,by rw [e1];rfl,by rw [e2];exact ⟨[],ai,rfl,fun i t k x=>by simp at x⟩,hK⟩
 ·exact ⟨p',ps,by rw [e1];rfl,e2.kept F7.ls,hK⟩
noncomputable def hV (k:Str × Str) (tt:List Tr):Bool:=(eB k tt).isSome
theorem d5.has {H:Hp} {o:Option V} {k:Str × Str} {tt:Nat->List Tr} {n:Nat} {ps:List cI} (h:d5 H o k tt n ps) (s:Nat):(orM (be ps)).testBit s=hV k (tt s):=by
 unfold hV
 rw [h.fst,oY]
 unfold be
 rw [List.any_map,Option.isSome_map]
 refine Bool.eq_iff_iff.mpr ?_
 rw [List.any_eq_true,List.find?_isSome]
 rfl
theorem d5.lt {H:Hp} {o:Option V} {k:Str × Str} {tt:Nat->List Tr} {n:Nat} {ps:List cI} (h:d5 H o k tt n ps):orM (be ps)<256:=uy fun q hq=>by
 obtain ⟨p,hp,rfl⟩:=QH hq
 exact (h.ok p hp).1.2
inductive uA (C:Addr) (vs:List V) (H:Hp) (Q:VK) (E:XK):Prop
 | mk:∀ (o dx d2:Addr) (F:List (List ae × V)) (fs:bS) (N:Nat) (tt:Nat->List Tr) (n:Nat) (a z:Str),vs=[.ref o,.str a,.str z]->bp H C o dx d2 F fs N->d6 H F tt n->(∀ h H',Same H H'->(∀ s,h.testBit s=hV (a,z) (tt s))->h<256->Q (.int ((h:Nat):Int)) H')->uA C vs H Q E
noncomputable abbrev Bu:List Str:=["self","word","name"]
theorem uB:a7 Bu ["self","word","name"] (aL oM):=⟨rfl,rfl,rfl,by decide +kernel,rfl,by decide +kernel,by decide +kernel⟩
theorem uC (T:All P w K mg AA DD):aF P w K mg base aG 2 AA.Zk DD.Zk ["self","word","name"] (uA AA.c_NameLook):=by
 have GA:=uf (base:=base) T
 refine T.F_Zk.ok uB (fun vs H Q E h=>?_) (fun Ds A outer s H vs Q E hr h=>?_)
 ·obtain ⟨o,dx,d2,F,fs,N,tt,n,a,z,rfl,_⟩:=h
  rfl
 ·obtain ⟨o,dx,d2,F,fs,N,tt,n,a,z,rfl,hk,hF,k⟩:=h
  have nd:=uB.nd
  have Dw:ay 1 _:=hr
  have hu:=QN (Nat.add_le_add_left (show 1<=64 by decide) _) hr.units
  refine ⟨_,(ao (aS (aK GA Dw rfl T.m_ZJ T.k_ZJ T.b_ZJ .nil aD (aa (iD hu (kG (pv 0) rfl) (aV (aa (pv 1) (aa (pv 2) ag))) (bW ag) ⟨by rfl,by rfl,by rfl,by rfl⟩) ag)))),?_⟩
  obtain ⟨d1,hi,FM,Dp⟩:=hk.ins
  refine ⟨_,rfl,o,AA.c_NameLook,dx,_,_,rfl,hi,T.cl_NameLook,T.na_NameLook_firsts,rfl,d1,rfl,.inr ⟨F,.inl FM⟩,?_⟩
  refine ⟨_,rfl,_,rfl,bL,fun q hq=>⟨eI,fun q2 DN=>?_⟩⟩
  have s1:=ak (o:=.tup [.str a,.str z]) hq
  have s2:=ak (o:=.lst []) DN
  have F7:=s1.trans s2
  have Ea:upd (upd H q (.tup [.str a,.str z])) q2 (.lst []) q=some (.tup ((dA (a,z)).map kV)):=s2 _ _ ai
  refine ⟨_,cv.t (k:=dA (a,z)) (F7 _ _ FM) Ea,?_⟩
  obtain ⟨l3,ps,el3,hl3,hks⟩:=uz hF hq DN
  rw [el3]
  exact ⟨l3,be ps,rfl,hl3,k _ _ F7 hks.has hks.lt⟩
noncomputable def d7 (tt:List Tr) (r:Nat) (a DO z:Str) (n:Nat):List (List ae):=match eB (a,z) tt with
 | none=>[k3 r DO z]
 | some t=>if t.prs.length=n then [] else [k3 r "count" z]
noncomputable def cJ (ps:List cI) (m:Nat):List cI:=(ps.filter fun q=>!decide (q.1 &&& m=0)).map fun q=>(q.1 &&& m,q.2)
theorem Bv (ps:List cI) (m:Nat):eC (be ps) m=be (cJ ps m):=by
 unfold eC be cJ
 rw [List.filter_map,QZ,QZ]
 rfl
theorem uD {ps:List cI} {m:Nat} {q:cI} (h:q∈cJ ps m):∃ p∈ps,q=(p.1 &&& m,p.2):=by
 obtain ⟨p,hp,rfl⟩:=QH h
 exact ⟨p,(List.mem_filter.mp hp).1,rfl⟩
theorem Bw (ps:List cI) (m:Nat):(cJ ps m).length<=ps.length:=by
 unfold cJ
 rw [Qd]
 exact List.length_filter_le _ _
noncomputable def cF (k:List ae) (n:Nat) (DF:bS) (q:cI):bS:=if q.2.2.prs.length=n then DF else bB q.1 DF fun _=>[k]
theorem uE {k c:List ae} {n s:Nat}:∀ {l:List cI} {fs:bS},k∈(l.foldl (cF c n) fs) s↔k∈fs s∨(k=c/\∃ q∈l,q.1.testBit s=true/\q.2.2.prs.length≠n)
 | [],fs=>by simp
 | q::l,fs=>by
  rw [List.foldl_cons,uE]
  unfold cF
  by_cases h:q.2.2.prs.length=n
  ·rw [if_pos h]
   constructor
   ·rintro (a | ⟨a,x,b,d⟩)
    ·exact .inl a
    ·exact .inr ⟨a,x,by simp [b],d⟩
   ·rintro (a | ⟨a,x,b,d⟩)
    ·exact .inl a
    ·rcases Qn b with rfl | b
     ·exact absurd h d.2
     ·exact .inr ⟨a,x,b,d⟩
  ·rw [if_neg h,eD]
   constructor
   ·rintro ((a | ⟨a,b⟩) | ⟨a,x,b,d⟩)
    ·exact .inl a
    ·exact .inr ⟨by simpa using b,q,by simp,a,h⟩
    ·exact .inr ⟨a,x,by simp [b],d⟩
   ·rintro (a | ⟨a,x,b,d⟩)
    ·exact .inl (.inl a)
    ·rcases Qn b with rfl | b
     ·exact .inl (.inr ⟨d.1,by simpa using a⟩)
     ·exact .inr ⟨a,x,b,d⟩
theorem Bx {H:Hp} {o:Option V} {a z DO:Str} {tt:Nat->List Tr} {N n m h r:Nat} {ps:List cI} {fs:bS} (hK:d5 H o (a,z) tt N ps) (hh:∀ s,h.testBit s=hV (a,z) (tt s)) (s:Nat) (k:List ae) :
  k∈((cJ ps m).foldl (cF (k3 r "count" z) n) (bB (m ^^^ (m &&& h)) fs fun _=>[k3 r DO z])) s↔k∈bB m fs (fun s=>d7 (tt s) r a DO z n) s:=by
 rw [uE,eD,eD,j0,hh s]
 have hf:=hK.fst s
 have hu:=hK.uni s
 unfold d7 hV
 rw [hf]
 constructor
 ·rintro ((q | ⟨q1,q2⟩) | ⟨q1,q,q2,q3,q4⟩)
  ·exact .inl q
  ·refine .inr ?_
   cases e:ps.find? fun q=>q.1.testBit s with
   | none=>rw [e] at q1;exact ⟨by simpa using q1,by simpa using q2⟩
   | some p=>rw [e] at q1;simp at q1
  ·obtain ⟨p,hp,rfl⟩:=uD q2
   dsimp only at q3 q4
   rw [Nat.testBit_and,QP] at q3
   rw [hu p hp q3.1]
   refine .inr ⟨q3.2,?_⟩
   show k∈if (au s p.2.2).prs.length=n then [] else [k3 r "count" z]
   rw [um,if_neg q4,q1];simp
 ·rintro (q | ⟨q1,q2⟩)
  ·exact .inl (.inl q)
  ·cases e:ps.find? fun q=>q.1.testBit s with
   | none =>
    rw [e] at q2
    exact .inl (.inr ⟨by rw [q1];rfl,by simpa using q2⟩)
   | some p =>
    rw [e] at q2
    have q2:k∈if (au s p.2.2).prs.length=n then [] else [k3 r "count" z]:=q2
    rw [um] at q2
    have hb:=List.find?_some e
    have hm:=List.mem_of_find?_eq_some e
    by_cases hn:p.2.2.prs.length=n
    ·rw [if_pos hn] at q2;simp at q2
    ·rw [if_neg hn] at q2
     refine .inr ⟨by simpa using q2,(p.1 &&& m,p.2),?_,?_,hn⟩
     ·unfold cJ
      refine List.mem_map.mpr ⟨p,List.mem_filter.mpr ⟨hm,?_⟩,rfl⟩
      rw [Qi (fun z=>by have:=jS z hb;rw [q1] at this;cases this)];rfl
     ·dsimp only
      rw [Nat.testBit_and,q1,Bool.and_true];exact hb
inductive uF (C:Addr) (vs:List V) (H:Hp) (Q:VK) (E:XK):Prop
 | mk:∀ (o dx d2:Addr) (F:List (List ae × V)) (fs:bS) (N:Nat) (tt:Nat->List Tr) (n:Nat) (v:V) (w z:Str) (es:List Ex) (m r:Nat) (a DO:Str),vs=[.ref o,.int ((m:Nat):Int),v,.int ((r:Nat):Int),.str a,.str DO]->bo H v (.many w z es)->bp H C o dx d2 F fs N->d6 H F tt n->n<=50->N<800000->m<256->(∀ H',bP H H'->bp H' C o dx d2 F (bB m fs fun s=>d7 (tt s) r a DO z es.length) (N+60)->Q .non H')->uF C vs H Q E
noncomputable abbrev By:List Str:=["self","mask","e","at","word","missing","name","here","one"]
theorem uG:a7 By ["self","mask","e","at","word","missing"] (aL oK):=⟨rfl,rfl,rfl,by decide +kernel,rfl,by decide +kernel,by decide +kernel⟩
theorem Bz (T:All P w K mg AA DD):aF P w K mg base aG 3 AA.Ze DD.Ze ["self","mask","e","at","word","missing"] (uF AA.c_NameLook):=by
 have GO:=l9 (base:=base) T
 have GN:=lU (base:=base) T
 have GHD:=uC (base:=base) T
 have GB:=uk (base:=base) T
 have GPO:=Bd (base:=base) T
 refine T.F_Ze.ok uG (fun vs H Q E h=>?_) (fun Ds A outer s H vs Q E hr h=>?_)
 ·obtain ⟨o,dx,d2,F,fs,N,tt,n,v,w,z,es,m,r,a,DO,rfl,_⟩:=h
  rfl
 ·obtain ⟨o,dx,d2,F,fs,N,tt,n,v,w,z,es,m,r,a,DO,rfl,hE,hk,hF,hn,hN,hm,kq⟩:=h
  have nd:=uG.nd
  have EF:ay 2 _:=hr
  have Dw:ay 1 _:=EF.mono (by lia)
  have hu:=QN (Nat.add_le_add_left (show 1<=64 by decide) _) hr.units
  refine ⟨_,(aA (aY (i:=6) nd rfl (Or.inl rfl) (az (aN (K:=K) rfl) (pv 2) af (fun _ _=>rfl))) (aA (bV (cW (pv 0) T.cl_NameLook T.M_Zj GO EF T.b_Zj .nil aD (aa (aK GN Dw rfl T.m_ZE T.k_ZE T.b_ZE .nil aD (aa (pv 1) (aa (cW (pv 0) T.cl_NameLook T.M_Zk GHD EF T.b_Zk .nil aD (aa (pv 4) (aa (pv 6) ag))) ag))) (aa (pv 3) (aa (pv 5) (aa (pv 6) ag))))) (by rfl)) (ao (dU PassesOwn.never rfl (dC (aK GB Dw rfl T.m_Zo T.k_Zo T.b_Zo .nil aD (aa (iD hu (kG (pv 0) rfl) (aV (aa (pv 4) (aa (pv 6) ag))) (bW ag) ⟨by rfl,by rfl,by rfl,by rfl⟩) (aa (pv 1) ag)))) (eK rfl (br (a9 (i:=7) nd rfl (Or.inl rfl)) (br (a9 (i:=8) nd rfl (Or.inl rfl)) dm))) (ao (aX (aM fZ (cu fo rfl T.n_len eR (aa (aK GPO Dw rfl T.m_Zy T.k_Zy T.b_Zy .nil aD (aa (pv 8) ag)) ag)) (cu fo rfl T.n_len eR (aa (az (aN (K:=K) rfl) (pv 2) af (fun _ _=>rfl)) ag)) (aR _)) (ao (bV (cW (pv 0) T.cl_NameLook T.M_Zj GO EF T.b_Zj .nil aD (aa (pv 7) (aa (pv 3) (aa aI (aa (pv 6) ag))))) (by rfl))) bi)) (by intro _;rfl))))),?_⟩
  cases hE with
  | @many t l _ _ vs _ ht hl hvs =>
  obtain ⟨d1,hi,FM,Dp⟩:=hk.ins
  refine ⟨_,rfl,t,_,_,_,rfl,rfl,ah.of ht,aw (j:=1) rfl,?_⟩
  dsimp only [aW]
  refine ⟨_,rfl,o,dx,_,rfl,hi,rfl,_,rfl,_,rfl,o,dx,_,rfl,hi,rfl,_,rfl,_,rfl,?_⟩
  refine ⟨o,dx,d2,F,fs,N,tt,n,a,z,rfl,hk,hF,fun h H1 s1 hh hh2=>?_⟩
  refine ⟨m,h,rfl,?_⟩
  refine ⟨_,rfl,_,rfl,_,rfl,o,dx,d2,F,fs,N,_,r,DO,z,rfl,hk.same s1,by lia,lY hm,fun H2 l2 Dq=>?_⟩
  have l02:=(dL s1).trans l2
  have hF2:=hF.kept l02.ls
  have D5:=l02.ls.1 _ _ ht
  have hl2:=l02.ls.1 _ _ hl
  obtain ⟨d1',hi2,ES,hne2⟩:=Dq.ins
  dsimp only [aW]
  refine ⟨_,rfl,o,AA.c_NameLook,dx,_,_,rfl,hi2,T.cl_NameLook,T.na_NameLook_firsts,rfl,d1',rfl,.inr ⟨F,.inl ES⟩,?_⟩
  refine ⟨_,rfl,_,rfl,bL,fun q hq=>⟨eI,fun q2 DN=>?_⟩⟩
  have s3:=ak (o:=.tup [.str a,.str z]) hq
  have s4:=ak (o:=.lst []) DN
  have Gr:=s3.trans s4
  have Ea:upd (upd H2 q (.tup [.str a,.str z])) q2 (.lst []) q=some (.tup ((dA (a,z)).map kV)):=s4 _ _ ai
  refine ⟨_,cv.t (k:=dA (a,z)) (Gr _ _ ES) Ea,_,rfl,?_⟩
  obtain ⟨l3,ps,el3,hl3,hks⟩:=uz hF2 hq DN
  rw [el3]
  have Er:=hks.len
  have hpl2:(be ps).length=ps.length:=by unfold be;rw [Qd]
  refine ⟨l3,be ps,m,rfl,hl3,by lia,fun p H3 s5 Gm=>?_⟩
  rw [Bv] at Gm
  have s6:=Gr.trans s5
  have Dn:=Dq.same s6
  have ht3:=s6 _ _ D5
  have hl3':=s6 _ _ hl2
  have l03:=l02.trans (dL s6)
  obtain ⟨us,hp,DZ,E8⟩:=id Gm
  have hul':us.length=(cJ ps m).length:=by rw [DZ];unfold be;rw [Qd]
  have D2:=Bw ps m
  refine ⟨p,rfl,⟨_,aj.of hp⟩,?_⟩
  have hvl:=hvs.len
  refine fY (K:=K) (a:=p) (xs:=us.map V.ref) (fun i σ' H'=>bP H3 H'/\i<=us.length/\bp H' AA.c_NameLook o dx d2 F (((cJ ps m).take i).foldl (cF (k3 r "count" z) es.length) (bB (m ^^^ (m &&& h)) fs fun _=>[k3 r DO z])) (N+1+i)/\∃ x7 x8,σ'=[some (.ref o),some (.int ((m:Nat):Int)),some (.ref t),some (.int ((r:Nat):Int)),some (.str a),some (.str DO),some (.str z),x7,x8]) ⟨bP.refl _,Qu _,Dn,_,_,rfl⟩ (fun i σ' H' _ hsl61=>by obtain ⟨e,_⟩:=hsl61;exact aj.of (e.ls.2 _ _ hp)) ?_ ?_
  ·rintro i x σ' H4 hx ⟨l4,_,Dz,x7,x8,rfl⟩
   have hi':i<us.length:=by
    have:=(Qc hx).1
    rw [Qd] at this;exact this
   have hif:i<(cJ ps m).length:=by lia
   have ex:x=V.ref us[i]:=by rw [Qr,Qa hi'] at hx;exact (Qq hx).symm
   subst ex
   have hu0:=l4.ls.1 _ _ (E8 i us[i] ((cJ ps m)[i].1,(cJ ps m)[i].2.1) (Qa hi') (by unfold be;rw [Qr,Qa hif];rfl))
   obtain ⟨p0,hp0,ep0⟩:=uD (QL hif)
   obtain ⟨ok1,ok2,ok3⟩:=hks.ok p0 hp0
   rw [Qm hif,List.foldl_append,List.foldl_cons,List.foldl_nil]
   have hSy:bz H4 true (cJ ps m)[i].2.1 (cJ ps m)[i].2.2:=by rw [ep0];exact ((ok2.kept s6.ls).kept l4.ls)
   have hhd:(cJ ps m)[i].2.2.hd≠none:=by rw [ep0];show p0.2.2.hd≠none;rw [ok3];exact fun z=>nomatch z
   have hmk:(cJ ps m)[i].1<256:=by rw [ep0];exact nR ok1.2
   generalize (cJ ps m)[i]=q0 at hu0 hSy hhd hmk ⊢
   generalize ((cJ ps m).take i).foldl (cF (k3 r "count" z) es.length) (bB (m ^^^ (m &&& h)) fs fun _=>[k3 r DO z])=gs at Dz ⊢
   refine ⟨us[i],_,rfl,ah.of hu0,rfl,_,_,rfl,_,_,rfl,rfl,?_⟩
   refine ⟨_,rfl,q0.2.1,q0.2.2,rfl,hSy,hhd,fun xp hxp=>?_⟩
   obtain ⟨tpp,uu,rfl,htpp,huul,huat⟩:=hxp
   refine ⟨tpp,_,rfl,.inr (ah.of htpp),_,rfl,t,_,_,_,rfl,rfl,ah.of (l4.ls.1 _ _ ht3),aw (j:=2) rfl,l,_,rfl,.inr (ah.of (l4.ls.1 _ _ hl3')),rfl,_,rfl,?_⟩
   rw [Qd,huul,hvl]
   unfold cF
   by_cases hq:q0.2.2.prs.length=es.length
   ·rw [if_pos hq]
    refine bd (by rw [hq,Qo rfl];rfl) ?_
    exact ⟨l4,hi',Dz.to (fun _ _=>Iff.rfl) (by lia),_,_,rfl⟩
   ·rw [if_neg hq]
    refine bO (by rw [Qi (fun q=>hq (by injection q with q;lia))];rfl) ?_
    obtain ⟨d1'',hi4,_⟩:=Dz.ins
    refine ⟨_,rfl,o,dx,_,rfl,hi4,rfl,_,rfl,_,rfl,_,rfl,o,dx,d2,F,gs,N+1+i,q0.1,r,"count",z,rfl,Dz,by lia,hmk,fun H5 l5 Gc=>⟨l4.trans l5,hi',Gc,_,_,rfl⟩⟩
  ·rintro σ' H4 ⟨l4,_,Dz,x7,x8,rfl⟩
   rw [Qd,hul',List.take_length] at Dz
   exact kq _ (l03.trans l4) (Dz.to (fun s k=>Bx hks hh s k) (by lia))
def cq (H:Hp) (g:Addr) (kn:Nat->List Str) (n:Nat):Prop:=∃ kv,H g=some (.dK kv)/\kv.length<=n/\∃ f:Str->Nat,(∀ z,f z<256)/\(∀ z:Str,bv kv (.inr z)=if f z=0 then none else some (.int ((f z:Nat):Int)))/\∀ z s,(f z).testBit s=true↔z∈kn s
theorem cq.kept {H H':Hp} {g:Addr} {kn:Nat->List Str} {n:Nat} (h:cq H g kn n) (l:bP H H'):cq H' g kn n:=by obtain ⟨kv,a,b⟩:=h;exact ⟨kv,l.dk _ _ a,b⟩
theorem cq.mono {H:Hp} {g:Addr} {kn:Nat->List Str} {n n':Nat} (h:cq H g kn n) (l:n<=n'):cq H g kn n':=by obtain ⟨kv,a,b,c⟩:=h;exact ⟨kv,a,QC b l,c⟩
mutual
noncomputable def bF (tt:List Tr) (kn:List Str) (r:Nat):Ex->List (List ae)
 | .many w z es=>d7 tt r (if w="do" then "def" else "kind") (if w="do" then "nofunc" else "nokind") z es.length++exKs tt kn r es
 | .name z=>if z∈kn then [] else [k3 r "unset" z]
 | .not e=>bF tt kn r e
 | .op _ a b=>bF tt kn r a++bF tt kn r b
 | .of _ e=>bF tt kn r e
 | .num _=>[]
 | .truth _=>[]
noncomputable def exKs (tt:List Tr) (kn:List Str) (r:Nat):List Ex->List (List ae)
 | []=>[]
 | e::es=>bF tt kn r e++exKs tt kn r es
end
noncomputable def dM (tt:List Tr) (kn:List Str) (r:Nat):Ex->List (List ae)
 | .many w z es=>d7 tt r (if w="do" then "def" else "kind") (if w="do" then "nofunc" else "nokind") z es.length
 | .name z=>if z∈kn then [] else [k3 r "unset" z]
 | _=>[]
theorem BA (tt:List Tr) (kn:List Str) (r:Nat) (e:Ex):bF tt kn r e=dM tt kn r e++exKs tt kn r e.kids:=by
 cases e<;>simp [bF,dM,Ex.kids,exKs]
theorem uH {tt:List Tr} {kn:List Str} {r:Nat}:∀ {es:List Ex} {i:Nat} {e:Ex},es[i]?=some e->exKs tt kn r (es.take (i+1))=exKs tt kn r (es.take i)++bF tt kn r e
 | x::es,0,e,h=>by
  cases (show some x=some e from h)
  simp [exKs]
 | x::es,i+1,e,h=>by
  have a:=uH (tt:=tt) (kn:=kn) (r:=r) (es:=es) (i:=i) h
  simp [exKs,a]
theorem BB (e:Ex):e.sz=szL e.kids+1:=by cases e<;>simp [Ex.sz,Ex.kids,szL]
theorem uI:∀ {es:List Ex} {i:Nat} {e:Ex},es[i]?=some e->szL (es.take (i+1))=szL (es.take i)+e.sz/\szL (es.take i)+e.sz<=szL es
 | x::es,0,e,h=>by
  cases (show some x=some e from h)
  simp [szL]
 | x::es,i+1,e,h=>by
  obtain ⟨a,b⟩:=uI (es:=es) (i:=i) h
  simp [szL,a]
  lia
inductive iZ (C:Addr) (k:Nat) (vs:List V) (H:Hp) (Q:VK) (E:XK):Prop
 | mk:∀ (o dx d2 g:Addr) (F:List (List ae × V)) (tt:Nat->List Tr) (n:Nat) (fs:bS) (N:Nat) (kn:Nat->List Str) (ng:Nat) (v:V) (e:Ex) (m r:Nat),vs=[.ref o,.int ((m:Nat):Int),v,.int ((r:Nat):Int),.ref g]->bo H v e->e.good->e.deep<k->bp H C o dx d2 F fs N->d6 H F tt n->n<=50->cq H g kn ng->N+60*e.sz<700000->m<256->(∀ H',bP H H'->bp H' C o dx d2 F (bB m fs fun s=>bF (tt s) (kn s) r e) (N+60*e.sz)->Q .non H')->iZ C k vs H Q E
theorem uJ (m:Nat) (fs a b:bS):bB m (bB m fs a) b=bB m fs fun s=>a s++b s:=by
 funext s
 unfold bB
 by_cases h:m.testBit s=true
 ·rw [if_pos h,if_pos h,if_pos h,Bn]
 ·rw [if_neg h,if_neg h,if_neg h]
theorem BC (m:Nat) (fs:bS):bB m fs (fun _=>[])=fs:=by
 funext s
 unfold bB
 split<;>rfl
noncomputable abbrev BD:List Str:=["self","mask","e","at","given","inner"]
theorem o4:a7 BD ["self","mask","e","at","given"] (aL oJ):=⟨rfl,rfl,rfl,by decide +kernel,rfl,by decide +kernel,by decide +kernel⟩
theorem BE (T:All P w K mg AA DD) (k:Nat) (GE:aF P w K mg base aG (k+4) AA.Zc DD.Zc ["self","mask","e","at","given"] (iZ AA.c_NameLook k)) :
  aF P w K mg base aG (k+1+4) AA.Zc DD.Zc ["self","mask","e","at","given"] (iZ AA.c_NameLook (k+1)):=by
 have GU:=Bz (base:=base) T
 have GI:=A6 (base:=base) T
 have GO:=l9 (base:=base) T
 have GN:=lU (base:=base) T
 refine T.F_Zc.ok o4 (fun vs H Q E h=>?_) (fun Ds A outer s H vs Q E hr h=>?_)
 ·obtain ⟨o,dx,d2,g,F,tt,n,fs,N,kn,ng,v,e,m,r,rfl,_⟩:=h
  rfl
 ·obtain ⟨o,dx,d2,g,F,tt,n,fs,N,kn,ng,v,e,m,r,rfl,hE,hp,hd,hk,hF,hn,hg,hN,hm,kq⟩:=h
  have nd:=o4.nd
  have hu:=QN (Nat.add_le_add_left (show 1<=64 by decide) _) hr.units
  have Fc:ay (k+4) _:=hr
  have Ep:ay 3 _:=Fc.mono (by lia)
  have EF:ay 2 _:=Fc.mono (by lia)
  have Dw:ay 1 _:=Fc.mono (by lia)
  have hsz:=BB e
  refine ⟨_,(aA (aX (aM bu (az (aN (K:=K) rfl) (pv 2) af (fun _ _=>rfl)) aI (aR _)) (ao (bV (cW (pv 0) T.cl_NameLook T.M_Zj GO EF T.b_Zj .nil aD (aa (aK GN Dw rfl T.m_ZE T.k_ZE T.b_ZE .nil aD (aa (pv 1) (aa (iD hu (pv 4) (az (aN (K:=K) rfl) (pv 2) af (fun _ _=>rfl)) af ⟨by rfl,by rfl,by rfl,by rfl⟩) ag))) (aa (pv 3) (aa aI (aa (az (aN (K:=K) rfl) (pv 2) af (fun _ _=>rfl)) ag))))) (by rfl))) (ao (aX (aM bu (az (aN (K:=K) rfl) (pv 2) af (fun _ _=>rfl)) aI (aR _)) (ao (bV (cW (pv 0) T.cl_NameLook T.M_Ze GU Ep T.b_Ze .nil aD (aa (pv 1) (aa (pv 2) (aa (pv 3) (aa aI (aa aI ag)))))) (by rfl))) (ao (aX (aM bu (az (aN (K:=K) rfl) (pv 2) af (fun _ _=>rfl)) aI (aR _)) (ao (bV (cW (pv 0) T.cl_NameLook T.M_Ze GU Ep T.b_Ze .nil aD (aa (pv 1) (aa (pv 2) (aa (pv 3) (aa aI (aa aI ag)))))) (by rfl))) bi))))) (ao (dU PassesOwn.never rfl (im (aK GI Dw rfl T.m_Zz T.k_Zz T.b_Zz .nil aD (aa (pv 2) ag))) (a9 (i:=5) nd rfl (Or.inl rfl)) (ao (bV (cW (pv 0) T.cl_NameLook T.M_Zc GE Fc T.b_Zc .nil aD (aa (pv 1) (aa (pv 5) (aa (pv 3) (aa (pv 4) ag))))) (by rfl))) (by intro _;rfl)))),?_⟩
  refine gk (fun σ' H'=>σ'=[some (.ref o),some (.int ((m:Nat):Int)),some v,some (.int ((r:Nat):Int)),some (.ref g),none]/\bP H H'/\bp H' AA.c_NameLook o dx d2 F (bB m fs fun s=>dM (tt s) (kn s) r e) (N+60)) (fun R hR=>?_) ?_
  ·obtain ⟨d1,hi,_⟩:=hk.ins
   have hE0:=hE
   have other:∀ {t:Addr} {z:Str} {ys:List V},H t=some (.tup (.str z::ys))->v=.ref t->z≠"name"->z≠"do"->z≠"new"->(∀ s,dM (tt s) (kn s) r e=[])->R [some (.ref o),some (.int ((m:Nat):Int)),some v,some (.int ((r:Nat):Int)),some (.ref g),none] H:=fun ht ev n1 n2 n3 he=>hR _ _ ⟨rfl,bP.refl _,by
    have:(fun s=>dM (tt s) (kn s) r e)=fun _=>[]:=funext he
    rw [this,BC];exact hk.to (fun _ _=>Iff.rfl) (by lia)⟩
   by_cases hnm:∃ z,e=.name z
   ·obtain ⟨z,rfl⟩:=hnm
    cases hE with
    | @name t _ ht =>
    obtain ⟨Di,hgd,hgl,f,hf1,hf2,hf3⟩:=id hg
    refine ⟨_,rfl,t,_,_,_,rfl,rfl,ah.of ht,rfl,rfl,_,rfl,kK ?_⟩
    refine ⟨_,rfl,o,dx,_,rfl,hi,rfl,_,rfl,_,rfl,g,rfl,.inl ⟨_,.inl hgd⟩,_,rfl,t,_,_,_,rfl,rfl,ah.of ht,rfl,_,cv.k (k:=.inr z) hgd,?_⟩
    rw [hf2 z]
    have ev:((if f z=0 then none else some (V.int ((f z:Nat):Int))).getD (V.int 0))=.int ((f z:Nat):Int):=by
     by_cases h0:f z=0
     ·rw [if_pos h0,h0];rfl
     ·rw [if_neg h0];rfl
    rw [ev]
    refine ⟨m,f z,rfl,?_⟩
    refine ⟨_,rfl,_,rfl,t,_,_,_,rfl,rfl,ah.of ht,rfl,o,dx,d2,F,fs,N,_,r,"unset",z,rfl,hk,by lia,lY hm,fun H' ls FX=>hR _ _ ⟨rfl,ls,FX.to (fun s k=>?_) (by lia)⟩⟩
    rw [eD,eD,j0]
    show _↔k∈fs s∨m.testBit s=true/\k∈(if z∈kn s then [] else [k3 r "unset" z])
    have:=hf3 z s
    by_cases hz:z∈kn s
    ·rw [if_pos hz,this.mpr hz];simp
    ·rw [if_neg hz]
     have hb:(f z).testBit s=false:=by
      cases e:(f z).testBit s with
      | false=>rfl
      | true=>exact absurd (this.mp e) hz
     rw [hb];simp
   by_cases hmn:∃ w z es,e=.many w z es
   ·obtain ⟨w,z,es,rfl⟩:=hmn
    cases hE with
    | @many t l _ _ vs _ ht hl hvs =>
    refine ⟨_,rfl,t,_,_,_,rfl,rfl,ah.of ht,aw (j:=0) rfl,rfl,_,rfl,?_⟩
    refine bd (Qi fun q=>(tQ w hp.1).2.2 (by injection q)) ?_
    refine ⟨_,rfl,t,_,_,_,rfl,rfl,ah.of ht,aw (j:=0) rfl,rfl,_,rfl,?_⟩
    rcases hp.1 with rfl | rfl
    ·refine bO (Qo rfl) ?_
     refine ⟨_,rfl,o,dx,_,rfl,hi,rfl,_,rfl,_,rfl,_,rfl,o,dx,d2,F,fs,N,tt,n,.ref t,_,z,es,m,r,_,_,rfl,hE0,hk,hF,hn,by lia,hm,fun H1 l1 DG=>hR _ _ ⟨rfl,l1,?_⟩⟩
     have:(fun s=>dM (tt s) (kn s) r (.many "do" z es))=fun s=>d7 (tt s) r "def" "nofunc" z es.length:=funext fun s=>by show d7 (tt s) r (if ("do":Str)="do" then "def" else "kind") (if ("do":Str)="do" then "nofunc" else "nokind") z es.length=_;rw [if_pos rfl,if_pos rfl]
     rw [this];exact DG
    ·refine bd (Qi fun q=>by injection q with q;exact absurd q (by decide)) ?_
     refine ⟨_,rfl,t,_,_,_,rfl,rfl,ah.of ht,aw (j:=0) rfl,rfl,_,rfl,?_⟩
     refine bO (Qo rfl) ?_
     refine ⟨_,rfl,o,dx,_,rfl,hi,rfl,_,rfl,_,rfl,_,rfl,o,dx,d2,F,fs,N,tt,n,.ref t,_,z,es,m,r,_,_,rfl,hE0,hk,hF,hn,by lia,hm,fun H1 l1 DG=>hR _ _ ⟨rfl,l1,?_⟩⟩
     have:(fun s=>dM (tt s) (kn s) r (.many "new" z es))=fun s=>d7 (tt s) r "kind" "nokind" z es.length:=funext fun s=>by show d7 (tt s) r (if ("new":Str)="do" then "def" else "kind") (if ("new":Str)="do" then "nofunc" else "nokind") z es.length=_;rw [if_neg (by decide),if_neg (by decide)]
     rw [this];exact DG
   ·obtain ⟨t,z,ys,ev,ht,n1,n2,n3,he⟩:∃ t z ys,v=.ref t/\H t=some (.tup (.str z::ys))/\z≠"name"/\z≠"do"/\z≠"new"/\∀ s,dM (tt s) (kn s) r e=[]:=by
     cases hE with
     | num h=>exact ⟨_,_,_,rfl,h,by decide,by decide,by decide,fun _=>rfl⟩
     | truth h=>exact ⟨_,_,_,rfl,h,by decide,by decide,by decide,fun _=>rfl⟩
     | name h=>exact absurd ⟨_,rfl⟩ hnm
     | not h a=>exact ⟨_,_,_,rfl,h,by decide,by decide,by decide,fun _=>rfl⟩
     | op h a b=>have q:=tO _ hp.1;exact ⟨_,_,_,rfl,h,q.2.2.2.1,q.2.2.2.2.1,q.2.2.2.2.2,fun _=>rfl⟩
     | of h a=>exact ⟨_,_,_,rfl,h,by decide,by decide,by decide,fun _=>rfl⟩
     | many h l a=>exact absurd ⟨_,_,_,rfl⟩ hmn
    subst ev
    refine ⟨_,rfl,t,_,_,_,rfl,rfl,ah.of ht,aw (j:=0) rfl,rfl,_,rfl,?_⟩
    refine bd (Qi fun q=>n1 (by injection q)) ?_
    refine ⟨_,rfl,t,_,_,_,rfl,rfl,ah.of ht,aw (j:=0) rfl,rfl,_,rfl,?_⟩
    refine bd (Qi fun q=>n2 (by injection q)) ?_
    refine ⟨_,rfl,t,_,_,_,rfl,rfl,ah.of ht,aw (j:=0) rfl,rfl,_,rfl,?_⟩
    refine bd (Qi fun q=>n3 (by injection q)) ?_
    exact other ht rfl n1 n2 n3 he
  ·rintro σ' H1 ⟨rfl,ls1,DG⟩
   have hE1:=hE.kept ls1.ls.1
   refine ⟨_,rfl,v,e,rfl,hE1,hp,fun t ys H2 s2 ht DA=>⟨t,rfl,⟨_,ah.of ht⟩,?_⟩⟩
   have D2:=DA.len
   have Dq:=DG.same s2
   have ls2:=ls1.trans (dL s2)
   have efin:(fun s=>bF (tt s) (kn s) r e)=fun s=>dM (tt s) (kn s) r e++exKs (tt s) (kn s) r e.kids:=funext fun s=>BA _ _ _ _
   rw [efin,hsz] at kq
   refine xj (K:=K) (a:=t) (xs:=ys) (fun i σ' H'=>bP H H'/\bP H2 H'/\(∃ x5,σ'=[some (.ref o),some (.int ((m:Nat):Int)),some v,some (.int ((r:Nat):Int)),some (.ref g),x5])/\bp H' AA.c_NameLook o dx d2 F (bB m fs fun s=>dM (tt s) (kn s) r e++exKs (tt s) (kn s) r (e.kids.take i)) (N+60+60*szL (e.kids.take i))) ⟨ls2,bP.refl _,⟨_,rfl⟩,by
    have:(fun s=>dM (tt s) (kn s) r e++exKs (tt s) (kn s) r (e.kids.take 0))=fun s=>dM (tt s) (kn s) r e:=funext fun s=>by rw [List.take_zero,exKs,QM]
    rw [this];exact Dq.to (fun _ _=>Iff.rfl) (by lia)⟩ (fun i σ' H' _ h=>ah.of (h.2.1.ls.1 _ _ ht)) ?_ ?_
   ·rintro i x σ' H3 hx ⟨l3,l23,⟨x5,rfl⟩,Dn⟩
    obtain ⟨c,hc,hcx⟩:=DA.get hx
    have hcm:=A3 hp c (Qh hc)
    obtain ⟨d1,hi3,_⟩:=Dn.ins
    obtain ⟨es1,es2⟩:=uI hc
    refine ⟨_,rfl,o,dx,_,rfl,hi3,rfl,_,rfl,_,rfl,_,rfl,_,rfl,o,dx,d2,g,F,tt,n,_,_,kn,ng,x,c,m,r,rfl,hcx.kept l23.ls.1,hcm.1,by lia,Dn,hF.kept l3.ls,hn,hg.kept l3,by lia,hm,fun H' ls FX=>?_⟩
    refine ⟨l3.trans ls,l23.trans ls,⟨_,rfl⟩,?_⟩
    rw [uJ] at FX
    have:(fun s=>dM (tt s) (kn s) r e++exKs (tt s) (kn s) r (e.kids.take (i+1)))=fun s=>dM (tt s) (kn s) r e++exKs (tt s) (kn s) r (e.kids.take i)++bF (tt s) (kn s) r c:=funext fun s=>by rw [uH hc,QW]
    rw [this,es1]
    exact FX.to (fun _ _=>Iff.rfl) (by lia)
   ·rintro σ' H3 ⟨l3,l23,⟨x5,rfl⟩,Dn⟩
    rw [Qv (by lia)] at Dn
    exact kq _ l3 (Dn.to (fun _ _=>Iff.rfl) (by lia))
theorem BF (T:All P w K mg AA DD):aF P w K mg base aG 4 AA.Zc DD.Zc ["self","mask","e","at","given"] (iZ AA.c_NameLook 0):=by
 have no:∀ vs H Q E,¬ iZ AA.c_NameLook 0 vs H Q E:=fun vs H Q E h=>by
  obtain ⟨o,dx,d2,g,F,tt,n,fs,N,kn,ng,v,e,m,r,_,_,_,z,_⟩:=h
  lia
 exact T.F_Zc.ok o4 (fun vs H Q E h=>(no _ _ _ _ h).elim) (fun Ds A outer s H vs Q E hr h=>(no _ _ _ _ h).elim)
theorem uK (T:All P w K mg AA DD):∀ k:Nat,aF P w K mg base aG (k+4) AA.Zc DD.Zc ["self","mask","e","at","given"] (iZ AA.c_NameLook k)
 | 0=>BF T
 | k+1=>BE T k (uK T k)
noncomputable def fB (t:Tr):List Str:=match t.hd with
 | none=>[]
 | some q=>[q.2]
noncomputable def dN (ts:List Tr):List Str:=ts.flatMap fB
noncomputable def gw (ab:List Str) (t:Tr):List (List ae):=match t.hd with
 | none=>[]
 | some q=>if q.2∈ab then [k3 t.row "twice" q.2] else []
noncomputable def cb:List Str->List Tr->List (List ae)
 | _,[]=>[]
 | ab,t::ts=>gw ab t++cb (ab++fB t) ts
theorem o5:∀ (a b:List Tr) (ab:List Str),cb ab (a++b)=cb ab a++cb (ab++dN a) b
 | [],b,ab=>by simp [cb,dN]
 | t::a,b,ab=>by
  show gw ab t++cb (ab++fB t) (a++b)=_
  rw [o5 a b]
  simp [cb,dN,QW]
structure cA (g:Addr) (H H':Hp):Prop where
 ls:bI H H'
 dk:∀ a kv,a≠g->H a=some (.dK kv)->H' a=some (.dK kv)
theorem cA.refl (g:Addr) (H:Hp):cA g H H:=⟨bI.refl _,fun _ _ _ h=>h⟩
theorem cA.trans {g:Addr} {H H1 H2:Hp} (a:cA g H H1) (b:cA g H1 H2):cA g H H2:=⟨a.ls.trans b.ls,fun _ _ n h=>b.dk _ _ n (a.dk _ _ n h)⟩
theorem bP.g {g:Addr} {H H':Hp} (h:bP H H'):cA g H H':=⟨h.ls,fun _ _ _ e=>h.dk _ _ e⟩
noncomputable def i3 (m:Nat) (kn:Nat->List Str) (z:Str):Nat->List Str:=fun s=>if m.testBit s=true then kn s++[z] else kn s
theorem cq.add {H:Hp} {g:Addr} {kn:Nat->List Str} {n m:Nat} (h:cq H g kn n) (hn:n<900) (hm:bK m) (z:Str):∃ (o:Option V) (x:Nat) (ob:HO),cv H g (.str z) o/\((o=none/\x=0)∨o=some (.int ((x:Nat):Int)))/\eV H g (.str z) (.int ((x ||| m:Nat):Int)) (upd H g ob)/\cq (upd H g ob) g (i3 m kn z) (n+1)/\cA g H (upd H g ob)/\∃ kv,H g=some (.dK kv):=by
 obtain ⟨kv,h1,h2,f,h3,h4,h5⟩:=h
 refine ⟨_,f z,.dK (b8 kv (.inr z) (.int ((f z ||| m:Nat):Int))),cv.k (k:=.inr z) h1,?_,eV.k (k:=.inr z) h1 (cH (by lia)),⟨_,ai,?_,fun y=>if y=z then f z ||| m else f y,fun y=>?_,fun y=>?_,fun y s=>?_⟩,⟨jZ h1 (fun _ z=>nomatch z) (fun _ z=>nomatch z) (fun _ _ z=>nomatch z),fun a kv' na e=>by rw [al na];exact e⟩,kv,h1⟩
 ·rw [h4]
  by_cases h0:f z=0
  ·rw [if_pos h0];exact .inl ⟨rfl,h0⟩
  ·rw [if_neg h0];exact .inr rfl
 ·have:=jC kv (Sum.inr z:ae) (.int ((f z ||| m:Nat):Int));lia
 ·dsimp only
  split
  ·exact oZ (h3 z) hm.2
  ·exact h3 y
 ·rw [kT,h4]
  by_cases hy:y=z
  ·subst hy
   have hn:f y ||| m≠0:=fun q=>QX hm.1 (Nat.or_eq_zero_iff.mp q).2
   rw [if_pos rfl]
   simp only [if_true,if_neg hn]
  ·rw [if_neg (fun q=>hy (by injection q))]
   simp only [if_neg hy]
 ·dsimp only
  unfold i3
  by_cases hy:y=z
  ·subst hy
   rw [if_pos rfl,Nat.testBit_or,Bool.or_eq_true,h5]
   by_cases hb:m.testBit s=true
   ·rw [if_pos hb];simp [hb]
   ·rw [if_neg hb];simp [hb]
  ·rw [if_neg hy,h5]
   split
   ·simp [hy]
   ·rfl
theorem o6 {ts:List Tr} {i:Nat} {t:Tr} (h:ts[i]?=some t) (s:Nat):cutM s (ts.take (i+1))=cutM s (ts.take i)++if t.mask.testBit s=true then [au s t] else []:=by
 obtain ⟨hi,e⟩:=Qc h
 rw [Qm hi,e,gU,jR]
theorem uL (s:Nat) (t:Tr):fB (au s t)=fB t:=by unfold fB;rw [lX]
theorem bp.upd {H:Hp} {C o dx d2 g:Addr} {F:List (List ae × V)} {fs:bS} {N:Nat} {ob:HO} {kv:List (ae × V)} (h:bp H C o dx d2 F fs N) (hg:H g=some (.dK kv)):bp (upd H g ob) C o dx d2 F fs N:=by
 obtain ⟨⟨d1,h1,h3,h4⟩,D,h2,h5⟩:=h
 refine ⟨⟨d1,?_,?_,h4⟩,D,?_,h5⟩
 ·rw [al (fun z=>by rw [z,hg] at h1;cases h1)];exact h1
 ·rw [al (fun z=>by rw [z,hg] at h3;cases h3)];exact h3
 ·rw [al (fun z=>by rw [z,hg] at h2;cases h2)];exact h2
inductive uM (C:Addr) (vs:List V) (H:Hp) (Q:VK) (E:XK):Prop
 | mk:∀ (o dx d2 l:Addr) (F:List (List ae × V)) (xs:List V) (ts:List Tr) (fs:bS) (N:Nat),vs=[.ref o,.ref l]->H l=some (.lst xs)->LAt H true xs ts->(∀ t∈ts,bK t.mask)->ts.length<=50->bp H C o dx d2 F fs N->N<600000->(∀ H',bP H H'->bp H' C o dx d2 F (fun s=>cj (fs s) (cb [] (cutM s ts))) (N+50)->Q .non H')->uM C vs H Q E
noncomputable abbrev BG:List Str:=["self","tree","above","mask","one"]
theorem uN:a7 BG ["self","tree"] (aL oH):=⟨rfl,rfl,rfl,by decide +kernel,rfl,by decide +kernel,by decide +kernel⟩
theorem BH (T:All P w K mg AA DD):aF P w K mg base aG 3 AA.Za DD.Za ["self","tree"] (uM AA.c_NameLook):=by
 have GO:=l9 (base:=base) T
 have GD:=oW (base:=base) T
 refine T.F_Za.ok uN (fun vs H Q E h=>?_) (fun Ds A outer s H vs Q E hr h=>?_)
 ·obtain ⟨o,dx,d2,l,F,xs,ts,fs,N,rfl,_⟩:=h
  rfl
 ·obtain ⟨o,dx,d2,l,F,xs,ts,fs,N,rfl,hl,hL,hom,h50,hk,hN,kq⟩:=h
  have nd:=uN.nd
  have EF:ay 2 _:=hr
  have Dw:ay 1 _:=EF.mono (by lia)
  have hu:=QN (Nat.add_le_add_left (show 1<=64 by decide) _) hr.units
  refine ⟨_,(aA (aY (i:=2) nd rfl (Or.inl rfl) rq) (ao (dU PassesOwn.never rfl (dC (pv 1)) (eK rfl (br (a9 (i:=3) nd rfl (Or.inl rfl)) (br (a9 (i:=4) nd rfl (Or.inl rfl)) dm))) (ao (aX (aM (jP (K:=K) rfl) (az (aN (K:=K) rfl) (pv 4) af (fun _ _=>rfl)) (aV (aa aI (aa aI ag))) rfl) (aA (bV (cW (pv 0) T.cl_NameLook T.M_Zj GO EF T.b_Zj .nil aD (aa (am eh (pv 3) (iD hu (pv 2) (az (aN (K:=K) rfl) (pv 4) af (fun _ _=>rfl)) af ⟨by rfl,by rfl,by rfl,by rfl⟩)) (aa (az (aN (K:=K) rfl) (pv 4) af (fun _ _=>rfl)) (aa aI (aa (az (aN (K:=K) rfl) (pv 4) af (fun _ _=>rfl)) ag))))) (by rfl)) (ao (bV (aK GD Dw rfl T.m_ZK T.k_ZK T.b_ZK .nil aD (aa (pv 2) (aa (az (aN (K:=K) rfl) (pv 4) af (fun _ _=>rfl)) (aa (pv 3) ag)))) (by rfl)))) bi)) (by intro _;rfl)))),?_⟩
  refine fun d hd=>?_
  have s1:=ak (o:=.dK []) hd
  dsimp only [aW]
  refine ⟨_,rfl,l,rfl,⟨_,aj.of (s1 _ _ hl)⟩,?_⟩
  have FV:=hL.length
  have toK:∀ {H'},cA d H H'->bP H H':=fun l=>⟨l.ls,fun a kv e=>l.dk _ _ (fun z=>by rw [z,hd] at e;cases e) e⟩
  refine fY (K:=K) (a:=l) (xs:=xs) (fun i σ' H'=>i<=xs.length/\cA d H H'/\cq H' d (fun s=>dN (cutM s (ts.take i))) i/\bp H' AA.c_NameLook o dx d2 F (fun s=>cj (fs s) (cb [] (cutM s (ts.take i)))) (N+i)/\∃ x3 x4,σ'=[some (.ref o),some (.ref l),some (.ref d),x3,x4]) ⟨Qu _,(dL s1).g,⟨[],ai,Qf _,fun _=>0,fun _=>(by decide:0<256),fun z=>rfl,fun z s=>by simp [dN,cutM]⟩,(hk.same s1).to (fun s k=>by rw [List.take_zero,cutM];exact Iff.rfl) (by lia),_,_,rfl⟩ (fun i σ' H' _ h=>aj.of (h.2.1.ls.2 _ _ hl)) ?_ ?_
  ·rintro i x σ' H1 hx ⟨_,l1,hab,DG,x3,x4,rfl⟩
   have EB:=(Qc hx).1
   obtain ⟨t,ht,hO⟩:=hL.get hx
   have hO1:=hO.kept l1.ls
   have Ez:=hom t (Qh ht)
   have Go:=o6 ht
   cases hO1 with
   | plain e _=>cases e
   | @shared p y _ _ hp hS =>
   cases hS with
   | @mk t0 vs _ DP DW =>
   have hda:=ua DW
   obtain ⟨vr,rfl⟩:=lW DW
   refine ⟨p,_,rfl,ah.of hp,rfl,_,_,rfl,_,_,rfl,rfl,?_⟩
   refine ⟨_,rfl,t0,_,_,_,rfl,rfl,ah.of DP,aw (j:=0) rfl,bL,fun pt Ga=>⟨pt,iY.map V.str,rfl,.inr (ah.of ai),rfl,rfl,_,rfl,?_⟩⟩
   have s2:=ak (o:=.tup [V.str "def",V.str "kind"]) Ga
   have hab2:=hab.kept (dL s2)
   have l2:=l1.trans (dL s2).g
   have Dq:=DG.same s2
   rcases hda with ⟨hh,hn⟩ | ⟨hh,z,r,hz,ev⟩
   ·refine bd (fz (Qi hh)) ?_
    have e0:∀ s,fB (au s t)=[]:=fun s=>by rw [uL];unfold fB;rw [hn]
    have e00:∀ s ab,gw ab (au s t)=[]:=fun s ab=>by unfold gw;rw [lX,hn]
    have ea:(fun s=>dN (cutM s (ts.take (i+1))))=fun s=>dN (cutM s (ts.take i)):=funext fun s=>by
     rw [Go s]
     split
     ·unfold dN;rw [List.flatMap_append];simp [e0]
     ·rw [QM]
    have et:(fun s=>cj (fs s) (cb [] (cutM s (ts.take (i+1)))))=fun s=>cj (fs s) (cb [] (cutM s (ts.take i))):=funext fun s=>by
     rw [Go s]
     split
     ·rw [o5];simp [cb,e00]
     ·rw [QM]
    rw [ea,et]
    exact ⟨EB,l2,hab2.mono (by lia),Dq.to (fun _ _=>Iff.rfl) (by lia),_,_,rfl⟩
   ·refine bO (fz (Qo hh)) ?_
    have ev2:vr=.str z::r:=by injection ev with _ q;injection q
    subst ev2
    have D5:=s2 _ _ DP
    generalize upd H1 pt (.tup [V.str "def",V.str "kind"])=H2 at D5 l2 hab2 Dq ⊢
    obtain ⟨kv,hkv,D2,f,hf1,hf2,hf3⟩:=id hab2
    obtain ⟨d1,hi,_⟩:=Dq.ins
    refine ⟨_,rfl,o,dx,_,rfl,hi,rfl,_,rfl,_,rfl,d,rfl,.inl ⟨_,.inl hkv⟩,_,rfl,t0,_,_,_,rfl,rfl,ah.of D5,aw (j:=2) rfl,_,cv.k (k:=.inr z) hkv,?_⟩
    rw [hf2 z]
    have ev:((if f z=0 then none else some (V.int ((f z:Nat):Int))).getD (V.int 0))=.int ((f z:Nat):Int):=by
     by_cases h0:f z=0
     ·rw [if_pos h0,h0];rfl
     ·rw [if_neg h0];rfl
    rw [ev]
    refine ⟨_,_,rfl,rfl,?_⟩
    dsimp only
    rw [fO]
    refine ⟨_,rfl,t0,_,_,_,rfl,rfl,ah.of D5,aw (j:=1) rfl,_,rfl,t0,_,_,_,rfl,rfl,ah.of D5,aw (j:=2) rfl,o,dx,d2,F,_,_,t.mask &&& f z,t.row,"twice",z,rfl,Dq,by lia,nR Ez.2,fun H3 l3 Dn=>?_⟩
    have hab3:=hab2.kept l3
    have ht3:=l3.ls.1 _ _ D5
    obtain ⟨og,xg,ob,g1,g2,g3,g4,g5,kv',g6⟩:=hab3.add (by lia) Ez z
    refine ⟨_,rfl,_,rfl,t0,_,_,_,rfl,rfl,ah.of ht3,aw (j:=2) rfl,_,rfl,d,.str z,t.mask,rfl,.inl ⟨_,.inl g6⟩,.inr ⟨QX Ez.1,og,xg,_,g1,g2,g3,?_⟩⟩
    have ea:(fun s=>dN (cutM s (ts.take (i+1))))=i3 t.mask (fun s=>dN (cutM s (ts.take i))) z:=funext fun s=>by
     unfold i3
     rw [Go s]
     by_cases hb:t.mask.testBit s=true
     ·rw [if_pos hb,if_pos hb]
      unfold dN
      rw [List.flatMap_append]
      have:fB (au s t)=[z]:=by rw [uL];unfold fB;rw [hz]
      simp [this]
     ·rw [if_neg hb,if_neg hb,QM]
    rw [ea]
    refine ⟨EB,(l2.trans l3.g).trans g5,g4,(Dn.upd g6).to (fun s k=>?_) (by lia),_,_,rfl⟩
    rw [eD,Nat.testBit_and,QP,hf3,Go s]
    by_cases hb:t.mask.testBit s=true
    ·rw [if_pos hb,o5,fA,fA,List.mem_append]
     have e5:cb ([]++dN (cutM s (ts.take i))) [au s t]=if z∈dN (cutM s (ts.take i)) then [k3 t.row "twice" z] else []:=by
      show gw _ _++[]=_
      rw [QM,List.nil_append]
      unfold gw
      rw [lX,hz,gW]
     rw [e5]
     by_cases hin:z∈dN (cutM s (ts.take i))
     ·rw [if_pos hin];simp [hin,hb,or_assoc]
     ·rw [if_neg hin];simp [hin]
    ·rw [if_neg hb,QM];simp [hb]
  ·rintro σ' H1 ⟨_,l1,hab,DG,x3,x4,rfl⟩
   rw [FV,List.take_length] at DG
   exact kq _ (toK l1) (DG.to (fun _ _=>Iff.rfl) (by lia))
inductive uO (C:Addr) (vs:List V) (H:Hp) (Q:VK) (E:XK):Prop
 | mk:∀ (o dx l:Addr) (xs:List V) (ts:List Tr),vs=[.ref o,.ref l]->H o=some (.ins C dx [])->H l=some (.lst xs)->LAt H true xs ts->ts.length<=50->(∀ t∈ts,bK t.mask)->(∀ d2 F H',bI H H'->bp H' C o dx d2 F (fun _=>[]) 0->d6 H' F (fun s=>cutM s ts) ts.length->Q .non H')->uO C vs H Q E
noncomputable abbrev BI:List Str:=["self","tree"]
theorem uP:a7 BI ["self","tree"] (aL oF):=⟨rfl,rfl,rfl,by decide +kernel,rfl,by decide +kernel,by decide +kernel⟩
theorem BJ (T:All P w K mg AA DD):aF P w K mg base aG 3 AA.Zi DD.Zi ["self","tree"] (uO AA.c_NameLook):=by
 have GA:=Bl (base:=base) T
 refine T.F_Zi.ok uP (fun vs H Q E h=>?_) (fun Ds A outer s H vs Q E hr h=>?_)
 ·obtain ⟨o,dx,l,xs,ts,rfl,_⟩:=h
  rfl
 ·obtain ⟨o,dx,l,xs,ts,rfl,ho,hl,hL,h50,hom,kq⟩:=h
  have nd:=uP.nd
  have EF:ay 2 _:=hr
  refine ⟨_,(aA (qk (pv 0) (aK GA EF rfl T.m_Zq T.k_Zq T.b_Zq .nil aD (aa (pv 1) ag)) rfl) (ao (qk (pv 0) (rA) rfl))),?_⟩
  refine ⟨_,rfl,l,xs,ts,rfl,hl,hL,h50,hom,fun d1 F H1 s1 FM hF=>?_⟩
  have EX:=s1 _ _ ho
  refine ⟨_,rfl,o,AA.c_NameLook,dx,_,rfl,EX,T.cl_NameLook,T.na_NameLook_firsts,(by show 0<1000;decide),?_⟩
  refine fun d2 ES=>?_
  have s3:=ak (o:=.dT []) ES
  refine ⟨_,rfl,o,AA.c_NameLook,dx,_,rfl,s3 _ _ ai,T.cl_NameLook,T.na_NameLook_faults,(by show 1<1000;decide),?_⟩
  have b1:=jZ (ob':=.ins AA.c_NameLook dx [("firsts",.ref d1)]) EX (fun _ z=>nomatch z) (fun _ z=>nomatch z) fun _ _ z=>nomatch z
  have h3:=s3 _ _ (ai (H:=H1) (a:=o) (o:=.ins AA.c_NameLook dx [("firsts",.ref d1)]))
  have b2:=jZ (ob':=.ins AA.c_NameLook dx [("firsts",.ref d1),("faults",.ref d2)]) h3 (fun _ z=>nomatch z) (fun _ z=>nomatch z) fun _ _ z=>nomatch z
  have Dp:d2≠o:=fun z=>by rw [z,ai] at ES;cases ES
  have hne1:d1≠o:=fun z=>by rw [z,EX] at FM;cases FM
  have hd12:upd H1 o (.ins AA.c_NameLook dx [("firsts",.ref d1)]) d1=some (.dT F):=by rw [al hne1];exact FM
  have hne2:d1≠d2:=fun z=>by rw [<- z] at ES;exact absurd (hd12.symm.trans ES) (fun z=>by cases z)
  refine kq d2 F _ (((s1.ls.trans b1).trans s3.ls).trans b2) ⟨⟨d1,ai,?_,hne2⟩,[],?_,⟨List.nodup_nil,fun q hq=>by simp at hq,fun k s=>by simp [valN]⟩,Qf _⟩ (((hF.kept b1).kept s3.ls).kept b2)
  ·rw [al hne1];exact s3 _ _ hd12
  ·rw [al Dp,ai];rfl
theorem uQ {k:Nat} {js:List Nat} {g:TG} {tt:TT} {te:TE} {K:W.Frag} {a:Addr} {xs:List V} {σ:St} {H:Hp} {Q:VK} (Pv:Nat->List V->Hp->Prop) (h0:Pv 0 [] H) (hl:∀ i ys H,i<=xs.length->Pv i ys H->ah K H a xs)
  (hs:∀ i x ys H,xs[i]?=some x->Pv i ys H->kP k js g tt te σ ys (Pv (i+1)) x H)
  (hd:∀ ys H,Pv xs.length ys H->∀ p,H p=none->Q (.ref p) (upd H p (.lst ys))):m8 (gJ K a) k js g tt te σ H Q:=by
 refine ⟨fun i m ys H=>m=xs.length-i/\i<=xs.length/\Pv i ys H,⟨xs.length,by simp,Qu _,h0⟩,?_⟩
 rintro i m ys H ⟨rfl,hi,p⟩
 have q:=hl i ys H hi p
 by_cases Do:i<xs.length
 ·refine .inr ⟨⟨xs,xs[i],q,by simp [Do]⟩,Pv (i+1),fun EV H' p'=>⟨xs.length-(i+1),by omega,rfl,Do,p'⟩,fun x H' y=>?_⟩
  obtain ⟨e,y⟩:=y
  subst e
  exact hs i x ys _ (y xs q) p
 ·have e:i=xs.length:=by omega
  subst e
  exact .inl ⟨⟨xs,q,Qf _⟩,hd ys H p⟩
noncomputable def ma:List Str:=["num","truth"]
noncomputable def gx (tt:List Tr) (r:Nat) (z:Str):List (List ae):=if z∈ma then [] else if hV ("kind",z) tt=true then [] else [k3 r "nokind" z]
noncomputable def c9 (tt:List Tr) (r:Nat) (zs:List Str):List (List ae):=zs.flatMap (gx tt r)
theorem BK {tt:List Tr} {r:Nat} {zs:List Str} {i:Nat} (h:i<zs.length):c9 tt r (zs.take (i+1))=c9 tt r (zs.take i)++gx tt r zs[i]:=by
 unfold c9
 rw [Qm h,List.flatMap_append]
 simp
abbrev St:=List Str × List (List ae)
noncomputable def md:Tr->List Str
 | .set _ _ n _=>[n]
 | _=>[]
noncomputable def cQ (tt:List Tr) (t:Tr) (e:Ex) (q:St):St:=(q.1++md t,cj q.2 (bF tt q.1 t.row e))
mutual
noncomputable def bg (tt:List Tr):Tr->St->St
 | .set m r n e,q=>cQ tt (.set m r n e) e q
 | .tell m r e,q=>cQ tt (.tell m r e) e q
 | .give m r e,q=>cQ tt (.give m r e) e q
 | .iff m r e b o,q=>lbTs tt o (lbTs tt b (cQ tt (.iff m r e b o) e q))
 | .whl m r e b,q=>lbTs tt b (cQ tt (.whl m r e b) e q)
 | .df _ r _ k ps b,q=>(q.1,(lbTs tt b (ps.map (·.1),cj q.2 (c9 tt r (k::ps.map (·.2))))).2)
 | .kd _ _ _ _,q=>q
noncomputable def lbTs (tt:List Tr):List Tr->St->St
 | [],q=>q
 | t::ts,q=>lbTs tt ts (bg tt t q)
end
theorem uR (tt:List Tr):∀ (a b:List Tr) (q:St),lbTs tt (a++b) q=lbTs tt b (lbTs tt a q)
 | [],b,q=>by rw [List.nil_append];simp [lbTs]
 | t::a,b,q=>by
  rw [List.cons_append,lbTs,lbTs,uR tt a b]
theorem uS:∀ {ts:List Tr} {i:Nat} {t:Tr},ts[i]?=some t->cos (ts.take (i+1))=cos (ts.take i)+t.co/\cos (ts.take i)+t.co<=cos ts
 | x::ts,0,t,h=>by
  cases (show some x=some t from h)
  simp [cos]
 | x::ts,i+1,t,h=>by
  obtain ⟨a,b⟩:=uS (ts:=ts) (i:=i) h
  simp [cos,a];lia
theorem uT:∀ {ts:List Tr} {i:Nat} {t:Tr},ts[i]?=some t->cnts (ts.take (i+1))=cnts (ts.take i)+t.cnt/\cnts (ts.take i)+t.cnt<=cnts ts
 | x::ts,0,t,h=>by
  cases (show some x=some t from h)
  simp [cnts]
 | x::ts,i+1,t,h=>by
  obtain ⟨a,b⟩:=uT (ts:=ts) (i:=i) h
  simp [cnts,a];lia
theorem BL {t:Tr} {e:Ex} (h:t.ex=some e):t.co=e.sz+(t.blocks.map cos).sum:=by
 cases t<;>first | (cases h;simp [Tr.co,Tr.blocks];done) | (cases h;simp [Tr.co,Tr.blocks];lia) | cases h
theorem o7 {f:List Tr->Nat}:∀ {bs:List (List Tr)} {i:Nat} {b:List Tr},bs[i]?=some b->((bs.take (i+1)).map f).sum=((bs.take i).map f).sum+f b/\((bs.take i).map f).sum+f b<=(bs.map f).sum
 | x::bs,0,b,h=>by
  cases (show some x=some b from h)
  simp
 | x::bs,i+1,b,h=>by
  obtain ⟨a,c⟩:=o7 (f:=f) (bs:=bs) (i:=i) h
  simp only [List.take_succ_cons,List.map_cons,List.sum_cons,a]
  lia
theorem BM (tt:List Tr) (s:Nat) {t:Tr} {e:Ex} (h:t.ex=some e) (q:St):bg tt (au s t) q=t.blocks.foldl (fun q b=>lbTs tt (cutM s b) q) (cQ tt t e q):=by
 cases t<;>first | (cases h;simp [au,bg,Tr.blocks,cQ,md,Tr.row];done) | cases h
theorem uU {tt:List Tr} {s:Nat}:∀ {bs:List (List Tr)} {q:St},(∀ b∈bs,cutM s b=[])->bs.foldl (fun q b=>lbTs tt (cutM s b) q) q=q
 | [],_,_=>rfl
 | b::bs,q,h=>by
  rw [List.foldl_cons,h b (by simp),lbTs]
  exact uU fun x hx=>h x (by simp [hx])
theorem uV {t:Tr} {bs:List Tr} (h:bs∈t.blocks):aP.b bs∈t.parts:=by
 have:aP.b bs∈t.parts.filter eJ:=by rw [tT];exact List.mem_map.mpr ⟨bs,h,rfl⟩
 exact (List.mem_filter.mp this).1
theorem BN {t:Tr} (h:t.asc) {e:Ex} (q:t.ex=some e):e.fit:=by
 cases t with
 | set m r n e=>cases q;exact h
 | tell m r e=>cases q;exact h
 | iff m r e b o=>cases q;exact h.1
 | whl m r e b=>cases q;exact h.1
 | give m r e=>cases q;exact h
 | _=>cases q
inductive hW (C:Addr) (k:Nat) (vs:List V) (H:Hp) (Q:VK) (E:XK):Prop
 | mk:∀ (o dx d2 g l:Addr) (F:List (List ae × V)) (tt:Nat->List Tr) (n:Nat) (xs:List V) (ts:List Tr) (q:Nat->St) (N ng:Nat),vs=[.ref o,.ref l,.ref g]->H l=some (.lst xs)->LAt H true xs ts->deeps ts<k->ascs ts->bp H C o dx d2 F (fun s=>(q s).2) N->d6 H F tt n->n<=50->cq H g (fun s=>(q s).1) ng->N+60*cos ts<600000->cnts ts<400->ng+cnts ts<800->(∀ H',cA g H H'->bp H' C o dx d2 F (fun s=>(lbTs (tt s) (cutM s ts) (q s)).2) (N+60*cos ts)->cq H' g (fun s=>(lbTs (tt s) (cutM s ts) (q s)).1) (ng+cnts ts)->Q .non H')->hW C k vs H Q E
inductive uW (C:Addr) (k:Nat) (vs:List V) (H:Hp) (Q:VK) (E:XK):Prop
 | mk:∀ (o dx d2:Addr) (F:List (List ae × V)) (tt:Nat->List Tr) (n:Nat) (v:V) (m r:Nat) (z kd:Str) (ps:List (Str × Str)) (b:List Tr) (fs:bS) (N:Nat),vs=[.ref o,.int ((m:Nat):Int),v]->bz H true v (.df m r z kd ps b)->bK m->(Tr.df m r z kd ps b).asc->deeps b<k->bp H C o dx d2 F fs N->d6 H F tt n->n<=50->N+60+60*cos b<600000->cnts b<400->(∀ H',bP H H'->bp H' C o dx d2 F (fun s=>(if m.testBit s=true then bg (tt s) (au s (.df m r z kd ps b)) ([],fs s) else ([],fs s)).2) (N+60+60*cos b)->Q .non H')->uW C k vs H Q E
theorem BO {m:Nat}:∀ (pv:List (ae × V)) (ps:List (Str × Str)),pv.length=ps.length->(∀ (i:Nat) (p:ae × V) (q:Str × Str),pv[i]?=some p->ps[i]?=some q->p=(.inr q.1,.int ((m:Nat):Int))) ->
  ∀ z:Str,bv (fq pv) (.inr z)=if z∈ps.map (·.1) then some (.int ((m:Nat):Int)) else none:=by
 have go:∀ (pv:List (ae × V)) (ps:List (Str × Str)) (a:List (ae × V)) (l:List Str),pv.length=ps.length->(∀ (i:Nat) (p:ae × V) (q:Str × Str),pv[i]?=some p->ps[i]?=some q->p=(.inr q.1,.int ((m:Nat):Int))) ->
   (∀ z:Str,bv a (.inr z)=if z∈l then some (.int ((m:Nat):Int)) else none) ->
   ∀ z:Str,bv (pv.foldl (fun q p=>b8 q p.1 p.2) a) (.inr z)=if z∈l++ps.map (·.1) then some (.int ((m:Nat):Int)) else none:=fun pv=>by
  induction pv with
  | nil=>intro ps a l hl _ h;cases ps with | nil=>simpa using h | cons _ _=>simp at hl
  | cons p pv ih =>
   intro ps a l hl hr h
   cases ps with
   | nil=>simp at hl
   | cons q ps =>
    have ep:=hr 0 p q rfl rfl
    subst ep
    intro z
    have:=ih ps (b8 a (.inr q.1) (.int ((m:Nat):Int))) (l++[q.1]) (by simpa using hl) (fun i p' q' h1 h2=>hr (i+1) p' q' (by simpa using h1) (by simpa using h2)) (fun z=>by
     rw [kT,h]
     by_cases hz:z=q.1
     ·rw [if_pos (by rw [hz]),if_pos (by simp [hz])]
     ·rw [if_neg (fun e=>hz (by injection e))]
      by_cases hq:z∈l
      ·rw [if_pos hq,if_pos (by simp [hq])]
      ·rw [if_neg hq,if_neg (by simp [hq,hz])]) z
    refine this.trans ?_
    rw [QW]
    rfl
 intro pv ps hl hr z
 have:=go pv ps [] [] hl hr (fun z=>by simp [bv]) z
 rw [List.nil_append] at this
 exact this
noncomputable abbrev o8:List Str:=["self","mask","one","kind"]
theorem uX:a7 o8 ["self","mask","one"] (aL jY):=⟨rfl,rfl,rfl,by decide +kernel,rfl,by decide +kernel,by decide +kernel⟩
theorem BP (T:All P w K mg AA DD) (k:Nat) (GY:aF P w K mg base aG (2*k+13) AA.Zb DD.Zb ["self","statements","given"] (hW AA.c_NameLook k)) :
  aF P w K mg base aG (2*k+14) AA.Zd DD.Zd ["self","mask","one"] (uW AA.c_NameLook k):=by
 have GO:=l9 (base:=base) T
 have GN:=lU (base:=base) T
 have GHD:=uC (base:=base) T
 refine T.F_Zd.ok uX (fun vs H Q E h=>?_) (fun Ds A outer s H vs Q E hr h=>?_)
 ·obtain ⟨o,dx,d2,F,tt,n,v,m,r,z,kd,ps,b,fs,N,rfl,_⟩:=h
  rfl
 ·obtain ⟨o,dx,d2,F,tt,n,v,m,r,z,kd,ps,b,fs,N,rfl,hS,hm,ha,hd,hk,hF,hn,hN,hc,kq⟩:=h
  have nd:=uX.nd
  have hrB:ay (2*k+13) _:=hr
  have EF:ay 2 _:=hrB.mono (by lia)
  have Dw:ay 1 _:=hrB.mono (by lia)
  obtain ⟨t0,vp,lb,zs,ev,DP,hp,hlb,hLb⟩:=oQ hS
  subst ev
  obtain ⟨tp,us,rfl,htp,DZ,huat⟩:=hp
  have DW:=ha.1
  refine ⟨_,(aA (dU PassesOwn.never rfl (dC (am qN (bW (aa (az (aN (K:=K) rfl) (pv 2) af (fun _ _=>rfl)) ag)) (kR (xs:=["name","kind"]) (aL jY) o8 [] [] rfl (by exact ⟨rfl,rfl,by decide +kernel,by decide +kernel,by decide +kernel,by decide +kernel,by decide +kernel,rfl,by decide +kernel⟩) rfl rfl (im (az (aN (K:=K) rfl) (pv 2) af (fun _ _=>rfl))) (fun _ _ _ _=>(jG (K:=K) (n:=2) rfl rfl (br (a9 (i:=0) (show (["name","kind"]:List Str).Nodup by decide +kernel) rfl (Or.inl rfl)) (br (a9 (i:=1) (show (["name","kind"]:List Str).Nodup by decide +kernel) rfl (Or.inl rfl)) dm)))) (fun _ _ _ _=>eQ) (fun _ _ _ _=>(pv 1))))) (a9 (i:=3) nd rfl (Or.inl rfl)) (ao (aX (aM (z6 (K:=K) rfl) (pv 3) (wS (v:=.ref AA.q_PLAIN_KINDS) rfl T.m_PLAIN_KINDS rfl) rfl) (ao (bV (cW (pv 0) T.cl_NameLook T.M_Zj GO EF T.b_Zj .nil aD (aa (aK GN Dw rfl T.m_ZE T.k_ZE T.b_ZE .nil aD (aa (pv 1) (aa (cW (pv 0) T.cl_NameLook T.M_Zk GHD EF T.b_Zk .nil aD (aa aI (aa (pv 3) ag))) ag))) (aa (az (aN (K:=K) rfl) (pv 2) af (fun _ _=>rfl)) (aa aI (aa (pv 3) ag))))) (by rfl))) bi)) (by intro _;rfl)) (ao (bV (cW (pv 0) T.cl_NameLook T.M_Zb GY hrB T.b_Zb .nil aD (aa (az (aN (K:=K) rfl) (pv 2) af (fun _ _=>rfl)) (aa (iy (zt true rfl) rfl T.n_dict zr (aa (kR (xs:=["name","kind"]) (aL jY) o8 ["mask"] [1] rfl (by exact ⟨rfl,rfl,by decide +kernel,by decide +kernel,by decide +kernel,by decide +kernel,by decide +kernel,rfl,by decide +kernel⟩) rfl rfl (im (az (aN (K:=K) rfl) (pv 2) af (fun _ _=>rfl))) (fun _ _ _ _=>(jG (K:=K) (n:=2) rfl rfl (br (a9 (i:=0) (show (["name","kind","mask"]:List Str).Nodup by decide +kernel) rfl (Or.inl rfl)) (br (a9 (i:=1) (show (["name","kind","mask"]:List Str).Nodup by decide +kernel) rfl (Or.inl rfl)) dm)))) (fun _ _ _ _=>eQ) (fun _ _ _ _=>(aV (aa (pv 0) (aa (pv 2) ag))))) ag)) ag))) (by rfl)))),?_⟩
  refine gl (fun σ' H'=>bP H H'/\bp H' AA.c_NameLook o dx d2 F (bB m fs fun s=>c9 (tt s) r (kd::ps.map (·.2))) (N+60)/\∃ x3,σ'=[some (.ref o),some (.int ((m:Nat):Int)),some (.ref t0),x3]) (fun R hR=>?_) ?_
  ·refine ⟨_,rfl,t0,_,_,_,rfl,rfl,ah.of DP,aw (j:=3) rfl,dh,fun q hq=>?_⟩
   have s1:=ak (o:=.lst [.str kd]) hq
   have GV:=s1 _ _ htp
   refine ⟨_,rfl,t0,_,_,_,rfl,rfl,ah.of (s1 _ _ DP),aw (j:=4) rfl,tp,rfl,⟨_,ah.of GV⟩,?_⟩
   refine uQ (K:=K) (a:=tp) (xs:=us.map V.ref) (fun i ys H'=>H'=upd H q (.lst [.str kd])/\i<=us.length/\ys=((ps.take i).map (·.2)).map V.str) ⟨rfl,Qu _,rfl⟩ (fun i ys H' _ h=>by rw [h.1];exact ah.of GV) ?_ ?_
   ·rintro i x ys H2 hx ⟨rfl,hi2,rfl⟩
    have Ej:i<us.length:=by
     have:=(Qc hx).1
     rw [Qd] at this;exact this
    have ex:x=V.ref us[i]:=by rw [Qr,Qa Ej] at hx;exact (Qq hx).symm
    subst ex
    have hip:i<ps.length:=by lia
    have hu2:=s1 _ _ (huat i us[i] ps[i] (Qa Ej) (Qa hip))
    intro os Es
    obtain ⟨o1,o2,rfl⟩:=jU Es
    refine ⟨us[i],_,rfl,ah.of hu2,rfl,_,_,rfl,_,_,rfl,rfl,⟨[_,_],rfl,rfl⟩,?_⟩
    refine eP ?_
    rw [if_pos rfl]
    refine ⟨_,rfl,?_⟩
    refine ⟨by rw [Qd,Qd,QD];exact cH (by lia),rfl,by lia,?_⟩
    rw [Qm hip,QQ,QQ]
    rfl
   ·rintro ys H2 ⟨rfl,_,rfl⟩ q2 DN
    have etk:ps.take (us.map V.ref).length=ps:=by rw [Qd,DZ,List.take_length]
    rw [etk]
    have s2:=ak (o:=.lst ((ps.map (·.2)).map V.str)) DN
    refine ⟨q,q2,[.str kd],(ps.map (·.2)).map V.str,rfl,rfl,s2 _ _ ai,ai,?_,fun l8 hl8=>?_⟩
    ·simp only [Qd,QR,List.length_nil]
     exact QY (cH (by lia))
    have s3:=ak (o:=.lst ([.str kd]++(ps.map (·.2)).map V.str)) hl8
    have s13:=(s1.trans s2).trans s3
    generalize hzs:kd::ps.map (·.2)=ks at hR
    have ek:[V.str kd]++(ps.map (·.2)).map V.str=ks.map V.str:=by rw [<- hzs];rfl
    rw [ek] at s3 s13 ⊢
    have hl9:upd (upd (upd H q (.lst [.str kd])) q2 (.lst ((ps.map (·.2)).map V.str))) l8 (.lst (ks.map V.str)) l8=some (.lst (ks.map V.str)):=ai
    generalize upd (upd (upd H q (.lst [.str kd])) q2 (.lst ((ps.map (·.2)).map V.str))) l8 (.lst (ks.map V.str))=H3 at s13 hl9 ⊢
    refine ⟨l8,rfl,⟨_,aj.of hl9⟩,?_⟩
    have D2:ks.length<=21:=by rw [<- hzs];simp;lia
    refine fY (K:=K) (a:=l8) (xs:=ks.map V.str) (fun i σ' H'=>bP H3 H'/\i<=ks.length/\bp H' AA.c_NameLook o dx d2 F (bB m fs fun s=>c9 (tt s) r (ks.take i)) (N+i)/\∃ x3,σ'=[some (.ref o),some (.int ((m:Nat):Int)),some (.ref t0),x3]) ⟨bP.refl _,Qu _,(hk.same s13).to (fun s k=>by rw [eD];simp [c9]) (by lia),_,rfl⟩ (fun i σ' H' _ h=>aj.of (h.1.ls.2 _ _ hl9)) ?_ ?_
    ·rintro i x σ' H4 hx ⟨l4,_,Dz,x3,rfl⟩
     have hi4:i<ks.length:=by
      have:=(Qc hx).1
      rw [Qd] at this;exact this
     have ex:x=V.str ks[i]:=by rw [Qr,Qa hi4] at hx;exact (Qq hx).symm
     subst ex
     have et:(bB m fs fun s=>c9 (tt s) r (ks.take (i+1)))=bB m (bB m fs fun s=>c9 (tt s) r (ks.take i)) fun s=>gx (tt s) r ks[i]:=by
      rw [uJ]
      congr 1
      funext s
      rw [BK hi4]
     rw [et]
     generalize ks[i]=y
     generalize (bB m fs fun s=>c9 (tt s) r (ks.take i))=gs at Dz ⊢
     have l04:=(dL s13).trans l4
     obtain ⟨d1,hi,_⟩:=Dz.ins
     refine ⟨_,rfl,AA.q_PLAIN_KINDS,[.str "num",.str "truth"],rfl,.inr (T.Q_PLAIN_KINDS H4),rfl,rfl,_,rfl,?_⟩
     by_cases hy:y∈ma
     ·refine bd (by show (!gc (V.str y) (ma.map V.str))=false;rw [oV,Qo hy];rfl) ?_
      refine ⟨l4,hi4,Dz.to (fun s k=>?_) (by lia),_,rfl⟩
      rw [eD]
      have:gx (tt s) r y=[]:=by unfold gx;rw [if_pos hy]
      rw [this];simp
     ·refine bO (by show (!gc (V.str y) (ma.map V.str))=true;rw [oV,Qi hy];rfl) ?_
      refine ⟨_,rfl,o,dx,_,rfl,hi,rfl,_,rfl,_,rfl,o,dx,_,rfl,hi,rfl,_,rfl,o,dx,d2,F,_,_,tt,n,"kind",y,rfl,Dz,hF.kept l04.ls,fun h H5 s5 hh hh2=>?_⟩
      refine ⟨m,h,rfl,?_⟩
      refine ⟨_,rfl,t0,_,_,_,rfl,rfl,ah.of (s5 _ _ (l04.ls.1 _ _ DP)),aw (j:=1) rfl,_,rfl,o,dx,d2,F,_,_,_,r,"nokind",y,rfl,Dz.same s5,by lia,lY hm.2,fun H6 l6 hk6=>⟨(l4.trans (dL s5)).trans l6,hi4,hk6.to (fun s k=>?_) (by lia),_,rfl⟩⟩
      rw [eD,eD,j0,hh s]
      unfold gx
      rw [if_neg hy]
      cases hV ("kind",y) (tt s)<;>simp
    ·rintro σ' H4 ⟨l4,_,Dz,x3,rfl⟩
     rw [Qd,List.take_length] at Dz
     exact hR _ _ ⟨(dL s13).trans l4,Dz.to (fun _ _=>Iff.rfl) (by lia),_,rfl⟩
  rintro σ' H1 ⟨l1,DG,x3,rfl⟩
  have Fx:=l1.ls.1 _ _ DP
  have GV:=l1.ls.1 _ _ htp
  have hlb1:=l1.ls.2 _ _ hlb
  have hLb1:=hLb.kept l1.ls
  obtain ⟨d1',EK,_⟩:=DG.ins
  refine ⟨_,rfl,o,dx,_,rfl,EK,rfl,_,rfl,t0,_,_,_,rfl,rfl,ah.of Fx,aw (j:=5) rfl,?_⟩
  refine ⟨_,rfl,t0,_,_,_,rfl,rfl,ah.of Fx,aw (j:=4) rfl,tp,rfl,⟨_,ah.of GV⟩,?_⟩
  refine uQ (K:=K) (a:=tp) (xs:=us.map V.ref) (fun i ys H'=>Same H1 H'/\i<=us.length/\∃ (ts:List Addr) (pv:List (ae × V)),ys=ts.map V.ref/\ts.length=i/\pv.length=i/\(∀ (j:Nat) (t:Addr) (p:ae × V),ts[j]?=some t->pv[j]?=some p->H' t=some (.tup [kV p.1,p.2]))/\∀ (j:Nat) (p:ae × V) (q:Str × Str),pv[j]?=some p->ps[j]?=some q->p=(.inr q.1,.int ((m:Nat):Int)))
   ⟨Same.refl _,Qu _,[],[],rfl,rfl,rfl,fun j t p h=>by simp at h,fun j p q h=>by simp at h⟩ (fun i ys H' _ h=>ah.of (h.1 _ _ GV)) ?_ ?_
  ·rintro i x ys H2 hx ⟨s2,hi2,ts,pv,rfl,htl,Er,E8,hpat⟩
   have Ej:i<us.length:=by
    have:=(Qc hx).1
    rw [Qd] at this;exact this
   have ex:x=V.ref us[i]:=by rw [Qr,Qa Ej] at hx;exact (Qq hx).symm
   subst ex
   have hip:i<ps.length:=by lia
   have hu2:=s2 _ _ (l1.ls.1 _ _ (huat i us[i] ps[i] (Qa Ej) (Qa hip)))
   intro os Es
   obtain ⟨o1,o2,rfl⟩:=jU Es
   refine ⟨us[i],_,rfl,ah.of hu2,rfl,_,_,rfl,_,_,rfl,rfl,⟨[_,_],rfl,rfl⟩,?_⟩
   refine eP ?_
   rw [if_pos rfl]
   refine ⟨_,rfl,_,rfl,bL,fun q3 Fd=>?_⟩
   have s5:=ak (o:=.tup [.str ps[i].1,.int ((m:Nat):Int)]) Fd
   refine ⟨by rw [Qd];exact cH (by lia),s2.trans s5,by lia,ts++[q3],pv++[(.inr ps[i].1,.int ((m:Nat):Int))],by simp,by simp [htl],by simp [Er],fun j t p h1 h2=>?_,fun j p q h1 h2=>?_⟩
   ·by_cases hj:j<i
    ·rw [Qp (by lia)] at h1 h2
     exact s5 _ _ (E8 j t p h1 h2)
    ·have Gx:j=i:=by have:=(Qc h1).1;simp at this;lia
     subst Gx
     rw [Ql (by lia)] at h1 h2
     have e1:t=q3:=by simpa [htl] using h1.symm
     have e2:p=(.inr ps[j].1,.int ((m:Nat):Int)):=by simpa [Er] using h2.symm
     subst e1 e2
     exact ai
   ·by_cases hj:j<i
    ·rw [Qp (by lia)] at h1
     exact hpat j p q h1 h2
    ·have Gx:j=i:=by have:=(Qc h1).1;simp at this;lia
     subst Gx
     rw [Ql (by lia)] at h1
     have e2:p=(.inr ps[j].1,.int ((m:Nat):Int)):=by simpa [Er] using h1.symm
     rw [Qa hip] at h2
     rw [e2,Qq h2]
  ·rintro ys H2 ⟨s2,_,ts,pv,rfl,htl,Er,E8,hpat⟩ q hq
   rw [Qd] at htl Er
   have sq:=ak (o:=.lst (ts.map V.ref)) hq
   refine ⟨q,ts,pv,rfl,ai,by lia,fun j t p h1 h2=>sq _ _ (E8 j t p h1 h2),fun d3 hd3=>?_⟩
   have s3:=(s2.trans sq).trans (ak (o:=.dK (fq pv)) hd3)
   have lk3:=dL s3
   have FM:H1 d3=none:=Same.free (s2.trans sq) hd3
   have hgv:cq (upd (upd H2 q (.lst (ts.map V.ref))) d3 (.dK (fq pv))) d3 (fun s=>if m.testBit s=true then ps.map (·.1) else []) 20:=by
    refine ⟨_,ai,by have:=nu pv;lia,fun y=>if y∈ps.map (·.1) then m else 0,fun y=>?_,fun y=>?_,fun y s=>?_⟩
    ·dsimp only;split
     ·exact hm.2
     ·decide
    ·rw [BO pv ps (by lia) hpat]
     by_cases hy:y∈ps.map (·.1)
     ·simp only [if_pos hy,if_neg (QX hm.1)]
     ·simp only [if_neg hy,if_true]
    ·dsimp only
     by_cases hy:y∈ps.map (·.1)
     ·rw [if_pos hy]
      by_cases hb:m.testBit s=true
      ·rw [if_pos hb];exact ⟨fun _=>hy,fun _=>hb⟩
      ·rw [if_neg hb];exact ⟨fun z=>absurd z hb,fun z=>by simp at z⟩
     ·rw [if_neg hy,Nat.zero_testBit]
      split
      ·exact ⟨fun z=>(nomatch z),fun z=>absurd z hy⟩
      ·exact ⟨fun z=>(nomatch z),fun z=>by simp at z⟩
   refine ⟨o,dx,d2,d3,lb,F,tt,n,zs,b,fun s=>(if m.testBit s=true then ps.map (·.1) else [],bB m fs (fun s=>c9 (tt s) r (kd::ps.map (·.2))) s),N+60,20,rfl,s3 _ _ hlb1,hLb1.kept s3.ls,hd,ha.2.2.2,DG.same s3,(hF.kept l1.ls).kept s3.ls,hn,hgv,by lia,hc,by lia,fun H4 l4 Dz _=>?_⟩
   refine kq H4 (l1.trans ⟨lk3.ls.trans l4.ls,fun a kv h=>l4.dk _ _ (fun z=>by rw [z,FM] at h;cases h) (lk3.dk _ _ h)⟩) ?_
   have ef:(fun s=>(if m.testBit s=true then bg (tt s) (au s (.df m r z kd ps b)) ([],fs s) else ([],fs s)).2)=fun s=>(lbTs (tt s) (cutM s b) (if m.testBit s=true then ps.map (·.1) else [],bB m fs (fun s=>c9 (tt s) r (kd::ps.map (·.2))) s)).2:=funext fun s=>by
    unfold bB
    by_cases hb:m.testBit s=true
    ·rw [if_pos hb,if_pos hb,if_pos hb,au,bg]
    ·rw [if_neg hb,if_neg hb,if_neg hb,nQ ha.2.2.1 (by cases e:m.testBit s with | true=>exact absurd e hb | false=>rfl),lbTs]
   rw [ef]
   exact Dz
noncomputable abbrev BQ:List Str:=["self","statements","given","mask","one","block"]
theorem o9:a7 BQ ["self","statements","given"] (aL oI):=⟨rfl,rfl,rfl,by decide +kernel,rfl,by decide +kernel,by decide +kernel⟩
theorem BR (T:All P w K mg AA DD) (k:Nat) (GY:aF P w K mg base aG (2*k+13) AA.Zb DD.Zb ["self","statements","given"] (hW AA.c_NameLook k)) :
  aF P w K mg base aG (2*(k+1)+13) AA.Zb DD.Zb ["self","statements","given"] (hW AA.c_NameLook (k+1)):=by
 have GE:=uK (base:=base) T 8
 have GX:=A9 (base:=base) T
 have GK:=Ba (base:=base) T
 have GD:=oW (base:=base) T
 have GLD:=BP (base:=base) T k GY
 refine T.F_Zb.ok o9 (fun vs H Q E h=>?_) (fun Ds A outer s H vs Q E hr h=>?_)
 ·obtain ⟨o,dx,d2,g,l,F,tt,n,xs,ts,q,N,ng,rfl,_⟩:=h
  rfl
 ·obtain ⟨o,dx,d2,g,l,F,tt,n,xs,ts,q,N,ng,rfl,hl,hL,hd,ha,hk,hF,hn,hg,hN,hn4,hng,kq⟩:=h
  have nd:=o9.nd
  have hrL:ay (2*k+14) _:=hr
  have hrB:ay (2*k+13) _:=hrL.mono (by lia)
  have Fc:ay 12 _:=hrB.mono (by lia)
  have Dw:ay 1 _:=hrB.mono (by lia)
  refine ⟨_,(ao (dU PassesOwn.never rfl (dC (pv 1)) (eK rfl (br (a9 (i:=3) nd rfl (Or.inl rfl)) (br (a9 (i:=4) nd rfl (Or.inl rfl)) dm))) (ao (aX (aM bu (az (aN (K:=K) rfl) (pv 4) af (fun _ _=>rfl)) aI (aR _)) (ao (bV (cW (pv 0) T.cl_NameLook T.M_Zd GLD hrL T.b_Zd .nil aD (aa (pv 3) (aa (pv 4) ag))) (by rfl))) (ao (aX (aM fZ (az (aN (K:=K) rfl) (pv 4) af (fun _ _=>rfl)) aI (aR _)) (aA (bV (cW (pv 0) T.cl_NameLook T.M_Zc GE Fc T.b_Zc .nil aD (aa (pv 3) (aa (aK GX Dw rfl T.m_ZF T.k_ZF T.b_ZF .nil aD (aa (pv 4) ag)) (aa (az (aN (K:=K) rfl) (pv 4) af (fun _ _=>rfl)) (aa (pv 2) ag))))) (by rfl)) (aA (aX (aM bu (az (aN (K:=K) rfl) (pv 4) af (fun _ _=>rfl)) aI (aR _)) (ao (bV (aK GD Dw rfl T.m_ZK T.k_ZK T.b_ZK .nil aD (aa (pv 2) (aa (az (aN (K:=K) rfl) (pv 4) af (fun _ _=>rfl)) (aa (pv 3) ag)))) (by rfl))) bi) (ao (dU PassesOwn.never rfl (dC (aK GK Dw rfl T.m_Zv T.k_Zv T.b_Zv .nil aD (aa (pv 4) ag))) (a9 (i:=5) nd rfl (Or.inl rfl)) (ao (bV (cW (pv 0) T.cl_NameLook T.M_Zb GY hrB T.b_Zb .nil aD (aa (pv 5) (aa (pv 2) ag))) (by rfl))) (by intro _;rfl))))) bi)))) (by intro _;rfl))),?_⟩
  refine ⟨_,rfl,l,rfl,⟨_,aj.of hl⟩,?_⟩
  have FV:=hL.length
  refine fY (K:=K) (a:=l) (xs:=xs) (fun i σ' H'=>cA g H H'/\(∃ x3 x4 x5,σ'=[some (.ref o),some (.ref l),some (.ref g),x3,x4,x5])/\bp H' AA.c_NameLook o dx d2 F (fun s=>(lbTs (tt s) (cutM s (ts.take i)) (q s)).2) (N+60*cos (ts.take i))/\cq H' g (fun s=>(lbTs (tt s) (cutM s (ts.take i)) (q s)).1) (ng+cnts (ts.take i))) ⟨cA.refl _ _,⟨_,_,_,rfl⟩,by simpa [cutM,lbTs,cos] using hk,by simpa [cutM,lbTs,cnts] using hg⟩ (fun i σ' H' _ h=>aj.of (h.1.ls.2 _ _ hl)) ?_ ?_
  ·rintro i x σ' H1 hx ⟨l1,⟨x3,x4,x5,rfl⟩,DG,hg1⟩
   obtain ⟨t,ht,hO⟩:=hL.get hx
   have hO1:=hO.kept l1.ls
   have hF1:=hF.kept l1.ls
   have hm:t∈ts:=Qh ht
   obtain ⟨Ez,hta⟩:=gT ha hm
   have hdm:=iP hm
   obtain ⟨ec1,ec2⟩:=uS ht
   obtain ⟨en1,en2⟩:=uT ht
   have eq1:(fun s=>lbTs (tt s) (cutM s (ts.take (i+1))) (q s))=fun s=>if t.mask.testBit s=true then bg (tt s) (au s t) (lbTs (tt s) (cutM s (ts.take i)) (q s)) else lbTs (tt s) (cutM s (ts.take i)) (q s):=funext fun s=>by
    rw [o6 ht s,uR]
    split
    ·rw [lbTs,lbTs]
    ·rw [lbTs]
   have eq1':∀ s,lbTs (tt s) (cutM s (ts.take (i+1))) (q s)=if t.mask.testBit s=true then bg (tt s) (au s t) (lbTs (tt s) (cutM s (ts.take i)) (q s)) else lbTs (tt s) (cutM s (ts.take i)) (q s):=fun s=>congrFun eq1 s
   obtain ⟨q1,Fe⟩:∃ q1:Nat->St,∀ s,lbTs (tt s) (cutM s (ts.take i)) (q s)=q1 s:=⟨_,fun _=>rfl⟩
   simp only [Fe] at DG hg1 eq1'
   have fin:∀ {H':Hp} {y3 y4 y5:Option V},cA g H H'->bp H' AA.c_NameLook o dx d2 F (fun s=>(if t.mask.testBit s=true then bg (tt s) (au s t) (q1 s) else q1 s).2) (N+60*(cos (ts.take i)+t.co))->cq H' g (fun s=>(if t.mask.testBit s=true then bg (tt s) (au s t) (q1 s) else q1 s).1) (ng+(cnts (ts.take i)+t.cnt)) ->
     cA g H H'/\(∃ x3 x4 x5,[some (V.ref o),some (.ref l),some (.ref g),y3,y4,y5]=[some (.ref o),some (.ref l),some (.ref g),x3,x4,x5])/\bp H' AA.c_NameLook o dx d2 F (fun s=>(lbTs (tt s) (cutM s (ts.take (i+1))) (q s)).2) (N+60*cos (ts.take (i+1)))/\cq H' g (fun s=>(lbTs (tt s) (cutM s (ts.take (i+1))) (q s)).1) (ng+cnts (ts.take (i+1))):=fun h1 h2 h3=>by
    simp only [eq1',ec1,en1]
    exact ⟨h1,⟨_,_,_,rfl⟩,h2,h3⟩
   clear Fe eq1 eq1'
   cases hO1 with
   | plain e _=>cases e
   | @shared p y _ _ hp hS =>
   have Gy:=hS
   cases hS with
   | @mk t0 vs _ DP DW =>
   obtain ⟨vr,rfl⟩:=lW DW
   obtain ⟨d1,hi,_⟩:=DG.ins
   refine ⟨p,_,rfl,ah.of hp,rfl,_,_,rfl,_,_,rfl,rfl,?_⟩
   refine ⟨_,rfl,t0,_,_,_,rfl,rfl,ah.of DP,aw (j:=0) rfl,rfl,_,rfl,?_⟩
   cases FK:t.ex with
   | none =>
    cases t with
    | df m r z kd ps b =>
     refine bO (Qo rfl) ?_
     have hb:deeps b<=(Tr.df m r z kd ps b).deep:=iO (by simp [Tr.parts])
     have hcn:(Tr.df m r z kd ps b).cnt=1+cnts b:=by simp [Tr.cnt]
     have hco:(Tr.df m r z kd ps b).co=1+cos b:=by simp [Tr.co]
     rw [hco] at ec2 fin
     rw [hcn] at en2 fin
     refine ⟨_,rfl,o,dx,_,rfl,hi,rfl,_,rfl,_,rfl,o,dx,d2,F,tt,n,.ref t0,m,r,z,kd,ps,b,fun s=>(q1 s).2,_,rfl,Gy,Ez,hta,by lia,DG,hF1,hn,by lia,by lia,fun H2 l2 Dq=>?_⟩
     have e1:(fun s=>(if m.testBit s=true then bg (tt s) (au s (.df m r z kd ps b)) (q1 s) else q1 s).2)=fun s=>(if m.testBit s=true then bg (tt s) (au s (.df m r z kd ps b)) ([],(q1 s).2) else ([],(q1 s).2)).2:=funext fun s=>by
      split
      ·rw [au,bg,bg]
      ·rfl
     have e2:(fun s=>(if m.testBit s=true then bg (tt s) (au s (.df m r z kd ps b)) (q1 s) else q1 s).1)=fun s=>(q1 s).1:=funext fun s=>by
      split
      ·rw [au,bg]
      ·rfl
     refine fin (l1.trans l2.g) ?_ ?_
     ·show bp H2 AA.c_NameLook o dx d2 F (fun s=>(if m.testBit s=true then bg (tt s) (au s (.df m r z kd ps b)) (q1 s) else q1 s).2) _
      rw [e1]
      exact Dq.to (fun _ _=>Iff.rfl) (by lia)
     ·show cq H2 g (fun s=>(if m.testBit s=true then bg (tt s) (au s (.df m r z kd ps b)) (q1 s) else q1 s).1) _
      rw [e2]
      exact (hg1.kept l2).mono (by lia)
    | kd m r z ps =>
     refine bd (Qi (by intro q;injection q with q;exact absurd q (by simp only [Tr.kw];decide +kernel))) ?_
     refine ⟨_,rfl,t0,_,_,_,rfl,rfl,ah.of DP,aw (j:=0) rfl,rfl,_,rfl,?_⟩
     refine bd (by
      show (!decide (V.str "kind"=V.str "kind"))=false
      rw [Qo rfl];rfl) ?_
     have e1:∀ s,(if (Tr.kd m r z ps).mask.testBit s=true then bg (tt s) (au s (.kd m r z ps)) (q1 s) else q1 s)=q1 s:=fun s=>by
      split
      ·rw [au,bg]
      ·rfl
     simp only [e1] at fin
     exact fin l1 (DG.to (fun _ _=>Iff.rfl) (by lia)) (hg1.mono (by lia))
    | _=>cases FK
   | some ee =>
   refine bd (Qi fun z=>(tU FK).1 (by injection z)) ?_
   refine ⟨_,rfl,t0,_,_,_,rfl,rfl,ah.of DP,aw (j:=0) rfl,rfl,_,rfl,?_⟩
   refine bO (by
    show (!decide (V.str t.kw=V.str "kind"))=true
    rw [Qi fun z=>(tU FK).2 (by injection z)];rfl) ?_
   have hfit:=BN hta FK
   have hcb:=A7 t
   have hcob:=BL FK
   rw [hcob] at ec2 fin
   rw [hcb] at en2 fin
   refine ⟨_,rfl,o,dx,_,rfl,hi,rfl,_,rfl,_,rfl,.ref t0,t,ee,rfl,Gy,FK,fun x hx=>?_⟩
   refine ⟨_,rfl,t0,_,_,_,rfl,rfl,ah.of DP,aw (j:=1) rfl,_,rfl,o,dx,d2,g,F,tt,n,fun s=>(q1 s).2,_,fun s=>(q1 s).1,_,x,ee,t.mask,t.row,rfl,hx,hfit.1,hfit.2,DG,hF1,hn,hg1,by lia,Ez.2,fun H2 l2 Dq=>?_⟩
   have hg2:=hg1.kept l2
   have D5:=l2.ls.1 _ _ DP
   dsimp only
   refine gk (fun σ' H'=>(∃ x5,σ'=[some (.ref o),some (.ref l),some (.ref g),some (.int ((t.mask:Nat):Int)),some (.ref t0),x5])/\cA g H2 H'/\bp H' AA.c_NameLook o dx d2 F (fun s=>(if t.mask.testBit s=true then cQ (tt s) t ee (q1 s) else q1 s).2) (N+60*cos (ts.take i)+60*ee.sz)/\cq H' g (fun s=>(if t.mask.testBit s=true then cQ (tt s) t ee (q1 s) else q1 s).1) (ng+cnts (ts.take i)+1)) (fun R hR=>?_) ?_
   ·have e2:(fun s=>(if t.mask.testBit s=true then cQ (tt s) t ee (q1 s) else q1 s).2)=bB t.mask (fun s=>(q1 s).2) fun s=>bF (tt s) (q1 s).1 t.row ee:=funext fun s=>by
     unfold bB
     split<;>rfl
    rw [e2] at hR
    refine ⟨_,rfl,t0,_,_,_,rfl,rfl,ah.of D5,aw (j:=0) rfl,rfl,_,rfl,?_⟩
    by_cases hset:∃ m r z e,t=.set m r z e
    ·obtain ⟨m,r,z,e',rfl⟩:=hset
     refine bO (Qo rfl) ?_
     obtain ⟨t0',ve,e1,ht0',_⟩:=sX Gy
     cases e1
     obtain ⟨og,xg,ob,g1,g2,g3,g4,g5,kv',g6⟩:=hg2.add (by lia) Ez z
     refine ⟨_,rfl,_,rfl,t0,_,_,_,rfl,rfl,ah.of (l2.ls.1 _ _ ht0'),aw (j:=2) rfl,_,rfl,g,.str z,m,rfl,.inl ⟨_,.inl g6⟩,.inr ⟨QX Ez.1,og,xg,_,g1,g2,g3,hR _ _ ⟨⟨_,rfl⟩,g5,Dq.upd g6,?_⟩⟩⟩
     have e3:(fun s=>(if (Tr.set m r z e').mask.testBit s=true then cQ (tt s) (.set m r z e') ee (q1 s) else q1 s).1)=i3 m (fun s=>(q1 s).1) z:=funext fun s=>by
      unfold i3
      show (if m.testBit s=true then cQ (tt s) (.set m r z e') ee (q1 s) else q1 s).1=_
      split<;>rfl
     rw [e3]
     exact g4
    ·have D4:t.kw≠"set":=by
      cases t with
      | set m r z e'=>exact absurd ⟨_,_,_,_,rfl⟩ hset
      | _=>simp only [Tr.kw];decide +kernel
     refine bd (Qi fun z=>D4 (by injection z)) ?_
     have hnm:md t=[]:=by
      cases t with
      | set m r z e'=>exact absurd ⟨_,_,_,_,rfl⟩ hset
      | _=>rfl
     have e3:(fun s=>(if t.mask.testBit s=true then cQ (tt s) t ee (q1 s) else q1 s).1)=fun s=>(q1 s).1:=funext fun s=>by
      split
      ·show (q1 s).1++md t=_
       rw [hnm,QM]
      ·rfl
     rw [e3] at hR
     exact hR _ _ ⟨⟨_,rfl⟩,cA.refl _ _,Dq,hg2.mono (by lia)⟩
   ·rintro σ' H3 ⟨⟨x5',rfl⟩,l3,Dn,hg3⟩
    have l13:=(l1.trans l2.g).trans l3
    refine ⟨_,rfl,.ref t0,t,rfl,Gy.kept (l2.ls.trans l3.ls),fun pb ys H4 s4 hpb DA=>⟨pb,rfl,⟨_,aj.of hpb⟩,?_⟩⟩
    have Dz:=Dn.same s4
    have hg4:=hg3.kept (dL s4)
    have l4:=l13.trans (dL s4).g
    have hF4:=hF.kept l4.ls
    have D8:=DA.length
    rw [Qd] at D8
    have efin:∀ s,(if t.mask.testBit s=true then bg (tt s) (au s t) (q1 s) else q1 s)=t.blocks.foldl (fun q b=>lbTs (tt s) (cutM s b) q) (if t.mask.testBit s=true then cQ (tt s) t ee (q1 s) else q1 s):=fun s=>by
     by_cases hb:t.mask.testBit s=true
     ·rw [if_pos hb,if_pos hb,BM _ _ FK]
     ·rw [if_neg hb,if_neg hb,uU fun b E1=>nQ (gq hta (uV E1)).2.1 (by cases e:t.mask.testBit s with | true=>exact absurd e hb | false=>rfl)]
    simp only [efin] at fin
    obtain ⟨q2,DN⟩:∃ q2:Nat->St,∀ s,(if t.mask.testBit s=true then cQ (tt s) t ee (q1 s) else q1 s)=q2 s:=⟨_,fun _=>rfl⟩
    simp only [DN] at Dz hg4 fin
    clear efin DN
    refine fY (K:=K) (a:=pb) (xs:=ys) (fun j σ' H'=>cA g H4 H'/\(∃ x5,σ'=[some (.ref o),some (.ref l),some (.ref g),some (.int ((t.mask:Nat):Int)),some (.ref t0),x5])/\bp H' AA.c_NameLook o dx d2 F (fun s=>((t.blocks.take j).foldl (fun q b=>lbTs (tt s) (cutM s b) q) (q2 s)).2) (N+60*cos (ts.take i)+60*ee.sz+60*((t.blocks.take j).map cos).sum)/\cq H' g (fun s=>((t.blocks.take j).foldl (fun q b=>lbTs (tt s) (cutM s b) q) (q2 s)).1) (ng+cnts (ts.take i)+1+((t.blocks.take j).map cnts).sum)) ⟨cA.refl _ _,⟨_,rfl⟩,by simpa using Dz,by simpa using hg4⟩ (fun j σ' H' _ h=>aj.of (h.1.ls.2 _ _ hpb)) ?_ ?_
    ·rintro j v σ' H5 hv ⟨l5,⟨x6',rfl⟩,Gc,hg5⟩
     obtain ⟨pp,hpp,hPP⟩:=DA.get hv
     rw [Qr] at hpp
     obtain ⟨bs,hbs,rfl⟩:=Option.map_eq_some_iff.mp hpp
     have hbm:=Qh hbs
     obtain ⟨fb,hn5⟩:=o7 (f:=cos) hbs
     obtain ⟨fb2,hn52⟩:=o7 (f:=cnts) hbs
     have hPP:=hPP.kept l5.ls
     cases hPP with
     | @b lb zs _ hlb hLb =>
     obtain ⟨d1,hi5,_⟩:=Gc.ins
     obtain ⟨hj',ej⟩:=Qc hbs
     have est:∀ s,(t.blocks.take (j+1)).foldl (fun q b=>lbTs (tt s) (cutM s b) q) (q2 s)=lbTs (tt s) (cutM s bs) ((t.blocks.take j).foldl (fun q b=>lbTs (tt s) (cutM s b) q) (q2 s)):=fun s=>by
      rw [Qm hj',ej,List.foldl_append];rfl
     obtain ⟨q3,Fd⟩:∃ q3:Nat->St,∀ s,(t.blocks.take j).foldl (fun q b=>lbTs (tt s) (cutM s b) q) (q2 s)=q3 s:=⟨_,fun _=>rfl⟩
     simp only [Fd] at Gc hg5 est
     have Ga:=uV hbm
     have hdb:=iO Ga
     refine ⟨_,rfl,o,dx,_,rfl,hi5,rfl,_,rfl,_,rfl,o,dx,d2,g,lb,F,tt,n,zs,bs,q3,_,_,rfl,hlb,hLb,by lia,(gq hta Ga).2.2,Gc,hF4.kept l5.ls,hn,hg5,by lia,by lia,by lia,fun H' ls FX hg'=>⟨l5.trans ls,⟨_,rfl⟩,?_,?_⟩⟩
     ·simp only [est,fb];exact FX.to (fun _ _=>Iff.rfl) (by lia)
     ·simp only [est,fb2];exact hg'.mono (by lia)
    ·rintro σ' H5 ⟨l5,⟨x6',rfl⟩,Gc,hg5⟩
     rw [Qv (by lia)] at Gc hg5
     exact fin (l4.trans l5) (Gc.to (fun _ _=>Iff.rfl) (by lia)) (hg5.mono (by lia))
  ·rintro σ' H1 ⟨l1,⟨x3,x4,x5,rfl⟩,DG,hg1⟩
   rw [Qv (by lia)] at DG hg1
   exact kq _ l1 DG hg1
theorem BS (T:All P w K mg AA DD):aF P w K mg base aG (2*0+13) AA.Zb DD.Zb ["self","statements","given"] (hW AA.c_NameLook 0):=by
 have no:∀ vs H Q E,¬ hW AA.c_NameLook 0 vs H Q E:=fun vs H Q E h=>by
  obtain ⟨o,dx,d2,g,l,F,tt,n,xs,ts,q,N,ng,_,_,_,z,_⟩:=h
  lia
 exact T.F_Zb.ok o9 (fun vs H Q E h=>(no _ _ _ _ h).elim) (fun Ds A outer s H vs Q E hr h=>(no _ _ _ _ h).elim)
theorem uY (T:All P w K mg AA DD):∀ k:Nat,aF P w K mg base aG (2*k+13) AA.Zb DD.Zb ["self","statements","given"] (hW AA.c_NameLook k)
 | 0=>BS T
 | k+1=>BR T k (uY T k)
noncomputable def hX (D:Dm):List (List ae):=(bE (D.map (·.1))).map fun k=>.inl (((valN D k).getD 0:Nat):Int)::k
inductive uZ (vs:List V) (H:Hp) (Q:VK) (E:XK):Prop
 | mk:∀ (d:Addr) (D:Dm),vs=[.ref d]->H d=some (.dT (dV D))->D.length<100000->(∀ q∈D,q.1.map bn=[true,false,false])->(∀ p ys H',Same H H'->H' p=some (.lst ys)->bY H' ys (hX D)->Q (.ref p) H')->uZ vs H Q E
noncomputable abbrev u0:List Str:=["found"]
theorem u4:a7 u0 ["found"] (aL lG):=⟨rfl,rfl,rfl,by decide +kernel,rfl,by decide +kernel,by decide +kernel⟩
theorem BU (T:All P w K mg AA DD):aF P w K mg base aG 1 AA.Zp DD.Zp ["found"] uZ:=by
 refine T.F_Zp.ok u4 (fun vs H Q E h=>?_) (fun Ds A outer s H vs Q E hr h=>?_)
 ·obtain ⟨d,D,rfl,_⟩:=h
  rfl
 ·obtain ⟨d,D,rfl,hd,Gq,DV,kq⟩:=h
  have nd:=u4.nd
  have hu:=QN (Nat.add_le_add_left (show 1<=64 by decide) _) hr.units
  refine ⟨_,(ao (aS (gP (aL lG) u0 ["found"] [0] rfl (by exact ⟨rfl,rfl,by decide +kernel,rfl,by decide +kernel,by decide +kernel,by decide +kernel,rfl,by decide +kernel⟩) rfl rfl (dC (cu (Ar rfl) rfl T.n_sorted z9 (aa (pv 0) ag))) (fun _ _ _ _=>eQ) (fun _ _ _ _=>(am (z8 (K:=K) rfl) (aV (aa (yP hu (pv 1) (pv 0) (fun _ _=>rfl)) ag)) (pv 0)))))),?_⟩
  have hmp:(dV D).map (·.1)=D.map (·.1):=by
   unfold dV
   rw [QZ]
   rfl
  generalize hfs:D.map (·.1)=fs at hmp
  have hfl:fs.length=D.length:=by rw [<- hfs,Qd]
  refine ⟨_,rfl,d,dV D,[true,false,false],rfl,hd,(by unfold dV;rw [Qd];lia),fun kv hkv=>?_,by simp,fun p xs hp hT=>?_⟩
  ·unfold dV at hkv
   obtain ⟨k,hk,rfl⟩:=QH hkv
   exact DV k hk
  rw [hmp] at hT ⊢
  have s1:=ak (o:=.lst (bX fs xs)) hp
  have hS:=AK hT
  unfold hX at kq
  rw [hfs] at kq
  refine ⟨p,rfl,⟨_,aj.of ai⟩,?_⟩
  have h64s:(bE fs).length<=100000:=by
   unfold bE
   rw [Qd,jQ]
   lia
  refine m5 (K:=K) (a:=p) (xs:=bX fs xs) (fun i ys H'=>Same (upd H p (.lst (bX fs xs))) H'/\i<=(bX fs xs).length/\bY H' ys (((bE fs).take i).map fun k=>.inl (((valN D k).getD 0:Nat):Int)::k)) ⟨Same.refl _,Qu _,by simp,fun j x d h=>by simp at h⟩ (fun i ys H' _ h=>aj.of (h.1 _ _ ai)) ?_ ?_
  ·rintro i x ys H1 hx ⟨sm,hi,DA⟩
   have EB:=(Qc hx).1
   have hik:i<(bE fs).length:=by rw [<- hS.1];exact EB
   obtain ⟨t,rfl,ht⟩:=hS.2 i x (bE fs)[i] hx (Qa hik)
   have D8:=DA.1
   rw [Qd,QD] at D8
   have FT:(bE fs)[i]∈fs:=by
    obtain ⟨j,hj,e⟩:=QH (QL hik)
    rw [<- e,Qe,Qa (lS j hj)]
    exact QL _
   obtain ⟨q0,hq0,eq0⟩:∃ q0∈D,q0.1=(bE fs)[i]:=by
    generalize (bE fs)[i]=kk at FT
    rw [<- hfs] at FT
    exact QH FT
   have GZ:=DV q0 hq0
   rw [eq0] at GZ
   have Fx:=sm _ _ (s1 _ _ ht)
   have FM:=sm _ _ (s1 _ _ hd)
   rw [Qm hik,QQ]
   generalize hk:(bE fs)[i]=k at ht Fx FT GZ eq0 ⊢
   have hnn:k≠[]:=fun z=>by rw [z] at GZ;simp at GZ
   have D2:k.length=3:=by
    have:=congrArg List.length GZ
    rw [Qd] at this
    exact this
   obtain ⟨nv,hval⟩:∃ nv,valN D k=some nv:=by
    unfold valN
    cases e:D.find? fun q=>decide (q.1=k) with
    | none=>exact absurd (Qo eq0) (List.find?_eq_none.mp e q0 hq0)
    | some q=>exact ⟨q.2,rfl⟩
   refine eP ?_
   rw [if_pos rfl]
   refine ⟨_,rfl,_,rfl,d,.int ((nv:Nat):Int),rfl,by rw [show (some (V.int ((nv:Nat):Int)):Option V)=bv (dV D) k by rw [l7,hval];rfl];exact cv.t FM Fx,dh,fun q hq=>?_⟩
   have s2:=ak (o:=.tup [.int ((nv:Nat):Int)]) hq
   refine ⟨_,rfl,q,t,[.int ((nv:Nat):Int)],k.map kV,rfl,rfl,ah.of ai,ah.of (s2 _ _ Fx),by simp,?_,fun z=>absurd (by simpa using z) hnn,fun _ q2 DN=>?_⟩
   ·rw [Qd,D2]
    show 1+3<=sizeLine
    decide
   have s3:=ak (o:=.tup ([.int ((nv:Nat):Int)]++k.map kV)) DN
   refine ⟨o0 (by lia),(sm.trans s2).trans s3,by lia,?_⟩
   refine ⟨by simp [DA.1],fun j y e hy he=>?_⟩
   by_cases hj:j<ys.length
   ·rw [Qp hj] at hy
    rw [Qp (by rw [Qd,QD];lia)] at he
    obtain ⟨t',a1,a2⟩:=DA.2 j y e hy he
    exact ⟨t',a1,s3 _ _ (s2 _ _ a2)⟩
   ·rw [Ql (by lia)] at hy
    rw [Ql (by rw [Qd,QD];lia),Qd,QD,<- D8] at he
    have hj2:=(Qc hy).1
    have Gx:j-ys.length=0:=by simpa using hj2
    rw [Gx] at hy he
    have y1:V.ref q2=y:=by simpa using hy
    have e1:(.inl (((valN D k).getD 0:Nat):Int)::k:List ae)=e:=by simpa using he
    rw [hval] at e1
    exact ⟨q2,y1.symm,by rw [<- e1];exact ai⟩
  ·rintro ys H1 ⟨sm,hi,DA⟩ q hq
   have s2:=ak (o:=.lst ys) hq
   rw [Qv (by rw [hS.1];exact Qf _)] at DA
   exact kq q ys _ ((s1.trans sm).trans s2) ai ⟨DA.1,fun j x k a b=>by obtain ⟨t,e,h⟩:=DA.2 j x k a b;exact ⟨t,e,s2 _ _ h⟩⟩
noncomputable def FN (ts:List Tr):List (List ae):=(lbTs ts ts ([],cj [] (cb [] ts))).2
noncomputable def dO (rule:Nat) (ts:List Tr):bS:=fun s=>if rule.testBit s=true then FN (cutM s ts) else []
def i4 (ts:List Tr):Prop:=deeps ts<5/\ts.length<=40/\ascs ts/\cos ts<1000/\cnts ts<400
def da (k:List ae):Prop:=∃ r a z,k=k3 r a z
theorem BV {tt:List Tr} {r:Nat} {a DO z:Str} {n:Nat} {k:List ae} (h:k∈d7 tt r a DO z n):da k:=by
 unfold d7 at h
 split at h
 ·exact ⟨_,_,_,by simpa using h⟩
 ·split at h
  ·simp at h
  ·exact ⟨_,_,_,by simpa using h⟩
mutual
theorem i5 {tt:List Tr} {kn:List Str} {r:Nat} {k:List ae}:∀ {e:Ex},k∈bF tt kn r e->da k
 | .many w z es,h=>by
  rw [bF] at h
  rcases Qw h with h | h
  ·exact BV h
  ·exact exs_k3 h
 | .name z,h=>by
  rw [bF] at h
  split at h
  ·simp at h
  ·exact ⟨_,_,_,by simpa using h⟩
 | .not e,h=>by rw [bF] at h;exact i5 h
 | .op _ a b,h=>by
  rw [bF] at h
  rcases Qw h with h | h
  ·exact i5 h
  ·exact i5 h
 | .of _ e,h=>by rw [bF] at h;exact i5 h
 | .num _,h=>by simp [bF] at h
 | .truth _,h=>by simp [bF] at h
theorem exs_k3 {tt:List Tr} {kn:List Str} {r:Nat} {k:List ae}:∀ {es:List Ex},k∈exKs tt kn r es->da k
 | [],h=>by simp [exKs] at h
 | e::es,h=>by
  rw [exKs] at h
  rcases Qw h with h | h
  ·exact i5 h
  ·exact exs_k3 h
end
theorem BW {tt:List Tr} {r:Nat} {zs:List Str} {k:List ae} (h:k∈c9 tt r zs):da k:=by
 obtain ⟨z,_,h⟩:=List.mem_flatMap.mp h
 unfold gx at h
 split at h
 ·simp at h
 ·split at h
  ·simp at h
  ·exact ⟨_,_,_,by simpa using h⟩
theorem j1 {tt:List Tr} {t:Tr} {e:Ex} {q:St} (hq:∀ k∈q.2,da k):∀ k∈(cQ tt t e q).2,da k:=fun k h=>by
 rcases fA.mp (show k∈cj q.2 (bF tt q.1 t.row e) from h) with h | h
 ·exact hq k h
 ·exact i5 h
mutual
theorem BX {tt:List Tr}:∀ (t:Tr) (q:St),(∀ k∈q.2,da k)->∀ k∈(bg tt t q).2,da k
 | .set m r n e,q,hq=>by rw [bg];exact j1 hq
 | .tell m r e,q,hq=>by rw [bg];exact j1 hq
 | .give m r e,q,hq=>by rw [bg];exact j1 hq
 | .iff m r e b o,q,hq=>by rw [bg];exact lbs_k3 o _ (lbs_k3 b _ (j1 hq))
 | .whl m r e b,q,hq=>by rw [bg];exact lbs_k3 b _ (j1 hq)
 | .df m r n kd ps b,q,hq=>by
  rw [bg]
  exact lbs_k3 b _ fun k h=>by
   rcases fA.mp (show k∈cj q.2 (c9 tt r (kd::ps.map (·.2))) from h) with h | h
   ·exact hq k h
   ·exact BW h
 | .kd m r n ps,q,hq=>by rw [bg];exact hq
theorem lbs_k3 {tt:List Tr}:∀ (ts:List Tr) (q:St),(∀ k∈q.2,da k)->∀ k∈(lbTs tt ts q).2,da k
 | [],q,hq=>by rw [lbTs];exact hq
 | t::ts,q,hq=>by rw [lbTs];exact lbs_k3 ts _ (BX t q hq)
end
theorem u5 {k:List ae}:∀ {ts:List Tr} {ab:List Str},k∈cb ab ts->da k
 | [],_,h=>by simp [cb] at h
 | t::ts,ab,h=>by
  rw [cb] at h
  rcases Qw h with h | h
  ·unfold gw at h
   split at h
   ·simp at h
   ·split at h
    ·exact ⟨_,_,_,by simpa using h⟩
    ·simp at h
  ·exact u5 h
theorem u6 {ts:List Tr}:∀ k∈FN ts,da k:=lbs_k3 ts _ fun k h=>by
 rcases fA.mp (show k∈cj [] (cb [] ts) from h) with h | h
 ·simp at h
 ·exact u5 h
theorem BY:FN []=[]:=by unfold FN;rw [lbTs];rfl
theorem cP.val {D:Dm} {fs:bS} (h:cP D fs) {q:List ae × Nat} (hq:q∈D):valN D q.1=some q.2:=by
 unfold valN
 cases e:D.find? fun p=>decide (p.1=q.1) with
 | none=>exact absurd (Qo rfl) (List.find?_eq_none.mp e q hq)
 | some p =>
  have hp0:=List.find?_some e
  have EG:p.1=q.1:=QS hp0
  have hpm:=List.mem_of_find?_eq_some e
  have:p=q:=by
   obtain ⟨i,hi,e1⟩:=QU hpm
   obtain ⟨j,hj,e2⟩:=QU hq
   have pw:=List.pairwise_iff_getElem.mp h.nd
   have En:i=j:=by
    rcases Nat.lt_trichotomy i j with z | z | z
    ·exact (pw i j (by simpa using hi) (by simpa using hj) z (by simp [e1,e2,EG])).elim
    ·exact z
    ·exact (pw j i (by simpa using hj) (by simpa using hi) z (by simp [e1,e2,EG])).elim
   subst En
   rw [<- e1,<- e2]
  rw [this];rfl
inductive u7 (vs:List V) (H:Hp) (Q:VK) (E:XK):Prop
 | mk:∀ (l:Addr) (xs:List V) (ts:List Tr) (rule:Nat),vs=[.ref l,.int ((rule:Nat):Int)]->H l=some (.lst xs)->LAt H true xs ts->i4 ts->(∀ p ys D H',bI H H'->H' p=some (.lst ys)->bY H' ys (hX D)->cP D (dO rule ts)->D.length<100000->Q (.ref p) H')->u7 vs H Q E
noncomputable abbrev BZ:List Str:=["tree","mask","kept","look"]
theorem u9:a7 BZ ["tree","mask"] (aL ou):=⟨rfl,rfl,rfl,by decide +kernel,rfl,by decide +kernel,by decide +kernel⟩
theorem va (T:All P w K mg AA DD):aF P w K mg base aG 24 AA.Zl DD.Zl ["tree","mask"] u7:=by
 have GF:=tJ (base:=base) T 5
 have GC:=BJ (base:=base) T
 have GT:=BH (base:=base) T
 have GY:=uY (base:=base) T 5
 have GW:=BU (base:=base) T
 refine T.F_Zl.ok u9 (fun vs H Q E h=>?_) (fun Ds A outer s H vs Q E hr h=>?_)
 ·obtain ⟨l,xs,ts,rule,rfl,_⟩:=h
  rfl
 ·obtain ⟨l,xs,ts,rule,rfl,hl,hL,⟨hd,h40,ha,hco,hcn⟩,kq⟩:=h
  have nd:=u9.nd
  have hrB:ay (2*5+13) _:=hr
  have Gu:ay 15 _:=hrB.mono (by lia)
  have hr4:ay 4 _:=Gu.mono (by lia)
  have Ep:ay 3 _:=Gu.mono (by lia)
  have EF:ay 2 _:=Gu.mono (by lia)
  have Dw:ay 1 _:=Gu.mono (by lia)
  refine ⟨_,(aA (aY (i:=2) nd rfl (Or.inl rfl) (aK GF Gu rfl T.m_Zt T.k_Zt T.b_Zt .nil aD (aa (pv 0) (aa (pv 1) ag)))) (aA (aY (i:=3) nd rfl (Or.inl rfl) (xT T.M_NameLook GC hr4 rfl T.m_NameLook T.b_Zi .nil aD (aa (pv 2) ag))) (aA (bV (cW (pv 3) T.cl_NameLook T.M_Za GT Ep T.b_Za .nil aD (aa (pv 2) ag)) (by rfl)) (aA (bV (cW (pv 3) T.cl_NameLook T.M_Zb GY hrB T.b_Zb .nil aD (aa (pv 2) (aa rq ag))) (by rfl)) (ao (aS (aK GW Dw rfl T.m_Zp T.k_Zp T.b_Zp .nil aD (aa (kG (pv 3) rfl) ag)))))))),?_⟩
  refine ⟨_,rfl,_,rfl,l,xs,ts,rule,rfl,hl,hL,hd,h40,ha,fun p ys us H1 s1 hp DA D6=>?_⟩
  have DZ:=D6.len
  have hom:∀ t∈us,bK t.mask:=fun t ht=>(gT D6.asc ht).1
  have hco2:=D6.co
  have hcn2:=D6.cn
  have hdp:=D6.dp
  dsimp only [aW]
  refine ⟨_,rfl,fun o dx ho hdx ne=>?_⟩
  have s2:Same H1 (upd (upd H1 dx (.own o)) o (.ins AA.c_NameLook dx [])):=(ak (o:=.own o) hdx).trans (ak (by rw [al (Ne.symm ne)];exact ho))
  refine ⟨o,dx,p,ys,us,rfl,ai,s2 _ _ hp,DA.kept s2.ls,by lia,hom,fun d2 F H3 l3 Dn hF3=>⟨rfl,?_⟩⟩
  have Gm:=l3.2 _ _ (s2 _ _ hp)
  have hL3:=(DA.kept s2.ls).kept l3
  obtain ⟨d1,hi3,_⟩:=Dn.ins
  dsimp only [aW]
  refine ⟨_,rfl,o,dx,_,rfl,hi3,rfl,_,rfl,o,dx,d2,p,F,ys,us,_,0,rfl,Gm,hL3,hom,by lia,Dn,by lia,fun H4 l4 Dz=>?_⟩
  obtain ⟨d1',hi4,_⟩:=Dz.ins
  refine ⟨_,rfl,o,dx,_,rfl,hi4,rfl,_,rfl,fun g hg'=>?_⟩
  have s5:=ak (o:=.dK []) hg'
  refine ⟨o,dx,d2,g,p,F,fun s=>cutM s us,us.length,ys,us,fun s=>([],cj [] (cb [] (cutM s us))),50,0,rfl,s5 _ _ (l4.ls.2 _ _ Gm),(hL3.kept l4.ls).kept s5.ls,by lia,D6.asc,Dz.same s5,(hF3.kept l4.ls).kept s5.ls,by lia,⟨[],ai,Qf _,fun _=>0,fun _=>(by decide:0<256),fun z=>rfl,fun z s=>by simp⟩,by lia,by lia,by lia,fun H6 l6 hk6 _=>?_⟩
  obtain ⟨d1',hi6,_⟩:=hk6.ins
  obtain ⟨D,hD,hFl,hDl⟩:=hk6.flt
  have hFl2:cP D (dO rule ts):=hFl.to fun s k=>by
   unfold dO
   show k∈FN (cutM s us)↔_
   by_cases hb:rule.testBit s=true
   ·rw [if_pos hb,D6.cut s hb]
   ·rw [if_neg hb,nQ D6.sub (by cases e:rule.testBit s with | true=>exact absurd e hb | false=>rfl),BY]
  refine ⟨_,rfl,o,AA.c_NameLook,dx,_,_,rfl,hi6,T.cl_NameLook,T.na_NameLook_faults,rfl,d2,D,rfl,hD,by lia,fun q hq=>?_,fun q zs H7 s7 hq hT=>kq q zs D H7 ?_ hq hT hFl2 (by lia)⟩
  ·
   have h0:=(hFl2.ok q hq).1
   have hv:valN D q.1=some q.2:=hFl2.val hq
   have hb:=lu (QX h0)
   have hm:=(hFl2.bit q.1 (dZ q.2)).mp (by rw [hv];exact hb)
   unfold dO at hm
   split at hm
   ·obtain ⟨r,a,z,e⟩:=u6 _ hm
    rw [e];rfl
   ·simp at hm
  ·exact (((((s1.trans s2).ls.trans l3).trans l4.ls).trans s5.ls).trans l6.ls).trans s7.ls
theorem B1 {fs:List (List ae)} {k:List ae} (h:k∈bE fs):k∈fs:=by
 obtain ⟨j,hj,e⟩:=QH h
 rw [<- e,Qe,Qa (lS j hj)]
 exact QL _
theorem B2 {fs:List (List ae)} (hj:∀ j,j<fs.length->j∈ck fs) {k:List ae} (h:k∈fs):k∈bE fs:=by
 obtain ⟨j,hl,e⟩:=List.getElem_of_mem h
 unfold bE
 refine List.mem_map.mpr ⟨j,hj j hl,?_⟩
 rw [Qe,Qa hl]
 exact e
theorem cP.mem {D:Dm} {fs:bS} (h:cP D fs) {k:List ae}:k∈D.map (·.1)↔∃ s,k∈fs s:=by
 constructor
 ·intro hk
  obtain ⟨q,hq,rfl⟩:=QH hk
  exact ⟨dZ q.2,(h.bit q.1 _).mp (by rw [h.val hq];exact lu (QX (h.ok q hq).1))⟩
 ·rintro ⟨s,hs⟩
  have hb:=(h.bit k s).mpr hs
  unfold valN at hb
  cases e:D.find? fun q=>decide (q.1=k) with
  | none=>rw [e] at hb;simp at hb
  | some q =>
   have h0:=List.find?_some e
   have h1:q.1=k:=QS h0
   exact List.mem_map.mpr ⟨q,List.mem_of_find?_eq_some e,h1⟩
theorem pd {rule:Nat} {ts:List Tr} {D:Dm} (h:cP D (dO rule ts)):∀ k∈D.map (·.1),da k:=fun k hk=>by
 obtain ⟨s,hs⟩:=h.mem.mp hk
 unfold dO at hs
 split at hs
 ·exact u6 _ hs
 ·simp at hs
theorem me {rule:Nat} {ts:List Tr} {D:Dm} (h:cP D (dO rule ts)):(bE (D.map (·.1))).Pairwise (fun x y=>a8 x y=true)/\∀ k,k∈bE (D.map (·.1))↔k∈D.map (·.1):=by
 obtain ⟨u1,u2,u3⟩:=sy (ds:=D.map (·.1)) (sh:=[true,false,false]) (fun d hd=>by obtain ⟨r,a,z,rfl⟩:=pd h d hd;rfl) h.nd
 exact ⟨u1,fun k=>⟨B1,B2 u3⟩⟩
inductive vc (vs:List V) (H:Hp) (Q:VK) (E:XK):Prop
 | mk:∀ (l:Addr) (xs:List V) (ts:List Tr),vs=[.ref l]->H l=some (.lst xs)->LAt H false xs ts->i4 ts->(∀ p ys ks H',bI H H'->H' p=some (.lst ys)->bY H' ys ks->ks.Pairwise (fun x y=>a8 x y=true)->(∀ k,k∈ks↔k∈FN (cutM 0 ts))->Q (.ref p) H')->vc vs H Q E
noncomputable abbrev vd:List Str:=["tree"]
theorem vf:a7 vd ["tree"] (aL lM):=⟨rfl,rfl,rfl,by decide +kernel,rfl,by decide +kernel,by decide +kernel⟩
theorem B3 (T:All P w K mg AA DD):aF P w K mg base aG 25 AA.Zm DD.Zm ["tree"] vc:=by
 have GF:=tw (base:=base) T 5
 have GS:=va (base:=base) T
 refine T.F_Zm.ok vf (fun vs H Q E h=>?_) (fun Ds A outer s H vs Q E hr h=>?_)
 ·obtain ⟨l,xs,ts,rfl,_⟩:=h
  rfl
 ·obtain ⟨l,xs,ts,rfl,hl,hL,hok,kq⟩:=h
  have nd:=vf.nd
  have hrS:ay 24 _:=hr
  have Gu:ay 11 _:=hrS.mono (by lia)
  refine ⟨_,(ao (aS (kR (xs:=["mask","at","what","name"]) (aL lM) vd [] [] rfl (by exact ⟨rfl,rfl,by decide +kernel,by decide +kernel,by decide +kernel,by decide +kernel,by decide +kernel,rfl,by decide +kernel⟩) rfl rfl (dC (aK GS hrS rfl T.m_Zl T.k_Zl T.b_Zl .nil aD (aa (aK GF Gu rfl T.m_Zu T.k_Zu T.b_Zu .nil aD (aa (pv 0) ag)) (aa af ag)))) (fun _ _ _ _=>(jG (K:=K) (n:=4) rfl rfl (br (a9 (i:=0) (show (["mask","at","what","name"]:List Str).Nodup by decide +kernel) rfl (Or.inl rfl)) (br (a9 (i:=1) (show (["mask","at","what","name"]:List Str).Nodup by decide +kernel) rfl (Or.inl rfl)) (br (a9 (i:=2) (show (["mask","at","what","name"]:List Str).Nodup by decide +kernel) rfl (Or.inl rfl)) (br (a9 (i:=3) (show (["mask","at","what","name"]:List Str).Nodup by decide +kernel) rfl (Or.inl rfl)) dm)))))) (fun _ _ _ _=>eQ) (fun _ _ _ _=>(aV (aa (pv 1) (aa (pv 2) (aa (pv 3) ag)))))))),?_⟩
  refine ⟨_,rfl,l,xs,ts,rfl,hl,hL,hok.1,hok.2.1,hok.2.2.1,fun p ys H1 s1 hp DA=>?_⟩
  refine ⟨p,ys,ts,1,rfl,hp,DA,hok,fun q zs D H2 l2 hq hT hFl hDl=>?_⟩
  obtain ⟨f1,f2⟩:=me hFl
  have DV:∀ k∈bE (D.map (·.1)),da k:=fun k hk=>pd hFl k ((f2 k).mp hk)
  have FT:∀ k,k∈bE (D.map (·.1))↔k∈FN (cutM 0 ts):=fun k=>by
   rw [f2,hFl.mem]
   constructor
   ·rintro ⟨s,hs⟩
    unfold dO at hs
    by_cases h0:s=0
    ·subst h0;rw [if_pos (by decide)] at hs;exact hs
    ·rw [if_neg (by rw [show (1:Nat)=2 ^ 0 from rfl,Nat.testBit_two_pow];simp;lia)] at hs;simp at hs
   ·intro h
    exact ⟨0,by unfold dO;rw [if_pos (by decide)];exact h⟩
  have hll:(bE (D.map (·.1))).length=D.length:=by
   unfold bE
   rw [Qd,jQ,Qd]
  unfold hX at hT
  generalize bE (D.map (·.1))=ks at hT f1 f2 DV FT hll
  refine ⟨q,rfl,⟨_,aj.of hq⟩,?_⟩
  have hzl:=hT.1
  rw [Qd] at hzl
  refine np (K:=K) (a:=q) (xs:=zs) (fun i ys H'=>Same H2 H'/\i<=zs.length/\bY H' ys (ks.take i)) ⟨Same.refl _,Qu _,by simp,fun j x d h=>by simp at h⟩ (fun i ys H' _ h=>aj.of (h.1 _ _ hq)) ?_ ?_
  ·rintro i x us H3 hx ⟨sm,hi,DY⟩
   have EB:=(Qc hx).1
   have hik:i<ks.length:=by lia
   obtain ⟨t,rfl,ht⟩:=hT.2 i x (.inl (((valN D ks[i]).getD 0:Nat):Int)::ks[i]) hx (by rw [Qr,Qa hik];rfl)
   obtain ⟨r,a,z,ek⟩:=DV _ (QL hik)
   rw [ek] at ht
   generalize ((valN D (k3 r a z)).getD 0)=mv at ht
   have ht3:H3 t=some (.tup [.int ((mv:Nat):Int),.int ((r:Nat):Int),.str a,.str z]):=sm _ _ ht
   have DZ:=DY.1
   rw [QD] at DZ
   intro os Es
   obtain ⟨a1,b1,c1,d1,rfl⟩:=Au Es
   refine ⟨t,_,rfl,ah.of ht3,rfl,_,_,rfl,_,_,rfl,_,_,rfl,_,_,rfl,rfl,⟨[_,_,_,_],rfl,rfl⟩,?_⟩
   refine eP ?_
   rw [if_pos rfl]
   refine ⟨_,rfl,_,rfl,_,rfl,dR,fun q2 DN=>?_⟩
   have s3:=ak (o:=.tup [.int ((r:Nat):Int),.str a,.str z]) DN
   refine ⟨o0 (by lia),sm.trans s3,by lia,?_⟩
   rw [Qm hik,ek]
   refine ⟨by simp [DY.1],fun j y e hy he=>?_⟩
   by_cases hj:j<us.length
   ·rw [Qp hj] at hy
    rw [Qp (by rw [QD];lia)] at he
    obtain ⟨t',a1,a2⟩:=DY.2 j y e hy he
    exact ⟨t',a1,s3 _ _ a2⟩
   ·rw [Ql (by lia)] at hy
    rw [Ql (by rw [QD];lia),QD,<- DZ] at he
    have hj2:=(Qc hy).1
    have Gx:j-us.length=0:=by simpa using hj2
    rw [Gx] at hy he
    have y1:V.ref q2=y:=by simpa using hy
    have e1:k3 r a z=e:=by simpa using he
    exact ⟨q2,y1.symm,by rw [<- e1];exact ai⟩
  ·rintro us H3 ⟨sm,hi,DY⟩ q3 Fd
   have s3:=ak (o:=.lst us) Fd
   rw [Qv (by lia)] at DY
   exact kq q3 us ks _ (((s1.ls.trans l2).trans sm.ls).trans s3.ls) ai ⟨DY.1,fun j x k a b=>by obtain ⟨t,e,h⟩:=DY.2 j x k a b;exact ⟨t,e,s3 _ _ h⟩⟩ f1 FT
end
theorem B4 (a b:Str):(a++b).cps.toList=a.cps.toList++b.cps.toList:=QJ ..
theorem vg (a b:Str):(a++b).length=a.length+b.length:=Array.size_append ..
theorem mh (c:Nat):(⟨#[c]⟩:Str).length=1:=rfl
theorem vh (z:Str):z.cps.toList.length=z.length:=by simp [Str.length]
theorem db {a:Int} {n:Nat} (h:0<n):∃ j:Nat,a % (n:Int)=(j:Int)/\j<n:=⟨(a % (n:Int)).toNat,by
 have:=Int.emod_nonneg a (show (n:Int)≠0 by lia)
 lia,by
 have:=Int.emod_nonneg a (show (n:Int)≠0 by lia)
 have:=Int.emod_lt_of_pos a (show (0:Int)<(n:Int) by lia)
 lia⟩
section
variable {P:Program} {w:World} {K:W.Frag} {mg:Str->Option Value} {base:Heap} {AA:oN} {DD:lR}
noncomputable def e8 (ns:List Int) (j:Nat):Int:=ns.getD j 0
inductive vi (K:W.Frag) (vs:List V) (H:Hp) (Q:VK) (E:XK):Prop
 | mk:∀ (a:Addr) (ns:List Int) (j:Nat),vs=[.ref a,.int ((j:Nat):Int)]->aj K H a (ns.map V.int)->Q (.int (e8 ns j)) H->vi K vs H Q E
noncomputable abbrev B5:List Str:=["_law_script","_law_k"]
theorem vj:a7 B5 ["_law_script","_law_k"] (aL ow):=⟨rfl,rfl,rfl,by decide +kernel,rfl,by decide +kernel,by decide +kernel⟩
theorem vk (T:All P w K mg AA DD):aF P w K mg base aG 1 AA.Zn DD.Zn ["_law_script","_law_k"] (vi K):=by
 refine T.F_Zn.ok vj (fun vs H Q E h=>?_) (fun Ds A outer s H vs Q E hr h=>?_)
 ·obtain ⟨a,ns,k,rfl,_⟩:=h
  rfl
 ·obtain ⟨a,ns,j,rfl,hS,k⟩:=h
  have nd:=vj.nd
  refine ⟨_,(aA (aX (aM iq (pv 1) (cu fo rfl T.n_len eR (aa (pv 0) ag)) (aR _)) (ao (aS (az (b9 (K:=K) rfl) (pv 0) (pv 1) (fun _ _=>rfl)))) bi) (ao (aS af))),?_⟩
  refine ⟨_,rfl,_,rfl,a,_,rfl,.inl hS,_,_,rfl,rfl,_,rfl,?_⟩
  rw [Qd]
  unfold e8 at k
  refine cD (fun h1=>?_) (fun h1=>?_)
  ·have h1:((j:Nat):Int)<(ns.length:Int):=QS h1
   refine ⟨_,rfl,_,rfl,a,_,_,_,rfl,rfl,hS,aw (j:=j) (by rw [Qr,Qa (by omega)];rfl),?_⟩
   rw [Qe,Qa (by omega)] at k
   exact k
  ·have h1:¬((j:Nat):Int)<(ns.length:Int):=fun z=>h1 (Qo z)
   rw [Qe,List.getElem?_eq_none (by omega)] at k
   exact k
noncomputable def aJ (c k:Int):Int:=((c+7919*k+1)*48271 % 2147483647)*((c+7919*k+1)*48271 % 2147483647 / 1009+69621) % 2147483647
theorem B6 (c k:Int):0<=aJ c k:=Int.emod_nonneg _ (by decide)
inductive vm (vs:List V) (H:Hp) (Q:VK) (E:XK):Prop
 | mk:∀ c k:Int,vs=[.int c,.int k]->Q (.int (aJ c k)) H->vm vs H Q E
noncomputable abbrev B7:List Str:=["_law_cell","_law_k","_law_number"]
theorem vn:a7 B7 ["_law_cell","_law_k"] (aL ox):=⟨rfl,rfl,rfl,by decide +kernel,rfl,by decide +kernel,by decide +kernel⟩
theorem j4 (T:All P w K mg AA DD):aF P w K mg base aG 1 AA.Zw DD.Zw ["_law_cell","_law_k"] vm:=by
 refine T.F_Zw.ok vn (fun vs H Q E h=>?_) (fun Ds A outer s H vs Q E hr h=>?_)
 ·obtain ⟨c,k,rfl,_⟩:=h
  rfl
 ·obtain ⟨c,j,rfl,k⟩:=h
  have nd:=vn.nd
  unfold aJ at k
  refine ⟨_,(aA (aY (i:=2) nd rfl (Or.inl rfl) (am bG (am jr (am eM (am eM (pv 0) (am jr af (pv 1))) af) af) af)) (ao (aS (am bG (am jr (pv 2) (am eM (am cM (pv 2) af) af)) af)))),?_⟩
  refine ⟨_,rfl,_,rfl,_,_,rfl,rfl,.inl ⟨by decide,by decide⟩,_,_,rfl,rfl,_,_,rfl,rfl,_,_,rfl,rfl,.inr ⟨by decide,by decide⟩,_,_,rfl,rfl,(by show (0:Int)<2147483647;decide),?_⟩
  try dsimp only [aW]
  have b0:=Int.emod_nonneg ((c+7919*j+1)*48271) (show (2147483647:Int)≠0 by decide)
  have b1:=Int.emod_lt_of_pos ((c+7919*j+1)*48271) (show (0:Int)<2147483647 by decide)
  generalize (c+7919*j+1)*48271 % 2147483647=y at b0 b1 k ⊢
  exact ⟨_,rfl,_,rfl,_,_,rfl,rfl,⟨by decide,by decide⟩,_,_,rfl,rfl,_,_,rfl,rfl,.inl ⟨by lia,by lia⟩,_,_,rfl,rfl,(by show (0:Int)<2147483647;decide),k⟩
noncomputable abbrev eE:Str:="xyzuvwpqabcdefghijklmnorst"
theorem vq:eE.length=26:=by decide +kernel
noncomputable def wQ (x:Int):Nat->Str
 | 0=>"q"
 | i+1=>wQ x i++⟨#[eE.cps.toList.getD (x / (7+25*((i:Nat):Int)) % 26).toNat 0]⟩
theorem ph (x:Int):∀ i,(wQ x i).length=i+1
 | 0=>by show ("q":Str).length=1;decide +kernel
 | i+1=>by
  show (wQ x i++_).length=i+1+1
  rw [vg,mh,ph x i]
noncomputable def cR (x:Int):Str:=wQ x (1+(x % 7).toNat)
theorem B8 (x:Int):2<=(cR x).length/\(cR x).length<=8:=by
 unfold cR
 rw [ph]
 have:=Int.emod_lt_of_pos x (show (0:Int)<7 by decide)
 have:=Int.emod_nonneg x (show (7:Int)≠0 by decide)
 lia
noncomputable def hZ (x:Int):Int:=1+x / 8 % (((cR x).length:Nat)-1:Int)
noncomputable abbrev pz:Str:="gkvzbm"
noncomputable def vt (x:Int) (i:Nat):Str:=gj (cR x) none (some (hZ x))++(⟨#[pz.cps.toList.getD i 0]⟩:Str)++gj (cR x) (some (hZ x+1)) none
noncomputable def j5 (x:Int):List Str:=(List.range 6).map (vt x)
inductive vv (vs:List V) (H:Hp) (Q:VK) (E:XK):Prop
 | mk:∀ x:Int,vs=[.int x]->0<=x->(∀ p H',H p=none->Same H H'->H' p=some (.lst ((j5 x).map V.str))->Q (.ref p) H')->vv vs H Q E
noncomputable abbrev vx:List Str:=["_law_number","_law_some","_law_word","_law_k","_law_at"]
theorem vz:a7 vx ["_law_number"] (aL lN):=⟨rfl,rfl,rfl,by decide +kernel,rfl,by decide +kernel,by decide +kernel⟩
theorem B9 (T:All P w K mg AA DD):aF P w K mg base aG 1 AA.Zx DD.Zx ["_law_number"] vv:=by
 refine T.F_Zx.ok vz (fun vs H Q E h=>?_) (fun Ds A outer s H vs Q E hr h=>?_)
 ·obtain ⟨x,rfl,_⟩:=h
  rfl
 ·obtain ⟨x,rfl,hx,k⟩:=h
  have nd:=vz.nd
  have hq:=B8 x
  refine ⟨_,(aA (aY (i:=1) nd rfl (Or.inl rfl) aI) (aA (aY (i:=2) nd rfl (Or.inr rfl) aI) (aA (dU PassesOwn.never rfl (io rfl T.n_range (aa (am eM af (am bG (pv 0) af)) ag)) (a9 (i:=3) nd rfl (Or.inl rfl)) (ao (aY (i:=2) nd rfl (Or.inr rfl) (am mN (pv 2) (az qF (pv 1) (am bG (am cM (pv 0) (am eM af (am jr af (pv 3)))) af) (fun _ _=>rfl))))) (by intro _;rfl)) (aA (aY (i:=4) nd rfl (Or.inr rfl) (am eM af (am bG (am cM (pv 0) af) (am fj (cu yl rfl T.n_len eR (aa (pv 2) ag)) af)))) (ao (aS (gP (aL lN) vx ["_law_word","_law_at"] [2,4] rfl (by exact ⟨rfl,rfl,by decide +kernel,rfl,by decide +kernel,by decide +kernel,by decide +kernel,rfl,by decide +kernel⟩) rfl rfl (z5 aI) (fun _ _ _ _=>eQ) (fun _ _ _ _=>(am mN (am mN (fm qZ (pv 1) fN (eO (pv 2))) (pv 0)) (fm qZ (pv 1) (eO (am eM (pv 2) af)) fN)))))))))),?_⟩
  refine nl ?_
  try dsimp only [aW]
  refine nl ?_
  try dsimp only [aW]
  have hsz:eE.length<=sizeLine:=by rw [vq];decide
  have s9:∀ {n:Nat},n<=100->n<=sizeLine:=fun h=>QY (gN (by lia))
  obtain ⟨m,em,hm⟩:=db (a:=x) (n:=7) (by decide)
  have em:x % 7=((m:Nat):Int):=em
  have ew:cR x=wQ x (1+m):=by unfold cR;rw [em,QE]
  refine gl (fun σ' H'=>H'=H/\∃ (x3:Option V),σ'=[some (.int x),some (.str eE),some (.str (cR x)),x3,none]) (fun R hR=>?_) ?_
  ·refine ⟨_,rfl,_,_,rfl,rfl,(by show (0:Int)<7;decide),_,_,rfl,rfl,_,rfl,?_,?_,?_⟩
   ·rw [em];lia
   ·rw [em];lia
   rw [em,show ((1:Int)+((m:Nat):Int)).toNat=1+m by lia]
   refine mH (D:=⟨R,_,R,R⟩) (fun i σ' H'=>H'=H/\∃ (x3:Option V),σ'=[some (.int x),some (.str eE),some (.str (wQ x i)),x3,none]) ⟨rfl,none,rfl⟩ ?_ ?_
   ·rintro i σ' H' hi ⟨rfl,x3,rfl⟩
    rw [Int.zero_add]
    obtain ⟨q,eq,hq⟩:=db (a:=x / (7+25*((i:Nat):Int))) (n:=26) (by decide)
    have eq:x / (7+25*((i:Nat):Int)) % 26=((q:Nat):Int):=eq
    have hql:q<eE.cps.toList.length:=by rw [vh,vq];exact hq
    refine ⟨_,rfl,_,rfl,_,rfl,_,rfl,_,_,rfl,rfl,.inl ⟨by decide,by decide⟩,_,_,rfl,rfl,_,_,rfl,rfl,⟨?_,?_⟩,_,_,rfl,rfl,(by show (0:Int)<26;decide),eE,_,eE.cps.toList[q],rfl,rfl,hsz,?_,_,_,rfl,rfl,?_,?_⟩
    ·show (0:Int)<7+25*((i:Nat):Int);lia
    ·show 7+25*((i:Nat):Int)<_;lia
    ·rw [eq];exact aw (Qa hql)
    ·rw [mh,ph];exact QY (gN (by lia))
    ·refine ⟨rfl,some (.int ((i:Nat):Int)),?_⟩
     show _=[some (V.int x),some (V.str eE),some (V.str (wQ x i++⟨#[eE.cps.toList.getD (x / (7+25*((i:Nat):Int)) % 26).toNat 0]⟩)),_,_]
     rw [eq,QE,Qe,Qa hql]
     rfl
   ·rintro σ' H' ⟨rfl,x3,rfl⟩
    exact hR _ _ ⟨rfl,x3,by rw [ew]⟩
  rintro σ' H' ⟨rfl,x3,rfl⟩
  refine ⟨_,rfl,_,_,rfl,rfl,⟨by decide,by decide⟩,_,rfl,cR x,rfl,s9 (by lia),_,_,rfl,rfl,_,_,rfl,rfl,(by show (0:Int)<((cR x).length:Int)-1;lia),_,_,rfl,rfl,?_⟩
  dsimp only [aW]
  show p7 _ _ [some (.int x),some (.str eE),some (.str (cR x)),x3,some (.int (hZ x))] _
  refine ⟨pz,rfl,by decide +kernel,?_⟩
  have hgl:pz.length=6:=by decide +kernel
  rw [hgl]
  refine z7 (fun i ys H1=>H1=H'/\i<=6/\ys=((List.range i).map (vt x)).map V.str) ⟨rfl,by lia,rfl⟩ ?_ ?_
  ·rintro i ys H1 hi ⟨rfl,_,rfl⟩
   refine eP ?_
   rw [if_pos rfl]
   have l1:=qY (cR x) none (some (hZ x))
   have l2:=qY (cR x) (some (hZ x+1)) none
   refine ⟨_,rfl,_,rfl,hZ x,rfl,cR x,rfl,s9 (by lia),_,rfl,_,_,rfl,rfl,s9 (by rw [mh];lia),_,rfl,_,rfl,_,_,rfl,rfl,hZ x+1,rfl,cR x,rfl,s9 (by lia),_,_,rfl,rfl,s9 (by rw [vg,mh];lia),?_⟩
   refine ⟨by rw [Qd,Qd,List.length_range];exact gN (by lia),rfl,by lia,?_⟩
   rw [List.range_succ,QQ,QQ]
   rfl
  ·rintro ys H1 ⟨rfl,_,rfl⟩ p hp
   exact k p _ hp (ak hp) ai
def aQ (z:Str):Prop:=∀ c∈z.cps.toList,c<128
theorem aQ.app {a b:Str} (h:aQ a) (h':aQ b):aQ (a++b):=fun c hc=>by
 rw [B4] at hc
 exact (Qw hc).elim (h c) (h' c)
theorem aQ.cut {z:Str} (h:aQ z) (lo hi:Option Int):aQ (gj z lo hi):=fun c hc=>by
 rw [yE] at hc
 exact h c (List.mem_of_mem_drop (List.mem_of_mem_take hc))
theorem pA {z:Str} (h:aQ z) (j:Nat):aQ ⟨#[z.cps.toList.getD j 0]⟩:=fun c hc=>by
 have:c=z.cps.toList.getD j 0:=by simpa using hc
 rw [this,Qe]
 cases e:z.cps.toList[j]? with
 | none=>decide
 | some d=>exact h d (Qh e)
theorem j6 {ns:List Str} (h:∀ z∈ns,aQ z) (j:Nat):aQ (ns.getD j ""):=by
 rw [Qe]
 cases e:ns[j]? with
 | none=>show aQ (Str.ofString "");unfold aQ;decide +kernel
 | some d=>exact h d (Qh e)
theorem vA (x:Int):∀ i,aQ (wQ x i)
 | 0=>by show aQ ("q":Str);unfold aQ;decide +kernel
 | i+1=>(vA x i).app (pA (show aQ eE from by unfold aQ;decide +kernel) _)
theorem vB (x:Int):(j5 x).length=6/\∀ z∈j5 x,aQ z:=by
 have hq:aQ (cR x):=vA x _
 refine ⟨by simp [j5],fun z hz=>?_⟩
 obtain ⟨j,_,rfl⟩:=QH hz
 exact ((hq.cut _ _).app (pA (by unfold aQ;decide +kernel) j)).app (hq.cut _ _)
theorem eF {ns:List Str} {j:Nat} (h:j<ns.length):(ns.map V.str)[j]?=some (.str (ns.getD j "")):=by
 rw [Qr,Qe,Qa h];rfl
noncomputable abbrev fR:List Str:=["do","new"]
noncomputable abbrev fS:List Str:=["+","-","*","less","same","and","or"]
theorem Ca {j:Nat} (h:j<2):(fR.map V.str)[j]?=some (.str (fR.getD j "")):=eF h
theorem Cb {j:Nat} (h:j<7):(fS.map V.str)[j]?=some (.str (fS.getD j "")):=eF h
noncomputable def cK (ns:List Str) (x:Int):Str:=ns.getD (x % 6).toNat ""
noncomputable def i6 (ns:List Str) (x:Int):Ex:=if (x % 14 % 3 == 0)=true then .num (x / 14 % 10 ^ 18) else .name (cK ns (x / 14))
noncomputable def cS (ns:List Str):Nat->Int->Ex
 | 0,x=>i6 ns x
 | d+1,x=>if x % 14<6 then i6 ns x else if (x % 14 == 6)=true then .of (cK ns (x / 14)) (cS ns d (aJ x 1)) else
  if x % 14<11 then .many (fR.getD (x % 14 % 2).toNat "") (cK ns (x / 14 / 3)) ((List.range (x / 14 % 3).toNat).map fun k=>cS ns d (aJ x (2+((k:Nat):Int)))) else .op (fS.getD (x / 14 % 7).toNat "") (cS ns d (aJ x 2)) (cS ns d (aJ x 3))
theorem vC {H:Hp}:∀ {vs:List V} {es:List Ex} {v:V} {e:Ex},ExsAt H vs es->bo H v e->ExsAt H (vs++[v]) (es++[e])
 | _,_,_,_,.nil,h=>.cons h .nil
 | _,_,_,_,.cons a b,h=>.cons a (vC b h)
theorem pB {b1 b2:Bool} {T U E:Prop} (k:(if b2=true then T else U)->E) (h:if (b1||b2)=true then T else U):if b1=true then (if true=true then T else U) else E:=by
 cases b1
 ·rw [if_neg (by simp)];exact k (by simpa using h)
 ·rw [if_pos rfl,if_pos rfl];simpa using h
inductive i7 (k:Nat) (vs:List V) (H:Hp) (Q:VK) (E:XK):Prop
 | mk:∀ (x:Int) (l:Addr) (ns:List Str) (d:Nat),vs=[.int x,.ref l,.int ((d:Nat):Int)]->d<k->H l=some (.lst (ns.map V.str))->ns.length=6->(∀ v H',Same H H'->bo H' v (cS ns d x)->Q v H')->i7 k vs H Q E
noncomputable abbrev vD:List Str:=["_law_number","_law_names_here","_law_deep","_law_form","_law_more","_law_parts","_law_word","_law_left"]
theorem pE:a7 vD ["_law_number","_law_names_here","_law_deep"] (aL lO):=⟨rfl,rfl,rfl,by decide +kernel,rfl,by decide +kernel,by decide +kernel⟩
theorem Cc (T:All P w K mg AA DD) (k:Nat) (GE:aF P w K mg base aG (k+1) AA.ZA DD.ZA ["_law_number","_law_names_here","_law_deep"] (i7 k)):aF P w K mg base aG (k+1+1) AA.ZA DD.ZA ["_law_number","_law_names_here","_law_deep"] (i7 (k+1)):=by
 have GX:=j4 (base:=base) T
 refine T.F_ZA.ok pE (fun vs H Q E h=>?_) (fun Ds A outer s H vs Q E hr h=>?_)
 ·obtain ⟨x,l,ns,d,rfl,_⟩:=h
  rfl
 ·obtain ⟨x,l,ns,d,rfl,hd,hl,hn,kq⟩:=h
  have nd:=pE.nd
  have Fc:ay (k+1) _:=hr
  have Dw:ay 1 _:=Fc.mono (by lia)
  refine ⟨_,(aA (aY (i:=3) nd rfl (Or.inl rfl) (am bG (pv 0) af)) (aA (aY (i:=4) nd rfl (Or.inl rfl) (am cM (pv 0) af)) (aA (aX (PW.pt (fI (aM bu (pv 2) af (aR _)) (il (aM iq (pv 3) af (aR _))))) (aA (aX (aM bu (am bG (pv 3) af) af (aR _)) (ao (aS (aV (aa aI (aa (am bG (pv 4) (am xq af af)) ag))))) bi) (ao (aS (aV (aa aI (aa (az (b9 (K:=K) rfl) (pv 1) (am bG (pv 4) af) (fun _ _=>rfl)) ag)))))) bi) (aA (aX (aM bu (pv 3) af (aR _)) (ao (aS (aV (aa aI (aa (az (b9 (K:=K) rfl) (pv 1) (am bG (pv 4) af) (fun _ _=>rfl)) (aa (aK GE Fc rfl T.m_ZA T.k_ZA T.b_ZA .nil aD (aa (aK GX Dw rfl T.m_Zw T.k_Zw T.b_Zw .nil aD (aa (pv 0) (aa af ag))) (aa (pv 1) (aa (am fj (pv 2) af) ag)))) ag)))))) bi) (aA (aX (aM iq (pv 3) af (aR _)) (aA (nh (i:=5) (aL lO) vD ["_law_number","_law_names_here","_law_deep"] [0,1,2] rfl (by exact ⟨rfl,rfl,by decide +kernel,rfl,by decide +kernel,by decide +kernel,by decide +kernel,rfl,by decide +kernel⟩) rfl rfl (io rfl T.n_range (aa (am bG (pv 4) af) ag)) (fun _ _ _ _=>eQ) (fun _ _ _ _=>(aK GE Fc rfl T.m_ZA T.k_ZA T.b_ZA .nil aD (aa (aK GX Dw rfl T.m_Zw T.k_Zw T.b_Zw .nil aD (aa (pv 1) (aa (am eM af (pv 0)) ag))) (aa (pv 2) (aa (am fj (pv 3) af) ag))))) nd rfl rfl rfl) (ao (aS (aV (aa (az (b9 (K:=K) rfl) (bW (aa aI (aa aI ag))) (am bG (pv 3) af) (fun _ _=>rfl)) (aa (az (b9 (K:=K) rfl) (pv 1) (am bG (am cM (pv 4) af) af) (fun _ _=>rfl)) (aa (iy jz rfl T.n_tuple iE (aa (pv 5) ag)) ag))))))) bi) (aA (aY (i:=6) nd rfl (Or.inl rfl) (az (b9 (K:=K) rfl) (bW (aa aI (aa aI (aa aI (aa aI (aa aI (aa aI (aa aI ag)))))))) (am bG (pv 4) af) (fun _ _=>rfl))) (aA (aY (i:=7) nd rfl (Or.inl rfl) (aK GE Fc rfl T.m_ZA T.k_ZA T.b_ZA .nil aD (aa (aK GX Dw rfl T.m_Zw T.k_Zw T.b_Zw .nil aD (aa (pv 0) (aa af ag))) (aa (pv 1) (aa (am fj (pv 2) af) ag))))) (ao (aS (aV (aa (pv 6) (aa (pv 7) (aa (aK GE Fc rfl T.m_ZA T.k_ZA T.b_ZA .nil aD (aa (aK GX Dw rfl T.m_Zw T.k_Zw T.b_Zw .nil aD (aa (pv 0) (aa af ag))) (aa (pv 1) (aa (am fj (pv 2) af) ag)))) ag))))))))))))),?_⟩
  refine ⟨_,rfl,_,_,rfl,rfl,(by show (0:Int)<14;decide),?_⟩
  dsimp only [aW]
  refine ⟨_,rfl,_,_,rfl,rfl,⟨by decide,by decide⟩,?_⟩
  dsimp only [aW]
  have name:∀ y:Int,∃ j:Nat,y % 6=((j:Nat):Int)/\j<6/\cK ns y=ns.getD j "":=fun y=>by
   obtain ⟨j,ej,hj⟩:=db (a:=y) (n:=6) (by decide)
   have ej:y % 6=((j:Nat):Int):=ej
   exact ⟨j,ej,hj,by unfold cK;rw [ej,QE]⟩
  have dq:decide (V.int ((d:Nat):Int)=V.int 0)=decide (d=0):=by
   by_cases h:d=0
   ·rw [Qo h,h];rfl
   ·rw [Qi h,Qi (fun z=>h (by injection z with z;lia))]
  refine gk (fun σ' H'=>H'=H/\σ'=[some (.int x),some (.ref l),some (.int ((d:Nat):Int)),some (.int (x % 14)),some (.int (x / 14)),none,none,none]/\d≠0/\¬ x % 14<6) (fun R hR=>?_) ?_
  ·refine ⟨_,rfl,rfl,_,rfl,?_⟩
   refine pB (b2:=decide (x % 14<6)) (fun h=>⟨_,rfl,_,_,rfl,rfl,_,rfl,h⟩) ?_
   rw [dq]
   refine cD (fun h1=>?_) (fun h1=>?_)
   ·have hlf:cS ns d x=i6 ns x:=by
     cases d with
     | zero=>rfl
     | succ d=>rw [cS,if_pos (by simpa using h1)]
    rw [hlf] at kq
    unfold i6 at kq
    refine ⟨_,rfl,_,_,rfl,rfl,(by show (0:Int)<3;decide),rfl,_,rfl,?_⟩
    dsimp only
    rw [jt]
    refine cD (fun h2=>?_) (fun h2=>?_)
    ·rw [if_pos h2] at kq
     exact ⟨_,rfl,_,_,rfl,rfl,⟨by decide,by decide,by decide⟩,_,_,rfl,rfl,(by show (0:Int)<10 ^ 18;decide),bL,fun q hq=>kq _ _ (ak hq) (.num ai)⟩
    ·rw [if_neg h2] at kq
     obtain ⟨j,ej,hj,en⟩:=name (x / 14)
     rw [en] at kq
     refine ⟨_,rfl,_,rfl,_,_,rfl,rfl,(by show (0:Int)<6;decide),l,_,_,.str (ns.getD j ""),rfl,rfl,aj.of hl,?_,bL,fun q hq=>kq _ _ (ak hq) (.name ai)⟩
     show cf _ (x / 14 % 6)=_
     rw [ej];exact aw (eF (by lia))
   ·have F0:d≠0/\¬ x % 14<6:=by simpa using h1
    exact hR _ _ ⟨rfl,rfl,F0⟩
  rintro σ' H1 ⟨rfl,rfl,hd0,h6⟩
  obtain ⟨e,rfl⟩:∃ e,d=e+1:=⟨d-1,by lia⟩
  rw [cS,if_neg h6] at kq
  have sub:∀ y:Int,[V.int y,.ref l,.int (((e+1:Nat):Int)-1)]=[V.int y,.ref l,.int ((e:Nat):Int)]:=fun y=>by rw [show ((e+1:Nat):Int)-1=((e:Nat):Int) by lia]
  refine ⟨_,rfl,rfl,_,rfl,?_⟩
  rw [jt]
  refine cD (fun h2=>?_) (fun h2=>?_)
  ·rw [if_pos h2] at kq
   obtain ⟨j,ej,hj,en⟩:=name (x / 14)
   rw [en] at kq
   refine ⟨_,rfl,_,rfl,_,_,rfl,rfl,(by show (0:Int)<6;decide),l,_,_,.str (ns.getD j ""),rfl,rfl,aj.of hl,?_,_,rfl,x,1,rfl,_,rfl,_,rfl,_,_,rfl,rfl,aJ x 1,l,ns,e,sub _,by lia,hl,hn,fun v H2 s2 hv=>⟨dR,fun q hq=>kq _ _ (s2.trans (ak hq)) (.of ai (hv.kept (ak hq).tups))⟩⟩
   show cf _ (x / 14 % 6)=_
   rw [ej];exact aw (eF (by lia))
  rw [if_neg h2] at kq
  refine ⟨_,rfl,_,_,rfl,rfl,_,rfl,?_⟩
  refine cD (fun h3=>?_) (fun h3=>?_)
  ·rw [if_pos (show x % 14<11 from QS h3)] at kq
   obtain ⟨m,em,hm⟩:=db (a:=x / 14) (n:=3) (by decide)
   have em:x / 14 % 3=((m:Nat):Int):=em
   rw [em,QE] at kq
   refine ⟨_,rfl,_,_,rfl,rfl,(by show (0:Int)<3;decide),_,rfl,?_,?_,?_⟩
   ·show _<=x / 14 % 3;lia
   ·show x / 14 % 3<_;lia
   show gi (fh 0 (x / 14 % 3).toNat) _ _ _ _ _ _
   rw [em,QE]
   refine m4 (fun i ys H'=>Same H1 H'/\i<=3/\ys.length=i/\ExsAt H' ys ((List.range i).map fun k=>cS ns e (aJ x (2+((k:Nat):Int))))) ⟨Same.refl _,Qu _,rfl,.nil⟩ ?_ ?_
   ·rintro i ys H2 hi ⟨s2,_,D8,DA⟩
    rw [Int.zero_add]
    refine eP ?_
    rw [if_pos rfl]
    refine ⟨_,rfl,_,rfl,_,_,rfl,rfl,x,_,rfl,_,rfl,_,rfl,_,_,rfl,rfl,_,l,ns,e,sub _,by lia,s2 _ _ hl,hn,fun v H3 s3 hv=>?_⟩
    refine ⟨cH (by lia),s2.trans s3,by lia,by simp [D8],?_⟩
    rw [List.range_succ,QQ]
    exact vC (DA.kept s3.tups) hv
   ·rintro ys H2 ⟨s2,_,D8,DA⟩ p hp
    have sp:=ak (o:=.lst ys) hp
    have GP:=DA.kept sp.tups
    have s1:=s2.trans sp
    have EG:upd H2 p (.lst ys) p=some (.lst ys):=ai
    generalize upd H2 p (.lst ys)=H3 at s1 EG GP
    dsimp only [aW]
    obtain ⟨g,eg,hg⟩:=db (a:=x % 14) (n:=2) (by decide)
    have eg:x % 14 % 2=((g:Nat):Int):=eg
    obtain ⟨j,ej,hj,en⟩:=name (x / 14 / 3)
    rw [en,eg,QE] at kq
    refine ⟨bL,fun q hq=>?_⟩
    have s4:=ak (o:=.lst (fR.map V.str)) hq
    refine ⟨_,rfl,_,_,rfl,rfl,(by show (0:Int)<2;decide),q,_,_,.str (fR.getD g ""),rfl,rfl,aj.of ai,?_,?_⟩
    ·show cf _ (x % 14 % 2)=_
     rw [eg];exact aw (Ca hg)
    refine ⟨_,rfl,_,rfl,_,_,rfl,rfl,⟨by decide,by decide⟩,_,_,rfl,rfl,(by show (0:Int)<6;decide),l,_,_,.str (ns.getD j ""),rfl,rfl,aj.of (s4 _ _ (s1 _ _ hl)),?_,?_⟩
    ·show cf _ (x / 14 / 3 % 6)=_
     rw [ej];exact aw (eF (by lia))
    refine ⟨_,rfl,p,ys,rfl,.inl ⟨aj.of (s4 _ _ EG),fun q2 DN=>?_⟩⟩
    have s5:=ak (o:=.tup ys) DN
    refine ⟨dR,fun q3 Fd=>?_⟩
    have s6:=ak (o:=.tup [.str (fR.getD g ""),.str (ns.getD j ""),.ref q2]) Fd
    have s456:=(s4.trans s5).trans s6
    exact kq _ _ (s1.trans s456) (.many ai (s6 _ _ ai) (GP.kept s456.tups))
  ·rw [if_neg (show ¬ x % 14<11 from fun z=>h3 (Qo z))] at kq
   obtain ⟨g,eg,hg⟩:=db (a:=x / 14) (n:=7) (by decide)
   have eg:x / 14 % 7=((g:Nat):Int):=eg
   rw [eg,QE] at kq
   refine ⟨(by show 7<=sizeLine;decide),fun q hq=>?_⟩
   have s4:=ak (o:=.lst (fS.map V.str)) hq
   refine ⟨_,rfl,_,_,rfl,rfl,(by show (0:Int)<7;decide),q,_,_,.str (fS.getD g ""),rfl,rfl,aj.of ai,?_,?_⟩
   ·show cf _ (x / 14 % 7)=_
    rw [eg];exact aw (Cb hg)
   dsimp only [aW]
   refine ⟨_,rfl,x,2,rfl,_,rfl,_,rfl,_,_,rfl,rfl,aJ x 2,l,ns,e,sub _,by lia,s4 _ _ hl,hn,fun v H2 s2 hv=>?_⟩
   dsimp only [aW]
   refine ⟨_,rfl,_,rfl,_,rfl,x,3,rfl,_,rfl,_,rfl,_,_,rfl,rfl,aJ x 3,l,ns,e,sub _,by lia,s2 _ _ (s4 _ _ hl),hn,fun v2 H3 s3 hv2=>?_⟩
   refine ⟨dR,fun q3 Fd=>?_⟩
   have s6:=ak (o:=.tup [.str (fS.getD g ""),v,v2]) Fd
   exact kq _ _ (((s4.trans s2).trans s3).trans s6) (.op ai ((hv.kept s3.tups).kept s6.tups) (hv2.kept s6.tups))
theorem Cd (T:All P w K mg AA DD):aF P w K mg base aG (0+1) AA.ZA DD.ZA ["_law_number","_law_names_here","_law_deep"] (i7 0):=by
 have no:∀ vs H Q E,¬ i7 0 vs H Q E:=fun vs H Q E h=>by
  obtain ⟨x,l,ns,d,_,z,_⟩:=h
  lia
 exact T.F_ZA.ok pE (fun vs H Q E h=>(no _ _ _ _ h).elim) (fun Ds A outer s H vs Q E hr h=>(no _ _ _ _ h).elim)
theorem pF (T:All P w K mg AA DD):∀ k:Nat,aF P w K mg base aG (k+1) AA.ZA DD.ZA ["_law_number","_law_names_here","_law_deep"] (i7 k)
 | 0=>Cd T
 | k+1=>Cc T k (pF T k)
noncomputable def cT (x:Int) (w:Nat):Nat:=if ((x / 256 % 3 == 0)||decide ((x % 256).toNat &&& w=0))=true then w else (x % 256).toNat &&& w
theorem vE (x:Int) (w:Nat):cT x w &&& w=cT x w:=by
 unfold cT
 split
 ·exact Nat.and_self w
 ·rw [Nat.and_assoc,Nat.and_self]
theorem vF {x:Int} {w:Nat} (h:bK w):bK (cT x w):=by
 unfold cT
 split
 ·exact h
 ·rename_i q
  refine ⟨Nat.pos_of_ne_zero fun z=>q ?_,QN Nat.and_le_right h.2⟩
  rw [Qo z,Bool.or_true]
inductive vG (vs:List V) (H:Hp) (Q:VK) (E:XK):Prop
 | mk:∀ (x:Int) (m:Nat),vs=[.int x,.int ((m:Nat):Int)]->Q (.int ((cT x m:Nat):Int)) H->vG vs H Q E
noncomputable abbrev Ce:List Str:=["_law_number","_law_within","_law_found"]
theorem vH:a7 Ce ["_law_number","_law_within"] (aL oy):=⟨rfl,rfl,rfl,by decide +kernel,rfl,by decide +kernel,by decide +kernel⟩
theorem vI (T:All P w K mg AA DD):aF P w K mg base aG 1 AA.ZB DD.ZB ["_law_number","_law_within"] vG:=by
 refine T.F_ZB.ok vH (fun vs H Q E h=>?_) (fun Ds A outer s H vs Q E hr h=>?_)
 ·obtain ⟨x,m,rfl,_⟩:=h
  rfl
 ·obtain ⟨x,m,rfl,k⟩:=h
  have nd:=vH.nd
  refine ⟨_,(aA (aY (i:=2) nd rfl (Or.inl rfl) (am eh (am bG (pv 0) af) (pv 1))) (aA (aX (PW.pt (fI (aM bu (am bG (am cM (pv 0) af) af) af (aR _)) (il (aM bu (pv 2) af (aR _))))) (ao (aS (pv 1))) bi) (ao (aS (pv 2))))),?_⟩
  obtain ⟨j,ej,hj⟩:=db (a:=x) (n:=256) (by decide)
  have ej:x % 256=((j:Nat):Int):=ej
  unfold cT at k
  rw [ej,QE] at k
  refine ⟨_,rfl,_,_,rfl,rfl,(by show (0:Int)<256;decide),_,rfl,_,_,rfl,rfl,?_⟩
  dsimp only [aW]
  rw [ej,fO]
  have dq:decide (V.int ((j &&& m:Nat):Int)=V.int 0)=decide (j &&& m=0):=by
   by_cases h:j &&& m=0
   ·rw [Qo h,h];rfl
   ·rw [Qi h,Qi (fun z=>h (by injection z with z;lia))]
  refine ⟨_,rfl,_,_,rfl,rfl,⟨by decide,by decide⟩,_,_,rfl,rfl,(by show (0:Int)<3;decide),rfl,_,rfl,?_⟩
  refine pB (b2:=decide (j &&& m=0)) (fun h=>⟨_,rfl,rfl,_,rfl,by rw [dq];exact h⟩) ?_
  dsimp only
  rw [jt]
  refine cD (fun h1=>?_) (fun h1=>?_)
  ·rw [if_pos h1] at k
   exact ⟨_,rfl,k⟩
  ·rw [if_neg h1] at k
   exact ⟨_,rfl,k⟩
inductive vJ (vs:List V) (H:Hp) (Q:VK) (E:XK):Prop
 | mk:∀ m:Nat,vs=[.int ((m:Nat):Int)]->0<m->Q (.int ((m &&& (m ^^^ (m-1)):Nat):Int)) H->vJ vs H Q E
noncomputable abbrev Cf:List Str:=["_law_mask_here"]
theorem vK:a7 Cf ["_law_mask_here"] (aL oz):=⟨rfl,rfl,rfl,by decide +kernel,rfl,by decide +kernel,by decide +kernel⟩
theorem Cg (T:All P w K mg AA DD):aF P w K mg base aG 1 AA.ZG DD.ZG ["_law_mask_here"] vJ:=by
 refine T.F_ZG.ok vK (fun vs H Q E h=>?_) (fun Ds A outer s H vs Q E hr h=>?_)
 ·obtain ⟨m,rfl,_⟩:=h
  rfl
 ·obtain ⟨m,rfl,h0,k⟩:=h
  have nd:=vK.nd
  refine ⟨_,(ao (aS (am eh (pv 0) (am kB (pv 0) (am fj (pv 0) af))))),?_⟩
  refine ⟨_,rfl,_,rfl,_,rfl,_,_,rfl,rfl,_,_,rfl,rfl,_,_,rfl,rfl,?_⟩
  dsimp only
  rw [show ((m:Nat):Int)-1=((m-1:Nat):Int) by omega,kM,fO]
  exact k
noncomputable abbrev i8:List Str:=["set","tell","give"]
noncomputable def bh (ns:List Str) (m:Nat) (wd:Str) (x:Int) (r:Nat):Tr :=
 if wd="set" then .set m r (cK ns (x / 52)) (cS ns (x / 13 % 4).toNat (aJ x 6)) else if wd="tell" then .tell m r (cS ns (x / 13 % 4).toNat (aJ x 6)) else .give m r (cS ns (x / 13 % 4).toNat (aJ x 6))
def j7 (v:V) (t:Tr) (H:Hp):Prop:=∃ a vs,v=.ref a/\H a=some (.tup vs)/\∀ Hm,(∀ b xs,H b=some (.tup xs)->Hm b=some (.tup xs))->PsAt Hm true vs t.parts
inductive vL (vs:List V) (H:Hp) (Q:VK) (E:XK):Prop
 | mk:∀ (x:Int) (r:Nat) (l:Addr) (ns:List Str) (wd:Str) (m:Nat),vs=[.int x,.int ((r:Nat):Int),.ref l,.str wd]->wd∈i8->H l=some (.lst (ns.map V.str))->ns.length=6->(∀ v H',Same H H'->j7 v (bh ns m wd x r) H'->Q v H')->vL vs H Q E
noncomputable abbrev Ci:List Str:=["_law_number","_law_at","_law_names_here","_law_word","_law_e"]
theorem vM:a7 Ci ["_law_number","_law_at","_law_names_here","_law_word"] (aL oA):=⟨rfl,rfl,rfl,by decide +kernel,rfl,by decide +kernel,by decide +kernel⟩
theorem Cj (T:All P w K mg AA DD):aF P w K mg base aG 6 AA.Zr DD.Zr ["_law_number","_law_at","_law_names_here","_law_word"] vL:=by
 have GE:=pF (base:=base) T 4
 have GX:=j4 (base:=base) T
 refine T.F_Zr.ok vM (fun vs H Q E h=>?_) (fun Ds A outer s H vs Q E hr h=>?_)
 ·obtain ⟨x,r,l,ns,wd,m,rfl,_⟩:=h
  rfl
 ·obtain ⟨x,r,l,ns,wd,m,rfl,hw,hl,hn,kq⟩:=h
  have nd:=vM.nd
  have Fc:ay 5 _:=hr
  have Dw:ay 1 _:=Fc.mono (by lia)
  refine ⟨_,(aA (aY (i:=4) nd rfl (Or.inl rfl) (aK GE Fc rfl T.m_ZA T.k_ZA T.b_ZA .nil aD (aa (aK GX Dw rfl T.m_Zw T.k_Zw T.b_Zw .nil aD (aa (pv 0) (aa af ag))) (aa (pv 2) (aa (am bG (am cM (pv 0) af) af) ag))))) (aA (aX (aM bu (pv 3) aI (aR _)) (ao (aS (aV (aa aI (aa (pv 1) (aa (az (b9 (K:=K) rfl) (pv 2) (am bG (am cM (pv 0) af) af) (fun _ _=>rfl)) (aa (pv 4) ag))))))) bi) (ao (aS (aV (aa (pv 3) (aa (pv 1) (aa (pv 4) ag)))))))),?_⟩
  obtain ⟨d,ed,hd⟩:=db (a:=x / 13) (n:=4) (by decide)
  have ed:x / 13 % 4=((d:Nat):Int):=ed
  obtain ⟨j,ej,hj⟩:=db (a:=x / 52) (n:=6) (by decide)
  have ej:x / 52 % 6=((j:Nat):Int):=ej
  have en:cK ns (x / 52)=ns.getD j "":=by unfold cK;rw [ej,QE]
  unfold bh at kq
  rw [ed,QE,en] at kq
  refine ⟨_,rfl,x,6,rfl,_,rfl,_,rfl,_,_,rfl,rfl,⟨by decide,by decide⟩,_,_,rfl,rfl,(by show (0:Int)<4;decide),aJ x 6,l,ns,d,?_,hd,hl,hn,fun v H2 s2 hv=>?_⟩
  ·show [V.int (aJ x 6),.ref l,.int (x / 13 % 4)]=_
   rw [ed]
  dsimp only [aW]
  refine ⟨_,rfl,rfl,_,rfl,?_⟩
  by_cases hs:wd="set"
  ·refine bO (Qo (by rw [hs])) ?_
   rw [if_pos hs] at kq
   refine ⟨_,rfl,_,rfl,_,rfl,_,_,rfl,rfl,⟨by decide,by decide⟩,_,_,rfl,rfl,(by show (0:Int)<6;decide),l,_,_,.str (ns.getD j ""),rfl,rfl,aj.of (s2 _ _ hl),?_,_,rfl,mB,fun q hq=>?_⟩
   ·show cf _ (x / 52 % 6)=_
    rw [ej];exact aw (eF (by lia))
   have s3:=ak (o:=.tup [.str "set",.int ((r:Nat):Int),.str (ns.getD j ""),v]) hq
   exact kq _ _ (s2.trans s3) ⟨q,_,rfl,ai,fun Hm hm=>.cons (.s _) (.cons (.i _) (.cons (.s _) (.cons (.e ((hv.kept s3.tups).kept hm)) .nil)))⟩
  ·refine bd (Qi fun z=>hs (by injection z)) ?_
   rw [if_neg hs] at kq
   refine ⟨_,rfl,_,rfl,_,rfl,dR,fun q hq=>?_⟩
   have s3:=ak (o:=.tup [.str wd,.int ((r:Nat):Int),v]) hq
   refine kq _ _ (s2.trans s3) ⟨q,_,rfl,ai,fun Hm hm=>?_⟩
   have hE:=(hv.kept s3.tups).kept hm
   by_cases ht:wd="tell"
   ·rw [if_pos ht,ht]
    exact .cons (.s _) (.cons (.i _) (.cons (.e hE) .nil))
   ·rw [if_neg ht]
    have hg:wd="give":=by simpa [i8,hs,ht] using hw
    rw [hg]
    exact .cons (.s _) (.cons (.i _) (.cons (.e hE) .nil))
def d8 (H:Hp) (us:List Addr) (f:Nat->Str × Str):Prop:=∀ (j:Nat) (u:Addr),us[j]?=some u->H u=some (.tup [.str (f j).1,.str (f j).2])
theorem d8.snoc {H H':Hp} {us:List Addr} {f:Nat->Str × Str} {q:Addr} (h:d8 H us f) (s:Same H H') (hq:H' q=some (.tup [.str (f us.length).1,.str (f us.length).2])):d8 H' (us++[q]) f:=fun j u e=>by
 by_cases hj:j<us.length
 ·rw [Qp hj] at e
  exact s _ _ (h j u e)
 ·have Gx:j=us.length:=by have:=(Qc e).1;simp at this;lia
  subst Gx
  rw [Ql (Qf _),Nat.sub_self] at e
  have:u=q:=by simpa using e.symm
  rw [this];exact hq
theorem d8.prs {H:Hp} {us:List Addr} {f:Nat->Str × Str} {t:Addr} (h:d8 H us f) (ht:H t=some (.tup (us.map V.ref))):dw H (.ref t) ((List.range us.length).map f) :=
 ⟨t,us,rfl,ht,by simp,fun i u q e1 e2=>by
  have hi:=(Qc e1).1
  rw [Qr,List.getElem?_range hi] at e2
  have:f i=q:=Qq e2
  rw [<- this];exact h i u e1⟩
def gy (H G:Hp):Prop:=∀ b xs,H b=some (.tup xs)->G b=some (.tup xs)
def vN (H0 H G:Hp):Prop:=∀ c zs,H0 c=none->H c=some (.lst zs)->G c=some (.lst zs)
theorem d8.tp {H G:Hp} {us:List Addr} {f:Nat->Str × Str} (h:d8 H us f) (g:gy H G):d8 G us f:=fun j u e=>g _ _ (h j u e)
noncomputable def cU (ns:List Str) (x:Int):List Str:=["num","truth",cK ns (x / 7)]
noncomputable def j8 (ns:List Str) (x:Int) (k:Nat):Str × Str:=(cK ns (x / 42+((k:Nat):Int)),(cU ns x).getD (x / (11+6*((k:Nat):Int)) % 3).toNat "")
noncomputable def mi (ns:List Str) (x:Int):List (Str × Str):=(List.range (x / 5 % 3).toNat).map (j8 ns x)
noncomputable def mj (ns:List Str) (x:Int):Str:=cK ns (x / 300)
noncomputable def ml (ns:List Str) (x:Int):Str:=(cU ns x).getD (x / 13 % 3).toNat ""
inductive vO (vs:List V) (H:Hp) (Q:VK) (E:XK):Prop
 | mk:∀ (x:Int) (r:Nat) (l:Addr) (ns:List Str),vs=[.int x,.int ((r:Nat):Int),.ref l]->H l=some (.lst (ns.map V.str))->ns.length=6->(∀ (a tp bl:Addr) (H':Hp),Same H H'->H bl=none->H' bl=some (.lst [])->H' a=some (.tup [.str "def",.int ((r:Nat):Int),.str (mj ns x),.str (ml ns x),.ref tp,.ref bl])->(∀ G,gy H' G->dw G (.ref tp) (mi ns x))->Q (.ref a) H')->vO vs H Q E
noncomputable abbrev vP:List Str:=["_law_number","_law_at","_law_names_here","_law_kinds","_law_params"]
theorem vQ:a7 vP ["_law_number","_law_at","_law_names_here"] (aL lP):=⟨rfl,rfl,rfl,by decide +kernel,rfl,by decide +kernel,by decide +kernel⟩
theorem Ck (T:All P w K mg AA DD):aF P w K mg base aG 1 AA.ZH DD.ZH ["_law_number","_law_at","_law_names_here"] vO:=by
 refine T.F_ZH.ok vQ (fun vs H Q E h=>?_) (fun Ds A outer s H vs Q E hr h=>?_)
 ·obtain ⟨x,r,l,ns,rfl,_⟩:=h
  rfl
 ·obtain ⟨x,r,l,ns,rfl,hl,hn,kq⟩:=h
  have nd:=vQ.nd
  refine ⟨_,(aA (aY (i:=3) nd rfl (Or.inr rfl) (bW (aa aI (aa aI (aa (az (b9 (K:=K) rfl) (pv 2) (am bG (am cM (pv 0) af) af) (fun _ _=>rfl)) ag))))) (aA (nh (i:=4) (aL lP) vP ["_law_number","_law_names_here","_law_kinds"] [0,2,3] rfl (by exact ⟨rfl,rfl,by decide +kernel,rfl,by decide +kernel,by decide +kernel,by decide +kernel,rfl,by decide +kernel⟩) rfl rfl (io rfl T.n_range (aa (am bG (am cM (pv 0) af) af) ag)) (fun _ _ _ _=>eQ) (fun _ _ _ _=>(aV (aa (az (b9 (K:=K) rfl) (pv 2) (am bG (am eM (am cM (pv 1) af) (pv 0)) af) (fun _ _=>rfl)) (aa (az (b9 (K:=K) rfl) (pv 3) (am bG (am cM (pv 1) (am eM af (am jr af (pv 0)))) af) (fun _ _=>rfl)) ag)))) nd rfl rfl rfl) (ao (aS (aV (aa aI (aa (pv 1) (aa (az (b9 (K:=K) rfl) (pv 2) (am bG (am cM (pv 0) af) af) (fun _ _=>rfl)) (aa (az (b9 (K:=K) rfl) (pv 3) (am bG (am cM (pv 0) af) af) (fun _ _=>rfl)) (aa (iy jz rfl T.n_tuple iE (aa (pv 4) ag)) (aa (bW ag) ag))))))))))),?_⟩
  have name:∀ y:Int,∃ j:Nat,y % 6=((j:Nat):Int)/\j<6/\cK ns y=ns.getD j "":=fun y=>by
   obtain ⟨j,ej,hj⟩:=db (a:=y) (n:=6) (by decide)
   have ej:y % 6=((j:Nat):Int):=ej
   exact ⟨j,ej,hj,by unfold cK;rw [ej,QE]⟩
  obtain ⟨j,ej,hj,en⟩:=name (x / 7)
  refine ⟨_,rfl,_,rfl,_,_,rfl,rfl,⟨by decide,by decide⟩,_,_,rfl,rfl,(by show (0:Int)<6;decide),l,_,_,.str (ns.getD j ""),rfl,rfl,aj.of hl,?_,dR,fun pk hpk=>?_⟩
  ·show cf _ (x / 7 % 6)=_
   rw [ej];exact aw (eF (by lia))
  have ek:[V.str "num",.str "truth",.str (ns.getD j "")]=(cU ns x).map V.str:=by unfold cU;rw [en];rfl
  have s1:Same H (upd H pk (.lst ((cU ns x).map V.str))):=ak hpk
  have hpk1:upd H pk (.lst ((cU ns x).map V.str)) pk=some (.lst ((cU ns x).map V.str)):=ai
  rw [show upd H pk (.lst [V.str "num",V.str "truth",V.str (ns.getD j "")])=upd H pk (.lst ((cU ns x).map V.str)) by rw [ek]]
  generalize upd H pk (.lst ((cU ns x).map V.str))=H1 at s1 hpk1 ⊢
  dsimp only [aW]
  obtain ⟨m,em,hm⟩:=db (a:=x / 5) (n:=3) (by decide)
  have em:x / 5 % 3=((m:Nat):Int):=em
  unfold mi at kq
  rw [em,QE] at kq
  refine ⟨_,rfl,_,_,rfl,rfl,⟨by decide,by decide⟩,_,_,rfl,rfl,(by show (0:Int)<3;decide),_,rfl,?_,?_,?_⟩
  ·show _<=x / 5 % 3;lia
  ·show x / 5 % 3<_;lia
  show gi (fh 0 (x / 5 % 3).toNat) _ _ _ _ _ _
  rw [em,QE]
  refine m4 (fun i ys H'=>Same H1 H'/\i<=3/\∃ us:List Addr,ys=us.map V.ref/\us.length=i/\d8 H' us (j8 ns x)) ⟨Same.refl _,Qu _,[],rfl,rfl,fun j u h=>by simp at h⟩ ?_ ?_
  ·rintro i ys H2 hi ⟨s2,_,us,rfl,DZ,DY⟩
   rw [Int.zero_add]
   refine eP ?_
   rw [if_pos rfl]
   obtain ⟨j2,ej2,hj2,en2⟩:=name (x / 42+((i:Nat):Int))
   obtain ⟨g,eg,hg⟩:=db (a:=x / (11+6*((i:Nat):Int))) (n:=3) (by decide)
   have eg:x / (11+6*((i:Nat):Int)) % 3=((g:Nat):Int):=eg
   refine ⟨_,rfl,_,rfl,_,_,rfl,rfl,⟨by decide,by decide⟩,_,rfl,_,_,rfl,rfl,_,_,rfl,rfl,(by show (0:Int)<6;decide),l,_,_,.str (ns.getD j2 ""),rfl,rfl,aj.of (s2 _ _ (s1 _ _ hl)),?_,?_⟩
   ·show cf _ ((x / 42+((i:Nat):Int)) % 6)=_
    rw [ej2];exact aw (eF (by lia))
   refine ⟨_,rfl,_,rfl,_,rfl,_,_,rfl,rfl,.inl ⟨by decide,by decide⟩,_,_,rfl,rfl,_,_,rfl,rfl,⟨?_,?_⟩,_,_,rfl,rfl,(by show (0:Int)<3;decide),pk,_,_,.str ((cU ns x).getD g ""),rfl,rfl,aj.of (s2 _ _ hpk1),?_,bL,fun q hq=>?_⟩
   ·show (0:Int)<11+6*((i:Nat):Int);lia
   ·show 11+6*((i:Nat):Int)<_;lia
   ·show cf _ (x / (11+6*((i:Nat):Int)) % 3)=_
    rw [eg];exact aw (eF (by simpa [cU] using hg))
   have sq:=ak (o:=.tup [.str (ns.getD j2 ""),.str ((cU ns x).getD g "")]) hq
   refine ⟨by rw [Qd];exact cH (by lia),s2.trans sq,by lia,us++[q],by simp,by simp [DZ],DY.snoc sq ?_⟩
   rw [DZ,j8,en2,eg,QE]
   exact ai
  ·rintro ys H2 ⟨s2,_,us,rfl,DZ,DY⟩ p hp
   have sp:=ak (o:=.lst (us.map V.ref)) hp
   have GQ:d8 (upd H2 p (.lst (us.map V.ref))) us (j8 ns x):=fun j u e=>sp _ _ (DY j u e)
   have F7:=(s1.trans s2).trans sp
   have hpk2:=sp _ _ (s2 _ _ hpk1)
   have EG:upd H2 p (.lst (us.map V.ref)) p=some (.lst (us.map V.ref)):=ai
   generalize upd H2 p (.lst (us.map V.ref))=H3 at F7 EG GQ hpk2
   dsimp only [aW]
   obtain ⟨j3,ej3,hj3,en3⟩:=name (x / 300)
   obtain ⟨g,eg,hg⟩:=db (a:=x / 13) (n:=3) (by decide)
   have eg:x / 13 % 3=((g:Nat):Int):=eg
   unfold mj ml at kq
   rw [en3,eg,QE] at kq
   refine ⟨_,rfl,_,rfl,_,rfl,_,_,rfl,rfl,⟨by decide,by decide⟩,_,_,rfl,rfl,(by show (0:Int)<6;decide),l,_,_,.str (ns.getD j3 ""),rfl,rfl,aj.of (F7 _ _ hl),?_,?_⟩
   ·show cf _ (x / 300 % 6)=_
    rw [ej3];exact aw (eF (by lia))
   refine ⟨_,rfl,_,rfl,_,_,rfl,rfl,⟨by decide,by decide⟩,_,_,rfl,rfl,(by show (0:Int)<3;decide),pk,_,_,.str ((cU ns x).getD g ""),rfl,rfl,aj.of hpk2,?_,?_⟩
   ·show cf _ (x / 13 % 3)=_
    rw [eg];exact aw (eF (by simpa [cU] using hg))
   refine ⟨_,rfl,p,us.map V.ref,rfl,.inl ⟨aj.of EG,fun q2 DN=>?_⟩⟩
   have s5:=ak (o:=.tup (us.map V.ref)) DN
   refine ⟨eI,fun bl hbl=>⟨(by show 6<=sizeLine;decide),fun q3 Fd=>?_⟩⟩
   have s6:=ak (o:=.lst []) hbl
   have s7:=ak (o:=.tup [.str "def",.int ((r:Nat):Int),.str (ns.getD j3 ""),.str ((cU ns x).getD g ""),.ref q2,.ref bl]) Fd
   have s67:=s6.trans s7
   refine kq q3 q2 bl _ ((F7.trans s5).trans s67) ((F7.trans s5).free hbl) (s7 _ _ ai) ai fun G hG=>?_
   have hus6:d8 _ us (j8 ns x):=fun j u e=>(s5.trans s67) _ _ (GQ j u e)
   have:=(hus6.tp hG).prs (hG _ _ (s67 _ _ ai))
   rw [DZ] at this
   exact this
theorem pG (m s:Nat):decide (V.int (Builtin.bitAnd (((m:Nat):Int) / 2 ^ ((s:Nat):Int).toNat) 1)=V.int 1)=m.testBit s:=by
 have e1:((m:Nat):Int) / 2 ^ ((s:Nat):Int).toNat=((m / 2 ^ s:Nat):Int):=by
  rw [QE];simp
 rw [e1,show (1:Int)=((1:Nat):Int) from rfl,fO,Nat.and_one_is_mod,Nat.testBit_eq_decide_div_mod_eq]
 by_cases h:m / 2 ^ s % 2=1
 ·rw [Qo h,h];rfl
 ·rw [Qi h,Qi (fun z=>h (by injection z with z;lia))]
def vR (H0:Hp) (p:Addr) (H G:Hp):Prop:=∀ c zs,H0 c=none->c≠p->H c=some (.lst zs)->G c=some (.lst zs)
inductive i9 (k:Nat) (vs:List V) (H:Hp) (Q:VK) (E:XK):Prop
 | mk:∀ (l:Addr) (xs:List V) (ts:List Tr) (s:Nat),vs=[.ref l,.int ((s:Nat):Int)]->H l=some (.lst xs)->LAt H true xs ts->deeps ts<k->ts.length<=40->ascs ts->(∀ p ys H',Same H H'->H p=none->H' p=some (.lst ys)->(∀ G,gy H' G->vN H H' G->LAt G false ys (cutM s ts))->Q (.ref p) H')->i9 k vs H Q E
theorem ja (s:Nat):∀ ts:List Tr,(cutM s ts).length<=ts.length
 | []=>by simp [cutM]
 | t::ts=>by
  have:=ja s ts
  rw [cutM]
  split<;>simp<;>lia
theorem mn (s:Nat) (t:Tr):(au s t).mask=1:=by cases t<;>simp [au,Tr.mask]
theorem Cm {H G:Hp} {v:V} {t:Tr} (s:Nat) (h:bz H true v t) (hb:∀ ts,aP.b ts∉t.parts) (hG:gy H G):bz G false v (au s t):=by
 have ep:(au s t).parts=t.parts:=by
  cases t with
  | iff m r e b o=>exact absurd (by simp [Tr.parts]) (hb b)
  | whl m r e b=>exact absurd (by simp [Tr.parts]) (hb b)
  | df m r n k ps b=>exact absurd (by simp [Tr.parts]) (hb b)
  | _=>simp [au,Tr.parts]
 obtain ⟨a,vs,rfl,ha,hp⟩:=fP h
 refine .mk (hG _ _ ha) ?_
 rw [ep]
 have go:∀ {vs:List V} {ps:List aP},(∀ ts,aP.b ts∉ps)->PsAt H true vs ps->PsAt G false vs ps:=fun {vs ps}=>by
  induction ps generalizing vs with
  | nil=>intro _ h;rw [iU h];exact .nil
  | cons p ps ih =>
   intro hn h
   obtain ⟨v,r,rfl,h1,h2⟩:=cG h
   refine .cons ?_ (ih (fun ts z=>hn ts (by simp [z])) h2)
   cases h1 with
   | s z=>exact .s z
   | i n=>exact .i n
   | e a=>exact .e (a.kept hG)
   | @b l xs ts _ _=>exact absurd (QF ..) (hn ts)
   | p a=>obtain ⟨t,us,e1,e2,e3,e4⟩:=a;exact .p ⟨t,us,e1,hG _ _ e2,e3,fun i u q x y=>hG _ _ (e4 i u q x y)⟩
 exact go hb hp
noncomputable abbrev Cn:List Str:=["_law_block","_law_s","_law_found","_law_mask_here","_law_row"]
theorem pH:a7 Cn ["_law_block","_law_s"] (aL oC):=⟨rfl,rfl,rfl,by decide +kernel,rfl,by decide +kernel,by decide +kernel⟩
theorem Co (T:All P w K mg AA DD) (k:Nat) (GCT:aF P w K mg base aG (k+1) AA.ZI DD.ZI ["_law_block","_law_s"] (i9 k)):aF P w K mg base aG (k+1+1) AA.ZI DD.ZI ["_law_block","_law_s"] (i9 (k+1)):=by
 refine T.F_ZI.ok pH (fun vs H Q E h=>?_) (fun Ds A outer s H vs Q E hr h=>?_)
 ·obtain ⟨l,xs,ts,st,rfl,_⟩:=h
  rfl
 ·obtain ⟨l,xs,ts,st,rfl,hl,hL,hd,h40,ha,kq⟩:=h
  have nd:=pH.nd
  have hrC:ay (k+1) _:=hr
  refine ⟨_,(aA (aY (i:=2) nd rfl (Or.inl rfl) (bW ag)) (aA (dU PassesOwn.never rfl (dC (pv 0)) (eK rfl (br (a9 (i:=3) nd rfl (Or.inl rfl)) (br (a9 (i:=4) nd rfl (Or.inl rfl)) dm))) (ao (aX (aM bu (am eh (am mM (pv 3) (pv 1)) af) af (aR _)) (aA (aX (aM bu (az (aN (K:=K) rfl) (pv 4) af (fun _ _=>rfl)) aI (aR _)) (ao (aY (i:=4) nd rfl (Or.inl rfl) (am kH (fm gM (pv 4) fN (eO af)) (aV (aa (aK GCT hrC rfl T.m_ZI T.k_ZI T.b_ZI .nil aD (aa (az (aN (K:=K) rfl) (pv 4) af (fun _ _=>rfl)) (aa (pv 1) ag))) (aa (aK GCT hrC rfl T.m_ZI T.k_ZI T.b_ZI .nil aD (aa (az (aN (K:=K) rfl) (pv 4) af (fun _ _=>rfl)) (aa (pv 1) ag))) ag)))))) (ao (aX (aM bu (az (aN (K:=K) rfl) (pv 4) af (fun _ _=>rfl)) aI (aR _)) (ao (aY (i:=4) nd rfl (Or.inl rfl) (am kH (fm gM (pv 4) fN (eO af)) (aV (aa (aK GCT hrC rfl T.m_ZI T.k_ZI T.b_ZI .nil aD (aa (az (aN (K:=K) rfl) (pv 4) af (fun _ _=>rfl)) (aa (pv 1) ag))) ag))))) (ao (aX (aM bu (az (aN (K:=K) rfl) (pv 4) af (fun _ _=>rfl)) aI (aR _)) (ao (aY (i:=4) nd rfl (Or.inl rfl) (am kH (fm gM (pv 4) fN (eO af)) (aV (aa (aK GCT hrC rfl T.m_ZI T.k_ZI T.b_ZI .nil aD (aa (az (aN (K:=K) rfl) (pv 4) af (fun _ _=>rfl)) (aa (pv 1) ag))) ag))))) bi))))) (ao (bV (iA PySem.F.plainAttrs_list PySem.F.slot_list_append PySem.F.type_list_append jA (pv 2) (aa (pv 4) ag)) (by rfl)))) bi)) (by intro _;rfl)) (ao (aS (pv 2))))),?_⟩
  refine ⟨Qu _,fun pf hpf=>?_⟩
  have s1:=ak (o:=.lst []) hpf
  dsimp only [aW]
  have FV:=hL.length
  refine gl (fun σ' H'=>∃ ys x3 x4,σ'=[some (.ref l),some (.int ((st:Nat):Int)),some (.ref pf),x3,x4]/\Same H H'/\H' pf=some (.lst ys)/\∀ G,gy H' G->vR H pf H' G->LAt G false ys (cutM st ts)) (fun R hR=>?_) ?_
  ·refine ⟨_,rfl,l,rfl,⟨_,aj.of (s1 _ _ hl)⟩,?_⟩
   refine fY (K:=K) (a:=l) (xs:=xs) (fun i σ' H'=>∃ ys x3 x4,σ'=[some (.ref l),some (.int ((st:Nat):Int)),some (.ref pf),x3,x4]/\Same H H'/\H' pf=some (.lst ys)/\ys.length<=i/\∀ G,gy H' G->vR H pf H' G->LAt G false ys (cutM st (ts.take i))) ⟨[],_,_,rfl,s1,ai,Qf _,fun G _ _=>by rw [List.take_zero,cutM];exact .nil⟩ (fun i σ' H' _ hsl62=>by obtain ⟨_,_,_,_,h,_⟩:=hsl62;exact aj.of (h _ _ hl)) ?_ ?_
   ·rintro i x σ' H1 hx ⟨ys,x3,x4,rfl,sm,FS,D8,hGs⟩
    have EB:=(Qc hx).1
    obtain ⟨t,ht,hO⟩:=hL.get hx
    have hO:=hO.kept sm.ls
    have hm:t∈ts:=Qh ht
    obtain ⟨Ez,hta⟩:=gT ha hm
    have hdm:=iP hm
    have Go:=o6 ht st
    cases hO with
    | plain e _=>cases e
    | @shared p y _ _ hp hS =>
    refine ⟨p,_,rfl,ah.of hp,rfl,_,_,rfl,_,_,rfl,rfl,?_⟩
    refine ⟨_,rfl,_,rfl,_,_,rfl,rfl,(by show (0:Int)<=((st:Nat):Int);lia),_,_,rfl,rfl,rfl,_,rfl,?_⟩
    dsimp only
    rw [pG]
    by_cases hb:t.mask.testBit st=true
    ·refine bO hb ?_
     rw [if_pos hb] at Go
     refine gk (fun σ' H'=>∃ v,σ'=[some (.ref l),some (.int ((st:Nat):Int)),some (.ref pf),some (.int ((t.mask:Nat):Int)),some v]/\Same H1 H'/\∀ G,gy H' G->vN H1 H' G->bz G false v (au st t)) (fun R2 hR2=>?_) ?_
     ·have blk:∀ {bs:List Tr},aP.b bs∈t.parts->deeps bs<k/\bs.length<=40/\ascs bs:=fun h=>⟨by have:=iO h;lia,(gq hta h).1,(gq hta h).2.2⟩
      cases t with
      | iff m r e b o =>
       obtain ⟨t0,ve,lb,xb,lo,xo,e1,DP,hE,hlb,hLb,Dk,hLo⟩:=sY hS
       subst e1
       obtain ⟨b1,b2,b3⟩:=blk (bs:=b) (by simp [Tr.parts])
       obtain ⟨o1,o2,o3⟩:=blk (bs:=o) (by simp [Tr.parts])
       refine ⟨_,rfl,t0,_,_,_,rfl,rfl,ah.of DP,aw (j:=0) rfl,rfl,_,rfl,bO (Qo rfl) ?_⟩
       refine ⟨_,rfl,_,rfl,t0,_,rfl,ah.of DP,?_,fun q1 Fe=>?_⟩
       ·rintro ⟨_,q⟩;simp [HT.sIx] at q
       have s2:=ak (o:=.tup (dW [.str "if",.int ((r:Nat):Int),ve,.ref lb,.ref lo] none (some 3))) Fe
       refine ⟨_,rfl,t0,_,_,_,rfl,rfl,ah.of (s2 _ _ DP),aw (j:=3) rfl,_,rfl,lb,xb,b,st,rfl,s2 _ _ hlb,hLb.kept s2.ls,b1,b2,b3,fun p1 ys1 H2 s3 EG Fl hG1=>?_⟩
       have F6:=s2.trans s3
       refine ⟨_,rfl,t0,_,_,_,rfl,rfl,ah.of (F6 _ _ DP),aw (j:=4) rfl,_,rfl,lo,xo,o,st,rfl,F6 _ _ Dk,hLo.kept F6.ls,o1,o2,o3,fun p2 ys2 H3 s4 Ff hp2' hG2=>?_⟩
       refine ⟨bL,fun q2 DN=>?_⟩
       have s5:=ak (o:=.tup [.ref p1,.ref p2]) DN
       refine ⟨q1,q2,[.str "if",.int ((r:Nat):Int),ve],[.ref p1,.ref p2],rfl,rfl,ah.of (s5 _ _ (s4 _ _ (s3 _ _ ai))),ah.of ai,by simp,(by show 3+2<=sizeLine;decide),fun z=>(by simp at z),fun _ q3 Fd=>?_⟩
       have s6:=ak (o:=.tup ([.str "if",.int ((r:Nat):Int),ve]++[.ref p1,.ref p2])) Fd
       have D0:=s5.trans s6
       refine hR2 _ _ ⟨_,rfl,((F6.trans s4).trans D0),fun G hG hN=>?_⟩
       have hn1:H1 p1=none:=s2.free EG
       have hn2:H1 p2=none:=F6.free Ff
       rw [au]
       refine .mk (hG _ _ ai) (.cons (.s _) (.cons (.i _) (.cons (.e ((hE.kept ((F6.trans s4).trans D0).tups).kept hG)) (.cons (.b (hN _ _ hn1 (D0 _ _ (s4 _ _ Fl))) (hG1 G (fun b xs h=>hG _ _ (D0 _ _ (s4 _ _ h))) fun c zs h0 h=>hN _ _ (s2.free h0) (D0 _ _ (s4 _ _ h)))) (.cons (.b (hN _ _ hn2 (D0 _ _ hp2')) (hG2 G (fun b xs h=>hG _ _ (D0 _ _ h)) fun c zs h0 h=>hN _ _ (F6.free h0) (D0 _ _ h))) .nil)))))
      | whl m r e b =>
       obtain ⟨t0,ve,lb,xb,e1,DP,hE,hlb,hLb⟩:=sZ hS
       subst e1
       obtain ⟨b1,b2,b3⟩:=blk (bs:=b) (by simp [Tr.parts])
       refine ⟨_,rfl,t0,_,_,_,rfl,rfl,ah.of DP,aw (j:=0) rfl,rfl,_,rfl,bd (Qi (by intro q;injection q with q;exact absurd q (by decide +kernel))) ?_⟩
       refine ⟨_,rfl,t0,_,_,_,rfl,rfl,ah.of DP,aw (j:=0) rfl,rfl,_,rfl,bO (Qo rfl) ?_⟩
       refine ⟨_,rfl,_,rfl,t0,_,rfl,ah.of DP,?_,fun q1 Fe=>?_⟩
       ·rintro ⟨_,q⟩;simp [HT.sIx] at q
       have s2:=ak (o:=.tup (dW [.str "while",.int ((r:Nat):Int),ve,.ref lb] none (some 3))) Fe
       refine ⟨_,rfl,t0,_,_,_,rfl,rfl,ah.of (s2 _ _ DP),aw (j:=3) rfl,_,rfl,lb,xb,b,st,rfl,s2 _ _ hlb,hLb.kept s2.ls,b1,b2,b3,fun p1 ys1 H2 s3 EG Fl hG1=>?_⟩
       have F6:=s2.trans s3
       refine ⟨dh,fun q2 DN=>?_⟩
       have s5:=ak (o:=.tup [.ref p1]) DN
       refine ⟨q1,q2,[.str "while",.int ((r:Nat):Int),ve],[.ref p1],rfl,rfl,ah.of (s5 _ _ (s3 _ _ ai)),ah.of ai,by simp,(by show 3+1<=sizeLine;decide),fun z=>(by simp at z),fun _ q3 Fd=>?_⟩
       have s6:=ak (o:=.tup ([.str "while",.int ((r:Nat):Int),ve]++[.ref p1])) Fd
       have D0:=s5.trans s6
       refine hR2 _ _ ⟨_,rfl,F6.trans D0,fun G hG hN=>?_⟩
       have hn1:H1 p1=none:=s2.free EG
       rw [au]
       exact .mk (hG _ _ ai) (.cons (.s _) (.cons (.i _) (.cons (.e ((hE.kept (F6.trans D0).tups).kept hG)) (.cons (.b (hN _ _ hn1 (D0 _ _ Fl)) (hG1 G (fun b xs h=>hG _ _ (D0 _ _ h)) fun c zs h0 h=>hN _ _ (s2.free h0) (D0 _ _ h))) .nil))))
      | df m r n kd ps b =>
       obtain ⟨t0,vp,lb,xb,e1,DP,hP,hlb,hLb⟩:=oQ hS
       subst e1
       obtain ⟨b1,b2,b3⟩:=blk (bs:=b) (by simp [Tr.parts])
       refine ⟨_,rfl,t0,_,_,_,rfl,rfl,ah.of DP,aw (j:=0) rfl,rfl,_,rfl,bd (Qi (by intro q;injection q with q;exact absurd q (by decide +kernel))) ?_⟩
       refine ⟨_,rfl,t0,_,_,_,rfl,rfl,ah.of DP,aw (j:=0) rfl,rfl,_,rfl,bd (Qi (by intro q;injection q with q;exact absurd q (by decide +kernel))) ?_⟩
       refine ⟨_,rfl,t0,_,_,_,rfl,rfl,ah.of DP,aw (j:=0) rfl,rfl,_,rfl,bO (Qo rfl) ?_⟩
       refine ⟨_,rfl,_,rfl,t0,_,rfl,ah.of DP,?_,fun q1 Fe=>?_⟩
       ·rintro ⟨_,q⟩;simp [HT.sIx] at q
       have s2:=ak (o:=.tup (dW [.str "def",.int ((r:Nat):Int),.str n,.str kd,vp,.ref lb] none (some 5))) Fe
       refine ⟨_,rfl,t0,_,_,_,rfl,rfl,ah.of (s2 _ _ DP),aw (j:=5) rfl,_,rfl,lb,xb,b,st,rfl,s2 _ _ hlb,hLb.kept s2.ls,b1,b2,b3,fun p1 ys1 H2 s3 EG Fl hG1=>?_⟩
       have F6:=s2.trans s3
       refine ⟨dh,fun q2 DN=>?_⟩
       have s5:=ak (o:=.tup [.ref p1]) DN
       refine ⟨q1,q2,[.str "def",.int ((r:Nat):Int),.str n,.str kd,vp],[.ref p1],rfl,rfl,ah.of (s5 _ _ (s3 _ _ ai)),ah.of ai,by simp,(by show 5+1<=sizeLine;decide),fun z=>(by simp at z),fun _ q3 Fd=>?_⟩
       have s6:=ak (o:=.tup ([.str "def",.int ((r:Nat):Int),.str n,.str kd,vp]++[.ref p1])) Fd
       have D0:=s5.trans s6
       refine hR2 _ _ ⟨_,rfl,F6.trans D0,fun G hG hN=>?_⟩
       have hn1:H1 p1=none:=s2.free EG
       have hPG:dw G vp ps:=by
        obtain ⟨t,us,e1,e2,e3,e4⟩:=hP.kept (F6.trans D0).ls
        exact ⟨t,us,e1,hG _ _ e2,e3,fun i u q x y=>hG _ _ (e4 i u q x y)⟩
       rw [au]
       exact .mk (hG _ _ ai) (.cons (.s _) (.cons (.i _) (.cons (.s _) (.cons (.s _) (.cons (.p hPG) (.cons (.b (hN _ _ hn1 (D0 _ _ Fl)) (hG1 G (fun b xs h=>hG _ _ (D0 _ _ h)) fun c zs h0 h=>hN _ _ (s2.free h0) (D0 _ _ h))) .nil))))))
      | _ =>
       have Gy:=hS
       obtain ⟨t0,vs,rfl,DP,DW⟩:=fP hS
       obtain ⟨vr,rfl⟩:=lW DW
       refine ⟨_,rfl,t0,_,_,_,rfl,rfl,ah.of DP,aw (j:=0) rfl,rfl,_,rfl,bd (Qi (by intro q;injection q with q;exact absurd q (by simp only [Tr.kw];decide +kernel))) ?_⟩
       refine ⟨_,rfl,t0,_,_,_,rfl,rfl,ah.of DP,aw (j:=0) rfl,rfl,_,rfl,bd (Qi (by intro q;injection q with q;exact absurd q (by simp only [Tr.kw];decide +kernel))) ?_⟩
       refine ⟨_,rfl,t0,_,_,_,rfl,rfl,ah.of DP,aw (j:=0) rfl,rfl,_,rfl,bd (Qi (by intro q;injection q with q;exact absurd q (by simp only [Tr.kw];decide +kernel))) ?_⟩
       exact hR2 _ _ ⟨_,rfl,Same.refl _,fun G hG _=>Cm st Gy (by simp [Tr.parts]) hG⟩
     ·rintro σ' H2 ⟨v,rfl,s2,hv⟩
      have hpf2:=s2 _ _ FS
      refine ⟨_,rfl,.inl ⟨rfl,_,aj.of hpf2⟩,_,rfl,pf,ys,v,rfl,rfl,hpf2,cH (by lia),ys++[v],_,_,rfl,?_,ai,by simp;lia,fun G hG hN=>?_⟩
      ·exact fun b o e=>by rw [al (fun z=>by rw [z,hpf] at e;cases e)];exact s2 _ _ (sm _ _ e)
      have tk:gy H2 (upd H2 pf (.lst (ys++[v]))):=fun b xs e=>by rw [al (fun z=>by rw [z,hpf2] at e;cases e)];exact e
      rw [Go]
      refine (hGs G (fun b xs e=>hG _ _ (tk _ _ (s2 _ _ e))) fun c zs h0 hc e=>hN _ _ h0 hc (by rw [al hc];exact s2 _ _ e)).snoc (.plain rfl (mn st t) (hv G (fun b xs e=>hG _ _ (tk _ _ e)) fun c zs h0 e=>?_))
      have hcp:c≠pf:=fun z=>by rw [z,FS] at h0;cases h0
      exact hN _ _ (sm.free h0) hcp (by rw [al hcp];exact e)
    ·refine bd (by cases e:t.mask.testBit st with | true=>exact absurd e hb | false=>rfl) ?_
     rw [if_neg hb,QM] at Go
     exact ⟨ys,_,_,rfl,sm,FS,by lia,by rw [Go];exact hGs⟩
   ·rintro σ' H1 ⟨ys,x3,x4,rfl,sm,FS,D8,hGs⟩
    rw [Qv (by lia)] at hGs
    exact hR _ _ ⟨ys,_,_,rfl,sm,FS,hGs⟩
  ·rintro σ' H1 ⟨ys,x3,x4,rfl,sm,FS,hGs⟩
   exact ⟨_,rfl,kq pf ys _ sm hpf FS fun G hG hN=>hGs G hG fun c zs h0 _ e=>hN _ _ h0 e⟩
theorem Cp (T:All P w K mg AA DD):aF P w K mg base aG (0+1) AA.ZI DD.ZI ["_law_block","_law_s"] (i9 0):=by
 have no:∀ vs H Q E,¬ i9 0 vs H Q E:=fun vs H Q E h=>by
  obtain ⟨l,xs,ts,st,_,_,_,z,_⟩:=h
  lia
 exact T.F_ZI.ok pH (fun vs H Q E h=>(no _ _ _ _ h).elim) (fun Ds A outer s H vs Q E hr h=>(no _ _ _ _ h).elim)
theorem vS (T:All P w K mg AA DD):∀ k:Nat,aF P w K mg base aG (k+1) AA.ZI DD.ZI ["_law_block","_law_s"] (i9 k)
 | 0=>Cp T
 | k+1=>Co T k (vS T k)
inductive vT (vs:List V) (H:Hp) (Q:VK) (E:XK):Prop
 | mk:∀ (p:Addr) (ys:List V) (ks:List (List ae)) (f:List ae->Nat) (rule:Nat),vs=[.ref p,.int ((rule:Nat):Int)]->H p=some (.lst ys)->bY H ys (ks.map fun k=>.inl ((f k:Nat):Int)::k)->ks.Pairwise (fun x y=>a8 x y=true)->(∀ k∈ks,da k/\0<f k/\f k &&& rule=f k)->ks.length<100000->(∀ H',Same H H'->Q (.bl true) H')->vT vs H Q E
noncomputable abbrev Cq:List Str:=["_law_found","_law_rule","_law_k","_law_one"]
theorem vU:a7 Cq ["_law_found","_law_rule"] (aL oE):=⟨rfl,rfl,rfl,by decide +kernel,rfl,by decide +kernel,by decide +kernel⟩
theorem Cr (T:All P w K mg AA DD):aF P w K mg base aG 1 AA.Zs DD.Zs ["_law_found","_law_rule"] vT:=by
 refine T.F_Zs.ok vU (fun vs H Q E h=>?_) (fun Ds A outer s H vs Q E hr h=>?_)
 ·obtain ⟨p,ys,ks,f,rule,rfl,_⟩:=h
  rfl
 ·obtain ⟨p,ys,ks,f,rule,rfl,hp,hT,hpw,hk,Dj,kq⟩:=h
  have nd:=vU.nd
  have hu0:=QN (Nat.le_add_right _ _) hr.units
  refine ⟨_,(aA (aX (kr (fW (cu (gZ (K:=K) (n:="list") rfl) rfl T.n_isinstance gO (aa (pv 0) (aa (gG (v:=.ty "list") rfl T.n_list kN rfl) ag))))) (ao (aS gE)) bi) (aA (dU PassesOwn.never rfl (io rfl T.n_range (aa (cu fo rfl T.n_len eR (aa (pv 0) ag)) ag)) (a9 (i:=2) nd rfl (Or.inl rfl)) (aA (aY (i:=3) nd rfl (Or.inl rfl) (az (b9 (K:=K) rfl) (pv 0) (pv 2) (fun _ _=>rfl))) (aA (aX (PW.pt (fI (kr (fW (cu (gZ (K:=K) (n:="tuple") rfl) rfl T.n_isinstance gO (aa (pv 3) (aa (gG (v:=.ty "tuple") rfl T.n_tuple iE rfl) ag))))) (fI (aM fZ (cu fo rfl T.n_len eR (aa (pv 3) ag)) af (aR _)) (fI (kr (fW (cu (gZ (K:=K) (n:="int") rfl) rfl T.n_isinstance gO (aa (az (aN (K:=K) rfl) (pv 3) af (fun _ _=>rfl)) (aa (gG (v:=.ty "int") rfl T.n_int yz rfl) ag))))) (il (fW (cu (gZ (K:=K) (n:="bool") rfl) rfl T.n_isinstance gO (aa (az (aN (K:=K) rfl) (pv 3) af (fun _ _=>rfl)) (aa (gG (v:=.ty "bool") rfl T.n_bool yA rfl) ag))))))))) (ao (aS gE)) bi) (ao (aX (PW.pt (fI (aM xw (az (aN (K:=K) rfl) (pv 3) af (fun _ _=>rfl)) af (aR _)) (fI (aM fZ (am eh (az (aN (K:=K) rfl) (pv 3) af (fun _ _=>rfl)) (pv 1)) (az (aN (K:=K) rfl) (pv 3) af (fun _ _=>rfl)) (aR _)) (il (PW.pt (ff (aM kE (pv 2) af (aR _)) (fH (aM (Aw hu0) (fm gM (az (b9 (K:=K) rfl) (pv 0) (am fj (pv 2) af) (fun _ _=>rfl)) (eO af) fN) (fm gM (pv 3) (eO af) fN) (aR _))))))))) (ao (aS gE)) bi)))) (by intro _;rfl)) (ao (aS gE)))),?_⟩
  refine gk (fun σ' H'=>H'=H/\σ'=[some (.ref p),some (.int ((rule:Nat):Int)),none,none]) (fun R hR=>?_) ?_
  ·refine ⟨_,rfl,.ref p,_,true,rfl,.lst hp,by rfl,_,rfl,dX ?_⟩
   exact hR _ _ ⟨rfl,rfl⟩
  rintro σ' H ⟨rfl,rfl⟩
  have D8:=hT.1
  rw [Qd] at D8
  refine gl (fun σ' H'=>Same H H') (fun R hR=>?_) ?_
  ·refine ⟨_,rfl,p,ys,rfl,.inl (aj.of hp),_,rfl,?_,?_,?_⟩
   ·show _<=((ys.length:Nat):Int);lia
   ·show ((ys.length:Nat):Int)<_;lia
   rw [QE]
   refine mH (D:=⟨R,_,R,R⟩) (fun i σ' H'=>Same H H'/\∃ x2 x3,σ'=[some (.ref p),some (.int ((rule:Nat):Int)),x2,x3]) ⟨Same.refl _,_,_,rfl⟩ ?_ ?_
   ·rintro i σ' H1 hi ⟨sm,x2,x3,rfl⟩
    rw [Int.zero_add]
    have hik:i<ks.length:=by lia
    have get:∀ j (hj:j<ks.length),∃ t,ys[j]?=some (.ref t)/\H t=some (.tup (.int ((f ks[j]:Nat):Int)::ks[j].map kV)):=fun j hj=>by
     obtain ⟨t,e,ht⟩:=hT.2 j ys[j] (.inl ((f ks[j]:Nat):Int)::ks[j]) (Qa (by lia)) (by rw [Qr,Qa hj];rfl)
     exact ⟨t,by rw [Qa (by lia),e],ht⟩
    obtain ⟨t,et,ht⟩:=get i hik
    obtain ⟨⟨r,a,z,ek⟩,DG,Dq⟩:=hk ks[i] (QL hik)
    have Fx:=sm _ _ ht
    have hl4:(V.int ((f ks[i]:Nat):Int)::ks[i].map kV).length=4:=by rw [ek];rfl
    refine ⟨_,rfl,_,rfl,p,_,_,.ref t,rfl,rfl,aj.of (sm _ _ hp),aw et,?_⟩
    dsimp only [aW]
    have F9:(V.int ((f ks[i]:Nat):Int)::ks[i].map kV)[0]?=some (V.int ((f ks[i]:Nat):Int)):=rfl
    refine gk (fun σ' H'=>H'=H1/\σ'=[some (.ref p),some (.int ((rule:Nat):Int)),some (.int ((i:Nat):Int)),some (.ref t)]) (fun R2 hR2=>?_) ?_
    ·refine ⟨_,rfl,.ref t,_,true,rfl,.tup Fx,by rfl,_,rfl,dX ?_⟩
     refine ⟨_,rfl,t,_,rfl,.inr (ah.of Fx),rfl,_,rfl,?_⟩
     rw [hl4]
     refine bd (by rfl) ?_
     refine ⟨_,rfl,t,_,_,_,rfl,rfl,ah.of Fx,aw (j:=0) F9,.int ((f ks[i]:Nat):Int),_,true,rfl,.int _,by rfl,_,rfl,dX ?_⟩
     refine ⟨_,rfl,t,_,_,_,rfl,rfl,ah.of Fx,aw (j:=0) F9,.int ((f ks[i]:Nat):Int),_,false,rfl,.int _,by rfl,_,rfl,dX ?_⟩
     exact hR2 _ _ ⟨rfl,rfl⟩
    rintro σ' H' ⟨rfl,rfl⟩
    refine ⟨_,rfl,t,_,_,_,rfl,rfl,ah.of Fx,aw (j:=0) F9,_,_,rfl,rfl,_,rfl,bd (Qi (by lia)) ?_⟩
    refine ⟨_,rfl,t,_,_,_,rfl,rfl,ah.of Fx,aw (j:=0) F9,_,rfl,_,_,rfl,rfl,?_⟩
    dsimp only
    rw [fO,Dq]
    refine ⟨_,rfl,t,_,_,_,rfl,rfl,ah.of Fx,aw (j:=0) F9,rfl,_,rfl,bd (by rw [Qo rfl];rfl) ?_⟩
    refine ⟨_,rfl,_,_,rfl,rfl,_,rfl,?_⟩
    by_cases h0:i=0
    ·exact bd (Qi (by lia)) (dX ⟨sm,_,_,rfl⟩)
    refine bO (Qo (by lia)) ?_
    obtain ⟨j,rfl⟩:∃ j,i=j+1:=⟨i-1,by lia⟩
    have hjk:j<ks.length:=by lia
    obtain ⟨t2,et2,D5⟩:=get j hjk
    obtain ⟨⟨r2,a2,z2,ek2⟩,_,_⟩:=hk ks[j] (QL hjk)
    have ht21:=sm _ _ D5
    refine ⟨_,rfl,_,rfl,_,_,rfl,rfl,?_⟩
    dsimp only
    rw [show ((j+1:Nat):Int)-1=((j:Nat):Int) by lia]
    refine ⟨p,_,_,.ref t2,rfl,rfl,aj.of (sm _ _ hp),aw et2,?_⟩
    refine ⟨_,rfl,t2,_,rfl,ah.of ht21,?_,fun q1 Fe=>?_⟩
    ·rintro ⟨q,_⟩;rw [ek2] at q;simp [HT.sIx,k3] at q
    rw [lV]
    have s2:=ak (o:=.tup (ks[j].map kV)) Fe
    refine ⟨_,rfl,_,rfl,t,_,rfl,ah.of (s2 _ _ Fx),?_,fun q2 DN=>?_⟩
    ·rintro ⟨q,_⟩;rw [ek] at q;simp [HT.sIx,k3] at q
    rw [lV]
    have s3:=ak (o:=.tup (ks[j+1].map kV)) DN
    have Do:=List.pairwise_iff_getElem.mp hpw j (j+1) hjk hik (by lia)
    refine ⟨q1,q2,ks[j],ks[j+1],rfl,rfl,s3 _ _ ai,ai,by rw [ek,ek2];rfl,_,rfl,?_⟩
    rw [Do]
    exact dX ⟨(sm.trans s2).trans s3,_,_,rfl⟩
   ·rintro σ' H1 ⟨sm,x2,x3,rfl⟩
    exact hR _ _ sm
  ·rintro σ' H1 sm
   exact kq _ sm
noncomputable def jc (q:Str × Str):PyData:=.tuple [.str q.1,.str q.2]
def mo (ps:List (Str × Str)):Prop:=∀ q∈ps,aQ q.1/\aQ q.2
theorem vV {K:W.Frag} {H:Hp}:∀ {us:List Addr} {ps:List (Str × Str)},us.length=ps.length->(∀ (i:Nat) (u:Addr) (q:Str × Str),us[i]?=some u->ps[i]?=some q->H u=some (.tup [.str q.1,.str q.2]))->RdvA K H (us.map V.ref) (ps.map jc)
 | [],[],_,_=>.nil
 | [],_::_,h,_=>by simp at h
 | _::_,[],h,_=>by simp at h
 | u::us,q::ps,h,E8=>.cons (.tup (ah.of (E8 0 u q rfl rfl)) (.cons (.str _) (.cons (.str _) .nil))) (vV (by simpa using h) fun i u' q' h1 h2=>E8 (i+1) u' q' (by simpa using h1) (by simpa using h2))
theorem Cs {q:Str × Str} (h:aQ q.1/\aQ q.2):aU 1 (jc q):=aU.tuple (n:=0) fun d hd=>by
 simp only [List.mem_cons,List.not_mem_nil,or_false] at hd
 rcases hd with rfl | rfl
 ·exact .str h.1
 ·exact .str h.2
theorem Ct {ps:List (Str × Str)} (h:mo ps):∀ d∈ps.map jc,aU 1 d:=fun d hd=>by
 obtain ⟨q,hq,rfl⟩:=QH hd
 exact Cs (h q hq)
mutual
def bA:Ex->Prop
 | .num _=>True
 | .truth z=>aQ z
 | .name z=>aQ z
 | .not e=>bA e
 | .op w a b=>aQ w/\bA a/\bA b
 | .of n e=>aQ n/\bA e
 | .many w z es=>aQ w/\aQ z/\bJ es
def bJ:List Ex->Prop
 | []=>True
 | e::es=>bA e/\bJ es
end
mutual
noncomputable def bQ:Ex->PyData
 | .num n=>.tuple [.str "num",.int n]
 | .truth z=>.tuple [.str "truth",.str z]
 | .name z=>.tuple [.str "name",.str z]
 | .not e=>.tuple [.str "not",bQ e]
 | .op w a b=>.tuple [.str w,bQ a,bQ b]
 | .of n e=>.tuple [.str "of",.str n,bQ e]
 | .many w z es=>.tuple [.str w,.str z,.tuple (gz es)]
noncomputable def gz:List Ex->List PyData
 | []=>[]
 | e::es=>bQ e::gz es
end
mutual
theorem jd {K:W.Frag} {H:Hp}:∀ {e:Ex} {v:V},bA e->bo H v e->cX K H v (bQ e)
 | .num n,v,_,h=>by cases h with | num h=>rw [bQ];exact .tup (ah.of h) (.cons (.str _) (.cons (.int _) .nil))
 | .truth z,v,_,h=>by cases h with | truth h=>rw [bQ];exact .tup (ah.of h) (.cons (.str _) (.cons (.str _) .nil))
 | .name z,v,_,h=>by cases h with | name h=>rw [bQ];exact .tup (ah.of h) (.cons (.str _) (.cons (.str _) .nil))
 | .not e,v,p,h=>by cases h with | not h a=>rw [bQ];exact .tup (ah.of h) (.cons (.str _) (.cons (jd (by simpa only [bA] using p) a) .nil))
 | .op w a b,v,p,h=>by
  rw [bA] at p
  cases h with | op h x y=>rw [bQ];exact .tup (ah.of h) (.cons (.str _) (.cons (jd p.2.1 x) (.cons (jd p.2.2 y) .nil)))
 | .of n e,v,p,h=>by
  rw [bA] at p
  cases h with | of h x=>rw [bQ];exact .tup (ah.of h) (.cons (.str _) (.cons (.str _) (.cons (jd p.2 x) .nil)))
 | .many w z es,v,p,h=>by
  rw [bA] at p
  cases h with | many h l a=>rw [bQ];exact .tup (ah.of h) (.cons (.str _) (.cons (.str _) (.cons (.tup (ah.of l) (vW p.2.2 a)) .nil)))
theorem vW {K:W.Frag} {H:Hp}:∀ {es:List Ex} {vs:List V},bJ es->ExsAt H vs es->RdvA K H vs (gz es)
 | [],_,_,h=>by cases h;rw [gz];exact .nil
 | e::es,_,p,h=>by
  rw [bJ] at p
  cases h with | cons a b=>rw [gz];exact .cons (jd p.1 a) (vW p.2 b)
end
theorem h8 {n:Nat} {z:Str} (h:aQ z):aU n (.str z):=(aU.str h).up (Qu _)
mutual
theorem je:∀ (e:Ex),bA e->aU (2*e.deep+1) (bQ e)
 | .num n,_=>by
  rw [bQ]
  refine (aU.tuple (n:=0) fun d hd=>?_).up (by lia)
  simp only [List.mem_cons,List.not_mem_nil,or_false] at hd
  rcases hd with rfl | rfl
  ·exact .str (by decide +kernel)
  ·exact .int _
 | .truth z,h=>by
  rw [bA] at h
  rw [bQ]
  refine (aU.tuple (n:=0) fun d hd=>?_).up (by lia)
  simp only [List.mem_cons,List.not_mem_nil,or_false] at hd
  rcases hd with rfl | rfl
  ·exact .str (by decide +kernel)
  ·exact .str h
 | .name z,h=>by
  rw [bA] at h
  rw [bQ]
  refine (aU.tuple (n:=0) fun d hd=>?_).up (by lia)
  simp only [List.mem_cons,List.not_mem_nil,or_false] at hd
  rcases hd with rfl | rfl
  ·exact .str (by decide +kernel)
  ·exact .str h
 | .not e,h=>by
  rw [bA] at h
  have ih:=je e h
  rw [bQ]
  refine (aU.tuple (n:=2*e.deep+1) fun d hd=>?_).up (by rw [Ex.deep];lia)
  simp only [List.mem_cons,List.not_mem_nil,or_false] at hd
  rcases hd with rfl | rfl
  ·exact h8 (by unfold aQ;decide +kernel)
  ·exact ih
 | .op w a b,h=>by
  rw [bA] at h
  have i1:=je a h.2.1
  have i2:=je b h.2.2
  rw [bQ]
  refine (aU.tuple (n:=2*(max a.deep b.deep)+1) fun d hd=>?_).up (by rw [Ex.deep];lia)
  simp only [List.mem_cons,List.not_mem_nil,or_false] at hd
  rcases hd with rfl | rfl | rfl
  ·exact h8 h.1
  ·exact i1.up (by lia)
  ·exact i2.up (by lia)
 | .of n e,h=>by
  rw [bA] at h
  rw [bQ]
  refine (aU.tuple (n:=2*e.deep+1) fun d hd=>?_).up (by rw [Ex.deep];lia)
  simp only [List.mem_cons,List.not_mem_nil,or_false] at hd
  rcases hd with rfl | rfl | rfl
  ·exact h8 (by unfold aQ;decide +kernel)
  ·exact h8 h.1
  ·exact je e h.2
 | .many w z es,h=>by
  rw [bA] at h
  have ih:=exs_shd es h.2.2
  rw [bQ]
  refine (aU.tuple (n:=2*eZ es+2) fun d hd=>?_).up (by rw [Ex.deep];lia)
  simp only [List.mem_cons,List.not_mem_nil,or_false] at hd
  rcases hd with rfl | rfl | rfl
  ·exact h8 h.1
  ·exact h8 h.2.1
  ·exact aU.tuple ih
theorem exs_shd:∀ (es:List Ex),bJ es->∀ d∈gz es,aU (2*eZ es+1) d
 | [],_,d,h=>by simp [gz] at h
 | e::es,p,d,h=>by
  rw [bJ] at p
  have i1:=je e p.1
  have i2:=exs_shd es p.2
  rw [gz] at h
  rw [eZ]
  rcases Qn h with rfl | h
  ·exact i1.up (by lia)
  ·exact (i2 d h).up (by lia)
end
mutual
noncomputable def cL:Tr->PyData
 | .set _ r n e=>.tuple [.str "set",.int ((r:Nat):Int),.str n,bQ e]
 | .tell _ r e=>.tuple [.str "tell",.int ((r:Nat):Int),bQ e]
 | .iff _ r e b o=>.tuple [.str "if",.int ((r:Nat):Int),bQ e,.list (trsD b),.list (trsD o)]
 | .whl _ r e b=>.tuple [.str "while",.int ((r:Nat):Int),bQ e,.list (trsD b)]
 | .give _ r e=>.tuple [.str "give",.int ((r:Nat):Int),bQ e]
 | .df _ r n k ps b=>.tuple [.str "def",.int ((r:Nat):Int),.str n,.str k,.tuple (ps.map jc),.list (trsD b)]
 | .kd _ r n ps=>.tuple [.str "kind",.int ((r:Nat):Int),.str n,.tuple (ps.map jc)]
noncomputable def trsD:List Tr->List PyData
 | []=>[]
 | t::ts=>.tuple [.int ((t.mask:Nat):Int),cL t]::trsD ts
end
mutual
def de:Tr->Prop
 | .set _ _ n e=>aQ n/\bA e/\e.deep<=3
 | .tell _ _ e=>bA e/\e.deep<=3
 | .iff _ _ e b o=>(bA e/\e.deep<=3)/\AscTs b/\AscTs o
 | .whl _ _ e b=>(bA e/\e.deep<=3)/\AscTs b
 | .give _ _ e=>bA e/\e.deep<=3
 | .df _ _ n k ps b=>aQ n/\aQ k/\mo ps/\AscTs b
 | .kd _ _ n ps=>aQ n/\mo ps
def AscTs:List Tr->Prop
 | []=>True
 | t::ts=>de t/\AscTs ts
end
noncomputable def mq:aP->PyData
 | .s z=>.str z
 | .i n=>.int ((n:Nat):Int)
 | .e x=>bQ x
 | .b ts=>.list (trsD ts)
 | .p ps=>.tuple (ps.map jc)
def pI:aP->Prop
 | .s z=>aQ z
 | .i _=>True
 | .e x=>bA x/\x.deep<=3
 | .b ts=>AscTs ts
 | .p ps=>mo ps
theorem vX (t:Tr):cL t=.tuple (t.parts.map mq):=by cases t<;>simp [cL,Tr.parts,mq]
theorem ic:∀ z∈(["set","tell","if","while","give","def","kind"]:List Str),aQ z:=by unfold aQ;decide +kernel
theorem de.parts {t:Tr} (h:de t):∀ p∈t.parts,pI p:=by
 cases t<;>(rw [de] at h;intro p hp;simp only [Tr.parts,List.mem_cons,List.not_mem_nil,or_false] at hp)
 ·rcases hp with rfl | rfl | rfl | rfl
  ·exact ic _ (by simp)
  ·trivial
  ·exact h.1
  ·exact h.2
 ·rcases hp with rfl | rfl | rfl
  ·exact ic _ (by simp)
  ·trivial
  ·exact h
 ·rcases hp with rfl | rfl | rfl | rfl | rfl
  ·exact ic _ (by simp)
  ·trivial
  ·exact h.1
  ·exact h.2.1
  ·exact h.2.2
 ·rcases hp with rfl | rfl | rfl | rfl
  ·exact ic _ (by simp)
  ·trivial
  ·exact h.1
  ·exact h.2
 ·rcases hp with rfl | rfl | rfl
  ·exact ic _ (by simp)
  ·trivial
  ·exact h
 ·rcases hp with rfl | rfl | rfl | rfl | rfl | rfl
  ·exact ic _ (by simp)
  ·trivial
  ·exact h.1
  ·exact h.2.1
  ·exact h.2.2.1
  ·exact h.2.2.2
 ·rcases hp with rfl | rfl | rfl | rfl
  ·exact ic _ (by simp)
  ·trivial
  ·exact h.1
  ·exact h.2
mutual
theorem pJ {K:W.Frag} {H:Hp}:∀ {v:V} {t:Tr},bz H true v t->de t->cX K H v (cL t)
 | _,t,.mk h a,p=>by rw [vX];exact .tup (ah.of h) (vY a p.parts)
theorem vY {K:W.Frag} {H:Hp}:∀ {vs:List V} {ps:List aP},PsAt H true vs ps->(∀ p∈ps,pI p)->RdvA K H vs (ps.map mq)
 | _,_,.nil,_=>.nil
 | _,_,.cons a b,p=>.cons (pt_rdv a (p _ (by simp))) (vY b fun x hx=>p x (by simp [hx]))
theorem pt_rdv {K:W.Frag} {H:Hp}:∀ {v:V} {x:aP},PAt H true v x->pI x->cX K H v (mq x)
 | _,_,.s z,_=>.str z
 | _,_,.i n,_=>.int _
 | _,_,.e a,p=>jd p.1 a
 | _,_,.b l a,p=>.lst (aj.of l) (trs_rdv a p)
 | _,_,.p ⟨t,us,e,h,hl,E8⟩,_=>by rw [e];exact .tup (ah.of h) (vV hl E8)
theorem trs_rdv {K:W.Frag} {H:Hp}:∀ {vs:List V} {ts:List Tr},LAt H true vs ts->AscTs ts->RdvA K H vs (trsD ts)
 | _,_,.nil,_=>by rw [trsD];exact .nil
 | _,_,.cons a b,p=>by
  rw [AscTs] at p
  rw [trsD];exact .cons (Cu a p.1) (trs_rdv b p.2)
theorem Cu {K:W.Frag} {H:Hp}:∀ {v:V} {t:Tr},OAt H true v t->de t->cX K H v (.tuple [.int ((t.mask:Nat):Int),cL t])
 | _,_,.plain e _ _,_=>by cases e
 | _,_,.shared _ h a,p=>.tup (ah.of h) (.cons (.int _) (.cons (pJ a p) .nil))
end
theorem Cv {t:Tr} {ts:List Tr} (h:aP.b ts∈t.parts):sizeOf ts<sizeOf t:=by
 cases t with
 | set m r n e=>simp [Tr.parts] at h
 | tell m r e=>simp [Tr.parts] at h
 | iff m r e b o=>simp [Tr.parts] at h;rcases h with h | h<;>subst h<;>simp<;>lia
 | whl m r e b=>simp [Tr.parts] at h;subst h;simp;lia
 | give m r e=>simp [Tr.parts] at h
 | df m r n k ps b=>simp [Tr.parts] at h;subst h;simp;lia
 | kd m r n ps=>simp [Tr.parts] at h
mutual
theorem pL:∀ (t:Tr),de t->aU (3*t.deep+9) (cL t)
 | t,p=>by
  rw [vX]
  refine aU.tuple (n:=3*t.deep+8) fun d hd=>?_
  obtain ⟨x,hx,rfl⟩:=QH hd
  have hpx:=p.parts x hx
  cases x with
  | s z=>exact h8 hpx
  | i n=>exact (aU.int _).up (Qu _)
  | e e=>exact (je e hpx.1).up (by have:=hpx.2;lia)
  | p ps=>exact (aU.tuple (Ct hpx)).up (by lia)
  | b ts =>
   have FL:=iO hx
   have hsz:sizeOf ts<sizeOf t:=Cv hx
   exact (aU.list (trs_shd ts hpx)).up (by lia)
termination_by t=>sizeOf t
theorem trs_shd:∀ (ts:List Tr),AscTs ts->∀ d∈trsD ts,aU (3*deeps ts+7) d
 | [],_,d,h=>by simp [trsD] at h
 | t::ts,p,d,h=>by
  rw [AscTs] at p
  have hd:deeps (t::ts)=max (t.deep+1) (deeps ts):=by simp [deeps]
  rw [hd]
  rw [trsD] at h
  rcases Qn h with rfl | h
  ·refine (aU.tuple (n:=3*t.deep+9) fun d hd=>?_).up (by lia)
   rcases (show d=_∨d=_ by simpa using hd) with e | e<;>rw [e]
   ·exact (aU.int _).up (Qu _)
   ·exact pL t p.1
  ·exact (trs_shd ts p.2 d h).up (by lia)
termination_by ts=>sizeOf ts
end
theorem vZ:∀ {es:List Ex},(∀ e∈es,e.good)->lm es
 | [],_=>trivial
 | e::es,h=>⟨h e (by simp),vZ fun x hx=>h x (by simp [hx])⟩
theorem v0:∀ {es:List Ex},(∀ e∈es,bA e)->bJ es
 | [],_=>trivial
 | e::es,h=>⟨h e (by simp),v0 fun x hx=>h x (by simp [hx])⟩
theorem v3 {d:Nat}:∀ {es:List Ex},(∀ e∈es,e.deep<=d)->eZ es<=d
 | [],_=>by simp [eZ]
 | e::es,h=>by
  have h1:=h e (by simp)
  have h2:=v3 (es:=es) fun x hx=>h x (by simp [hx])
  rw [eZ];lia
theorem v4 {d:Nat}:∀ {es:List Ex},(∀ e∈es,e.sz<=d)->szL es<=es.length*d
 | [],_=>by simp [szL]
 | e::es,h=>by
  have h1:=h e (by simp)
  have h2:=v4 (es:=es) fun x hx=>h x (by simp [hx])
  rw [szL,QR,Nat.succ_mul];lia
structure fc (ns:List Str):Prop where
 len:ns.length=6
 asc:∀ z∈ns,aQ z
theorem fT {ns:List Str} (h:fc ns) (x:Int):aQ (cK ns x):=j6 h.asc _
structure j9 (d:Nat) (e:Ex):Prop where
 good:e.good
 deep:e.deep<=d
 sz:e.sz+1<=2 ^ (d+1)
 asc:bA e
theorem v5 {ns:List Str} (h:fc ns) (d:Nat) (x:Int):j9 d (i6 ns x):=by
 have:2<=2 ^ (d+1):=by rw [Nat.pow_succ];have:=Nat.one_le_two_pow (n:=d);lia
 unfold i6
 split
 ·exact ⟨trivial,Qu _,this,trivial⟩
 ·exact ⟨trivial,Qu _,this,fT h _⟩
theorem Cw:∀ z∈fS,aQ z:=by unfold aQ;decide +kernel
theorem Cy:∀ z∈fR,aQ z:=by unfold aQ;decide +kernel
theorem ie {ns:List Str} (h:fc ns):∀ (d:Nat) (x:Int),j9 d (cS ns d x)
 | 0,x=>v5 h 0 x
 | d+1,x=>by
  rw [cS]
  have p2:2 ^ (d+1+1)=2*2 ^ (d+1):=by rw [Nat.pow_succ,Nat.mul_comm]
  split
  ·exact v5 h _ x
  split
  ·have ih:=ie h d (aJ x 1)
   exact ⟨ih.good,by rw [Ex.deep];have:=ih.deep;lia,by rw [Ex.sz,p2];have:=ih.sz;lia,fT h _,ih.asc⟩
  split
  ·have hl:(x / 14 % 3).toNat<=2:=by lia
   have mem:∀ e∈(List.range (x / 14 % 3).toNat).map (fun k=>cS ns d (aJ x (2+((k:Nat):Int)))),j9 d e:=fun e he=>by
    obtain ⟨k,_,rfl⟩:=QH he
    exact ie h d _
   have hw:fR.getD (x % 14 % 2).toNat ""="do"∨fR.getD (x % 14 % 2).toNat ""="new":=by
    rcases (show (x % 14 % 2).toNat=0∨(x % 14 % 2).toNat=1 by lia) with e | e<;>rw [e]
    ·exact .inl rfl
    ·exact .inr rfl
   refine ⟨⟨hw,by rw [Qd,List.length_range];lia,vZ fun e he=>(mem e he).good⟩,?_,?_,j6 Cy _,fT h _,v0 fun e he=>(mem e he).asc⟩
   ·rw [Ex.deep];exact Nat.succ_le_succ (v3 fun e he=>(mem e he).deep)
   ·rw [Ex.sz,p2]
    have:=v4 (d:=2 ^ (d+1)-1) fun e he=>by have:=(mem e he).sz;lia
    rw [Qd,List.length_range] at this
    have h3:=Nat.mul_le_mul_right (2 ^ (d+1)-1) hl
    have:=Nat.one_le_two_pow (n:=d+1)
    lia
  ·have i1:=ie h d (aJ x 2)
   have i2:=ie h d (aJ x 3)
   have hm:fS.getD (x / 14 % 7).toNat ""∈fS:=by
    rw [Qe,Qa (by show (x / 14 % 7).toNat<7;lia)]
    exact QL _
   exact ⟨⟨hm,i1.good,i2.good⟩,by rw [Ex.deep];have:=i1.deep;have:=i2.deep;lia,by rw [Ex.sz,p2];have:=i1.sz;have:=i2.sz;lia,j6 Cw _,i1.asc,i2.asc⟩
theorem j9.fit {d:Nat} {e:Ex} (h:j9 d e) (hd:d<=3):e.fit/\e.sz<=15/\bA e/\e.deep<=3:=by
 have:=h.deep
 have h1:=h.sz
 have:2 ^ (d+1)<=2 ^ 4:=Nat.pow_le_pow_right (by decide) (by lia)
 exact ⟨⟨h.good,by lia⟩,by lia,h.asc,by lia⟩
structure ka (w r:Nat) (t:Tr):Prop where
 ok:bK t.mask
 asc:t.asc
 bare:t.fill []=t
 sub:t.mask &&& w=t.mask
 row:t.row=r
 co:t.co<=15
 d:de t
theorem jf {ns:List Str} (h:fc ns) {m w r:Nat} {wd:Str} {x:Int} (hm:bK m) (hs:m &&& w=m):ka w r (bh ns m wd x r)/\(bh ns m wd x r).nb=0/\(bh ns m wd x r).mask=m:=by
 obtain ⟨e1,e2,e3,e4⟩:=(ie h (x / 13 % 4).toNat (aJ x 6)).fit (by lia)
 unfold bh
 split
 ·exact ⟨⟨hm,e1,rfl,hs,rfl,e2,fT h _,e3,e4⟩,rfl,rfl⟩
 split
 ·exact ⟨⟨hm,e1,rfl,hs,rfl,e2,e3,e4⟩,rfl,rfl⟩
 ·exact ⟨⟨hm,e1,rfl,hs,rfl,e2,e3,e4⟩,rfl,rfl⟩
noncomputable abbrev gA:Str:="fghi"
noncomputable def pM (x:Int):List (Str × Str):=(List.range (x / 13 % 3).toNat).map fun k=>(⟨#[gA.cps.toList.getD k 0]⟩,"num")
noncomputable def bT (m:Nat):Nat:=m &&& (m ^^^ (m-1))
noncomputable def kc (ns:List Str) (w m:Nat) (x:Int) (r:Nat):List Tr :=
 if (!decide (w ^^^ m=0)&&!PyData.eqv (cL (bh ns (w ^^^ m) "set" (aJ x 8) r)) (cL (bh ns m "set" x r)))=true then
  if bT m<bT (w ^^^ m) then [bh ns m "set" x r,bh ns (w ^^^ m) "set" (aJ x 8) r] else [bh ns (w ^^^ m) "set" (aJ x 8) r,bh ns m "set" x r]
 else [bh ns m "set" x r]
noncomputable def ke (ns:List Str) (n:Nat) (df:Bool) (w:Nat) (x:Int) (r:Nat):List Tr :=
 if x % 13<2 then kc ns w (cT (aJ x 7) w) x r
 else if x % 13<5 then [bh ns (cT (aJ x 7) w) "tell" x r]
 else if x % 13=5/\n=1 then [.df (cT (aJ x 7) w) r (mj ns (x / 13)) (ml ns (x / 13)) (mi ns (x / 13)) []]
 else if x % 13=6/\n=1 then [.kd (cT (aJ x 7) w) r (cK ns (x / 39)) (pM x)]
 else if x % 13=7/\1<n/\df=true then [bh ns (cT (aJ x 7) w) "give" x r]
 else if (x % 13=8∨x % 13=9)/\n<4 then (if x % 13=8 then [.iff (cT (aJ x 7) w) r (cS ns 2 (aJ x 6)) [] []] else [.whl (cT (aJ x 7) w) r (cS ns 2 (aJ x 6)) []])
 else []
structure gC (w r n:Nat) (ts:List Tr):Prop where
 rw:∀ t∈ts,ka w r t
 lone:iQ ts
 len:ts.length<=2
 pw:ts.Pairwise c7
 op:(∃ t∈ts,t.nb≠0)->n<=3
theorem gC.one {w r n:Nat} {t:Tr} (h:ka w r t) (hn:t.nb≠0->n<=3):gC w r n [t] :=
 ⟨fun u hu=>by rw [Qt hu];exact h,.inl ⟨t,rfl⟩,by simp,by simp,fun hsl63=>by obtain ⟨u,hu,hb⟩:=hsl63;exact hn (by rw [Qt hu] at hb;exact hb)⟩
theorem v6 {m w:Nat} (h:m &&& w=m):(w ^^^ m) &&& w=w ^^^ m/\m &&& (w ^^^ m)=0:=by
 have hb:∀ i,m.testBit i=true->w.testBit i=true:=fun i hi=>by
  have:=congrArg (fun x=>x.testBit i) h
  simp only [Nat.testBit_and,hi,Bool.true_and] at this
  exact this
 constructor<;>refine Nat.eq_of_testBit_eq fun i=>?_<;>have:=hb i<;>simp only [Nat.testBit_and,Nat.testBit_xor,Nat.zero_testBit]<;>revert this<;>cases m.testBit i<;>cases w.testBit i<;>simp
theorem Cz {ns:List Str} (h:fc ns) {w m r n:Nat} {x:Int} (hw:bK w) (hm:bK m) (hs:m &&& w=m):gC w r n (kc ns w m x r):=by
 obtain ⟨a1,a2,a3⟩:=jf h (wd:="set") (x:=x) (r:=r) hm hs
 unfold kc
 split
 ·rename_i q
  rw [QP] at q
  have Dp:w ^^^ m≠0:=by simpa using q.1
  obtain ⟨x1,x2⟩:=v6 hs
  have hok:bK (w ^^^ m):=⟨Nat.pos_of_ne_zero Dp,Nat.xor_lt_two_pow (n:=8) hw.2 hm.2⟩
  obtain ⟨b1,b2,b3⟩:=jf h (wd:="set") (x:=aJ x 8) (r:=r) hok x1
  have bf:c7 (bh ns m "set" x r) (bh ns (w ^^^ m) "set" (aJ x 8) r):=⟨by rw [a1.row,b1.row];exact Qf _,fun _=>by rw [a3,b3];exact x2⟩
  have bf2:c7 (bh ns (w ^^^ m) "set" (aJ x 8) r) (bh ns m "set" x r):=⟨by rw [a1.row,b1.row];exact Qf _,fun _=>by rw [a3,b3,Nat.and_comm];exact x2⟩
  have two:∀ {p q:Tr},ka w r p->ka w r q->p.nb=0->q.nb=0->c7 p q->gC w r n [p,q]:=fun {p q} p1 q1 p2 q2 b=>⟨fun t ht=>by
    rcases (show t=p∨t=q by simpa using ht) with e | e<;>rw [e]
    ·exact p1
    ·exact q1,.inr fun t ht=>by
    rcases (show t=p∨t=q by simpa using ht) with e | e<;>rw [e]
    ·exact p2
    ·exact q2,by simp,by simpa using b,fun ⟨t,ht,hb⟩=>by
    rcases (show t=p∨t=q by simpa using ht) with e | e<;>rw [e] at hb
    ·exact absurd p2 hb
    ·exact absurd q2 hb⟩
  split
  ·exact two a1 b1 a2 b2 bf
  ·exact two b1 a1 b2 a2 bf2
 ·exact .one a1 fun z=>absurd a2 z
theorem v7 {ns:List Str} (h:fc ns) (x:Int):∀ z∈cU ns x,aQ z:=fun z hz=>by
 rcases (show z="num"∨z="truth"∨z=cK ns (x / 7) by simpa [cU] using hz) with e | e | e<;>rw [e]
 ·unfold aQ;decide +kernel
 ·unfold aQ;decide +kernel
 ·exact fT h _
theorem v8 {ns:List Str} (h:fc ns) {n w:Nat} {df:Bool} {x:Int} {r:Nat} (hw:bK w):gC w r n (ke ns n df w x r):=by
 have hm:=vF (x:=aJ x 7) hw
 have hs:=vE (aJ x 7) w
 have smp1:∀ wd,gC w r n [bh ns (cT (aJ x 7) w) wd x r]:=fun wd=>let q:=jf h (wd:=wd) (x:=x) (r:=r) hm hs;.one q.1 fun z=>absurd q.2.1 z
 unfold ke
 split
 ·exact Cz h hw hm hs
 split
 ·exact smp1 _
 split
 ·rename_i q
  refine .one ⟨hm,⟨by unfold mi;rw [Qd,List.length_range];lia,by simp,fun t ht=>by simp at ht,trivial⟩,rfl,hs,rfl,(by show 1+0<=15;decide),fT h _,j6 (v7 h _) _,fun p hp=>?_,trivial⟩ fun _=>by lia
  obtain ⟨k,_,rfl⟩:=QH hp
  exact ⟨fT h _,j6 (v7 h _) _⟩
 split
 ·refine .one ⟨hm,(by unfold pM;show (List.map _ _).length<=20;rw [Qd,List.length_range];lia),rfl,hs,rfl,(by show 0<=15;decide),fT h _,fun p hp=>?_⟩ fun z=>absurd rfl z
  obtain ⟨k,_,rfl⟩:=QH hp
  exact ⟨pA (by unfold aQ;decide +kernel) _,by show aQ (Str.ofString "num");unfold aQ;decide +kernel⟩
 split
 ·exact smp1 _
 split
 ·rename_i q
  obtain ⟨e1,e2,e3,e4⟩:=(ie h 2 (aJ x 6)).fit (by decide)
  have nil:∀ m,([]:List Tr).length<=40/\c6 m []/\ascs []:=fun m=>⟨by simp,fun t ht=>by simp at ht,trivial⟩
  split
  ·exact .one ⟨hm,⟨e1,nil _,nil _⟩,rfl,hs,rfl,(by show Ex.sz _+0+0<=15;lia),⟨e3,e4⟩,trivial,trivial⟩ fun _=>by lia
  ·exact .one ⟨hm,⟨e1,nil _⟩,rfl,hs,rfl,(by show Ex.sz _+0<=15;lia),⟨e3,e4⟩,trivial⟩ fun _=>by lia
 ·exact ⟨fun t ht=>by simp at ht,.inr fun t ht=>by simp at ht,by simp,by simp,fun hsl64=>by obtain ⟨t,ht,_⟩:=hsl64;simp at ht⟩
noncomputable abbrev CA:Stmt->Expr
 | .Return (some (.Call _ _ [⟨_,e,_⟩] _)) _=>e
 | _=>.Constant .none 0 ⟨0,0,0,0⟩
noncomputable abbrev CB:Stmt->Expr
 | .If _ b _ _=>CA (b.getD 3 (.Pass ⟨0,0,0,0⟩))
 | _=>.Constant .none 0 ⟨0,0,0,0⟩
noncomputable abbrev dP:Expr:=CB ((gg iT).getD 4 (.Pass ⟨0,0,0,0⟩))
noncomputable abbrev v9:Expr->Pos
 | .Lambda _ _ _ p=>p
 | _=>⟨0,0,0,0⟩
noncomputable abbrev pN:Expr->Arguments
 | .Lambda a _ _ _=>a
 | _=>{ posonlyargs:=[],args:=[],vararg:=none,kwonlyargs:=[],kw_defaults:=[],kwarg:=none,defaults:=[] }
noncomputable abbrev pO:Expr->Expr
 | .Lambda _ b _ _=>b
 | e=>e
noncomputable abbrev jg:Expr->Scope
 | .Lambda _ _ s _=>s
 | _=>{ kind:=.function,names:=[],isGenerator:=false,isCoroutine:=false }
structure pP (mg:Str->Option Value) (base:Heap) (DD:lR) (Pt:Addr):Prop where
 bm:BMain mg base
 c1:∃ c,DD.ZC.code=.ref c/\W.CodeHd base c Pt
noncomputable abbrev qR:Str:="_law_rows"++".<locals>."
abbrev Tb (H:Hp) (Pt:Addr):Prop:=LamTb H Pt (v9 dP) qR
structure gD (H0 H:Hp) (us bs:List Addr) (ts:List Tr):Prop where
 len:us.length=ts.length
 rw:∀ (k:Nat) (u:Addr) (t:Tr),us[k]?=some u->ts[k]?=some t->cp H u t bs
 bl:bs.length=(cx 0 ts).length
 nd:bs.Nodup
 new:∀ b∈bs,H0 b=none/\H b=some (.lst [])
inductive wa (Pt:Addr) (vs:List V) (H:Hp) (Q:VK) (E:XK):Prop
 | mk:∀ (x:Int) (r:Nat) (l st q bl:Addr) (ns:List Str) (qs:List Addr) (wd:Str) (wm:Nat) (df:Bool),vs=[.int x,.int ((r:Nat):Int),.ref l,.ref st]->fc ns->H l=some (.lst (ns.map V.str))->H st=some (.lst (qs.map V.ref++[.ref q]))->H q=some (.tup [.ref bl,.str wd,.int ((wm:Nat):Int)])->bK wm->qs.length<=10->(∀ q1,(qs++[q])[1]?=some q1->∃ y w1 z,H q1=some (.tup [y,.str w1,z])/\df=decide (w1="def"))->Tb H Pt->(∀ p us bs H',SamX Pt H H'->Tb H' Pt->H p=none->H' p=some (.lst (us.map V.ref))->gD H H' us bs (ke ns (qs.length+1) df wm x r)->Q (.ref p) H')->wa Pt vs H Q E
theorem jh {b1 b2:Bool} {T U E:Prop} (k:b1=true->(if b2=true then T else U)->E) (h:if (b1&&b2)=true then T else U):if b1=true then E else (if false=true then T else U):=by
 cases b1
 ·rw [if_neg (by simp),if_neg (by simp)];simpa using h
 ·rw [if_pos rfl];exact k rfl (by simpa using h)
theorem _root_.L2.LamTb.same {H H':Hp} {Pt:Addr} {pos:Pos} {q:Str} (h:LamTb H Pt pos q) (s:Same H H'):LamTb H' Pt pos q:=by
 obtain ⟨ps,h1,h2,h3⟩:=h
 refine ⟨ps,s _ _ h1,h2,h3.imp id ?_⟩
 rintro ⟨c',e,oc,vs,t,g1,g2⟩
 exact ⟨c',e,oc,vs,t,s _ _ g1,g2⟩
theorem _root_.L2.Same.x {Pt:Addr} {H H':Hp} (s:Same H H'):SamX Pt H H':=fun b o _ e=>s b o e
theorem CC {t:Tr} (h:t.nb=0):t.parts=t.pre:=by
 cases t with
 | iff m r e b o=>simp [Tr.nb] at h
 | whl m r e b=>simp [Tr.nb] at h
 | df m r n k ps b=>simp [Tr.nb] at h
 | _=>rfl
theorem j7.rw {v:V} {t:Tr} {H H':Hp} {u:Addr} (h:j7 v t H) (hn:t.nb=0) (s:cy H H') (hu:H' u=some (.tup [.int ((t.mask:Nat):Int),v])):cp H' u t []:=by
 obtain ⟨a,vs,rfl,h1,h2⟩:=h
 refine ⟨a,vs,hu,by rw [List.map_nil,QM];exact s _ _ h1,fun G g=>?_⟩
 rw [<- CC hn]
 exact h2 G fun b xs e=>g _ _ (s _ _ e)
theorem j7.sat {v:V} {t:Tr} {H H':Hp} (h:j7 v t H) (s:cy H H'):bz H' true v t:=by
 obtain ⟨a,vs,rfl,h1,h2⟩:=h
 exact .mk (s _ _ h1) (h2 H' s)
theorem mr (d:Nat) (t:Tr):(cx d [t]).length=t.nb:=by unfold cx;rw [List.flatMap_cons,List.flatMap_nil,QM,List.length_replicate]
theorem gD.one {H0 H:Hp} {u:Addr} {bs:List Addr} {t:Tr} (h:cp H u t bs) (hb:bs.length=t.nb) (nd:bs.Nodup) (new:∀ b∈bs,H0 b=none/\H b=some (.lst [])):gD H0 H [u] bs [t] :=
 ⟨rfl,fun k v w hv hw=>by
  match k,hv,hw with
  | 0,hv,hw=>cases hv;cases hw;exact h
  | k+1,hv,hw=>simp at hv,by rw [mr];exact hb,nd,new⟩
theorem CD {m:Nat} (h:0<m):bT m≠0:=by
 obtain ⟨t,q,e⟩:=kW m m (Qf _) (QX h)
 intro z
 have h1:=congrArg (fun x=>x.testBit t) z
 unfold bT at h1
 rw [e] at h1
 simp only [nj,Nat.testBit_and,rB,Nat.zero_testBit,Nat.testBit_two_pow_sub_one,Bool.true_and] at h1
 simp at h1
theorem CF {m n:Nat} (h:m &&& n=0) (hm:0<m):bT m≠bT n:=fun e=>CD hm (by
 have h1:bT m &&& m=bT m:=by unfold bT;rw [Nat.and_comm,<- Nat.and_assoc,Nat.and_self]
 have h2:bT n &&& n=bT n:=by unfold bT;rw [Nat.and_comm,<- Nat.and_assoc,Nat.and_self]
 rw [<- h1]
 rw [<- e] at h2
 calc bT m &&& m=(bT m &&& n) &&& m:=by rw [h2]
  _=bT m &&& (m &&& n):=by rw [Nat.and_assoc,Nat.and_comm n m]
  _=0:=by rw [h,Nat.and_zero])
theorem CG {α:Type} {a b:α} {l:List α} (h:l.Perm [a,b]):l=[a,b]∨l=[b,a]:=by
 obtain ⟨c,d,rfl⟩:=nU h.length_eq
 have hc:c∈[a,b]:=h.subset (by simp)
 rcases (show c=a∨c=b by simpa using hc) with e | e<;>subst e
 ·have:=(List.perm_cons c).mp h
  rw [List.perm_singleton.mp this];exact .inl rfl
 ·have:=(List.perm_cons c).mp (h.trans (List.Perm.swap c a []))
  rw [List.perm_singleton.mp this];exact .inr rfl
theorem CH {k:Int} {x:V} {ys:List V} (h:gm [k] [x] ys):ys=[x]:=by
 obtain ⟨zs,p,_,e⟩:=h
 rw [e,List.perm_singleton.mp p];rfl
theorem CI {a b:Int} {x y:V} {ys:List V} (h:gm [a,b] [x,y] ys) (Dp:a≠b):ys=if a<b then [x,y] else [y,x]:=by
 obtain ⟨zs,p,pw,e⟩:=h
 rw [e]
 rcases CG p with z | z<;>rw [z] at pw ⊢
 ·have:a<=b:=by simpa using pw
  rw [if_pos (by lia)];rfl
 ·have:b<=a:=by simpa using pw
  rw [if_neg (by lia)];rfl
theorem fD {i j:Int}:decide (V.int i=V.int j)=decide (i=j):=by
 by_cases h:i=j
 ·rw [Qo h,h];exact Qo rfl
 ·rw [Qi h];exact Qi fun z=>h (by injection z)
theorem pQ {a b:Str}:decide (V.str a=V.str b)=decide (a=b):=by
 by_cases h:a=b
 ·rw [Qo h,h];exact Qo rfl
 ·rw [Qi h];exact Qi fun z=>h (by injection z)
theorem wb:gA.length=4:=by decide +kernel
noncomputable def mw (k:Nat):Str × Str:=(⟨#[gA.cps.toList.getD k 0]⟩,"num")
noncomputable abbrev wc:List Str:=["_law_number","_law_at","_law_names_here","_law_stack","_law_form","_law_block","_law_word","_law_within","_law_mask_here","_law_rest","_law_found","_law_other","_law_fields","_law_e"]
theorem we:a7 wc ["_law_number","_law_at","_law_names_here","_law_stack"] (aL iT):=⟨rfl,rfl,rfl,by decide +kernel,rfl,by decide +kernel,by decide +kernel⟩
theorem wf:∀ y∈(jg dP).names,y.2≠.free:=by decide +kernel
theorem fU {H:Hp} {Pt b:Addr} {o:HO} (h:Tb H Pt) (e:H b=some o) (n:∀ ps,o≠.tbl ps):b≠Pt:=fun z=>by
 obtain ⟨ps,h1,_⟩:=h
 rw [z,h1] at e;exact n ps (Qq e).symm
theorem _root_.L2.SamX.tp {H H':Hp} {Pt:Addr} (s:SamX Pt H H') (h:Tb H Pt):cy H H':=fun b xs e=>s _ _ (fU h e (fun ps z=>nomatch z)) e
theorem wg (T:All P w K mg AA DD) {Pt p1:Addr} {σ:L2.St} {H:Hp} {Q:VK} {cells:List (Str × Addr)} {pm:Value} {us:List Addr} {ts:List Tr} (hσ:σ[10]?=some (some (.ref p1))) (EW:Tb H Pt) (FZ:bM cells (jg dP).names []=[]) (hp:H p1=some (.lst (us.map V.ref))) (hl:us.length=ts.length) (h2:us.length<=2)
  (hr:∀ (k:Nat) (u:Addr) (t:Tr),us[k]?=some u->ts[k]?=some t->cp H u t []) (hm:∀ t∈ts,0<t.mask)
  (k:∀ ys (H2:Hp) (p:Addr),SamX Pt H H2->Tb H2 Pt->H2 p=none->gm (ts.map fun t=>((bT t.mask:Nat):Int)) (us.map V.ref) ys->Q (.ref p) (upd H2 p (.lst ys))) :
  sV P w K mg base 2 ["_law_one"] (km 10) (sU qR (pN dP) (pO dP) (jg dP) (v9 dP) cells pm Pt) σ H Q:=by
 have GLO:=Cg (base:=base) T
 refine ⟨.ref p1,hσ,p1,us.map V.ref,ts.map (fun t=>((bT t.mask:Nat):Int)),rfl,by rw [Qd];lia,by rw [Qd,Qd,hl],EW,fun f c' EU H2 sx tb2 rec hf hf2=>?_⟩
 rw [FZ] at hf2
 refine ⟨f,W.kla_fn "<lambda>" (qR++"<lambda>") (pN dP) (pO dP) (jg dP) [] pm (.ref c') EU,fun vs H' Q' _=>∃ (u a:Addr) (m:Nat),vs=[.ref u]/\H' u=some (.tup [.int ((m:Nat):Int),.ref a])/\0<m/\H' f=some (cz (W.kla_obj "<lambda>" (qR++"<lambda>") (pN dP) (pO dP) (jg dP) [] pm c' EU))/\RecAt H' c' qR/\Q' (.int ((bT m:Nat):Int)) H',rfl,aj.of (sx _ _ (fU EW hp fun ps z=>nomatch z) hp),?_,Binds.all fun us hl=>?_,fun i x m hx hm' Q' q=>?_,fun p ys EJ sb=>k ys H2 p sx tb2 EJ sb⟩
 ·refine AJ (k:=1) ⟨rfl,rfl,rfl,by decide +kernel,by decide +kernel,by decide +kernel,by decide +kernel⟩ wf (fun vs H Q E h=>?_) fun A outer s H3 vs Q E hr h=>?_
  ·obtain ⟨u,a,m,rfl,_⟩:=h;rfl
  ·obtain ⟨u,a,m,rfl,hu,h0,h1,h2,q⟩:=h
   have Dw:ay 1 _:=hr
   refine ⟨h1,h2,_,aK GLO Dw rfl T.m_ZG T.k_ZG T.b_ZG .nil aD (aa (az (aN (K:=K) rfl) (pv 0) af (fun _ _=>rfl)) ag),?_⟩
   exact ⟨_,rfl,u,_,_,_,rfl,rfl,ah.of hu,aw (j:=0) rfl,m,rfl,h0,q⟩
 ·obtain ⟨a,rfl⟩:=gu hl;rfl
 ·rw [Qr] at hx hm'
  cases hu:us[i]? with
  | none=>rw [hu] at hx;cases hx
  | some u =>
   cases ht:ts[i]? with
   | none=>rw [ht] at hm';cases hm'
   | some t =>
    rw [hu] at hx;rw [ht] at hm'
    cases hx;cases hm'
    obtain ⟨a,vs,e1,_⟩:=(hr i u t hu ht).kept (sx.tp EW)
    exact ⟨u,a,t.mask,rfl,e1,hm t (Qh ht),hf2,rec,q⟩
theorem CJ (T:All P w K mg AA DD) {Pt:Addr} (L:pP mg base DD Pt):aF P w K mg base aG 7 AA.ZC DD.ZC ["_law_number","_law_at","_law_names_here","_law_stack"] (wa Pt):=by
 have GM:=vI (base:=base) T
 have GX:=j4 (base:=base) T
 have GSI:=Cj (base:=base) T
 have GDF:=Ck (base:=base) T
 have GE:=pF (base:=base) T 4
 obtain ⟨c,hc,hC⟩:=L.c1
 have F:=T.F_ZC
 generalize DD.ZC=fd at F hc ⊢
 obtain ⟨oc,od,kV,FR,pm,an,Ds,ct,osl,rfl,lk,FP⟩:=F.ex
 have hc:Ds=.ref c:=hc
 subst hc
 refine qz (k:=6) lk FP we (fun vs H Q E h=>?_) (fun A outer s H vs Q E hr h=>?_)
 ·obtain ⟨x,r,l,st,q,bl,ns,qs,wd,wm,df,rfl,_⟩:=h
  rfl
 ·obtain ⟨x,r,l,st,q,bl,ns,qs,wd,wm,df,rfl,D4,hl,hst,hq,hwm,hql,hdf,EW,kq⟩:=h
  have nd:=we.nd
  have hr6:ay 6 _:=hr
  have Fc:ay 5 _:=hr6.mono (by lia)
  have Dw:ay 1 _:=hr6.mono (by lia)
  have hrL:ay (2+2) _:=hr6.mono (by lia)
  have hu:=hr.units
  have hfr:∀ y∈(jg dP).names,y.2=.free->∃ c',(PyProof.Rows.envOfC "_law_rows" (aL iT) s.heap.objs.size AA.ZC (.ref c)).cells.lookup y.1=some c':=fun y hy hf=>absurd hf (wf y hy)
  refine ⟨_,dS.nox (aA (aY (i:=4) nd rfl (Or.inl rfl) (am bG (pv 0) af)) (aA (mF (az (b9 (K:=K) rfl) (pv 3) (kz kC af) (fun _ _=>rfl)) (eK rfl (br (a9 (i:=5) nd rfl (Or.inl rfl)) (br (a9 (i:=6) nd rfl (Or.inl rfl)) (br (a9 (i:=7) nd rfl (Or.inl rfl)) dm))))) (aA (aY (i:=8) nd rfl (Or.inl rfl) (aK GM Dw rfl T.m_ZB T.k_ZB T.b_ZB .nil aD (aa (aK GX Dw rfl T.m_Zw T.k_Zw T.b_Zw .nil aD (aa (pv 0) (aa af ag))) (aa (pv 7) ag)))) (aA (aY (i:=9) nd rfl (Or.inl rfl) (am kB (pv 7) (pv 8))) (aA (aX (aM iq (pv 4) af (aR _)) (aA (aY (i:=10) nd rfl (Or.inl rfl) (bW (aa (aV (aa (pv 8) (aa (aK GSI hr6 rfl T.m_Zr T.k_Zr T.b_Zr .nil aD (aa (pv 0) (aa (pv 1) (aa (pv 2) (aa aI ag))))) ag))) ag))) (aA (aY (i:=11) nd rfl (Or.inl rfl) (aK GSI hr6 rfl T.m_Zr T.k_Zr T.b_Zr .nil aD (aa (aK GX Dw rfl T.m_Zw T.k_Zw T.b_Zw .nil aD (aa (pv 0) (aa af ag))) (aa (pv 1) (aa (pv 2) (aa aI ag)))))) (aA (aX (PW.pt (ff (aM fZ (pv 9) af (aR _)) (fH (aM (k6 (K:=K) rfl hu) (pv 11) (az (aN (K:=K) rfl) (az (b9 (K:=K) rfl) (pv 10) af (fun _ _=>rfl)) af (fun _ _=>rfl)) (aR _))))) (ao (bV (iA PySem.F.plainAttrs_list PySem.F.slot_list_append PySem.F.type_list_append jA (pv 10) (aa (aV (aa (pv 9) (aa (pv 11) ag))) ag)) (by rfl))) bi) (ao (aS (AH ["_law_one"] rfl rfl rfl rfl rfl hrL rfl T.n_sorted (pv 10) (AG rfl rfl hC L.bm hfr))))))) bi) (aA (aX (aM iq (pv 4) af (aR _)) (ao (aS (bW (aa (aV (aa (pv 8) (aa (aK GSI hr6 rfl T.m_Zr T.k_Zr T.b_Zr .nil aD (aa (pv 0) (aa (pv 1) (aa (pv 2) (aa aI ag))))) ag))) ag)))) bi) (aA (aX (PW.pt (ff (aM bu (pv 4) af (aR _)) (fH (aM bu (cu fo rfl T.n_len eR (aa (pv 3) ag)) af (aR _))))) (ao (aS (bW (aa (aV (aa (pv 8) (aa (aK GDF Dw rfl T.m_ZH T.k_ZH T.b_ZH .nil aD (aa (am cM (pv 0) af) (aa (pv 1) (aa (pv 2) ag)))) ag))) ag)))) bi) (aA (aX (PW.pt (ff (aM bu (pv 4) af (aR _)) (fH (aM bu (cu fo rfl T.n_len eR (aa (pv 3) ag)) af (aR _))))) (aA (nh (i:=12) (aL iT) wc [] [] rfl (by exact ⟨rfl,rfl,by decide +kernel,rfl,by decide +kernel,by decide +kernel,by decide +kernel,rfl,by decide +kernel⟩) rfl rfl (io rfl T.n_range (aa (am bG (am cM (pv 0) af) af) ag)) (fun _ _ _ _=>eQ) (fun _ _ _ _=>(aV (aa (az qF aI (pv 0) (fun _ _=>rfl)) (aa aI ag)))) nd rfl rfl rfl) (ao (aS (bW (aa (aV (aa (pv 8) (aa (aV (aa aI (aa (pv 1) (aa (az (b9 (K:=K) rfl) (pv 2) (am bG (am cM (pv 0) af) af) (fun _ _=>rfl)) (aa (iy jz rfl T.n_tuple iE (aa (pv 12) ag)) ag))))) ag))) ag))))) bi) (aA (aX (PW.pt (ff (aM bu (pv 4) af (aR _)) (ff (aM kE (cu fo rfl T.n_len eR (aa (pv 3) ag)) af (aR _)) (fH (aM bu (az (aN (K:=K) rfl) (az (b9 (K:=K) rfl) (pv 3) af (fun _ _=>rfl)) af (fun _ _=>rfl)) aI (aR _)))))) (ao (aS (bW (aa (aV (aa (pv 8) (aa (aK GSI hr6 rfl T.m_Zr T.k_Zr T.b_Zr .nil aD (aa (pv 0) (aa (pv 1) (aa (pv 2) (aa aI ag))))) ag))) ag)))) bi) (aA (aX (PW.pt (ff (PW.pt (fI (aM bu (pv 4) af (aR _)) (il (aM bu (pv 4) af (aR _))))) (fH (aM iq (cu fo rfl T.n_len eR (aa (pv 3) ag)) af (aR _))))) (aA (aY (i:=13) nd rfl (Or.inl rfl) (aK GE Fc rfl T.m_ZA T.k_ZA T.b_ZA .nil aD (aa (aK GX Dw rfl T.m_Zw T.k_Zw T.b_Zw .nil aD (aa (pv 0) (aa af ag))) (aa (pv 2) (aa af ag))))) (aA (aX (aM bu (pv 4) af (aR _)) (ao (aS (bW (aa (aV (aa (pv 8) (aa (aV (aa aI (aa (pv 1) (aa (pv 13) (aa (bW ag) (aa (bW ag) ag)))))) ag))) ag)))) bi) (ao (aS (bW (aa (aV (aa (pv 8) (aa (aV (aa aI (aa (pv 1) (aa (pv 13) (aa (bW ag) ag))))) ag))) ag)))))) bi) (ao (aS (bW ag))))))))))))),dt fun N k1=>?_⟩
  refine ⟨_,rfl,_,_,rfl,rfl,(by show (0:Int)<13;decide),?_⟩
  refine k1 _ _ (dt fun N k1=>?_)
  refine ⟨_,rfl,1,rfl,st,_,_,_,rfl,rfl,aj.of hst,kI _ _,q,_,rfl,ah.of hq,rfl,_,_,rfl,_,_,rfl,_,_,rfl,rfl,?_⟩
  refine k1 _ _ (dt fun N k1=>?_)
  refine ⟨_,rfl,x,7,rfl,_,rfl,aJ x 7,wm,rfl,?_⟩
  refine k1 _ _ (dt fun N k1=>?_)
  refine ⟨_,rfl,_,rfl,_,_,rfl,rfl,?_⟩
  dsimp only [aW]
  rw [kM]
  refine k1 _ _ (dt fun N k1=>?_)
  have hm:=vF (x:=aJ x 7) hwm
  have hms:=vE (aJ x 7) wm
  unfold ke at kq
  generalize cT (aJ x 7) wm=m at hm hms kq
  have Ed:∀ {n:Nat},n<=500->n<sizeLine:=fun h=>gN (by lia)
  have Du:∀ {H1:Hp} {v:V} {u p:Addr} (t:Tr) (bs:List Addr),Same H H1->H1 u=none->upd H1 u (.tup [.int ((m:Nat):Int),v]) p=none->(∀ G,cy (upd H1 u (.tup [.int ((m:Nat):Int),v])) G->cp G u t bs)->bs.length=t.nb->bs.Nodup->(∀ b∈bs,H b=none/\H1 b=some (.lst [])) ->
    (∀ p us bs H',SamX Pt H H'->Tb H' Pt->H p=none->H' p=some (.lst (us.map V.ref))->gD H H' us bs [t]->Q (.ref p) H')->Q (.ref p) (upd (upd H1 u (.tup [.int ((m:Nat):Int),v])) p (.lst [.ref u])):=fun {H1 v u p} t bs s1 hu hp hr hb hnd E2 k=>by
   have s2:=ak (o:=.tup [.int ((m:Nat):Int),v]) hu
   have s3:=ak (o:=.lst [V.ref u]) hp
   exact k p [u] bs _ ((s1.trans s2).trans s3).x (EW.same ((s1.trans s2).trans s3)) ((s1.trans s2).free hp) ai (.one (hr _ s3.tups) hb hnd fun b hb=>⟨(E2 b hb).1,s3 _ _ (s2 _ _ (E2 b hb).2)⟩)
  refine ⟨_,rfl,_,_,rfl,rfl,_,rfl,?_⟩
  refine cD (fun h1=>?_) (fun h1=>?_)
  ·rw [if_pos (QS h1)] at kq
   refine dt fun N k1=>?_
   obtain ⟨a1,a2,a3⟩:=jf D4 (wd:="set") (x:=x) (r:=r) hm hms
   refine ⟨_,rfl,_,rfl,_,rfl,_,rfl,x,r,l,ns,"set",m,rfl,by simp [i8],hl,D4.len,fun v1 H1 s1 hv1=>⟨bL,fun u1 hu1=>⟨dh,fun p1 EG=>?_⟩⟩⟩
   have s2:=ak (o:=.tup [.int ((m:Nat):Int),v1]) hu1
   have s3:=ak (o:=.lst [V.ref u1]) EG
   have hu1':=s3 _ _ (ai (H:=H1) (a:=u1) (o:=.tup [.int ((m:Nat):Int),v1]))
   have hpn:H p1=none:=(s1.trans s2).free EG
   have s123:=(s1.trans s2).trans s3
   have tp1:cy H1 _:=(s2.trans s3).tups
   have Fl:upd (upd H1 u1 (.tup [.int ((m:Nat):Int),v1])) p1 (.lst [.ref u1]) p1=some (.lst [.ref u1]):=ai
   generalize upd (upd H1 u1 (.tup [.int ((m:Nat):Int),v1])) p1 (.lst [.ref u1])=H3 at s123 hu1' tp1 Fl
   refine k1 _ _ (dt fun N k1=>?_)
   refine ⟨_,rfl,x,8,rfl,_,rfl,_,rfl,aJ x 8,r,l,ns,"set",wm ^^^ m,rfl,by simp [i8],s123 _ _ hl,D4.len,fun v2 H4 s4 hv2=>?_⟩
   refine k1 _ _ ?_
   have b1:de (bh ns (wm ^^^ m) "set" (aJ x 8) r)/\(bh ns (wm ^^^ m) "set" (aJ x 8) r).nb=0/\(bh ns (wm ^^^ m) "set" (aJ x 8) r).mask=wm ^^^ m/\(bh ns (wm ^^^ m) "set" (aJ x 8) r).deep=0:=by
    obtain ⟨_,_,e3,e4⟩:=(ie D4 (aJ x 8 / 13 % 4).toNat (aJ (aJ x 8) 6)).fit (by lia)
    unfold bh
    rw [if_pos rfl]
    exact ⟨⟨fT D4 _,e3,e4⟩,rfl,rfl,rfl⟩
   have d1:(bh ns m "set" x r).deep=0:=by unfold bh;rw [if_pos rfl];rfl
   have r1:cp H4 u1 (bh ns m "set" x r) []:=hv1.rw a2 (fun b xs e=>s4.tups _ _ (tp1 _ _ e)) (by rw [a3];exact s4 _ _ hu1')
   have hsE:kc ns wm m x r=if (!decide (wm ^^^ m=0)&&!PyData.eqv (cL (bh ns (wm ^^^ m) "set" (aJ x 8) r)) (cL (bh ns m "set" x r)))=true then (if bT m<bT (wm ^^^ m) then [bh ns m "set" x r,bh ns (wm ^^^ m) "set" (aJ x 8) r] else [bh ns (wm ^^^ m) "set" (aJ x 8) r,bh ns m "set" x r]) else [bh ns m "set" x r]:=rfl
   have hp4:=s4 _ _ Fl
   have s14:=s123.trans s4
   generalize hg2:bh ns (wm ^^^ m) "set" (aJ x 8) r=t2 at b1 hv2 hsE
   generalize hg1:bh ns m "set" x r=t1 at a1 a2 a3 d1 r1 hv1 hsE
   refine gk (fun σ' H'=>σ'=[some (.int x),some (.int ((r:Nat):Int)),some (.ref l),some (.ref st),some (.int (x % 13)),some (.ref bl),some (.str wd),some (.int ((wm:Nat):Int)),some (.int ((m:Nat):Int)),some (.int ((wm ^^^ m:Nat):Int)),some (.ref p1),some v2,none,none]/\Same H H' /\
    (((!decide (wm ^^^ m=0)&&!PyData.eqv (cL t2) (cL t1))=true/\∃ u2,H' p1=some (.lst [.ref u1,.ref u2])/\cp H' u1 t1 []/\cp H' u2 t2 [])∨((!decide (wm ^^^ m=0)&&!PyData.eqv (cL t2) (cL t1))=false/\H' p1=some (.lst [.ref u1])/\cp H' u1 t1 []))) (fun R hR=>?_) ?_
   ·refine ⟨_,rfl,rfl,_,rfl,?_⟩
    have dz:(!decide (V.int ((wm ^^^ m:Nat):Int)=V.int 0))=!decide (wm ^^^ m=0):=by
     rw [fD];exact congrArg _ (decide_eq_decide.mpr (by lia))
    rw [dz]
    refine jh (b2:=!PyData.eqv (cL t2) (cL t1)) (fun _ h=>⟨_,rfl,_,rfl,p1,_,_,_,rfl,rfl,aj.of hp4,aw (j:=0) rfl,u1,_,_,_,rfl,rfl,ah.of (s4 _ _ hu1'),aw (j:=1) rfl,cL t2,cL t1,pJ (hv2.sat fun _ _ e=>e) b1.1,pJ (hv1.sat fun b xs e=>s4.tups _ _ (tp1 _ _ e)) a1.d,(pL t2 b1.1).ok (by rw [b1.2.2.2];decide),(pL t1 a1.d).ok (by rw [d1];decide),_,rfl,h⟩) ?_
    refine cD (fun h2=>?_) (fun h2=>?_)
    ·refine ⟨_,rfl,.inl ⟨rfl,_,aj.of hp4⟩,_,rfl,_,rfl,bL,fun u2 hu2=>?_⟩
     have s5:=ak (o:=.tup [.int ((wm ^^^ m:Nat):Int),v2]) hu2
     refine ⟨p1,_,_,rfl,rfl,s5 _ _ hp4,Ed (by show 1<=500;decide),?_⟩
     have tk:cy (upd H4 u2 (.tup [.int ((wm ^^^ m:Nat):Int),v2])) (upd (upd H4 u2 (.tup [.int ((wm ^^^ m:Nat):Int),v2])) p1 (.lst ([.ref u1]++[.ref u2]))):=fun b xs e=>by
      rw [al fun z=>by rw [z,s5 _ _ hp4] at e;cases e];exact e
     refine hR _ _ ⟨rfl,fun b o e=>?_,.inl ⟨h2,u2,ai,r1.kept fun b xs e=>tk _ _ (s5.tups _ _ e),hv2.rw b1.2.1 (fun b xs e=>tk _ _ (s5.tups _ _ e)) (by rw [b1.2.2.1];exact tk _ _ ai)⟩⟩
     rw [al (fun z=>by rw [z,hpn] at e;cases e)];exact s5 _ _ (s14 _ _ e)
    ·exact hR _ _ ⟨rfl,s14,.inr ⟨by simpa using h2,hp4,r1⟩⟩
   rintro σ' H' ⟨rfl,sm,hcase⟩
   have fin:∀ (us us2:List Addr) (ts:List Tr) (H2:Hp) (p:Addr),SamX Pt H' H2->Tb H2 Pt->H2 p=none->us2.length=ts.length->(∀ (k:Nat) (u:Addr) (t:Tr),us2[k]?=some u->ts[k]?=some t->cp H' u t [])->(cx 0 ts).length=0->kc ns wm m x r=ts->Q (.ref p) (upd H2 p (.lst (us2.map V.ref))):=fun us us2 ts H2 p sx tb hp hl hr hb e=>by
    have su:=ak (o:=.lst (us2.map V.ref)) hp
    have sxx:SamX Pt H (upd H2 p (.lst (us2.map V.ref))):=fun b o hb e=>su _ _ (sx _ _ hb (sm _ _ e))
    refine kq p us2 [] _ sxx (tb.same su) ?_ ai ?_
    ·cases hh:H p with
     | none=>rfl
     | some o =>
      by_cases z:p=Pt
      ·obtain ⟨ps,h1,_⟩:=tb;rw [z,h1] at hp;cases hp
      ·rw [sx _ _ z (sm _ _ hh)] at hp;cases hp
    ·rw [e]
     exact ⟨hl,fun k u t a b=>((hr k u t a b).kept (sx.tp (EW.same sm))).kept su.tups,by rw [hb];rfl,.nil,fun b hb=>by simp at hb⟩
   have nb1:(cx 0 [t1]).length=0:=by rw [mr,a2]
   rcases hcase with ⟨hc,u2,Ff,w1,w2⟩ | ⟨hc,Ff,w1⟩
   ·rw [if_pos hc] at hsE
    have Dp:wm ^^^ m≠0:=by have:=(Bool.and_eq_true_iff.mp hc).1;simpa using this
    obtain ⟨x1,x2⟩:=v6 hms
    have E9:∀ {a b:Addr} {p q:Tr},cp H' a p []->cp H' b q []->∀ (k:Nat) (u:Addr) (t:Tr),[a,b][k]?=some u->[p,q][k]?=some t->cp H' u t []:=fun {a b p q} g1 g2 k u t hu ht=>by
     match k,hu,ht with
     | 0,hu,ht=>cases hu;cases ht;exact g1
     | 1,hu,ht=>cases hu;cases ht;exact g2
     | k+2,hu,ht=>simp at hu
    have nb2:∀ {p q:Tr},p.nb=0->q.nb=0->(cx 0 [p,q]).length=0:=fun {p q} g1 g2=>by simp [cx,g1,g2]
    refine wg (us:=[u1,u2]) (ts:=[t1,t2]) T rfl (EW.same sm) rfl Ff rfl (by simp) (E9 w1 w2) (fun t ht=>?_) fun ys H2 p sx tb hp sb=>?_
    ·rcases (show t=t1∨t=t2 by simpa using ht) with e | e<;>rw [e]
     ·rw [a3];exact hm.1
     ·rw [b1.2.2.1];exact Nat.pos_of_ne_zero Dp
    have lne:((bT t1.mask:Nat):Int)≠((bT t2.mask:Nat):Int):=fun z=>CF x2 hm.1 (by rw [a3,b1.2.2.1] at z;lia)
    have ey:=CI (a:=((bT t1.mask:Nat):Int)) (b:=((bT t2.mask:Nat):Int)) (x:=.ref u1) (y:=.ref u2) sb lne
    rw [a3,b1.2.2.1] at ey
    rw [ey]
    by_cases Do:bT m<bT (wm ^^^ m)
    ·rw [if_pos (by lia)]
     rw [if_pos Do] at hsE
     exact fin [u1,u2] [u1,u2] [t1,t2] H2 p sx tb hp rfl (E9 w1 w2) (nb2 a2 b1.2.1) hsE
    ·rw [if_neg (by lia)]
     rw [if_neg Do] at hsE
     exact fin [u1,u2] [u2,u1] [t2,t1] H2 p sx tb hp rfl (E9 w2 w1) (nb2 b1.2.1 a2) hsE
   ·rw [if_neg (by rw [hc];simp)] at hsE
    have Fh:∀ (k:Nat) (u:Addr) (t:Tr),[u1][k]?=some u->[t1][k]?=some t->cp H' u t []:=fun k u t hu ht=>by
     match k,hu,ht with
     | 0,hu,ht=>cases hu;cases ht;exact w1
     | k+1,hu,ht=>simp at hu
    refine wg (us:=[u1]) (ts:=[t1]) T rfl (EW.same sm) rfl Ff rfl (by simp) Fh (fun t ht=>by rw [Qt ht,a3];exact hm.1) fun ys H2 p sx tb hp sb=>?_
    rw [CH sb]
    exact fin [u1] [u1] [t1] H2 p sx tb hp rfl Fh nb1 hsE
  refine k1 _ _ (dt fun N k1=>?_)
  rw [if_neg (fun z=>h1 (Qo z))] at kq
  refine ⟨_,rfl,_,_,rfl,rfl,_,rfl,?_⟩
  refine cD (fun h2=>?_) (fun h2=>?_)
  ·rw [if_pos (QS h2)] at kq
   obtain ⟨_,n0,em⟩:=jf D4 (wd:="tell") (x:=x) (r:=r) hm hms
   refine ⟨_,rfl,_,rfl,_,rfl,_,rfl,x,r,l,ns,"tell",m,rfl,by simp [i8],hl,D4.len,fun v H1 s1 hv=>⟨bL,fun u hu=>⟨dh,fun p hp=>?_⟩⟩⟩
   exact Du _ [] s1 hu hp (fun G g=>hv.rw n0 (fun b xs e=>g _ _ ((ak hu).tups _ _ e)) (by rw [em];exact g _ _ ai)) n0.symm .nil (fun b hb=>by simp at hb) kq
  refine k1 _ _ (dt fun N k1=>?_)
  rw [if_neg (fun z=>h2 (Qo z))] at kq
  have hln:(((qs.map V.ref++[V.ref q]).length:Nat):Int)=((qs.length+1:Nat):Int):=by simp
  have l1:decide (((qs.length+1:Nat):Int)=1)=decide (qs.length+1=1):=decide_eq_decide.mpr (by lia)
  have l2:decide (((qs.length+1:Nat):Int)>1)=decide (1<qs.length+1):=decide_eq_decide.mpr (by lia)
  have l4:decide (((qs.length+1:Nat):Int)<4)=decide (qs.length+1<4):=decide_eq_decide.mpr (by lia)
  have name:∀ y:Int,∃ j:Nat,y % 6=((j:Nat):Int)/\j<6/\cK ns y=ns.getD j "":=fun y=>by
   obtain ⟨j,ej,hj⟩:=db (a:=y) (n:=6) (by decide)
   have ej:y % 6=((j:Nat):Int):=ej
   exact ⟨j,ej,hj,by unfold cK;rw [ej,QE]⟩
  have hn6:=D4.len
  refine ⟨_,rfl,rfl,_,rfl,jh (b2:=decide (qs.length+1=1)) (fun _ h=>⟨_,rfl,st,_,rfl,.inl (aj.of hst),rfl,_,rfl,by rw [fD,hln,l1];exact h⟩) ?_⟩
  rw [fD]
  refine cD (fun h3=>?_) (fun h3=>?_)
  ·simp only [QP,decide_eq_true_eq] at h3
   rw [if_pos h3] at kq
   refine ⟨_,rfl,_,rfl,_,_,rfl,rfl,⟨by decide,by decide⟩,_,rfl,_,rfl,x / 13,r,l,ns,rfl,hl,hn6,fun a tp b2 H1 s1 hb0 Eu ha DW=>⟨bL,fun u hu=>⟨dh,fun p hp=>?_⟩⟩⟩
   refine Du _ [b2] s1 hu hp (fun G g=>⟨a,[.str "def",.int ((r:Nat):Int),.str (mj ns (x / 13)),.str (ml ns (x / 13)),.ref tp],g _ _ ai,g _ _ ((ak hu).tups _ _ ha),fun G' g'=>?_⟩) rfl (by simp) (fun b hb=>by rw [Qt hb];exact ⟨hb0,Eu⟩) kq
   exact .cons (.s _) (.cons (.i _) (.cons (.s _) (.cons (.s _) (.cons (.p (DW G' fun b xs e=>g' _ _ (g _ _ ((ak hu).tups _ _ e)))) .nil))))
  simp only [QP,decide_eq_true_eq] at h3
  refine k1 _ _ (dt fun N k1=>?_)
  rw [if_neg h3] at kq
  refine ⟨_,rfl,rfl,_,rfl,jh (b2:=decide (qs.length+1=1)) (fun _ h=>⟨_,rfl,st,_,rfl,.inl (aj.of hst),rfl,_,rfl,by rw [fD,hln,l1];exact h⟩) ?_⟩
  rw [fD]
  refine cD (fun h4=>?_) (fun h4=>?_)
  ·simp only [QP,decide_eq_true_eq] at h4
   rw [if_pos h4] at kq
   refine dt fun N k1=>?_
   obtain ⟨mm,em,hmm⟩:=db (a:=x / 13) (n:=3) (by decide)
   have em:x / 13 % 3=((mm:Nat):Int):=em
   unfold pM at kq
   rw [em,QE] at kq
   refine ⟨_,rfl,_,_,rfl,rfl,⟨by decide,by decide⟩,_,_,rfl,rfl,(by show (0:Int)<3;decide),_,rfl,?_,?_,?_⟩
   ·show _<=x / 13 % 3;lia
   ·show x / 13 % 3<_;lia
   show gi (fh 0 (x / 13 % 3).toNat) _ _ _ _ _ _
   rw [em,QE]
   refine m4 (fun i ys H'=>Same H H'/\i<=3/\∃ us:List Addr,ys=us.map V.ref/\us.length=i/\d8 H' us mw) ⟨Same.refl _,Qu _,[],rfl,rfl,fun j u h=>by simp at h⟩ ?_ ?_
   ·rintro i ys H2 hi ⟨s2,_,us,rfl,DZ,DY⟩
    rw [Int.zero_add]
    refine eP ?_
    rw [if_pos rfl]
    have hi3:i<gA.cps.toList.length:=by rw [vh,wb];lia
    have eab:mw i=((⟨#[gA.cps.toList[i]]⟩:Str),("num":Str)):=by unfold mw;rw [Qe,Qa hi3];rfl
    refine ⟨_,rfl,gA,_,gA.cps.toList[i],rfl,rfl,(by rw [wb];decide),aw (Qa hi3),bL,fun q hq=>?_⟩
    have sq:=ak (o:=.tup [.str ⟨#[gA.cps.toList[i]]⟩,.str "num"]) hq
    refine ⟨by rw [Qd];exact cH (by lia),s2.trans sq,by lia,us++[q],by simp,by simp [DZ],DY.snoc sq ?_⟩
    rw [DZ,eab]
    exact ai
   ·rintro ys H2 ⟨s2,_,us,rfl,DZ,DY⟩ pc hpc
    have sp:=ak (o:=.lst (us.map V.ref)) hpc
    have F7:=s2.trans sp
    have GQ:d8 (upd H2 pc (.lst (us.map V.ref))) us mw:=fun j u e=>sp _ _ (DY j u e)
    have EG:upd H2 pc (.lst (us.map V.ref)) pc=some (.lst (us.map V.ref)):=ai
    generalize upd H2 pc (.lst (us.map V.ref))=H3 at F7 EG GQ
    refine k1 _ _ ?_
    obtain ⟨j3,ej3,hj3,en3⟩:=name (x / 39)
    rw [en3] at kq
    refine ⟨_,rfl,_,rfl,_,rfl,_,rfl,_,_,rfl,rfl,⟨by decide,by decide⟩,_,_,rfl,rfl,(by show (0:Int)<6;decide),l,_,_,.str (ns.getD j3 ""),rfl,rfl,aj.of (F7 _ _ hl),?_,?_⟩
    ·show cf _ (x / 39 % 6)=_
     rw [ej3];exact aw (eF (by lia))
    refine ⟨_,rfl,pc,us.map V.ref,rfl,.inl ⟨aj.of EG,fun q2 DN=>?_⟩⟩
    have s5:=ak (o:=.tup (us.map V.ref)) DN
    refine ⟨mB,fun a ha=>?_⟩
    have s6:=ak (o:=.tup [.str "kind",.int ((r:Nat):Int),.str (ns.getD j3 ""),.ref q2]) ha
    have D0:=s5.trans s6
    refine ⟨bL,fun u hu=>⟨dh,fun p hp=>?_⟩⟩
    refine Du _ [] (F7.trans D0) hu hp (fun G g=>⟨a,[.str "kind",.int ((r:Nat):Int),.str (ns.getD j3 ""),.ref q2],g _ _ ai,by rw [List.map_nil,QM];exact g _ _ ((ak hu).tups _ _ ai),fun G' g'=>?_⟩) rfl .nil (fun b hb=>by simp at hb) kq
    have k1:cy H3 G':=fun b xs e=>g' _ _ (g _ _ ((ak hu).tups _ _ (D0.tups _ _ e)))
    have pr:=(GQ.tp k1).prs (t:=q2) (g' _ _ (g _ _ ((ak hu).tups _ _ (s6.tups _ _ ai))))
    rw [DZ] at pr
    exact .cons (.s _) (.cons (.i _) (.cons (.s _) (.cons (.p pr) .nil)))
  simp only [QP,decide_eq_true_eq] at h4
  refine k1 _ _ (dt fun N k1=>?_)
  rw [if_neg h4] at kq
  refine ⟨_,rfl,rfl,_,rfl,jh (b2:=decide (1<qs.length+1)&&df) (fun _ h=>⟨_,rfl,st,_,rfl,.inl (aj.of hst),_,_,rfl,rfl,_,rfl,?_⟩) ?_⟩
  ·dsimp only
   rw [hln,l2]
   refine jh (b2:=df) (fun hb h=>?_) h
   have hb:1<qs.length+1:=QS hb
   have h1l:1<(qs++[q]).length:=by simp;lia
   obtain ⟨y,w1,z,Fe,FM⟩:=hdf (qs++[q])[1] (Qa h1l)
   have g1:(qs.map V.ref++[V.ref q])[1]?=some (.ref (qs++[q])[1]):=by
    rw [show qs.map V.ref++[V.ref q]=(qs++[q]).map V.ref by simp,Qr,Qa h1l];rfl
   exact ⟨_,rfl,st,_,_,_,rfl,rfl,aj.of hst,aw (j:=1) g1,(qs++[q])[1],_,_,_,rfl,rfl,ah.of Fe,aw (j:=1) rfl,rfl,_,rfl,by rw [pQ,<- FM];exact h⟩
  rw [fD]
  refine cD (fun h5=>?_) (fun h5=>?_)
  ·simp only [QP,decide_eq_true_eq] at h5
   rw [if_pos h5] at kq
   obtain ⟨_,n0,em⟩:=jf D4 (wd:="give") (x:=x) (r:=r) hm hms
   refine ⟨_,rfl,_,rfl,_,rfl,_,rfl,x,r,l,ns,"give",m,rfl,by simp [i8],hl,D4.len,fun v H1 s1 hv=>⟨bL,fun u hu=>⟨dh,fun p hp=>?_⟩⟩⟩
   exact Du _ [] s1 hu hp (fun G g=>hv.rw n0 (fun b xs e=>g _ _ ((ak hu).tups _ _ e)) (by rw [em];exact g _ _ ai)) n0.symm .nil (fun b hb=>by simp at hb) kq
  simp only [QP,decide_eq_true_eq] at h5
  refine k1 _ _ (dt fun N k1=>?_)
  rw [if_neg h5] at kq
  refine ⟨_,rfl,rfl,_,rfl,pB (b2:=decide (x % 13=9)) (fun h=>⟨_,rfl,rfl,_,rfl,by rw [fD];exact h⟩) ?_⟩
  rw [fD]
  refine jh (b2:=decide (qs.length+1<4)) (fun _ h=>⟨_,rfl,st,_,rfl,.inl (aj.of hst),_,_,rfl,rfl,_,rfl,by dsimp only;rw [hln,l4];exact h⟩) ?_
  refine cD (fun h6=>?_) (fun h6=>?_)
  ·simp only [QP,Bool.or_eq_true,decide_eq_true_eq] at h6
   rw [if_pos h6] at kq
   refine dt fun N k1=>?_
   refine ⟨_,rfl,x,6,rfl,_,rfl,aJ x 6,l,ns,2,rfl,by decide,hl,hn6,fun v H1 s1 hv=>?_⟩
   refine k1 _ _ (dt fun N k1=>?_)
   refine ⟨_,rfl,rfl,_,rfl,?_⟩
   rw [fD]
   refine cD (fun h7=>?_) (fun h7=>?_)
   ·rw [if_pos (QS h7)] at kq
    refine ⟨_,rfl,_,rfl,_,rfl,eI,fun b1 Eu=>⟨eI,fun b2 Ek=>⟨(by show 5<=sizeLine;decide),fun a ha=>⟨bL,fun u hu=>⟨dh,fun p hp=>?_⟩⟩⟩⟩⟩
    have s2:=ak (o:=.lst []) Eu
    have s3:=ak (o:=.lst []) Ek
    have s4:=ak (o:=.tup [.str "if",.int ((r:Nat):Int),v,.ref b1,.ref b2]) ha
    have s24:=(s2.trans s3).trans s4
    refine Du _ [b1,b2] (s1.trans s24) hu hp (fun G g=>⟨a,[.str "if",.int ((r:Nat):Int),v],g _ _ ai,g _ _ ((ak hu).tups _ _ ai),fun G' g'=>?_⟩) rfl ?_ (fun b hb=>?_) kq
    ·exact .cons (.s _) (.cons (.i _) (.cons (.e (hv.kept fun b xs e=>g' _ _ (g _ _ ((ak hu).tups _ _ (s24.tups _ _ e))))) .nil))
    ·have:b1≠b2:=fun z=>by rw [<- z,ai] at Ek;cases Ek
     simp [this]
    ·rcases (show b=b1∨b=b2 by simpa using hb) with e | e<;>rw [e]
     ·exact ⟨s1.free Eu,s4 _ _ (s3 _ _ ai)⟩
     ·exact ⟨(s1.trans s2).free Ek,s4 _ _ ai⟩
   ·rw [if_neg (fun z=>h7 (Qo z))] at kq
    refine k1 _ _ ?_
    refine ⟨_,rfl,_,rfl,_,rfl,eI,fun b1 Eu=>⟨mB,fun a ha=>⟨bL,fun u hu=>⟨dh,fun p hp=>?_⟩⟩⟩⟩
    have s2:=ak (o:=.lst []) Eu
    have s4:=ak (o:=.tup [.str "while",.int ((r:Nat):Int),v,.ref b1]) ha
    have s24:=s2.trans s4
    refine Du _ [b1] (s1.trans s24) hu hp (fun G g=>⟨a,[.str "while",.int ((r:Nat):Int),v],g _ _ ai,g _ _ ((ak hu).tups _ _ ai),fun G' g'=>?_⟩) rfl (by simp) (fun b hb=>?_) kq
    ·exact .cons (.s _) (.cons (.i _) (.cons (.e (hv.kept fun b xs e=>g' _ _ (g _ _ ((ak hu).tups _ _ (s24.tups _ _ e))))) .nil))
    ·rw [Qt hb]
     exact ⟨s1.free Eu,s4 _ _ ai⟩
  simp only [QP,Bool.or_eq_true,decide_eq_true_eq] at h6
  rw [if_neg h6] at kq
  refine k1 _ _ ?_
  refine ⟨eI,fun p hp=>?_⟩
  exact kq p [] [] _ (ak hp).x (EW.same (ak hp)) hp ai ⟨rfl,fun k u t h=>by simp at h,rfl,.nil,fun b hb=>by simp at hb⟩
structure Fz where
 i:Nat
 w:Str
 m:Nat
 o:Nat
structure Tz where
 B:List Bk
 S:List Fz
noncomputable def cB:Tr->Str
 | .set _ _ _ _=>"set"
 | .tell _ _ _=>"tell"
 | .iff _ _ _ _ _=>"if"
 | .whl _ _ _ _=>"while"
 | .give _ _ _=>"give"
 | .df _ _ _ _ _ _=>"def"
 | .kd _ _ _ _=>"kind"
noncomputable abbrev wj:List Str:=["def","if","while"]
theorem CK (t:Tr):cB t∈wj↔t.nb≠0:=by
 cases t<;>simp only [cB,Tr.nb]<;>decide +kernel
noncomputable def pR (S:List Fz):Bool:=match S.reverse[1]? with
 | some f=>decide (f.w=("def":Str))
 | none=>false
noncomputable def fV (f:Fz) (S:List Fz) (x:Int):List Fz:=if x % 13=10/\f.w="if" then ⟨f.o,"else",f.m,0⟩::S else if 10<x % 13/\0<S.length then S else f::S
noncomputable def fE (f:Fz) (S:List Fz) (n:Nat) (x:Int):List Tr->List Fz
 | []=>fV f S x
 | t::_=>if t.nb≠0 then ⟨n,cB t,t.mask,n+1⟩::f::S else fV f S x
noncomputable def ig (ns:List Str) (f:Fz) (S:List Fz) (x:Int) (r:Nat):List Tr:=ke ns (S.length+1) (pR (f::S)) f.m x r
noncomputable def kg (ns:List Str) (r:Nat) (c:Int) (z:Tz):Tz:=match z.S with
 | []=>z
 | f::S=>⟨ci z.B f.i (ig ns f S (aJ c ((r:Nat):Int)) r),fE f S z.B.length (aJ c ((r:Nat):Int)) (ig ns f S (aJ c ((r:Nat):Int)) r)⟩
noncomputable def zN (ns:List Str) (Dt:Nat) (cs:List Int):Nat->Tz
 | 0=>⟨[⟨Dt,0,[]⟩],[⟨0,"top",Dt,0⟩]⟩
 | k+1=>kg ns k (cs.getD k 0) (zN ns Dt cs k)
def dQ (B:List Bk):List Fz->Prop
 | []=>True
 | f::S=>(∃ b,B[f.i]?=some b/\b.m=f.m/\bK f.m/\b.d=S.length)/\(f.w="if"->0<S.length/\∃ b,B[f.o]?=some b/\b.m=f.m/\b.d=S.length)/\dQ B S
theorem dQ.mono {B B':List Bk} (h:∀ (j:Nat) (c:Bk),B[j]?=some c->∃ c',B'[j]?=some c'/\c'.m=c.m/\c'.d=c.d):∀ {S:List Fz},dQ B S->dQ B' S
 | [],_=>trivial
 | f::S,⟨⟨b,h1,h2,h3,h4⟩,h5,h6⟩=>by
  obtain ⟨b',g1,g2,g3⟩:=h _ _ h1
  refine ⟨⟨b',g1,by rw [g2,h2],h3,by rw [g3,h4]⟩,fun hw=>?_,h6.mono h⟩
  obtain ⟨k1,b2,k2,k3,k4⟩:=h5 hw
  obtain ⟨b',g1,g2,g3⟩:=h _ _ k2
  exact ⟨k1,b',g1,by rw [g2,k3],by rw [g3,k4]⟩
structure SI (z:Tz) (k:Nat):Prop where
 pi:PI z.B k
 top:∃ b,z.B[0]?=some b/\b.d=0
 asc:∀ b∈z.B,∀ q∈b.rs,de q.1
 ne:z.S≠[]
 len:z.S.length<=4
 fr:dQ z.B z.S
theorem wk {t:Tr} (h:cB t="if"):t.nb=2:=by
 cases t with
 | iff m r e b o=>rfl
 | _=>exact absurd h (by simp only [cB];decide +kernel)
theorem CL {B:List Bk} {f:Fz} {S:List Fz} (h:dQ B (f::S)) (x:Int):dQ B (fV f S x)/\fV f S x≠[]/\(fV f S x).length<=S.length+1:=by
 unfold fV
 split
 ·rename_i q
  obtain ⟨k1,b,k2,k3,k4⟩:=h.2.1 q.2
  obtain ⟨⟨_,_,_,ho,_⟩,_,h6⟩:=h
  exact ⟨⟨⟨b,k2,k3,ho,k4⟩,fun z=>absurd (show ("else":Str)="if" from z) (by decide +kernel),h6⟩,by simp,by simp⟩
 split
 ·rename_i q
  exact ⟨h.2.2,fun z=>by rw [z] at q;simp at q,by lia⟩
 ·exact ⟨h,by simp,by simp⟩
theorem SI.step {ns:List Str} (D4:fc ns) {z:Tz} {k:Nat} (h:SI z k) (c:Int):SI (kg ns k c z) (k+1):=by
 obtain ⟨hpi,htop,EM,Dp,Dj,hfr⟩:=h
 obtain ⟨B,S⟩:=z
 cases S with
 | nil=>exact absurd rfl Dp
 | cons f S =>
  dsimp only at hpi htop EM Dp Dj hfr
  unfold kg
  dsimp only
  generalize aJ c ((k:Nat):Int)=x
  obtain ⟨b,h1,h2,h3,h4⟩:=hfr.1
  have rf:gC f.m k (S.length+1) (ig ns f S x k):=v8 D4 h3
  generalize ig ns f S x k=ts at rf
  have hpi':PI (ci B f.i ts) (k+1):=hpi.add h1 rf.lone rf.len (fun e=>by have:=rf.op e;lia) rf.pw fun t ht=>let q:=rf.rw t ht;⟨q.ok,q.asc,q.bare,by rw [h2];exact q.sub,q.row,q.co⟩
  have hfr':dQ (ci B f.i ts) (f::S):=hfr.mono fun j c hc=>lD h1 hc
  obtain ⟨c1,c2,c3⟩:=CL hfr' x
  refine ⟨hpi',?_,fun b' E1 q hq=>?_,?_,?_,?_⟩
  ·obtain ⟨b0,e0,d0⟩:=htop
   obtain ⟨b',g1,g2,g3⟩:=lD (ts:=ts) h1 e0
   exact ⟨b',g1,by rw [g3,d0]⟩
  ·obtain ⟨j,hj⟩:=List.mem_iff_getElem?.mp E1
   by_cases hjl:j<B.length
   ·rw [lB h1 hjl] at hj
    split at hj
    ·cases hj
     rcases Qw (show q∈b.rs++b7 B.length ts from hq) with hq | hq
     ·exact EM b (Qh h1) q hq
     ·obtain ⟨t,ht,rfl⟩:=QH hq
      exact (rf.rw t ht).d
    ·exact EM b' (Qh hj) q hq
   ·rw [lC h1 (by lia)] at hj
    rw [(iR hj).1] at hq;simp at hq
  ·show fE f S B.length x ts≠[]
   unfold fE
   split
   ·exact c2
   split
   ·simp
   ·exact c2
  ·show (fE f S B.length x ts).length<=4
   have hl4:S.length+1<=4:=Dj
   unfold fE
   split
   ·lia
   split
   ·rename_i t ts' Dy
    have:=rf.op ⟨t,by simp,Dy⟩
    simp only [QR];lia
   ·lia
  ·show dQ (ci B f.i ts) (fE f S B.length x ts)
   unfold fE
   split
   ·exact c1
   split
   ·rename_i t ts' Dy
    have hq:(t,List.range' B.length t.nb)∈b7 B.length (t::ts'):=List.mem_map.mpr ⟨t,by simp,rfl⟩
    obtain ⟨_,_,m3⟩:=sP h1 rf.lone hq
    obtain ⟨_,c0,e1,e2,e3⟩:=m3 B.length (List.mem_range'_1.mpr ⟨Qf _,by lia⟩)
    refine ⟨⟨c0,e1,e2,(rf.rw t (by simp)).ok,by rw [e3,h4];rfl⟩,fun hw=>⟨by simp,?_⟩,hfr'⟩
    have hnb2:=wk hw
    obtain ⟨_,c0,e1,e2,e3⟩:=m3 (B.length+1) (List.mem_range'_1.mpr ⟨by lia,by lia⟩)
    exact ⟨c0,e1,e2,by rw [e3,h4];rfl⟩
   ·exact c1
theorem SI.zero {Dt:Nat} (h:bK Dt):SI ⟨[⟨Dt,0,[]⟩],[⟨0,"top",Dt,0⟩]⟩ 0 :=
 ⟨⟨fun b hb=>by rw [Qt hb];exact ⟨Qu _,Qu _,.nil,fun q hq=>by simp at hq⟩,fun b hb=>by rw [Qt hb];exact .nil,fun i j a b hi hj Dp=>by
  have h1:=(Qc hi).1
  have h2:=(Qc hj).1
  simp at h1 h2;lia,Qf _⟩,⟨_,rfl,rfl⟩,fun b hb q hq=>by rw [Qt hb] at hq;simp at hq,by simp,by simp,⟨⟨_,rfl,rfl,h,rfl⟩,fun z=>absurd (show ("top":Str)="if" from z) (by decide +kernel),trivial⟩⟩
theorem mx {ns:List Str} {Dt:Nat} (D4:fc ns) (hf:bK Dt) (cs:List Int):∀ k,SI (zN ns Dt cs k) k
 | 0=>SI.zero hf
 | k+1=>(mx D4 hf cs k).step D4 _
noncomputable def ji (z:Tz):List Tr:=ba z.B 4 0
theorem SI.mok {z:Tz} {k:Nat} (h:SI z k) (hk:k<=16):i4 (ji z):=by
 obtain ⟨b,h0,hd⟩:=h.top
 have h1:=sM z.B 4 0
 have h2:=h.pi.cos h0 hd 4
 exact ⟨Nat.lt_succ_of_le h1,h.pi.len (by lia) 4 0,(h.pi.ascs (by lia) 4 0).1,by have:=h2.1;unfold ji;lia,by have:=h2.2;unfold ji;lia⟩
theorem pS:∀ {ts:List Tr},(∀ t∈ts,de t)->AscTs ts
 | [],_=>trivial
 | t::ts,h=>⟨h t (by simp),pS fun x hx=>h x (by simp [hx])⟩
theorem wl {B:List Bk} (h:∀ b∈B,∀ q∈b.rs,de q.1):∀ n i,AscTs (ba B n i)
 | 0,i=>by rw [ba];trivial
 | n+1,i=>by
  rw [ba]
  refine pS fun t ht=>?_
  obtain ⟨q,hq,rfl⟩:=QH ht
  have ha:de q.1:=by
   cases e:B[i]? with
   | none=>rw [lA e] at hq;simp [bN] at hq
   | some b=>rw [d4 e] at hq;exact h b (Qh e) q hq
  have go:∀ j,AscTs ((q.2.map (ba B n)).getD j []):=fun j=>by
   rw [Qe,Qr]
   cases q.2[j]? with
   | none=>exact trivial
   | some a=>exact wl h n a
  cases e:q.1 with
  | iff m r x b o=>rw [e] at ha;exact ⟨ha.1,go 0,go 1⟩
  | whl m r x b=>rw [e] at ha;exact ⟨ha.1,go 0⟩
  | df m r n k ps b=>rw [e] at ha;exact ⟨ha.1,ha.2.1,ha.2.2.1,go 0⟩
  | _=>rw [e] at ha;exact ha
theorem wn {as bs:List Addr} {j:Nat} (h:j<as.length):(as++bs).getD j 0=as.getD j 0:=by
 rw [Qe,Qe,Qp h]
def ii (L:Addr->Prop) (H H':Hp):Prop:=(∀ b,L b->∃ xs,H b=some (.lst xs))/\∀ b o,¬ L b->H b=some o->H' b=some o
theorem ii.tp {L:Addr->Prop} {H H':Hp} (h:ii L H H'):cy H H':=fun b xs e=>h.2 _ _ (fun z=>by obtain ⟨ys,hy⟩:=h.1 b z;rw [hy] at e;cases e) e
theorem ii.tb {L:Addr->Prop} {H H':Hp} {Pt:Addr} (h:ii L H H') (t:Tb H Pt):Tb H' Pt:=by
 obtain ⟨ps,h1,h2,h3⟩:=t
 refine ⟨ps,h.2 _ _ (fun z=>by obtain ⟨ys,hy⟩:=h.1 _ z;rw [hy] at h1;cases h1) h1,h2,h3.imp id ?_⟩
 rintro ⟨c',e,oc,vs,t,g1,g2⟩
 exact ⟨c',e,oc,vs,t,h.2 _ _ (fun z=>by obtain ⟨ys,hy⟩:=h.1 _ z;rw [hy] at g1;cases g1) g1,g2⟩
def FQ (H:Hp) (as qs:List Addr) (S:List Fz):Prop:=qs.length=S.length/\∀ (k:Nat) (q:Addr) (f:Fz),qs[k]?=some q->S[k]?=some f->H q=some (.tup [.ref (as.getD f.i 0),.str f.w,.int ((f.m:Nat):Int)])
def FO (H:Hp) (as os:List Addr) (S:List Fz):Prop:=os.length+1=S.length/\∀ (k:Nat) (o:Addr) (f:Fz),os[k]?=some o->S[k]?=some f->f.w="if"->∃ vs,H o=some (.tup vs)/\vs[4]?=some (.ref (as.getD f.o 0))
theorem FQ.kept {H H':Hp} {as qs:List Addr} {S:List Fz} (h:FQ H as qs S) (s:cy H H'):FQ H' as qs S:=⟨h.1,fun k q f a b=>s _ _ (h.2 k q f a b)⟩
theorem FO.kept {H H':Hp} {as os:List Addr} {S:List Fz} (h:FO H as os S) (s:cy H H'):FO H' as os S:=⟨h.1,fun k q f a b w=>by obtain ⟨vs,e,g⟩:=h.2 k q f a b w;exact ⟨vs,s _ _ e,g⟩⟩
theorem dQ.lt {B:List Bk}:∀ {S:List Fz},dQ B S->∀ f∈S,f.i<B.length/\(f.w="if"->f.o<B.length)
 | [],_,f,h=>by simp at h
 | g::S,⟨⟨b,h1,_⟩,h2,h3⟩,f,h=>by
  rcases Qn h with e | e
  ·subst e
   refine ⟨(Qc h1).1,fun w=>?_⟩
   obtain ⟨_,b',h4,_⟩:=h2 w
   exact (Qc h4).1
  ·exact h3.lt f e
theorem FQ.ext {H:Hp} {as bs qs:List Addr} {S:List Fz} {B:List Bk} (h:FQ H as qs S) (hl:as.length=B.length) (hf:dQ B S):FQ H (as++bs) qs S :=
 ⟨h.1,fun k q f a b=>by rw [wn (by rw [hl];exact (hf.lt f (Qh b)).1)];exact h.2 k q f a b⟩
theorem FO.ext {H:Hp} {as bs os:List Addr} {S:List Fz} {B:List Bk} (h:FO H as os S) (hl:as.length=B.length) (hf:dQ B S):FO H (as++bs) os S :=
 ⟨h.1,fun k q f a b w=>by rw [wn (by rw [hl];exact (hf.lt f (Qh b)).2 w)];exact h.2 k q f a b w⟩
structure TI (H0 H:Hp) (Pt st op:Addr) (as qs os:List Addr) (z:Tz):Prop where
 x:SamX Pt H0 H
 tb:Tb H Pt
 fa:FA H as z.B
 new:∀ a∈as,H0 a=none
 nst:H0 st=none
 nop:H0 op=none
 ne:st≠op
 sa:st∉as
 oa:op∉as
 hst:H st=some (.lst (qs.reverse.map V.ref))
 hop:H op=some (.lst (.non::os.reverse.map V.ref))
 q:FQ H as qs z.S
 o:FO H as os z.S
theorem TI.chg {H0 H H':Hp} {Pt st op:Addr} {as qs os DK D1:List Addr} {z:Tz} {S':List Fz} (h:TI H0 H Pt st op as qs os z) (k:∀ b o,b≠st->b≠op->H b=some o->H' b=some o) (h1:H' st=some (.lst (DK.reverse.map V.ref))) (h2:H' op=some (.lst (.non::D1.reverse.map V.ref))) (q:FQ H' as DK S') (o:FO H' as D1 S'):TI H0 H' Pt st op as DK D1 ⟨z.B,S'⟩:=by
 have ls:ii (fun b=>b=st∨b=op) H H':=⟨fun b hb=>hb.elim (fun e=>e ▸ ⟨_,h.hst⟩) fun e=>e ▸ ⟨_,h.hop⟩,fun b o hb e=>k b o (fun z=>hb (.inl z)) (fun z=>hb (.inr z)) e⟩
 refine ⟨fun b o hb e=>k b o (fun z=>by rw [z,h.nst] at e;cases e) (fun z=>by rw [z,h.nop] at e;cases e) (h.x b o hb e),ls.tb h.tb,h.fa.kept ls.tp fun a ha=>?_,h.new,h.nst,h.nop,h.ne,h.sa,h.oa,h1,h2,q,o⟩
 obtain ⟨i,hi,e⟩:=QU ha
 have Eb:i<z.B.length:=by rw [<- h.fa.len];exact hi
 obtain ⟨us,e1,_⟩:=h.fa.bl i a z.B[i] (by rw [Qa hi,e]) (Qa Eb)
 rw [e1]
 exact k a _ (fun z=>h.sa (by rw [<- z];exact ha)) (fun z=>h.oa (by rw [<- z];exact ha)) e1
theorem TI.same {H0 H H':Hp} {Pt st op:Addr} {as qs os:List Addr} {z:Tz} (h:TI H0 H Pt st op as qs os z) (s:Same H H'):TI H0 H' Pt st op as qs os z :=
 h.chg (fun b o _ _ e=>s _ _ e) (s _ _ h.hst) (s _ _ h.hop) (h.q.kept s.tups) (h.o.kept s.tups)
theorem wo (d d':Nat):∀ ts:List Tr,(cx d ts).length=(cx d' ts).length
 | []=>rfl
 | t::ts=>by
  have:=wo d d' ts
  unfold cx at this ⊢
  rw [List.flatMap_cons,List.flatMap_cons,QK,QK,List.length_replicate,List.length_replicate,this]
theorem wp {d:Nat} {ts:List Tr} (h:∀ t∈ts,t.nb=0):cx d ts=[]:=List.flatMap_eq_nil_iff.mpr fun t ht=>by rw [h t ht];rfl
theorem gD.rs {H0 H:Hp} {as us bs:List Addr} {ts:List Tr} (h:gD H0 H us bs ts) (hl:iQ ts):dy H (as++bs) us (b7 as.length ts):=by
 refine ⟨by rw [h.len];unfold b7;rw [Qd],fun k u q x y=>?_⟩
 unfold b7 at y
 rw [Qr] at y
 cases e:ts[k]? with
 | none=>rw [e] at y;cases y
 | some t =>
  rw [e] at y
  cases y
  have hw:=h.rw k u t x e
  have eb:(List.range' as.length t.nb).map (fun j=>(as++bs).getD j 0)=bs:=by
   rcases hl with ⟨t',rfl⟩ | hl
   ·have et:t=t':=Qt (Qh e)
    subst et
    have hb:=h.bl
    rw [mr] at hb
    refine List.ext_getElem (by rw [Qd,List.length_range',hb]) fun i h1 h2=>?_
    rw [List.getElem_map,List.getElem_range',Qe,Ql (by lia),Nat.one_mul,Nat.add_sub_cancel_left,Qa h2];rfl
   ·have hb:=h.bl
    rw [wp hl] at hb
    rw [hl t (Qh e),List.length_eq_zero_iff.mp hb];rfl
  rw [eb];exact hw
theorem TI.grow {H0 H H2:Hp} {Pt st op:Addr} {as qs os us bs:List Addr} {B:List Bk} {f:Fz} {S:List Fz} {k:Nat} {ts:List Tr} (h:TI H0 H Pt st op as qs os ⟨B,f::S⟩) (hs:SI ⟨B,f::S⟩ k) (hl:iQ ts) (sx:SamX Pt H H2) (tb:Tb H2 Pt) (ra:gD H H2 us bs ts) :
  ∃ a vs,as[f.i]?=some a/\H2 a=some (.lst (vs.map V.ref))/\vs.length<=2*k/\a∉bs/\TI H0 (upd H2 a (.lst ((vs++us).map V.ref))) Pt st op (as++bs) qs os ⟨ci B f.i ts,f::S⟩/\ii (fun b=>b=a) H2 (upd H2 a (.lst ((vs++us).map V.ref))):=by
 obtain ⟨b,hb,_⟩:=hs.fr.1
 have Eb:=(Qc hb).1
 have FJ:f.i<as.length:=by rw [h.fa.len];exact Eb
 have ha:=Qa FJ
 obtain ⟨vs,e1,e2⟩:=h.fa.bl f.i as[f.i] b ha hb
 have tp:=sx.tp h.tb
 have keep:∀ {c:Addr} {xs:List V},H c=some (.lst xs)->H2 c=some (.lst xs):=fun {c xs} e=>sx _ _ (fU h.tb e fun ps z=>nomatch z) e
 have hL:∀ x∈as,H2 x=H x:=fun x hx=>by
  obtain ⟨i,hi,e⟩:=QU hx
  have Eb:i<B.length:=by rw [<- h.fa.len];exact hi
  obtain ⟨us,g1,_⟩:=h.fa.bl i x B[i] (by rw [Qa hi,e]) (Qa Eb)
  rw [g1];exact keep g1
 have hm:as[f.i]∈as:=QL FJ
 have E2:∀ x∈bs,x∉as/\H2 x=some (.lst []):=fun x hx=>⟨(fun z=>by
  obtain ⟨g1,_⟩:=ra.new x hx
  obtain ⟨i,hi,e⟩:=QU z
  have Eb:i<B.length:=by rw [<- h.fa.len];exact hi
  obtain ⟨us,g2,_⟩:=h.fa.bl i x B[i] (by rw [Qa hi,e]) (Qa Eb)
  rw [g1] at g2;cases g2),(ra.new x hx).2⟩
 have rs:=ra.rs (as:=as) hl
 rw [show as.length=B.length from h.fa.len] at rs
 have ls:ii (fun b=>b=as[f.i]) H2 (upd H2 as[f.i] (.lst ((vs++us).map V.ref))):=⟨fun b hb=>(show b=as[f.i] from hb) ▸ ⟨_,keep e1⟩,fun b o hb e=>by rw [al hb];exact e⟩
 refine ⟨as[f.i],vs,ha,keep e1,by rw [e2.1];exact (hs.pi.at hb).len,fun z=>(E2 _ z).1 hm,?_,ls⟩
 have fa':=h.fa.add hs.pi ha hb e1 tp hL rs E2 ra.nd (by rw [ra.bl];exact wo _ _ _)
 have fr':dQ (ci B f.i ts) (f::S):=hs.fr.mono fun j c hc=>lD hb hc
 have fresh:∀ x∈bs,H0 x=none:=fun x hx=>by
  cases e:H0 x with
  | none=>rfl
  | some o =>
   have g1:=(ra.new x hx).1
   by_cases z:x=Pt
   ·obtain ⟨ps,h1,_⟩:=h.tb;rw [z,h1] at g1;cases g1
   ·rw [h.x _ _ z e] at g1;cases g1
 have hin:∀ {c:Addr} {xs:List V},H c=some (.lst xs)->c∉as->c∉as++bs:=fun {c xs} e hc z=>by
  rcases Qw z with z | z
  ·exact hc z
  ·rw [(ra.new c z).1] at e;cases e
 have D4:∀ {c:Addr},c∉as->c≠as[f.i]:=fun hc z=>hc (by rw [z];exact hm)
 refine ⟨fun c o hc e=>?_,ls.tb tb,fa',fun x hx=>?_,h.nst,h.nop,h.ne,hin h.hst h.sa,hin h.hop h.oa,by rw [al (D4 h.sa)];exact keep h.hst,by rw [al (D4 h.oa)];exact keep h.hop,((h.q.kept tp).kept ls.tp).ext h.fa.len hs.fr,((h.o.kept tp).kept ls.tp).ext h.fa.len hs.fr⟩
 ·rw [al fun z=>by rw [z,h.new _ hm] at e;cases e]
  exact sx _ _ hc (h.x _ _ hc e)
 ·rcases Qw hx with z | z
  ·exact h.new x z
  ·exact fresh x z
theorem wq {H:Hp} {vs:List V} {t:Tr} (h:PsAt H true vs t.pre):∃ ws,vs=.str (cB t)::ws:=by
 cases t<;>(simp only [Tr.pre] at h;obtain ⟨v,r,rfl,h1,_⟩:=cG h;cases h1;exact ⟨r,rfl⟩)
theorem CM {H:Hp} {vs:List V} {t:Tr} (h:PsAt H true vs t.pre) (hb:t.nb≠0):vs.length=if cB t="def" then 5 else 3:=by
 rw [h.length]
 cases t with
 | iff m r e b o=>show 3=if ("if":Str)="def" then 5 else 3;decide +kernel
 | whl m r e b=>show 3=if ("while":Str)="def" then 5 else 3;decide +kernel
 | df m r n k ps b=>show 5=if ("def":Str)="def" then 5 else 3;decide +kernel
 | _=>exact absurd rfl hb
theorem CN {t:Tr} {n:Nat} (h:t.fill []=t):t.fill (List.replicate n [])=t:=by
 have g:∀ j,(List.replicate n ([]:List Tr)).getD j []=[]:=fun j=>by
  rw [Qe,List.getElem?_replicate];split<;>rfl
 cases t with
 | iff m r e b o=>rw [<- h];show Tr.iff _ _ _ _ _=_;rw [g,g];rfl
 | whl m r e b=>rw [<- h];show Tr.whl _ _ _ _=_;rw [g];rfl
 | df m r nn k ps b=>rw [<- h];show Tr.df _ _ _ _ _ _=_;rw [g];rfl
 | _=>rfl
theorem CO {H:Hp} {us bs:List Addr}:∀ {ts:List Tr},us.length=ts.length->(∀ (k:Nat) (u:Addr) (t:Tr),us[k]?=some u->ts[k]?=some t->cp H u t bs/\bs.length=t.nb/\t.fill []=t)->(∀ b∈bs,H b=some (.lst []))->LAt H true (us.map V.ref) ts:=fun {ts}=>by
 induction ts generalizing us with
 | nil=>intro hl _ _;rw [List.length_eq_zero_iff.mp hl];exact .nil
 | cons t ts ih =>
  intro hl hr hb
  obtain ⟨u,us,rfl⟩:=List.exists_cons_of_length_eq_add_one hl
  obtain ⟨⟨a,vs,e1,e2,e3⟩,hn,hf⟩:=hr 0 u t rfl rfl
  refine .cons (.shared rfl e1 (.mk e2 ?_)) (ih (by simpa using hl) (fun k u t x y=>hr (k+1) u t x y) hb)
  have ep:t.parts=t.pre++(List.replicate bs.length ([]:List Tr)).map aP.b:=by
   rw [<- sK (by rw [List.length_replicate,hn]),CN hf]
  rw [ep]
  refine (e3 H fun _ _ e=>e).app ?_
  clear ep hn hr ih hl e1 e2 e3
  induction bs with
  | nil=>exact .nil
  | cons b bs ih=>exact .cons (.b (hb b (by simp)) .nil) (ih fun x hx=>hb x (by simp [hx]))
theorem pT {c:TT} {t u:TS} {D:dB} {σ:L2.St} {H:Hp} (b:Bool) (P:Hp->Prop) (h1:∀ R:Bool->Hp->Prop,(∀ H',P H'->R b H')->c σ H R) (h2:∀ H',P H'->if b=true then t D σ H' else u D σ H'):ku c t u D σ H:=h1 _ h2
noncomputable def bU (is:List Int):List Int:=(is.drop 2).take 16
theorem wu (is:List Int):(bU is).length<=16:=by unfold bU;rw [QD];lia
theorem CP (is:List Int):dW (is.map V.int) (some 2) (some 18)=(bU is).map V.int:=by
 unfold dW bU
 have h1:HT.sIx (is.map V.int).length 0 (some 2)=min 2 is.length:=by simp [HT.sIx]
 have h2:HT.sIx (is.map V.int).length (is.map V.int).length (some 18)=min 18 is.length:=by simp [HT.sIx]
 rw [h1,h2,<- List.map_drop,<- List.map_take]
 congr 1
 by_cases h:is.length<2
 ·rw [List.drop_of_length_le (by lia),List.drop_of_length_le (by lia)];simp
 ·rw [show min 2 is.length=2 by lia]
  by_cases h3:is.length<=18
  ·rw [show min 18 is.length=is.length by lia,Qv (by simp),Qv (by simp;lia)]
  ·rw [show min 18 is.length=18 by lia]
noncomputable def d9 (is:List Int):List Str:=j5 (aJ (e8 is 0) 9)
theorem wv (is:List Int):fc (d9 is):=⟨(vB _).1,(vB _).2⟩
noncomputable def zL (is:List Int) (Dt:Nat):Tz:=zN (d9 is) Dt (bU is) (bU is).length
inductive ww (K:W.Frag) (Pt:Addr) (vs:List V) (H:Hp) (Q:VK) (E:XK):Prop
 | mk:∀ (sa:Addr) (is:List Int) (Dt:Nat),vs=[.ref sa,.int ((Dt:Nat):Int)]->aj K H sa (is.map V.int)->is.length<=63->bK Dt->Tb H Pt->(∀ p (us:List Addr) H',SamX Pt H H'->Tb H' Pt->H' p=some (.lst (us.map V.ref))->LAt H' true (us.map V.ref) (ji (zL is Dt))->Q (.ref p) H')->ww K Pt vs H Q E
theorem _root_.L2.SamX.seq {K:W.Frag} {H H':Hp} {Pt a:Addr} {xs:List V} (s:SamX Pt H H') (t:Tb H Pt) (h:aj K H a xs):aj K H' a xs:=by
 rcases h with (h | ⟨o,h⟩) | h
 ·exact .inl (.inl (s _ _ (fU t h fun ps z=>nomatch z) h))
 ·exact .inl (.inr ⟨o,s _ _ (fU t h fun ps z=>nomatch z) h⟩)
 ·exact .inr h
noncomputable def o3 (p s o:Addr) (H:Hp):Hp:=fun b=>if b=p∨b=s∨b=o then none else H b
theorem pU {p s o b:Addr} {H:Hp} (h1:b≠p) (h2:b≠s) (h3:b≠o):o3 p s o H b=H b:=if_neg fun z=>z.elim h1 fun z=>z.elim h2 h3
theorem CQ {p s o:Addr} {H:Hp}:Same (o3 p s o H) H:=fun b x h=>by
 unfold o3 at h
 split at h
 ·cases h
 ·exact h
theorem CS (ts:List Tr):(!PyData.eqv (.list (trsD ts)) (.list []))=!ts.isEmpty:=by
 cases ts with
 | nil=>rw [trsD];rfl
 | cons t ts=>rw [trsD];rfl
theorem CT {t:Tr} (h:t.fill []=t):t.deep=0:=by
 cases t with
 | iff m r e b o=>injection h with _ _ _ h1 h2;rw [<- h1,<- h2];simp [Tr.deep,deeps]
 | whl m r e b=>injection h with _ _ _ h1;rw [<- h1];simp [Tr.deep,deeps]
 | df m r n k ps b=>injection h with _ _ _ _ _ h1;rw [<- h1];simp [Tr.deep,deeps]
 | _=>simp [Tr.deep]
noncomputable def jj:List Tr->Bool
 | []=>false
 | t::_=>decide (t.nb≠0)
theorem CU {f:Fz} {S:List Fz} {n:Nat} {x:Int} {ts:List Tr} (h:jj ts=false):fE f S n x ts=fV f S x:=by
 cases ts with
 | nil=>rfl
 | cons t ts=>exact if_neg (of_decide_eq_false h)
noncomputable abbrev CV:List Str:=["_law_script","_law_full","_law_names_here","_law_top","_law_stack","_law_openers","_law_at","_law_cell","_law_number","_law_rows_here","_law_mask_here","_law_row","_law_block","_law_word"]
theorem wx:a7 CV ["_law_script","_law_full"] (aL oB):=⟨rfl,rfl,rfl,by decide +kernel,rfl,by decide +kernel,by decide +kernel⟩
theorem CW (T:All P w K mg AA DD) {Pt:Addr} (L:pP mg base DD Pt):aF P w K mg base aG 8 AA.ZD DD.ZD ["_law_script","_law_full"] (ww K Pt):=by
 have GCA:=vk (base:=base) T
 have GX:=j4 (base:=base) T
 have GN:=B9 (base:=base) T
 have GRS:=CJ (base:=base) T L
 refine T.F_ZD.ok wx (fun vs H Q E h=>?_) (fun Ds A outer s H vs Q E hr h=>?_)
 ·obtain ⟨sa,is,Dt,rfl,_⟩:=h
  rfl
 ·obtain ⟨sa,is,Dt,rfl,hS,h63,hfull,EW,kq⟩:=h
  have nd:=wx.nd
  have hu:=hr.units
  have hr7:ay 7 _:=hr
  have Dw:ay 1 _:=hr7.mono (by lia)
  refine ⟨_,(aA (aY (i:=2) nd rfl (Or.inl rfl) (aK GN Dw rfl T.m_Zx T.k_Zx T.b_Zx .nil aD (aa (aK GX Dw rfl T.m_Zw T.k_Zw T.b_Zw .nil aD (aa (aK GCA Dw rfl T.m_Zn T.k_Zn T.b_Zn .nil aD (aa (pv 0) (aa af ag))) (aa af ag))) ag))) (aA (aY (i:=3) nd rfl (Or.inl rfl) (bW ag)) (aA (aY (i:=4) nd rfl (Or.inl rfl) (bW (aa (aV (aa (pv 3) (aa aI (aa (pv 1) ag)))) ag))) (aA (aY (i:=5) nd rfl (Or.inl rfl) (bW (aa p6 ag))) (aA (dU PassesOwn.never rfl (yZ rfl T.n_enumerate (aa (fm yh (pv 0) (eO af) (eO af)) ag)) (eK rfl (br (a9 (i:=6) nd rfl (Or.inl rfl)) (br (a9 (i:=7) nd rfl (Or.inl rfl)) dm))) (aA (aY (i:=8) nd rfl (Or.inl rfl) (aK GX Dw rfl T.m_Zw T.k_Zw T.b_Zw .nil aD (aa (pv 7) (aa (pv 6) ag)))) (aA (aY (i:=9) nd rfl (Or.inl rfl) (aK GRS hr7 rfl T.m_ZC T.k_ZC T.b_ZC .nil aD (aa (pv 8) (aa (pv 6) (aa (pv 2) (aa (pv 4) ag)))))) (aA (bV (iA PySem.F.plainAttrs_list PySem.F.slot_list_extend PySem.F.type_list_extend yq (az (aN (K:=K) rfl) (az (b9 (K:=K) rfl) (pv 4) (kz kC af) (fun _ _=>rfl)) af (fun _ _=>rfl)) (aa (pv 9) ag)) (by rfl)) (ao (aX (PW.pt (ff (aM (k6 (K:=K) rfl hu) (pv 9) (bW ag) (aR _)) (fH (aM (jP (K:=K) rfl) (az (aN (K:=K) rfl) (az (aN (K:=K) rfl) (az (b9 (K:=K) rfl) (pv 9) af (fun _ _=>rfl)) af (fun _ _=>rfl)) af (fun _ _=>rfl)) (aV (aa aI (aa aI (aa aI ag)))) rfl)))) (aA (mF (az (b9 (K:=K) rfl) (pv 9) af (fun _ _=>rfl)) (eK rfl (br (a9 (i:=10) nd rfl (Or.inl rfl)) (br (a9 (i:=11) nd rfl (Or.inl rfl)) dm)))) (aA (bV (iA PySem.F.plainAttrs_list PySem.F.slot_list_append PySem.F.type_list_append jA (pv 4) (aa (aV (aa (az (aN (K:=K) rfl) (pv 11) (jm (aM bu (az (aN (K:=K) rfl) (pv 11) af (fun _ _=>rfl)) aI (aR _)) af af) (fun _ _=>rfl)) (aa (az (aN (K:=K) rfl) (pv 11) af (fun _ _=>rfl)) (aa (pv 10) ag)))) ag)) (by rfl)) (ao (bV (iA PySem.F.plainAttrs_list PySem.F.slot_list_append PySem.F.type_list_append jA (pv 5) (aa (pv 11) ag)) (by rfl))))) (ao (aX (PW.pt (ff (aM bu (am bG (pv 8) af) af (aR _)) (fH (aM bu (az (aN (K:=K) rfl) (az (b9 (K:=K) rfl) (pv 4) (kz kC af) (fun _ _=>rfl)) af (fun _ _=>rfl)) aI (aR _))))) (aA (mF (kJ PySem.F.plainAttrs_list PySem.F.slot_list_pop PySem.F.type_list_pop mX (pv 4)) (eK rfl (br (a9 (i:=12) nd rfl (Or.inl rfl)) (br (a9 (i:=13) nd rfl (Or.inl rfl)) (br (a9 (i:=10) nd rfl (Or.inl rfl)) dm))))) (ao (bV (iA PySem.F.plainAttrs_list PySem.F.slot_list_append PySem.F.type_list_append jA (pv 4) (aa (aV (aa (az (aN (K:=K) rfl) (az (b9 (K:=K) rfl) (pv 5) (kz kC af) (fun _ _=>rfl)) af (fun _ _=>rfl)) (aa aI (aa (pv 10) ag)))) ag)) (by rfl)))) (ao (aX (PW.pt (ff (aM kE (am bG (pv 8) af) af (aR _)) (fH (aM kE (cu fo rfl T.n_len eR (aa (pv 4) ag)) af (aR _))))) (aA (bV (kJ PySem.F.plainAttrs_list PySem.F.slot_list_pop PySem.F.type_list_pop mX (pv 4)) (by rfl)) (ao (bV (kJ PySem.F.plainAttrs_list PySem.F.slot_list_pop PySem.F.type_list_pop mX (pv 5)) (by rfl)))) bi))))))))) (by intro _;rfl)) (ao (aS (pv 3)))))))),?_⟩
  have D4:=wv is
  refine ⟨_,rfl,sa,is,0,rfl,hS,_,_,rfl,aJ (e8 is 0) 9,rfl,B6 _ _,fun pn H1 hpn0 s1 hpn=>?_⟩
  dsimp only [aW]
  refine ⟨eI,fun pt Ga=>?_⟩
  dsimp only [aW]
  refine ⟨_,rfl,_,rfl,dR,fun q0 hq0=>⟨dh,fun st hst=>?_⟩⟩
  dsimp only [aW]
  refine ⟨dh,fun op hop=>?_⟩
  dsimp only [aW]
  have s2:=ak (o:=.lst []) Ga
  have s3:=ak (o:=.tup [.ref pt,.str "top",.int ((Dt:Nat):Int)]) hq0
  have s4:=ak (o:=.lst [V.ref q0]) hst
  have s5:=ak (o:=.lst [V.non]) hop
  have g1:=s5 _ _ (s4 _ _ (s3 _ _ (ai (H:=H1) (a:=pt) (o:=.lst []))))
  have g2:=s5 _ _ (s4 _ _ (ai (H:=upd H1 pt (.lst [])) (a:=q0) (o:=.tup [.ref pt,.str "top",.int ((Dt:Nat):Int)])))
  have g3:=s5 _ _ (ai (H:=upd (upd H1 pt (.lst [])) q0 (.tup [.ref pt,.str "top",.int ((Dt:Nat):Int)])) (a:=st) (o:=.lst [V.ref q0]))
  have g4:=ai (H:=upd (upd (upd H1 pt (.lst [])) q0 (.tup [.ref pt,.str "top",.int ((Dt:Nat):Int)])) st (.lst [V.ref q0])) (a:=op) (o:=.lst [V.non])
  have sI:=(((s1.trans s2).trans s3).trans s4).trans s5
  have nP:H pt=none:=s1.free Ga
  have nS:H st=none:=((s1.trans s2).trans s3).free hst
  have nO:H op=none:=(((s1.trans s2).trans s3).trans s4).free hop
  have n1:pt≠st:=fun z=>by rw [<- z,s3 _ _ ai] at hst;cases hst
  have n2:pt≠op:=fun z=>by rw [<- z,s4 _ _ (s3 _ _ ai)] at hop;cases hop
  have n3:st≠op:=fun z=>by rw [<- z,ai] at hop;cases hop
  have hpn5:=s5 _ _ (s4 _ _ (s3 _ _ (s2 _ _ hpn)))
  have m1:pn≠pt:=fun z=>by rw [z,Ga] at hpn;cases hpn
  have m2:pn≠st:=fun z=>by rw [<- z,(s2.trans s3) _ _ hpn] at hst;cases hst
  have m3:pn≠op:=fun z=>by rw [<- z,((s2.trans s3).trans s4) _ _ hpn] at hop;cases hop
  generalize upd (upd (upd (upd H1 pt (.lst [])) q0 (.tup [.ref pt,.str "top",.int ((Dt:Nat):Int)])) st (.lst [V.ref q0])) op (.lst [V.non])=H5 at g1 g2 g3 g4 sI hpn5 ⊢
  clear Ga hq0 hst hop s2 s3 s4 s5
  have hpnP:∀ {b:Addr} {xs:List V},H5 b=some (.lst xs)->b≠Pt:=fun e=>fU (EW.same sI) e fun ps z=>nomatch z
  refine gl (fun σ' H'=>∃ as x6 x7 x8 x9 x10 x11 x12 x13,σ'=[some (.ref sa),some (.int ((Dt:Nat):Int)),some (.ref pn),some (.ref pt),some (.ref st),some (.ref op),x6,x7,x8,x9,x10,x11,x12,x13]/\SamX Pt H H'/\Tb H' Pt/\as[0]?=some pt/\FA H' as (zL is Dt).B) (fun RR hRR=>?_) ?_
  ·refine ⟨_,rfl,2,rfl,18,rfl,sa,_,rfl,sI.seq hS,fun ps DW=>?_⟩
   rw [CP]
   have sF:=ak (o:=.lst ((bU is).map V.int)) DW
   refine ⟨ps,_,rfl,aj.of ai,?_⟩
   have f1:ps≠pt:=fun z=>by rw [z,g1] at DW;cases DW
   have f2:ps≠st:=fun z=>by rw [z,g3] at DW;cases DW
   have f3:ps≠op:=fun z=>by rw [z,g4] at DW;cases DW
   obtain ⟨B0,hB⟩:∃ B0,B0=o3 pt st op (upd H5 ps (.lst ((bU is).map V.int))):=⟨_,rfl⟩
   have hBp:B0 ps=some (.lst ((bU is).map V.int)):=by rw [hB,pU f1 f2 f3];exact ai
   have hBn:B0 pn=some (.lst ((d9 is).map V.str)):=by rw [hB,pU m1 m2 m3];exact sF _ _ hpn5
   have hHB:Same H B0:=fun b o hb=>by
    rw [hB,pU (fun z=>by rw [z,nP] at hb;cases hb) (fun z=>by rw [z,nS] at hb;cases hb) (fun z=>by rw [z,nO] at hb;cases hb)]
    exact sF _ _ (sI _ _ hb)
   have hpsP:ps≠Pt:=fun z=>by
    obtain ⟨tt,h1,_⟩:=EW.same sI
    rw [z,h1] at DW;cases DW
   have b0:TI B0 (upd H5 ps (.lst ((bU is).map V.int))) Pt st op [pt] [q0] [] (zN (d9 is) Dt (bU is) 0):=by
    refine ⟨fun b o _ e=>by rw [hB] at e;exact CQ _ _ e,EW.same (sI.trans sF),⟨rfl,by simp,fun i a b ha hb=>?_⟩,fun a ha=>by rw [Qt ha,hB];exact if_pos (.inl rfl),by rw [hB];exact if_pos (.inr (.inl rfl)),by rw [hB];exact if_pos (.inr (.inr rfl)),n3,by simp [n1.symm],by simp [n2.symm],sF _ _ g3,sF _ _ g4,⟨rfl,fun k q f hq hf=>?_⟩,⟨rfl,fun k o f ho=>by simp at ho⟩⟩
    ·have hi:=(Qc ha).1
     have hi:i=0:=by simpa using hi
     subst hi
     cases ha;cases hb
     exact ⟨[],sF _ _ g1,rfl,fun k u q h=>by simp at h⟩
    ·have hk:=(Qc hq).1
     have hk:k=0:=by simpa using hk
     subst hk
     cases hq;cases hf
     exact sF _ _ g2
   clear hB
   refine y2 (K:=K) (a:=ps) (xs:=(bU is).map V.int) (fun i σ' H'=>∃ as qs os x6 x7 x8 x9 x10 x11 x12 x13,σ'=[some (.ref sa),some (.int ((Dt:Nat):Int)),some (.ref pn),some (.ref pt),some (.ref st),some (.ref op),x6,x7,x8,x9,x10,x11,x12,x13]/\as[0]?=some pt/\TI B0 H' Pt st op as qs os (zN (d9 is) Dt (bU is) i)) ⟨_,_,_,_,_,_,_,_,_,_,_,rfl,rfl,b0⟩ (fun i σ' H' _ h=>by obtain ⟨as,qs,os,x6,x7,x8,x9,x10,x11,x12,x13,_,_,h⟩:=h;exact aj.of (h.x _ _ hpsP hBp)) ?_ ?_
   ·rintro i y σ' H3 t9 hy ⟨as,qs,os,x6,x7,x8,x9,x10,x11,x12,x13,rfl,ha0,hTI⟩ ht9
    have DJ:=(Qc hy).1
    rw [Qd] at DJ
    have FZ:=wu is
    have ey:y=.int ((bU is).getD i 0):=by
     rw [Qr,Qa DJ] at hy
     rw [Qe,Qa DJ]
     exact (Qq hy).symm
    subst ey
    have FD:=hTI.same (ak (o:=.tup [.int ((i:Nat):Int),.int ((bU is).getD i 0)]) ht9)
    refine ⟨t9,_,rfl,ah.of ai,rfl,_,_,rfl,_,_,rfl,rfl,?_⟩
    generalize upd H3 t9 (.tup [.int ((i:Nat):Int),.int ((bU is).getD i 0)])=Hs at FD ⊢
    clear hTI b0 ht9
    have Gk:=mx D4 hfull (bU is) i
    have ez:zN (d9 is) Dt (bU is) (i+1)=kg (d9 is) i ((bU is).getD i 0) (zN (d9 is) Dt (bU is) i):=rfl
    rw [ez]
    generalize zN (d9 is) Dt (bU is) i=z at Gk FD ⊢
    obtain ⟨B,S⟩:=z
    obtain ⟨f,S,rfl⟩:∃ f S',S=f::S':=by
     cases S with
     | nil=>exact absurd rfl Gk.ne
     | cons f S=>exact ⟨f,S,rfl⟩
    unfold kg
    dsimp only
    refine ⟨_,rfl,_,rfl,_,_,rfl,?_⟩
    generalize aJ ((bU is).getD i 0) ((i:Nat):Int)=x
    dsimp only [aW]
    obtain ⟨q1,DK,rfl⟩:∃ q1 DK,qs=q1::DK:=by
     have:=FD.q.1
     exact List.exists_cons_of_length_eq_add_one this
    have Fe:=FD.q.2 0 q1 f rfl rfl
    have hst4:Hs st=some (.lst (DK.reverse.map V.ref++[.ref q1])):=by rw [FD.hst];simp
    have hlen4:S.length+1<=4:=Gk.len
    have hqsl:DK.length=S.length:=by have:=FD.q.1;simpa using this
    obtain ⟨bb,hbb1,hbb2,hokf,hbb4⟩:=Gk.fr.1
    have rf:gC f.m i (S.length+1) (ig (d9 is) f S x i):=v8 D4 hokf
    refine ⟨_,rfl,_,rfl,_,rfl,_,rfl,x,i,pn,st,q1,as.getD f.i 0,d9 is,DK.reverse,f.w,f.m,pR (f::S),rfl,D4,FD.x _ _ (hpnP hpn5) hBn,hst4,Fe,hokf,by rw [List.length_reverse];lia,fun q2 DN=>?_,FD.tb,fun p us bs H2 sx tb2 hp Ff ra=>?_⟩
    ·have hrev:(f::S).reverse[1]?=some ((f::S).reverse.getD 1 f)/\(q1::DK).reverse[1]?=some q2:=by
      rw [List.reverse_cons,List.reverse_cons]
      have h1:=(Qc DN).1
      refine ⟨?_,DN⟩
      rw [Qe,Qa (by simp at h1 ⊢;lia)];rfl
     have l1:1<(q1::DK).length:=by have:=(Qc hrev.2).1;simpa using this
     have l2:1<(f::S).length:=by simp at l1 ⊢;lia
     have e1:(q1::DK)[(q1::DK).length-1-1]?=some q2:=by rw [<- List.getElem?_reverse (by exact l1)];exact hrev.2
     have e2:(f::S)[(f::S).length-1-1]?=some ((f::S).reverse.getD 1 f):=by rw [<- List.getElem?_reverse (by exact l2)];exact hrev.1
     have el:(q1::DK).length=(f::S).length:=FD.q.1
     rw [el] at e1
     refine ⟨_,_,_,FD.q.2 _ q2 _ e1 e2,?_⟩
     unfold pR
     rw [hrev.1]
    rw [List.length_reverse,hqsl] at ra
    have ra:gD Hs H2 us bs (ig (d9 is) f S x i):=ra
    generalize ig (d9 is) f S x i=ts at ra rf ⊢
    dsimp only [aW]
    obtain ⟨a,vs,hfa,ha2,hvl,hab,hT5,hls⟩:=FD.grow Gk rf.lone sx tb2 ra
    have egd:as.getD f.i 0=a:=by rw [Qe,hfa];rfl
    rw [egd] at Fe
    have hq2':=sx.tp FD.tb _ _ Fe
    have hst2:H2 st=some (.lst (DK.reverse.map V.ref++[.ref q1])):=sx _ _ (fU FD.tb hst4 fun ps z=>nomatch z) hst4
    have DZ:us.length<=2:=by rw [ra.len];exact rf.len
    refine ⟨_,rfl,1,rfl,st,_,_,_,rfl,rfl,aj.of hst2,kI _ _,q1,_,_,_,rfl,rfl,ah.of hq2',aw (j:=0) rfl,.inl ⟨rfl,_,aj.of ha2⟩,_,rfl,a,p,_,_,rfl,rfl,ha2,Ff,?_,?_⟩
    ·rw [Qd,Qd]
     exact QY (gN (by lia))
    rw [<- QQ]
    have hpa:p≠a:=fun z=>by
     obtain ⟨us0,g,_⟩:=FD.fa.bl f.i a bb hfa hbb1
     rw [z,g] at hp;cases hp
    have Gm:=hls.2 _ _ hpa Ff
    have ra3:∀ (k:Nat) (u:Addr) (t:Tr),us[k]?=some u->ts[k]?=some t->cp (upd H2 a (.lst ((vs++us).map V.ref))) u t bs:=fun k u t h1 h2=>(ra.rw k u t h1 h2).kept hls.tp
    have hbs3:∀ b∈bs,upd H2 a (.lst ((vs++us).map V.ref)) b=some (.lst []):=fun b hb=>hls.2 _ _ (fun z=>hab (by rw [<- show b=a from z];exact hb)) (ra.new b hb).2
    have hbn:∀ t∈ts,bs.length=t.nb:=fun t ht=>by
     rw [ra.bl]
     rcases rf.lone with ⟨t',e⟩ | hl
     ·rw [e] at ht ⊢
      rw [mr,Qt ht]
     ·rw [wp hl,hl t ht];rfl
    have DZ:=ra.len
    have hbL:=ra.bl
    have G2:(as++bs)[0]?=some pt:=by rw [Qp (Qc ha0).1];exact ha0
    generalize upd H2 a (.lst ((vs++us).map V.ref))=H3' at hT5 Gm ra3 hbs3 ⊢
    have hT4len:=FD.fa.len
    clear ra sx tb2 Ff hst2 hq2' hls ha2 FD hst4 Fe
    have ascT:AscTs ts:=pS fun t ht=>(rf.rw t ht).d
    have dp1:deeps ts<=1:=ly (us:=[]) fun t ht=>by rw [CT (rf.rw t ht).bare];exact Qf _
    dsimp only
    refine pT (jj ts) (fun H4=>Same H3' H4) (fun R hR=>?_) (fun H4 s4=>?_)
    ·refine ⟨_,rfl,eI,fun pe hpe=>?_⟩
     have s6:=ak (o:=.lst []) hpe
     have lat:=CO (H:=upd H3' pe (.lst [])) DZ (fun k u t h1 h2=>⟨(ra3 k u t h1 h2).kept s6.tups,hbn t (Qh h2),(rf.rw t (Qh h2)).bare⟩) fun b hb=>s6 _ _ (hbs3 b hb)
     refine ⟨.list (trsD ts),.list [],.lst (aj.of (s6 _ _ Gm)) (trs_rdv lat ascT),.lst (aj.of ai) .nil,(aU.list (trs_shd ts ascT)).ok (by lia),rfl,_,rfl,?_⟩
     rw [CS]
     cases ts with
     | nil=>exact bd rfl (hR _ s6)
     | cons t ts =>
      refine bO rfl ?_
      obtain ⟨u,us,rfl⟩:=List.exists_cons_of_length_eq_add_one DZ
      obtain ⟨a0,vs0,e1,e2,e3⟩:=(ra3 0 u t rfl rfl).kept s6.tups
      obtain ⟨ws,rfl⟩:=wq (e3 _ fun _ _ e=>e)
      refine ⟨_,rfl,p,_,_,_,rfl,rfl,aj.of (s6 _ _ Gm),aw (j:=0) rfl,u,_,_,_,rfl,rfl,ah.of e1,aw (j:=1) rfl,a0,_,_,.str (cB t),rfl,rfl,ah.of e2,aw (j:=0) rfl,dR,fun pw hpw=>⟨pw,wj.map V.str,rfl,.inr (ah.of ai),rfl,rfl,_,rfl,?_⟩⟩
      show R _ _
      rw [fz (b:=jj (t::ts)) (by unfold jj;exact decide_eq_decide.mpr (CK t))]
      exact hR _ (s6.trans (ak hpw))
    have DS:=hT5.same s4
    by_cases hob:jj ts=true
    ·rw [if_pos hob]
     obtain ⟨t,rfl⟩:∃ t,ts=[t]:=by
      rcases rf.lone with h | h
      ·exact h
      ·cases ts with
       | nil=>cases hob
       | cons t ts=>exact absurd (h t (by simp)) (QS hob)
     have Dy:t.nb≠0:=QS hob
     obtain ⟨u,rfl⟩:=gu DZ
     obtain ⟨a0,vs0,e1,e2,e3⟩:=(ra3 0 u t rfl rfl).kept s4.tups
     have hv0:=CM (e3 _ fun _ _ e=>e) Dy
     obtain ⟨ws,rfl⟩:=wq (e3 _ fun _ _ e=>e)
     have hbn1:=hbn t (by simp)
     obtain ⟨b1,bs',rfl⟩:∃ b1 bs',bs=b1::bs':=by
      cases bs with
      | nil=>exact absurd hbn1.symm Dy
      | cons b1 bs'=>exact ⟨b1,bs',rfl⟩
     refine ⟨_,rfl,p,_,_,_,rfl,rfl,aj.of (s4 _ _ Gm),aw (j:=0) rfl,u,_,rfl,ah.of e1,rfl,_,_,rfl,_,_,rfl,rfl,?_⟩
     dsimp only
     have hasl:as.length=B.length:=hT4len
     have gB:(as++b1::bs').getD B.length 0=b1:=by rw [<- hasl,Qe,Ql (Qf _),Nat.sub_self];rfl
     have fin:∀ q:Addr,H4 q=none->TI B0 (upd (upd (upd H4 q (.tup [.ref b1,.str (cB t),.int ((t.mask:Nat):Int)])) st (.lst ((q1::DK).reverse.map V.ref++[.ref q]))) op (.lst ((.non::os.reverse.map V.ref)++[.ref a0]))) Pt st op (as++b1::bs') (q::q1::DK) (a0::os) ⟨ci B f.i [t],fE f S B.length x [t]⟩:=fun q hq=>by
      have eS:fE f S B.length x [t]=⟨B.length,cB t,t.mask,B.length+1⟩::f::S:=if_pos Dy
      rw [eS]
      have nq:∀ {b:Addr} {o:HO},H4 b=some o->b≠q:=fun e z=>by rw [z,hq] at e;cases e
      have tk:cy H4 (upd (upd (upd H4 q (.tup [.ref b1,.str (cB t),.int ((t.mask:Nat):Int)])) st (.lst ((q1::DK).reverse.map V.ref++[.ref q]))) op (.lst ((.non::os.reverse.map V.ref)++[.ref a0]))):=fun b xs e=>by
       rw [al (fun z=>by rw [z,DS.hop] at e;cases e),al (fun z=>by rw [z,DS.hst] at e;cases e),al (nq e)];exact e
      have hqt:upd (upd (upd H4 q (.tup [.ref b1,.str (cB t),.int ((t.mask:Nat):Int)])) st (.lst ((q1::DK).reverse.map V.ref++[.ref q]))) op (.lst ((.non::os.reverse.map V.ref)++[.ref a0])) q=some (.tup [.ref b1,.str (cB t),.int ((t.mask:Nat):Int)]):=by
       rw [al (nq DS.hop).symm,al (nq DS.hst).symm];exact ai
      refine DS.chg (fun b o h1 h2 e=>by rw [al h2,al h1,al (nq e)];exact e) (by rw [al DS.ne,ai,List.reverse_cons (a:=q),QQ];rfl) (by rw [ai,List.reverse_cons,QQ];rfl) ⟨by have:=DS.q.1;simpa using this,fun k q' f' hk hf=>?_⟩ ⟨by have:=DS.o.1;simp at this ⊢;exact this,fun k o' f' hk hf hw=>?_⟩
      ·cases k with
       | zero=>cases hk;cases hf;rw [gB];exact hqt
       | succ k=>exact tk _ _ (DS.q.2 k q' f' hk hf)
      ·cases k with
       | zero =>
        cases hk;cases hf
        refine ⟨_,tk _ _ e2,?_⟩
        have hw:cB t="if":=hw
        have h2:=wk hw
        rw [h2] at hbn1
        obtain ⟨b2,rfl⟩:=gu (l:=bs') (by simpa using hbn1)
        have hv3:(V.str (cB t)::ws).length=3:=by rw [hv0,if_neg (by rw [hw];decide +kernel)]
        rw [Ql (by lia),hv3]
        show some (V.ref b2)=_
        rw [<- hasl,Qe,Ql (by show as.length<=as.length+1;lia)]
        show some (V.ref b2)=some (V.ref (([b1,b2][as.length+1-as.length]?).getD 0))
        rw [show as.length+1-as.length=1 by lia];rfl
       | succ k =>
        obtain ⟨vs2,g1,g2⟩:=DS.o.2 k o' f' hk hf hw
        exact ⟨vs2,tk _ _ g1,g2⟩
     have Ed:∀ {n:Nat},n<=500->n<sizeLine:=fun h=>gN (by lia)
     have hol:os.length+1=S.length+1:=DS.o.1
     refine ⟨_,rfl,.inl ⟨rfl,_,aj.of DS.hst⟩,_,rfl,_,rfl,a0,_,_,_,rfl,rfl,ah.of e2,aw (j:=0) rfl,rfl,_,rfl,?_⟩
     rw [pQ]
     have ix:((V.str (cB t)::ws)++(b1::bs').map V.ref)[(V.str (cB t)::ws).length]?=some (.ref b1):=by
      rw [Ql (Qf _),Nat.sub_self];rfl
     have hstl:((q1::DK).reverse.map V.ref).length<=10:=by rw [Qd,List.length_reverse,QR];lia
     have hopl:(V.non::os.reverse.map V.ref).length<=10:=by rw [QR,Qd,List.length_reverse];lia
     have nn:∀ {q:Addr},H4 q=none->upd H4 q (.tup [.ref b1,.str (cB t),.int ((t.mask:Nat):Int)]) st=some (.lst ((q1::DK).reverse.map V.ref))/\upd (upd H4 q (.tup [.ref b1,.str (cB t),.int ((t.mask:Nat):Int)])) st (.lst ((q1::DK).reverse.map V.ref++[.ref q])) op=some (.lst (.non::os.reverse.map V.ref)):=fun {q} hq=>⟨ak hq _ _ DS.hst,by rw [al DS.ne.symm];exact ak hq _ _ DS.hop⟩
     refine cD (fun hd=>?_) (fun hd=>?_)
     ·rw [hv0,if_pos (QS hd)] at ix
      refine ⟨a0,_,_,_,rfl,rfl,ah.of e2,aw (j:=5) ix,_,rfl,a0,_,_,_,rfl,rfl,ah.of e2,aw (j:=0) rfl,_,rfl,dR,fun q hq=>⟨st,_,_,rfl,rfl,(nn hq).1,Ed (by lia),?_⟩⟩
      refine ⟨_,rfl,.inl ⟨rfl,_,aj.of (nn hq).2⟩,_,rfl,op,_,_,rfl,rfl,(nn hq).2,Ed (by lia),?_⟩
      exact ⟨_,_,_,_,_,_,_,_,_,_,_,rfl,G2,fin q hq⟩
     ·rw [hv0,if_neg (fun z=>hd (Qo z))] at ix
      refine ⟨a0,_,_,_,rfl,rfl,ah.of e2,aw (j:=3) ix,_,rfl,a0,_,_,_,rfl,rfl,ah.of e2,aw (j:=0) rfl,_,rfl,dR,fun q hq=>⟨st,_,_,rfl,rfl,(nn hq).1,Ed (by lia),?_⟩⟩
      refine ⟨_,rfl,.inl ⟨rfl,_,aj.of (nn hq).2⟩,_,rfl,op,_,_,rfl,rfl,(nn hq).2,Ed (by lia),?_⟩
      exact ⟨_,_,_,_,_,_,_,_,_,_,_,rfl,G2,fin q hq⟩
    ·rw [if_neg hob]
     rw [CU (show jj ts=false by simpa using hob)]
     have Ed:∀ {n:Nat},n<=500->n<sizeLine:=fun h=>gN (by lia)
     have EL:H4 st=some (.lst (DK.reverse.map V.ref++[.ref q1])):=by rw [DS.hst];simp
     have hq6:=DS.q.2 0 q1 f rfl rfl
     have hpop:(DK.reverse.map V.ref++[V.ref q1])[(DK.reverse.map V.ref++[V.ref q1]).length-1]?=some (.ref q1):=by simp
     have hol:os.length+1=S.length+1:=DS.o.1
     have hq':upd H4 st (.lst (DK.reverse.map V.ref++[V.ref q1]).dropLast) q1=some (.tup [.ref ((as++bs).getD f.i 0),.str f.w,.int ((f.m:Nat):Int)]):=by
      rw [al fun z=>by rw [z,EL] at hq6;cases hq6];exact hq6
     refine pT (decide (x % 13=10/\f.w="if")) (fun H5=>H5=H4) (fun R hR=>?_) ?_
     ·refine ⟨_,rfl,_,_,rfl,rfl,(by show (0:Int)<13;decide),rfl,_,rfl,?_⟩
      rw [fD]
      by_cases h10:x % 13=10
      ·refine bO (Qo h10) ⟨_,rfl,1,rfl,st,_,_,_,rfl,rfl,aj.of EL,kI _ _,q1,_,_,_,rfl,rfl,ah.of hq6,aw (j:=1) rfl,rfl,_,rfl,?_⟩
       rw [pQ,show decide (f.w="if")=decide (x % 13=10/\f.w="if") from decide_eq_decide.mpr ⟨fun z=>⟨h10,z⟩,fun z=>z.2⟩]
       exact hR _ rfl
      ·refine bd (Qi h10) ?_
       rw [show false=decide (x % 13=10/\f.w="if") from (Qi fun z=>h10 z.1).symm]
       exact hR _ rfl
     rintro H5 rfl
     refine cD (fun hA=>?_) (fun hA=>?_)
     ·have hA:=QS hA
      unfold fV
      rw [if_pos hA]
      have Gy:0<S.length:=(Gk.fr.2.1 hA.2).1
      obtain ⟨o1,D1,rfl⟩:∃ o1 D1,os=o1::D1:=by
       cases os with
       | nil=>rw [List.length_nil] at hol;lia
       | cons o1 D1=>exact ⟨o1,D1,rfl⟩
      obtain ⟨vs2,EX,Et⟩:=DS.o.2 0 o1 f rfl rfl hA.2
      have hop6:H5 op=some (.lst ((.non::D1.reverse.map V.ref)++[.ref o1])):=by rw [DS.hop];simp
      refine ⟨_,rfl,.inl ⟨rfl,_,aj.of EL⟩,st,_,.ref q1,rfl,rfl,EL,hpop,q1,_,rfl,ah.of hq',rfl,_,_,rfl,_,_,rfl,_,_,rfl,rfl,?_⟩
      rw [List.dropLast_concat]
      have hop7:upd H5 st (.lst (DK.reverse.map V.ref)) op=some (.lst ((.non::D1.reverse.map V.ref)++[.ref o1])):=by rw [al DS.ne.symm];exact hop6
      have ho7:upd H5 st (.lst (DK.reverse.map V.ref)) o1=some (.tup vs2):=by rw [al fun z=>by rw [z,EL] at EX;cases EX];exact EX
      refine ⟨_,rfl,.inl ⟨rfl,_,aj.of ai⟩,_,rfl,1,rfl,op,_,_,_,rfl,rfl,aj.of hop7,kI _ _,o1,_,_,_,rfl,rfl,ah.of ho7,aw (j:=4) Et,_,rfl,dR,fun q hq=>?_⟩
      refine ⟨st,_,_,rfl,rfl,ak hq _ _ ai,Ed (by rw [Qd,List.length_reverse];lia),?_⟩
      have nq:∀ {b:Addr} {o:HO},b≠st->H5 b=some o->b≠q:=fun h1 e z=>by rw [<- z,al h1,e] at hq;cases hq
      have nqs:st≠q:=fun z=>by rw [<- z,ai] at hq;cases hq
      have kk:∀ b o,b≠st->H5 b=some o->upd (upd (upd H5 st (.lst (DK.reverse.map V.ref))) q (.tup [.ref ((as++bs).getD f.o 0),.str "else",.int ((f.m:Nat):Int)])) st (.lst (DK.reverse.map V.ref++[.ref q])) b=some o:=fun b o h1 e=>by
       rw [al h1,al (nq h1 e),al h1];exact e
      have tk:cy H5 (upd (upd (upd H5 st (.lst (DK.reverse.map V.ref))) q (.tup [.ref ((as++bs).getD f.o 0),.str "else",.int ((f.m:Nat):Int)])) st (.lst (DK.reverse.map V.ref++[.ref q]))):=fun b xs e=>kk b _ (fun z=>by rw [z,EL] at e;cases e) e
      refine ⟨as++bs,q::DK,o1::D1,_,_,_,_,_,_,_,_,rfl,G2,DS.chg (fun b o h1 _ e=>kk b o h1 e) (by rw [ai,List.reverse_cons,QQ];rfl) (kk _ _ DS.ne.symm DS.hop) ⟨by have:=DS.q.1;simpa using this,fun k q' f' hk hf=>?_⟩ ⟨by have:=DS.o.1;simpa using this,fun k o' f' hk hf hw=>?_⟩⟩
      ·cases k with
       | zero =>
        cases hk;cases hf
        rw [al nqs.symm];exact ai
       | succ k=>exact tk _ _ (DS.q.2 (k+1) q' f' hk hf)
      ·cases k with
       | zero=>cases hf;exact absurd (show ("else":Str)="if" from hw) (by decide +kernel)
       | succ k =>
        obtain ⟨vs3,g1,g2⟩:=DS.o.2 (k+1) o' f' hk hf hw
        exact ⟨vs3,tk _ _ g1,g2⟩
     have hA:¬(x % 13=10/\f.w="if"):=fun z=>hA (Qo z)
     refine pT (decide (10<x % 13/\0<S.length)) (fun H6=>H6=H5) (fun R hR=>?_) ?_
     ·refine ⟨_,rfl,_,_,rfl,rfl,(by show (0:Int)<13;decide),_,_,rfl,rfl,_,rfl,?_⟩
      by_cases h10:10<x % 13
      ·refine bO (Qo h10) ⟨_,rfl,st,_,rfl,.inl (aj.of EL),_,_,rfl,rfl,_,rfl,?_⟩
       have hln:(((DK.reverse.map V.ref++[V.ref q1]).length:Nat):Int)=((S.length+1:Nat):Int):=by rw [QK,Qd,List.length_reverse,hqsl];rfl
       rw [hln,show decide (((S.length+1:Nat):Int)>1)=decide (10<x % 13/\0<S.length) from decide_eq_decide.mpr ⟨fun z=>⟨h10,by lia⟩,fun z=>by have:=z.2;lia⟩]
       exact hR _ rfl
      ·refine bd (Qi h10) ?_
       rw [show false=decide (10<x % 13/\0<S.length) from (Qi fun z=>h10 z.1).symm]
       exact hR _ rfl
     rintro H6 rfl
     unfold fV
     rw [if_neg hA]
     refine cD (fun hC=>?_) (fun hC=>?_)
     ·have hC:=QS hC
      rw [if_pos hC]
      obtain ⟨o1,D1,rfl⟩:∃ o1 D1,os=o1::D1:=by
       cases os with
       | nil=>have:=hC.2;rw [List.length_nil] at hol;lia
       | cons o1 D1=>exact ⟨o1,D1,rfl⟩
      have hop6:H6 op=some (.lst ((.non::D1.reverse.map V.ref)++[.ref o1])):=by rw [DS.hop];simp
      refine ⟨_,rfl,.inl ⟨rfl,_,aj.of EL⟩,st,_,.ref q1,rfl,rfl,EL,hpop,?_⟩
      rw [List.dropLast_concat]
      have hop7:upd H6 st (.lst (DK.reverse.map V.ref)) op=some (.lst ((.non::D1.reverse.map V.ref)++[.ref o1])):=by rw [al DS.ne.symm];exact hop6
      refine ⟨_,rfl,.inl ⟨rfl,_,aj.of hop7⟩,op,_,.ref o1,rfl,rfl,hop7,by simp,?_⟩
      rw [List.dropLast_concat]
      have kk:∀ b o,b≠st->b≠op->H6 b=some o->upd (upd H6 st (.lst (DK.reverse.map V.ref))) op (.lst (.non::D1.reverse.map V.ref)) b=some o:=fun b o h1 h2 e=>by rw [al h2,al h1];exact e
      have tk:cy H6 (upd (upd H6 st (.lst (DK.reverse.map V.ref))) op (.lst (.non::D1.reverse.map V.ref))):=fun b xs e=>kk b _ (fun z=>by rw [z,EL] at e;cases e) (fun z=>by rw [z,hop6] at e;cases e) e
      exact ⟨as++bs,DK,D1,_,_,_,_,_,_,_,_,rfl,G2,DS.chg kk (by rw [al DS.ne];exact ai) ai ⟨hqsl,fun k q' f' hk hf=>tk _ _ (DS.q.2 (k+1) q' f' hk hf)⟩ ⟨by simpa using hol,fun k o' f' hk hf hw=>by
       obtain ⟨vs3,g1,g2⟩:=DS.o.2 (k+1) o' f' hk hf hw
       exact ⟨vs3,tk _ _ g1,g2⟩⟩⟩
     ·rw [if_neg fun z=>hC (Qo z)]
      exact ⟨_,_,_,_,_,_,_,_,_,_,_,rfl,G2,DS⟩
   ·rintro σ' H' ⟨as,qs,os,x6,x7,x8,x9,x10,x11,x12,x13,rfl,ha0,hT⟩
    rw [Qd] at hT
    exact hRR _ _ ⟨as,_,_,_,_,_,_,_,_,rfl,fun b o hb e=>hT.x _ _ hb (hHB _ _ e),hT.tb,ha0,hT.fa⟩
  ·rintro σ' H' ⟨as,x6,x7,x8,x9,x10,x11,x12,x13,rfl,sx,tb,ha0,fa⟩
   have Gk:SI (zL is Dt) (bU is).length:=mx D4 hfull (bU is) _
   obtain ⟨b0,hb0,hd0⟩:=Gk.top
   obtain ⟨us,e1,e2⟩:=fa.lat Gk.pi 4 0 pt b0 ha0 hb0 (by lia)
   exact ⟨_,rfl,kq pt us H' sx tb e1 e2⟩
mutual
theorem CY (s:Nat):∀ t:Tr,au 0 (au s t)=au s t
 | .set m r n e=>by simp [au]
 | .tell m r e=>by simp [au]
 | .give m r e=>by simp [au]
 | .kd m r n ps=>by simp [au]
 | .iff m r e b o=>by rw [au,au,cutM_cut s b,cutM_cut s o]
 | .whl m r e b=>by rw [au,au,cutM_cut s b]
 | .df m r n k ps b=>by rw [au,au,cutM_cut s b]
theorem cutM_cut (s:Nat):∀ ts:List Tr,cutM 0 (cutM s ts)=cutM s ts
 | []=>by simp [cutM]
 | t::ts=>by
  rw [cutM]
  split
  ·rw [cutM,mn,if_pos (by decide),CY s t,cutM_cut s ts]
  ·exact cutM_cut s ts
end
mutual
theorem CZ (s:Nat):∀ t:Tr,(au s t).deep<=t.deep/\(au s t).co<=t.co/\(au s t).cnt<=t.cnt
 | .set m r n e=>by simp [au,Tr.deep,Tr.co,Tr.cnt]
 | .tell m r e=>by simp [au,Tr.deep,Tr.co,Tr.cnt]
 | .give m r e=>by simp [au,Tr.deep,Tr.co,Tr.cnt]
 | .kd m r n ps=>by simp [au,Tr.deep,Tr.co,Tr.cnt]
 | .iff m r e b o=>by
  obtain ⟨a1,a2,a3⟩:=cuts_le s b
  obtain ⟨b1,b2,b3⟩:=cuts_le s o
  simp only [au,Tr.deep,Tr.co,Tr.cnt];lia
 | .whl m r e b=>by
  obtain ⟨a1,a2,a3⟩:=cuts_le s b
  simp only [au,Tr.deep,Tr.co,Tr.cnt];lia
 | .df m r n k ps b=>by
  obtain ⟨a1,a2,a3⟩:=cuts_le s b
  simp only [au,Tr.deep,Tr.co,Tr.cnt];lia
theorem cuts_le (s:Nat):∀ ts:List Tr,deeps (cutM s ts)<=deeps ts/\cos (cutM s ts)<=cos ts/\cnts (cutM s ts)<=cnts ts
 | []=>by simp [cutM]
 | t::ts=>by
  obtain ⟨a1,a2,a3⟩:=CZ s t
  obtain ⟨b1,b2,b3⟩:=cuts_le s ts
  rw [cutM]
  split<;>simp only [deeps,cos,cnts]<;>lia
end
theorem my (s:Nat) (ts:List Tr):c6 1 (cutM s ts):=fun t ht=>by
 obtain ⟨u,_,_,rfl⟩:=gr.mp ht
 rw [mn];rfl
mutual
theorem C0 (s:Nat):∀ t:Tr,t.asc->(au s t).asc
 | .set m r n e,h=>by rw [au];exact h
 | .tell m r e,h=>by rw [au];exact h
 | .give m r e,h=>by rw [au];exact h
 | .kd m r n ps,h=>by rw [au];exact h
 | .iff m r e b o,h=>by
  rw [au]
  exact ⟨h.1,⟨QC (ja s b) h.2.1.1,my s b,cuts_asc s b h.2.1.2.2⟩,QC (ja s o) h.2.2.1,my s o,cuts_asc s o h.2.2.2.2⟩
 | .whl m r e b,h=>by rw [au];exact ⟨h.1,QC (ja s b) h.2.1,my s b,cuts_asc s b h.2.2.2⟩
 | .df m r n k ps b,h=>by rw [au];exact ⟨h.1,QC (ja s b) h.2.1,my s b,cuts_asc s b h.2.2.2⟩
theorem cuts_asc (s:Nat):∀ ts:List Tr,ascs ts->ascs (cutM s ts)
 | [],_=>by rw [cutM];trivial
 | t::ts,h=>by
  rw [cutM]
  split
  ·rename_i hb
   refine ⟨by rw [mn];exact ⟨by decide,by decide⟩,C0 s t h.2.1,fun u hu=>?_,cuts_asc s ts h.2.2.2⟩
   obtain ⟨x,hx,hxb,rfl⟩:=gr.mp hu
   obtain ⟨g1,g2⟩:=h.2.2.1 x hx
   refine ⟨by rw [gW,gW];exact g1,fun e=>?_⟩
   rw [gW,gW] at e
   have:=jS (g2 e) hb
   rw [hxb] at this;cases this
  ·exact cuts_asc s ts h.2.2.2
end
theorem i4.cut {ts:List Tr} (h:i4 ts) (s:Nat):i4 (cutM s ts):=by
 obtain ⟨h1,h2,h3,h4,h5⟩:=h
 obtain ⟨a1,a2,a3⟩:=cuts_le s ts
 exact ⟨by lia,QC (ja s ts) h2,cuts_asc s ts h3,by lia,by lia⟩
mutual
theorem C1 (s:Nat):∀ t:Tr,de t->de (au s t)
 | .set m r n e,h=>by rw [au];exact h
 | .tell m r e,h=>by rw [au];exact h
 | .give m r e,h=>by rw [au];exact h
 | .kd m r n ps,h=>by rw [au];exact h
 | .iff m r e b o,h=>by rw [au];exact ⟨h.1,cutAs s b h.2.1,cutAs s o h.2.2⟩
 | .whl m r e b,h=>by rw [au];exact ⟨h.1,cutAs s b h.2⟩
 | .df m r n k ps b,h=>by rw [au];exact ⟨h.1,h.2.1,h.2.2.1,cutAs s b h.2.2.2⟩
theorem cutAs (s:Nat):∀ ts:List Tr,AscTs ts->AscTs (cutM s ts)
 | [],_=>by rw [cutM];trivial
 | t::ts,h=>by
  rw [cutM]
  split
  ·exact ⟨C1 s t h.1,cutAs s ts h.2⟩
  ·exact cutAs s ts h.2
end
noncomputable abbrev mz:List Str:=["nofunc","nokind","count","unset","twice"]
theorem C2:∀ z∈mz,aQ z:=by unfold aQ;decide +kernel
def kA (k:List ae):Prop:=∃ r a z,k=k3 r a z/\a∈mz/\aQ z
theorem kA.of {k:List ae} {r:Nat} {a z:Str} (h:k∈[k3 r a z]) (ha:a∈mz) (hz:aQ z):kA k:=⟨r,a,z,Qt h,ha,hz⟩
theorem C3 {tt:List Tr} {r:Nat} {a DO z:Str} {n:Nat} {k:List ae} (hm:DO∈mz) (hz:aQ z) (h:k∈d7 tt r a DO z n):kA k:=by
 unfold d7 at h
 split at h
 ·exact kA.of h hm hz
 ·split at h
  ·simp at h
  ·exact kA.of h (by simp) hz
mutual
theorem jk {tt:List Tr} {kn:List Str} {r:Nat} {k:List ae}:∀ {e:Ex},bA e->k∈bF tt kn r e->kA k
 | .many w z es,p,h=>by
  rw [bA] at p
  rw [bF] at h
  rcases Qw h with h | h
  ·exact C3 (by split<;>simp) p.2.1 h
  ·exact exs_kA p.2.2 h
 | .name z,p,h=>by
  rw [bA] at p
  rw [bF] at h
  split at h
  ·simp at h
  ·exact kA.of h (by simp) p
 | .not e,p,h=>by rw [bA] at p;rw [bF] at h;exact jk p h
 | .op _ a b,p,h=>by
  rw [bA] at p
  rw [bF] at h
  rcases Qw h with h | h
  ·exact jk p.2.1 h
  ·exact jk p.2.2 h
 | .of _ e,p,h=>by rw [bA] at p;rw [bF] at h;exact jk p.2 h
 | .num _,_,h=>by simp [bF] at h
 | .truth _,_,h=>by simp [bF] at h
theorem exs_kA {tt:List Tr} {kn:List Str} {r:Nat} {k:List ae}:∀ {es:List Ex},bJ es->k∈exKs tt kn r es->kA k
 | [],_,h=>by simp [exKs] at h
 | e::es,p,h=>by
  rw [bJ] at p
  rw [exKs] at h
  rcases Qw h with h | h
  ·exact jk p.1 h
  ·exact exs_kA p.2 h
end
theorem C4 {tt:List Tr} {r:Nat} {zs:List Str} {k:List ae} (hz:∀ z∈zs,aQ z) (h:k∈c9 tt r zs):kA k:=by
 obtain ⟨z,hm,h⟩:=List.mem_flatMap.mp h
 unfold gx at h
 split at h
 ·simp at h
 ·split at h
  ·simp at h
  ·exact kA.of h (by simp) (hz z hm)
theorem kh {tt:List Tr} {t:Tr} {e:Ex} {q:St} (p:bA e) (hq:∀ k∈q.2,kA k):∀ k∈(cQ tt t e q).2,kA k:=fun k h=>by
 rcases fA.mp (show k∈cj q.2 (bF tt q.1 t.row e) from h) with h | h
 ·exact hq k h
 ·exact jk p h
mutual
theorem C5 {tt:List Tr}:∀ (t:Tr) (q:St),de t->(∀ k∈q.2,kA k)->∀ k∈(bg tt t q).2,kA k
 | .set m r n e,q,p,hq=>by rw [bg];exact kh p.2.1 hq
 | .tell m r e,q,p,hq=>by rw [bg];exact kh p.1 hq
 | .give m r e,q,p,hq=>by rw [bg];exact kh p.1 hq
 | .iff m r e b o,q,p,hq=>by rw [bg];exact lbs_kA o _ p.2.2 (lbs_kA b _ p.2.1 (kh p.1.1 hq))
 | .whl m r e b,q,p,hq=>by rw [bg];exact lbs_kA b _ p.2 (kh p.1.1 hq)
 | .df m r n kd ps b,q,p,hq=>by
  rw [bg]
  exact lbs_kA b _ p.2.2.2 fun k h=>by
   rcases fA.mp (show k∈cj q.2 (c9 tt r (kd::ps.map (·.2))) from h) with h | h
   ·exact hq k h
   ·refine C4 (fun z hz=>?_) h
    rcases Qn hz with e | e
    ·rw [e];exact p.2.1
    ·obtain ⟨x,hx,rfl⟩:=QH e
     exact (p.2.2.1 x hx).2
 | .kd m r n ps,q,p,hq=>by rw [bg];exact hq
theorem lbs_kA {tt:List Tr}:∀ (ts:List Tr) (q:St),AscTs ts->(∀ k∈q.2,kA k)->∀ k∈(lbTs tt ts q).2,kA k
 | [],q,_,hq=>by rw [lbTs];exact hq
 | t::ts,q,p,hq=>by rw [lbTs];exact lbs_kA ts _ p.2 (C5 t q p.1 hq)
end
theorem wy {k:List ae}:∀ {ts:List Tr} {ab:List Str},AscTs ts->k∈cb ab ts->kA k
 | [],_,_,h=>by simp [cb] at h
 | t::ts,ab,p,h=>by
  rw [cb] at h
  rcases Qw h with h | h
  ·unfold gw at h
   split at h
   ·simp at h
   ·rename_i q hq
    split at h
    ·refine kA.of h (by simp) ?_
     have p1:=p.1
     cases t with
     | df m r n k ps b=>cases hq;exact p1.1
     | kd m r n ps=>cases hq;exact p1.1
     | _=>cases hq
    ·simp at h
  ·exact wy p.2 h
theorem C6 {ts:List Tr} (p:AscTs ts):∀ k∈FN ts,kA k:=lbs_kA ts _ p fun k h=>by
 rcases fA.mp (show k∈cj [] (cb [] ts) from h) with h | h
 ·simp at h
 ·exact wy p h
noncomputable def wz:ae->PyData
 | .inl i=>.int i
 | .inr z=>.str z
noncomputable def kD (k:List ae):PyData:=.tuple (k.map wz)
theorem pV {K:W.Frag} {H:Hp}:∀ (k:List ae),RdvA K H (k.map kV) (k.map wz)
 | []=>.nil
 | .inl i::k=>.cons (.int i) (pV k)
 | .inr z::k=>.cons (.str z) (pV k)
theorem pW {K:W.Frag} {H:Hp}:∀ {xs:List V} {ds:List (List ae)},bY H xs ds->RdvA K H xs (ds.map kD)
 | [],[],_=>.nil
 | [],_::_,h=>by simp [bY] at h
 | _::_,[],h=>by simp [bY] at h
 | x::xs,d::ds,h=>by
  obtain ⟨t,rfl,ht⟩:=h.2 0 x d rfl rfl
  exact .cons (.tup (ah.of ht) (pV d)) (pW ⟨by simpa using h.1,fun i y e a b=>h.2 (i+1) y e a b⟩)
theorem C7 {X:Cx} {K:W.Frag} (hK:X.K=K):jv X (mP K):=by subst hK;exact gM
theorem kA.shd {k:List ae} (h:kA k):aU 1 (kD k):=by
 obtain ⟨r,a,z,rfl,ha,hz⟩:=h
 refine aU.tuple fun d hd=>?_
 simp only [k3,List.map_cons,List.map_nil,List.mem_cons,List.not_mem_nil,or_false] at hd
 rcases hd with rfl | rfl | rfl
 ·exact .int _
 ·exact .str (C2 a ha)
 ·exact .str hz
noncomputable def eG (d:Nat):Nat:=2 ^ 2 ^ (1+d)-1
theorem C8 {d:Nat} (h:d<3):bK (eG d):=by
 rcases (show d=0∨d=1∨d=2 by lia) with rfl | rfl | rfl<;>exact ⟨by decide,by decide⟩
inductive ki (K:W.Frag) (Pt:Addr) (vs:List V) (H:Hp) (Q:VK) (E:XK):Prop
 | mk:∀ (a:Addr) (ns:List Int),vs=[.ref a]->aj K H a (ns.map V.int)->ns.length<=63->H Pt=some (.tbl #[])->(∀ H',Q (.bl true) H')->ki K Pt vs H Q E
theorem C9 {rule s:Nat} {ts:List Tr} {D:Dm} (h:cP D (dO rule ts)) (hs:rule.testBit s=true) {es:List (List ae)} (hp:es.Pairwise (fun x y=>a8 x y=true)) (hm:∀ k,k∈es↔k∈FN (cutM 0 (cutM s ts))):(bE (D.map (·.1))).filter (fun k=>((valN D k).getD 0).testBit s)=es:=by
 obtain ⟨f1,f2⟩:=me h
 refine sw (f1.sublist List.filter_sublist) hp fun k=>?_
 rw [List.mem_filter,hm,cutM_cut,h.bit k s,f2]
 unfold dO
 rw [if_pos hs]
 constructor
 ·exact fun z=>z.2
 ·exact fun z=>⟨h.mem.mpr ⟨s,by unfold dO;rw [if_pos hs];exact z⟩,z⟩
theorem wA {rule:Nat} {ts:List Tr} {D:Dm} (h:cP D (dO rule ts)):∀ k∈bE (D.map (·.1)),da k/\0<(valN D k).getD 0/\(valN D k).getD 0 &&& rule=(valN D k).getD 0:=fun k hk=>by
 have hk:=(me h).2 k |>.mp hk
 refine ⟨pd h k hk,?_,?_⟩
 ·obtain ⟨q,hq,rfl⟩:=QH hk
  rw [h.val hq];exact (h.ok q hq).1
 ·refine Nat.eq_of_testBit_eq fun s=>?_
  rw [Nat.testBit_and]
  cases e:((valN D k).getD 0).testBit s with
  | false=>rfl
  | true =>
   have:=(h.bit k s).mp e
   unfold dO at this
   split at this
   ·rename_i z;rw [z];rfl
   ·simp at this
theorem pX {H H':Hp} {xs:List V} {ds:List (List ae)} (s:cy H H') (h:bY H xs ds):bY H' xs ds:=⟨h.1,fun i x d a b=>by obtain ⟨t,e,q⟩:=h.2 i x d a b;exact ⟨t,e,s _ _ q⟩⟩
theorem Da {H:Hp} {xs:List V} {ds:List (List ae)} {t:Addr} {d:List ae} (h:bY H xs ds) (ht:H t=some (.tup (d.map kV))):bY H (xs++[.ref t]) (ds++[d]):=by
 refine ⟨by simp [h.1],fun j y e hy he=>?_⟩
 by_cases hj:j<xs.length
 ·rw [Qp hj] at hy
  rw [Qp (by rw [<- h.1];exact hj)] at he
  exact h.2 j y e hy he
 ·rw [Ql (by lia)] at hy
  rw [Ql (by rw [<- h.1];lia),<- h.1] at he
  have hj2:=(Qc hy).1
  have Gx:j-xs.length=0:=by simpa using hj2
  rw [Gx] at hy he
  have y1:V.ref t=y:=by simpa using hy
  have e1:d=e:=by simpa using he
  exact ⟨t,y1.symm,by rw [<- e1];exact ht⟩
structure LI (H:Hp) (p p2:Addr) (us:List Addr) (ys:List V) (ts:List Tr) (D:Dm):Prop where
 t:H p=some (.lst (us.map V.ref))
 l:LAt H true (us.map V.ref) ts
 f:H p2=some (.lst ys)
 k:bY H ys (hX D)
theorem LI.kept {H H':Hp} {p p2:Addr} {us:List Addr} {ys:List V} {ts:List Tr} {D:Dm} (h:LI H p p2 us ys ts D) (s:gp H H'):LI H' p p2 us ys ts D :=
 ⟨s.2 _ _ h.t,h.l.keep s,s.2 _ _ h.f,⟨h.k.1,fun i x d a b=>by obtain ⟨t,e,q⟩:=h.k.2 i x d a b;exact ⟨t,e,s.1 _ _ q⟩⟩⟩
noncomputable abbrev wB:List Str:=["_law_script","_law_settings_of","_law_full","_law_tree_here","_law_rule","_law_found","_law_s"]
theorem wC:a7 wB ["_law_script"] (aL lQ):=⟨rfl,rfl,rfl,by decide +kernel,rfl,by decide +kernel,by decide +kernel⟩
theorem Db (T:All P w K mg AA DD) {Pt:Addr} (L:pP mg base DD Pt) {f:Addr} {fd:FuncData} (F:aZ K "law" "law" lQ f fd):aF P w K mg base aG 40 f fd ["_law_script"] (ki K Pt):=by
 have GCA:=vk (base:=base) T
 have GX:=j4 (base:=base) T
 have GM:=vI (base:=base) T
 have GTR:=CW (base:=base) T L
 have GS:=va (base:=base) T
 have GPN:=B3 (base:=base) T
 have GCT:=vS (base:=base) T 5
 have GSO:=Cr (base:=base) T
 refine F.ok wC (fun vs H Q E h=>?_) (fun Ds A outer s H vs Q E hr h=>?_)
 ·obtain ⟨a,ns,rfl,_⟩:=h
  rfl
 ·obtain ⟨a,is,rfl,hS,Dj,hPt,kq⟩:=h
  have nd:=wC.nd
  have hu:=hr.units
  have hrP:ay 25 _:=hr.mono (by decide)
  have hrS:ay 24 _:=hr.mono (by decide)
  have hrC:ay 6 _:=hr.mono (by decide)
  have hr8:ay 8 _:=hr.mono (by decide)
  have Dw:ay 1 _:=hr.mono (by decide)
  refine ⟨_,(aA (aY (i:=1) nd rfl (Or.inl rfl) (am qW af (am eM af (am bG (aK GCA Dw rfl T.m_Zn T.k_Zn T.b_Zn .nil aD (aa (pv 0) (aa af ag))) af)))) (aA (aY (i:=2) nd rfl (Or.inl rfl) (am fj (am qW af (pv 1)) af)) (aA (aY (i:=3) nd rfl (Or.inl rfl) (aK GTR hr8 rfl T.m_ZD T.k_ZD T.b_ZD .nil aD (aa (pv 0) (aa (pv 2) ag)))) (aA (aY (i:=4) nd rfl (Or.inl rfl) (aK GM Dw rfl T.m_ZB T.k_ZB T.b_ZB .nil aD (aa (aK GX Dw rfl T.m_Zw T.k_Zw T.b_Zw .nil aD (aa (aK GCA Dw rfl T.m_Zn T.k_Zn T.b_Zn .nil aD (aa (pv 0) (aa af ag))) (aa af ag))) (aa (pv 2) ag)))) (aA (aY (i:=5) nd rfl (Or.inl rfl) (aK GS hrS rfl T.m_Zl T.k_Zl T.b_Zl .nil aD (aa (pv 3) (aa (pv 4) ag)))) (aA (aX (PW.pt (fI (kr (fW (aK GSO Dw rfl T.m_Zs T.k_Zs T.b_Zs .nil aD (aa (pv 5) (aa (pv 4) ag))))) (il (aM (k6 (K:=K) rfl hu) (pv 3) (aK GTR hr8 rfl T.m_ZD T.k_ZD T.b_ZD .nil aD (aa (pv 0) (aa (pv 2) ag))) (aR _))))) (ao (aS gE)) bi) (aA (dU PassesOwn.never rfl (io rfl T.n_range (aa (pv 1) ag)) (a9 (i:=6) nd rfl (Or.inr rfl)) (ao (aX (aM bu (am eh (am mM (pv 4) (pv 6)) af) af (aR _)) (ao (aX (aM (k6 (K:=K) rfl hu) (gP (aL lQ) wB ["_law_s"] [6] rfl (by exact ⟨rfl,rfl,by decide +kernel,rfl,by decide +kernel,by decide +kernel,by decide +kernel,rfl,by decide +kernel⟩) rfl rfl (dC (pv 5)) (fun _ _ _ _=>kL (aM bu (am eh (am mM (az (aN (K:=K) rfl) (pv 0) af (fun _ _=>rfl)) (pv 1)) af) af (aR _))) (fun _ _ _ _=>(fm (C7 (K:=K) rfl) (pv 0) (eO af) fN))) (aK GPN hrP rfl T.m_Zm T.k_Zm T.b_Zm .nil aD (aa (aK GCT hrC rfl T.m_ZI T.k_ZI T.b_ZI .nil aD (aa (pv 3) (aa (pv 6) ag))) ag)) (aR _)) (ao (aS gE)) bi)) bi)) (by intro _;rfl)) (ao (aS gE))))))))),?_⟩
  have EW:Tb H Pt:=⟨#[],hPt,trivial,.inl rfl⟩
  obtain ⟨d,ed,hd⟩:=db (a:=e8 is 1) (n:=3) (by decide)
  have ed:e8 is 1 % 3=((d:Nat):Int):=ed
  have hfu:=C8 hd
  refine ⟨_,rfl,a,is,1,rfl,hS,_,_,rfl,rfl,(by show (0:Int)<3;decide),_,_,rfl,rfl,_,_,rfl,rfl,⟨?_,1,by decide,?_⟩,?_⟩
  ·show (0:Int)<=1+e8 is 1 % 3;lia
  ·show ((1:Nat):Int)+(1+e8 is 1 % 3)<=2 ^ 27;lia
  dsimp only [aW]
  rw [show (1:Int)*2 ^ (1+e8 is 1 % 3).toNat=((2 ^ (1+d):Nat):Int) by rw [ed,show (1:Int)+((d:Nat):Int)=((1+d:Nat):Int) by lia,QE];simp]
  have hse:2 ^ (1+d)<=8:=by
   have:=Nat.pow_le_pow_right (show 0<2 by decide) (show 1+d<=3 by lia)
   exact this
  refine ⟨_,rfl,_,_,rfl,rfl,⟨?_,1,by decide,?_⟩,_,_,rfl,rfl,?_⟩
  ·exact Int.natCast_nonneg _
  ·have:((2 ^ (1+d):Nat):Int)<=((8:Nat):Int):=Int.ofNat_le.mpr hse
   show ((1:Nat):Int)+((2 ^ (1+d):Nat):Int)<=2 ^ 27;lia
  dsimp only [aW]
  rw [show (1:Int)*2 ^ (((2 ^ (1+d):Nat):Int)).toNat-1=((eG d:Nat):Int) by
   rw [QE];unfold eG
   have:=Nat.one_le_two_pow (n:=2 ^ (1+d))
   rw [Int.natCast_sub this];simp]
  refine ⟨_,rfl,_,rfl,a,is,eG d,rfl,hS,Dj,hfu,EW,fun p us H1 sx1 tb1 hp hL=>?_⟩
  dsimp only [aW]
  have Gp:=sx1.seq EW hS
  refine ⟨_,rfl,a,is,1,rfl,Gp,_,_,rfl,_,rfl,aJ (e8 is 1) 3,eG d,rfl,?_⟩
  dsimp only [aW]
  have Gk:SI (zL is (eG d)) (bU is).length:=mx (wv is) hfu (bU is) _
  have hmok:=Gk.mok (wu is)
  have EM:AscTs (ji (zL is (eG d))):=wl Gk.asc 4 0
  generalize cT (aJ (e8 is 1) 3) (eG d)=rule
  generalize hts:ji (zL is (eG d))=ts at hL hmok EM
  obtain ⟨hd5,hl40,hasc2,hco,hcn⟩:=id hmok
  refine ⟨_,rfl,_,rfl,p,us.map V.ref,ts,rule,rfl,hp,hL,hmok,fun p2 ys D H2 l2 Ff hT hF hDl=>?_⟩
  dsimp only [aW]
  have hD:=me hF
  have hshl:SeqAt.shaped (.list (trsD ts))=true:=(aU.list (trs_shd ts EM)).ok (by lia)
  have hrefl:PyData.eqv (.list (trsD ts)) (.list (trsD ts))=true:=(aU.list (trs_shd ts EM)).refl
  have li2:LI H2 p p2 us ys ts D:=⟨l2.2 _ _ hp,hL.kept l2,Ff,hT⟩
  have tb2:Tb H2 Pt:=by
   obtain ⟨pp,g1,g2,g3⟩:=tb1
   refine ⟨pp,l2.b _ _ g1,g2,g3.imp id ?_⟩
   rintro ⟨c',e,oc,vs,t,k1,k2⟩
   exact ⟨c',e,oc,vs,t,l2.z _ _ _ k1,k2⟩
  refine gk (fun σ' H'=>σ'=[some (.ref a),some (.int ((2 ^ (1+d):Nat):Int)),some (.int ((eG d:Nat):Int)),some (.ref p),some (.int ((rule:Nat):Int)),some (.ref p2),none]/\LI H' p p2 us ys ts D) (fun R hR=>?_) ?_
  ·refine ⟨_,rfl,_,rfl,p2,ys,bE (List.map (fun q:List ae × Nat=>q.1) D),fun k=>(valN D k).getD 0,rule,rfl,Ff,hT,hD.1,wA hF,?_,fun H3 s3=>?_⟩
   ·unfold bE;rw [Qd,jQ,Qd];exact hDl
   refine ⟨_,rfl,bd rfl ?_⟩
   have li3:=li2.kept s3.ls.w
   have tb3:=tb2.same s3
   refine ⟨_,rfl,_,rfl,_,rfl,a,is,eG d,rfl,s3.seq (l2.seq Gp),Dj,hfu,tb3,fun p3 us3 H4 sx4 tb4 Gm hL3=>?_⟩
   rw [hts] at hL3
   have tk:LI H4 p p2 us ys ts D:=li3.kept ⟨fun b xs e=>sx4 _ _ (fU tb3 e fun ps z=>nomatch z) e,fun b xs e=>sx4 _ _ (fU tb3 e fun ps z=>nomatch z) e⟩
   refine ⟨.list (trsD ts),.list (trsD ts),.lst (aj.of tk.t) (trs_rdv tk.l EM),.lst (aj.of Gm) (trs_rdv hL3 EM),hshl,hshl,_,rfl,?_⟩
   rw [hrefl]
   exact dX (hR _ _ ⟨rfl,tk⟩)
  ·rintro σ' H3 ⟨rfl,li3⟩
   refine gl (fun σ' H'=>True) (fun R hR=>?_) ?_
   ·refine ⟨_,rfl,_,rfl,?_,?_,?_⟩
    ·show _<=((2 ^ (1+d):Nat):Int)
     exact Int.le_trans (by decide) (Int.natCast_nonneg _)
    ·show ((2 ^ (1+d):Nat):Int)<_
     exact Int.lt_of_le_of_lt (Int.ofNat_le.mpr hse) (by decide)
    rw [QE]
    refine mH (D:=⟨R,_,R,R⟩) (fun i σ' H'=>LI H' p p2 us ys ts D/\∃ x6,σ'=[some (.ref a),some (.int ((2 ^ (1+d):Nat):Int)),some (.int ((eG d:Nat):Int)),some (.ref p),some (.int ((rule:Nat):Int)),some (.ref p2),x6]) ⟨li3,_,rfl⟩ ?_ ?_
    ·rintro i σ' H4 hi ⟨li,x6,rfl⟩
     rw [Int.zero_add]
     refine ⟨_,rfl,_,rfl,_,_,rfl,rfl,(by show (0:Int)<=((i:Nat):Int);lia),_,_,rfl,rfl,rfl,_,rfl,?_⟩
     dsimp only
     rw [pG]
     by_cases hb:rule.testBit i=true
     ·refine bO hb ?_
      refine ⟨_,rfl,p2,rfl,⟨_,aj.of li.f⟩,?_⟩
      have D8:ys.length=(bE (List.map (fun q:List ae × Nat=>q.1) D)).length:=by have:=li.k.1;unfold hX at this;rw [Qd] at this;exact this
      have hsl:(bE (List.map (fun q:List ae × Nat=>q.1) D)).length<100000:=by unfold bE;rw [Qd,jQ,Qd];exact hDl
      have Dn:=wA hF
      have hfi:=fun {es:List (List ae)}=>C9 (es:=es) hF hb
      generalize hks:bE (List.map (fun q:List ae × Nat=>q.1) D)=ks at D8 hsl Dn hfi
      refine m5 (K:=K) (a:=p2) (xs:=ys) (fun j zs H'=>Same H4 H'/\zs.length<=j/\bY H' zs ((ks.take j).filter fun k=>((valN D k).getD 0).testBit i)) ⟨Same.refl _,Qf _,⟨rfl,fun j x k h=>by simp at h⟩⟩ (fun j zs H' _ h=>aj.of (h.1 _ _ li.f)) ?_ ?_
      ·rintro j x zs H5 hx ⟨s5,hzl,hTz⟩
       obtain ⟨hj,ex⟩:=Qc hx
       have hjk:j<ks.length:=by lia
       obtain ⟨t,rfl,ht⟩:=li.k.2 j x (.inl (((valN D ks[j]).getD 0:Nat):Int)::ks[j]) hx (by unfold hX;rw [hks,Qr,Qa hjk];rfl)
       have ht:=s5 _ _ ht
       obtain ⟨⟨r,w1,z1,ek⟩,_,_⟩:=Dn ks[j] (QL hjk)
       refine ⟨_,rfl,t,_,_,_,rfl,rfl,ah.of ht,aw (j:=0) rfl,_,rfl,_,_,rfl,rfl,(by show (0:Int)<=((i:Nat):Int);lia),_,_,rfl,rfl,rfl,_,rfl,?_⟩
       rw [pG,Qm hjk,List.filter_append]
       refine cD (fun Ek=>?_) (fun Ek=>?_)
       ·rw [List.filter_cons_of_pos (p:=fun k=>((valN D k).getD 0).testBit i) (a:=ks[j]) (l:=[]) Ek,List.filter_nil]
        refine ⟨_,rfl,_,rfl,t,_,rfl,ah.of ht,?_,fun q hq=>?_⟩
        ·rintro ⟨z,_⟩;rw [ek] at z;simp [HT.sIx,k3] at z
        have sq:=ak (o:=.tup (ks[j].map kV)) hq
        refine ⟨by rw [sizeLine_eq];lia,?_⟩
        rw [List.map_cons,lV]
        exact ⟨s5.trans sq,by simp;lia,Da (pX sq.tups hTz) ai⟩
       ·rw [List.filter_cons_of_neg (p:=fun k=>((valN D k).getD 0).testBit i) (a:=ks[j]) (l:=[]) Ek,List.filter_nil,QM]
        exact ⟨s5,by lia,hTz⟩
      ·rintro zs H5 ⟨s5,hzl,hTz⟩ pc hpc
       rw [Qv (by lia)] at hTz
       have sc:=ak (o:=.lst zs) hpc
       have hTz:=pX sc.tups hTz
       have li5:=li.kept (s5.trans sc).ls.w
       have hpc1:upd H5 pc (.lst zs) pc=some (.lst zs):=ai
       generalize upd H5 pc (.lst zs)=H6 at hTz li5 hpc1
       refine ⟨_,rfl,_,rfl,p,us.map V.ref,ts,i,rfl,li5.t,li5.l,hd5,hl40,hasc2,fun p4 ys4 H7 s7 hp40 hp4 hG=>⟨p4,ys4,cutM i ts,rfl,hp4,hG H7 (fun _ _ e=>e) (fun _ _ _ e=>e),hmok.cut i,fun p5 ys5 ks5 H8 l8 hp5 hT5 hpw5 hm5=>?_⟩⟩
       rw [hfi hpw5 hm5] at hTz
       have l68:=s7.ls.trans l8
       have shl:SeqAt.shaped (.list (ks5.map kD))=true/\PyData.eqv (.list (ks5.map kD)) (.list (ks5.map kD))=true:=by
        have:=aU.list (n:=1) (ds:=ks5.map kD) fun d hd=>by
         obtain ⟨k,hk,rfl⟩:=QH hd
         have hk:=(hm5 k).mp hk
         rw [cutM_cut] at hk
         exact (C6 (cutAs i ts EM) k hk).shd
        exact ⟨this.ok (by decide),this.refl⟩
       refine ⟨.list (ks5.map kD),.list (ks5.map kD),.lst (aj.of (l68.2 _ _ hpc1)) (pW (pX l68.1 hTz)),.lst (aj.of hp5) (pW hT5),shl.1,shl.1,_,rfl,?_⟩
       rw [shl.2]
       exact dX ⟨li5.kept l68.w,_,rfl⟩
     ·exact bd (by simpa using hb) ⟨li,_,rfl⟩
    ·rintro σ' H4 _
     exact hR _ _ trivial
   ·rintro σ' H4 _
    exact kq _
end
structure FB (K:W.Frag) (n q:Str) (st:Stmt) (ps:List Str) (f:Addr) (fd:FuncData):Prop where
 k:W.keepIn K (.ref f)=true
 F:aZ K n q st f fd
 b:Binds K fd ps []
def FG (K:W.Frag) (n q:Str) (st:Stmt) (ps:List Str):Prop:=∃ f fd,W.nsIn K mainGlobals n=some (some (.ref f))/\FB K n q st ps f fd
def MG (K:W.Frag) (c:Addr) (n q:Str) (st:Stmt) (ps:List Str):Prop:=∃ f fd,W.findIn K (.ref c) n=some (some (.ref f))/\W.isFn K (.ref f)=true/\FB K n q st ps f fd
section
variable {K:W.Frag} {n q:Str} {st:Stmt} {ps:List Str} {f c:Addr} {oc kV dc pm cd ct:Value} {od an:Option Addr} {sl:Array (Option Value)}
theorem fb (l:K.lookup f=some ⟨oc,od,.func (W.fnOf n q (iB st) (gg st) (aL st) .none kV dc pm an cd ct),sl⟩) (e:W.codeIn K cd q=true) (k:W.keepIn K (.ref f)=true)
  (b:∀ us:List Value,us.length=ps.length->bindArgs (W.fnOf n q (iB st) (gg st) (aL st) .none kV dc pm an cd ct) ⟨us,[]⟩=pure (ps.zip us)):FB K n q st ps f (W.fnOf n q (iB st) (gg st) (aL st) .none kV dc pm an cd ct) :=
 ⟨k,yv l e k,.all b⟩
theorem fg {fd:FuncData} (a:W.nsIn K mainGlobals n=some (some (.ref f))) (b:FB K n q st ps f fd):FG K n q st ps:=⟨f,fd,a,b⟩
theorem mg {fd:FuncData} (a:W.findIn K (.ref c) n=some (some (.ref f))) (i:W.isFn K (.ref f)=true) (b:FB K n q st ps f fd):MG K c n q st ps:=⟨f,fd,a,i,b⟩
end
noncomputable def tabIn (K:W.Frag) (n:Str) (P1:Addr):Bool:=match W.nsIn K mainGlobals n with
 | some (some (.ref f))=>match K.lookup f with
  | some ⟨_,_,.func fd,_⟩=>match fd.code with
   | .ref c=>W.codeHdIn K c P1&&(K.lookup P1).isNone
   | _=>false
  | _=>false
 | _=>false
theorem Dc {K:W.Frag} {n:Str} {P1:Addr} (h:tabIn K n P1=true):∃ f c oc od fd sl,W.nsIn K mainGlobals n=some (some (.ref f))/\K.lookup f=some ⟨oc,od,.func fd,sl⟩/\fd.code=.ref c/\W.codeHdIn K c P1=true/\K.lookup P1=none:=by
 unfold tabIn at h
 split at h
 ·rename_i f e1
  split at h
  ·rename_i oc od fd sl e2
   split at h
   ·rename_i c e3
    rw [QP] at h
    exact ⟨f,c,oc,od,fd,sl,e1,e2,e3,h.1,by simpa using h.2⟩
   ·cases h
  ·cases h
 ·cases h
theorem Dd {l:W.OpenLaw} {w:World} {K:W.Frag} {h:Heap} {mg:Str->Option Value} {fa c_NameLook q_PLAIN_KINDS:Addr} (X:K.In h) (G:h.Ns mainGlobals mg) (hfa:mg "law"=some (.ref fa))
  {Em El:Tok} {EE:Option Addr} {EN:Nat} {ED:Array (Option Value)}
  (Fv:W.nsIn K mainGlobals "NameLook"=some (some (.ref c_NameLook)))
  (g_ZL:FG K "least" "least" nZ ["mask"])
  (g_ZE:FG K "without" "without" n8 ["mask","other"])
  (g_ZJ:FG K "all_of" "all_of" oh ["pairs"])
  (g_Zo:FG K "kept_pairs" "kept_pairs" lF ["pairs","mask"])
  (g_ZK:FG K "add_to" "add_to" oi ["found","key","mask"])
  (g_Zp:FG K "with_masks" "with_masks" lG ["found"])
  (g_Zt:FG K "kept_tree" "kept_tree" lH ["tree","mask"])
  (g_Zg:FG K "kept_statement" "kept_statement" lI ["one","mask"])
  (g_Zh:FG K "row_and_least" "row_and_least" oj ["pair"])
  (g_Zu:FG K "shared_of" "shared_of" lJ ["tree"])
  (g_Zf:FG K "shared_statement" "shared_statement" lK ["one"])
  (g_Zv:FG K "blocks_of" "blocks_of" lL ["one"])
  (g_Zq:FG K "first_rows" "first_rows" ol ["tree"])
  (g_Zy:FG K "pairs_of" "pairs_of" om ["one"])
  (g_ZF:FG K "expr_of" "expr_of" oo ["one"])
  (g_Zz:FG K "exprs_in" "exprs_in" oq ["e"])
  (g_Zl:FG K "shared_names" "shared_names" ou ["tree","mask"])
  (g_Zm:FG K "plain_names" "plain_names" lM ["tree"])
  (g_Zn:FG K "_law_cell_at" "_law_cell_at" ow ["_law_script","_law_k"])
  (g_Zw:FG K "_law_mixed" "_law_mixed" ox ["_law_cell","_law_k"])
  (g_Zx:FG K "_law_names" "_law_names" lN ["_law_number"])
  (g_ZA:FG K "_law_expr" "_law_expr" lO ["_law_number","_law_names_here","_law_deep"])
  (g_ZB:FG K "_law_mask" "_law_mask" oy ["_law_number","_law_within"])
  (g_ZG:FG K "_law_low" "_law_low" oz ["_law_mask_here"])
  (g_Zr:FG K "_law_simple" "_law_simple" oA ["_law_number","_law_at","_law_names_here","_law_word"])
  (g_ZH:FG K "_law_def" "_law_def" lP ["_law_number","_law_at","_law_names_here"])
  (g_ZC:FG K "_law_rows" "_law_rows" iT ["_law_number","_law_at","_law_names_here","_law_stack"])
  (g_ZD:FG K "_law_tree" "_law_tree" oB ["_law_script","_law_full"])
  (g_ZI:FG K "_law_cut" "_law_cut" oC ["_law_block","_law_s"])
  (g_Zs:FG K "_law_sorted" "_law_sorted" oE ["_law_found","_law_rule"])
  (g_Zi:MG K c_NameLook "__init__" "NameLook.__init__" oF ["self","tree"])
  (g_Zj:MG K c_NameLook "note" "NameLook.note" oG ["self","mask","at","what","name"])
  (g_Za:MG K c_NameLook "look_twice" "NameLook.look_twice" oH ["self","tree"])
  (g_Zb:MG K c_NameLook "look_body" "NameLook.look_body" oI ["self","statements","given"])
  (g_Zd:MG K c_NameLook "look_def" "NameLook.look_def" jY ["self","mask","one"])
  (g_Zc:MG K c_NameLook "look_expr" "NameLook.look_expr" oJ ["self","mask","e","at","given"])
  (g_Ze:MG K c_NameLook "look_use" "NameLook.look_use" oK ["self","mask","e","at","word","missing"])
  (g_Zk:MG K c_NameLook "held" "NameLook.held" oM ["self","word","name"])
  (g_law:FG K "law" "law" lQ ["_law_script"])
  (Eg:W.plainGet K c_NameLook Str.empty=true)
  (Eh:W.hasDictIn K c_NameLook=true)
  (Ef:W.plainOver K c_NameLook=true)
  (Ee:W.findIn K (.ref c_NameLook) "__setattr__"=some (some (.builtin "object.__setattr__")))
  (Ft:W.makesIn K c_NameLook=true)
  (Fu:W.keepIn K (.ref c_NameLook)=true)
  (na_NameLook_faults:W.findIn K (.ref c_NameLook) "faults"=some none)
  (na_NameLook_firsts:W.findIn K (.ref c_NameLook) "firsts"=some none)
  (Fs:W.findIn K (.ref c_NameLook) "__class__"=some (some (.builtin "object.__class__")))
  (Fq:W.specialIn K (.builtin "object.__class__") "__get__"=some (some (.builtin "getset_descriptor.__get__")))
  (Fp:W.takesIn K (.builtin "object.__class__")=some true)
  (Fo:W.mroIn K c_NameLook (.type "object")=some true)
  (EQ:W.nsIn K mainGlobals "PLAIN_KINDS"=some (some (.ref q_PLAIN_KINDS)))
  (EO:K.lookup q_PLAIN_KINDS=some ⟨.type "tuple",EE,.seq #[.str "num" Em,.str "truth" El] EN,ED⟩)
  (z_len:W.nsIn K mainGlobals "len"=some none)
  (z_range:W.nsIn K mainGlobals "range"=some none)
  (z_list:W.nsIn K mainGlobals "list"=some none)
  (z_dict:W.nsIn K mainGlobals "dict"=some none)
  (z_tuple:W.nsIn K mainGlobals "tuple"=some none)
  (G7:W.nsIn K mainGlobals "sorted"=some none)
  (Fn:W.nsIn K mainGlobals "enumerate"=some none)
  (E5:W.nsIn K mainGlobals "isinstance"=some none)
  (z_int:W.nsIn K mainGlobals "int"=some none)
  (z_bool:W.nsIn K mainGlobals "bool"=some none)
  {P1:Addr} (tab:tabIn K "_law_rows" P1=true) :
  ∃ (fd:FuncData) (P1:Addr),(∀ (s:Shared) (v:Value),BindsTo s fd ⟨[v],[]⟩ [("_law_script",v)])/\K.lookup P1=none/\(∃ f c oc od fd sl,W.nsIn K mainGlobals "_law_rows"=some (some (.ref f))/\K.lookup f=some ⟨oc,od,.func fd,sl⟩/\fd.code=.ref c/\W.codeHdIn K c P1=true)/\∀ base:Heap,K.In base->base.Ns mainGlobals mg->BMain mg base->aF l.prog w K mg base aG 40 fa fd ["_law_script"] (ki K P1):=by
 refine bt fun _ γ=>?_
 obtain ⟨_,_,a_ZL,u_ZL⟩:=g_ZL
 obtain ⟨_,_,a_ZE,u_ZE⟩:=g_ZE
 obtain ⟨_,_,a_ZJ,u_ZJ⟩:=g_ZJ
 obtain ⟨_,_,a_Zo,u_Zo⟩:=g_Zo
 obtain ⟨_,_,a_ZK,u_ZK⟩:=g_ZK
 obtain ⟨_,_,a_Zp,u_Zp⟩:=g_Zp
 obtain ⟨_,_,a_Zt,u_Zt⟩:=g_Zt
 obtain ⟨_,_,a_Zg,u_Zg⟩:=g_Zg
 obtain ⟨_,_,a_Zh,u_Zh⟩:=g_Zh
 obtain ⟨_,_,a_Zu,u_Zu⟩:=g_Zu
 obtain ⟨_,_,a_Zf,u_Zf⟩:=g_Zf
 obtain ⟨_,_,a_Zv,u_Zv⟩:=g_Zv
 obtain ⟨_,_,a_Zq,u_Zq⟩:=g_Zq
 obtain ⟨_,_,a_Zy,u_Zy⟩:=g_Zy
 obtain ⟨_,_,a_ZF,u_ZF⟩:=g_ZF
 obtain ⟨_,_,a_Zz,u_Zz⟩:=g_Zz
 obtain ⟨_,_,a_Zl,u_Zl⟩:=g_Zl
 obtain ⟨_,_,a_Zm,u_Zm⟩:=g_Zm
 obtain ⟨_,_,a_Zn,u_Zn⟩:=g_Zn
 obtain ⟨_,_,a_Zw,u_Zw⟩:=g_Zw
 obtain ⟨_,_,a_Zx,u_Zx⟩:=g_Zx
 obtain ⟨_,_,a_ZA,u_ZA⟩:=g_ZA
 obtain ⟨_,_,a_ZB,u_ZB⟩:=g_ZB
 obtain ⟨_,_,a_ZG,u_ZG⟩:=g_ZG
 obtain ⟨_,_,a_Zr,u_Zr⟩:=g_Zr
 obtain ⟨_,_,a_ZH,u_ZH⟩:=g_ZH
 obtain ⟨_,_,a_ZC,u_ZC⟩:=g_ZC
 obtain ⟨_,_,a_ZD,u_ZD⟩:=g_ZD
 obtain ⟨_,_,a_ZI,u_ZI⟩:=g_ZI
 obtain ⟨_,_,a_Zs,u_Zs⟩:=g_Zs
 obtain ⟨_,_,a_Zi,i_Zi,u_Zi⟩:=g_Zi
 obtain ⟨_,_,a_Zj,i_Zj,u_Zj⟩:=g_Zj
 obtain ⟨_,_,a_Za,i_Za,u_Za⟩:=g_Za
 obtain ⟨_,_,a_Zb,i_Zb,u_Zb⟩:=g_Zb
 obtain ⟨_,_,a_Zd,i_Zd,u_Zd⟩:=g_Zd
 obtain ⟨_,_,a_Zc,i_Zc,u_Zc⟩:=g_Zc
 obtain ⟨_,_,a_Ze,i_Ze,u_Ze⟩:=g_Ze
 obtain ⟨_,_,a_Zk,i_Zk,u_Zk⟩:=g_Zk
 obtain ⟨_,_,a_law,u_law⟩:=g_law
 have e:=hfa.symm.trans (W.mg_of X G a_law)
 cases e
 refine γ ?_
 have T:All l.prog w K mg ⟨_,_,_,_,_,_,_,_,_,_,_,_,_,_,_,_,_,_,_,_,_,_,_,_,_,_,_,_,_,_,_,_,_,_,_,_,_,_,_,_⟩ ⟨_,_,_,_,_,_,_,_,_,_,_,_,_,_,_,_,_,_,_,_,_,_,_,_,_,_,_,_,_,_,_,_,_,_,_,_,_,_⟩:=⟨W.mg_of X G a_ZL,
  u_ZL.k,
  u_ZL.F,
  u_ZL.b,
  W.mg_of X G a_ZE,
  u_ZE.k,
  u_ZE.F,
  u_ZE.b,
  W.mg_of X G a_ZJ,
  u_ZJ.k,
  u_ZJ.F,
  u_ZJ.b,
  W.mg_of X G a_Zo,
  u_Zo.k,
  u_Zo.F,
  u_Zo.b,
  W.mg_of X G a_ZK,
  u_ZK.k,
  u_ZK.F,
  u_ZK.b,
  W.mg_of X G a_Zp,
  u_Zp.k,
  u_Zp.F,
  u_Zp.b,
  W.mg_of X G a_Zt,
  u_Zt.k,
  u_Zt.F,
  u_Zt.b,
  W.mg_of X G a_Zg,
  u_Zg.k,
  u_Zg.F,
  u_Zg.b,
  W.mg_of X G a_Zh,
  u_Zh.k,
  u_Zh.F,
  u_Zh.b,
  W.mg_of X G a_Zu,
  u_Zu.k,
  u_Zu.F,
  u_Zu.b,
  W.mg_of X G a_Zf,
  u_Zf.k,
  u_Zf.F,
  u_Zf.b,
  W.mg_of X G a_Zv,
  u_Zv.k,
  u_Zv.F,
  u_Zv.b,
  W.mg_of X G a_Zq,
  u_Zq.k,
  u_Zq.F,
  u_Zq.b,
  W.mg_of X G a_Zy,
  u_Zy.k,
  u_Zy.F,
  u_Zy.b,
  W.mg_of X G a_ZF,
  u_ZF.k,
  u_ZF.F,
  u_ZF.b,
  W.mg_of X G a_Zz,
  u_Zz.k,
  u_Zz.F,
  u_Zz.b,
  W.mg_of X G a_Zl,
  u_Zl.k,
  u_Zl.F,
  u_Zl.b,
  W.mg_of X G a_Zm,
  u_Zm.k,
  u_Zm.F,
  u_Zm.b,
  W.mg_of X G a_Zn,
  u_Zn.k,
  u_Zn.F,
  u_Zn.b,
  W.mg_of X G a_Zw,
  u_Zw.k,
  u_Zw.F,
  u_Zw.b,
  W.mg_of X G a_Zx,
  u_Zx.k,
  u_Zx.F,
  u_Zx.b,
  W.mg_of X G a_ZA,
  u_ZA.k,
  u_ZA.F,
  u_ZA.b,
  W.mg_of X G a_ZB,
  u_ZB.k,
  u_ZB.F,
  u_ZB.b,
  W.mg_of X G a_ZG,
  u_ZG.k,
  u_ZG.F,
  u_ZG.b,
  W.mg_of X G a_Zr,
  u_Zr.k,
  u_Zr.F,
  u_Zr.b,
  W.mg_of X G a_ZH,
  u_ZH.k,
  u_ZH.F,
  u_ZH.b,
  W.mg_of X G a_ZC,
  u_ZC.k,
  u_ZC.F,
  u_ZC.b,
  W.mg_of X G a_ZD,
  u_ZD.k,
  u_ZD.F,
  u_ZD.b,
  W.mg_of X G a_ZI,
  u_ZI.k,
  u_ZI.F,
  u_ZI.b,
  W.mg_of X G a_Zs,
  u_Zs.k,
  u_Zs.F,
  u_Zs.b,
  ⟨Ft,a_Zi,i_Zi,Fu⟩,
  u_Zi.k,
  u_Zi.F,
  u_Zi.b,
  ⟨a_Zj,i_Zj,u_Zj.k⟩,
  u_Zj.k,
  u_Zj.F,
  u_Zj.b,
  ⟨a_Za,i_Za,u_Za.k⟩,
  u_Za.k,
  u_Za.F,
  u_Za.b,
  ⟨a_Zb,i_Zb,u_Zb.k⟩,
  u_Zb.k,
  u_Zb.F,
  u_Zb.b,
  ⟨a_Zd,i_Zd,u_Zd.k⟩,
  u_Zd.k,
  u_Zd.F,
  u_Zd.b,
  ⟨a_Zc,i_Zc,u_Zc.k⟩,
  u_Zc.k,
  u_Zc.F,
  u_Zc.b,
  ⟨a_Ze,i_Ze,u_Ze.k⟩,
  u_Ze.k,
  u_Ze.F,
  u_Ze.b,
  ⟨a_Zk,i_Zk,u_Zk.k⟩,
  u_Zk.k,
  u_Zk.F,
  u_Zk.b,
  W.mg_of X G Fv,
  ⟨Eg,Eh,Ef,Ee⟩,
  na_NameLook_faults,
  na_NameLook_firsts,
  fun H a dx fs e=>.ins e ⟨Eg,Eh,Ef,Ee⟩ Fs Fq Fp Fo,
  yF _ _,
  W.mg_of X G EQ,
  fun H=>.inr ⟨_,_,_,EO,rfl,rfl,bL,.cons ⟨_,rfl⟩ (.cons ⟨_,rfl⟩ (.nil))⟩,
  W.mg_none_of X G z_len,
  W.mg_none_of X G z_range,
  W.mg_none_of X G z_list,
  W.mg_none_of X G z_dict,
  W.mg_none_of X G z_tuple,
  W.mg_none_of X G G7,
  W.mg_none_of X G Fn,
  W.mg_none_of X G E5,
  W.mg_none_of X G z_int,
  W.mg_none_of X G z_bool⟩
 obtain ⟨_,_,_,_,_,_,_,_,_,e,_⟩:=u_law.F.ex
 obtain ⟨f,c,oc,od,fd2,sl,t1,t2,t3,t4,t5⟩:=Dc tab
 have ef:=a_ZC.symm.trans t1
 cases ef
 obtain ⟨_,_,_,_,_,_,_,_,_,e2,lk2,_⟩:=u_ZC.F.ex
 have e3:=lk2.symm.trans t2
 have hc:_=Value.ref c:=(by cases e3;exact t3)
 exact ⟨_,P1,fun s v=>by rw [e];exact .of_eq rfl,t5,⟨_,c,oc,od,fd2,sl,t1,t2,t3,t4⟩,fun base kb _ bm=>Db T ⟨bm,c,hc,W.codeHd_of_K kb t4⟩ u_law.F⟩
theorem De {l:W.OpenLaw} {q:Program} {loose:List Str} {XP:(Str->Option Value)->Heap->Prop} {YP:World->Heap->Prop} {d:DefRec} {K:Params->W.Frag} (hn:l.most=some 63) (hdf:d.params.defaults=[]) (hx1:(PyProof.Rows.recsOf q).any (fun d=>d.name == ("_law_rows":Str))=true)
  (hY:∀ (w:World) (h:Heap),YP w h->(K w.params).In h)
  (F:∀ (w:World) (mg:Str->Option Value) (fa:Addr) (h:Heap),(K w.params).In h->h.Ns mainGlobals mg->mg d.name=some (.ref fa) ->
   ∃ (fd:FuncData) (P1:Addr),(∀ (s:Shared) (u:Value),BindsTo s fd ⟨[u],[]⟩ [("_law_script",u)])/\(K w.params).lookup P1=none/\(∃ f c oc od fd sl,W.nsIn (K w.params) mainGlobals "_law_rows"=some (some (.ref f))/\(K w.params).lookup f=some ⟨oc,od,.func fd,sl⟩/\fd.code=.ref c/\W.codeHdIn (K w.params) c P1=true)/\∀ base:Heap,(K w.params).In base->base.Ns mainGlobals mg->BMain mg base->aF l.prog w (K w.params) mg base aG 40 fa fd ["_law_script"] (ki (K w.params) P1)) :
  W.WalkO q loose XP YP l.row.toRowW d [] (fun f vs=>PySem.call f vs) :=
 L2.AI (n:=63) (k:=40) (x:="_law_script") (CX:=aG) (sp:=ki) "_law_rows" hn (by decide) hdf ⟨rfl,by decide,by decide⟩ hx1 hY F (fun _ _ _ a ns hl hS h1=>⟨a,ns,rfl,hS,hl,h1,fun _=>rfl⟩) fun _ _ _ _ z=>z
end K34
open PySem PySem.W PyProof.Rows
set_option maxRecDepth 100000 in
set_option maxHeartbeats 0 in
theorem PySem.Challenge.cw_manymakes_k34_shared_names_cut_holds : PySem.Challenge.rw_manymakes_k34_shared_names_cut.Holds := by
 rw [<- K34.rwe]
 w_on;o_law
 refine PySem.W.holds_open (r:=OpenLaw.row K34.rw) (q:=K34.vw) (loose:=[]) (Xt:=K34.xt) (XP:=XL K34.vw [])
  (Yf:=(kHook K34.pre.heap_1 K34.as K34.ase).obs) (Ya:=(kHook K34.pre.heap_1 K34.as K34.ase).val) (YP:=(kHook K34.pre.heap_1 K34.as K34.ase).says)
  (N:=2958) (show LeftO K34.pw _ _ _ _ _ _ from K34.pwe ▸ K34.left)
  ((kHook K34.pre.heap_1 K34.as K34.ase).of) ((kHook K34.pre.heap_1 K34.as K34.ase).keeps) (fun s e=>xl_of s (Mm.both_true e).1)
  (XL.keeps) (by rfl) (by rfl) (by rfl) (fun s e=>recFacts_of (Mm.both_true e).2)
  (by rfl) (by assumption) (by decide +kernel)
  ⟨rfl,rfl,rfl,rfl,rfl,by decide +kernel⟩ ?hw ?hc
 (case hw=>exact ⟨[.list []],by decide +kernel,by decide +kernel⟩)
 k_fill
 refine K34.De (l:=K34.rw) rfl rfl (by kernel_rfl) (fun w h Y=>(by first | exact PySem.W.kIn_of Y | exact PySem.W.km_in_of Y)) ?F
 case F =>
  intro w mg fa h KX G hmg
  apply K34.Dd (P1:=245) KX G hmg
  all_goals first | (apply K34.fg;k_is;apply K34.fb;k_is;k_is;k_is;intro us hl;(rcases us with _ | ⟨_,_ | ⟨_,_ | ⟨_,_ | ⟨_,_ | ⟨_,_ | ⟨_,_ | _⟩⟩⟩⟩⟩⟩)<;>first | (simp at hl;done) | rfl) | (apply K34.mg;k_is;k_is;apply K34.fb;k_is;k_is;k_is;intro us hl;(rcases us with _ | ⟨_,_ | ⟨_,_ | ⟨_,_ | ⟨_,_ | ⟨_,_ | ⟨_,_ | _⟩⟩⟩⟩⟩⟩)<;>first | (simp at hl;done) | rfl) | (apply K34.dg;k_is;k_is;all_goals first | rfl | decide +kernel) | k_is | kernel_rfl
