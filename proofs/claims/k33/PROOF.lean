import PyProof.Rows.All
import Wide.All
import OpenK.AllK
import Wide.FinOn
import Lean
import PyProof.EqAt
import PyProof.EqKinds
import PyProof.TupleCall
import PyProof.Rows.BitMore
import KE.IntBitsLaws
import KE.KRevIter
import KE.KTryMore
import PyProof.StrLawsRepr
import KE.KIsAll
import KE.RegKIsAll
import KE.RegKTryMore
import PyProof.StrCalls2
import PyProof.StrLawsTight
import PyProof.StrLawsChain
import PyProof.Rows.StrItems
import PyProof.Rows.StrWeight2
import PyProof.EnumMake
import PyProof.EnumStmt
import PyProof.Rows.EnumRows
import PyProof.Rows.ZipGen
import PyProof.Rows.FactsT2
import PyProof.IsiH_list
import PyProof.AttrMiss
import KE.KDictOf
import PyProof.IsiH_tuple
import PyProof.Rows.EqDataRows
import PyProof.P3Eq
import PyProof.Rows.SortRev
import KE.KSortTup
import PyProof.StrWalks
import KE.KIntText
import KE.IntTextLaws
import PyProof.CallStr
import KE.KDictSum
import PySem.SetTable
import PyProof.Rows.SetFrom
import PySem.Challenge.RW_manymakes_k33_whole_plain_names
set_option Elab.async false
set_option maxRecDepth 100000
set_option linter.all false
set_option maxHeartbeats 4000000
section
open PySem PySem.Spec PyProof.Rows PySem.W
theorem cP:0<=sizeLine:=by decide
theorem eM:1<=sizeLine:=by decide
theorem bZ:2<=sizeLine:=by decide
theorem cQ:3<=sizeLine:=by decide
theorem mh:4<=sizeLine:=by decide
theorem Qa:type_of% @List.getElem?_eq_getElem:=@List.getElem?_eq_getElem
theorem Qb:type_of% @wpAny_bind:=@wpAny_bind
theorem Qc{α:Type _}{l:List α}{i:Nat}{a:α}(h:l[i]?=some a):∃h:i<l.length,l[i]=a:=List.getElem?_eq_some_iff.mp h
theorem Qd:type_of% @wpAny_pure:=@wpAny_pure
theorem Qe:type_of% @Heap.get?_push_of_some:=@Heap.get?_push_of_some
theorem Qf:type_of% @List.length_map:=@List.length_map
theorem Qg:type_of% @List.getD_eq_getElem?_getD:=@List.getD_eq_getElem?_getD
theorem Qh:type_of% @Nat.le_refl:=@Nat.le_refl
theorem Qi:type_of% @decide_eq_false:=@decide_eq_false
theorem Qj:type_of% @List.getElem?_map:=@List.getElem?_map
theorem Qk:type_of% @List.mem_of_getElem?:=@List.mem_of_getElem?
theorem Ql:type_of% @List.getElem?_append_left:=@List.getElem?_append_left
theorem Qm:type_of% @List.take_succ_eq_append_getElem:=@List.take_succ_eq_append_getElem
theorem Qn{α:Type _}{l:List α}{a b:α}(h:a∈b::l):a=b∨a∈l:=List.mem_cons.mp h
theorem Qo:type_of% @Option.some.inj:=@Option.some.inj
theorem Qp{α:Type _}{a b:α}(h:a∈[b]):a=b:=List.mem_singleton.mp h
theorem Qq{α:Type _}{l r:List α}{a:α}(h:a∈l++r):a∈l∨a∈r:=List.mem_append.mp h
theorem Qr:type_of% @List.length_append:=@List.length_append
theorem Qs:type_of% @List.getElem?_append_right:=@List.getElem?_append_right
theorem Qt:type_of% @List.size_toArray:=@List.size_toArray
theorem Qu:type_of% @Heap.get?_push_size:=@Heap.get?_push_size
theorem Qv:type_of% @decide_eq_true:=@decide_eq_true
theorem Qw:type_of% @Heap.lt_size:=@Heap.lt_size
theorem Qx:type_of% @List.length_take:=@List.length_take
theorem Qy:type_of% @List.append_nil:=@List.append_nil
theorem Qz:type_of% @Nat.lt_of_le_of_lt:=@Nat.lt_of_le_of_lt
theorem QA:type_of% @List.mem_cons_of_mem:=@List.mem_cons_of_mem
theorem QB:type_of% @Array.length_toList:=@Array.length_toList
theorem QC:type_of% @Nat.zero_le:=@Nat.zero_le
theorem QD:type_of% @List.take_of_length_le:=@List.take_of_length_le
theorem QE:type_of% @List.mem_append_right:=@List.mem_append_right
theorem QF:type_of% @Nat.ne_of_lt:=@Nat.ne_of_lt
theorem QG:type_of% @Bool.false_ne_true:=@Bool.false_ne_true
theorem QH:type_of% @List.mem_cons_self:=@List.mem_cons_self
theorem QI{α β:Type _}{f:α->β}{l:List α}{b:β}(h:b∈l.map f):∃a,a∈l∧f a=b:=List.mem_map.mp h
theorem QJ:type_of% @of_decide_eq_true:=@of_decide_eq_true
theorem QK:type_of% @Nat.le_trans:=@Nat.le_trans
theorem QL:type_of% @List.map_append:=@List.map_append
theorem QM:type_of% @List.length_cons:=@List.length_cons
theorem QN:type_of% @List.append_assoc:=@List.append_assoc
theorem QO:type_of% @Nat.lt_of_lt_of_le:=@Nat.lt_of_lt_of_le
theorem QP:type_of% @Array.toList_append:=@Array.toList_append
theorem QQ:type_of% @List.getElem_mem:=@List.getElem_mem
theorem QR:type_of% @Bool.false_eq_true:=@Bool.false_eq_true
theorem QS:type_of% @Bool.and_eq_true:=@Bool.and_eq_true
theorem QT:type_of% @Nat.le_of_lt:=@Nat.le_of_lt
theorem QU:type_of% @Int.toNat_natCast:=@Int.toNat_natCast
theorem QV:type_of% @List.take_length:=@List.take_length
theorem QW:type_of% @wpAny_mono:=@wpAny_mono
theorem QX:type_of% @List.map_map:=@List.map_map
theorem QY:type_of% @Heap.get?_update_ne:=@Heap.get?_update_ne
theorem QZ:type_of% @List.map_congr_left:=@List.map_congr_left
end
section
open PySem PySem.W
noncomputable def Mm.hdTr{α:Type}(_:α):Prop:=True
noncomputable def Mm.hdPk{α:Type}(s:α)(_:Mm.hdTr s):α:=s
theorem Mm.hdOf{α:Type}{a s:α}(_:a=s):Mm.hdTr s:=trivial
abbrev K33.g(i:Nat):Stmt:=PySem.Challenge.pw_manymakes_k33_whole_plain_names.main.body.getD i (Stmt.Pass ⟨0,0,0,0⟩)
noncomputable def K33.t0:Stmt:=Mm.hdPk (Stmt.Assign _ _ _) (Mm.hdOf (a:=K33.g 0) rfl)
noncomputable def K33.t1:Stmt:=Mm.hdPk (Stmt.FunctionDef _ _ _ _ _ _ _ _ _ _) (Mm.hdOf (a:=K33.g 1) rfl)
noncomputable def K33.t2:Stmt:=Mm.hdPk (Stmt.FunctionDef _ _ _ _ _ _ _ _ _ _) (Mm.hdOf (a:=K33.g 2) rfl)
noncomputable def K33.t3:Stmt:=Mm.hdPk (Stmt.FunctionDef _ _ _ _ _ _ _ _ _ _) (Mm.hdOf (a:=K33.g 3) rfl)
noncomputable def K33.t4:Stmt:=Mm.hdPk (Stmt.FunctionDef _ _ _ _ _ _ _ _ _ _) (Mm.hdOf (a:=K33.g 4) rfl)
noncomputable def K33.t5:Stmt:=Mm.hdPk (Stmt.FunctionDef _ _ _ _ _ _ _ _ _ _) (Mm.hdOf (a:=K33.g 5) rfl)
noncomputable def K33.t6:Stmt:=Mm.hdPk (Stmt.FunctionDef _ _ _ _ _ _ _ _ _ _) (Mm.hdOf (a:=K33.g 6) rfl)
noncomputable def K33.t7:Stmt:=Mm.hdPk (Stmt.Assign _ _ _) (Mm.hdOf (a:=K33.g 7) rfl)
noncomputable def K33.t8:Stmt:=Mm.hdPk (Stmt.FunctionDef _ _ _ _ _ _ _ _ _ _) (Mm.hdOf (a:=K33.g 8) rfl)
noncomputable def K33.t9:Stmt:=Mm.hdPk (Stmt.FunctionDef _ _ _ _ _ _ _ _ _ _) (Mm.hdOf (a:=K33.g 9) rfl)
noncomputable def K33.t10:Stmt:=Mm.hdPk (Stmt.FunctionDef _ _ _ _ _ _ _ _ _ _) (Mm.hdOf (a:=K33.g 10) rfl)
noncomputable def K33.t11:Stmt:=Mm.hdPk (Stmt.FunctionDef _ _ _ _ _ _ _ _ _ _) (Mm.hdOf (a:=K33.g 11) rfl)
noncomputable def K33.t12:Stmt:=Mm.hdPk (Stmt.FunctionDef _ _ _ _ _ _ _ _ _ _) (Mm.hdOf (a:=K33.g 12) rfl)
noncomputable def K33.t13:Stmt:=Mm.hdPk (Stmt.FunctionDef _ _ _ _ _ _ _ _ _ _) (Mm.hdOf (a:=K33.g 13) rfl)
noncomputable def K33.t14:Stmt:=Mm.hdPk (Stmt.Assign _ _ _) (Mm.hdOf (a:=K33.g 14) rfl)
noncomputable def K33.t15:Stmt:=Mm.hdPk (Stmt.Assign _ _ _) (Mm.hdOf (a:=K33.g 15) rfl)
noncomputable def K33.t16:Stmt:=Mm.hdPk (Stmt.ClassDef _ _ _ _ _ _ _ _ _ _ _) (Mm.hdOf (a:=K33.g 16) rfl)
noncomputable def K33.t17:Stmt:=Mm.hdPk (Stmt.FunctionDef _ _ _ _ _ _ _ _ _ _) (Mm.hdOf (a:=K33.g 17) rfl)
noncomputable def K33.t18:Stmt:=Mm.hdPk (Stmt.FunctionDef _ _ _ _ _ _ _ _ _ _) (Mm.hdOf (a:=K33.g 18) rfl)
noncomputable def K33.t19:Stmt:=Mm.hdPk (Stmt.FunctionDef _ _ _ _ _ _ _ _ _ _) (Mm.hdOf (a:=K33.g 19) rfl)
noncomputable def K33.t20:Stmt:=Mm.hdPk (Stmt.FunctionDef _ _ _ _ _ _ _ _ _ _) (Mm.hdOf (a:=K33.g 20) rfl)
noncomputable def K33.t21:Stmt:=Mm.hdPk (Stmt.FunctionDef _ _ _ _ _ _ _ _ _ _) (Mm.hdOf (a:=K33.g 21) rfl)
noncomputable def K33.t22:Stmt:=Mm.hdPk (Stmt.FunctionDef _ _ _ _ _ _ _ _ _ _) (Mm.hdOf (a:=K33.g 22) rfl)
noncomputable def K33.t23:Stmt:=Mm.hdPk (Stmt.Assign _ _ _) (Mm.hdOf (a:=K33.g 23) rfl)
noncomputable def K33.t24:Stmt:=Mm.hdPk (Stmt.FunctionDef _ _ _ _ _ _ _ _ _ _) (Mm.hdOf (a:=K33.g 24) rfl)
noncomputable def K33.t25:Stmt:=Mm.hdPk (Stmt.FunctionDef _ _ _ _ _ _ _ _ _ _) (Mm.hdOf (a:=K33.g 25) rfl)
noncomputable def K33.t26:Stmt:=Mm.hdPk (Stmt.FunctionDef _ _ _ _ _ _ _ _ _ _) (Mm.hdOf (a:=K33.g 26) rfl)
noncomputable def K33.t27:Stmt:=Mm.hdPk (Stmt.FunctionDef _ _ _ _ _ _ _ _ _ _) (Mm.hdOf (a:=K33.g 27) rfl)
noncomputable def K33.t28:Stmt:=Mm.hdPk (Stmt.FunctionDef _ _ _ _ _ _ _ _ _ _) (Mm.hdOf (a:=K33.g 28) rfl)
noncomputable def K33.t29:Stmt:=Mm.hdPk (Stmt.FunctionDef _ _ _ _ _ _ _ _ _ _) (Mm.hdOf (a:=K33.g 29) rfl)
noncomputable def K33.t30:Stmt:=Mm.hdPk (Stmt.FunctionDef _ _ _ _ _ _ _ _ _ _) (Mm.hdOf (a:=K33.g 30) rfl)
noncomputable def K33.t31:Stmt:=Mm.hdPk (Stmt.FunctionDef _ _ _ _ _ _ _ _ _ _) (Mm.hdOf (a:=K33.g 31) rfl)
noncomputable def K33.t32:Stmt:=Mm.hdPk (Stmt.FunctionDef _ _ _ _ _ _ _ _ _ _) (Mm.hdOf (a:=K33.g 32) rfl)
noncomputable def K33.t33:Stmt:=Mm.hdPk (Stmt.FunctionDef _ _ _ _ _ _ _ _ _ _) (Mm.hdOf (a:=K33.g 33) rfl)
noncomputable def K33.t34:Stmt:=Mm.hdPk (Stmt.FunctionDef _ _ _ _ _ _ _ _ _ _) (Mm.hdOf (a:=K33.g 34) rfl)
noncomputable def K33.t35:Stmt:=Mm.hdPk (Stmt.FunctionDef _ _ _ _ _ _ _ _ _ _) (Mm.hdOf (a:=K33.g 35) rfl)
noncomputable def K33.t36:Stmt:=Mm.hdPk (Stmt.FunctionDef _ _ _ _ _ _ _ _ _ _) (Mm.hdOf (a:=K33.g 36) rfl)
noncomputable def K33.t37:Stmt:=Mm.hdPk (Stmt.FunctionDef _ _ _ _ _ _ _ _ _ _) (Mm.hdOf (a:=K33.g 37) rfl)
noncomputable def K33.t38:Stmt:=Mm.hdPk (Stmt.FunctionDef _ _ _ _ _ _ _ _ _ _) (Mm.hdOf (a:=K33.g 38) rfl)
noncomputable def K33.t39:Stmt:=Mm.hdPk (Stmt.FunctionDef _ _ _ _ _ _ _ _ _ _) (Mm.hdOf (a:=K33.g 39) rfl)
noncomputable def K33.t40:Stmt:=Mm.hdPk (Stmt.FunctionDef _ _ _ _ _ _ _ _ _ _) (Mm.hdOf (a:=K33.g 40) rfl)
noncomputable def K33.sc:Scope:=Mm.hdPk (Scope.mk _ _ _ _ _) (Mm.hdOf (a:=PySem.Challenge.pw_manymakes_k33_whole_plain_names.main.scope) rfl)
noncomputable def K33.pw:Program:=Mm.hdPk (Program.mk (Module.mk (K33.t0::K33.t1::K33.t2::K33.t3::K33.t4::K33.t5::K33.t6::K33.t7::K33.t8::K33.t9::K33.t10::K33.t11::K33.t12::K33.t13::K33.t14::K33.t15::K33.t16::K33.t17::K33.t18::K33.t19::K33.t20::K33.t21::K33.t22::K33.t23::K33.t24::K33.t25::K33.t26::K33.t27::K33.t28::K33.t29::K33.t30::K33.t31::K33.t32::K33.t33::K33.t34::K33.t35::K33.t36::K33.t37::K33.t38::K33.t39::K33.t40::List.nil) K33.sc _ _ _) _ _ _ _ _) (Mm.hdOf (a:=PySem.Challenge.pw_manymakes_k33_whole_plain_names) rfl)
noncomputable def K33.rw:OpenLaw:=Mm.hdPk {prog:=K33.pw,name:=_,about:=_,foot:=_,most:=_,bound:=_,writes:=_} (Mm.hdOf (a:=PySem.Challenge.rw_manymakes_k33_whole_plain_names) rfl)
theorem K33.rwe:K33.rw=PySem.Challenge.rw_manymakes_k33_whole_plain_names:=rfl
end
section
open PySem PySem.W PyProof.Rows
theorem K33.pwe:PySem.Challenge.pw_manymakes_k33_whole_plain_names=K33.pw:=rfl
noncomputable def K33.vw:Program:={K33.pw with main:={K33.pw.main with body:=K33.t1::K33.t2::K33.t3::K33.t4::K33.t5::K33.t6::K33.t8::K33.t9::K33.t10::K33.t11::K33.t12::K33.t13::K33.t14::K33.t16::K33.t17::K33.t18::K33.t19::K33.t20::K33.t21::K33.t22::K33.t24::K33.t25::K33.t26::K33.t27::K33.t28::K33.t29::K33.t30::K33.t31::K33.t32::K33.t33::K33.t34::K33.t35::K33.t36::K33.t37::K33.t38::K33.t39::K33.t40::List.nil} }
theorem Mm.keepIt(_:Hook){p:Prop}(h:p):p:=h
section
local macro_rules | `(tactic| o_head $H)=>`(tactic| exact Mm.keepIt $H (by assumption))
set_option maxHeartbeats 0 in
theorem K33.pre(h:(OpenLaw.row PySem.Challenge.rw_manymakes_k33_whole_plain_names).Holds):(OpenLaw.row PySem.Challenge.rw_manymakes_k33_whole_plain_names).Holds:=by k_head
end
def K33.as:List Addr:=[2,3,15,17,18,20,21,22,24,25,27,28,29,31,32,34,35,36,39,40,41,43,44,46,47,48,51,52,53,56,57,58,61,62,63,65,66,68,69,70,73,74,75,78,79,80,83,84,85,93,95,96,98,99,100,102,103,105,106,107,109,110,112,113,114,116,117,119,120,121,124,125,126,128,129,131,132,133,135,136,138,139,140,142,143,145,146,147,148,149,150,151,154,156,157,159,160,161,163,164,166,167,168,170,171,173,174,175,177,178,180,181,182,184,185,187,188,189,192,193,194,196,197,199,200,201,203,204,206,207,208,210,211,213,214,215,217,218,220,221,222,225,226,227,229,230,232,233,234,237,238,239,241,242,244,245,246,249,250,251,254,255,256,258,259,261,262,263,265,266,268,269,270,272,273,275,276,277,279,280,282,283,284,286,287,289,290,291,294,295,296,298,299,301,302]
theorem K33.ase(P:Params):K33.as=(K33.pre.heap_1 P).map (·.1):=by kernel_rfl
theorem Mm.both_true{a b:Bool}(h:(a&&b)=true):a=true/\b=true:=by cases a<;>cases b<;>simp_all
noncomputable abbrev K33.xt:Shared->Bool:=λs=>(xlAt K33.vw [] s)&&(recOk (RowW.records (OpenRow.toRowW (OpenLaw.row K33.rw))) s)
noncomputable def K33.oe(w:World):Option Shared:=
 (importEnds treeTable (opening K33.pw) w 3206 (start (opening K33.pw)).1 (start (opening K33.pw)).2).bind λs=>(fenceModules? K33.pw s).bind λs₀ =>
 match s₀.heap.isNs mainGlobals&&s₀.gens.size==0 with
 | true=>(topRun treeTable K33.pw w s₀.heap.objs.size (s₀.heap.nsMap mainGlobals "__annotations__") 3206 s₀ (topStub K33.pw)).bind fun s₁=>match staticsOk (importedModules K33.pw.main.body) s₀.heap s₁.heap&&namesBound K33.pw s₁.heap&&gensDone s₁&&laidKept s₀.heap s₁.heap with
   |true=>some s₁
   |false=>none
 |false=>none
theorem Mm.bindAss{α β γ:Type}(o:Option α)(f:α->Option β)(g:β->Option γ):(o.bind f).bind g=o.bind λs=>(f s).bind g:=by cases o<;>rfl
theorem K33.oe_eq(w:World):openEnds treeTable PySem.Challenge.pw_manymakes_k33_whole_plain_names w 3206=K33.oe w:=by rw[K33.pwe];show((importEnds _ _ _ _ _ _).bind _).bind _=_;rw[Mm.bindAss];rfl
noncomputable def K33.ga(w:World):=Option.map (openSeen K33.vw [] (importedModules K33.pw.main.body) K33.xt true) (K33.oe w)
noncomputable def K33.gb:=some (openGood K33.vw [])
noncomputable def K33.oa(w:World):Option (List (Option Obj)):=Option.map (λs=>K33.as.map s.heap.get?) (K33.oe w)
def Mm.hdTt{α:Type}(_:α):Bool:=true
theorem K33.lay1:Mm.hdTt K33.ga=true:=by k_qdec
theorem K33.lay2:Mm.hdTt K33.gb=true:=by k_qdec
theorem K33.lay3:Mm.hdTt K33.oa=true:=by k_qdec
theorem K33.la(w:World):PySem.W.Fast.tw5610420362240083251 w=PySem.W.Fast.tw10674082313077891005:=by kernel_rfl
theorem K33.lb(w:World):PySem.W.Fast.tw9537304844248983272 w=some ((K33.pre.heap_1 w.params).map λp=>some p.2):=by kernel_rfl
theorem Mm.twoM{α β γ:Type}{o:Option α}{f:α->β}{g:α->γ}{b:β}{c:γ}(h1:o.map f=some b)(h2:o.map g=some c):o.map (λs=>(f s,g s))=some (b,c):=by
 cases o with
 |none=>cases h1
 |some s =>
  have h1:=Qo h1;have h2:=Qo h2;show some (f s,g s)=_;rw[h1,h2]
theorem K33.left:LeftO PySem.Challenge.pw_manymakes_k33_whole_plain_names K33.vw [] K33.xt (kHook K33.pre.heap_1 K33.as K33.ase).obs (kHook K33.pre.heap_1 K33.as K33.ase).val 3206:=λw=>by rw[K33.oe_eq];exact Mm.twoM ((congrFun PySem.W.Fast.te5610420362240083251 w).trans ((K33.la w).trans PySem.W.Fast.te10674082313077891005.symm)) ((congrFun PySem.W.Fast.te9537304844248983272 w).trans (K33.lb w))
end
namespace L2
open PySem PySem.Spec PyProof.Rows
abbrev af:=Sum Int Str
noncomputable def io:af->Value->Bool
 |.inl k,v=>Value.isInt k v
 |.inr x,v=>Value.isStrOf x v
noncomputable def xw(w:World):af->Int
 |.inl k=>hashInt k
 |.inr x=>hashStr w x
theorem fk:∀{k:af} {v:Value},io k v=true->(∃i t,k=Sum.inl i/\v=Value.int i t)∨(∃x t,k=Sum.inr x/\v=Value.str x t)
 |.inl i,v,h=>by obtain⟨t,e⟩:=Value.isInt_shape (k:=i) (v:=v) h;exact .inl ⟨i,t,rfl,e⟩
 |.inr x,v,h=>by obtain⟨t,e⟩:=Value.isStrOf_shape (x:=x) (v:=v) h;exact .inr ⟨x,t,rfl,e⟩
theorem xx(i:Int)(t:Tok):io (.inl i) (.int i t)=true:=by simp[io,Value.isInt]
theorem xy(x:Str)(t:Tok):io (.inr x) (.str x t)=true:=by simp[io,Value.isStrOf]
theorem xz(a b:Int):decide ((Sum.inl a:af)=Sum.inl b)=(a==b):=by
 by_cases e:a=b
 ·subst e;simp
 ·have h:¬(Sum.inl a:af)=Sum.inl b:=λq=>e (Sum.inl.inj q);rw[Qi h];exact(beq_eq_false_iff_ne.mpr e).symm
theorem xA(a b:Str):decide ((Sum.inr a:af)=Sum.inr b)=decide (a=b):=by
 by_cases e:a=b
 ·subst e;simp
 ·have h:¬(Sum.inr a:af)=Sum.inr b:=λq=>e (Sum.inr.inj q);rw[Qi h,Qi e]
theorem xB(a:Int)(b:Str):decide ((Sum.inl a:af)=Sum.inr b)=false:=Qi (λq=>nomatch q)
theorem xC(a:Str)(b:Int):decide ((Sum.inr a:af)=Sum.inl b)=false:=Qi (λq=>nomatch q)
noncomputable def bF(prog:Program)(w:World):PySem.KeyKind prog w af where
 is:=io
 hash:=xw w
 inj:=λv a b ha hb=>by
  rcases fk ha with ⟨i,t,rfl,rfl⟩|⟨x,t,rfl,rfl⟩
  ·rcases fk hb with ⟨j,u,rfl,e⟩|⟨y,u,rfl,e⟩
   ·injection e with e1 _;rw[e1]
   ·exact nomatch e
  ·rcases fk hb with ⟨j,u,rfl,e⟩|⟨y,u,rfl,e⟩
   ·exact nomatch e
   ·injection e with e1 _;rw[e1]
 byValue:=λk v h=>by rcases fk h with ⟨i,t,rfl,rfl⟩|⟨x,t,rfl,rfl⟩<;>rfl
 pyHash:=λhv h=>by
  rcases fk hv with ⟨i,t,rfl,rfl⟩|⟨x,t,rfl,rfl⟩
  ·exact wpAny_pyHash_int h
  ·exact wpAny_pyHash_str h
 eqBool:=λhu hv h=>by
  rcases fk hu with ⟨i,t,rfl,rfl⟩|⟨x,t,rfl,rfl⟩
  ·rcases fk hv with ⟨j,u,rfl,rfl⟩|⟨y,u,rfl,rfl⟩
   ·rw[xz] at h;exact wpAny_eqBool_int h
   ·rw[xB] at h;exact SeqAt.EqAt.int_str i t y u _ _ _ _ h
  ·rcases fk hv with ⟨j,u,rfl,rfl⟩|⟨y,u,rfl,rfl⟩
   ·rw[xC] at h;exact SeqAt.EqAt.str_int x t j u _ _ _ _ h
   ·rw[xA] at h;exact wpAny_eqBool_str h
 «strs»:=λk x t v h=>by
  rcases fk h with ⟨i,u,rfl,e⟩|⟨y,u,rfl,e⟩
  ·exact nomatch e
  ·injection e with e1 _;subst e1;cases v<;>rfl
theorem pP(prog:Program)(w:World)(i:Int)(t:Tok):(bF prog w).is (.inl i) (.int i t)=true:=xx i t
theorem pQ(prog:Program)(w:World)(x:Str)(t:Tok):(bF prog w).is (.inr x) (.str x t)=true:=xy x t
inductive V where
 |non|bl (b:Bool)|int (i:Int)|str (x:Str)|byt (b:Array UInt8)|flt (b:UInt64)|ref (a:Addr)|ty (n:String)
 deriving DecidableEq
def RelV:V->Value->Prop
 |.non,u=>u=Value.none
 |.bl b,u=>u=Value.bool b
 |.int i,u=>∃t,u=Value.int i t
 |.str x,u=>∃t,u=Value.str x t
 |.byt b,u=>∃t,u=Value.bytes b t
 |.flt b,u=>∃t,u=Value.float b t
 |.ref a,u=>u=Value.ref a
 |.ty n,u=>u=Value.type n
abbrev aw:List V->List Value->Prop:=Paired RelV
theorem aw.length{xs:List V}{us:List Value}(r:aw xs us):xs.length=us.length:=Paired.length r
theorem aw.get:∀{xs:List V} {us:List Value} {i:Nat} {x:V},aw xs us->xs[i]?=some x->∃u,us[i]?=some u/\RelV x u
 |_,_,_,_,.nil,e=>by simp at e
 |_,_,0,_,.cons r _,e=>by simp at e;subst e;exact⟨_,rfl,r⟩
 |_,_,i+1,x,.cons _ t,e=>by obtain⟨u,h1,h2⟩:=aw.get (i:=i) (x:=x) t (by simpa using e);exact⟨u,by simpa using h1,h2⟩
theorem aw.append:∀{xs ys:List V} {us ws:List Value},aw xs us->aw ys ws->aw (xs++ys) (us++ws)
 |_,_,_,_,.nil,s=>s
 |_,_,_,_,.cons r t,s=>.cons r (aw.append t s)
theorem aw.take:∀{xs:List V} {us:List Value} (n:Nat),aw xs us->aw (xs.take n) (us.take n)
 |_,_,0,_=>.nil
 |_,_,_+1,.nil=>.nil
 |_,_,n+1,.cons r t=>.cons r (aw.take n t)
theorem aw.drop:∀{xs:List V} {us:List Value} (n:Nat),aw xs us->aw (xs.drop n) (us.drop n)
 |_,_,0,r=>r
 |_,_,_+1,.nil=>.nil
 |_,_,n+1,.cons _ t=>aw.drop n t
def cX:Option V->Option Value->Prop
 |some v,some u=>RelV v u
 |none,none=>True
 |_,_=>False
def KV{κ:Type}:List (κ×V)->List (κ×Value)->Prop:=Paired λ(p:κ×V) (q:κ×Value)=>p.1=q.1/\RelV p.2 q.2
noncomputable def kV:af->V
 |.inl i=>.int i
 |.inr x=>.str x
inductive HO where
 |lst (xs:List V)
 |tup (xs:List V)
 |dK (ES:List (af×V))|dT (ES:List (List af×V))
 |set (S:Int->Bool) (n:Nat)
 |ins (C dx:Addr) (fs:List (Str×V))
 |own (x:Addr)
 |xd (fs:List (Str×V))
 |met (f x:Addr)
 |rng (lo hi:Int)
 |frz (o:Obj) (u:HO)
 |tbl (ps:Array Value)
 |ext (φ:Heap->Prop)
abbrev Hp:=Addr->Option HO
noncomputable def upd(H:Hp)(a:Addr)(o:HO):Hp:=λb=>if b=a then some o else H b
theorem ah{H:Hp}{a:Addr}{o:HO}:upd H a o a=some o:=by unfold upd;rw[if_pos rfl]
theorem aE{H:Hp}{a b:Addr}{o:HO}(h:b≠a):upd H a o b=H b:=by unfold upd;rw[if_neg h]
theorem xD{H:Hp}{a:Addr}{o u:HO}:upd (upd H a o) a u=upd H a u:=by funext b;unfold upd;split<;>rfl
theorem xE{H:Hp}{a b:Addr}{o u:HO}(h:H a=some o)(h':H b=some u)(d:o≠u):a≠b:=by intro e;subst e;rw[h] at h';exact d (Qo h')
theorem fR{H:Hp}{a b:Addr}{o:HO}(h:H a=some o)(h':H b=none):a≠b:=by intro e;subst e;rw[h] at h';cases h'
def ip(h:Heap)(a:Addr):Prop:=∃o:Obj,h.get? a=some o/\o.dict=none
theorem ip.new(h:Heap)(items:Array Value):ip (h.push {cls:=.type "tuple",data:=.seq items}) h.objs.size:=⟨_,Qu _ rfl,rfl⟩
section
variable (P:Program)(w:World)
def bI(H:Hp)(h:Heap)(a:Addr):HO->Prop
 |.lst xs=>xs.length<=sizeLine/\∃(its:List Value) (n:Nat),aw xs its/\h.get? a=some {cls:=.type "list",data:=.seq its.toArray n}
 |.tup xs=>xs.length<=sizeLine/\∃its:List Value,aw xs its/\IsTup h a its.toArray/\ip h a
 |.dK ES=>ES.length<=sizeLine/\(a==sysModules)=false/\∃vs,KV ES vs/\h.DictOf (bF P w) a vs
 | .dT ES=>ES.length<=sizeLine/\(a == sysModules)=false/\∃ xs:List (List af × Addr × Value),
   Paired (λ(p:List af×V) (q:List af×Addr×Value)=>p.1=q.1/\H q.2.1=some (.tup (p.1.map kV))/\RelV p.2 q.2.2) ES xs /\
   ∃o es ep,h.get? a=some o/\o.ExactDict/\o.data=.dict es ep/\es.toList=xs.map (entryOfKey (tupleKind (bF P w)))/\(xs.map (·.1)).Nodup
 |.set S n=>h.SetOf (intKind P w) a S n
 | .ins C dx fs=>H dx=some (.own a)/\fs.length<=1000/\dx≠a/\h.get? a=some (PySem.W.instObj C dx) /\
   ∃mA,h.Ns1 dx mA/\(∀f,cX (fs.lookup f) (mA f))/\PySem.Within mA (fs.map (·.1))
 |.own _=>∃o,h.get? a=some o
 |.xd fs=>∃mA,h.Ns1 a mA/\∀f,cX (fs.lookup f) (mA f)
 |.rng lo hi=>∃t u v,h.get? a=some {cls:=.type "range",data:=.fields #[.int lo t,.int hi u,.int 1 v]}
 |.frz o u=>h.get? a=some o/\bI H h a u
 |.tbl ps=>h.get? a=some {cls:=.none,data:=.fields ps}
 |.met f x=>h.get? a=some (PySem.W.methodObj (.ref f) (.ref x))
 |.ext φ=>φ h/\(∃o,h.get? a=some o)/\∀h1 h2:Heap,φ h1->(∀o,h1.get? a=some o->h2.get? a=some o)->φ h2
def bG(H:Hp)(h:Heap):Prop:=∀a o,H a=some o->bI P w H h a o
end
section
variable {P:Program}{w:World}{H H':Hp}{h h':Heap}{a:Addr}{o:HO}
theorem bI.lt(x:bI P w H h a o):a<h.objs.size:=by
 cases o with
 |lst xs=>obtain⟨_,_,_,_,e⟩:=x;exact Qw e
 |tup xs=>obtain⟨_,_,_,p,_⟩:=x;exact p.lt
 |dK ES=>obtain⟨_,_,_,_,o,_,_,e,_⟩:=x;exact Qw e
 |dT ES=>obtain⟨_,_,_,_,o,_,_,e,_⟩:=x;exact Qw e
 |set S n=>obtain⟨o,_,_,_,e,_⟩:=x;exact Qw e
 |ins C dx fs=>obtain⟨_,_,_,e,_⟩:=x;exact Qw e
 |own y=>obtain⟨_,e⟩:=x;exact Qw e
 |xd fs=>obtain⟨_,⟨_,_,_,e,_⟩,_⟩:=x;exact Qw e
 |rng lo hi=>obtain⟨_,_,_,e⟩:=x;exact Qw e
 |frz ob u=>obtain⟨e,_⟩:=x;exact Qw e
 |tbl ps=>exact Qw (show h.get? a=some _ from x)
 |met f y=>exact Qw (show h.get? a=some _ from x)
 |ext φ=>obtain⟨_,⟨_,e⟩,_⟩:=x;exact Qw e
theorem Paired.mapP{α β:Type}{F G:α->β->Prop}:∀{l₁:List α} {l₂:List β},Paired F l₁ l₂->(∀a b,F a b->G a b)->Paired G l₁ l₂
 |_,_,.nil,_=>.nil
 |_,_,.cons r t,f=>.cons (f _ _ r) (Paired.mapP t f)
theorem bI.stay(x:bI P w H h a o)(k:∀b u,(b=a∨H b=some (.own a))->h.get? b=some u->h'.get? b=some u)
  (ho:∀b,H b=some (.own a)->H' b=some (.own a)) (ht:∀b xs,H b=some (.tup xs)->H' b=some (.tup xs)):bI P w H' h' a o:=by
 induction o with
 |lst xs=>obtain⟨z,its,n,r,e⟩:=x;exact⟨z,its,n,r,k _ _ (.inl rfl) e⟩
 |tup xs=>obtain⟨z,its,r,⟨ob,e,c⟩,ob2,e2,c2⟩:=x;exact⟨z,its,r,⟨ob,k _ _ (.inl rfl) e,c⟩,ob2,k _ _ (.inl rfl) e2,c2⟩
 |dK ES=>obtain⟨z,y,vs,r,ob,es,ep,e,c⟩:=x;exact⟨z,y,vs,r,ob,es,ep,k _ _ (.inl rfl) e,c⟩
 |dT ES =>
  obtain⟨z,y,xs,r,ob,es,ep,e,c⟩:=x;exact⟨z,y,xs,Paired.mapP r λp q z=>⟨z.1,ht _ _ z.2.1,z.2.2⟩,ob,es,ep,k _ _ (.inl rfl) e,c⟩
 |set S n=>obtain⟨ob,es,ep,t,e,c⟩:=x;exact⟨ob,es,ep,t,k _ _ (.inl rfl) e,c⟩
 |ins C dx fs =>
  obtain⟨d,z,ne,e,mA,⟨od,es,ep,e2,c⟩,r⟩:=x;exact⟨ho _ d,z,ne,k _ _ (.inl rfl) e,mA,⟨od,es,ep,k _ _ (.inr d) e2,c⟩,r⟩
 |own y=>obtain⟨ob,e⟩:=x;exact⟨ob,k _ _ (.inl rfl) e⟩
 |xd fs=>obtain⟨mA,⟨od,es,ep,e,c⟩,r⟩:=x;exact⟨mA,⟨od,es,ep,k _ _ (.inl rfl) e,c⟩,r⟩
 |rng lo hi=>obtain⟨t,u,v,e⟩:=x;exact⟨t,u,v,k _ _ (.inl rfl) e⟩
 |frz ob u ih=>obtain⟨e,q⟩:=x;exact⟨k _ _ (.inl rfl) e,ih q⟩
 |tbl ps =>
  have e:h.get? a=some {cls:=.none,data:=.fields ps}:=x;show h'.get? a=some {cls:=.none,data:=.fields ps};exact k a _ (.inl rfl) e
 |met f y =>
  have e:h.get? a=some (PySem.W.methodObj (.ref f) (.ref y)):=x;show h'.get? a=some (PySem.W.methodObj (.ref f) (.ref y));exact k a _ (.inl rfl) e
 |ext φ=>obtain⟨p,⟨o,e⟩,st⟩:=x;exact⟨st _ _ p λo q=>k _ _ (.inl rfl) q,⟨o,k _ _ (.inl rfl) e⟩,st⟩
theorem bG.lt(x:bG P w H h)(e:H a=some o):a<h.objs.size:=(x a o e).lt
theorem bG.fresh(x:bG P w H h)(e:h.objs.size<=a):H a=none:=by
 cases q:H a with
 |none=>rfl
 |some u=>exact absurd (QO (x.lt q) e) (Nat.lt_irrefl _)
theorem bG.kept(x:bG P w H h)(k:∀b u,h.get? b=some u->h'.get? b=some u):bG P w H h':=λa o e =>
 (x a o e).stay (λb u _ q=>k b u q) (λ_ q=>q) λ_ _ q=>q
theorem bG.laid(x:bG P w H h)(k:∀b u,h.get? b=some u->h'.get? b=some u)(hp:h.objs.size<=a)(new:bI P w (upd H a o) h' a o):bG P w (upd H a o) h':=λb u e=>by
 have hn:=x.fresh hp;by_cases hb:b=a
 ·subst hb;rw[ah] at e;cases e;exact new
 ·rw[aE hb] at e;exact(x b u e).stay (λc v _ q=>k c v q) (λc q=>by rw[aE (fR q hn)];exact q) λc xs q=>by rw[aE (fR q hn)];exact q
end
def Rd(H:Hp)(a:Addr)(u:HO):Prop:=H a=some u∨∃o,H a=some (.frz o u)
theorem Rd.ok{P:Program}{w:World}{H:Hp}{h:Heap}{a:Addr}{u:HO}(r:Rd H a u)(x:bG P w H h):bI P w H h a u:=by
 rcases r with r|⟨o,r⟩
 ·exact x a u r
 ·obtain⟨_,q⟩:=x a _ r;exact q
def jx:Option HO->Prop
 |some (.lst _)=>True
 |some (.dK _)=>True
 |some (.dT _)=>True
 |some (.set _ _)=>True
 |some (.ins _ _ _)=>True
 |some (.ext _)=>True
 |_=>False
section
variable {P:Program}{w:World}{H:Hp}{h h':Heap}{x e:Addr}{o':HO}
theorem bG.write(ok:bG P w H h)(mu:jx (H x))(he:e=x∨H e=some (.own x))(k:∀b u,b≠e->h.get? b=some u->h'.get? b=some u)(heo:∃u,h'.get? e=some u)
  (new:bI P w (upd H x o') h' x o'):bG P w (upd H x o') h':=λb u q=>by
 have nown:∀c y,H c=some (.own y)->c≠x:=λc y r z=>by subst z;rw[r] at mu;exact mu
 have ntup:∀c xs,H c=some (.tup xs)->c≠x:=λc xs r z=>by subst z;rw[r] at mu;exact mu
 by_cases hb:b=x
 ·subst hb;rw[ah] at q;cases q;exact new
 ·rw[aE hb] at q;by_cases hbe:b=e
  ·have q':H b=some (.own x):=by
    rcases he with z|z
    ·exact absurd (hbe.trans z) hb
    ·rw[hbe];exact z
   rw[q] at q';cases q';obtain⟨v,hv⟩:=heo;exact⟨v,by rw[hbe];exact hv⟩
  ·refine(ok b u q).stay (λc v hc r=>k c v ?_ r) (λc r=>by rw[aE (nown c b r)];exact r) λc xs r=>by rw[aE (ntup c xs r)];exact r
   rcases hc with rfl|hc
   ·exact hbe
   ·rintro rfl;rcases he with z|z
    ·exact nown c b hc z
    ·rw[hc] at z;cases z;exact hb rfl
end
structure Un(fs ex:List Addr)(H H':Hp)(h h':Heap):Prop where
 keep:∀b o,h.get? b=some o->H b=none->b∉fs->b∉ex->h'.get? b=some o
 slot:∀b o,h.get? b=some o->H b=none->b∈fs->b∉ex->∃sl,h'.get? b=some {o with slots:=sl}
 free:∀b o,h.get? b=some o->H b=none->b∉ex->H' b=none
 there:∀b o,h.get? b=some o->b∉ex->∃o',h'.get? b=some o'
 tups:∀b xs,H b=some (.tup xs)->H' b=some (.tup xs)
 frzs:∀b o u,H b=some (.frz o u)->H' b=some (.frz o u)
 tbls:∀b ps,H b=some (.tbl ps)->∃more,H' b=some (.tbl (ps++more))
section
variable {fs fs' ex ex':List Addr}{H H1 H2:Hp}{h h1 h2 h':Heap}{a x e:Addr}{o:HO}
theorem Un.any(u:Un fs ex H H1 h h1){b:Addr}{ob:Obj}(q:h.get? b=some ob)(n:H b=none)(hx:b∉ex):∃sl,h1.get? b=some {ob with slots:=sl}:=by
 by_cases hb:b∈fs
 ·exact u.slot b ob q n hb hx
 ·exact⟨ob.slots,u.keep b ob q n hb hx⟩
theorem Un.kept(k:∀b u,h.get? b=some u->h'.get? b=some u):Un fs ex H H h h':=
 ⟨λb ob q _ _ _=>k b ob q,λb ob q _ _ _=>⟨ob.slots,k b ob q⟩,λ_ _ _ n _=>n,λb ob q _=>⟨ob,k b ob q⟩,λ_ _ q=>q,λ_ _ _ q=>q,λ_ ps q=>⟨#[],by rw[q];simp⟩⟩
theorem Un.refl:Un fs ex H H h h:=Un.kept λ_ _ q=>q
theorem Un.laid(k:∀b u,h.get? b=some u->h'.get? b=some u)(hp:h.objs.size<=a)(hn:H a=none):Un fs ex H (upd H a o) h h' where
 keep:=λb u q _ _ _=>k b u q
 slot:=λb u q _ _ _=>⟨u.slots,k b u q⟩
 free:=λb u q n _=>by rw[aE (QF (QO (Qw q) hp))];exact n
 there:=λb u q _=>⟨u,k b u q⟩
 tups:=λb xs q=>by rw[aE (fR q hn)];exact q
 frzs:=λb u xs q=>by rw[aE (fR q hn)];exact q
 tbls:=λb ps q=>⟨#[],by rw[aE (fR q hn),q];simp⟩
theorem Un.write(mu:jx (H x))(he:e=x∨H e=some (.own x))(k:∀b u,b≠e->h.get? b=some u->h'.get? b=some u)(heo:∃u,h'.get? e=some u):Un fs ex H (upd H x o) h h':=by
 have hx:∀b,H b=none->b≠x:=λb n z=>by subst z;rw[n] at mu;exact mu
 have hb:∀b,H b=none->b≠e:=λb n z=>by
  subst z;rcases he with r|r
  ·exact hx b n r
  ·rw[n] at r;cases r
 have hm:∀b u,H b=some u->¬jx (some u)->b≠x:=λb u q nm z=>by subst z;rw[q] at mu;exact nm mu
 refine⟨λb u q n _ _=>k b u (hb b n) q,λb u q n _ _=>⟨u.slots,k b u (hb b n) q⟩,λb u q n _=>by rw[aE (hx b n)];exact n,λb u q _=>?_,
  λb xs q=>by rw[aE (hm b _ q λz=>z)];exact q,λb u xs q=>by rw[aE (hm b _ q λz=>z)];exact q,λb ps q=>⟨#[],by rw[aE (hm b _ q λz=>z),q];simp⟩⟩
 by_cases hbe:b=e
 ·subst hbe;exact heo
 ·exact⟨u,k b u hbe q⟩
end
noncomputable def kB(h:Heap)(H:Hp):List Addr:=(List.range h.objs.size).filter λa=>(H a).isSome
noncomputable def fS(h:Heap)(H:Hp):Heap:=PySem.W.hideAll h (kB h H)
theorem xF(h:Heap)(H:Hp):(fS h H).objs.size=h.objs.size:=PySem.W.hideAll_size _ _
theorem xG{h:Heap}{H:Hp}{b:Addr}{o:Obj}(e:h.get? b=some o)(n:H b=none):(fS h H).get? b=some o:=
 PySem.W.hideAll_get _ e λhm=>by have q:(H b).isSome=true:=(List.mem_filter.mp hm).2;rw[n] at q;simp at q
theorem xH{h:Heap}{H:Hp}{b:Addr}{o:Obj}(e:(fS h H).get? b=some o):h.get? b=some o/\H b=none:=by
 have e':h.get? b=some o:=PySem.W.of_hideAll (kB h H) e;refine⟨e',?_⟩
 cases q:H b with
 |none=>rfl
 |some x =>
  have hm:b∈kB h H:=List.mem_filter.mpr ⟨List.mem_range.mpr (Qw e'),by simp[q]⟩;have z:(fS h H).get? b=none:=PySem.W.hideAll_none (kB h H) hm;rw[z] at e;cases e
structure Mod(K:PySem.W.Frag)(mg:Str->Option Value)(base:Heap):Prop where
 kin:K.In base
 glob:base.Ns mainGlobals mg
 blt:∃mb,base.Ns builtinsNs mb/\∀x:Str,x≠"__name__"->mb x=bootBuiltins x
 nolimit:base.NoLimit
structure Cx where
 prog:Program
 w:World
 K:PySem.W.Frag
 mg:Str->Option Value
 base:Heap
 A:Around
 N:List Str
 s₀:Shared
 H₀:Hp
 env:Env
 outer:List Env
 stack:List Env
 ex:List Addr
 fn:Str->Bool
 calm:Bool
 pn:List (Addr×Obj)
 xe:Value->Shared->Prop
noncomputable def eB(l:List Env):List Addr:=l.filterMap (·.frame)
noncomputable abbrev Cx.fs(X:Cx):List Addr:=eB X.outer
def mi(sc:Scope)(x:Str):Prop:=sc.names.lookup x=some .local∨sc.names.lookup x=some .cell∨sc.names.lookup x=some .free
def Loc(sc:Scope)(x:Str):Prop:=sc.names.lookup x=some .local∨sc.names.lookup x=some .cell
def Look(env:Env)(h:Heap)(m:Str->Option Value)(x:Str)(u:Value):Prop:=
 (env.kindOf x=some .local/\m x=some u)∨((env.kindOf x=some .cell∨env.kindOf x=some .free)/\∃c,env.cells.lookup x=some c/\h.IsCell c (some u))
structure Cx.Ok(X:Cx):Prop where
 mod:Mod X.K X.mg X.base
 kind:X.env.scope.kind=.function
 glob:X.env.globals=mainGlobals
 blt:X.env.builtins=builtinsNs
 above:X.s₀.heap.objs.size<=X.env.locals
 inj:∀x y c,X.env.cells.lookup x=some c->X.env.cells.lookup y=some c->x=y
 has:∀x,(X.env.kindOf x=some .cell∨X.env.kindOf x=some .free)->∃c,X.env.cells.lookup x=some c
 cab:∀x c,X.fn x=true->X.env.cells.lookup x=some c->X.s₀.heap.objs.size<=c
 hd:X.calm=true->X.A.handled=none
 frames:X.A.frames=some X.stack
 stk:X.stack=X.outer∨(X.stack=X.env::X.outer/\X.env.frame=some X.env.locals)
 exf:∀b∈X.ex,b≠X.env.locals/\∀x c,X.env.cells.lookup x=some c->c≠b
 bs:∀b o,X.base.get? b=some o->X.s₀.heap.get? b=some o/\X.H₀ b=none
 bsz:X.base.objs.size<=X.s₀.heap.objs.size
 noex:∀b o,X.base.get? b=some o->b∉X.ex
 exfs:∀b∈X.ex,b∉X.fs
 funs:X.s₀.heap.FunFrames X.base X.outer
 frf:∀b∈X.fs,X.H₀ b=none
structure Inv(X:Cx)(EQ:List (Addr×Obj))(σ:List (Option V))(H:Hp)(s:Shared):Prop where
 ok:X.Ok
 os:s.os=X.s₀.os
 bare:AllBare s.gens
 base:Un X.fs X.ex X.H₀ H X.s₀.heap s.heap
 loc:∃m,s.heap.Ns X.env.locals m/\∀(i:Nat) (x:Str) (v:V),X.N[i]?=some x->σ[i]?=some (some v)->mi X.env.scope x->∃u,RelV v u/\Look X.env s.heap m x u
 cell:∀x c,X.env.cells.lookup x=some c->∃v,s.heap.IsCell c v
 free:H X.env.locals=none
 freeC:∀x c,X.env.cells.lookup x=some c->H c=none
 pin:∀p∈X.pn++EQ,s.heap.get? p.1=some p.2/\H p.1=none/\p.1≠X.env.locals/\p.1∉X.fs/\∀v,p.2.data≠.cell v
 hok:bG X.prog X.w H s.heap
 len:σ.length=X.N.length
section
variable {X:Cx}{EQ:List (Addr×Obj)}{σ:List (Option V)}{H H':Hp}{s:Shared}{h':Heap}
theorem Cx.Ok.nofr(ok:X.Ok){b:Addr}{o:Obj}(e:X.base.get? b=some o):b∉X.fs:=λhb=>by have:=(ok.funs.mem hb).1;rw[e] at this;cases this
theorem Inv.bs(I:Inv X EQ σ H s):∀b o,X.base.get? b=some o->s.heap.get? b=some o/\H b=none:=λb o e =>
 ⟨I.base.keep b o (I.ok.bs b o e).1 (I.ok.bs b o e).2 (I.ok.nofr e) (I.ok.noex b o e),I.base.free b o (I.ok.bs b o e).1 (I.ok.bs b o e).2 (I.ok.noex b o e)⟩
theorem Inv.bk(I:Inv X EQ σ H s):∀b o,X.base.get? b=some o->s.heap.get? b=some o:=λb o e=>(I.bs b o e).1
theorem Inv.mod(I:Inv X EQ σ H s):Mod X.K X.mg X.base:=I.ok.mod
theorem Inv.kIn(I:Inv X EQ σ H s):X.K.In s.heap:=I.ok.mod.kin.keeps I.bk
theorem Inv.lt(I:Inv X EQ σ H s):X.env.locals<s.heap.objs.size:=by obtain⟨_,hn,_⟩:=I.loc;exact hn.lt
theorem Inv.sz(I:Inv X EQ σ H s):X.s₀.heap.objs.size<=s.heap.objs.size:=QK I.ok.above (QT I.lt)
theorem Inv.nofs(I:Inv X EQ σ H s){a:Addr}(h:s.heap.objs.size<=a):a∉X.fs:=λhb=>by obtain⟨_,o,ho,_⟩:=I.ok.funs.mem hb;exact absurd (QO (Qw ho) (QK I.sz h)) (Nat.lt_irrefl _)
theorem Inv.cne(I:Inv X EQ σ H s):∀x c,X.env.cells.lookup x=some c->c≠X.env.locals:=λx c e z=>by obtain⟨v,o,ho,hd⟩:=I.cell x c e;obtain⟨m,⟨o',es,ep,ho',hd',_⟩,_⟩:=I.loc;rw[z,ho'] at ho;cases ho;rw[hd'] at hd;cases hd
theorem Inv.funs(I:Inv X EQ σ H s):s.heap.FunFrames X.base X.outer:=by
 have all:∀(l:List Env),(∀b∈eB l,b∈X.fs)->X.s₀.heap.FunFrames X.base l->s.heap.FunFrames X.base l:=by
  intro l
  induction l with
  |nil=>intro _ _;trivial
  |cons env r ih =>
   intro hs hl;obtain⟨hk,⟨L,o,hf,hn,ho,hd⟩,hr⟩:=hl;have hL:L∈X.fs:=hs L (by unfold eB;rw[List.filterMap_cons,hf];exact QH);obtain⟨sl,e⟩:=I.base.slot L o ho (I.ok.frf L hL) hL λz=>I.ok.exfs L z hL;exact⟨hk,⟨L,_,hf,hn,e,hd⟩,ih (λb hb=>hs b (by unfold eB;rw[List.filterMap_cons,hf];exact QA _ hb)) hr⟩
 exact all X.outer (λ_ hb=>hb) I.ok.funs
theorem Inv.stack(I:Inv X EQ σ H s):s.heap.FunFrames X.base X.stack:=by
 rcases I.ok.stk with e|⟨e,hf⟩
 ·rw[e];exact I.funs
 ·rw[e];obtain⟨m,hn,_⟩:=I.loc;refine .cons (by rw[I.ok.kind];decide) hf hn ?_ I.funs;exact Heap.get?_none_of_le (QK I.ok.bsz I.ok.above)
theorem Inv.stkSub(I:Inv X EQ σ H s):∀b∈eB X.stack,b∈X.env.locals::X.fs:=λb hb=>by
 rcases I.ok.stk with e|⟨e,hf⟩
 ·rw[e] at hb;exact QA _ hb
 ·rw[e] at hb;unfold eB at hb;rw[List.filterMap_cons,hf] at hb;exact hb
theorem Inv.stkFree(I:Inv X EQ σ H s):∀b∈eB X.stack,H b=none:=λb hb=>by
 rcases Qn (I.stkSub b hb) with e|hb
 ·rw[e];exact I.free
 ·obtain⟨_,o,ho,_⟩:=I.ok.funs.mem hb;exact I.base.free b o ho (I.ok.frf b hb) λz=>I.ok.exfs b z hb
theorem Inv.step{g':Array GenState}{t':Nat}{d':Drawn}{ch:List Addr}(I:Inv X EQ σ H s)
  (hch:∀b∈ch,(b∈X.ex∨X.s₀.heap.objs.size<=b)/\b≠X.env.locals/\(∀x c,X.env.cells.lookup x=some c->c≠b)/\∀p∈X.pn++EQ,p.1≠b)
  (keep:∀b o,b≠X.env.locals->b∉X.fs->b∉ch->s.heap.get? b=some o->H b=none->h'.get? b=some o)
  (slot:∀b o,b≠X.env.locals->b∈X.fs->b∉ch->s.heap.get? b=some o->H b=none->∃sl,h'.get? b=some {o with slots:=sl}) (free:∀b o,b∉ch->s.heap.get? b=some o->H b=none->H' b=none)
  (there:∀b o,b∉ch->s.heap.get? b=some o->∃o',h'.get? b=some o')
  (tups:∀b xs,H b=some (.tup xs)->H' b=some (.tup xs)) (frzs:∀b o u,H b=some (.frz o u)->H' b=some (.frz o u)) (tbls:∀b ps,H b=some (.tbl ps)->∃more,H' b=some (.tbl (ps++more)))
  (ns:∀m,s.heap.Ns X.env.locals m->h'.Ns X.env.locals m) (hok:bG X.prog X.w H' h') (hg:AllBare g') :
  Inv X EQ σ H' {s with heap:=h',gens:=g',drawn:=d',toks:=t'}:=by
 have neL:∀b o,X.s₀.heap.get? b=some o->b≠X.env.locals:=λb o e=>QF (QO (Qw e) I.ok.above)
 have neC:∀b o,X.s₀.heap.get? b=some o->b∉X.ex->b∉ch:=λb o e hx hb=>by
  rcases (hch b hb).1 with z|z
  ·exact hx z
  ·exact absurd (QO (Qw e) z) (Nat.lt_irrefl _)
 have cellK:∀x c,X.env.cells.lookup x=some c->∀v,s.heap.IsCell c v->h'.IsCell c v:=λx c e v ⟨o,ho,hd⟩=>by
  have nch:c∉ch:=λz=>(hch c z).2.2.1 x c e rfl;by_cases hc:c∈X.fs
  ·obtain⟨sl,q⟩:=slot c o (I.cne x c e) hc nch ho (I.freeC x c e);exact⟨_,q,hd⟩
  ·exact⟨o,keep c o (I.cne x c e) hc nch ho (I.freeC x c e),hd⟩
 refine⟨I.ok,I.os,hg,⟨λb o e n hb hx=>?_,λb o e n hb hx=>?_,λb o e n hx=>?_,λb o e hx=>?_,λb xs e=>tups b xs (I.base.tups b xs e),λb o xs e=>frzs b o xs (I.base.frzs b o xs e),λb ps e=>?_⟩,?_,λx c e=>?_,?_,λx c e=>?_,λp hp=>?_,hok,I.len⟩
 ·exact keep b o (neL b o e) hb (neC b o e hx) (I.base.keep b o e n hb hx) (I.base.free b o e n hx)
 ·obtain⟨sl,e1⟩:=I.base.slot b o e n hb hx;obtain⟨sl',e2⟩:=slot b _ (neL b o e) hb (neC b o e hx) e1 (I.base.free b o e n hx);exact⟨sl',e2⟩
 ·obtain⟨o',e1⟩:=I.base.there b o e hx;exact free b o' (neC b o e hx) e1 (I.base.free b o e n hx)
 ·obtain⟨o',e1⟩:=I.base.there b o e hx;exact there b o' (neC b o e hx) e1
 ·obtain⟨m1,e1⟩:=I.base.tbls b ps e;obtain⟨m2,e2⟩:=tbls b _ e1;exact⟨m1++m2,by rw[e2,Array.append_assoc]⟩
 ·obtain⟨m,hn,hl⟩:=I.loc;refine⟨m,ns m hn,λi x v e1 e2 e3=>?_⟩;obtain⟨u,r,l⟩:=hl i x v e1 e2 e3;refine⟨u,r,?_⟩
  rcases l with l|⟨k,c,e,z⟩
  ·exact .inl l
  ·exact .inr ⟨k,c,e,cellK x c e _ z⟩
 ·obtain⟨v,z⟩:=I.cell x c e;exact⟨v,cellK x c e v z⟩
 ·obtain⟨m,⟨o,_,_,ho,_⟩,_⟩:=I.loc;exact free _ o (λz=>(hch _ z).2.1 rfl) ho I.free
 ·obtain⟨v,o,ho,hd⟩:=I.cell x c e;exact free c o (λz=>(hch c z).2.2.1 x c e rfl) ho (I.freeC x c e)
 ·obtain⟨e,n,ne,nf,d⟩:=I.pin p hp;have nch:p.1∉ch:=λz=>(hch p.1 z).2.2.2 p hp rfl;exact⟨keep p.1 p.2 ne nf nch e n,free p.1 p.2 nch e n,ne,nf,d⟩
theorem Inv.un{t':Nat}(I:Inv X EQ σ H s)(u:Un X.fs [] H H' s.heap h')(hok:bG X.prog X.w H' h'):Inv X EQ σ H' {s with heap:=h',toks:=t'}:=by
 obtain⟨m,⟨o,es,ep,ho,r⟩,_⟩:=id I.loc;obtain⟨sl,hL⟩:=u.any ho I.free (by simp)
 exact I.step (g':=s.gens) (d':=s.drawn) (ch:=[]) (λ_ z=>nomatch z) (λb o _ hb _ e n=>u.keep b o e n hb (by simp)) (λb o _ hb _ e n=>u.slot b o e n hb (by simp)) (λb o _ e n=>u.free b o e n (by simp)) (λb o _ e=>u.there b o e (by simp)) u.tups u.frzs u.tbls (λm' hm=>by
  obtain⟨o',Iu,ep',ho',r'⟩:=hm;rw[ho] at ho';cases ho'
  exact⟨_,Iu,ep',hL,r'⟩) hok I.bare
theorem Inv.call{g':Array GenState}{t':Nat}{d':Drawn}{ch:List Addr}(I:Inv X EQ σ H s)(u:Un (eB X.stack) ch H H' s.heap h')(hok:bG X.prog X.w H' h')(hg:AllBare g')
  (hch:∀b∈ch,(b∈X.ex∨X.s₀.heap.objs.size<=b)/\b≠X.env.locals/\(∀x c,X.env.cells.lookup x=some c->c≠b)/\∀p∈X.pn++EQ,p.1≠b) :
  Inv X EQ σ H' {s with heap:=h',gens:=g',drawn:=d',toks:=t'}:=by
 obtain⟨m,⟨o,es,ep,ho,r⟩,_⟩:=id I.loc;obtain⟨sl,hL⟩:=u.any ho I.free λz=>(hch _ z).2.1 rfl
 exact I.step (ch:=ch) hch (λb o hL hb hc e n=>u.keep b o e n (λz=>(Qn (I.stkSub b z)).elim hL hb) hc) (λb o _ _ hc e n=>u.any e n hc) (λb o hc e n=>u.free b o e n hc) (λb o hc e=>u.there b o e hc) u.tups u.frzs u.tbls (λm' hm=>by
  obtain⟨o',Iu,ep',ho',r'⟩:=hm;rw[ho] at ho';cases ho'
  exact⟨_,Iu,ep',hL,r'⟩) hok hg
theorem Inv.turned{t':Nat}{it:Addr}(I:Inv X EQ σ H s)(k:∀b o,b≠it->s.heap.get? b=some o->h'.get? b=some o)(hn:H it=none)(hL:it≠X.env.locals)
  (h1:it∈X.ex∨X.s₀.heap.objs.size<=it) (h2:∀x c,X.env.cells.lookup x=some c->c≠it) (h3:∀p∈X.pn++EQ,p.1≠it):Inv X EQ σ H {s with heap:=h',toks:=t'}:=by
 have nit:∀b u,H b=some u->b≠it:=λb u e z=>by rw[z,hn] at e;cases e
 refine I.step (g':=s.gens) (d':=s.drawn) (ch:=[it]) (λb hb=>?_) (λb o _ _ hc e _=>k b o (λz=>hc (by simp[z])) e) (λb o _ _ hc e _=>⟨o.slots,k b o (λz=>hc (by simp[z])) e⟩) (λ_ _ _ _ n=>n)
  (λb o hc e=>⟨o,k b o (λz=>hc (by simp[z])) e⟩) (λ_ _ e=>e) (λ_ _ _ e=>e) (λb ps e=>⟨#[],by rw[e];simp⟩) (λm hm=>?_) (λb u e=>?_) I.bare
 ·have e:b=it:=by simpa using hb
  subst e;exact⟨h1,hL,h2,h3⟩
 ·obtain⟨o,es,ep,ho,r⟩:=hm;exact⟨o,es,ep,k _ o (Ne.symm hL) ho,r⟩
 ·refine(I.hok b u e).stay (λc v hc q=>k c v ?_ q) (λ_ q=>q) λ_ _ q=>q;rcases hc with z|z
  ·rw[z];exact nit b u e
  ·exact nit c _ z
theorem Inv.tok(I:Inv X EQ σ H s)(t:Nat):Inv X EQ σ H {s with toks:=t}:=I.un (h':=s.heap) (t':=t) Un.refl I.hok
theorem Inv.kept{t':Nat}(I:Inv X EQ σ H s)(k:∀b u,s.heap.get? b=some u->h'.get? b=some u):Inv X EQ σ H {s with heap:=h',toks:=t'}:=I.un (Un.kept k) (I.hok.kept k)
theorem Inv.laid{a:Addr}{o:HO}{t':Nat}(I:Inv X EQ σ H s)(k:∀b u,s.heap.get? b=some u->h'.get? b=some u)(hp:s.heap.objs.size<=a)(new:bI X.prog X.w (upd H a o) h' a o) :
  Inv X EQ σ (upd H a o) {s with heap:=h',toks:=t'}:=I.un (Un.laid k hp (I.hok.fresh hp)) (I.hok.laid k hp new)
theorem Inv.write{x e:Addr}{o:HO}{t':Nat}(I:Inv X EQ σ H s)(mu:jx (H x))(he:e=x∨H e=some (.own x))(k:∀b u,b≠e->s.heap.get? b=some u->h'.get? b=some u)(heo:∃u,h'.get? e=some u)
  (new:bI X.prog X.w (upd H x o) h' x o):Inv X EQ σ (upd H x o) {s with heap:=h',toks:=t'}:=I.un (Un.write mu he k heo) (I.hok.write mu he k heo new)
theorem Inv.pins_of{pins':List (Addr×Obj)}(I:Inv X EQ σ H s)(h:∀p∈pins',s.heap.get? p.1=some p.2/\H p.1=none/\p.1≠X.env.locals/\p.1∉X.fs/\∀v,p.2.data≠.cell v):Inv X pins' σ H s:=
 ⟨I.ok,I.os,I.bare,I.base,I.loc,I.cell,I.free,I.freeC,λp hp=>(Qq hp).elim (λz=>I.pin p (List.mem_append_left _ z)) (h p),I.hok,I.len⟩
theorem pR{N:List Str}(hN:N.Nodup){i j:Nat}{x:Str}(a:N[i]?=some x)(b:N[j]?=some x):i=j:=by obtain⟨h1,e1⟩:=Qc a;obtain⟨h2,e2⟩:=Qc b;exact(List.getElem_inj hN).mp (e1.trans e2.symm)
theorem mj{M:Model}{A:Around}{E:Value->Shared->Prop}{i:Nat}{x:Str}{v:V}{u:Value}{Q:Unit->Shared->Prop}(I:Inv X EQ σ H s)(hN:X.N.Nodup)(hi:X.N[i]?=some x)(hx:Loc X.env.scope x)(r:RelV v u)
  (h:∀s',Inv X EQ (σ.set i (some v)) H s'->(∃a,Heap.SameBut a s.heap s'.heap/\(a=X.env.locals∨X.env.cells.lookup x=some a))->Q () s') (hf:X.fn x=true∨X.env.scope.names.lookup x=some .local:=by first|exact .inl rfl|exact .inr rfl|assumption):wpAny M A (storeName X.env x u) Q E s:=by
 obtain⟨m,hn,hl⟩:=id I.loc;have hcls:(X.env.scope.kind == .class||(X.env.scope.kind == .module&&X.env.locals != X.env.globals))=false:=by rw[I.ok.kind];rfl
 have hiσ:i<σ.length:=by rw[I.len];exact(Qc hi).1
 have cne:=I.cne
 have Ic:∀{a:Addr} {h':Heap},(∃o,s.heap.get? a=some o/\H a=none)->Heap.SameBut a s.heap h'->bG X.prog X.w H h':=λ{a h'} ha hs b ob e=>by
  obtain⟨_,_,Fn⟩:=ha;refine(I.hok b ob e).stay (λc w' hc q=>(hs.2 c ?_).trans q) (λ_ q=>q) λ_ _ q=>q;rintro rfl;rcases hc with rfl|hc
  ·rw[Fn] at e;cases e
  ·rw[Fn] at hc;cases hc
 rcases hx with hk|hk
 ·refine wpAny_storeName_local hk hn (λh' hn' hs=>?_) hcls;obtain⟨oL,_,_,Hm,_⟩:=id hn;refine h _ ⟨I.ok,I.os,I.bare,⟨λb o e n hb hx=>?_,λb o e n hb hx=>?_,I.base.free,λb o e hx=>?_,I.base.tups,I.base.frzs,I.base.tbls⟩,⟨_,hn',λj y v' e1 e2 e3=>?_⟩,λy c e=>?_,I.free,I.freeC,λp hp=>?_,Ic ⟨oL,Hm,I.free⟩ hs,by simpa using I.len⟩ ⟨_,hs,.inl rfl⟩
  ·exact(hs.2 b (QF (QO (Qw e) I.ok.above))).trans (I.base.keep b o e n hb hx)
  ·obtain⟨sl,e1⟩:=I.base.slot b o e n hb hx;exact⟨sl,(hs.2 b (QF (QO (Qw e) I.ok.above))).trans e1⟩
  ·obtain⟨o',e1⟩:=I.base.there b o e hx;exact⟨o',(hs.2 b (QF (QO (Qw e) I.ok.above))).trans e1⟩
  ·by_cases hj:j=i
   ·subst hj;rw[hi] at e1;cases e1;rw[List.getElem?_set_self hiσ] at e2;cases e2;exact⟨u,r,.inl ⟨hk,by simp⟩⟩
   ·rw[List.getElem?_set_ne (Ne.symm hj)] at e2;obtain⟨u',r',q⟩:=hl j y v' e1 e2 e3;refine⟨u',r',?_⟩
    rcases q with ⟨k,e⟩|⟨k,c,e,z⟩
    ·refine .inl ⟨k,?_⟩;have:y≠x:=λe=>hj (pR hN e1 (e ▸ hi));simp[this,e]
    ·exact .inr ⟨k,c,e,z.sameBut hs (cne y c e)⟩
  ·obtain⟨w',z⟩:=I.cell y c e;exact⟨w',z.sameBut hs (cne y c e)⟩
  ·obtain⟨e,n,ne,nf,d⟩:=I.pin p hp;exact⟨(hs.2 p.1 ne).trans e,n,ne,nf,d⟩
 ·have IH:X.fn x=true:=by
   rcases hf with z|z
   ·exact z
   ·rw[z] at hk;cases hk
  obtain⟨c,hc⟩:=I.ok.has x (.inl hk);obtain⟨w',z⟩:=I.cell x c hc;refine wpAny_storeName_cell I.ok.kind hk hc z (λh' HA hs=>?_);obtain⟨oc,hoc,hocd⟩:=id z;refine h {s with heap:=h'} ⟨I.ok,I.os,I.bare,⟨λb o e n hb hx=>?_,λb o e n hb hx=>?_,I.base.free,λb o e hx=>?_,I.base.tups,I.base.frzs,I.base.tbls⟩,⟨m,hn.sameBut hs (Ne.symm (cne x c hc)),λj y v' e1 e2 e3=>?_⟩,λy c' e=>?_,I.free,I.freeC,λp hp=>?_,Ic ⟨oc,hoc,I.freeC x c hc⟩ hs,by simpa using I.len⟩ ⟨c,hs,.inr hc⟩
  ·exact(hs.2 b (QF (QO (Qw e) (I.ok.cab x c IH hc)))).trans (I.base.keep b o e n hb hx)
  ·obtain⟨sl,e1⟩:=I.base.slot b o e n hb hx;exact⟨sl,(hs.2 b (QF (QO (Qw e) (I.ok.cab x c IH hc)))).trans e1⟩
  ·obtain⟨o',e1⟩:=I.base.there b o e hx;exact⟨o',(hs.2 b (QF (QO (Qw e) (I.ok.cab x c IH hc)))).trans e1⟩
  ·by_cases hj:j=i
   ·subst hj;rw[hi] at e1;cases e1;rw[List.getElem?_set_self hiσ] at e2;cases e2;exact⟨u,r,.inr ⟨.inl hk,c,hc,HA⟩⟩
   ·rw[List.getElem?_set_ne (Ne.symm hj)] at e2;obtain⟨u',r',q⟩:=hl j y v' e1 e2 e3;refine⟨u',r',?_⟩
    rcases q with q|⟨k,c',e,z'⟩
    ·exact .inl q
    ·refine .inr ⟨k,c',e,z'.sameBut hs ?_⟩;rintro rfl;exact hj (pR hN e1 (I.ok.inj _ _ _ e hc ▸ hi))
  ·by_cases hcc:c'=c
   ·subst hcc;exact⟨_,HA⟩
   ·obtain⟨w2,z2⟩:=I.cell y c' e;exact⟨w2,z2.sameBut hs hcc⟩
  ·obtain⟨e,n,ne,nf,d⟩:=I.pin p hp;refine⟨(hs.2 p.1 ?_).trans e,n,ne,nf,d⟩;intro q;rw[q,hoc] at e;have q':oc=p.2:=Qo e;exact d w' (by rw[<-q'];exact hocd)
theorem pS{M:Model}{A:Around}{E:Value->Shared->Prop}{i:Nat}{x:Str}{v:V}{u:Value}{Q:Unit->Shared->Prop}(I:Inv X EQ σ H s)(hN:X.N.Nodup)(hi:X.N[i]?=some x)(hx:Loc X.env.scope x)(r:RelV v u)
  (h:∀s',Inv X EQ (σ.set i (some v)) H s'->Q () s') (hf:X.fn x=true∨X.env.scope.names.lookup x=some .local:=by first|exact .inl rfl|exact .inr rfl|assumption):wpAny M A (storeName X.env x u) Q E s:=
 mj I hN hi hx r (λs' I' _=>h s' I') hf
theorem Inv.call'{s':Shared}{ch:List Addr}(I:Inv X EQ σ H s)(ho:s'.os=s.os)(u:Un (eB X.stack) ch H H' s.heap s'.heap)(hok:bG X.prog X.w H' s'.heap)(hg:AllBare s'.gens)
  (hch:∀b∈ch,(b∈X.ex∨X.s₀.heap.objs.size<=b)/\b≠X.env.locals/\(∀x c,X.env.cells.lookup x=some c->c≠b)/\∀p∈X.pn++EQ,p.1≠b):Inv X EQ σ H' s':=by
 obtain⟨h',g',d',t',o'⟩:=s';have e:o'=s.os:=ho;subst e;exact I.call (g':=g') (t':=t') (d':=d') u hok hg hch
end
abbrev XK:=Value->Option Addr->Hp->Prop
abbrev St:=List (Option V)
abbrev VK:=V->Hp->Prop
abbrev TE:=St->Hp->VK->Prop
abbrev TT:=St->Hp->(Bool->Hp->Prop)->Prop
abbrev TA:=St->Hp->(List V->Hp->Prop)->Prop
structure cK where
 nx:St->Hp->Prop
 rt:VK
 bk:St->Hp->Prop:=λ_ _=>False
 ct:St->Hp->Prop:=λ_ _=>False
abbrev TS:=cK->St->Hp->Prop
def EP(X:Cx)(EQ:List (Addr×Obj))(σ:St)(Q:VK)(u:Value)(s':Shared):Prop:=∃v H',Inv X EQ σ H' s'/\RelV v u/\Q v H'
def TP(X:Cx)(EQ:List (Addr×Obj))(σ:St)(Q:Bool->Hp->Prop)(b:Bool)(s':Shared):Prop:=∃H',Inv X EQ σ H' s'/\Q b H'
def AP(X:Cx)(EQ:List (Addr×Obj))(σ:St)(Q:List V->Hp->Prop)(us:List Value)(s':Shared):Prop:=∃vs H',Inv X EQ σ H' s'/\aw vs us/\Q vs H'
def SP(X:Cx)(EQ:List (Addr×Obj))(D:cK)(f:Flow)(s':Shared):Prop:=
 match f with
 |.next=>∃σ' H',Inv X EQ σ' H' s'/\D.nx σ' H'
 |.brk=>∃σ' H',Inv X EQ σ' H' s'/\D.bk σ' H'
 |.cont=>∃σ' H',Inv X EQ σ' H' s'/\D.ct σ' H'
 |.ret u=>∃v σ' H',Inv X EQ σ' H' s'/\RelV v u/\D.rt v H'
def PE(X:Cx)(e:Expr)(t:TE):Prop:=
 ∀(EQ:List (Addr×Obj)) (s:Shared) (σ:St) (H:Hp) (Q:VK),Inv X EQ σ H s->t σ H Q->wpAny (model X.prog X.w) X.A (eval e X.env) (EP X EQ σ Q) X.xe s
def PT(X:Cx)(e:Expr)(t:TT):Prop:=
 ∀(EQ:List (Addr×Obj)) (s:Shared) (σ:St) (H:Hp) (Q:Bool->Hp->Prop),Inv X EQ σ H s->t σ H Q->wpAny (model X.prog X.w) X.A (isTrue e X.env (eval e X.env)) (TP X EQ σ Q) X.xe s
def PW(X:Cx)(e:Expr)(t:TT):Prop:=
 ∀(HY:Sem Value) (EQ:List (Addr×Obj)) (s:Shared) (σ:St) (H:Hp) (Q:Bool->Hp->Prop),Inv X EQ σ H s->t σ H Q->wpAny (model X.prog X.w) X.A (isTrue e X.env HY) (TP X EQ σ Q) X.xe s
theorem PW.pt{X:Cx}{e:Expr}{t:TT}(h:PW X e t):PT X e t:=h _
def PA(X:Cx)(es:List Expr)(t:TA):Prop:=
 ∀(pos:Pos) (EQ:List (Addr×Obj)) (s:Shared) (σ:St) (H:Hp) (Q:List V->Hp->Prop),Inv X EQ σ H s->t σ H Q->wpAny (model X.prog X.w) X.A (spliced (backTo pos (starEach es X.env))) (AP X EQ σ Q) X.xe s
def PS(X:Cx)(st:Stmt)(t:TS):Prop:=
 ∀(EQ:List (Addr×Obj)) (s:Shared) (σ:St) (H:Hp) (D:cK),Inv X EQ σ H s->t D σ H->wpAny (model X.prog X.w) X.A (exec st X.env) (SP X EQ D) X.xe s
def eC(X:Cx)(st:List Stmt)(t:TS):Prop:=
 ∀(EQ:List (Addr×Obj)) (s:Shared) (σ:St) (H:Hp) (D:cK),Inv X EQ σ H s->t D σ H->wpAny (model X.prog X.w) X.A (execs st X.env) (SP X EQ D) X.xe s
theorem aA{α:Type}{t:Sem α}{Q Q':α->Shared->Prop}{M:Model}{A:Around}{E:Value->Shared->Prop}{s:Shared}(h:wpAny M A t Q E s)(hQ:∀a s,Q a s->Q' a s):wpAny M A t Q' E s:=QW h hQ λ_ _ x=>x
section
variable {X:Cx}
inductive kC (i:Nat) (σ:St) (H:Hp) (Q:VK):Prop
 |mk:∀v,σ[i]?=some (some v)->Q v H->kC i σ H Q
def tC(v:V):TE:=λ_ H Q=>Q v H
theorem xI{i:Nat}{x:Str}{pos:Pos}(hN:X.N[i]?=some x)(hv:mi X.env.scope x)(hd:(x==("__debug__":Str))=false:=by decide)(Hz:(x==("__classdict__":Str))=false:=by decide):PE X (.Name x pos) (kC i):=by
 intro EQ s σ H Q I h;obtain⟨v,e,h⟩:=h;obtain⟨m,hn,hl⟩:=I.loc;obtain⟨u,r,l⟩:=hl i x v hN e hv
 have fin:EP X EQ σ Q u s:=⟨v,H,I,r,h⟩
 rcases l with ⟨hk,hm⟩|⟨hk,c,hc,hcell⟩
 ·exact wpAny_Name (wpAny_loadName_local I.ok.kind hk hn hm fin) hd
 ·rcases hk with hk|hk
  ·exact wpAny_Name (wpAny_loadName_cell I.ok.kind hk hc hcell fin) hd
  ·exact wpAny_Name (wpAny_loadName_free I.ok.kind hk hc hcell fin Hz) hd
theorem ap{i j pos}:PE X (.Constant (.int i) j pos) (tC (.int i)):=λ_ _ _ H _ I h=>wpAny_Constant_int ⟨.int i,H,I.tok _,⟨_,rfl⟩,h⟩
theorem kD{j pos}:PE X (.Constant .none j pos) (tC .non):=λ_ _ _ H _ I h=>Constant_none ⟨.non,H,I,rfl,h⟩
theorem al{x j pos}:PE X (.Constant (.str x) j pos) (tC (.str x)):=λ_ _ _ H _ I h=>Calls.Constant_str ⟨.str x,H,I.tok _,⟨_,rfl⟩,h⟩
def Gl(X:Cx)(x:Str):Prop:=X.env.kindOf x=some .globalImplicit
theorem kE{E:Value->Shared->Prop}{EQ:List (Addr×Obj)}{s:Shared}{σ:St}{H:Hp}{x:Str}{u:Value}{pos:Pos}{Q:Value->Shared->Prop}(I:Inv X EQ σ H s)(hg:Gl X x)(hm:X.mg x=some u)(h:Q u s)
  (hd:(x==("__debug__":Str))=false:=by decide):wpAny (model X.prog X.w) X.A (eval (.Name x pos) X.env) Q E s:=
 Calls.Name_function_global I.ok.kind hg (Calls.loadGlobal_global (by rw[I.ok.glob];exact I.mod.glob.keeps I.bk) hm h) hd
theorem jy{E:Value->Shared->Prop}{EQ:List (Addr×Obj)}{s:Shared}{σ:St}{H:Hp}{x:Str}{u:Value}{pos:Pos}{Q:Value->Shared->Prop}(I:Inv X EQ σ H s)(hg:Gl X x)(hm:X.mg x=none)(hv:bootBuiltins x=some u)(h:Q u s)
  (hn:x≠"__name__":=by decide) (hd:(x==("__debug__":Str))=false:=by decide):wpAny (model X.prog X.w) X.A (eval (.Name x pos) X.env) Q E s:=by
 obtain⟨mb,h1,h2⟩:=I.mod.blt;exact Calls.Name_function_global I.ok.kind hg (Calls.loadGlobal_builtin (by rw[I.ok.glob];exact I.mod.glob.keeps I.bk) hm (by rw[I.ok.blt];exact h1.keeps I.bk) ((h2 x hn).trans hv) h) hd
theorem xJ{x:Str}{v:V}{u:Value}{pos:Pos}(hg:Gl X x)(hm:X.mg x=some u)(r:RelV v u)(hd:(x==("__debug__":Str))=false:=by decide):PE X (.Name x pos) (tC v):=
 λ_ _ _ H _ I h=>kE I hg hm ⟨v,H,I,r,h⟩ hd
theorem kF{x:Str}{v:V}{u:Value}{pos:Pos}(hg:Gl X x)(hm:X.mg x=none)(hv:bootBuiltins x=some u)(r:RelV v u)(hn:x≠"__name__":=by decide)(hd:(x==("__debug__":Str))=false:=by decide):PE X (.Name x pos) (tC v):=
 λ_ _ _ H _ I h=>jy I hg hm hv ⟨v,H,I,r,h⟩ hn hd
variable {a b:Expr}{ta tb:TE}{pos:Pos}
def PC(X:Cx)(op:CmpOp)(a b:Expr)(t:TE):Prop:=
 ∀(EQ:List (Addr×Obj)) (s:Shared) (σ:St) (H:Hp) (Q:VK),Inv X EQ σ H s->t σ H Q ->
  wpAny (model X.prog X.w) X.A (eval a X.env) (λv s₁=>wpAny (model X.prog X.w) X.A (eval b X.env) (λu s₂=>wpAny (model X.prog X.w) X.A (compareOp op v u) (EP X EQ σ Q) X.xe s₂) X.xe s₁) X.xe s
theorem xK(b:Expr){op:CmpOp}(h:op≠.In)(h2:op≠.NotIn):behindInMarks op b=false:=by
 have e1:(op==CmpOp.In)=false:=by cases op<;>first|rfl|exact absurd rfl h
 have e2:(op==CmpOp.NotIn)=false:=by cases op<;>first|rfl|exact absurd rfl h2
 cases b<;>simp[behindInMarks,e1,e2]
def xL(ta:TE):TE:=λσ H Q=>ta σ H λx H1=>Q (.bl (decide (x=.non))) H1
def xM(ta:TE):TE:=λσ H Q=>ta σ H λx H1=>Q (.bl (!decide (x=.non))) H1
theorem RelV.none_iff{x:V}{v:Value}(r:RelV x v):(v==Value.none)=decide (x=.non):=by
 cases x with
 |non=>cases r;rfl
 |bl _=>cases r;rfl
 |int _=>obtain⟨t,rfl⟩:=r;rfl
 |str _=>obtain⟨t,rfl⟩:=r;rfl
 |byt _=>obtain⟨t,rfl⟩:=r;rfl
 |flt _=>obtain⟨t,rfl⟩:=r;rfl
 |ref _=>cases r;rfl
 |ty _=>cases r;rfl
theorem ml{j F3}(ha:PE X a ta):PC X .Is a (.Constant .none j F3) (xL ta):=by intro EQ s σ H Q I h;refine aA (ha EQ s σ H _ I h) λv s1 hsl1=>?_;obtain⟨x,H1,I1,r1,q1⟩:=hsl1;exact Constant_none (is_none_gen ⟨.bl _,H1,I1,by rw[r1.none_iff];rfl,q1⟩)
theorem mn{j F3}(ha:PE X a ta):PC X .IsNot a (.Constant .none j F3) (xM ta):=by intro EQ s σ H Q I h;refine aA (ha EQ s σ H _ I h) λv s1 hsl2=>?_;obtain⟨x,H1,I1,r1,q1⟩:=hsl2;exact Constant_none (isnot_none_gen ⟨.bl _,H1,I1,by rw[r1.none_iff];rfl,q1⟩)
inductive eV (Q:Bool->Hp->Prop) (x:V) (H:Hp):Prop
 |mk:∀c,x=.bl c->Q c H->eV Q x H
def tB(t:TE):TT:=λσ H Q=>t σ H (eV Q)
theorem iq{op:CmpOp}{t:TE}(h:PC X op a b t)(h1:behindInMarks op b=false:=by first|exact xK _ (by decide) (by decide)|rfl):PT X (.Compare a [op] [b] pos) (tB t):=by intro EQ s σ H Q I hw;refine wpAny_isTrue_Compare1 (aA (h EQ s σ H _ I hw) λv s1 h1=>aA h1 λu s2 h2=>aA h2 λc s3 hsl3=>?_) h1;obtain⟨x,H1,I1,r1,q1⟩:=hsl3;obtain⟨d,rfl,q⟩:=q1;cases r1;exact wpAny_truthy_bool ⟨H1,I1,q⟩
theorem mo{e:Expr}{t:TE}(h:PE X e t)(he:∀HY,isTrue e X.env HY=(do let v <- HY;standAt e.pos;holding [v] (truthy v)):=by intro _;rfl):PT X e (tB t):=by intro EQ s σ H Q I hw;refine isTrue_plain (aA (h EQ s σ H _ I hw) λv s1 hsl4=>?_) (he _);obtain⟨x,H1,I1,r1,q1⟩:=hsl4;obtain⟨d,rfl,q⟩:=q1;cases r1;exact wpAny_truthy_bool ⟨H1,I1,q⟩
variable {tA tB':TT}{ET:List Expr}
def xN(t u:TT):TT:=λσ H Q=>t σ H λc H1=>if c=true then u σ H1 Q else Q false H1
def xO(t u:TT):TT:=λσ H Q=>t σ H λc H1=>if c=true then Q true H1 else u σ H1 Q
theorem dO(ha:PT X a tA):PW X (.BoolOp .And [a] pos) tA:=by
 intro wh EQ s σ H Q I h;refine isTrue_and (aA (ha EQ s σ H Q I h) λc s1 e=>?_)
 cases c with
 |true=>exact isTrue_and_nil e
 |false=>exact e
theorem iu(ha:PT X a tA):PW X (.BoolOp .Or [a] pos) tA:=by
 intro wh EQ s σ H Q I h;refine isTrue_or (aA (ha EQ s σ H Q I h) λc s1 e=>?_)
 cases c with
 |false=>exact isTrue_or_nil e
 |true=>exact e
theorem cY(ha:PT X a tA)(hb:PW X (.BoolOp .And (b::ET) pos) tB'):PW X (.BoolOp .And (a::b::ET) pos) (xN tA tB'):=by
 intro wh EQ s σ H Q I h;refine isTrue_and (aA (ha EQ s σ H _ I h) λc s1 hsl5=>?_);obtain⟨H1,I1,q1⟩:=hsl5
 cases c with
 |true=>exact hb wh EQ s1 σ H1 Q I1 q1
 |false=>exact⟨H1,I1,q1⟩
theorem gH(ha:PT X a tA)(hb:PW X (.BoolOp .Or (b::ET) pos) tB'):PW X (.BoolOp .Or (a::b::ET) pos) (xO tA tB'):=by
 intro wh EQ s σ H Q I h;refine isTrue_or (aA (ha EQ s σ H _ I h) λc s1 hsl6=>?_);obtain⟨H1,I1,q1⟩:=hsl6
 cases c with
 |true=>exact⟨H1,I1,q1⟩
 |false=>exact hb wh EQ s1 σ H1 Q I1 q1
def xP(ta tb:TE):TE:=λσ H Q=>ta σ H λx H1=>∃c,x=.bl c/\if c=true then tb σ H1 Q else Q (.bl false) H1
theorem xQ{op}{t:TE}(h:PE X a t):PE X (.BoolOp op [a] pos) t:=λEQ s σ H Q I hw=>BoolOp_one (h EQ s σ H Q I hw)
theorem xR(ha:PE X a ta)(hb:PE X (.BoolOp .And (b::ET) pos) tb):PE X (.BoolOp .And (a::b::ET) pos) (xP ta tb):=by
 intro EQ s σ H Q I h;refine BoolOp_and (aA (ha EQ s σ H _ I h) λv s1 hsl7=>?_);obtain⟨x,H1,I1,r1,q1⟩:=hsl7;obtain⟨c,rfl,q1⟩:=q1;cases r1;refine wpAny_truthy_bool ?_
 cases c with
 |true=>exact hb EQ s1 σ H1 Q I1 q1
 |false=>exact⟨.bl false,H1,I1,rfl,q1⟩
def xS(t:TT)(ta tb:TE):TE:=λσ H Q=>t σ H λc H1=>if c=true then ta σ H1 Q else tb σ H1 Q
theorem kG{c:Expr}(hc:PT X c tA)(ha:PE X a ta)(hb:PE X b tb):PE X (.IfExp c a b pos) (xS tA ta tb):=by
 intro EQ s σ H Q I h;refine wpAny_IfExp (aA (hc EQ s σ H _ I h) λd s1 hsl8=>?_);obtain⟨H1,I1,q1⟩:=hsl8
 cases d with
 |true=>exact ha EQ s1 σ H1 Q I1 q1
 |false=>exact hb EQ s1 σ H1 Q I1 q1
end
def ak(K:PySem.W.Frag)(H:Hp)(a:Addr)(xs:List V):Prop:=
 Rd H a (.lst xs) ∨
  ∃(o:Obj) (its:Array Value) (n:Nat),K.lookup a=some o/\o.cls=.type "list"/\o.dict=none/\o.data=.seq its n/\its.size<=sizeLine/\aw xs its.toList
def aq(K:PySem.W.Frag)(H:Hp)(a:Addr)(xs:List V):Prop:=
 Rd H a (.tup xs) ∨
  ∃(o:Obj) (its:Array Value) (n:Nat),K.lookup a=some o/\o.cls=.type "tuple"/\o.data=.seq its n/\its.size<=sizeLine/\aw xs its.toList
noncomputable def xT:Value->Option V
 |.none=>some .non
 |.bool b=>some (.bl b)
 |.int i _=>some (.int i)
 |.str x _=>some (.str x)
 |.bytes b _=>some (.byt b)
 |.float b _=>some (.flt b)
 |.ref a=>some (.ref a)
 |.type n=>some (.ty n)
 |_=>none
theorem RelV.abs{x:V}{u:Value}(r:RelV x u):xT u=some x:=by
 cases x with
 |non=>cases r;rfl
 |bl _=>cases r;rfl
 |int _=>obtain⟨t,rfl⟩:=r;rfl
 |str _=>obtain⟨t,rfl⟩:=r;rfl
 |byt _=>obtain⟨t,rfl⟩:=r;rfl
 |flt _=>obtain⟨t,rfl⟩:=r;rfl
 |ref _=>cases r;rfl
 |ty _=>cases r;rfl
theorem RelV.inj{x y:V}{u:Value}(r:RelV x u)(q:RelV y u):x=y:=Qo (r.abs.symm.trans q.abs)
theorem aw.inj:∀{xs ys:List V} {us:List Value},aw xs us->aw ys us->xs=ys
 |_,_,_,.nil,.nil=>rfl
 |_,_,_,.cons r t,.cons r' t'=>by rw[r.inj r',aw.inj t t']
section
variable {X:Cx}{EQ:List (Addr×Obj)}{σ:St}{H:Hp}{s:Shared}{a:Addr}{xs ys:List V}
theorem ak.of{K:PySem.W.Frag}(h:H a=some (.lst xs)):ak K H a xs:=.inl (.inl h)
theorem aq.of{K:PySem.W.Frag}(h:H a=some (.tup xs)):aq K H a xs:=.inl (.inl h)
theorem Inv.list(I:Inv X EQ σ H s)(h:ak X.K H a xs):∃its:List Value,aw xs its/\PlainL s.heap a its.toArray/\xs.length<=sizeLine:=by
 rcases h with h|⟨o,its,n,hk,hc,hd,hs,hz,r⟩
 ·obtain⟨z,its,n,r,e⟩:=h.ok I.hok;exact⟨its,r,⟨_,n,e,rfl,rfl,rfl⟩,z⟩
 ·refine⟨its.toList,r,⟨o,n,I.kIn a o hk,hc,hd,by simpa using hs⟩,?_⟩;have e:=r.length;simp only[QB] at e;lia
theorem Inv.tuple(I:Inv X EQ σ H s)(h:aq X.K H a xs):∃its:List Value,aw xs its/\IsTup s.heap a its.toArray/\xs.length<=sizeLine:=by
 rcases h with h|⟨o,its,n,hk,hc,hs,hz,r⟩
 ·obtain⟨z,its,r,p,_⟩:=h.ok I.hok;exact⟨its,r,p,z⟩
 ·refine⟨its.toList,r,⟨o,I.kIn a o hk,hc,n,by simpa using hs⟩,?_⟩;have e:=r.length;simp only[QB] at e;lia
theorem Inv.list_inj(I:Inv X EQ σ H s)(h:ak X.K H a xs)(h':ak X.K H a ys):xs=ys:=by
 obtain⟨its,r,⟨o,n,e,_,_,d⟩,_⟩:=I.list h;obtain⟨its',r',⟨o',n',e',_,_,d'⟩,_⟩:=I.list h';rw[e] at e';cases e';rw[d] at d';injection d' with d1 _;have:its=its':=by simpa using congrArg Array.toList d1
 subst this;exact r.inj r'
theorem Inv.tuple_inj(I:Inv X EQ σ H s)(h:aq X.K H a xs)(h':aq X.K H a ys):xs=ys:=by
 obtain⟨its,r,⟨o,e,_,n,d⟩,_⟩:=I.tuple h;obtain⟨its',r',⟨o',e',_,n',d'⟩,_⟩:=I.tuple h';rw[e] at e';cases e';rw[d] at d';injection d' with d1 _;have:its=its':=by simpa using congrArg Array.toList d1
 subst this;exact r.inj r'
end
noncomputable abbrev Cx.wish(X:Cx)(E:Value->Shared->Prop):Cx:={X with xe:=E}
noncomputable abbrev Cx.nox(X:Cx):Cx:=X.wish λ_ _=>False
theorem Cx.Ok.wish{X:Cx}(ok:X.Ok)(E:Value->Shared->Prop):(X.wish E).Ok:=
 ⟨ok.mod,ok.kind,ok.glob,ok.blt,ok.above,ok.inj,ok.has,ok.cab,ok.hd,ok.frames,ok.stk,ok.exf,ok.bs,ok.bsz,ok.noex,ok.exfs,ok.funs,ok.frf⟩
theorem Cx.Ok.unwish{X:Cx}{E:Value->Shared->Prop}(ok:(X.wish E).Ok):X.Ok:=
 ⟨ok.mod,ok.kind,ok.glob,ok.blt,ok.above,ok.inj,ok.has,ok.cab,ok.hd,ok.frames,ok.stk,ok.exf,ok.bs,ok.bsz,ok.noex,ok.exfs,ok.funs,ok.frf⟩
section
variable {X:Cx}{EQ:List (Addr×Obj)}{σ:St}{H:Hp}{s:Shared}{E:Value->Shared->Prop}
theorem Inv.wish(I:Inv X EQ σ H s)(E:Value->Shared->Prop):Inv (X.wish E) EQ σ H s:=⟨I.ok.wish E,I.os,I.bare,I.base,I.loc,I.cell,I.free,I.freeC,I.pin,I.hok,I.len⟩
theorem Inv.unwish(I:Inv (X.wish E) EQ σ H s):Inv X EQ σ H s:=⟨I.ok.unwish,I.os,I.bare,I.base,I.loc,I.cell,I.free,I.freeC,I.pin,I.hok,I.len⟩
theorem SP.unwish{D:cK}{f:Flow}{s':Shared}(h:SP (X.wish E) EQ D f s'):SP X EQ D f s':=by
 cases f with
 |next=>obtain⟨σ',H',I,q⟩:=h;exact⟨σ',H',I.unwish,q⟩
 |brk=>obtain⟨σ',H',I,q⟩:=h;exact⟨σ',H',I.unwish,q⟩
 |cont=>obtain⟨σ',H',I,q⟩:=h;exact⟨σ',H',I.unwish,q⟩
 |ret u=>obtain⟨v,σ',H',I,r,q⟩:=h;exact⟨v,σ',H',I.unwish,r,q⟩
theorem eC.nox{st:List Stmt}{t:TS}(h:eC X.nox st t):eC X st t:=λEQ s σ H D I hw =>
 QW (h EQ s σ H D (I.wish _) hw) (λ_ _ q=>q.unwish) λ_ _ z=>False.elim z
end
section
variable {X:Cx}{st:Stmt}{ET:List Stmt}{t u:TS}{e:Expr}{te:TE}{pos:Pos}
def xU:TS:=λD σ H=>D.nx σ H
def iw(t u:TS):TS:=λD σ H=>t {D with nx:=u D} σ H
theorem a9:eC X [] xU:=λ_ _ σ H _ I h=>wpAny_execs_nil ⟨σ,H,I,h⟩
theorem ar(h1:PS X st t)(h2:eC X ET u):eC X (st::ET) (iw t u):=by
 intro EQ s σ H D I h;refine wpAny_execs_cons (aA (h1 EQ s σ H {D with nx:=u D} I h) λf s1 q=>?_)
 cases f with
 |next =>
  obtain⟨σ',H',I',q⟩:=q;exact h2 EQ s1 σ' H' D I' q
 |ret v=>exact q
 |brk=>exact q
 |cont=>exact q
theorem am(h1:PS X st t):eC X [st] t:=by
 intro EQ s σ H D I h;refine wpAny_execs_cons (aA (h1 EQ s σ H D I h) λf s1 q=>?_)
 cases f with
 |next=>exact wpAny_execs_nil q
 |ret v=>exact q
 |brk=>exact q
 |cont=>exact q
theorem Inv.quiet{EQ:List (Addr×Obj)}{σ:St}{H:Hp}{s:Shared}(I:Inv X EQ σ H s):interactive X.env=false:=by simp[interactive,I.ok.kind]
def xV(te:TE):TS:=λD σ H=>te σ H λ_ H1=>D.nx σ H1
theorem bV(he:PE X e te)(hs:swapsWith e none pos.line X.env=pure false:=by rfl):PS X (.Expr e pos) (xV te):=by intro EQ s σ H D I h;exact wpAny_Expr_any (aA (he EQ s σ H _ I h) λv s1 hsl11=>by obtain⟨x,H1,I1,r1,q1⟩:=hsl11;exact⟨σ,H1,I1,q1⟩) I.quiet hs
def xW(te:TE):TS:=λD σ H=>te σ H D.rt
theorem aP(he:PE X e te):PS X (.Return (some e) pos) (xW te):=by intro EQ s σ H D I h;exact wpAny_Return_some (aA (he EQ s σ H _ I h) λv s1 hsl12=>by obtain⟨x,H1,I1,r1,q1⟩:=hsl12;exact⟨x,σ,H1,I1,r1,q1⟩)
def gI(c:TT)(t u:TS):TS:=λD σ H=>c σ H λb H1=>if b=true then t D σ H1 else u D σ H1
theorem aS{c:Expr}{a b:List Stmt}{tc:TT}(hc:PT X c tc)(ha:eC X a t)(hb:eC X b u):PS X (.If c a b pos) (gI tc t u):=by
 intro EQ s σ H D I h;refine wpAny_If (aA (hc EQ s σ H _ I h) λd s1 hsl13=>?_);obtain⟨H1,I1,q1⟩:=hsl13
 cases d with
 |true=>exact ha EQ s1 σ H1 D I1 q1
 |false=>exact hb EQ s1 σ H1 D I1 q1
end
abbrev TG:=V->St->Hp->(St->Hp->Prop)->Prop
abbrev gJ:=List V->St->Hp->(St->Hp->Prop)->Prop
def PG(X:Cx)(target:Expr)(t:TG):Prop:=
 ∀(EQ:List (Addr×Obj)) (s:Shared) (σ:St) (H:Hp) (v:V) (u:Value) (Q:St->Hp->Prop),Inv X EQ σ H s->RelV v u->t v σ H Q ->
  wpAny (model X.prog X.w) X.A (assign target X.env u) (λ_ s'=>∃σ' H',Inv X EQ σ' H' s'/\Q σ' H') X.xe s
def jz(X:Cx)(ts:List Expr)(t:gJ):Prop:=
 ∀(EQ:List (Addr×Obj)) (s:Shared) (σ:St) (H:Hp) (vs:List V) (us:List Value) (Q:St->Hp->Prop),Inv X EQ σ H s->aw vs us->t vs σ H Q ->
  wpAny (model X.prog X.w) X.A (assignInOrder ((assignEach ts X.env).map (·.2)) us) (λ_ s'=>∃σ' H',Inv X EQ σ' H' s'/\Q σ' H') X.xe s
section
variable {X:Cx}{pos:Pos}
def aR(i:Nat):TG:=λv σ H Q=>Q (σ.set i (some v)) H
theorem ba{i:Nat}{x:Str}(hN:X.N.Nodup)(hi:X.N[i]?=some x)(hx:Loc X.env.scope x)(hf:X.fn x=true∨X.env.scope.names.lookup x=some .local:=by first|exact .inl rfl|exact .inr rfl|assumption):PG X (.Name x pos) (aR i):=by intro EQ s σ H v u Q I r h;exact wpAny_assign_Name (pS I hN hi hx r (λs' I'=>⟨_,H,I',h⟩) hf)
def xX:gJ:=λvs σ H Q=>vs=[]/\Q σ H
inductive pT (t:TG) (u:gJ) (vs:List V) (σ:St) (H:Hp) (Q:St->Hp->Prop):Prop
 |mk:∀v r,vs=v::r->(t v σ H λσ' H'=>u r σ' H' Q)->pT t u vs σ H Q
theorem dz:jz X [] xX:=by intro EQ s σ H vs us Q I r h;obtain⟨e,h⟩:=h;subst e;cases r;exact assignInOrder_nil ⟨σ,H,I,h⟩
theorem bv{e:Expr}{es:List Expr}{t:TG}{u:gJ}(h1:PG X e t)(h2:jz X es u)
  (hs:(assignEach (e::es) X.env).map (·.2)=assign e X.env::(assignEach es X.env).map (·.2):=by rfl):jz X (e::es) (pT t u):=by
 intro EQ s σ H vs us Q I r h;obtain⟨v,vr,e1,h⟩:=h;subst e1
 cases r with
 |cons r rr =>
  rw[hs];refine assignInOrder_cons (aA (h1 EQ s σ H _ _ _ I r h) λ_ s1 hsl14=>?_);obtain⟨σ1,H1,I1,q1⟩:=hsl14;exact h2 EQ s1 σ1 H1 _ _ Q I1 rr q1
inductive mq (K:PySem.W.Frag) (n:Nat) (t:gJ) (v:V) (σ:St) (H:Hp) (Q:St->Hp->Prop):Prop
 |mk:∀a xs,v=.ref a->aq K H a xs->xs.length=n->t xs σ H Q->mq K n t v σ H Q
theorem xY{es:List Expr}{k:Nat}{t:gJ}{n:Nat}(hc:X.calm=true)(h:jz X es t)
  (hn:(assignEach es X.env).length=n:=by rfl) (hst:(assignEach es X.env).findIdx? (·.1)=none:=by rfl):PG X (.Tuple es k pos) (mq X.K n t):=by
 intro EQ s σ H v u Q I r hw;obtain⟨a,xs,e1,hq,hl,hw⟩:=hw;subst e1;cases r;obtain⟨its,rv,ht,hz⟩:=I.tuple hq;refine assign_Tuple_tuple (I.ok.hd hc) ht (by simp[hn,<-hl,rv.length]) hst λh' hx=>?_;have I1:Inv X EQ σ H {s with heap:=h'}:=I.kept (t':=s.toks) λb o e=>hx b o (QF (Qw e)) e;exact h EQ _ σ H xs _ Q I1 (by simpa using rv) hw
def jA(te:TE)(g:TG):TS:=λD σ H=>te σ H λx H1=>g x σ H1 D.nx
theorem mr{tg e:Expr}{te:TE}{g:TG}(he:PE X e te)(hg:PG X tg g)(hs:swapsWithSole [tg] e pos.line X.env=pure false:=by rfl)(hw:swappedStores [tg] e X.env=pure none:=by rfl)
  (h1:(assignEach [tg] X.env).map (·.2)=[assign tg X.env]:=by rfl):PS X (.Assign [tg] e pos) (jA te g):=by
 intro EQ s σ H D I h;refine wpAny_Assign_stores (aA (he EQ s σ H _ I h) λv s1 hsl15=>?_) hs hw;obtain⟨x,H1,I1,r1,q1⟩:=hsl15;rw[h1];exact aA (hg EQ s1 σ H1 x v _ I1 r1 q1) λ_ s2 q=>q
theorem aU{i:Nat}{x:Str}{e:Expr}{te:TE}{F3:Pos}(hN:X.N.Nodup)(hi:X.N[i]?=some x)(hx:Loc X.env.scope x)(he:PE X e te)(hs:swapsWith e (some (.Name x F3)) pos.line X.env=pure false:=by rfl)(hf:X.fn x=true∨X.env.scope.names.lookup x=some .local:=by first|exact .inl rfl|exact .inr rfl|assumption) :
  PS X (.Assign [.Name x F3] e pos) (jA te (aR i)):=by
 intro EQ s σ H D I h;refine wpAny_Assign_Name (aA (he EQ s σ H _ I h) λv s1 hsl16=>?_) hs;obtain⟨y,H1,I1,r1,q1⟩:=hsl16;exact pS I1 hN hi hx r1 (λs2 I2=>⟨_,H1,I2,q1⟩) hf
def ms(c:TT)(tb:TS):TS:=λD σ H=>∃W:Nat->St->Hp->Prop,(∃m,W m σ H)/\∀m σ H,W m σ H ->
 c σ H λb H1=>if b=true then ∃N:St->Hp->Prop,(∀σ' H',N σ' H'->∃m',m'<m/\W m' σ' H')/\tb {D with nx:=N,ct:=N,bk:=D.nx} σ H1 else D.nx σ H1
theorem xZ{c:Expr}{body:List Stmt}{tc:TT}{tb:TS}(hp:PassesOwn (model X.prog X.w) X.A X.env X.xe)(hc:PT X c tc)(hb:eC X body tb):PS X (.While c body [] pos) (ms tc tb):=by
 intro EQ s σ H D I h;obtain⟨W,⟨m0,w0⟩,turn⟩:=h;refine wpAny_While (codeAny_whileLoop (λn s'=>∃σ' H',Inv X EQ σ' H' s'/\W n σ' H') ?_ m0 ⟨σ,H,I,w0⟩);rintro n s1 ⟨σ1,H1,I1,w1⟩;refine wpAny_passesOwn hp (aA (hc EQ s1 σ1 H1 _ I1 (turn n σ1 H1 w1)) λb s2 hsl17=>?_);obtain⟨H2,I2,q2⟩:=hsl17
 cases b with
 |true =>
  obtain⟨N,hN,q2⟩:=q2;rw[if_pos rfl];refine wpAny_passesOwn hp (aA (hb EQ s2 σ1 H2 _ I2 q2) λf s3 q3=>?_)
  cases f with
  |next =>
   obtain⟨σ3,H3,I3,n3⟩:=q3;obtain⟨m',hm,w3⟩:=hN σ3 H3 n3;exact⟨m',hm,σ3,H3,I3,w3⟩
  |cont =>
   obtain⟨σ3,H3,I3,n3⟩:=q3;obtain⟨m',hm,w3⟩:=hN σ3 H3 n3;exact⟨m',hm,σ3,H3,I3,w3⟩
  |brk=>exact q3
  |ret v=>exact q3
 |false =>
  rw[if_neg QG];exact wpAny_execs_nil ⟨σ1,H2,I2,q2⟩
end
structure It where
 go:Nat->Hp->Prop
 yld:Nat->Hp->V->Hp->Prop
 stop:Nat->Hp->Prop
def cR(X:Cx)(EQ:List (Addr×Obj))(H:Hp)(b:Addr):Prop:=
 H b=none/\b≠X.env.locals/\b∉X.fs/\(b∈X.ex∨X.s₀.heap.objs.size<=b)/\(∀x c,X.env.cells.lookup x=some c->c≠b)/\∀p∈X.pn++EQ,p.1≠b
theorem Inv.fpOk{X:Cx}{EQ:List (Addr×Obj)}{σ:St}{H H':Hp}{s:Shared}{b:Addr}(I:Inv X EQ σ H s)(hb:s.heap.objs.size<=b)(hn:H' b=none):cR X EQ H' b:=by
 refine⟨hn,Nat.ne_of_gt (QO I.lt hb),I.nofs hb,.inr (QK I.sz hb),λx c e z=>?_,λp hp z=>?_⟩
 ·obtain⟨v,q⟩:=I.cell x c e;exact absurd (QO q.lt (by rw[z];exact hb)) (Nat.lt_irrefl _)
 ·exact absurd (QO (Qw (I.pin p hp).1) (by rw[z];exact hb)) (Nat.lt_irrefl _)
structure fm(P:Program)(w:World)(K:PySem.W.Frag)(tg:Expr)(J:It)(fp:List Addr)(it:Addr)(tn:Nat->Heap->Prop):Prop where
 mem:it∈fp
 obj:∀i h,tn i h->∀b∈fp,∃o,h.get? b=some o/\∀v,o.data≠.cell v
 keep:∀i h h',tn i h->(∀b∈fp,∀o,h.get? b=some o->h'.get? b=some o)->tn i h'
 item:∀(X:Cx),X.prog=P->X.w=w->X.K=K->X.calm=true->∀(i:Nat) (EQ:List (Addr×Obj)) (s:Shared) (σ:St) (H:Hp) (E:Value->Shared->Prop),Inv X EQ σ H s->(∀b∈fp,cR X EQ H b)->tn i s.heap->J.go i H ->
  wpAny (model P w) X.A (pyNext (.ref it)) (λr s1=>∃u,r=some u /\
   wpAny (model P w) X.A (letOwnedTupleGo tg (.ref it) u) (λ_ s2=>∃x H',Inv X EQ σ H' s2/\RelV x u/\J.yld i H x H'/\tn (i+1) s2.heap/\∀b∈fp,H' b=none) E s1) E s
 done:∀(X:Cx),X.prog=P->X.w=w->X.K=K->X.calm=true->∀(i:Nat) (EQ:List (Addr×Obj)) (s:Shared) (σ:St) (H:Hp) (E:Value->Shared->Prop),Inv X EQ σ H s->(∀b∈fp,cR X EQ H b)->tn i s.heap->J.stop i H ->
  wpAny (model P w) X.A (pyNext (.ref it)) (λr s1=>r=none/\Inv X EQ σ H s1) E s
 self:∀(A:Around) (i:Nat) (s:Shared) (Q:Value->Shared->Prop) (E:Value->Shared->Prop),tn i s.heap->Q (.ref it) s->wpAny (model P w) A (pyIter (.ref it)) Q E s
abbrev TI:=St->Hp->(It->Hp->Prop)->Prop
def pU(X:Cx)(EQ:List (Addr×Obj))(σ:St)(tg:Expr)(R:It->Hp->Prop)(itv:Value)(s2:Shared):Prop:=
 ∃(it:Addr) (fp:List Addr) (tn:Nat->Heap->Prop) (J:It) (H':Hp),itv=.ref it/\Inv X EQ σ H' s2/\fm X.prog X.w X.K tg J fp it tn/\tn 0 s2.heap/\(∀b∈fp,cR X EQ H' b)/\R J H'
def PI(X:Cx)(tg iter:Expr)(wi:TI):Prop:=
 ∀(EQ:List (Addr×Obj)) (s:Shared) (σ:St) (H:Hp) (R:It->Hp->Prop),Inv X EQ σ H s->wi σ H R ->
  wpAny (model X.prog X.w) X.A (eval iter X.env) (λv s1=>wpAny (model X.prog X.w) X.A (pyIter v) (pU X EQ σ tg R) X.xe s1) X.xe s
theorem kH{M:Model}{A:Around}{E:Value->Shared->Prop}{s:Shared}{tg:Expr}{it:Addr}{u:Value}{o:Obj}{n:String}{vs:Array Value}{Q:Unit->Shared->Prop}(ho:s.heap.get? it=some o)(hc:o.cls=.type n)(hd:o.data=.fields vs)
  (hn:["enumerate","zip","dict_itemiterator","dict_reverseitemiterator","odict_iterator","itertools.zip_longest","itertools.pairwise"].contains n=false) (hQ:Q () s):wpAny M A (letOwnedTupleGo tg (.ref it) u) Q E s:=by
 unfold letOwnedTupleGo
 cases tg<;>first
  |exact Qd hQ
  | (cases u<;>first
    |exact Qd hQ
    | (refine Qb (wpAny_load ho ?_)
       rw[hc,hd];show wpAny M A (if(["enumerate","zip","dict_itemiterator","dict_reverseitemiterator","odict_iterator","itertools.zip_longest","itertools.pairwise"].contains n&&vs[0]? == some (rawInt _))=true then _ else _) Q E s;rw[if_neg (by intro h;rw[hn,Bool.false_and] at h;cases h)]
       exact Qd hQ))
noncomputable def eW(K:PySem.W.Frag)(a:Addr):It:=
 ⟨λi H=>∃xs x,ak K H a xs/\xs[i]?=some x,λi H x H'=>H'=H/\∀xs,ak K H a xs->xs[i]?=some x,λi H=>∃xs,ak K H a xs/\xs.length<=i⟩
noncomputable def eX(K:PySem.W.Frag)(a:Addr):It:=
 ⟨λi H=>∃xs x,aq K H a xs/\xs[i]?=some x,λi H x H'=>H'=H/\∀xs,aq K H a xs->xs[i]?=some x,λi H=>∃xs,aq K H a xs/\xs.length<=i⟩
noncomputable def eN(lo:Int)(n:Nat):It:=⟨λi _=>i<n,λi H x H'=>H'=H/\x=.int (lo+i),λi _=>n<=i⟩
theorem x0{P:Program}{w:World}{K:PySem.W.Frag}{tg:Expr}(a it:Addr):fm P w K tg (eW K a) [it] it (λi h=>h.IsListIter it a i) where
 mem:=by simp
 obj:=λi h st b hb=>by
  have e:b=it:=by simpa using hb
  subst e;obtain⟨o,e,c,d⟩:=st;exact⟨o,e,λv z=>by rw[d] at z;cases z⟩
 keep:=λi h h' st k=>st.at λo e=>k it (by simp) o e
 item:=by intro X hP hw hK hc i EQ s σ H E I hf st hg;subst hP hw hK;obtain⟨xs,x,hq,hx⟩:=hg;obtain⟨its,rv,p,hz⟩:=I.list hq;obtain⟨u,hu,ru⟩:=rv.get hx;obtain⟨f0,f1,f2,f3,f4,f5⟩:=hf it (by simp);refine wpAny_pyNext_list_item st p.isList (x:=u) (by simpa using hu) λh' Fi sb=>?_;have I1:Inv X EQ σ H {s with heap:=h'}:=I.turned (t':=s.toks) (λb o hb e=>(sb.2 b hb).trans e) f0 f1 f3 f4 f5;obtain⟨o,e,c,d⟩:=id Fi;exact⟨u,rfl,kH (s:={s with heap:=h'}) e c d (by decide) ⟨x,H,I1,ru,⟨rfl,λys hy=>by rw[I.list_inj hy hq];exact hx⟩,Fi,λb hb=>(hf b hb).1⟩⟩
 done:=by
  intro X hP hw hK hc i EQ s σ H E I hf st hg;subst hP hw hK;obtain⟨xs,hq,hx⟩:=hg;obtain⟨its,rv,p,hz⟩:=I.list hq;obtain⟨f0,f1,f2,f3,f4,f5⟩:=hf it (by simp);have hl:=rv.length
  exact wpAny_pyNext_list_end (I.ok.hd hc) st p.isList (by simp;lia) λh' eb=>⟨rfl,I.turned (t':=s.toks) (λb o hb e=>eb b o hb e) f0 f1 f3 f4 f5⟩
 self:=λ_ _ _ _ _ st h=>wpAny_pyIter_listiter st h
theorem ya{P:Program}{w:World}{K:PySem.W.Frag}{tg:Expr}(a it:Addr):fm P w K tg (eX K a) [it] it (λi h=>h.IsTupleIter it a i) where
 mem:=by simp
 obj:=λi h st b hb=>by
  have e:b=it:=by simpa using hb
  subst e;obtain⟨o,e,c,d⟩:=st;exact⟨o,e,λv z=>by rw[d] at z;cases z⟩
 keep:=λi h h' st k=>st.at λo e=>k it (by simp) o e
 item:=by intro X hP hw hK hc i EQ s σ H E I hf st hg;subst hP hw hK;obtain⟨xs,x,hq,hx⟩:=hg;obtain⟨its,rv,p,hz⟩:=I.tuple hq;obtain⟨u,hu,ru⟩:=rv.get hx;obtain⟨f0,f1,f2,f3,f4,f5⟩:=hf it (by simp);refine wpAny_pyNext_tuple_item st (show s.heap.IsTuple a its.toArray from p) (x:=u) (by simpa using hu) λh' Fi sb=>?_;have I1:Inv X EQ σ H {s with heap:=h'}:=I.turned (t':=s.toks) (λb o hb e=>(sb.2 b hb).trans e) f0 f1 f3 f4 f5;obtain⟨o,e,c,d⟩:=id Fi;exact⟨u,rfl,kH (s:={s with heap:=h'}) e c d (by decide) ⟨x,H,I1,ru,⟨rfl,λys hy=>by rw[I.tuple_inj hy hq];exact hx⟩,Fi,λb hb=>(hf b hb).1⟩⟩
 done:=by
  intro X hP hw hK hc i EQ s σ H E I hf st hg;subst hP hw hK;obtain⟨xs,hq,hx⟩:=hg;obtain⟨its,rv,p,hz⟩:=I.tuple hq;obtain⟨f0,f1,f2,f3,f4,f5⟩:=hf it (by simp);have hl:=rv.length
  exact wpAny_pyNext_tuple_end (I.ok.hd hc) st (show s.heap.IsTuple a its.toArray from p) (by simp;lia) λh' eb=>⟨rfl,I.turned (t':=s.toks) (λb o hb e=>eb b o hb e) f0 f1 f3 f4 f5⟩
 self:=λ_ _ _ _ _ st h=>wpAny_pyIter_tupleiter st h
theorem yb{P:Program}{w:World}{K:PySem.W.Frag}{tg:Expr}(it:Addr)(lo:Int)(n:Nat):fm P w K tg (eN lo n) [it] it (λi h=>IsRangeIter h it (lo+(i:Nat)*1) ((n:Int)-(i:Nat)) 1) where
 mem:=by simp
 obj:=λi h st b hb=>by
  have e:b=it:=by simpa using hb
  subst e
  exact⟨_,st,λv z=>by
   have z':Data.fields _=Data.cell v:=z
   cases z'⟩
 keep:=λi h h' st k=>k it (by simp) _ st
 item:=by intro X hP hw hK hc i EQ s σ H E I hf st hg;subst hP hw hK;obtain⟨f0,f1,f2,f3,f4,f5⟩:=hf it (by simp);have W:=Walks.range (prog:=X.prog) (w:=X.w) (I.ok.hd hc) it lo 1 n;refine W.item i s _ _ hg st λv h' tk hv Fi kk=>?_;obtain⟨t,rfl⟩:=hv;have I1:Inv X EQ σ H {s with heap:=h',toks:=tk}:=I.turned (λb o hb e=>kk b o (by simpa using hb) e) f0 f1 f3 f4 f5;refine⟨_,rfl,kH (s:={s with heap:=h',toks:=tk}) (n:="range_iterator") Fi rfl rfl (by decide) ⟨.int (lo+i),H,I1,⟨t,?_⟩,⟨rfl,rfl⟩,Fi,λb hb=>(hf b hb).1⟩⟩;rw[Int.mul_one]
 done:=by
  intro X hP hw hK hc i EQ s σ H E I hf st hg;subst hP hw hK;obtain⟨f0,f1,f2,f3,f4,f5⟩:=hf it (by simp)
  exact wpAny_pyNext_range_end (I.ok.hd hc) st (by have:n<=i:=hg;lia) λh' eb=>⟨rfl,I.turned (t':=s.toks) (λb o hb e=>eb b o hb e) f0 f1 f3 f4 f5⟩
 self:=λ_ _ _ _ _ st h=>wpAny_pyIter_rangeiter st h
section
variable {X:Cx}{tg:Expr}
def yc(K:PySem.W.Frag)(tl:TE):TI:=λσ H R=>tl σ H λx H1=>∃a,x=.ref a/\(∃xs,ak K H1 a xs)/\R (eW K a) H1
def yd(K:PySem.W.Frag)(tl:TE):TI:=λσ H R=>tl σ H λx H1=>∃a,x=.ref a/\(∃xs,aq K H1 a xs)/\R (eX K a) H1
theorem ye{EQ:List (Addr×Obj)}{σ:St}{H:Hp}{s:Shared}{R:It->Hp->Prop}{E:Value->Shared->Prop}{lo hi:Int}{t u v:Tok}{tk:Nat}(I:Inv X EQ σ H s)(h1:-(2^62)<=lo)(h2:lo<2^62)(h3:-(2^62)<=hi)(h4:hi<2^62)
  (q:R (eN lo (hi-lo).toNat) H):wpAny (model X.prog X.w) X.A (pyIter (.ref s.heap.objs.size)) (pU X EQ σ tg R) E {s with heap:=s.heap.push {cls:=.type "range",data:=.fields #[.int lo t,.int hi u,.int 1 v]},toks:=tk}:=by
 refine wpAny_pyIter_range (IsRange.new ..) (small_one h1 h2 h3 h4) ?_;have I1:Inv X EQ σ H {s with heap:=s.heap.push {cls:=.type "range",data:=.fields #[.int lo t,.int hi u,.int 1 v]},toks:=tk}:=I.kept λb o e=>Qe _ e
 refine⟨(s.heap.push {cls:=.type "range",data:=.fields #[.int lo t,.int hi u,.int 1 v]}).objs.size,[(s.heap.push {cls:=.type "range",data:=.fields #[.int lo t,.int hi u,.int 1 v]}).objs.size],_,_,H,rfl,
  I1.kept (t':=tk) λb o e=>Qe _ e,yb _ lo (hi-lo).toNat,?_,λb hb=>?_,q⟩
 ·have e1:lo+((0:Nat):Int)*1=lo:=by simp
  have e2:(((hi-lo).toNat:Nat):Int)-((0:Nat):Int)=Builtin.Range.rangeSize lo hi 1:=by rw[rangeSize_one];split<;>lia
  show IsRangeIter _ _ (lo+((0:Nat):Int)*1) ((((hi-lo).toNat:Nat):Int)-((0:Nat):Int)) 1;rw[e1,e2];exact Qu _ rfl
 ·have e:b=(s.heap.push {cls:=.type "range",data:=.fields #[.int lo t,.int hi u,.int 1 v]}).objs.size:=by simpa using hb
  subst e;exact I1.fpOk (Qh _) (I1.hok.fresh (Qh _))
def yf(ta:TA):TI:=λσ H R=>ta σ H λvs H1=>∃j:Int,vs=[.int j]/\-(2^62)<=j/\j<2^62/\R (eN 0 j.toNat) H1
theorem gK{a:Expr}{ta:TA}{p pos:Pos}(hg:Gl X "range")(hm:X.mg "range"=none)(ha:PA X [a] ta)(hs:starEach [a] X.env=[(false,eval a X.env)]:=by rfl):PI X tg (.Call (.Name "range" p) [a] [] pos) (yf ta):=by
 intro EQ s σ H R I h;refine Call_ (jy I hg hm boot_range (PyProof.Rows.callWith_type1 (aA (ha pos EQ s σ H _ I h) λus s1 hsl18=>?_) hs rfl));obtain⟨vs,H1,I1,r1,q1⟩:=hsl18;obtain⟨j,e,q1,q2,q⟩:=q1;subst e
 cases r1 with
 |cons r rr =>
  cases rr;obtain⟨t,rfl⟩:=r;exact call_range_1 (ye I1 (by lia) (by lia) q1 q2 (by simpa using q))
def mv(wi:TI)(g:TG)(tb:TS):TS:=λD σ H=>wi σ H λJ H1=>∃W:Nat->Nat->St->Hp->Prop,(∃m,W 0 m σ H1)/\∀i m σ H,W i m σ H ->
 (J.stop i H/\D.nx σ H)∨(J.go i H/\∃N:St->Hp->Prop,(∀σ' H',N σ' H'->∃m',m'<m/\W (i+1) m' σ' H')/\∀x H',J.yld i H x H'->g x σ H' λσ2 H2=>tb {D with nx:=N,ct:=N,bk:=D.nx} σ2 H2)
noncomputable def gL(fp:List Addr)(h:Heap):List (Addr×Obj):=fp.filterMap λb=>(h.get? b).map λo=>(b,o)
theorem gg{fp:List Addr}{h:Heap}{b:Addr}{o:Obj}(hb:b∈fp)(e:h.get? b=some o):(b,o)∈gL fp h:=List.mem_filterMap.mpr ⟨b,hb,by rw[e];rfl⟩
theorem pV{fp:List Addr}{h:Heap}{p:Addr×Obj}(hp:p∈gL fp h):p.1∈fp/\h.get? p.1=some p.2:=by
 obtain⟨b,hb,e⟩:=List.mem_filterMap.mp hp
 cases q:h.get? b with
 |none=>rw[q] at e;cases e
 |some o =>
  rw[q] at e;have e':(b,o)=p:=Qo e;subst e';exact⟨hb,q⟩
theorem Inv.pinned{EQ:List (Addr×Obj)}{σ:St}{H:Hp}{s:Shared}{fp:List Addr}(I:Inv X EQ σ H s)(hf:∀b∈fp,cR X EQ H b)(ho:∀b∈fp,∃o,s.heap.get? b=some o/\∀v,o.data≠.cell v):Inv X (EQ++gL fp s.heap) σ H s:=
 I.pins_of λp hp=>(Qq hp).elim (λz=>I.pin p (QE _ z)) λz=>by obtain⟨hb,e⟩:=pV z;obtain⟨f0,f1,f2,_⟩:=hf p.1 hb;obtain⟨o,e',d⟩:=ho p.1 hb;rw[e] at e';cases e';exact⟨e,f0,f1,f2,d⟩
theorem Inv.unpinned{EQ pl:List (Addr×Obj)}{σ:St}{H:Hp}{s:Shared}(I:Inv X (EQ++pl) σ H s):Inv X EQ σ H s:=I.pins_of λp hp=>I.pin p (QE _ (List.mem_append_left _ hp))
theorem db{iter:Expr}{body:List Stmt}{wi:TI}{g:TG}{tb:TS}{pos:Pos}(hp:PassesOwn (model X.prog X.w) X.A X.env X.xe)(hc:X.calm=true)(hi:PI X tg iter wi)(hg:PG X tg g)(hb:eC X body tb)
  (hs:∀x,foldedSetIterable iter X.env x=pure x:=by intro _;rfl):PS X (.For tg iter body [] pos) (mv wi g tb):=by
 intro EQ s σ H D I h;refine wpAny_For (aA (hi EQ s σ H _ I h) λv s1 h1=>aA h1 λitv s2 h2=>?_) hs;obtain⟨it,fp,tn,J,H2,e,I2,T,Ht,f2,W,⟨m0,w0⟩,turn⟩:=h2;subst e
 have stat:∀{H':Hp},(∀b∈fp,H' b=none)->∀b∈fp,cR X EQ H' b:=λhn b hb=>⟨hn b hb,(f2 b hb).2⟩
 refine codeAny_forLoop_any (λn s'=>∃i σ' H',Inv X EQ σ' H' s'/\tn i s'.heap/\(∀b∈fp,H' b=none)/\W i n σ' H') ?_ m0 ⟨0,σ,H2,I2,Ht,λb hb=>(f2 b hb).1,w0⟩;rintro n s3 ⟨i,σ3,H3,I3,st3,fr3,w3⟩
 rcases turn i n σ3 H3 w3 with ⟨stop,qn⟩|⟨go,N,hN,step⟩
 ·refine wpAny_passesOwn hp (aA (T.done X rfl rfl rfl hc i EQ s3 σ3 H3 X.xe I3 (stat fr3) st3 stop) λr s4 hsl19=>?_);obtain⟨hr,I4⟩:=hsl19;subst hr;exact wpAny_execs_nil ⟨σ3,H3,I4,qn⟩
 ·refine wpAny_passesOwn hp (aA (T.item X rfl rfl rfl hc i EQ s3 σ3 H3 X.xe I3 (stat fr3) st3 go) λr s4 hsl20=>?_);obtain⟨u,hr,h4⟩:=hsl20;subst hr;refine wpAny_passesOwn hp (aA h4 λ_ s5 hsl21=>?_);obtain⟨x,H5,I5,r5,y5,st5,fr5⟩:=hsl21;have I5':=I5.pinned (stat fr5) (T.obj _ _ st5);refine wpAny_passesOwn hp (aA (hg _ s5 σ3 H5 x u _ I5' r5 (step x H5 y5)) λ_ s6 hsl22=>?_);obtain⟨σ6,H6,I6,q6⟩:=hsl22;refine wpAny_passesOwn hp (aA (hb _ s6 σ6 H6 _ I6 q6) λf s7 q7=>?_);have again:∀{σ7:St} {H7:Hp},Inv X (EQ++gL fp s5.heap) σ7 H7 s7->N σ7 H7->∃m,m<n/\∃i σ' H',Inv X EQ σ' H' s7/\tn i s7.heap/\(∀b∈fp,H' b=none)/\W i m σ' H':=λ{σ7 H7} I7 n7=>by obtain⟨m',hm,w7⟩:=hN σ7 H7 n7;refine⟨m',hm,i+1,σ7,H7,I7.unpinned,T.keep _ _ _ st5 λb hb o e=>(I7.pin (b,o) (QE _ (QE _ (gg hb e)))).1,λb hb=>?_,w7⟩;obtain⟨o,e,d⟩:=T.obj _ _ st5 b hb;exact(I7.pin (b,o) (QE _ (QE _ (gg hb e)))).2.1
  cases f with
  |next=>obtain⟨σ7,H7,I7,n7⟩:=q7;exact again I7 n7
  |cont=>obtain⟨σ7,H7,I7,n7⟩:=q7;exact again I7 n7
  |brk=>obtain⟨σ7,H7,I7,q7⟩:=q7;exact⟨σ7,H7,I7.unpinned,q7⟩
  |ret v=>obtain⟨x7,σ7,H7,I7,r7,q7⟩:=q7;exact⟨x7,σ7,H7,I7.unpinned,r7,q7⟩
end
theorem pW{K:PySem.W.Frag}{a:Addr}{xs:List V}{g:TG}{tb:TS}{D:cK}{σ:St}{H:Hp}(Pv:Nat->St->Hp->Prop)(h0:Pv 0 σ H)(hl:∀i σ H,i<=xs.length->Pv i σ H->ak K H a xs)
  (hs:∀i x σ H,xs[i]?=some x->Pv i σ H->g x σ H λσ2 H2=>tb {D with nx:=Pv (i+1),ct:=Pv (i+1),bk:=D.nx} σ2 H2) (hd:∀σ H,Pv xs.length σ H->D.nx σ H) :
  ∃W:Nat->Nat->St->Hp->Prop,(∃m,W 0 m σ H)/\∀i m σ H,W i m σ H ->
   ((eW K a).stop i H/\D.nx σ H)∨((eW K a).go i H/\∃N:St->Hp->Prop,(∀σ' H',N σ' H'->∃m',m'<m/\W (i+1) m' σ' H')/\∀x H',(eW K a).yld i H x H'->g x σ H' λσ2 H2=>tb {D with nx:=N,ct:=N,bk:=D.nx} σ2 H2):=by
 refine⟨λi m σ H=>m=xs.length-i/\i<=xs.length/\Pv i σ H,⟨xs.length,by simp,QC _,h0⟩,?_⟩;rintro i m σ H ⟨rfl,hi,p⟩;have q:=hl i σ H hi p;by_cases EX:i<xs.length
 ·refine .inr ⟨⟨xs,xs[i],q,by simp[EX]⟩,Pv (i+1),λσ' H' p'=>⟨xs.length-(i+1),by omega,rfl,EX,p'⟩,λx H' y=>?_⟩;obtain⟨e,y⟩:=y;subst e;exact hs i x σ _ (y xs q) p
 ·have e:i=xs.length:=by omega
  subst e;exact .inl ⟨⟨xs,q,Qh _⟩,hd σ H p⟩
theorem yg{K:PySem.W.Frag}{a:Addr}{xs:List V}{g:TG}{tb:TS}{D:cK}{σ:St}{H:Hp}(Pv:Nat->St->Hp->Prop)(h0:Pv 0 σ H)(hl:∀i σ H,i<=xs.length->Pv i σ H->aq K H a xs)
  (hs:∀i x σ H,xs[i]?=some x->Pv i σ H->g x σ H λσ2 H2=>tb {D with nx:=Pv (i+1),ct:=Pv (i+1),bk:=D.nx} σ2 H2) (hd:∀σ H,Pv xs.length σ H->D.nx σ H) :
  ∃W:Nat->Nat->St->Hp->Prop,(∃m,W 0 m σ H)/\∀i m σ H,W i m σ H ->
   ((eX K a).stop i H/\D.nx σ H)∨((eX K a).go i H/\∃N:St->Hp->Prop,(∀σ' H',N σ' H'->∃m',m'<m/\W (i+1) m' σ' H')/\∀x H',(eX K a).yld i H x H'->g x σ H' λσ2 H2=>tb {D with nx:=N,ct:=N,bk:=D.nx} σ2 H2):=by
 refine⟨λi m σ H=>m=xs.length-i/\i<=xs.length/\Pv i σ H,⟨xs.length,by simp,QC _,h0⟩,?_⟩;rintro i m σ H ⟨rfl,hi,p⟩;have q:=hl i σ H hi p;by_cases EX:i<xs.length
 ·refine .inr ⟨⟨xs,xs[i],q,by simp[EX]⟩,Pv (i+1),λσ' H' p'=>⟨xs.length-(i+1),by omega,rfl,EX,p'⟩,λx H' y=>?_⟩;obtain⟨e,y⟩:=y;subst e;exact hs i x σ _ (y xs q) p
 ·have e:i=xs.length:=by omega
  subst e;exact .inl ⟨⟨xs,q,Qh _⟩,hd σ H p⟩
theorem pX{lo:Int}{n:Nat}{g:TG}{tb:TS}{D:cK}{σ:St}{H:Hp}(Pv:Nat->St->Hp->Prop)(h0:Pv 0 σ H)
  (hs:∀i σ H,i<n->Pv i σ H->g (.int (lo+i)) σ H λσ2 H2=>tb {D with nx:=Pv (i+1),ct:=Pv (i+1),bk:=D.nx} σ2 H2) (hd:∀σ H,Pv n σ H->D.nx σ H) :
  ∃W:Nat->Nat->St->Hp->Prop,(∃m,W 0 m σ H)/\∀i m σ H,W i m σ H ->
   ((eN lo n).stop i H/\D.nx σ H)∨((eN lo n).go i H/\∃N:St->Hp->Prop,(∀σ' H',N σ' H'->∃m',m'<m/\W (i+1) m' σ' H')/\∀x H',(eN lo n).yld i H x H'->g x σ H' λσ2 H2=>tb {D with nx:=N,ct:=N,bk:=D.nx} σ2 H2):=by
 refine⟨λi m σ H=>m=n-i/\i<=n/\Pv i σ H,⟨n,by simp,QC _,h0⟩,?_⟩;rintro i m σ H ⟨rfl,hi,p⟩;by_cases EX:i<n
 ·refine .inr ⟨EX,Pv (i+1),λσ' H' p'=>⟨n-(i+1),by omega,rfl,EX,p'⟩,λx H' y=>?_⟩;obtain⟨e,y⟩:=y;subst e y;exact hs i σ _ EX p
 ·have e:i=n:=by omega
  subst e;exact .inl ⟨Qh _,hd σ H p⟩
abbrev R2:=V->V->Hp->VK->Prop
def bR(X:Cx)(f:Value->Value->Sem Value)(r:R2):Prop:=
 ∀(EQ:List (Addr×Obj)) (s:Shared) (σ:St) (H:Hp) (x y:V) (v u:Value) (Q:VK),Inv X EQ σ H s->RelV x v->RelV y u->r x y H Q ->
  wpAny (model X.prog X.w) X.A (f v u) (EP X EQ σ Q) X.xe s
def mw(X:Cx)(f:Value->Sem Value)(r:V->Hp->VK->Prop):Prop:=
 ∀(EQ:List (Addr×Obj)) (s:Shared) (σ:St) (H:Hp) (x:V) (v:Value) (Q:VK),Inv X EQ σ H s->RelV x v->r x H Q ->
  wpAny (model X.prog X.w) X.A (f v) (EP X EQ σ Q) X.xe s
def dA(X:Cx)(f:Value)(r:List V->Hp->VK->Prop):Prop:=
 ∀(EQ:List (Addr×Obj)) (s:Shared) (σ:St) (H:Hp) (xs:List V) (us:List Value) (Q:VK),Inv X EQ σ H s->aw xs us->r xs H Q ->
  wpAny (model X.prog X.w) X.A (call f us) (EP X EQ σ Q) X.xe s
def gM(r:R2)(ta tb:TE):TE:=λσ H Q=>ta σ H λx H1=>tb σ H1 λy H2=>r x y H2 Q
def yh(r:V->Hp->VK->Prop)(ta:TE):TE:=λσ H Q=>ta σ H λx H1=>r x H1 Q
inductive rI (C:Int->Int->Prop) (g:Int->Int->V) (x y:V) (H:Hp) (Q:VK):Prop
 |mk:∀i j,x=.int i->y=.int j->C i j->Q (g i j) H->rI C g x y H Q
inductive fq (g:Int->Int->V) (x y:V) (H:Hp) (Q:VK):Prop
 |mk:∀i j,x=.int i->y=.int j->Q (g i j) H->fq g x y H Q
inductive rU (g:Int->V) (x:V) (H:Hp) (Q:VK):Prop
 |mk:∀i,x=.int i->Q (g i) H->rU g x H Q
section
variable {X:Cx}{a b c:Expr}{ta tb tc:TE}{pos:Pos}
theorem mx(ha:PE X a ta)(hb:PE X b tb){EQ:List (Addr×Obj)}{s:Shared}{σ:St}{H:Hp}{R:V->V->Hp->Prop}(I:Inv X EQ σ H s)
  (h:ta σ H λx H1=>tb σ H1 λy H2=>R x y H2) {Q:Value->Shared->Prop} {f:Value->Value->Sem Value}
  (hf:∀v u s2 x y H2,Inv X EQ σ H2 s2->RelV x v->RelV y u->R x y H2->wpAny (model X.prog X.w) X.A (f v u) Q X.xe s2) :
  wpAny (model X.prog X.w) X.A (eval a X.env) (λv s₁=>wpAny (model X.prog X.w) X.A (eval b X.env) (λu s₂=>wpAny (model X.prog X.w) X.A (f v u) Q X.xe s₂) X.xe s₁) X.xe s:=by
 refine aA (ha EQ s σ H _ I h) λv s1 hsl23=>?_;obtain⟨x,H1,I1,r1,q1⟩:=hsl23;refine aA (hb EQ s1 σ H1 _ I1 q1) λu s2 hsl24=>?_;obtain⟨y,H2,I2,r2,q2⟩:=hsl24;exact hf v u s2 x y H2 I2 r1 r2 q2
theorem aD{op:Operator}{r:R2}(ho:bR X (binaryOp op) r)(ha:PE X a ta)(hb:PE X b tb):PE X (.BinOp a op b pos) (gM r ta tb):=by intro EQ s σ H Q I h;exact wpAny_BinOp (mx ha hb I h λv u s2 x y H2 I2 rx ry q=>ho EQ s2 σ H2 x y v u Q I2 rx ry q)
theorem my{op:UnaryOp}{r:V->Hp->VK->Prop}(ho:mw X (unaryOp op) r)(ha:PE X a ta):PE X (.UnaryOp op a pos) (yh r ta):=by intro EQ s σ H Q I h;exact UnaryOp_ (aA (ha EQ s σ H _ I h) λv s1 hsl25=>by obtain⟨x,H1,I1,r1,q1⟩:=hsl25;exact ho EQ s1 σ H1 x v Q I1 r1 q1)
theorem kI{f:Value->Value->Sem Value}{C:Int->Int->Prop}{g:Int->Int->Int}
  (rule:∀(i j:Int) (t u:Tok) (s:Shared) (Q:Value->Shared->Prop) (E:Value->Shared->Prop),C i j->Q (.int (g i j) s.toks) {s with toks:=s.toks+1}->wpAny (model X.prog X.w) X.A (f (.int i t) (.int j u)) Q E s) :
  bR X f (rI C λi j=>.int (g i j)):=by
 intro EQ s σ H x y v u Q I rx ry h;obtain⟨i,j,rfl,rfl,hc,q⟩:=h;obtain⟨t,rfl⟩:=rx;obtain⟨t',rfl⟩:=ry;exact rule i j t t' s _ _ hc ⟨.int (g i j),H,I.tok _,⟨_,rfl⟩,q⟩
theorem jB{f:Value->Value->Sem Value}{g:Int->Int->Int}
  (rule:∀(i j:Int) (t u:Tok) (s:Shared) (Q:Value->Shared->Prop) (E:Value->Shared->Prop),Q (.int (g i j) s.toks) {s with toks:=s.toks+1}->wpAny (model X.prog X.w) X.A (f (.int i t) (.int j u)) Q E s) :
  bR X f (fq λi j=>.int (g i j)):=by
 intro EQ s σ H x y v u Q I rx ry h;obtain⟨i,j,rfl,rfl,q⟩:=h;obtain⟨t,rfl⟩:=rx;obtain⟨t',rfl⟩:=ry;exact rule i j t t' s _ _ ⟨.int (g i j),H,I.tok _,⟨_,rfl⟩,q⟩
theorem pY{f:Value->Value->Sem Value}{g:Int->Int->Bool}
  (rule:∀(i j:Int) (t u:Tok) (s:Shared) (Q:Value->Shared->Prop) (E:Value->Shared->Prop),Q (.bool (g i j)) s->wpAny (model X.prog X.w) X.A (f (.int i t) (.int j u)) Q E s) :
  bR X f (fq λi j=>.bl (g i j)):=by
 intro EQ s σ H x y v u Q I rx ry h;obtain⟨i,j,rfl,rfl,q⟩:=h;obtain⟨t,rfl⟩:=rx;obtain⟨t',rfl⟩:=ry;exact rule i j t t' s _ _ ⟨.bl (g i j),H,I,rfl,q⟩
def yi(i j:Int):Prop:=0<j/\j<1073741824
def yj(i j:Int):Prop:=0<=j/\j<=1000000/\i.natAbs<2^64
def mz(i j:Int):Prop:=(-(2^64)<i/\i<2^64)∨(-(2^64)<j/\j<2^64)
theorem mz.ok{i j:Int}(h:mz i j):IntMulOk i j:=by
 rcases h with ⟨h1,h2⟩|⟨h1,h2⟩
 ·exact .of_left (intBits_le_64 h1 h2)
 ·exact .of_right (intBits_le_64 h1 h2)
theorem eO:bR X (binaryOp .Add) (fq λi j=>.int (i+j)):=jB λ_ _ _ _ _ _ _ q=>add_int q
theorem gh:bR X (binaryOp .Sub) (fq λi j=>.int (i-j)):=jB λ_ _ _ _ _ _ _ q=>sub_int q
theorem jC:bR X (binaryOp .Mult) (rI mz λi j=>.int (i*j)):=kI λ_ _ _ _ _ _ _ hc q=>mul_int q hc.ok
theorem pZ:bR X (binaryOp .FloorDiv) (rI yi λi j=>.int (i/j)):=kI λi j _ _ _ _ _ hc q=>by have h1:(0:Int)<j:=hc.1;have h2:j<1073741824:=hc.2;exact floordiv_int (by omega) (by rw[Int.fdiv_eq_ediv_of_nonneg i (by omega)];exact q) (.inl (PyProof.noPylong_small (by omega)))
theorem bw:bR X (binaryOp .Mod) (rI (λ_ j=>0<j) λi j=>.int (i%j)):=kI λi j _ _ _ _ _ hc q=>by have h1:(0:Int)<j:=hc;exact mod_int' (by lia) (by rw[Int.fmod_eq_emod_of_nonneg i (by lia)];exact q)
theorem yk:bR X (binaryOp .Pow) (rI yj λi j=>.int (i^j.toNat)):=kI λ_ _ _ _ _ _ _ hc q=>pow_int_small hc.1 hc.2.1 hc.2.2 q
theorem iy:bR X (binaryOp .BitAnd) (fq λi j=>.int (Builtin.bitAnd i j)):=jB λ_ _ _ _ _ _ _ q=>and_int q
theorem p6:bR X (binaryOp .BitOr) (fq λi j=>.int (Builtin.bitOr i j)):=jB λ_ _ _ _ _ _ _ q=>or_int q
theorem p7:bR X (binaryOp .BitXor) (fq λi j=>.int (Builtin.bitXor i j)):=jB λ_ _ _ _ _ _ _ q=>xor_int q
theorem yl{f:Value->Sem Value}{g:Int->Int}
  (rule:∀(i:Int) (t:Tok) (s:Shared) (Q:Value->Shared->Prop) (E:Value->Shared->Prop),Q (.int (g i) s.toks) {s with toks:=s.toks+1}->wpAny (model X.prog X.w) X.A (f (.int i t)) Q E s) :
  mw X f (rU λi=>.int (g i)):=by
 intro EQ s σ H x v Q I rx h;obtain⟨i,rfl,q⟩:=h;obtain⟨t,rfl⟩:=rx;exact rule i t s _ _ ⟨.int (g i),H,I.tok _,⟨_,rfl⟩,q⟩
theorem mB:mw X (unaryOp .USub) (rU λi=>.int (-i)):=yl λ_ _ _ _ _ q=>neg_int q
end
noncomputable def p8:V->V->Bool
 |.non,.non=>true|.non,.int _=>true|.int _,.non=>true|.non,.bl _=>true|.bl _,.non=>true|.non,.str _=>true|.str _,.non=>true
 |.int _,.int _=>true|.bl _,.bl _=>true|.str _,.str _=>true|.byt _,.byt _=>true
 |.int _,.str _=>true|.str _,.int _=>true|.bl _,.str _=>true|.str _,.bl _=>true
 |_,_=>false
def ym:R2:=λx y H Q=>p8 x y=true/\Q (.bl (decide (x=y))) H
def yn:R2:=λx y H Q=>p8 x y=true/\Q (.bl (!decide (x=y))) H
theorem p9{i j:Int}:decide (V.int i=V.int j)=(i==j):=by rw[Bool.eq_iff_iff];simp
theorem qa{i j:Bool}:decide (V.bl i=V.bl j)=(i==j):=by rw[Bool.eq_iff_iff];simp
theorem qb{i j:Str}:decide (V.str i=V.str j)=(i==j):=by rw[Bool.eq_iff_iff];simp
theorem qc{i j:Array UInt8}:decide (V.byt i=V.byt j)=(i.toList==j.toList):=by rw[Bool.eq_iff_iff];cases i;cases j;simp
section
variable {X:Cx}{a b c:Expr}{ta tb tc:TE}{pos:Pos}
theorem bN{EQ:List (Addr×Obj)}{σ:St}{H:Hp}{s:Shared}{Q:VK}{k k':Bool}(I:Inv X EQ σ H s)(q:Q (.bl k) H)(e:k=k'):EP X EQ σ Q (.bool k') s:=by subst e;exact⟨.bl k,H,I,rfl,q⟩
theorem aV:bR X (compareOp .Eq) ym:=by
 intro EQ s σ H x y v u Q I rx ry h;obtain⟨hs,q⟩:=h
 cases x with
 |non =>
  cases rx
  cases y with
  |non=>cases ry;exact PySem.EqNone.eq_none_none (bN I q (by simp))
  |bl j=>cases ry;exact PySem.EqNone.eq_none_bool (bN I q (by simp))
  |int j=>obtain⟨t',rfl⟩:=ry;exact PySem.EqNone.eq_none_int (bN I q (by simp))
  |str j=>obtain⟨t',rfl⟩:=ry;exact PySem.EqNone.eq_none_str (bN I q (by simp))
  |_=>exact absurd (show false=true from hs) QG
 |bl i =>
  cases rx
  cases y with
  |non=>cases ry;exact PySem.EqNone.eq_bool_none (bN I q (by simp))
  |bl j=>cases ry;exact eq_bool (bN I q qa)
  |str j=>obtain⟨t',rfl⟩:=ry;exact PySem.EqMixed.eq_bool_str (bN I q (by simp))
  |_=>exact absurd (show false=true from hs) QG
 |int i =>
  obtain⟨t,rfl⟩:=rx
  cases y with
  |non=>cases ry;exact PySem.EqNone.eq_int_none (bN I q (by simp))
  |int j=>obtain⟨t',rfl⟩:=ry;exact eq_int (bN I q p9)
  |str j=>obtain⟨t',rfl⟩:=ry;exact PySem.EqMixed.eq_int_str (bN I q (by simp))
  |_=>exact absurd (show false=true from hs) QG
 |str i =>
  obtain⟨t,rfl⟩:=rx
  cases y with
  |non=>cases ry;exact PySem.EqNone.eq_str_none (bN I q (by simp))
  |bl j=>cases ry;exact PySem.EqMixed.eq_str_bool (bN I q (by simp))
  |int j=>obtain⟨t',rfl⟩:=ry;exact PySem.EqMixed.eq_str_int (bN I q (by simp))
  |str j=>obtain⟨t',rfl⟩:=ry;exact eq_str (bN I q qb)
  |_=>exact absurd (show false=true from hs) QG
 |byt i =>
  obtain⟨t,rfl⟩:=rx
  cases y with
  |byt j=>obtain⟨t',rfl⟩:=ry;exact PySem.W.eq_bytes (bN I q qc)
  |_=>exact absurd (show false=true from hs) QG
 |_=>cases y<;>exact absurd (show false=true from hs) QG
theorem fT:bR X (compareOp .NotEq) yn:=by
 intro EQ s σ H x y v u Q I rx ry h;obtain⟨hs,q⟩:=h
 cases x with
 |non =>
  cases rx
  cases y with
  |non=>cases ry;exact PySem.EqNone.ne_none_none (bN I q (by simp))
  |bl j=>cases ry;exact PySem.EqNone.ne_none_bool (bN I q (by simp))
  |int j=>obtain⟨t',rfl⟩:=ry;exact PySem.EqNone.ne_none_int (bN I q (by simp))
  |str j=>obtain⟨t',rfl⟩:=ry;exact PySem.EqNone.ne_none_str (bN I q (by simp))
  |_=>exact absurd (show false=true from hs) QG
 |bl i =>
  cases rx
  cases y with
  |non=>cases ry;exact PySem.EqNone.ne_bool_none (bN I q (by simp))
  |bl j=>cases ry;exact ne_bool (bN I q (congrArg not qa))
  |str j=>obtain⟨t',rfl⟩:=ry;exact PySem.EqMixed.ne_bool_str (bN I q (by simp))
  |_=>exact absurd (show false=true from hs) QG
 |int i =>
  obtain⟨t,rfl⟩:=rx
  cases y with
  |non=>cases ry;exact PySem.EqNone.ne_int_none (bN I q (by simp))
  |int j=>obtain⟨t',rfl⟩:=ry;exact ne_int (bN I q (congrArg not p9))
  |str j=>obtain⟨t',rfl⟩:=ry;exact PySem.EqMixed.ne_int_str (bN I q (by simp))
  |_=>exact absurd (show false=true from hs) QG
 |str i =>
  obtain⟨t,rfl⟩:=rx
  cases y with
  |non=>cases ry;exact PySem.EqNone.ne_str_none (bN I q (by simp))
  |bl j=>cases ry;exact PySem.EqMixed.ne_str_bool (bN I q (by simp))
  |int j=>obtain⟨t',rfl⟩:=ry;exact PySem.EqMixed.ne_str_int (bN I q (by simp))
  |str j=>obtain⟨t',rfl⟩:=ry;exact ne_str (bN I q (congrArg not qb))
  |_=>exact absurd (show false=true from hs) QG
 |byt i =>
  obtain⟨t,rfl⟩:=rx
  cases y with
  |byt j=>obtain⟨t',rfl⟩:=ry;exact PySem.W.ne_bytes (bN I q (congrArg not qc))
  |_=>exact absurd (show false=true from hs) QG
 |_=>cases y<;>exact absurd (show false=true from hs) QG
theorem gi:bR X (compareOp .Lt) (fq λi j=>.bl (decide (i<j))):=pY λ_ _ _ _ _ _ _ q=>lt_int q
theorem jD:bR X (compareOp .Gt) (fq λi j=>.bl (decide (j<i))):=pY λ_ _ _ _ _ _ _ q=>gt_int q
theorem aL(b:Expr){op:CmpOp}(h:op≠.In:=by decide)(h2:op≠.NotIn:=by decide):behindInMarks op b=false:=by
 have e1:(op==CmpOp.In)=false:=by cases op<;>first|rfl|exact absurd rfl h
 have e2:(op==CmpOp.NotIn)=false:=by cases op<;>first|rfl|exact absurd rfl h2
 cases b<;>simp[behindInMarks,e1,e2]
theorem yo{op:CmpOp}{r:R2}(ho:bR X (compareOp op) r)(ha:PE X a ta)(hb:PE X b tb)(hm:behindInMarks op b=false):PE X (.Compare a [op] [b] pos) (gM r ta tb):=by intro EQ s σ H Q I h;exact wpAny_Compare1 (mx ha hb I h λv u s2 x y H2 I2 rx ry q=>ho EQ s2 σ H2 x y v u Q I2 rx ry q) hm
def yp(t:TE):TT:=λσ H Q=>t σ H (eV Q)
theorem aH{op:CmpOp}{r:R2}(ho:bR X (compareOp op) r)(ha:PE X a ta)(hb:PE X b tb)(hm:behindInMarks op b=false):PT X (.Compare a [op] [b] pos) (yp (gM r ta tb)):=by
 intro EQ s σ H Q I h
 refine wpAny_isTrue_Compare1 (aA (ha EQ s σ H _ I h) λv s1 ⟨x,H1,I1,r1,q1⟩=>aA (hb EQ s1 σ H1 _ I1 q1) λu s2 ⟨y,H2,I2,r2,q2⟩ =>
  aA (ho EQ s2 σ H2 x y v u _ I2 r1 r2 q2) λc s3 ⟨z,H3,I3,r3,k,e,q3⟩=>?_) hm
 subst e;cases r3;exact wpAny_truthy_bool ⟨H3,I3,q3⟩
theorem jE:(sizeLine:Nat)<2^63:=by rw[sizeLine_eq];decide
theorem kJ:bR X (binaryOp .Add) (λx y H Q=>∃i j,x=.str i/\y=.str j/\i.length+j.length<=sizeLine/\Q (.str (i++j)) H):=by intro EQ s σ H x y v u Q I rx ry h;obtain⟨i,j,rfl,rfl,hz,q⟩:=h;obtain⟨t,rfl⟩:=rx;obtain⟨t',rfl⟩:=ry;exact add_str (λt' tk=>⟨.str (i++j),H,I.tok _,⟨_,rfl⟩,q⟩) hz
theorem vals1{x:V}{us:List Value}(r:aw [x] us):∃u,us=[u]/\RelV x u:=by
 cases r with
 |cons r1 r2=>cases r2;exact⟨_,rfl,r1⟩
theorem vals2{x y:V}{us:List Value}(r:aw [x,y] us):∃u w',us=[u,w']/\RelV x u/\RelV y w':=by
 cases r with
 |cons r1 r2 =>
  cases r2 with
  |cons r3 r4=>cases r4;exact⟨_,_,rfl,r1,r3⟩
theorem yq:dA X (.builtin "abs") (λxs H Q=>∃i,xs=[.int i]/\Q (.int (if i<0 then -i else i)) H):=by
 intro EQ s σ H xs us Q I r h;obtain⟨i,rfl,q⟩:=h;obtain⟨u,rfl,t,rfl⟩:=vals1 r
 exact call_abs_int λu tk=>⟨.int (if i<0 then -i else i),H,I.tok _,⟨_,rfl⟩,q⟩
end
structure gN(h:Heap)(x dx C:Addr)(mA:Str->Option Value):Prop where
 obj:h.get? x=some (PySem.W.instObj C dx)
 ns:h.Ns1 dx mA
 ne:dx≠x
theorem yr{h:Heap}{dx:Addr}{mA:Str->Option Value}(n:h.Ns1 dx mA):∃od,h.get? dx=some od/\∀name,PySem.W.lookIn name od=some (mA name):=by
 obtain⟨o,es,ep,ho,hd,hk,_,hm⟩:=n;refine⟨o,ho,λname=>?_⟩;have e:=hm name;unfold nsFind findBy at e;rw[<-Array.find?_toList] at e;unfold PySem.W.lookIn;rw[hd];dsimp only;split
 ·rename_i y q;rw[q] at e;exact congrArg some e
 ·rename_i q;rw[q] at e;have a:es.toList.any (·.refKey)=false:=by rw[List.any_eq_false];intro y hy;obtain⟨z,t,hkey⟩:=hk y (Array.mem_toList_iff.mp hy);simp[DictEntry.refKey,hkey]
  have a':¬es.toList.any (·.refKey)=true:=by rw[a];exact QG
  rw[if_neg a'];exact congrArg some e
theorem gN.look{h:Heap}{x dx C:Addr}{mA:Str->Option Value}(I:gN h x dx C mA):∃od,PySem.W.InstAt h x (PySem.W.instObj C dx) C (some od)/\∀name,PySem.W.lookIn name od=some (mA name):=
 let ⟨od,ho,hl⟩:=yr I.ns
 ⟨od,⟨I.obj,rfl,rfl,ho⟩,hl⟩
section
variable {prog:Program}{w:World}{A:Around}{E:Value->Shared->Prop}{s:Shared}{K:PySem.W.Frag}{x dx C f:Addr}{mA:Str->Option Value}{name:Str}{v:Value}
theorem yt{expr:Bool}{Q:Value->Shared->Prop}(X:K.In s.heap)(I:gN s.heap x dx C mA)(hg:PySem.W.plainGet K C name=true)(hh:PySem.W.hasDictIn K C=true)
  (ha:PySem.W.findIn K (.ref C) name=some none) (hv:mA name=some v) (hv':PySem.W.handedIn v=true) (h:Q v {s with toks:=s.toks+1}) :
  wpAny (model prog w) A (getAttr (.ref x) name expr) Q E s:=by
 obtain⟨od,J,hl⟩:=I.look;exact PySem.W.get_value X J (PySem.W.plainGet_of hg).1 (PySem.W.findObj_own hh ha rfl (by rw[hl,hv])) hv' h
theorem yu{pl:Sem Bool}{Q:Value×List Value->Shared->Prop}(X:K.In s.heap)(I:gN s.heap x dx C mA)(hg:PySem.W.plainGet K C name=true)
  (hf:PySem.W.findIn K (.ref C) name=some (some (.ref f))) (ht:PySem.W.isFn K (.ref f)=true) (hv:mA name=none) (h:Q (.ref f,[.ref x]) s) :
  wpAny (model prog w) A (getMethod (.ref x) name pl) Q E s:=by
 obtain⟨od,J,hl⟩:=I.look;exact PySem.W.method_fn X J (PySem.W.plainGet_of hg).1 (PySem.W.plainGet_of hg).2 hf (beq_iff_eq.mp ht) (by show(PySem.W.lookIn name od).map (·.isSome)=some false;rw[hl,hv];rfl) h
theorem yv{ns:List Str}{Q:Unit->Shared->Prop}(X:K.In s.heap)(I:gN s.heap x dx C mA)
  (hs:PySem.W.findIn K (.ref C) "__setattr__"=some (some (.builtin "object.__setattr__"))) (hp:PySem.W.plainOver K C=true) (ht:PySem.W.takerIn K C name=some none) (hh:PySem.W.hasDictIn K C=true)
  (hw:PySem.Within mA ns) (hsz:ns.length<=sizeLine)
  (h:∀h',gN h' x dx C (λy=>if y=name then some v else mA y)->Heap.SameBut dx s.heap h'->Q () {s with heap:=h',toks:=s.toks+2}) :
  wpAny (model prog w) A (setAttr (.ref x) name v) Q E s:=by
 obtain⟨od,J,hl⟩:=I.look;refine PySem.W.set_plain X J hs (PySem.W.osa_open (s:={s with toks:=s.toks+1}) (r:=none) X J hp ht λb=>?_);obtain⟨cd,hc,hd'⟩:=PySem.W.any_some hh;have hx:s.heap.get? x=some ⟨.ref C,some dx,.plain,#[]⟩:=I.obj;refine Qb (Qd (Qb (Qb (wpAny_loadPart hx (Qb (PySem.W.Looks.here (s:={s with toks:=s.toks+1}) (PySem.W.looks_clsIn X hc) ?_))))));rw[hd'];refine Qd (a:=some dx) (Qb (Qd (Qb ?_)));refine wpAny_nsSet1 (s:={s with toks:=s.toks+1}) I.ns λh' hn2 Ff=>?_;obtain⟨oD,esD,epD,hoD,hdD,hcD⟩:=hn2.count (PySem.Within.cons name v hw);refine Qb (wpAny_lookBehind hoD (by rw[hdD];exact pastItsLine_dict (QK hcD (by rw[QM];lia))) ?_);exact Qd (h _ ⟨(Ff.2 _ (Ne.symm I.ne)).trans I.obj,hn2,I.ne⟩ Ff)
theorem yw{R:Result->Shared->Prop}{vs:List Value}{kw:List (Str×Value)}(X:K.In s.heap)(hm:PySem.W.makesIn K C=true)
  (hi:PySem.W.findIn K (.ref C) "__init__"=some (some (.ref f))) (hf:PySem.W.typeIn K (.ref f)=some (.type "function"))
  (h:codeAny (model prog w) (A.under (.builtin "type.__call__" ⟨.ref C::vs,kw⟩)) (.call (.ref f) ⟨.ref (s.heap.objs.size+1)::vs,kw⟩) (PySem.W.InitBack (s.heap.objs.size+1) R)
   {s with heap:=(s.heap.push PySem.W.emptyDict).push (PySem.W.instObj C s.heap.objs.size)}) :
  codeAny (model prog w) A (.call (.ref C) ⟨vs,kw⟩) R s:=by
 obtain⟨hh,g,d,t,os⟩:=s;exact PySem.W.make_core (PySem.W.makes_of X hm) (PySem.W.looks_findIn X hi) (λself=>PySem.W.bind_fn X self hf) (.inl rfl) h
end
noncomputable def dB(f:Str)(v:V):List (Str×V)->List (Str×V)
 | []=>[(f,v)]
 |(g,x)::r=>if g=f then(g,v)::r else(g,x)::dB f v r
theorem qd(f g:Str)(v:V):∀fs:List (Str×V),(dB f v fs).lookup g=if g=f then some v else fs.lookup g
 | []=>by
  show List.lookup g [(f,v)]=_;by_cases h:g=f
  ·have hb:(g==f)=true:=beq_iff_eq.mpr h;simp only[List.lookup,hb,if_pos h]
  ·have hb:(g==f)=false:=beq_eq_false_iff_ne.mpr h;simp only[List.lookup,hb,if_neg h]
 |(k,x)::r=>by
  have ih:=qd f g v r;rw[show dB f v ((k,x)::r)=(if k=f then(k,v)::r else(k,x)::dB f v r) from rfl];by_cases hk:k=f
  ·rw[if_pos hk];by_cases h:g=k
   ·have hb:(g==k)=true:=beq_iff_eq.mpr h;simp only[List.lookup,hb,if_pos (h.trans hk)]
   ·have hb:(g==k)=false:=beq_eq_false_iff_ne.mpr h;simp only[List.lookup,hb,if_neg (λe:g=f=>h (e.trans hk.symm))]
  ·rw[if_neg hk];by_cases h:g=k
   ·have hb:(g==k)=true:=beq_iff_eq.mpr h;simp only[List.lookup,hb,if_neg (λe:g=f=>hk (h.symm.trans e))]
   ·have hb:(g==k)=false:=beq_eq_false_iff_ne.mpr h;simp only[List.lookup,hb];exact ih
theorem mC(f:Str)(v:V):∀fs:List (Str×V),f∈(dB f v fs).map (·.1)/\∀g,g∈fs.map (·.1)->g∈(dB f v fs).map (·.1)
 | []=>⟨by simp[dB],λg h=>by simp at h⟩
 |(k,x)::r=>by
  obtain⟨i1,i2⟩:=mC f v r;rw[show dB f v ((k,x)::r)=(if k=f then(k,v)::r else(k,x)::dB f v r) from rfl];by_cases hk:k=f
  ·rw[if_pos hk];subst hk;exact⟨by simp,λg h=>by simpa using h⟩
  ·rw[if_neg hk];refine⟨?_,λg h=>?_⟩
   ·rw[List.map_cons];exact QA _ i1
   ·rw[List.map_cons] at h ⊢;rcases Qn h with e|e
    ·exact List.mem_cons.mpr (.inl e)
    ·exact QA _ (i2 g e)
theorem qe(f:Str)(v:V):∀fs:List (Str×V),(dB f v fs).length<=fs.length+1
 | []=>by simp[dB]
 |(k,x)::r=>by
  have ih:=qe f v r;rw[show dB f v ((k,x)::r)=(if k=f then(k,v)::r else(k,x)::dB f v r) from rfl];by_cases hk:k=f
  ·rw[if_pos hk,QM,QM];lia
  ·rw[if_neg hk,QM,QM];lia
theorem cX.some_of{v:V}{o:Option Value}(r:cX (some v) o):∃u,o=some u/\RelV v u:=by
 cases o with
 |none=>exact(show False from r).elim
 |some u=>exact⟨u,rfl,r⟩
theorem cX.none_of{o:Option Value}(r:cX none o):o=none:=by
 cases o with
 |none=>rfl
 |some u=>exact(show False from r).elim
theorem yx{v:V}{u:Value}(r:RelV v u):PySem.W.handedIn u=true:=by
 cases v with
 |non=>cases (show u=Value.none from r);rfl
 |bl b=>cases (show u=Value.bool b from r);rfl
 |int i=>obtain⟨t,e⟩:=(show ∃t,u=Value.int i t from r);cases e;rfl
 |str x=>obtain⟨t,e⟩:=(show ∃t,u=Value.str x t from r);cases e;rfl
 |byt b=>obtain⟨t,e⟩:=(show ∃t,u=Value.bytes b t from r);cases e;rfl
 |flt b=>obtain⟨t,e⟩:=(show ∃t,u=Value.float b t from r);cases e;rfl
 |ref a=>cases (show u=Value.ref a from r);rfl
 |ty n=>cases (show u=Value.type n from r);rfl
section
variable {P:Program}{w:World}{H H':Hp}{h h':Heap}{a C dx:Addr}{fs fs':List (Str×V)}
theorem kK(hok:bG P w H h)(e:H a=some (.ins C dx fs)):∃mA,gN h a dx C mA/\(∀f,cX (fs.lookup f) (mA f))/\PySem.Within mA (fs.map (·.1))/\fs.length<=1000/\H dx=some (.own a):=by
 obtain⟨d,z,ne,ob,mA,n,r,q⟩:=(show bI P w H h a (.ins C dx fs) from hok a _ e)
 exact⟨mA,⟨ob,n,ne⟩,r,q,z,d⟩
end
structure fz(K:PySem.W.Frag)(C:Addr):Prop where
 pg:PySem.W.plainGet K C Str.empty=true
 hd:PySem.W.hasDictIn K C=true
 po:PySem.W.plainOver K C=true
 sa:PySem.W.findIn K (.ref C) "__setattr__"=some (some (.builtin "object.__setattr__"))
theorem fz.get{K:PySem.W.Frag}{C:Addr}(c:fz K C)(f:Str):PySem.W.plainGet K C f=true:=c.pg
def gj(K:PySem.W.Frag)(C:Addr)(f:Str):Prop:=PySem.W.findIn K (.ref C) f=some none
theorem gj.taker{K:PySem.W.Frag}{C:Addr}{f:Str}(n:gj K C f):PySem.W.takerIn K C f=some none:=by unfold PySem.W.takerIn;rw[show PySem.W.findIn K (.ref C) f=some none from n];rfl
structure fU(K:PySem.W.Frag)(C:Addr)(m:Str)(f:Addr):Prop where
 at_:PySem.W.findIn K (.ref C) m=some (some (.ref f))
 fn:PySem.W.isFn K (.ref f)=true
 kp:PySem.W.keepIn K (.ref f)=true
section
variable {X:Cx}{EQ:List (Addr×Obj)}{σ:St}{H:Hp}{s:Shared}{a C dx:Addr}{fs:List (Str×V)}{f:Str}{v:V}{A:Around}{E:Value->Shared->Prop}
theorem yy{b:Bool}{Q:Value->Shared->Prop}(I:Inv X EQ σ H s)(e:H a=some (.ins C dx fs))(c:fz X.K C)(n:gj X.K C f)(l:fs.lookup f=some v)
  (h:∀u s',Inv X EQ σ H s'->RelV v u->Q u s'):wpAny (model X.prog X.w) A (getAttr (.ref a) f b) Q E s:=by
 obtain⟨mA,O,r,_,_,_⟩:=kK I.hok e;obtain⟨u,hu,ru⟩:=cX.some_of (v:=v) (o:=mA f) (by rw[<-l];exact r f);exact yt I.kIn O (c.get f) c.hd n hu (yx ru) (h u _ (I.tok _) ru)
theorem yz{m:Str}{g:Addr}{pl:Sem Bool}{Q:Value×List Value->Shared->Prop}(I:Inv X EQ σ H s)(e:H a=some (.ins C dx fs))(c:fz X.K C)(k:fU X.K C m g)(l:fs.lookup m=none)
  (h:Q (.ref g,[.ref a]) s):wpAny (model X.prog X.w) A (getMethod (.ref a) m pl) Q E s:=by
 obtain⟨mA,O,r,_,_,_⟩:=kK I.hok e;have hn:mA m=none:=cX.none_of (by rw[<-l];exact r m);exact yu I.kIn O (c.get m) k.at_ k.fn hn h
theorem yA{y:V}{u:Value}{Q:Unit->Shared->Prop}(I:Inv X EQ σ H s)(e:H a=some (.ins C dx fs))(c:fz X.K C)(n:gj X.K C f)(hl:fs.length<1000)(ry:RelV y u)
  (h:∀s',Inv X EQ σ (upd H a (.ins C dx (dB f y fs))) s'->Q () s'):wpAny (model X.prog X.w) A (setAttr (.ref a) f u) Q E s:=by
 obtain⟨mA,O,r,wi,_,ho⟩:=kK I.hok e;have hz:(fs.map (·.1)).length<=sizeLine:=by rw[Qf,sizeLine_eq];lia
 refine yv I.kIn O c.sa c.po n.taker c.hd wi hz λh' O' sb=>h _ ?_;have hd:∃o,h'.get? dx=some o:=by obtain⟨o,_,_,e',_⟩:=O'.ns;exact⟨o,e'⟩
 refine I.write (x:=a) (e:=dx) (by rw[e];exact True.intro) (.inr ho) (λb q hb z=>(sb.2 b hb).trans z) hd ?_;refine⟨by rw[aE O.ne];exact ho,?_,O.ne,O'.obj,_,O'.ns,λg=>?_,λg hg=>?_⟩
 ·have:=qe f y fs;lia
 ·show cX ((dB f y fs).lookup g) (if g=f then some u else mA g);rw[qd];by_cases q:g=f
  ·rw[if_pos q,if_pos q];exact ry
  ·rw[if_neg q,if_neg q];exact r g
 ·by_cases q:g=f
  ·rw[q];exact(mC f y fs).1
  ·refine(mC f y fs).2 g (wi g λz=>hg ?_);show(if g=f then some u else mA g)=none;rw[if_neg q];exact z
theorem Inv.made(I:Inv X EQ σ H s):Inv X EQ σ (upd (upd H s.heap.objs.size (.own (s.heap.objs.size+1))) (s.heap.objs.size+1) (.ins C s.heap.objs.size []))
  {s with heap:=(s.heap.push PySem.W.emptyDict).push (PySem.W.instObj C s.heap.objs.size)}:=by
 have e1:(s.heap.push PySem.W.emptyDict).get? s.heap.objs.size=some PySem.W.emptyDict:=Qu s.heap rfl;have e2:((s.heap.push PySem.W.emptyDict).push (PySem.W.instObj C s.heap.objs.size)).get? (s.heap.objs.size+1)=some (PySem.W.instObj C s.heap.objs.size):=by have:=Qu (s.heap.push PySem.W.emptyDict) (o:=PySem.W.instObj C s.heap.objs.size) rfl;rwa [Heap.size_push] at this
 have e3:(s.heap.push PySem.W.emptyDict).Ns s.heap.objs.size (λ_=>none):=⟨PySem.W.emptyDict,#[],_,e1,rfl,(λe he=>absurd he (by simp)),λ_=>rfl⟩
 have I1:=I.laid (a:=s.heap.objs.size) (o:=.own (s.heap.objs.size+1)) (h':=s.heap.push PySem.W.emptyDict) (t':=s.toks) (λb u q=>Qe _ q) (Qh _) ⟨_,e1⟩;refine I1.laid (a:=s.heap.objs.size+1) (o:=.ins C s.heap.objs.size []) (t':=s.toks) (λb u q=>Qe _ q) (Nat.le_of_eq (Heap.size_push _ _)) ?_;have ne:s.heap.objs.size≠s.heap.objs.size+1:=QF (Nat.lt_succ_self _);refine⟨by rw[aE ne,ah],QC _,ne,e2,λ_=>none,(Heap.Ns1.of_empty e3).at λo q=>Qe _ q,λ_=>True.intro,λy hy=>absurd rfl hy⟩
theorem yB{prog:Program}{w:World}{env:Env}{e:Expr}{f:Str}{pos:Pos}{s:Shared}{Q:Value->Shared->Prop}(hb:attributeBase e f env (eval e env)=eval e env)
  (h:wpAny (model prog w) A (eval e env) (λo s₁=>wpAny (model prog w) A (getAttr o f true) Q E s₁) E s):wpAny (model prog w) A (eval (.Attribute e f pos) env) Q E s:=
 Attribute_any_ h (by rw[arm_eval_Attribute,hb])
end
inductive qg (K:PySem.W.Frag) (f:Str) (Q:VK) (x:V) (H:Hp):Prop
 |mk:∀a C dx fs v,x=.ref a->H a=some (.ins C dx fs)->fz K C->gj K C f->fs.lookup f=some v->Q v H->qg K f Q x H
def yC(K:PySem.W.Frag)(ta:TE)(f:Str):TE:=λσ H Q=>ta σ H (qg K f Q)
def yD(K:PySem.W.Frag)(ta tv:TE)(f:Str):TS:=λD σ H=>tv σ H λy H1=>ta σ H1 λx H2=>∃a C dx fs,x=.ref a/\H2 a=some (.ins C dx fs)/\fz K C/\gj K C f/\fs.length<1000 /\
 D.nx σ (upd H2 a (.ins C dx (dB f y fs)))
section
variable {X:Cx}{o e value:Expr}{f:Str}{pos F3 tpos:Pos}{ta tv:TE}
theorem kL(he:PE X e ta)(hb:attributeBase e f X.env (eval e X.env)=eval e X.env):PE X (.Attribute e f pos) (yC X.K ta f):=by
 intro EQ s σ H Q I h;refine yB hb (aA (he EQ s σ H _ I h) λu s1 hsl26=>?_);obtain⟨x,H1,I1,rx,a,C,dx,fs,v,ex,ea,c,n,l,q⟩:=hsl26;subst ex;obtain rfl:u=Value.ref a:=rx
 exact yy I1 ea c n l λu' s2 I2 ru=>⟨v,H1,I2,ru,q⟩
theorem qh(ha:PE X o ta)(hv:PE X value tv)(hs:swapsWith value (some (.Attribute o f F3)) pos.line X.env=pure false):PS X (.Assign [.Attribute o f F3] value pos) (yD X.K ta tv f):=by
 intro EQ s σ H D I h;refine plainObj_wpAny_Assign_Attribute (aA (hv EQ s σ H _ I h) λu s1 ⟨y,H1,I1,ry,q⟩=>aA (ha EQ s1 σ H1 _ I1 q) λov s2 hsl27=>?_) hs;obtain⟨x,H2,I2,rx,a,C,dx,fs,ex,ea,c,n,l,q2⟩:=hsl27;subst ex;obtain rfl:ov=Value.ref a:=rx
 exact yA I2 ea c n l ry λs3 I3=>⟨σ,_,I3,q2⟩
end
section
variable {X:Cx}{EQ:List (Addr×Obj)}{σ:St}{H:Hp}{s:Shared}{A:Around}{E:Value->Shared->Prop}{Q:Value->Shared->Prop}{c:Value}{b:Bool}
inductive de (K:PySem.W.Frag) (H:Hp):V->Value->Prop where
 |non:de K H .non (.type "NoneType")
 |bl (x:Bool):de K H (.bl x) (.type "bool")
 |int (i:Int):de K H (.int i) (.type "int")
 |str (x:Str):de K H (.str x) (.type "str")
 |flt (x:UInt64):de K H (.flt x) (.type "float")
 |lst {a:Addr} {xs:List V} (e:H a=some (.lst xs)):de K H (.ref a) (.type "list")
 |frz {a:Addr} {o:Obj} {xs:List V} (e:H a=some (.frz o (.lst xs))):de K H (.ref a) (.type "list")
 |tup {a:Addr} {xs:List V} (e:H a=some (.tup xs)):de K H (.ref a) (.type "tuple")
 |dK {a:Addr} {ES:List (af×V)} (e:H a=some (.dK ES)):de K H (.ref a) (.type "dict")
 |dT {a:Addr} {ES:List (List af×V)} (e:H a=some (.dT ES)):de K H (.ref a) (.type "dict")
 | ins {a C dx:Addr} {fs:List (Str × V)} (e:H a=some (.ins C dx fs)) (cl:fz K C) (ha:PySem.W.findIn K (.ref C) "__class__"=some (some (.builtin "object.__class__")))
   (hn:PySem.W.specialIn K (.builtin "object.__class__") "__get__"=some (some (.builtin "getset_descriptor.__get__"))) (GV:PySem.W.takesIn K (.builtin "object.__class__")=some true)
   (hm:PySem.W.mroIn K C (.type "object")=some true):de K H (.ref a) (.ref C)
theorem yE{x:V}{u t:Value}(I:Inv X EQ σ H s)(rx:RelV x u)(ty:de X.K H x t)(e:PySem.W.kitOne X.K t c=some b)(h:∀tk,Q (.bool b) {s with toks:=tk}) :
  wpAny (model X.prog X.w) A (call (.builtin "isinstance") [u,c]) Q E s:=by
 cases ty with
 |non=>cases (show u=Value.none from rx);exact PySem.W.kia_one PySem.W.kitx_none I.kIn True.intro e (λz=>nomatch z) h
 |bl y=>cases (show u=Value.bool y from rx);exact PySem.W.kia_one PySem.W.kitx_bool I.kIn True.intro e (λz=>nomatch z) h
 |int i=>obtain⟨t,q⟩:=(show ∃t,u=Value.int i t from rx);cases q;exact PySem.W.kia_one PySem.W.kitx_int I.kIn True.intro e (λz=>nomatch z) h
 |str y=>obtain⟨t,q⟩:=(show ∃t,u=Value.str y t from rx);cases q;exact PySem.W.kia_one PySem.W.kitx_str I.kIn True.intro e (λz=>nomatch z) h
 |flt y=>obtain⟨t,q⟩:=(show ∃t,u=Value.float y t from rx);cases q;exact PySem.W.kia_one PySem.W.kitx_float I.kIn True.intro e (λz=>nomatch z) h
 | @lst a xs ea =>
  cases (show u=Value.ref a from rx)
  obtain⟨_,_,n,_,h1⟩:=(show bI X.prog X.w H s.heap a (.lst xs) from I.hok a _ ea)
  exact PySem.W.kia_one PySem.W.kitx_list I.kIn ⟨_,h1,rfl⟩ e (λz=>nomatch z) h
 | @frz a ob xs ea =>
  cases (show u=Value.ref a from rx)
  obtain⟨_,_,_,n,_,h1⟩:=(show bI X.prog X.w H s.heap a (.frz ob (.lst xs)) from I.hok a _ ea)
  exact PySem.W.kia_one PySem.W.kitx_list I.kIn ⟨_,h1,rfl⟩ e (λz=>nomatch z) h
 | @tup a xs ea =>
  cases (show u=Value.ref a from rx)
  obtain⟨_,_,_,p,_⟩:=(show bI X.prog X.w H s.heap a (.tup xs) from I.hok a _ ea)
  obtain⟨o,h1,h2,_⟩:=p;exact PySem.W.kia_one PySem.W.kitx_tuple I.kIn ⟨o,h1,h2⟩ e (λz=>nomatch z) h
 | @dK a ES ea =>
  cases (show u=Value.ref a from rx)
  obtain⟨_,_,vs,_,p⟩:=(show bI X.prog X.w H s.heap a (.dK ES) from I.hok a _ ea)
  obtain⟨o,es,ep,h1,h2,_⟩:=p;exact PySem.W.kia_one PySem.W.kitx_dict I.kIn ⟨o,h1,h2.1⟩ e (λz=>nomatch z) h
 | @dT a ES ea =>
  cases (show u=Value.ref a from rx)
  obtain⟨_,_,xs,_,o,es,ep,h1,h2,_⟩:=(show bI X.prog X.w H s.heap a (.dT ES) from I.hok a _ ea)
  exact PySem.W.kia_one PySem.W.kitx_dict I.kIn ⟨o,h1,h2.1⟩ e (λz=>nomatch z) h
 | @ins a C dx fs ea cl ha hn GV hm =>
  cases (show u=Value.ref a from rx);obtain⟨mA,O,_⟩:=kK I.hok ea;obtain⟨od,J,_⟩:=O.look;exact PySem.W.kia_one (PySem.W.kitx_own (cl.get _) cl.hd ha hn GV hm) I.kIn J e (λz=>nomatch z) h
end
structure aB(k:Nat)(A:Around):Prop where
 hd:A.handled=none
 dp:A.depth+3*k+5<recursionLimit
 un:A.units+16*k+200<cLine
theorem aB.mono{j k:Nat}{A:Around}(r:aB k A)(h:j<=k):aB j A:=⟨r.hd,by have:=r.dp;lia,by have:=r.un;lia⟩
theorem aB.deeper{k:Nat}{A:Around}(r:aB (k+1) A)(env:Env):aB k (A.deeper env):=
 ⟨r.hd,by have:=r.dp;show A.depth+1+3*k+5<_;lia,by have:=r.un;show A.units+3+16*k+200<_;lia⟩
theorem aB.in1{k:Nat}{A:Around}(r:aB (k+1) A):aB k A.in1:=
 ⟨r.hd,by have:=r.dp;show A.depth+3*k+5<_;lia,by have:=r.un;show A.units+1+16*k+200<_;lia⟩
theorem yF{A:Around}{C:Addr}{us:List Value}{kw:List (Str×Value)}:(A.under (.builtin "type.__call__" ⟨.ref C::us,kw⟩)).depth=A.depth+1:=by
 first|rfl|simp[Around.under,Code.weight,Code.isCreation,Code.isGuard,Code.isCaller,Code.frames,Code.isFrame,guardIds]
theorem yG{A:Around}{C:Addr}{us:List Value}{kw:List (Str×Value)}:(A.under (.builtin "type.__call__" ⟨.ref C::us,kw⟩)).units=A.units+1:=by
 first|rfl|simp[Around.under,Code.cUnits,Code.frames,Code.isFrame]
theorem aB.make{k:Nat}{A:Around}(r:aB (k+1) A)(C:Addr)(us:List Value)(kw:List (Str×Value)):aB k (A.under (.builtin "type.__call__" ⟨.ref C::us,kw⟩)):=
 ⟨r.hd,by have:=r.dp;rw[yF];omega,by have:=r.un;rw[yG];omega⟩
theorem aB.depth{k:Nat}{A:Around}(r:aB k A):A.depth<recursionLimit:=by have:=r.dp;omega
theorem aB.units{k:Nat}{A:Around}(r:aB k A):A.units+64<cLine:=by have:=r.un;lia
def qi:TA:=λ_ H Q=>Q [] H
def qj(ta:TE)(tr:TA):TA:=λσ H Q=>ta σ H λx H1=>tr σ H1 λxs H2=>Q (x::xs) H2
section
variable {X:Cx}{e:Expr}{es:List Expr}{te:TE}{t:TA}{pos:Pos}
theorem ag:PA X [] qi:=λ_ _ _ _ H Q I h=>Calls.spliced_nil ⟨[],H,I,.nil,h⟩
theorem ae(ha:PE X e te)(hr:PA X es t)(hs:starEach (e::es) X.env=(false,eval e X.env)::starEach es X.env:=by rfl):PA X (e::es) (qj te t):=by intro pos EQ s σ H Q I h;rw[hs];show wpAny _ _ (spliced ((false,eval e X.env)::backTo pos (starEach es X.env))) _ _ s;refine Calls.spliced_cons (aA (ha EQ s σ H _ I h) λu s1 hsl29=>?_);obtain⟨x,H1,I1,r1,q1⟩:=hsl29;exact aA (hr pos EQ s1 σ H1 _ I1 q1) λus s2 hsl30=>by obtain⟨xs,H2,I2,r2,q2⟩:=hsl30;exact⟨x::xs,H2,I2,.cons r1 r2,q2⟩
def yH(t:TA):TE:=λσ H Q=>t σ H λxs H1=>xs.length<=sizeLine/\∀p,H1 p=none->Q (.ref p) (upd H1 p (.tup xs))
def yI(t:TA):TE:=λσ H Q=>t σ H λxs H1=>xs.length<=sizeLine/\∀p,H1 p=none->Q (.ref p) (upd H1 p (.lst xs))
theorem aX{x1}(h:PA X es t):PE X (.Tuple es x1 pos) (yH t):=by intro EQ s σ H Q I hq;refine wpAny_Tuple_spliced (aA (h pos EQ s σ H _ I hq) λus s1 ⟨xs,H1,I1,r,z,q⟩=>⟨by rw[<-r.length];exact z,?_⟩);have hf:H1 s1.heap.objs.size=none:=I1.hok.fresh (Qh _);refine⟨.ref s1.heap.objs.size,upd H1 s1.heap.objs.size (.tup xs),I1.laid (t':=s1.toks) (λb u e=>Qe _ e) (Qh _) ?_,rfl,q _ hf⟩;exact⟨z,us,r,⟨_,Qu _ rfl,rfl,_,rfl⟩,_,Qu _ rfl,rfl⟩
theorem bJ(h:PA X es t):PE X (.List es pos) (yI t):=by intro EQ s σ H Q I hq;refine wpAny_List_spliced (aA (h pos EQ s σ H _ I hq) λus s1 ⟨xs,H1,I1,r,z,q⟩=>⟨by rw[<-r.length];exact z,?_⟩);have hf:H1 s1.heap.objs.size=none:=I1.hok.fresh (Qh _);refine⟨.ref s1.heap.objs.size,upd H1 s1.heap.objs.size (.lst xs),I1.laid (t':=s1.toks) (λb u e=>Qe _ e) (Qh _) ?_,rfl,q _ hf⟩;exact⟨z,us,0,r,Qu _ rfl⟩
end
abbrev Sp:=List V->Hp->VK->XK->Prop
abbrev eY:=List Env->Hp->Shared->XK->Value->Shared->Prop
structure eP(P:Program)(w:World)(K:PySem.W.Frag)(mg:Str->Option Value)(base:Heap)(A:Around)(outer:List Env)(s:Shared)(H:Hp):Prop where
 frames:A.frames=some outer
 mod:Mod K mg base
 bs:∀b o,base.get? b=some o->s.heap.get? b=some o/\H b=none
 bsz:base.objs.size<=s.heap.objs.size
 funs:s.heap.FunFrames base outer
 frf:∀b∈eB outer,H b=none
 hok:bG P w H s.heap
 bare:AllBare s.gens
def CE(outer:List Env)(P:Program)(w:World)(H:Hp)(s:Shared)(Q:VK)(u:Value)(s':Shared):Prop:=
 ∃v H',s'.os=s.os/\AllBare s'.gens/\Un (eB outer) [] H H' s.heap s'.heap/\bG P w H' s'.heap/\RelV v u/\Q v H'
def CR(CX:eY)(outer:List Env)(P:Program)(w:World)(H:Hp)(s:Shared)(Q:VK)(E:XK)(r:Result)(s':Shared):Prop:=
 match r with
 |.ok (.ret u)=>CE outer P w H s Q u s'
 |.ok _=>False
 |.error e=>CX outer H s E e s'
structure aI(P:Program)(w:World)(K:PySem.W.Frag)(mg:Str->Option Value)(base:Heap)(CX:eY)(k:Nat)(f:Addr)(fd:FuncData)(ps:List Str)(sp:Sp):Prop where
 len:∀vs H Q E,sp vs H Q E->vs.length=ps.length
 run:∀(A:Around) (outer:List Env) (s:Shared) (H:Hp) (args:Args) (us:List Value) (vs:List V) (Q:VK) (E:XK),aB k A->eP P w K mg base A outer s H->BindsTo s fd args (ps.zip us)->aw vs us->sp vs H Q E ->
  codeAny (model P w) A (.call (.ref f) args) (CR CX outer P w H s Q E) s
theorem eP.make{P:Program}{w:World}{K:PySem.W.Frag}{mg:Str->Option Value}{base:Heap}{A:Around}{outer:List Env}{s:Shared}{H:Hp}(e:eP P w K mg base A outer s H)(C:Addr)(us:List Value)(kw:List (Str×Value)) :
  eP P w K mg base (A.under (.builtin "type.__call__" ⟨.ref C::us,kw⟩)) outer s H:=⟨by first|exact e.frames|(simpa [Around.under,Code.envs,Code.isFrame,pushEnvs] using e.frames),e.mod,e.bs,e.bsz,e.funs,e.frf,e.hok,e.bare⟩
theorem eP.in1{P:Program}{w:World}{K:PySem.W.Frag}{mg:Str->Option Value}{base:Heap}{A:Around}{outer:List Env}{s:Shared}{H:Hp}(e:eP P w K mg base A outer s H) :
  eP P w K mg base A.in1 outer s H:=⟨e.frames,e.mod,e.bs,e.bsz,e.funs,e.frf,e.hok,e.bare⟩
section
variable {X:Cx}{EQ:List (Addr×Obj)}{σ:St}{H:Hp}{s s':Shared}
theorem Inv.env0(I:Inv X EQ σ H s):eP X.prog X.w X.K X.mg X.base X.A X.stack s H:=
 ⟨I.ok.frames,I.ok.mod,I.bs,QK I.ok.bsz I.sz,I.stack,I.stkFree,I.hok,I.bare⟩
theorem Inv.after{Q:VK}{u:Value}(I:Inv X EQ σ H s)(h:CE X.stack X.prog X.w H s Q u s'):EP X EQ σ Q u s':=by obtain⟨v,H',os,bare,un,hok,r,q⟩:=h;obtain⟨hh,g,d,t,IL⟩:=s';obtain rfl:IL=s.os:=os;exact⟨v,H',I.call (h':=hh) (g':=g) (d':=d) (t':=t) (ch:=[]) un hok bare (λb z=>absurd z (by simp)),r,q⟩
end
def qk(sp:Sp)(Fv:List V)(E:XK)(t:TA):TE:=λσ H Q=>t σ H λvs H1=>sp (vs++Fv) H1 Q E
inductive qm (C:Addr) (m:Str) (sp:Sp) (Fv:List V) (E:XK) (t:TA) (σ:St) (Q:VK) (x:V) (H:Hp):Prop
 |mk:∀a dx fs,x=.ref a->H a=some (.ins C dx fs)->fs.lookup m=none->(t σ H λvs H2=>sp (x::(vs++Fv)) H2 Q E)->qm C m sp Fv E t σ Q x H
def yJ(C:Addr)(m:Str)(sp:Sp)(Fv:List V)(E:XK)(ta:TE)(t:TA):TE:=λσ H Q=>ta σ H (qm C m sp Fv E t σ Q)
def yK(C:Addr)(sp:Sp)(Fv:List V)(E:XK)(t:TA):TE:=λσ H Q=>t σ H λvs H1=>∀x dx,H1 x=none->H1 dx=none->dx≠x ->
 sp (.ref x::(vs++Fv)) (upd (upd H1 dx (.own x)) x (.ins C dx [])) (λv H2=>v=.non/\Q (.ref x) H2) E
def Binds(K:PySem.W.Frag)(fd:FuncData)(ps:List Str)(ds:List Value):Prop:=
 ∀(s:Shared) (us:List Value),K.In s.heap->(us++ds).length=ps.length->BindsTo s fd ⟨us,[]⟩ (ps.zip (us++ds))
theorem Binds.all{K:PySem.W.Frag}{fd:FuncData}{ps:List Str}(h:∀us:List Value,us.length=ps.length->bindArgs fd ⟨us,[]⟩=pure (ps.zip us)):Binds K fd ps []:=λs us _ hl=>by rw[Qy] at hl ⊢;exact .of_eq (h us hl)
def iz(CX:eY)(X:Cx)(E:XK):Prop:=∀(EQ:List (Addr×Obj)) (σ:St) (H:Hp) (s:Shared) (e:Value) (s':Shared),Inv X EQ σ H s->CX X.stack H s E e s'->X.xe e s'
section
variable {X:Cx}{CX:eY}{k:Nat}{f C:Addr}{fd:FuncData}{ps:List Str}{sp:Sp}{Fv:List V}{ds:List Value}{E:XK}{x m:Str}{p pos apos:Pos}{e o:Expr}{es:List Expr}{ta:TE}{t:TA}
theorem qo{EQ:List (Addr×Obj)}{σ:St}{H:Hp}{s:Shared}{Q:VK}{us:List Value}{vs:List V}(F:aI X.prog X.w X.K X.mg X.base CX k f fd ps sp)(hr:aB k X.A)(hb:Binds X.K fd ps ds)(hd:aw Fv ds)(hx:iz CX X E)
  (I:Inv X EQ σ H s) (r:aw vs us) (h:sp (vs++Fv) H Q E):wpAny (model X.prog X.w) X.A (call (.ref f) us) (EP X EQ σ Q) X.xe s:=by
 have r2:aw (vs++Fv) (us++ds):=r.append hd;have hl:(us++ds).length=ps.length:=by rw[<-r2.length];exact F.len _ _ _ _ h
 refine wpAny_call (codeAny_mono (F.run X.A X.stack s H ⟨us,[]⟩ (us++ds) (vs++Fv) Q E hr I.env0 (hb s us I.kIn hl) r2 h) λr s' hq=>?_)
 cases r with
 |error e=>exact hx EQ σ H s e s' I hq
 |ok fl =>
  cases fl with
  |ret u=>exact I.after hq
  |next=>exact False.elim hq
  |brk=>exact False.elim hq
  |cont=>exact False.elim hq
theorem yL(F:aI X.prog X.w X.K X.mg X.base CX k f fd ps sp)(hr:aB k X.A)(hg:Gl X x)(hm:X.mg x=some (.ref f))(hk:PySem.W.keepIn X.K (.ref f)=true)(hb:Binds X.K fd ps ds)(hd:aw Fv ds)(hx:iz CX X E)
  (ha:PA X (e::es) t) (hdb:(x==("__debug__":Str))=false:=by decide) (he:starEach (e::es) X.env=(false,eval e X.env)::starEach es X.env:=by rfl) (Fx:(backTo pos (starEach es X.env)).any (·.1)=false:=by rfl) :
  PE X (.Call (.Name x p) (e::es) [] pos) (qk sp Fv E t):=by
 intro EQ s σ H Q I h;refine wpAny_Call_Name_kw (kE I hg hm ?_ hdb);refine PySem.W.callWith_K (h₀:=X.base) I.ok.mod.kin hk (aA (ha pos EQ s σ H _ I h) λus s1 ⟨vs,H1,I1,r,q⟩=>⟨I1.kIn,?_⟩) he Fx;exact qo F hr hb hd hx I1 r q
theorem dC{pl:Sem Bool}(he:PE X o ta)(c:fz X.K C)(hm:fU X.K C m f)(F:aI X.prog X.w X.K X.mg X.base CX k f fd ps sp)(hr:aB k X.A)(hb:Binds X.K fd ps ds)(hd:aw Fv ds)(hx:iz CX X E)(ha:PA X (e::es) t)
  (hst:starEach (e::es) X.env=(false,eval e X.env)::starEach es X.env:=by rfl) (Fx:(backTo pos (starEach es X.env)).any (·.1)=false:=by rfl)
  (ht:eval (.Call (.Attribute o m apos) (e::es) [] pos) X.env=(do
   let ov <- eval o X.env
   standAt apos.atName
   let (f,first) <- holding [ov] (getMethod ov m pl)
   callWith pos f first (backTo pos (starEach (e::es) X.env)) (backToKw pos (keywordEach [] X.env))):=by rfl) :
  PE X (.Call (.Attribute o m apos) (e::es) [] pos) (yJ C m sp Fv E ta t):=by
 intro EQ s σ H Q I h;refine PySem.W.methodCall_KW (pl:=pl) (aA (he EQ s σ H _ I h) λu s1 hsl31=>?_) ht;obtain⟨x,H1,I1,rx,a,dx,fs,ex,ea,l,q⟩:=hsl31;subst ex;obtain rfl:u=Value.ref a:=rx;refine yz I1 ea c hm l ?_;refine PySem.W.callWith_K (first:=[.ref a]) (h₀:=X.base) I.ok.mod.kin hm.kp (aA (ha pos EQ s1 σ H1 _ I1 q) λus s2 ⟨vs,H2,I2,r,q2⟩=>⟨I2.kIn,?_⟩) hst Fx;exact qo (us:=.ref a::us) (vs:=.ref a::vs) F hr hb hd hx I2 (.cons rfl r) q2
structure Mk(K:PySem.W.Frag)(C f:Addr):Prop where
 makes:PySem.W.makesIn K C=true
 init:PySem.W.findIn K (.ref C) "__init__"=some (some (.ref f))
 fn:PySem.W.isFn K (.ref f)=true
 kp:PySem.W.keepIn K (.ref C)=true
theorem yM{EQ:List (Addr×Obj)}{σ:St}{H:Hp}{s:Shared}{Q:VK}{us:List Value}{vs:List V}(M:Mk X.K C f)(F:aI X.prog X.w X.K X.mg X.base CX k f fd ps sp)(hr:aB (k+1) X.A)(hb:Binds X.K fd ps ds)(hd:aw Fv ds)
  (hx:iz CX X E) (I:Inv X EQ σ H s) (r:aw vs us)
  (h:∀x dx,H x=none->H dx=none->dx≠x->sp (.ref x::(vs++Fv)) (upd (upd H dx (.own x)) x (.ins C dx [])) (λv H2=>v=.non/\Q (.ref x) H2) E) :
  wpAny (model X.prog X.w) X.A (call (.ref C) us) (EP X EQ σ Q) X.xe s:=by
 have hq:=h (s.heap.objs.size+1) s.heap.objs.size (I.hok.fresh (Nat.le_succ _)) (I.hok.fresh (Qh _)) (QF (Nat.lt_succ_self _));have I2:=Inv.made (C:=C) I;have r2:aw (V.ref (s.heap.objs.size+1)::(vs++Fv)) (Value.ref (s.heap.objs.size+1)::(us++ds)):=.cons rfl (r.append hd);have hl:(Value.ref (s.heap.objs.size+1)::us++ds).length=ps.length:=by have e:=r2.length;rw[F.len _ _ _ _ hq] at e;exact e.symm
 refine wpAny_call (yw (f:=f) I.kIn M.makes M.init (beq_iff_eq.mp M.fn) (codeAny_mono (F.run _ X.stack _ _ ⟨Value.ref (s.heap.objs.size+1)::us,[]⟩ (Value.ref (s.heap.objs.size+1)::(us++ds)) _ _ E (hr.make C us [])
  (I2.env0.make C us []) (hb _ (Value.ref (s.heap.objs.size+1)::us) I2.kIn hl) r2 hq) λr s' IQ=>?_))
 cases r with
 |error e=>exact hx EQ σ _ _ e s' I2 IQ
 |ok fl =>
  cases fl with
  |ret u =>
   obtain⟨v,H',I3,rv,ev,q3⟩:=I2.after IQ;subst ev;exact⟨rv,⟨V.ref (s.heap.objs.size+1),H',I3,rfl,q3⟩⟩
  |next=>exact False.elim IQ
  |brk=>exact False.elim IQ
  |cont=>exact False.elim IQ
theorem yN(M:Mk X.K C f)(F:aI X.prog X.w X.K X.mg X.base CX k f fd ps sp)(hr:aB (k+1) X.A)(hg:Gl X x)(hm:X.mg x=some (.ref C))(hb:Binds X.K fd ps ds)(hd:aw Fv ds)(hx:iz CX X E)
  (ha:PA X (e::es) t) (hdb:(x==("__debug__":Str))=false:=by decide) (he:starEach (e::es) X.env=(false,eval e X.env)::starEach es X.env:=by rfl) (Fx:(backTo pos (starEach es X.env)).any (·.1)=false:=by rfl) :
  PE X (.Call (.Name x p) (e::es) [] pos) (yK C sp Fv E t):=by
 intro EQ s σ H Q I h;refine wpAny_Call_Name_kw (kE I hg hm ?_ hdb);refine PySem.W.callWith_K (h₀:=X.base) I.ok.mod.kin M.kp (aA (ha pos EQ s σ H _ I h) λus s1 ⟨vs,H1,I1,r,q⟩=>⟨I1.kIn,?_⟩) he Fx;exact yM M F hr hb hd hx I1 r q
end
def PK(X:Cx)(kws:List Keyword)(t:TA):Prop:=
 ∀(pos:Pos) (EQ:List (Addr×Obj)) (s:Shared) (σ:St) (H:Hp) (Q:List V->Hp->Prop),Inv X EQ σ H s->t σ H Q->wpAny (model X.prog X.w) X.A (evalAll ((backToKw pos (keywordEach kws X.env)).map (·.2))) (AP X EQ σ Q) X.xe s
section
variable {X:Cx}{CX:eY}{k:Nat}{f C:Addr}{fd:FuncData}{ps ks:List Str}{sp:Sp}{E:XK}{x m:Str}{p pos apos kpos:Pos}{e o:Expr}{es:List Expr}{kws:List Keyword}{te ta:TE}{t tk:TA}{nm:Option Str}
theorem yO:PK X [] qi:=λ_ _ _ _ H Q I h=>wpAny_evalAll_nil ⟨[],H,I,.nil,h⟩
theorem yP(ha:PE X e te)(hr:PK X kws t):PK X (⟨nm,e,kpos⟩::kws) (qj te t):=by intro pos EQ s σ H Q I h;show wpAny _ _ (evalAll ((do let v <- eval e X.env;standAt pos;pure v)::(backToKw pos (keywordEach kws X.env)).map (·.2))) _ _ s;refine wpAny_evalAll_cons (Qb (aA (ha EQ s σ H _ I h) λu s1 ⟨x,H1,I1,r1,q1⟩=>Qb (wpAny_standAt (Qd ?_))));exact aA (hr pos EQ s1 σ H1 _ I1 q1) λus s2 hsl32=>by obtain⟨xs,H2,I2,r2,q2⟩:=hsl32;exact⟨x::xs,H2,I2,.cons r1 r2,q2⟩
variable {g:List Value->List Value->List Value}{gV:List V->List V->List V}
end
structure be(N P:List Str)(sc:Scope):Prop where
 kind:sc.kind=.function
 co:sc.isCoroutine=false
 gen:sc.isGenerator=false
 nd:N.Nodup
 pre:N.take P.length=P
 par:∀x∈P,sc.names.lookup x=some .local∨sc.names.lookup x=some .cell
 nofree:∀y∈sc.names,y.2≠.free
theorem qp{kindOf:Str->Option NameKind}{x:Str}:∀{Hd:List (Str×Value)} {m:Str->Option Value},(∀v,(x,v)∉Hd)->bindL kindOf Hd m x=m x
 | [],_,_=>rfl
 |(n,v)::r,m,h=>by
  unfold bindL;rw[qp λw hw=>h w (QA _ hw)];split
  ·have:x≠n:=by rintro rfl;exact h v QH
   simp[this]
  ·rfl
theorem qq{kindOf:Str->Option NameKind}{x:Str}:∀{Hd:List (Str×Value)} {m:Str->Option Value},(∀v,(x,v)∉Hd)->bindC kindOf Hd m x=m x
 | [],_,_=>rfl
 |(n,v)::r,m,h=>by
  unfold bindC;rw[qq λw hw=>h w (QA _ hw)];split
  ·rfl
  ·have:x≠n:=by rintro rfl;exact h v QH
   simp[this]
theorem qr{kindOf:Str->Option NameKind}{x:Str}{v:Value}:∀{P:List Str} {vs:List Value} {i:Nat} {m:Str->Option Value},P.Nodup->P[i]?=some x->vs[i]?=some v->kindOf x=some .local ->
  bindL kindOf (P.zip vs) m x=some v
 | [],_,_,_,_,h,_,_=>by simp at h
 |_::_,[],_,_,_,_,h,_=>by simp at h
 |p::P,w::vs,0,m,nd,h1,h2,hk=>by simp at h1 h2;subst h1;subst h2;show bindL kindOf ((p,w)::P.zip vs) m p=_;unfold bindL;rw[qp λv hv=>(List.nodup_cons.mp nd).1 (List.of_mem_zip hv).1,if_pos hk];simp
 |p::P,w::vs,i+1,m,nd,h1,h2,hk=>by show bindL kindOf ((p,w)::P.zip vs) m x=_;unfold bindL;exact qr (i:=i) (List.nodup_cons.mp nd).2 (by simpa using h1) (by simpa using h2) hk
theorem qt{kindOf:Str->Option NameKind}{x:Str}{v:Value}:∀{P:List Str} {vs:List Value} {i:Nat} {m:Str->Option Value},P.Nodup->P[i]?=some x->vs[i]?=some v->kindOf x≠some .local ->
  bindC kindOf (P.zip vs) m x=some v
 | [],_,_,_,_,h,_,_=>by simp at h
 |_::_,[],_,_,_,_,h,_=>by simp at h
 |p::P,w::vs,0,m,nd,h1,h2,hk=>by simp at h1 h2;subst h1;subst h2;show bindC kindOf ((p,w)::P.zip vs) m p=_;unfold bindC;rw[qq λv hv=>(List.nodup_cons.mp nd).1 (List.of_mem_zip hv).1,if_neg hk];simp
 |p::P,w::vs,i+1,m,nd,h1,h2,hk=>by show bindC kindOf ((p,w)::P.zip vs) m x=_;unfold bindC;exact qt (i:=i) (List.nodup_cons.mp nd).2 (by simpa using h1) (by simpa using h2) hk
noncomputable def start(N:List Str)(vs:List V):St:=vs.map some++List.replicate (N.length-vs.length) none
noncomputable def cZ(CX:eY)(P:Program)(w:World)(K:PySem.W.Frag)(mg:Str->Option Value)(base:Heap)(N:List Str)(qual:Str)(scope:Scope)(f:Addr)(cd:Value)(A:Around)(outer:List Env)(s:Shared)(H:Hp)(E:XK):Cx where
 prog:=P
 w:=w
 K:=K
 mg:=mg
 base:=base
 A:=A.deeper (envOfC qual scope s.heap.objs.size f cd)
 N:=N
 s₀:=s
 H₀:=H
 env:=envOfC qual scope s.heap.objs.size f cd
 outer:=outer
 stack:=envOfC qual scope s.heap.objs.size f cd::outer
 ex:=[]
 calm:=true
 fn:=λ_=>true
 pn:=[]
 xe:=λe s'=>wpAny (model P w) (A.deeper (envOfC qual scope s.heap.objs.size f cd)) (leaving (envOfC qual scope s.heap.objs.size f cd) e) (λ_ s''=>CX outer H s E e s'') (λe' s''=>CX outer H s E e' s'') s'
theorem qu{sc:Scope}{n:Nat}{x:Str}(h:sc.names.lookup x=some .cell):∃c,(cellsFrom n sc.names []).lookup x=some c:=by have q:=PySem.W.cellsFrom_some sc.names n [] (.inl h);exact Option.isSome_iff_exists.mp q
theorem yQ{CX:eY}{P:Program}{w:World}{K:PySem.W.Frag}{mg:Str->Option Value}{base:Heap}{N ps:List Str}{qual:Str}{scope:Scope}{f:Addr}{cd:Value}{A:Around}{outer:List Env}{s s1:Shared}{H:Hp}{E:XK}{us:List Value}{vs:List V}
  (S:be N ps scope) (hd:A.handled=none) (e0:eP P w K mg base A outer s H) (hl:vs.length=ps.length) (r:aw vs us)
  (x:InCallC s s.heap.objs.size (bindL (envOfC qual scope s.heap.objs.size f cd).kindOf (ps.zip us) λ_=>none) (cellsFrom (s.heap.objs.size+1) scope.names []) (bindC (envOfC qual scope s.heap.objs.size f cd).kindOf (ps.zip us) λ_=>none) s1) :
  Inv (cZ CX P w K mg base N qual scope f cd A outer s H E) [] (start N vs) H s1:=by
 have Fx:ps.length<=N.length:=by have:=congrArg List.length S.pre;rw[Qx] at this;lia
 obtain⟨h1,tk,rfl,hk⟩:=x.done;have noA:∀b:Addr,b∉(cZ CX P w K mg base N qual scope f cd A outer s H E).ex:=λb z=>absurd (show b∈([]:List Addr) from z) (by simp)
 refine⟨⟨e0.mod,S.kind,rfl,rfl,Qh _,λy z c h1 h2=>?_,λy hy=>?_,λy c _ h=>?_,λ_=>hd,Around.frames_deeper e0.frames,.inr ⟨rfl,rfl⟩,λb z=>absurd z (noA b),e0.bs,e0.bsz,λb _ _=>noA b,λb z=>absurd z (noA b),e0.funs,e0.frf⟩,
  rfl,e0.bare,Un.kept hk,⟨_,x.toInCall.ns,λi y v h1 h2 h3=>?_⟩,λy c h=>⟨_,x.cell y c h⟩,e0.hok.fresh (Qh _),λy c h=>?_,λp hp=>absurd (show p∈([]:List (Addr×Obj)) from hp) (by simp),e0.hok.kept hk,?_⟩
 ·exact name_of_addr x.apart (PySem.mem_of_lookup h1) (PySem.mem_of_lookup h2)
 ·have hy:scope.names.lookup y=some .cell∨scope.names.lookup y=some .free:=hy;rcases hy with hy|hy
  ·exact qu hy
  ·exact absurd rfl (S.nofree _ (PySem.mem_of_lookup hy))
 ·exact QT (x.above y c (PySem.mem_of_lookup h))
 ·have hi:i<vs.length:=by
   unfold start at h2;by_cases hi:i<vs.length
   ·exact hi
   ·rw[Qs (by simpa using hi)] at h2;rw[List.getElem?_replicate] at h2;split at h2<;>cases h2
  have ha:vs[i]?=some v:=by
   unfold start at h2;rw[Ql (by simpa using hi),Qj] at h2
   cases e:vs[i]? with
   |none=>rw[e] at h2;cases h2
   |some a=>rw[e] at h2;cases h2;rfl
  obtain⟨u,hu,rv⟩:=r.get ha;have hp:ps[i]?=some y:=by rw[<-S.pre,List.getElem?_take_of_lt (by lia)];exact h1
  have ndP:ps.Nodup:=by rw[<-S.pre];exact S.nd.sublist (List.take_sublist _ _)
  refine⟨u,rv,?_⟩;rcases S.par y (Qk hp) with k|k
  ·exact .inl ⟨k,qr ndP hp hu k⟩
  ·obtain⟨c,e⟩:=qu (n:=s.heap.objs.size+1) k;refine .inr ⟨.inl k,c,e,?_⟩;have q:=x.cell y c e;rw[qt ndP hp hu (by show scope.names.lookup y≠_;rw[k];decide)] at q;exact q
 ·exact e0.hok.fresh (QT (x.above y c (PySem.mem_of_lookup h)))
 ·unfold start;show _=N.length;rw[Qr,Qf,List.length_replicate];lia
theorem yR{CX:eY}{P:Program}{w:World}{K:PySem.W.Frag}{mg:Str->Option Value}{base:Heap}{k:Nat}{f:Addr}{name qual:Str}{params:Arguments}{body:List Stmt}{scope:Scope}{dV kV HV pm E2 ct oc:Value}{an od:Option Addr}
  {osl:Array (Option Value)} {N ps:List Str} {sp:Sp} (lk:K.lookup f=some ⟨oc,od,.func (PySem.W.fnOf name qual params body scope dV kV HV pm an E2 ct),osl⟩) (Hz:PySem.W.codeIn K E2 qual=true) (S:be N ps scope)
  (len:∀vs H Q E,sp vs H Q E->vs.length=ps.length)
  (Jj:∀(A:Around) (outer:List Env) (s:Shared) (H:Hp) (vs:List V) (Q:VK) (E:XK),aB k (A.deeper (envOfC qual scope s.heap.objs.size f E2))->sp vs H Q E ->
   ∃t,eC (cZ CX P w K mg base N qual scope f E2 A outer s H E) body t/\t {nx:=λ_ H'=>Q .non H',rt:=Q} (start N vs) H) :
  aI P w K mg base CX (k+1) f (PySem.W.fnOf name qual params body scope dV kV HV pm an E2 ct) ps sp:=by
 refine⟨len,λA outer s H args us vs Q E hr e0 hb r IN=>?_⟩;have hl:=len _ _ _ _ IN;have KX:K.In s.heap:=e0.mod.kin.keeps λb o e=>(e0.bs b o e).1;have lim:s.heap.NoLimit:=e0.mod.nolimit.keeps λb o e=>(e0.bs b o e).1
 have hkind:∀y∈ps.zip us,scope.names.lookup y.1=some .local∨(scope.names.lookup y.1=some .cell/\((cellsFrom (s.heap.objs.size+1) scope.names []).lookup y.1).isSome=true):=λ⟨n,v⟩ hy=>by
  rcases S.par n (List.of_mem_zip hy).1 with q|q
  ·exact .inl q
  ·exact .inr ⟨q,PySem.W.cellsFrom_some _ _ _ (.inl q)⟩
 refine codeAny_call_function hr.depth (KX _ _ lk) rfl S.co S.gen rfl (PySem.W.codeRec_of KX Hz) (hb _ _ _ _ ?_);refine wpAny_newFunctionEnv_cells S.kind hkind λenv he s1 x=>?_;subst he;refine⟨lim.keeps x.toInCall.keep,codeAny_func ?_⟩;obtain⟨t,ht,hq⟩:=Jj A outer s H vs Q E (hr.deeper _) IN;have I:Inv (cZ CX P w K mg base N qual scope f E2 A outer s H E) [] (start N vs) H s1:=yQ S hr.hd e0 hl r x;refine QW (ht [] s1 (start N vs) H _ I hq) (λfl s' hs=>?_) λe s' hs=>hs
 have fin:∀{σ':St} {H':Hp} {v:V} {u:Value},Inv (cZ CX P w K mg base N qual scope f E2 A outer s H E) [] σ' H' s'->RelV v u->Q v H'->CE outer P w H s Q u s':=
  λ{σ' H' v u} J rv q=>⟨v,H',J.os,J.bare,J.base,J.hok,rv,q⟩
 cases fl with
 |ret u =>
  obtain⟨v,σ',H',J,rv,q⟩:=hs;exact fin J rv q
 |next =>
  obtain⟨σ',H',J,q⟩:=hs;exact fin (v:=V.non) (u:=Value.none) J rfl q
 |brk =>
  obtain⟨_,_,_,q⟩:=hs;exact False.elim q
 |cont =>
  obtain⟨_,_,_,q⟩:=hs;exact False.elim q
section
variable {X:Cx}{x:Str}{p pos:Pos}{e:Expr}{es:List Expr}{t:TA}{id T:String}{r:List V->Hp->VK->Prop}
def qw(r:List V->Hp->VK->Prop)(t:TA):TE:=λσ H Q=>t σ H λvs H1=>r vs H1 Q
theorem ci(hc:dA X (.builtin id) r)(hg:Gl X x)(hm:X.mg x=none)(hv:bootBuiltins x=some (.builtin id))(ha:PA X (e::es) t)(hn:x≠"__name__":=by decide)(hdb:(x==("__debug__":Str))=false:=by decide)
  (he:starEach (e::es) X.env=(false,eval e X.env)::starEach es X.env:=by rfl) (Fx:(backTo pos (starEach es X.env)).any (·.1)=false:=by rfl):PE X (.Call (.Name x p) (e::es) [] pos) (qw r t):=by
 intro EQ s σ H Q I h;refine wpAny_Call_Name_kw (jy I hg hm hv ?_ hn hdb);exact PyProof.Rows.callWith_builtin1 (aA (ha pos EQ s σ H _ I h) λus s1 hsl33=>by obtain⟨vs,H1,I1,r1,q1⟩:=hsl33;exact hc EQ s1 σ H1 vs us Q I1 r1 q1) he Fx
theorem fA(hc:dA X (.type T) r)(hg:Gl X x)(hm:X.mg x=none)(hv:bootBuiltins x=some (.type T))(ha:PA X (e::es) t)(hn:x≠"__name__":=by decide)(hdb:(x==("__debug__":Str))=false:=by decide)
  (he:starEach (e::es) X.env=(false,eval e X.env)::starEach es X.env:=by rfl) (Fx:(backTo pos (starEach es X.env)).any (·.1)=false:=by rfl):PE X (.Call (.Name x p) (e::es) [] pos) (qw r t):=by
 intro EQ s σ H Q I h;refine wpAny_Call_Name_kw (jy I hg hm hv ?_ hn hdb);exact PyProof.Rows.callWith_type1 (aA (ha pos EQ s σ H _ I h) λus s1 hsl34=>by obtain⟨vs,H1,I1,r1,q1⟩:=hsl34;exact hc EQ s1 σ H1 vs us Q I1 r1 q1) he Fx
end
end L2
namespace HT
open PySem PyProof.Rows
section
variable {prog:Program}{w:World}{A:Around}{E:Value->Shared->Prop}{s:Shared}
theorem cat_tup{t b:Addr}{vs ws:List Value}{Q:Value->Shared->Prop}(ht:IsTup s.heap t vs.toArray)(hb:IsTup s.heap b ws.toArray)(hv:vs≠[])
  (h1:ws=[]->Q (.ref t) s) (h2:ws≠[]->Q (.ref s.heap.objs.size) {s with heap:=s.heap.push {cls:=.type "tuple",data:=.seq (vs++ws).toArray} })
  (hsz:vs.length+ws.length<=sizeLine):wpAny (model prog w) A (binaryOp .Add (.ref t) (.ref b)) Q E s:=by
 obtain⟨⟨cls,dd,data,sl⟩,ho,hc,n,hd⟩:=id ht;obtain⟨⟨cls2,dd2,data2,sl2⟩,HN,IJ,n2,GJ⟩:=id hb;simp only at hc hd IJ GJ;subst hc hd IJ GJ;have e:vs.toArray++ws.toArray=(vs++ws).toArray:=by simp
 by_cases hw:ws=[]
 ·exact concat_meets ⟨_,ho,rfl⟩ ⟨_,HN,rfl⟩ noFill_tuple_add seq_tuple_add PySem.F.slot_tuple_add PySem.F.entry_tuple_add (PySem.F.args_tuple_add_2 _ _)
   (tuple_addW1 t b vs.toArray ws.toArray n n2 dd dd2 sl sl2 (by simpa using hv) (by simp[hw])) ⟨ho,HN,h1 hw⟩
 ·refine concat_meets ⟨_,ho,rfl⟩ ⟨_,HN,rfl⟩ noFill_tuple_add seq_tuple_add PySem.F.slot_tuple_add PySem.F.entry_tuple_add (PySem.F.args_tuple_add_2 _ _)
   (tuple_addW2 t b vs.toArray ws.toArray n n2 dd dd2 sl sl2 (by simpa using hv) (by simpa using hw) (by rw[Qt,Qt];exact hsz)) ⟨ho,HN,?_⟩
  rw[e];exact h2 hw
noncomputable def sIx(n d:Nat):Option Int->Nat
 |none=>d
 |some v=>if v<0 then(v+(n:Int)).toNat else min v.toNat n
theorem sIx_none(n d:Nat):sIx n d none=d:=rfl
theorem sIx_nat(n d k:Nat):sIx n d (some (k:Int))=min k n:=by show(if(k:Int)<0 then((k:Int)+(n:Int)).toNat else min (k:Int).toNat n)=min k n;rw[if_neg (by lia),QU]
theorem sIx_le(n d:Nat)(hd:d<=n)(o:Option Int):sIx n d o<=n:=by
 cases o with
 |none=>exact hd
 |some v =>
  show(if v<0 then(v+(n:Int)).toNat else min v.toNat n)<=n;by_cases hv:v<0
  ·rw[if_pos hv];lia
  ·rw[if_neg hv];exact Nat.min_le_right _ _
theorem qx(v:Int)(n d:Nat):(if v<0 then max (v+(n:Int)) 0 else min v (n:Int))=((sIx n d (some v):Nat):Int):=by
 show(if v<0 then max (v+(n:Int)) 0 else min v (n:Int))=(((if v<0 then(v+(n:Int)).toNat else min v.toNat n):Nat):Int);by_cases hv:v<0
 ·simp only[if_pos hv];lia
 ·simp only[if_neg hv];lia
theorem yS(lo hi:Option Int)(n:Nat):Builtin.Slice.sliceAdjust lo hi 1 (n:Int)=(((sIx n 0 lo:Nat):Int),((sIx n n hi:Nat):Int)):=by
 have h1:¬((1:Int)<0):=by omega
 unfold Builtin.Slice.sliceAdjust;simp only[h1,if_false];refine Prod.ext ?_ ?_
 ·cases lo with
  |none=>rfl
  |some v=>exact qx v n 0
 ·cases hi with
  |none=>rfl
  |some v=>exact qx v n n
theorem yT(i j:Nat):Builtin.Slice.slicePlaces (i:Int) (j:Int) 1=j-i:=by
 unfold Builtin.Slice.slicePlaces;have h1:(1:Int)>0:=by lia
 simp only[h1,if_true,Int.ediv_one];split<;>lia
theorem qy{v:Value}{o:Option Int}{Q:Option Int->Shared->Prop}(p:IsPart v o)(h:Q o s):wpAny (model prog w) A (Builtin.Slice.slicePartIndex v) Q E s:=by
 cases p with
 |none=>exact slicePart_none h
 |int i t=>exact slicePart_int h
theorem yU{sl:Addr}{vl vu:Value}{lo hi:Option Int}{n:Nat}{Q:Int×Int×Nat->Shared->Prop}(hs:s.heap.IsSliceOf sl vl vu .none)(pl:IsPart vl lo)(pu:IsPart vu hi)
  (h:Q (((sIx n 0 lo:Nat):Int),1,sIx n n hi-sIx n 0 lo) s):wpAny (model prog w) A (Builtin.Slice.sliceApplied (.ref sl) (pure (n:Int))) Q E s:=by
 obtain⟨os,FO,hcs,hds⟩:=id hs;unfold Builtin.Slice.sliceApplied Builtin.Slice.sliceFields;refine Qb (Qb (wpAny_field FO hds (x:=vl) rfl (Qb (wpAny_field FO hds (x:=vu) rfl (Qb (wpAny_field FO hds (x:=.none) rfl (Qd ?_)))))));refine Qb (slicePart_none ?_);show wpAny _ _ (if((1:Int)==0)=true then _ else _) _ _ s;rw[if_neg (by decide)];refine Qb (qy pl (Qb (qy pu (Qb (Qd ?_)))));show wpAny _ _ (match Builtin.Slice.sliceAdjust lo hi 1 (n:Int) with|(lo,hi)=>pure (lo,(1:Int),Builtin.Slice.slicePlaces lo hi 1)) _ _ s;rw[yS lo hi n];show wpAny _ _ (pure (((sIx n 0 lo:Nat):Int),(1:Int),Builtin.Slice.slicePlaces ((sIx n 0 lo:Nat):Int) ((sIx n n hi:Nat):Int) 1)) _ _ s;rw[yT];exact Qd h
theorem yV(xs:Array Value)(i k:Nat):((List.range k).filterMap λ(m:Nat)=>xs[((i:Int)+(m:Int)*1).toNat]?).toArray=((xs.toList.drop i).take k).toArray:=by
 have e:(λ(m:Nat)=>xs[((i:Int)+(m:Int)*1).toNat]?)=λm=>xs[i+m]?:=by
  funext m;have:((i:Int)+(m:Int)*1).toNat=i+m:=by lia
  rw[this]
 rw[e];have:=pick_run xs i k;rw[List.filterMap_map] at this;have e2:((λx=>xs[x]?)∘λx=>i+x)=λm=>xs[i+m]?:=rfl;rw[e2] at this;rw[this]
theorem getItem_tuple_cut{t sl:Addr}{items:Array Value}{vl vu:Value}{lo hi:Option Int}{Q:Value->Shared->Prop}(ht:IsTup s.heap t items)(hs:s.heap.IsSliceOf sl vl vu .none)(pl:IsPart vl lo)(pu:IsPart vu hi)
  (hw:¬(sIx items.size 0 lo=0/\sIx items.size items.size hi=items.size))
  (h:Q (.ref s.heap.objs.size) {s with heap:=s.heap.push {cls:=.type "tuple",data:=.seq ((items.toList.drop (sIx items.size 0 lo)).take (sIx items.size items.size hi-sIx items.size 0 lo)).toArray} })
  (hsz:items.size<=sizeLine):wpAny (model prog w) A (getItem (.ref t) (.ref sl)) Q E s:=by
 have HZ:sizeOk (.seq ((items.toList.drop (sIx items.size 0 lo)).take (sIx items.size items.size hi-sIx items.size 0 lo)).toArray):=by show((items.toList.drop (sIx items.size 0 lo)).take (sIx items.size items.size hi-sIx items.size 0 lo)).toArray.size<=sizeLine;rw[Qt,Qx,List.length_drop,QB];omega
 have hj:sIx items.size items.size hi<=items.size:=sIx_le _ _ (Qh _) hi;obtain⟨os,FO,hcs,hds⟩:=id hs
 have hTs:s.TypeIs (.ref sl) "slice":=⟨os,FO,hcs⟩
 unfold getItem
 try with_reducible refine wpAny_holding ?_
 first|refine Qb (Qd ?_)|skip
 refine Qb (wpAny_sequenceKey ht.typeIs (by decide) ?_)
 refine Qb (wpAny_callSpecial?_slot (name:=Str.ofString "__getitem__") ht.typeIs PyProof.Rows.slot_tuple_getitem
  (wpAny_call_entry PyProof.Rows.slot_tuple_getitem ht.typeIs entry_tuple_getitem ?_ (args_tuple_getitem _ _)))
 show wpAny _ _ (Builtin.Tuple.tupleItemsOf (.ref t)>>=_) _ _ s;refine Qb (tupleItemsOf_ ht ?_);refine Qb (wpAny_typeOf hTs ?_);rw[if_pos (by decide)];refine Qb (yU hs pl pu ?_);have IE:¬((((sIx items.size 0 lo:Nat):Int)==0&&(1:Int)==1&&(sIx items.size items.size hi-sIx items.size 0 lo)==items.size)=true):=by intro q;rw[QS,QS] at q;have q1:((sIx items.size 0 lo:Nat):Int)=0:=eq_of_beq q.1.1;have q2:sIx items.size items.size hi-sIx items.size 0 lo=items.size:=eq_of_beq q.2;exact hw ⟨by omega,by omega⟩
 show wpAny _ _ (if(((sIx items.size 0 lo:Nat):Int)==0&&(1:Int)==1&&(sIx items.size items.size hi-sIx items.size 0 lo)==items.size)=true then _ else _) _ _ s;rw[if_neg IE,yV]
 first
  |exact Qb (m:=Builtin.Tuple.tupleExact _) (wpAny_newObj_type (Qd ⟨_,rfl,Qd h⟩) HZ)
  |exact Qb (m:=Builtin.Tuple.tupleExact _) (wpAny_newObj_type (Qb (Qd (Qd ⟨_,rfl,Qd h⟩))) HZ)
  |exact Qb (Qb (m:=Builtin.Tuple.tupleExact _) (wpAny_newObj_type (Qd (Qd ⟨_,rfl,Qd h⟩)) HZ))
  |exact Qb (Qb (m:=Builtin.Tuple.tupleExact _) (wpAny_newObj_type (Qd ⟨_,rfl,Qd h⟩) HZ))
end
end HT
namespace L2
open PySem PySem.Spec PyProof.Rows
abbrev TO:=St->Hp->(Option Int->Hp->Prop)->Prop
def PO(X:Cx)(e:Option Expr)(t:TO):Prop:=
 ∀(EQ:List (Addr×Obj)) (s:Shared) (σ:St) (H:Hp) (Q:Option Int->Hp->Prop),Inv X EQ σ H s->t σ H Q ->
  wpAny (model X.prog X.w) X.A (evalPart e X.env) (λu s'=>∃o H',Inv X EQ σ H' s'/\IsPart u o/\Q o H') X.xe s
def yW:TO:=λ_ H Q=>Q none H
def yX(t:TE):TO:=λσ H Q=>t σ H λx H1=>∃i,x=.int i/\Q (some i) H1
section
variable {X:Cx}{e:Expr}{te:TE}{lo hi:Option Expr}{tl th:TO}{pos p2:Pos}
theorem gk:PO X none yW:=by intro EQ s σ H Q I h;rw[evalPart_none];exact Qd ⟨none,H,I,.none,h⟩
theorem gl(h:PE X e te):PO X (some e) (yX te):=by intro EQ s σ H Q I hw;rw[evalPart_some];refine aA (h EQ s σ H _ I hw) λu s1 hsl35=>?_;obtain⟨x,H1,I1,r1,q1⟩:=hsl35;obtain⟨i,rfl,q⟩:=q1;obtain⟨t,rfl⟩:=r1;exact⟨some i,H1,I1,.int i t,q⟩
def iA(X:Cx)(r:V->Option Int->Option Int->Hp->VK->Prop):Prop:=
 ∀(EQ:List (Addr×Obj)) (s:Shared) (σ:St) (H:Hp) (x:V) (v vl vu:Value) (lo hi:Option Int) (sl:Addr) (Q:VK),Inv X EQ σ H s->RelV x v->s.heap.IsSliceOf sl vl vu .none->IsPart vl lo->IsPart vu hi->r x lo hi H Q ->
  ∃T id,typeLookup (.type T) "__getitem__"=pure (some (.builtin id))/\s.TypeIs v T/\wpAny (model X.prog X.w) X.A (getItem v (.ref sl)) (EP X EQ σ Q) X.xe s
def yY(r:V->Option Int->Option Int->Hp->VK->Prop)(te:TE)(tl th:TO):TE:=λσ H Q=>te σ H λx H1=>tl σ H1 λl H2=>th σ H2 λu H3=>r x l u H3 Q
theorem gm{r:V->Option Int->Option Int->Hp->VK->Prop}(hr:iA X r)(he:PE X e te)(hl:PO X lo tl)(hu:PO X hi th):PE X (.Subscript e (.Slice lo hi none p2) pos) (yY r te tl th):=by intro EQ s σ H Q I h;refine Subscript_ (aA (he EQ s σ H _ I h) λv s1 hsl36=>?_);obtain⟨x,H1,I1,r1,q1⟩:=hsl36;refine wpAny_Slice (aA (hl EQ s1 σ H1 _ I1 q1) λvl s2 ⟨l,H2,I2,pl,q2⟩=>aA (hu EQ s2 σ H2 _ I2 q2) λvu s3 hsl37=>?_);obtain⟨u,H3,I3,pu,q3⟩:=hsl37;rw[evalPart_none];refine Qd ?_;have I4:Inv X EQ σ H3 {s3 with heap:=s3.heap.push {cls:=.type "slice",data:=.fields #[vl,vu,.none]} }:=I3.kept (t':=s3.toks) λb ob q=>Qe _ q;obtain⟨T,id,hT,ht,hg⟩:=hr EQ {s3 with heap:=s3.heap.push {cls:=.type "slice",data:=.fields #[vl,vu,.none]} } σ H3 x v vl vu l u s3.heap.objs.size Q I4 r1 (Heap.IsSliceOf.new ..) pl pu q3;show wpAny (model X.prog X.w) X.A (subscriptTail e (.Slice lo hi none p2) v (.ref s3.heap.objs.size)) (EP X EQ σ Q) X.xe {s3 with heap:=s3.heap.push {cls:=.type "slice",data:=.fields #[vl,vu,.none]} };exact tail_any (ops:=[.ref s3.heap.objs.size,v]) ht hT hg (by with_unfolding_all rfl)
noncomputable def fB(xs:List V)(lo hi:Option Int):List V:=(xs.drop (HT.sIx xs.length 0 lo)).take (HT.sIx xs.length xs.length hi-HT.sIx xs.length 0 lo)
theorem qz(xs:List V)(lo hi:Option Int):(fB xs lo hi).length<=xs.length:=by unfold fB;rw[Qx,List.length_drop];omega
inductive mD (K:PySem.W.Frag) (x:V) (lo hi:Option Int) (H:Hp) (Q:VK):Prop
 |mk:∀a xs,x=.ref a->aq K H a xs->¬(HT.sIx xs.length 0 lo=0/\HT.sIx xs.length xs.length hi=xs.length)->(∀p,H p=none->Q (.ref p) (upd H p (.tup (fB xs lo hi))))->mD K x lo hi H Q
theorem yZ:iA X (mD X.K):=by
 intro EQ s σ H x v vl vu lo hi sl Q I rx hs pl pu h;obtain⟨a,xs,rfl,hx,hw,q⟩:=h;cases rx;obtain⟨its,r,ht,hz⟩:=I.tuple hx;have EZ:its.toArray.size=xs.length:=by rw[Qt];exact r.length.symm
 refine⟨"tuple",_,PyProof.Rows.slot_tuple_getitem.lookup,ht.typeIs,?_⟩;refine HT.getItem_tuple_cut ht hs pl pu (by rw[EZ];exact hw) ?_ (by rw[EZ];exact hz);rw[EZ];refine⟨.ref s.heap.objs.size,_,I.laid (t':=s.toks) (o:=.tup (fB xs lo hi)) (λb ob q=>Qe _ q) (Qh _) ?_,rfl,q _ (I.hok.fresh (Qh _))⟩;exact⟨QK (qz xs lo hi) hz,_,(r.drop (HT.sIx xs.length 0 lo)).take (HT.sIx xs.length xs.length hi-HT.sIx xs.length 0 lo),IsTup.new _ _,ip.new _ _⟩
inductive mE (K:PySem.W.Frag) (x y:V) (H:Hp) (Q:VK):Prop
 |mk:∀a b xs ys,x=.ref a->y=.ref b->aq K H a xs->aq K H b ys->xs≠[]->xs.length+ys.length<=sizeLine->(ys=[]->Q (.ref a) H)->(ys≠[]->∀p,H p=none->Q (.ref p) (upd H p (.tup (xs++ys))))->mE K x y H Q
theorem aw.nil_iff{xs:List V}{us:List Value}(r:aw xs us):us=[]↔xs=[]:=by
 cases r with
 |nil=>simp
 |cons _ _=>simp
theorem y4:bR X (binaryOp .Add) (mE X.K):=by intro EQ s σ H x y v u Q I rx ry h;obtain⟨a,b,xs,ys,rfl,rfl,ha,hb,hx,hz,q1,q2⟩:=h;cases rx;cases ry;obtain⟨its,r1,p1,_⟩:=I.tuple ha;obtain⟨IZ,r2,p2,_⟩:=I.tuple hb;refine HT.cat_tup p1 p2 (λz=>hx (r1.nil_iff.mp z)) (λz=>⟨.ref a,H,I,rfl,q1 (r2.nil_iff.mp z)⟩) (λz=>?_) (by rw[<-r1.length,<-r2.length];exact hz);refine⟨.ref s.heap.objs.size,_,I.laid (t':=s.toks) (o:=.tup (xs++ys)) (λb ob q=>Qe _ q) (Qh _) ?_,rfl,q2 (λw=>z (r2.nil_iff.mpr w)) _ (I.hok.fresh (Qh _))⟩;exact⟨by rw[Qr];exact hz,_,r1.append r2,IsTup.new _ _,ip.new _ _⟩
end
noncomputable def gn(n:Nat)(i:Int):Option Nat:=if 0<=i then(if i<n then some i.toNat else none) else if -(n:Int)<=i then some (i+n).toNat else none
noncomputable def fC{α:Type}(xs:List α)(i:Int):Option α:=(gn xs.length i).bind λj=>xs[j]?
theorem y6{n:Nat}{i:Int}{j:Nat}(h:gn n i=some j):seqIndex? i n=some j/\j<n/\-(n:Int)<=i/\i<n:=by
 unfold gn at h;by_cases h0:0<=i
 ·rw[if_pos h0] at h;by_cases h1:i<n
  ·rw[if_pos h1] at h;have e:i.toNat=j:=Qo h;exact⟨by rw[seqIndex_of h0 h1,e],by lia,by lia,h1⟩
  ·rw[if_neg h1] at h;cases h
 ·rw[if_neg h0] at h;by_cases h1:-(n:Int)<=i
  ·rw[if_pos h1] at h;have e:(i+n).toNat=j:=Qo h;exact⟨by rw[seqIndex_neg (by lia) h1,e],by lia,h1,by lia⟩
  ·rw[if_neg h1] at h;cases h
theorem mF{α:Type}{xs:List α}{i:Int}{v:α}(h:fC xs i=some v):∃j,seqIndex? i xs.length=some j/\xs[j]?=some v/\j<xs.length/\-(xs.length:Int)<=i/\i<xs.length:=by
 unfold fC at h
 cases e:gn xs.length i with
 |none=>rw[e] at h;cases h
 |some j =>
  rw[e] at h;obtain⟨h1,h2,h3,h4⟩:=y6 e;exact⟨j,h1,h,h2,h3,h4⟩
theorem bH{α:Type}{xs:List α}{j:Nat}{v:α}(h:xs[j]?=some v):fC xs (j:Int)=some v:=by
 have hj:j<xs.length:=(Qc h).1;have e:gn xs.length (j:Int)=some j:=by unfold gn;rw[if_pos (by lia),if_pos (by lia)];simp
 unfold fC;rw[e];exact h
theorem qA{α:Type}(xs:List α)(v:α):fC (xs++[v]) (-1)=some v:=by
 have hl:(xs++[v]).length=xs.length+1:=by simp
 have e:gn (xs++[v]).length (-1)=some xs.length:=by unfold gn;rw[hl,if_neg (by decide),if_pos (by lia)];congr 1;lia
 unfold fC;rw[e];show(xs++[v])[xs.length]?=some v;simp
def y7(b:Expr):Prop:=∀o i,subscripted b false o i=operate [o,i] (getItem o i)
def gO(X:Cx)(r:R2):Prop:=
 ∀(value slice:Expr) (EQ:List (Addr×Obj)) (s:Shared) (σ:St) (H:Hp) (x y:V) (v u:Value) (Q:VK),Inv X EQ σ H s->RelV x v->RelV y u->r x y H Q ->
  subscripted slice false v u=operate [v,u] (getItem v u)->wpAny (model X.prog X.w) X.A (subscriptTail value slice v u) (EP X EQ σ Q) X.xe s
def qB(X:Cx)(id:String)(r:V->List V->Hp->VK->Prop):Prop:=
 ∀(EQ:List (Addr×Obj)) (s:Shared) (σ:St) (H:Hp) (x:V) (xs:List V) (v:Value) (us:List Value) (Q:VK),Inv X EQ σ H s->RelV x v->aw xs us->r x xs H Q ->
  wpAny (model X.prog X.w) X.A (call (.builtin id) (v::us)) (EP X EQ σ Q) X.xe s
section
variable {X:Cx}{a b:Expr}{ta tb:TE}{pos:Pos}
theorem ck{r:R2}(hr:gO X r)(ha:PE X a ta)(hb:PE X b tb)(hs:y7 b):PE X (.Subscript a b pos) (gM r ta tb):=by intro EQ s σ H Q I h;exact Subscript_ (mx ha hb I h λv u s2 x y H2 I2 rx ry q=>hr a b EQ s2 σ H2 x y v u Q I2 rx ry q (hs _ _))
inductive jF (K:PySem.W.Frag) (x y:V) (H:Hp) (Q:VK):Prop
 |mk:∀p xs i v,x=.ref p->y=.int i->ak K H p xs->fC xs i=some v->Q v H->jF K x y H Q
inductive jG (K:PySem.W.Frag) (x y:V) (H:Hp) (Q:VK):Prop
 |mk:∀p xs i v,x=.ref p->y=.int i->aq K H p xs->fC xs i=some v->Q v H->jG K x y H Q
inductive qC (x y:V) (H:Hp) (Q:VK):Prop
 |mk:∀z i c,x=.str z->y=.int i->z.length<=sizeLine->fC z.cps.toList i=some c->Q (.str ⟨#[c]⟩) H->qC x y H Q
theorem qD:gO X (jF X.K):=by
 intro value slice EQ s σ H x y v u Q I rx ry h hs;obtain⟨p,xs,i,z,rfl,rfl,hq,he,q⟩:=h;cases rx;obtain⟨t,rfl⟩:=ry;obtain⟨its,r,pl,hz⟩:=I.list hq;obtain⟨j,h1,h2,h3,h4,h5⟩:=mF he;obtain⟨w,ew,Ig⟩:=r.get h2;have hl:=r.length;have hn:=jE
 have fin:EP X EQ σ Q w s:=⟨z,H,I,Ig,q⟩
 by_cases h0:0<=i
 ·have hj:i.toNat=j:=by rw[seqIndex_of h0 h5] at h1;exact Qo h1
  exact item_listR pl.isList h0 (by lia) (by rw[hj];simpa using ew) fin hs
 ·have hj:(i+(its.toArray.size:Int)).toNat=j:=by rw[seqIndex_neg (by lia) h4] at h1;rw[Qt,<-hl];exact Qo h1
  exact subscriptTail_builtinR (x:=w) pl.isList.typeIs slot_list_getitem.lookup
   (wpAny_getItem_list_neg (Q:=λr s'=>r=w/\EP X EQ σ Q r s') pl.isList (by lia) (by rw[Qt]<;>lia) (by lia) (by rw[hj];simpa using ew) ⟨rfl,fin⟩) hs
theorem y9:gO X (jG X.K):=by
 intro value slice EQ s σ H x y v u Q I rx ry h hs;obtain⟨p,xs,i,z,rfl,rfl,hq,he,q⟩:=h;cases rx;obtain⟨t,rfl⟩:=ry;obtain⟨its,r,pl,hz⟩:=I.tuple hq;obtain⟨j,h1,h2,h3,h4,h5⟩:=mF he;obtain⟨w,ew,Ig⟩:=r.get h2;have hl:=r.length;have hn:=jE
 have fin:EP X EQ σ Q w s:=⟨z,H,I,Ig,q⟩
 exact subscriptTail_builtinR (x:=w) pl.typeIs slot_tuple_getitem.lookup
  (getItem_tuple (j:=j) (Q:=λr s'=>r=w/\EP X EQ σ Q r s') pl (by lia) (by lia) (by rw[Qt,<-hl];exact h1) (by simpa using ew) ⟨rfl,fin⟩) hs
theorem qE:gO X qC:=by
 intro value slice EQ s σ H x y v u Q I rx ry h hs;obtain⟨z,i,c,rfl,rfl,hz,he,q⟩:=h;obtain⟨t,rfl⟩:=rx;obtain⟨t',rfl⟩:=ry;obtain⟨j,h1,h2,h3,h4,h5⟩:=mF he;have hl:z.cps.toList.length=z.length:=by simp[Str.length]
 rw[hl] at h1 h4 h5;have hn:=jE
 exact tail_any (typeIs_str s z t) slot_str_getitem.lookup (getItem_str (c:=c) (by
  have e1:decide (i < -(2^63:Int))=false:=Qi (by lia);have e2:decide (i ≥ 2^63)=false:=Qi (by lia)
  rw[e1,e2,Bool.or_false]) (by rw[h1];simpa using h2) ⟨.str ⟨#[c]⟩,H,I.tok _,⟨_,rfl⟩,q⟩) hs
theorem za(lo hi:Option Int)(n:Nat):(sliceBounds lo hi none n).1=((HT.sIx n 0 lo:Nat):Int)/\(sliceBounds lo hi none n).2.1=((HT.sIx n n hi:Nat):Int)/\(sliceBounds lo hi none n).2.2=1:=by
 refine⟨?_,?_,rfl⟩
 ·cases lo with
  |none=>simp[sliceBounds,HT.sIx]
  |some i =>
   simp only[sliceBounds,HT.sIx,Option.getD_none,show(1:Int)>0 by decide,if_true];by_cases h:i<0
   ·simp only[h,if_true]<;>lia
   ·simp only[h,if_false]<;>lia
 ·cases hi with
  |none=>simp[sliceBounds,HT.sIx]
  |some i =>
   simp only[sliceBounds,HT.sIx,Option.getD_none,show(1:Int)>0 by decide,if_true];by_cases h:i<0
   ·simp only[h,if_true]<;>lia
   ·simp only[h,if_false]<;>lia
theorem zb(its:List Value)(lo hi:Option Int):slicePick its.toArray lo hi none=((its.drop (HT.sIx its.length 0 lo)).take (HT.sIx its.length its.length hi-HT.sIx its.length 0 lo)).toArray:=by obtain⟨h1,h2,h3⟩:=za lo hi its.toArray.size;unfold slicePick;rw[h1,h2,h3];simp only[sliceRange_one,pick_run,Qt]<;>rfl
inductive mG (K:PySem.W.Frag) (x:V) (lo hi:Option Int) (H:Hp) (Q:VK):Prop
 |mk:∀a xs,x=.ref a->ak K H a xs->(∀p,H p=none->Q (.ref p) (upd H p (.lst (fB xs lo hi))))->mG K x lo hi H Q
theorem zc:iA X (mG X.K):=by intro EQ s σ H x v vl vu lo hi sl Q I rx hs pl pu h;obtain⟨a,xs,rfl,hx,q⟩:=h;cases rx;obtain⟨its,r,ht,hz⟩:=I.list hx;have EZ:=r.length;refine⟨"list",_,slot_list_getitem.lookup,ht.isList.typeIs,?_⟩;refine wpAny_getItem_list_slice ht.isList hs pl pu .none (by simp) ?_ (by rw[Qt]<;>lia);rw[zb,<-EZ];refine⟨.ref s.heap.objs.size,_,I.laid (t':=s.toks) (o:=.lst (fB xs lo hi)) (λb ob q=>Qe _ q) (Qh _) ?_,rfl,q _ (I.hok.fresh (Qh _))⟩;exact⟨QK (qz xs lo hi) hz,_,0,(r.drop (HT.sIx xs.length 0 lo)).take (HT.sIx xs.length xs.length hi-HT.sIx xs.length 0 lo),Qu _ rfl⟩
noncomputable def fV:V->Bool
 |.non=>true
 |.bl _=>true
 |.int _=>true
 |.str _=>true
 |_=>false
noncomputable def gp:V->V->Bool
 |.non,.non=>true
 |.bl a,.bl b=>a==b
 |.bl a,.int b=>(if a then 1 else 0)==b
 |.int a,.bl b=>a==(if b then 1 else 0)
 |.int a,.int b=>a==b
 |.str a,.str b=>a==b
 |_,_=>false
theorem zd{A:Around}{s:Shared}{y x:V}{u v:Value}(ry:RelV y u)(rx:RelV x v)(fy:fV y=true)(fx:fV x=true):SeqAt.EqAt A s u v (gp y x):=by
 cases y with
 |non =>
  cases ry
  cases x with
  |non=>cases rx;exact SeqAt.EqAt.same _
  |bl b=>cases rx;exact SeqAt.EqAt.none_bool b
  |int b=>obtain⟨t,rfl⟩:=rx;exact SeqAt.EqAt.none_int b t
  |str b=>obtain⟨t,rfl⟩:=rx;exact SeqAt.EqAt.none_str b t
  |_=>exact absurd (show false=true from fx) QG
 |bl a =>
  cases ry
  cases x with
  |non=>cases rx;exact SeqAt.EqAt.bool_none a
  |bl b=>cases rx;exact SeqAt.EqAt.bool_bool a b
  |int b=>obtain⟨t,rfl⟩:=rx;exact SeqAt.EqAt.bool_int a b t
  |str b=>obtain⟨t,rfl⟩:=rx;exact SeqAt.EqAt.bool_str a b t
  |_=>exact absurd (show false=true from fx) QG
 |int a =>
  obtain⟨t',rfl⟩:=ry
  cases x with
  |non=>cases rx;exact SeqAt.EqAt.int_none a t'
  |bl b=>cases rx;exact SeqAt.EqAt.int_bool a t' b
  |int b=>obtain⟨t,rfl⟩:=rx;exact SeqAt.EqAt.int_int a t' b t
  |str b=>obtain⟨t,rfl⟩:=rx;exact SeqAt.EqAt.int_str a t' b t
  |_=>exact absurd (show false=true from fx) QG
 |str a =>
  obtain⟨t',rfl⟩:=ry
  cases x with
  |non=>cases rx;exact SeqAt.EqAt.str_none a t'
  |bl b=>cases rx;exact SeqAt.EqAt.str_bool a t' b
  |int b=>obtain⟨t,rfl⟩:=rx;exact SeqAt.EqAt.str_int a t' b t
  |str b=>obtain⟨t,rfl⟩:=rx;exact SeqAt.EqAt.str_str a t' b t
  |_=>exact absurd (show false=true from fx) QG
 |_=>exact absurd (show false=true from fy) QG
noncomputable def dP(x:V)(u:Value):Bool:=match u with
 |.none=>gp .non x
 |.bool b=>gp (.bl b) x
 |.int i _=>gp (.int i) x
 |.str z _=>gp (.str z) x
 |_=>false
theorem qF{x y:V}{u:Value}(r:RelV y u)(f:fV y=true):dP x u=gp y x:=by
 cases y with
 |non=>cases r;rfl
 |bl b=>cases r;rfl
 |int i=>obtain⟨t,rfl⟩:=r;rfl
 |str z=>obtain⟨t,rfl⟩:=r;rfl
 |_=>exact absurd (show false=true from f) QG
theorem jH{x:V}:∀{xs:List V} {us:List Value},aw xs us->xs.all fV=true->us.any (dP x)=xs.any λy=>gp y x
 |_,_,.nil,_=>rfl
 |y::xs,u::us,.cons r t,f=>by rw[List.all_cons,QS] at f;rw[List.any_cons,List.any_cons,qF r f.1,jH t f.2]
theorem jI{A:Around}{s:Shared}{x:V}{v:Value}(rx:RelV x v)(fx:fV x=true):∀{xs:List V} {us:List Value},aw xs us->xs.all fV=true->∀u∈us,SeqAt.EqAt A s u v (dP x u)
 |_,_,.nil,_=>λu hu=>by cases hu
 |y::xs,u::us,.cons r t,f=>λu' hu=>by
  rw[List.all_cons,QS] at f;rcases Qn hu with rfl|hu
  ·rw[qF r f.1];exact zd r rx f.1 fx
  ·exact jI rx fx t f.2 u' hu
noncomputable def fD(x:V)(xs:List V):Bool:=xs.any λy=>gp y x
inductive iB (K:PySem.W.Frag) (neg:Bool) (x y:V) (H:Hp) (Q:VK):Prop
 |mk:∀p xs,y=.ref p->(ak K H p xs∨aq K H p xs)->fV x=true->xs.all fV=true->Q (.bl (if neg then !fD x xs else fD x xs)) H->iB K neg x y H Q
theorem ze:bR X (compareOp .In) (iB X.K false):=by
 intro EQ s σ H x y v u Q I rx ry h;obtain⟨p,xs,rfl,hq,fx,fs,q⟩:=h;cases ry;rcases hq with hq|hq
 ·obtain⟨its,r,pl,hz⟩:=I.list hq;refine SeqAt.in_listAt (dP x) pl.isList (λw hw=>jI rx fx r fs w (by simpa using hw)) ⟨.bl _,H,I,rfl,?_⟩;rw[show its.toArray.any (dP x)=its.any (dP x) by simp,jH r fs];exact q
 ·obtain⟨its,r,pl,hz⟩:=I.tuple hq;refine SeqAt.in_tupleAt (dP x) pl (λw hw=>jI rx fx r fs w (by simpa using hw)) ⟨.bl _,H,I,rfl,?_⟩;rw[show its.toArray.any (dP x)=its.any (dP x) by simp,jH r fs];exact q
theorem qG:bR X (compareOp .NotIn) (iB X.K true):=by
 intro EQ s σ H x y v u Q I rx ry h;obtain⟨p,xs,rfl,hq,fx,fs,q⟩:=h;cases ry;rcases hq with hq|hq
 ·obtain⟨its,r,pl,hz⟩:=I.list hq;refine SeqAt.notIn_listAt (dP x) pl.isList (λw hw=>jI rx fx r fs w (by simpa using hw)) ⟨.bl _,H,I,rfl,?_⟩;rw[show its.toArray.any (dP x)=its.any (dP x) by simp,jH r fs];exact q
 ·obtain⟨its,r,pl,hz⟩:=I.tuple hq;refine SeqAt.notIn_tupleAt (dP x) pl (λw hw=>jI rx fx r fs w (by simpa using hw)) ⟨.bl _,H,I,rfl,?_⟩;rw[show its.toArray.any (dP x)=its.any (dP x) by simp,jH r fs];exact q
theorem mH:dA X (.builtin "len") (λxs H Q=>∃p ys,xs=[.ref p]/\(ak X.K H p ys∨aq X.K H p ys)/\Q (.int ys.length) H):=by
 intro EQ s σ H xs us Q I r h;obtain⟨p,ys,rfl,hq,q⟩:=h;obtain⟨u,rfl,rx⟩:=vals1 r;cases rx;have hn:=jE;rcases hq with hq|hq
 ·obtain⟨its,r',pl,hz⟩:=I.list hq;have EZ:=r'.length;exact Calls.call_len_list pl.isList (by simp only[Qt]<;>lia) ⟨.int ys.length,H,I.tok _,⟨s.toks+1,by rw[Qt,EZ]⟩,q⟩
 ·obtain⟨its,r',pl,hz⟩:=I.tuple hq;have EZ:=r'.length;exact len_tuple pl (by simp only[Qt]<;>lia) ⟨.int ys.length,H,I.tok _,⟨s.toks+1,by rw[Qt,EZ]⟩,q⟩
theorem zf:dA X (.builtin "len") (λxs H Q=>∃z,xs=[.str z]/\z.length<=sizeLine/\Q (.int z.length) H):=by intro EQ s σ H xs us Q I r h;obtain⟨z,rfl,hz,q⟩:=h;obtain⟨u,rfl,t,rfl⟩:=vals1 r;have hn:=jE;exact len_str (by lia) ⟨.int z.length,H,I.tok _,⟨_,rfl⟩,q⟩
theorem zg:dA X (.type "list") (λxs H Q=>∃p ys,xs=[.ref p]/\(ak X.K H p ys∨aq X.K H p ys)/\∀l,H l=none->Q (.ref l) (upd H l (.lst ys))):=by
 intro EQ s σ H xs us Q I r h;obtain⟨p,ys,rfl,hq,q⟩:=h;obtain⟨u,rfl,rx⟩:=vals1 r;cases rx
 have fin:∀ (its:List Value),aw ys its->ys.length<=sizeLine->∀ (h':Heap) (c':Nat),(∀ b o',s.heap.get? b=some o'->h'.get? b=some o') ->
   h'.get? s.heap.objs.size=some {cls:=.type "list",dict:=none,data:=.seq its.toArray c',slots:=#[]}->EP X EQ σ Q (.ref s.heap.objs.size) {s with heap:=h'}:=λits r' hz h' c' kp e =>
  ⟨.ref s.heap.objs.size,_,I.laid (t':=s.toks) kp (Qh _) (show bI X.prog X.w _ h' _ (.lst ys) from⟨hz,its,c',r',e⟩),rfl,q _ (I.hok.fresh (Qh _))⟩
 rcases hq with hq|hq
 ·obtain⟨its,r',pl,hz⟩:=I.list hq;have EZ:=r'.length;obtain⟨o,ho,hc,n,hd⟩:=pl.isList;exact call_list_seq p (.inl rfl) ho hc hd (λh' c' kp e=>fin its r' hz h' c' kp e) (by simp only[Qt]<;>lia)
 ·obtain⟨its,r',pl,hz⟩:=I.tuple hq;have EZ:=r'.length;obtain⟨o,ho,hc,n,hd⟩:=pl;exact call_list_seq p (.inr rfl) ho hc hd (λh' c' kp e=>fin its r' hz h' c' kp e) (by simp only[Qt]<;>lia)
theorem zh:dA X (.type "tuple") (λxs H Q=>∃p ys,xs=[.ref p]/\((ak X.K H p ys/\∀l,H l=none->Q (.ref l) (upd H l (.tup ys)))∨(aq X.K H p ys/\Q (.ref p) H))):=by
 intro EQ s σ H xs us Q I r h;obtain⟨p,ys,rfl,h⟩:=h;obtain⟨u,rfl,rx⟩:=vals1 r;cases rx
 rcases h with ⟨hq,q⟩|⟨hq,q⟩
 ·obtain⟨its,r',pl,hz⟩:=I.list hq;have EZ:=r'.length;refine call_tuple_list pl.isList (λh' kp=>?_) (by simp only[Qt]<;>lia);have I1:Inv X EQ σ H {s with heap:=h'}:=I.kept (t':=s.toks) kp
  have I2:Inv X EQ σ (upd H h'.objs.size (.tup ys)) {s with heap:=h'.push {cls:=.type "tuple",data:=.seq its.toArray} } :=
   I1.laid (t':=s.toks) (λb o e=>Qe _ e) (Qh _) (show bI X.prog X.w _ _ _ (.tup ys) from⟨hz,its,r',IsTup.new _ _,ip.new _ _⟩)
  exact⟨.ref h'.objs.size,_,I2,rfl,q _ (I1.hok.fresh (Qh _))⟩
 ·obtain⟨its,r',pl,hz⟩:=I.tuple hq;exact call_tuple_same pl ⟨.ref p,H,I,rfl,q⟩
def iC(K:PySem.W.Frag)(T:String)(x:V)(H:Hp):Prop:=match x with
 |.str _=>T="str"
 |.int _=>T="int"
 | .ref p=>(T="list"/\∃ xs,ak K H p xs)∨(T="tuple"/\∃ o,K.lookup p=some o/\o.cls=.type "tuple"/\o.dict=none) ∨
   (T="dict"/\((∃ES,H p=some (.dK ES))∨∃ES,H p=some (.dT ES)))∨(T="set"/\∃S n,H p=some (.set S n))
 |_=>False
theorem mI{EQ:List (Addr×Obj)}{σ:St}{H:Hp}{s:Shared}{T:String}{x:V}{v:Value}(I:Inv X EQ σ H s)(r:RelV x v)(ty:iC X.K T x H) :
  s.TypeIs v T/\∀a,v=.ref a->∃ob,s.heap.get? a=some ob/\ob.dict=none:=by
 cases x with
 |str z =>
  obtain⟨t,rfl⟩:=r;cases (show T="str" from ty);exact⟨typeIs_str s z t,λ_ e=>nomatch e⟩
 |int i =>
  obtain⟨t,rfl⟩:=r;cases (show T="int" from ty);exact⟨typeIs_int s i t,λ_ e=>nomatch e⟩
 |ref p =>
  cases r
  rcases ty with ⟨rfl,xs,hq⟩|⟨rfl,o,hk,hc,hd⟩|⟨rfl,hk⟩|⟨rfl,S,n,hk⟩
  ·obtain⟨its,_,pl,_⟩:=I.list hq;refine⟨pl.isList.typeIs,λa e=>?_⟩;cases e;obtain⟨o,n,e,c,hd,_⟩:=pl;exact⟨o,e,hd⟩
  ·refine⟨⟨o,I.kIn p o hk,hc⟩,λa e=>?_⟩;cases e;exact⟨o,I.kIn _ o hk,hd⟩
  ·have z:∃ o,s.heap.get? p=some o/\o.ExactDict:=by
    rcases hk with ⟨ES,hk⟩|⟨ES,hk⟩
    ·obtain⟨_,_,_,_,o,_,_,e,ex,_⟩:=I.hok p _ hk;exact⟨o,e,ex⟩
    ·obtain⟨_,_,_,_,o,_,_,e,ex,_⟩:=I.hok p _ hk;exact⟨o,e,ex⟩
   obtain⟨o,e,ex⟩:=z;refine⟨⟨o,e,ex.1⟩,λa e2=>?_⟩;cases e2;exact⟨o,e,ex.2.1⟩
  ·obtain⟨o,_,_,_,e,ex,_⟩:=I.hok p _ hk;refine⟨⟨o,e,ex.1⟩,λa e2=>?_⟩;cases e2;exact⟨o,e,ex.2.1⟩
 |_=>exact False.elim ty
def qH(K:PySem.W.Frag)(T:String)(r:V->List V->Hp->VK->Prop)(to:TE):TE:=λσ H Q=>to σ H λx H1=>iC K T x H1/\r x [] H1 Q
def zi(K:PySem.W.Frag)(T:String)(r:V->List V->Hp->VK->Prop)(to:TE)(t:TA):TE:=λσ H Q=>to σ H λx H1=>iC K T x H1/\t σ H1 λxs H2=>r x xs H2 Q
variable {o e:Expr}{es:List Expr}{to:TE}{t:TA}{name:Str}{apos Fl:Pos}{T id:String}{r:V->List V->Hp->VK->Prop}
theorem zj(pa:PlainAttrs T)(slot:Slot T name id)(hty:typeOf (.builtin id)=pure (.type "method_descriptor"))(hm:qB X id r)(ho:PE X o to)
  (Hc:attributeBase o name X.env (eval o X.env)=eval o X.env:=by rfl) (Hb:(apos.endLine==Fl.line)=true:=by rfl):PE X (.Call (.Attribute o name apos) [] [] Fl) (qH X.K T r to):=by
 intro EQ s σ H Q I h;refine wpAny_Call_method0_late Hc Hb (aA (ho EQ s σ H _ I h) λv s1 hsl38=>?_);obtain⟨x,H1,I1,r1,ty,q1⟩:=hsl38;obtain⟨h1,h2⟩:=mI I1 r1 ty;exact⟨T,id,pa,slot,hty,h1,h2,Calls.callWith_builtin rfl (PySem.evalArgs_none (hm EQ s1 σ H1 x [] v [] Q I1 r1 .nil q1))⟩
end
def qI(X:Cx)(id:String)(r:V->List V->Hp->VK->Prop):Prop:=
 ∀(EQ:List (Addr×Obj)) (s:Shared) (σ:St) (H:Hp) (x:V) (xs:List V) (v:Value) (us:List Value) (Q:VK),Inv X EQ σ H s->RelV x v->aw xs us->r x xs H Q ->
  wpAny (model X.prog X.w) X.A (call (.builtin id) (v::us)) (EP X EQ σ Q) X.xe s
theorem aw.one:∀{x:V} {us:List Value},aw [x] us->∃u,us=[u]/\RelV x u
 |_,_,.cons r .nil=>⟨_,rfl,r⟩
theorem aw.zero:∀{us:List Value},aw [] us->us=[]
 |_,.nil=>rfl
theorem aw.dropLast{xs:List V}{us:List Value}(h:aw xs us):aw xs.dropLast us.dropLast:=by
 induction h with
 |nil=>exact .nil
 |cons r t ih =>
  cases t with
  |nil=>exact .nil
  |cons q t'=>exact .cons r ih
theorem zk{α:Type}(l:List α):l.eraseIdx (l.length-1)=l.dropLast:=by
 induction l with
 |nil=>rfl
 |cons a r ih =>
  cases r with
  |nil=>rfl
  |cons b r =>
   have e:(a::b::r).length-1=((b::r).length-1)+1:=by have h1:(a::b::r).length=r.length+2:=rfl;have h2:(b::r).length=r.length+1:=rfl;lia
   rw[e,List.eraseIdx_cons_succ,ih]
   all_goals rfl
section
variable {X:Cx}{EQ:List (Addr×Obj)}{σ:St}{H:Hp}{s:Shared}{l b:Addr}{xs ys zs:List V}
theorem Inv.lset{its its':List Value}{n:Nat}{f:Array Value->Array Value}{t':Nat}(I:Inv X EQ σ H s)(hH:H l=some (.lst xs))
  (e:s.heap.get? l=some {cls:=.type "list",data:=.seq its.toArray n}) (hf:f its.toArray=its'.toArray) (hv:aw ys its') (hz:ys.length<=sizeLine) :
  Inv X EQ σ (upd H l (.lst ys)) {s with heap:=s.heap.update l (Obj.mapSeq f),toks:=t'}:=by
 have q:=PySem.IsL.update e f;rw[hf] at q;refine I.write (x:=l) (e:=l) (by rw[hH];exact trivial) (.inl rfl) (λb' u hb hu=>(Heap.get?_update_other s.heap (Obj.mapSeq f) (Ne.symm hb)).trans hu) ⟨_,q⟩ ?_;exact⟨hz,its',_,hv,q⟩
theorem Inv.lnew{its:List Value}{t':Nat}(I:Inv X EQ σ H s)(hv:aw ys its)(hz:ys.length<=sizeLine) :
  Inv X EQ σ (upd H s.heap.objs.size (.lst ys)) {s with heap:=s.heap.push {cls:=.type "list",data:=.seq its.toArray},toks:=t'} :=
 I.laid (λ_ _ q=>Qe _ q) (Qh _) ⟨hz,its,0,hv,Qu _ rfl⟩
theorem Inv.fresh(I:Inv X EQ σ H s):H s.heap.objs.size=none:=I.hok.fresh (Qh _)
theorem Inv.lstM(I:Inv X EQ σ H s)(hH:H l=some (.lst xs)):xs.length<=sizeLine/\∃(its:List Value) (n:Nat),aw xs its/\xs.length=its.length/\s.heap.get? l=some {cls:=.type "list",data:=.seq its.toArray n}:=by obtain⟨z,its,n,r,e⟩:=I.hok l _ hH;exact⟨z,its,n,r,r.length,e⟩
end
section
variable {X:Cx}
inductive mJ (x:V) (vs:List V) (H:Hp) (Q:VK):Prop
 |mk:∀l xs y,x=.ref l->vs=[y]->H l=some (.lst xs)->xs.length<sizeLine->Q .non (upd H l (.lst (xs++[y])))->mJ x vs H Q
theorem zm:qI X "list.append" mJ:=by intro EQ s σ H x vs v us Q I rx rv h;obtain⟨l,xs,y,rfl,rfl,hH,hz,q⟩:=h;cases rx;obtain⟨u,rfl,ru⟩:=rv.one;obtain⟨z,its,n,r,hl,e⟩:=I.lstM hH;refine call_meets F.slot_list_append ⟨_,e,rfl⟩ F.entry_list_append (F.args_list_append_2 _ _) (PySem.list_append l its.toArray n u (by rw[Qt];lia)) ⟨e,?_⟩;refine⟨.non,_,I.lset (its':=its++[u]) hH e (by simp) (r.append (.cons ru .nil)) ?_,rfl,q⟩;rw[Qr,List.length_singleton];lia
inductive mK (x:V) (vs:List V) (H:Hp) (Q:VK):Prop
 |mk:∀l xs y,x=.ref l->vs=[]->H l=some (.lst xs)->xs[xs.length-1]?=some y->Q y (upd H l (.lst xs.dropLast))->mK x vs H Q
theorem zo:qI X "list.pop" mK:=by
 intro EQ s σ H x vs v us Q I rx rv h;obtain⟨l,xs,y,rfl,rfl,hH,hy,q⟩:=h;cases rx;have hus:=rv.zero;subst hus;obtain⟨z,its,n,r,hl,e⟩:=I.lstM hH;obtain⟨u,hu,ru⟩:=r.get hy;have hy':its.toArray[its.toArray.size-1]?=some u:=by show its.toArray[its.length-1]?=some u;rw[<-Array.getElem?_toList,<-hl];exact hu
 refine call_meets F.slot_list_pop ⟨_,e,rfl⟩ F.entry_list_pop (F.args_list_pop_1 _) (MeetsSeq.list_pop_last l its.toArray n u hy' (by rw[Qt];omega)) ⟨e,?_⟩;refine⟨y,_,I.lset (its':=its.dropLast) hH e ?_ r.dropLast ?_,ru,q⟩
 ·show its.toArray.eraseIdxIfInBounds (its.toArray.size-1)=its.dropLast.toArray;rw[Qt,List.eraseIdxIfInBounds_toArray,zk]
 ·rw[List.length_dropLast];omega
inductive mL (x y:V) (H:Hp) (Q:VK):Prop
 |mk:∀l b xs zs,x=.ref l->y=.ref b->H l=some (.lst xs)->H b=some (.lst zs)->xs.length+zs.length<=sizeLine->(∀p,H p=none->Q (.ref p) (upd H p (.lst (xs++zs))))->mL x y H Q
theorem fW:bR X (binaryOp .Add) mL:=by
 intro EQ s σ H x y v u Q I rx ry h;obtain⟨l,b,xs,zs,rfl,rfl,hH,hB,hz,q⟩:=h;cases rx;cases ry;obtain⟨z,its,n,r,hl,e⟩:=I.lstM hH;obtain⟨z2,IZ,n2,r2,Ik,e2⟩:=I.lstM hB;refine PySem.P.add_list e e2 ?_ (by rw[Qt,Qt];omega);have ea:its.toArray++IZ.toArray=(its++IZ).toArray:=by simp
 rw[ea];exact⟨.ref _,_,I.lnew (t':=s.toks) (r.append r2) (by rw[Qr];omega),rfl,q _ I.fresh⟩
end
end L2
namespace Att
open PySem PySem.W PySem.Calls PyProof.Rows
theorem zp{P:Params}{h:Heap}:∀(ns:List Int) (vs:List Value),WellAll P h vs (ns.map WData.int)->IntsAre vs ns:=by
 intro ns
 induction ns with
 |nil =>
  intro vs w;rw[List.map_nil] at w;cases w;exact .nil
 |cons n ns ih =>
  intro vs w;rw[List.map_cons] at w
  cases w with
  |cons a b =>
   cases a;exact .cons _ _ (ih _ b)
theorem zq{l:OpenLaw}{n:Nat}(hn:l.most=some n){P:Params}{h:Heap}{args:List WData}{vals:List Value}
  (hpre:l.row.toRowW.claim.pre args=true) (hwl:WellAll P h vals args) :
  ∃a vs ns,vals=[Value.ref a]/\args=[WData.list (ns.map WData.int)]/\h.get? a=some {cls:=.type "list",data:=.seq vs.toArray}/\IntsAre vs ns/\ns.length<=n:=by
 have FC:WShape.hasAll [] args [.list .int]=true:=(pre_splitW hpre).1;have hc:l.pre.holds [] {args:=args}=true:=(pre_splitW hpre).2;obtain⟨d,r,rfl,h1,h2⟩:=hasAllW_cons FC;obtain rfl:=hasAllW_nil h2;obtain⟨xs,rfl,h3⟩:=hasW_list h1;obtain⟨ns,rfl⟩:=items_int h3
 have EZ:ns.length<=n:=by
  unfold OpenLaw.pre at hc;have h4:(WTm.not (.lt (.lit (.int (n:Int))) (.len (.arg 0)))).holds [] {args:=[.list (ns.map .int)]}=true:=by have h4:=(holds_andW hc).1;rw[hn] at h4;exact h4
  have h5:=condW_of h4 (w_not (w_lt w_lit (w_len_list (w_arg rfl))));rw[Qf] at h5;refine Nat.le_of_not_lt λq=>?_;have q':(n:Int)<((ns.length:Nat):Int):=by omega
  first
   |(rw[Qv q'] at h5;exact absurd h5 (by decide))
   |(simp at h5;omega)
 cases hwl with
 |cons w1 w2 =>
  cases w2
  cases w1 with
  |list ho Gd=>exact⟨_,_,ns,rfl,rfl,ho,zp ns _ Gd,EZ⟩
theorem zr(l:OpenLaw)(args:List WData):l.row.toRowW.claim.post args (.bool true) args=true:=
 postW_of (r:=l.row.toRowW) (X:=(true==true))
  (show WShape.has [] (.bool true) .bool=true by first|rfl|decide|simp[WShape.has,WShape.arms,WShape.armsAll])
  (show(WTm.eq .res (.lit (.bool true))).value [] {args:=args,res:=some (.bool true),after:=args}=some (.bool (true==true)) from w_eq_bool (w_res rfl) w_lit) rfl
theorem attach_call{l:OpenLaw}{n:Nat}{q:Program}{loose:List Str}{XP:(Str->Option Value)->Heap->Prop}{YP:World->Heap->Prop}{d:DefRec}
  (hn:l.most=some n) (hdf:d.params.defaults=[])
  (call:∀(w:World) (s₀ s₁:Shared) (mg mb:Str->Option Value) (fa:Addr) (o:Obj) (pm cd HV:Value) (a:Addr) (vs:List Value) (ns:List Int),
   Ground q loose [] XP w s₀ mg mb s₁.heap->YP w s₁.heap ->
   s₁.heap.get? fa=some o->o.data=.func (docDef d.name d.params d.body d.scope pm cd HV)->s₁.heap.CodeRec cd d.name->mg d.name=some (.ref fa) ->
   s₁.heap.get? a=some {cls:=.type "list",data:=.seq vs.toArray}->IntsAre vs ns->ns.length<=n->s₁.gens=#[] ->
   codeAny (model l.prog w) callerA (.call (.ref fa) ⟨[.ref a],[]⟩) (λr s'=>r=.ok (.ret (.bool true))/\OldK s₁.heap s'.heap/\s'.os=s₁.os/\AllBare s'.gens) s₁) :
  WalkO q loose XP YP l.row.toRowW d [] (λf vs=>PySem.call f vs):=by
 intro w s₀ s₁ mg mb G Y fa o pm cd HV dV kV ho hd Hz hD hmg hg args vals as hpre hlay hrd hwl EV;obtain rfl:dV=.none:=Dflts.none hD hdf;obtain rfl:kV=.none:=Dflts.noKw hD;obtain⟨a,vs,ns,rfl,rfl,hobj,Ji,EZ⟩:=zq hn hpre hwl;refine enter_call (codeAny_mono (call w s₀ s₁ mg mb fa o pm cd HV a vs ns G Y ho (fd_plain hd) Hz hmg hobj Ji EZ hg) λr s' hq=>?_);obtain⟨rfl,h2,h3,h4⟩:=hq;exact⟨.inl ⟨.bool true,.bool true,[],rfl,λ_=>rfl,.bool true,zr l _,λ_=>⟨List.Pairwise.nil,λ_ hm=>(nomatch hm)⟩⟩,h2,h3,h4⟩
end Att
namespace L2
open PySem PySem.Spec PyProof.Rows
theorem qJ:∀{vs:List Value} {ns:List Int},IntsAre vs ns->aw (ns.map V.int) vs
 |_,_,.nil=>.nil
 |_,_,.cons n t h=>.cons ⟨t,rfl⟩ (qJ h)
def mM(H:Hp):Prop:=∀b,H b=none∨∃o xs,H b=some (.frz o (.lst xs))
theorem zt{P:Program}{w:World}{K:PySem.W.Frag}{mg mb:Str->Option Value}{CX:eY}{k:Nat}{fa a:Addr}{fd:FuncData}{x:Str}{sp:Sp}{s₁:Shared}{vs:List Value}{ns:List Int}
  (KX:K.In s₁.heap) (hns:s₁.heap.Ns mainGlobals mg) (hb:s₁.heap.Ns builtinsNs mb) (hbb:∀x:Str,x≠"__name__"->mb x=bootBuiltins x) (hlim:s₁.heap.NoLimit) (hg:s₁.gens=#[])
  (ha:s₁.heap.get? a=some {cls:=.type "list",data:=.seq vs.toArray}) (hi:IntsAre vs ns) (hl:ns.length<=sizeLine) (hr:aB k callerA)
  (F:∀base:Heap,K.In base->base.Ns mainGlobals mg->aI P w K mg base CX k fa fd [x] sp) (hbind:∀(s:Shared) (u:Value),BindsTo s fd ⟨[u],[]⟩ [(x,u)])
  (IN:∀H:Hp,mM H->ak K H a (ns.map V.int)->sp [.ref a] H (λv _=>v=.bl true) λ_ _ _=>False)
  (hCX:∀H e s',CX [] H s₁ (λ_ _ _=>False) e s'->False) :
  codeAny (model P w) callerA (.call (.ref fa) ⟨[.ref a],[]⟩) (λr s'=>r=.ok (.ret (.bool true))/\OldK s₁.heap s'.heap/\s'.os=s₁.os/\AllBare s'.gens) s₁:=by
 have rv:=qJ hi;have lenV:=hi.length
 have core:∀ H:Hp,mM H->ak K H a (ns.map V.int)->bG P w H s₁.heap->(∀ b,H b≠none->b=a)->(H a≠none->K.lookup a=none) ->
   codeAny (model P w) callerA (.call (.ref fa) ⟨[.ref a],[]⟩) (λr s'=>r=.ok (.ret (.bool true))/\OldK s₁.heap s'.heap/\s'.os=s₁.os/\AllBare s'.gens) s₁:=by
  intro H hO hS hok hA hK;have Ie:∀{b:Addr} {o:Obj},s₁.heap.get? b=some o->H b=none->(fS s₁.heap H).get? b=some o:=λe n=>xG e n
  have noA:∀{b:Addr} {o:Obj} {es:Array DictEntry} {ep:Nat},s₁.heap.get? b=some o->o.data=.dict es ep->H b=none:=λ{b o es ep} e d=>by
   cases q:H b with
   |none=>rfl
   |some u =>
    have e':b=a:=hA b (by rw[q];simp);subst e';rw[ha] at e;cases e;have d':Data.seq vs.toArray _=Data.dict es ep:=d;cases d'
  have nsK:∀{b:Addr} {m:Str->Option Value},s₁.heap.Ns b m->(fS s₁.heap H).Ns b m:=λ{b m} ⟨o,es,ep,e,d,r⟩=>⟨o,es,ep,Ie e (noA e d),d,r⟩
  have hKb:K.In (fS s₁.heap H):=λb o e=>Ie (KX b o e) (by
   cases q:H b with
   |none=>rfl
   |some u =>
    have e':b=a:=hA b (by rw[q];simp);subst e'
    rw[hK (by rw[q];simp)] at e;cases e)
  have hM:Mod K mg (fS s₁.heap H):=⟨hKb,nsK hns,⟨mb,nsK hb,hbb⟩,by obtain⟨mc,h1,h2⟩:=hlim;exact⟨mc,nsK h1,h2⟩⟩
  have e0:eP P w K mg (fS s₁.heap H) callerA [] s₁ H:=⟨rfl,hM,λb o e=>xH e,Nat.le_of_eq (xF _ _),trivial,λb hb=>absurd (show b∈([]:List Addr) from hb) (by simp),hok,.of_eq hg⟩
  refine codeAny_mono ((F _ hKb (nsK hns)).run callerA [] s₁ H ⟨[.ref a],[]⟩ [.ref a] [.ref a] _ _ hr e0 (hbind s₁ (.ref a)) (.cons rfl .nil) (IN H hO hS)) λr s' h=>?_
  cases r with
  |error e=>exact(hCX H e s' h).elim
  |ok fl =>
   cases fl with
   |next=>exact False.elim h
   |brk=>exact False.elim h
   |cont=>exact False.elim h
   |ret u =>
    obtain⟨v,H',os,bare,un,hok',r',q⟩:=h;have q':v=.bl true:=q;subst q';obtain rfl:u=Value.bool true:=r';refine⟨rfl,OldK.of_keep λb o e=>?_,os,bare⟩
    cases q:H b with
    |none=>exact un.keep b o e q (by intro z;exact absurd (show b∈([]:List Addr) from z) (by simp)) (by simp)
    |some u =>
     rcases hO b with z|⟨ob,xs,z⟩
     ·rw[q] at z;cases z
     ·have z2:=un.frzs b ob _ z;obtain⟨e1,_⟩:=hok b _ z;obtain⟨e2,_⟩:=hok' b _ z2;rw[e] at e1;cases e1;exact e2
 cases hk:K.lookup a with
 |some o =>
  have e:=KX a o hk;rw[ha] at e;cases e;refine core (λ_=>none) (λ_=>.inl rfl) (.inr ⟨_,vs.toArray,_,hk,rfl,rfl,rfl,by rw[Qt,lenV];exact hl,by simpa using rv⟩) (λb u z=>by have z':(none:Option HO)=some u:=z;cases z') (λb z=>absurd rfl z) λz=>absurd rfl z
 |none =>
  refine core (λb=>if b=a then some (.frz {cls:=.type "list",data:=.seq vs.toArray} (.lst (ns.map V.int))) else none) (λb=>?_) (.inl (.inr ⟨{cls:=.type "list",data:=.seq vs.toArray},if_pos rfl⟩)) (λb u z=>?_) (λb z=>?_) λ_=>hk
  ·by_cases hb:b=a
   ·exact .inr ⟨_,_,if_pos hb⟩
   ·exact .inl (if_neg hb)
  ·by_cases hb:b=a
   ·have z':=(if_pos hb).symm.trans z;cases z';subst hb;exact⟨ha,by rw[Qf];exact hl,vs,_,rv,ha⟩
   ·have z':=(if_neg hb).symm.trans z;cases z'
  ·by_cases hb:b=a
   ·exact hb
   ·exact absurd (if_neg hb) z
theorem zu{l:PySem.W.OpenLaw}{n k:Nat}{q:Program}{loose:List Str}{XP:(Str->Option Value)->Heap->Prop}{YP:World->Heap->Prop}{d:DefRec}{K:Params->PySem.W.Frag}{CX:World->eY}{sp:World->Sp}{x:Str}
  (hn:l.most=some n) (hn2:n<=sizeLine) (hdf:d.params.defaults=[]) (hr:aB k callerA)
  (hY:∀(w:World) (h:Heap),YP w h->(K w.params).In h)
  (F:∀(w:World) (mg:Str->Option Value) (fa:Addr) (h:Heap),(K w.params).In h->h.Ns mainGlobals mg->mg d.name=some (.ref fa) ->
   ∃fd:FuncData,(∀(s:Shared) (u:Value),BindsTo s fd ⟨[u],[]⟩ [(x,u)]) /\
    ∀base:Heap,(K w.params).In base->base.Ns mainGlobals mg->aI l.prog w (K w.params) mg base (CX w) k fa fd [x] (sp w))
  (IN:∀(w:World) (H:Hp) (a:Addr) (ns:List Int),ns.length<=n->mM H->ak (K w.params) H a (ns.map V.int)->sp w [.ref a] H (λv _=>v=.bl true) λ_ _ _=>False)
  (hCX:∀(w:World) (H:Hp) (s:Shared) (e:Value) (s':Shared),CX w [] H s (λ_ _ _=>False) e s'->False) :
  PySem.W.WalkO q loose XP YP l.row.toRowW d [] (λf vs=>PySem.call f vs):=by
 refine Att.attach_call hn hdf λw s₀ s₁ mg mb fa o pm cd HV a vs ns G Y ho hd Hz hmg hobj Ji EZ hg=>?_;have KX:=hY w _ Y;obtain⟨fd,hb,hF⟩:=F w mg fa _ KX G.T.g hmg;exact zt KX G.T.g G.T.b G.T.builtins G.T.nolimit hg hobj Ji (QK EZ hn2) hr hF hb (λH hO hS=>IN w H a ns EZ hO hS) λH e s'=>hCX w H s₁ e s'
noncomputable def gr(s:Stmt)(j:Nat):Stmt:=match s with
 |.ClassDef _ _ _ body _ _ _ _ _ _ _=>body.getD j (.Pass ⟨0,0,0,0⟩)
 |_=>.Pass ⟨0,0,0,0⟩
noncomputable def iD(s:Stmt):Arguments:=match s with
 |.FunctionDef _ a _ _ _ _ _ _ _ _=>a
 |_=>{posonlyargs:=[],args:=[],vararg:=none,kwonlyargs:=[],kw_defaults:=[],kwarg:=none,defaults:=[]}
noncomputable def gP(s:Stmt):List Stmt:=match s with
 |.FunctionDef _ _ b _ _ _ _ _ _ _=>b
 |_=>[]
noncomputable def aM(s:Stmt):Scope:=match s with
 |.FunctionDef _ _ _ _ _ _ sc _ _ _=>sc
 |_=>{kind:=.function,names:=[],isGenerator:=false,isCoroutine:=false}
abbrev aK:eY:=λ_ _ _ _ _ _=>False
abbrev E0:XK:=λ_ _ _=>False
theorem c6{X:Cx}:iz aK X E0:=λ_ _ _ _ _ _ _ h=>h.elim
structure jJ(K:PySem.W.Frag)(x qual:Str)(st:Stmt)(f:Addr)(fd:FuncData):Prop where
 ex:∃(oc:Value) (od:Option Addr) (kV HV pm:Value) (an:Option Addr) (E2 ct:Value) (osl:Array (Option Value)),
  fd=PySem.W.fnOf x qual (iD st) (gP st) (aM st) .none kV HV pm an E2 ct/\K.lookup f=some ⟨oc,od,.func fd,osl⟩/\PySem.W.codeIn K E2 qual=true
 kp:PySem.W.keepIn K (.ref f)=true
section
variable {P:Program}{w:World}{K:PySem.W.Frag}{mg:Str->Option Value}{base:Heap}
theorem jJ.ok{x qual:Str}{st:Stmt}{f:Addr}{fd:FuncData}{N ps:List Str}{k:Nat}{sp:Sp}(F:jJ K x qual st f fd)(S:be N ps (aM st))(len:∀vs H Q E,sp vs H Q E->vs.length=ps.length)
  (Jj:∀(E2:Value) (A:Around) (outer:List Env) (s:Shared) (H:Hp) (vs:List V) (Q:VK) (E:XK),aB k (A.deeper (envOfC qual (aM st) s.heap.objs.size f E2))->sp vs H Q E ->
   ∃t,eC (cZ aK P w K mg base N qual (aM st) f E2 A outer s H E).nox (gP st) t/\t {nx:=λ_ H'=>Q .non H',rt:=Q} (start N vs) H):aI P w K mg base aK (k+1) f fd ps sp:=by
 obtain⟨oc,od,kV,HV,pm,an,E2,ct,osl,rfl,lk,Hz⟩:=F.ex;refine yR lk Hz S len λA outer s H vs Q E hr IN=>?_;obtain⟨t,h,q⟩:=Jj E2 A outer s H vs Q E hr IN;exact⟨t,h.nox,q⟩
theorem zv{x qual:Str}{st:Stmt}{f:Addr}{oc:Value}{od an:Option Addr}{osl:Array (Option Value)}{kV HV pm E2 ct:Value}(l:K.lookup f=some ⟨oc,od,.func (PySem.W.fnOf x qual (iD st) (gP st) (aM st) .none kV HV pm an E2 ct),osl⟩)
  (c:PySem.W.codeIn K E2 qual=true) (k:PySem.W.keepIn K (.ref f)=true):jJ K x qual st f (PySem.W.fnOf x qual (iD st) (gP st) (aM st) .none kV HV pm an E2 ct):=⟨⟨oc,od,kV,HV,pm,an,E2,ct,osl,rfl,l,c⟩,k⟩
end
theorem kM{n:Nat}(h:n<=1000):n<sizeLine:=Qz h (by decide)
section
variable {X:Cx}
theorem pv(i:Nat){x:Str}{pos:Pos}(hN:X.N[i]?=some x:=by rfl)(hv:mi X.env.scope x:=by first|exact Or.inl rfl|exact Or.inr (Or.inl rfl)|exact Or.inr (Or.inr rfl))(hd:(x==("__debug__":Str))=false:=by decide)
  (Hz:(x==("__classdict__":Str))=false:=by decide):PE X (.Name x pos) (kC i):=xI hN hv hd Hz
end
theorem bO{A B:Prop}(h:B):if false=true then A else B:=by rw[if_neg QG];exact h
theorem dh{A B:Prop}(h:A):if true=true then A else B:=by rw[if_pos rfl];exact h
theorem bS{c A B:Prop}[Decidable c](h1:c->A)(h2:¬c->B):if c then A else B:=by
 by_cases h:c
 ·rw[if_pos h];exact h1 h
 ·rw[if_neg h];exact h2 h
def Same(H H':Hp):Prop:=∀b o,H b=some o->H' b=some o
theorem Same.refl(H:Hp):Same H H:=λ_ _ h=>h
theorem Same.trans{H H1 H2:Hp}(a:Same H H1)(b:Same H1 H2):Same H H2:=λc o h=>b c o (a c o h)
theorem Same.free{H H':Hp}(e:Same H H'){l:Addr}(h:H' l=Option.none):H l=Option.none:=by
 cases q:H l with
 |none=>rfl
 |some o =>
  rw[e l o q] at h;cases h
theorem Same.seq{K:PySem.W.Frag}{H H':Hp}{a:Addr}{xs:List V}(e:Same H H')(h:ak K H a xs):ak K H' a xs:=by
 rcases h with (h|⟨o,h⟩)|h
 ·exact .inl (.inl (e _ _ h))
 ·exact .inl (.inr ⟨o,e _ _ h⟩)
 ·exact .inr h
noncomputable abbrev qK(FL:List Expr)(env:Env):Sem Bool:=
 forIn FL true λc r=>if r=true then do let ok <- isTrue c env (eval c env);pure (ForInStep.yield ok) else pure (ForInStep.yield r)
noncomputable def cE(cells:List (Str×Addr)):List (Str×NameKind)->List (Str×Addr)->List (Str×Addr)
 | [],Fa=>Fa
 |(n,k)::r,Fa=>cE cells r (if k == .free then(n,(cells.lookup n).getD 0)::Fa else Fa)
theorem mN{env:Env}:∀(ns:List (Str×NameKind)) (Fa:List (Str×Addr)),(∀y∈ns,y.2=.free->∃c,env.cells.lookup y.1=some c) ->
  (forIn ns Fa λ(p:Str×NameKind) (cs:List (Str×Addr))=>(if p.2 == .free then(do let c <- cellOf env p.1;pure (ForInStep.yield ((p.1,c)::cs))) else pure (ForInStep.yield cs):Sem (ForInStep (List (Str×Addr)))))=(pure (cE env.cells ns Fa):Sem (List (Str×Addr)))
 | [],Fa,_=>rfl
 |(n,k)::r,Fa,h=>by
  rw[List.forIn_cons];by_cases hk:k=.free
  ·subst hk;obtain⟨c,hc⟩:=h (n,.free) QH rfl;have e1:cellOf env n=pure c:=by unfold cellOf;rw[show env.cells.lookup n=some c from hc]
   simp only[beq_self_eq_true,if_true,e1,cE,hc,Option.getD_some];exact mN r ((n,c)::Fa) λy hy=>h y (QA _ hy)
  ·have hb:(k==NameKind.free)=false:=by simpa using hk
   simp only[hb,QR,if_false,cE];exact mN r Fa λy hy=>h y (QA _ hy)
theorem kN{env:Env}{sc:Scope}(h:∀y∈sc.names,y.2=.free->∃c,env.cells.lookup y.1=some c):closureFor sc env=pure (cE env.cells sc.names []):=by unfold closureFor;have q:=mN (env:=env) sc.names [] h;have e:(forIn sc.names [] λ(p:Str×NameKind) (cs:List (Str×Addr))=>(match p with|(name,kind)=>if kind == .free then(do let c <- cellOf env name;pure (ForInStep.yield ((name,c)::cs))) else pure (ForInStep.yield cs):Sem (ForInStep (List (Str×Addr)))))=(pure (cE env.cells sc.names []):Sem (List (Str×Addr))):=q;simp only[e];rfl
theorem mO{cells:List (Str×Addr)}:∀(ns:List (Str×NameKind)) (Fa:List (Str×Addr)),(∀y∈ns,y.2=.free->∃c,cells.lookup y.1=some c)->(∀y c,Fa.lookup y=some c->cells.lookup y=some c) ->
  (∀y c,(cE cells ns Fa).lookup y=some c->cells.lookup y=some c)/\(∀y,(Fa.lookup y).isSome=true->((cE cells ns Fa).lookup y).isSome=true)/\(∀y,(y,NameKind.free)∈ns->((cE cells ns Fa).lookup y).isSome=true)
 | [],Fa,_,h2=>⟨h2,λ_ h=>h,λ_ h=>nomatch h⟩
 |(n,k)::r,Fa,h1,h2=>by
  have h1':∀y∈r,y.2=.free->∃c,cells.lookup y.1=some c:=λy hy=>h1 y (QA _ hy);by_cases hk:k=.free
  ·subst hk;obtain⟨c,hc⟩:=h1 (n,.free) QH rfl;have HA:cells.lookup n=some c:=hc;have e:cE cells ((n,.free)::r) Fa=cE cells r ((n,c)::Fa):=by simp only[cE,beq_self_eq_true,if_true,HA,Option.getD_some]
   have ih:=mO (cells:=cells) r ((n,c)::Fa) h1' (λy d hy=>by
    rw[List.lookup_cons] at hy
    cases q:y==n with
    |true=>rw[q] at hy;cases hy;rw[eq_of_beq q];exact HA
    |false=>rw[q] at hy;exact h2 y d hy)
   rw[e];refine⟨ih.1,λy hy=>ih.2.1 y ?_,λy hy=>?_⟩
   ·rw[List.lookup_cons];split
    ·rfl
    ·exact hy
   ·rcases Qn hy with z|z
    ·cases z;exact ih.2.1 n (by rw[List.lookup_cons];simp)
    ·exact ih.2.2 y z
  ·have hb:(k==NameKind.free)=false:=by simpa using hk
   have e:cE cells ((n,k)::r) Fa=cE cells r Fa:=by simp only[cE,hb,QR,if_false]
   have ih:=mO (cells:=cells) r Fa h1' h2;rw[e];refine⟨ih.1,ih.2.1,λy hy=>?_⟩;rcases Qn hy with z|z
   ·cases z;exact absurd rfl hk
   ·exact ih.2.2 y z
structure jK(FJ sc:Scope)(NX:List Str)(x:Str)(fv:List Str)(js:List Nat):Prop where
 kind:sc.kind=.function
 kindX:FJ.kind=.function
 cell:∀y∈sc.names,y.2≠.cell
 own:sc.names.lookup x=some .local
 names:∀y∈sc.names,y.2=.local->sc.names.lookup y.1=some .local
 free:∀y∈sc.names,y.2=.free->FJ.names.lookup y.1=some .cell
 nd:(x::fv).Nodup
 at':js.map (λj=>NX[j]?)=fv.map some
 fr:∀y∈fv,sc.names.lookup y=some .free
theorem qL{env:Env}(hk:env.scope.kind=.function):∀{ns:List (Str×NameKind)} {y:Str},ns.lookup y=some .free->env.kindOf y=some .cell ->
  (ns.map λ(n,k)=>if(k==NameKind.free&&env.scope.kind == .function&&env.kindOf n==some .cell) then(n,NameKind.cell) else(n,k)).lookup y=some .cell
 | [],_,h,_=>by simp at h
 |(n,k)::r,y,h,hc=>by
  have ih:=@qL env hk r y;show List.lookup y ((if(k==NameKind.free&&env.scope.kind == .function&&env.kindOf n==some .cell)=true then(n,NameKind.cell) else(n,k))::_)=_
  cases hx:y==n with
  |true =>
   simp only[List.lookup_cons,hx] at h;cases h;have e:y=n:=eq_of_beq hx;subst e;simp[List.lookup_cons,hc,hk]
  |false =>
   simp only[List.lookup_cons,hx] at h
   split<;>(simp only[List.lookup_cons,hx];exact ih h hc)
theorem qM{env:Env}:∀{ns:List (Str×NameKind)} {y:Str},(∀z∈ns,z.2≠.cell) ->
  ((ns.map λ(n,k)=>if(k==NameKind.free&&env.scope.kind == .function&&env.kindOf n==some .cell) then(n,NameKind.cell) else(n,k)).lookup y=some .cell ∨
   (ns.map λ(n,k)=>if(k==NameKind.free&&env.scope.kind == .function&&env.kindOf n==some .cell) then(n,NameKind.cell) else(n,k)).lookup y=some .free)->(y,NameKind.free)∈ns
 | [],_,_,h=>by simp at h
 |(n,k)::r,y,hz,h=>by
  have ih:=@qM env r y λz hm=>hz z (QA _ hm);have hk:k≠.cell:=hz (n,k) QH;rw[List.map_cons] at h;by_cases hc:(k==NameKind.free&&env.scope.kind == .function&&env.kindOf n==some .cell)=true
  ·have hf:k=.free:=by rw[QS,QS] at hc;exact eq_of_beq hc.1.1
   simp only[hc,if_true,List.lookup_cons] at h
   cases hx:y==n with
   |true=>rw[eq_of_beq hx,hf];exact QH
   |false=>rw[hx] at h;exact QA _ (ih h)
  ·rw[Bool.not_eq_true] at hc;simp only[hc,QR,if_false,List.lookup_cons] at h
   cases hx:y==n with
   |true =>
    rw[hx] at h;rcases h with h|h
    ·exact absurd (Qo h) hk
    ·have:k=.free:=Qo h;rw[eq_of_beq hx,this];exact QH
   |false=>rw[hx] at h;exact QA _ (ih h)
noncomputable def bx(js:List Nat)(σ:St):St:=js.map λj=>(σ[j]?).getD none
noncomputable abbrev xc(X:Cx)(sc:Scope)(x:Str)(fv:List Str)(C:Addr)(s0:Shared)(H0:Hp)(ex:List Addr):Cx:=
 {X with N:=x::fv,s₀:=s0,H₀:=H0,env:=compEnvC sc (cE X.env.cells sc.names []) C X.env,outer:=X.stack,ex:=ex,fn:=λ_=>false,pn:=[],xe:=λ_ _=>False}
def gu(X:Cx)(FL:List Expr)(t:TT):Prop:=
 ∀(EQ:List (Addr×Obj)) (s:Shared) (σ:St) (H:Hp) (Q:Bool->Hp->Prop),Inv X EQ σ H s->t σ H Q->wpAny (model X.prog X.w) X.A (qK FL X.env) (TP X EQ σ Q) X.xe s
def qN:TT:=λ_ H Q=>Q true H
theorem eD{σ:St}{H:Hp}{Q:Bool->Hp->Prop}(h:Q true H):qN σ H Q:=h
theorem eE{X:Cx}:gu X [] qN:=λ_ _ _ H _ I h=>wpAny_tests_nil ⟨H,I,h⟩
theorem kO{X:Cx}{c:Expr}{t:TT}(hc:PT X c t):gu X [c] t:=λEQ s σ H Q I h=>wpAny_tests_one (hc EQ s σ H Q I h)
def gQ(J:It)(js:List Nat)(tt:TT)(te:TE):TE:=λσ H1 Q=>∃W:Nat->Nat->List V->Hp->Prop,(∃m,W 0 m [] H1)/\∀i m ys H,W i m ys H ->
 (J.stop i H/\∀p,H p=none->Q (.ref p) (upd H p (.lst ys))) ∨
 (J.go i H/\∃N:List V->Hp->Prop,(∀Gn H',N Gn H'->∃m',m'<m/\W (i+1) m' Gn H') /\
  ∀x H',J.yld i H x H'->tt (some x::bx js σ) H' λb H2=>if b=true then te (some x::bx js σ) H2 λy H3=>ys.length<sizeLine/\N (ys++[y]) H3 else N ys H2)
def qO(wi:TI)(js:List Nat)(tt:TT)(te:TE):TE:=λσ H Q=>wi σ H λJ H1=>gQ J js tt te σ H1 Q
section
variable {X:Cx}{EQ:List (Addr×Obj)}{σ:St}{H2:Hp}{s2:Shared}{Gb iter:Expr}{x:Str}{px:Pos}{FL:List Expr}{sc FJ:Scope}{pos:Pos}{fv:List Str}{js:List Nat}{tt:TT}{te:TE}
theorem mP{lo:Int}{n:Nat}{σ:St}{H:Hp}{Q:VK}(Pv:Nat->List V->Hp->Prop)(h0:Pv 0 [] H)
  (hs:∀i ys H,i<n->Pv i ys H->tt (some (.int (lo+i))::bx js σ) H λb H2=>if b=true then te (some (.int (lo+i))::bx js σ) H2 λy H3=>ys.length<sizeLine/\Pv (i+1) (ys++[y]) H3 else Pv (i+1) ys H2)
  (hd:∀ys H,Pv n ys H->∀p,H p=none->Q (.ref p) (upd H p (.lst ys))) :
  gQ (eN lo n) js tt te σ H Q:=by
 refine⟨λi m ys H=>m=n-i/\i<=n/\Pv i ys H,⟨n,by simp,QC _,h0⟩,?_⟩;rintro i m ys H ⟨rfl,hi,p⟩;by_cases EX:i<n
 ·refine .inr ⟨EX,Pv (i+1),λGn H' p'=>⟨n-(i+1),by lia,rfl,EX,p'⟩,λx H' y=>?_⟩;obtain⟨e,y⟩:=y;subst e y;exact hs i ys _ EX p
 ·have e:i=n:=by lia
  subst e;exact .inl ⟨Qh _,hd ys H p⟩
theorem qP{K:PySem.W.Frag}{a:Addr}{xs:List V}{σ:St}{H:Hp}{Q:VK}(Pv:Nat->List V->Hp->Prop)(h0:Pv 0 [] H)(hl:∀i ys H,i<=xs.length->Pv i ys H->ak K H a xs)
  (hs:∀i x ys H,xs[i]?=some x->Pv i ys H->tt (some x::bx js σ) H λb H2=>if b=true then te (some x::bx js σ) H2 λy H3=>ys.length<sizeLine/\Pv (i+1) (ys++[y]) H3 else Pv (i+1) ys H2)
  (hd:∀ys H,Pv xs.length ys H->∀p,H p=none->Q (.ref p) (upd H p (.lst ys))) :
  gQ (eW K a) js tt te σ H Q:=by
 refine⟨λi m ys H=>m=xs.length-i/\i<=xs.length/\Pv i ys H,⟨xs.length,by simp,QC _,h0⟩,?_⟩;rintro i m ys H ⟨rfl,hi,p⟩;have q:=hl i ys H hi p;by_cases EX:i<xs.length
 ·refine .inr ⟨⟨xs,xs[i],q,by simp[EX]⟩,Pv (i+1),λGn H' p'=>⟨xs.length-(i+1),by lia,rfl,EX,p'⟩,λx H' y=>?_⟩;obtain⟨e,y⟩:=y;subst e;exact hs i x ys _ (y xs q) p
 ·have e:i=xs.length:=by lia
  subst e;exact .inl ⟨⟨xs,q,Qh _⟩,hd ys H p⟩
end
end L2
namespace Mm
open PySem
theorem qQ:∀(n a b:Nat),a<=n->(a|||b)=(a^^^b)+(a&&&b)
 |0,a,b,h=>by
  have:a=0:=by lia
  subst this;simp
 |n+1,a,b,h=>by
  by_cases ha:a=0
  ·subst ha;simp
  ·have ih:=qQ n (a/2) (b/2) (by lia);have e1:(a|||b)/2=a/2|||b/2:=Nat.or_div_two
   have e2:(a^^^b)/2=a/2^^^b/2:=Nat.xor_div_two;have e3:(a&&&b)/2=a/2&&&b/2:=Nat.and_div_two;have m1:(a|||b)%2=(a%2|||b%2):=by simpa using Nat.or_mod_two_pow (a:=a) (b:=b) (n:=1)
   have m2:(a^^^b)%2=(a%2^^^b%2):=by simpa using Nat.xor_mod_two_pow (a:=a) (b:=b) (n:=1)
   have m3:(a&&&b)%2=(a%2&&&b%2):=by simpa using Nat.and_mod_two_pow (a:=a) (b:=b) (n:=1)
   have d:∀x<2,∀y<2,(x|||y)=(x^^^y)+(x&&&y):=by decide
   have dd:=d (a%2) (by lia) (b%2) (by lia);lia
theorem qR(a b:Nat):Builtin.bitAnd (a:Int) (b:Int)=((a&&&b:Nat):Int):=by rw[PyProof.Rows.bitAnd_pp (by lia) (by lia)];simp
theorem zw(a b:Nat):Builtin.bitOr (a:Int) (b:Int)=((a|||b:Nat):Int):=by
 have ha:¬0<=Builtin.bitNot (a:Int):=by unfold Builtin.bitNot;lia
 have hb:¬0<=Builtin.bitNot (b:Int):=by unfold Builtin.bitNot;lia
 unfold Builtin.bitOr;rw[PyProof.Rows.bitAnd_nn ha hb,PyProof.Rows.bitNot_bitNot,PyProof.Rows.bitNot_bitNot,PyProof.Rows.bitNot_bitNot];simp
theorem zx(a b:Nat):Builtin.bitXor (a:Int) (b:Int)=((a^^^b:Nat):Int):=by unfold Builtin.bitXor;rw[zw,qR];have:=qQ a a b (Qh _);lia
end Mm
namespace L2
open PySem PySem.Spec PyProof.Rows
section
variable {X:Cx}
theorem zy{n:String}:dA X (.builtin "isinstance") (λxs H Q=>∃x t b,xs=[x,.ty n]/\de X.K H x t/\PySem.W.kitOne X.K t (.type n)=some b/\Q (.bl b) H):=by
 intro EQ s σ H xs us Q I r h;obtain⟨x,t,b,rfl,ty,e,q⟩:=h;obtain⟨u,w',rfl,rx,Ig⟩:=vals2 r;cases (show w'=Value.type n from Ig)
 exact yE I rx ty e λtk=>⟨.bl b,H,I.tok _,rfl,q⟩
end
theorem di:bootBuiltins "len"=some (.builtin "len"):=by decide +kernel
theorem kP:bootBuiltins "isinstance"=some (.builtin "isinstance"):=by decide +kernel
theorem qS{X:Cx}{K:PySem.W.Frag}(h:X.K=K):gO X (jF K):=by subst h;exact qD
section
variable {X:Cx}
theorem zA:qB X "int.bit_length" (λx xs H Q=>∃i,x=.int i/\xs=[]/\Q (.int ((Builtin.Int.intBits i:Nat):Int)) H):=by intro EQ s σ H x xs v us Q I rx rs h;obtain⟨i,rfl,rfl,q⟩:=h;obtain⟨t,rfl⟩:=rx;cases rs;exact call_int_bit_length ⟨.int _,H,I.tok _,⟨_,rfl⟩,q⟩
end
theorem gR:bootBuiltins "list"=some (.type "list"):=by decide +kernel
section
variable {X:Cx}
noncomputable def jL(z:Str)(lo hi:Option Int):Str:=⟨((z.cps.toList.drop (HT.sIx z.length 0 lo)).take (HT.sIx z.length z.length hi-HT.sIx z.length 0 lo)).toArray⟩
theorem qT(n d:Nat)(v:Option Int):(match v with|none=>(d:Int)|some i=>max 0 (min (if i<0 then i+(n:Int) else i) (n:Int)))=((HT.sIx n d v:Nat):Int):=by
 cases v with
 |none=>rfl
 |some i =>
  show max 0 (min (if i<0 then i+(n:Int) else i) (n:Int))=(((if i<0 then(i+(n:Int)).toNat else min i.toNat n):Nat):Int);by_cases h:i<0
  ·simp only[if_pos h];lia
  ·simp only[if_neg h];lia
theorem zB(lo hi:Option Int)(n:Nat):Builtin.Str.strSliceIndices lo hi 1 n=(List.range (HT.sIx n n hi-HT.sIx n 0 lo)).map (HT.sIx n 0 lo+·):=by rw[<-sliceRange_one];have e1:=qT n 0 lo;have e2:=qT n n hi;rw[<-e1,<-e2];rfl
theorem zC(z:Str)(lo hi:Option Int):Txt.slice z lo hi=jL z lo hi:=by
 have hL:=HT.sIx_le z.length 0 (QC _) lo;have hH:=HT.sIx_le z.length z.length (Qh _) hi;have hz:z.cps.toList.length=z.length:=by simp[Str.length]
 unfold Txt.slice jL;rw[zB];split
 ·rename_i h;have h':HT.sIx z.length z.length hi-HT.sIx z.length 0 lo=z.length:=by simpa using h
  rw[h'];by_cases h0:HT.sIx z.length 0 lo=0
  ·rw[h0,List.drop_zero,QD (by lia)]
  ·have:z.length=0:=by lia
   lia
 ·rw[pick_run]
theorem qU(z:Str)(lo hi:Option Int):(jL z lo hi).length<=z.length:=by
 show((z.cps.toList.drop (HT.sIx z.length 0 lo)).take (HT.sIx z.length z.length hi-HT.sIx z.length 0 lo)).toArray.size<=z.length;rw[Qt,Qx,List.length_drop];have hz:z.cps.toList.length=z.length:=by simp[Str.length]
 omega
theorem kR:iA X (λx lo hi H Q=>∃z,x=.str z/\z.length<=sizeLine/\Q (.str (jL z lo hi)) H):=by
 intro EQ s σ H x v vl vu lo hi sl Q I rx hs pl pu h;obtain⟨z,rfl,hz,q⟩:=h;obtain⟨t,rfl⟩:=rx;rw[<-zC] at q;refine⟨"str",_,slot_str_getitem.lookup,typeIs_str s z t,?_⟩;have key:∀(l u:Option (Int×Tok)),s.heap.IsSliceOf sl (partValue l) (partValue u) .none->l.map (·.1)=lo->u.map (·.1)=hi->wpAny (model X.prog X.w) X.A (getItem (.str z t) (.ref sl)) (EP X EQ σ Q) X.xe s:=by intro l u hs' hl hu;subst hl hu;exact wpAny_getItem_str_slice (l:=l) (u:=u) (st:=none) hs' rfl (post_val_or_str ⟨QK (Txt.slice_le z _ _) hz,λt' k=>⟨.str (Txt.slice z (l.map (·.1)) (u.map (·.1))),H,I.tok k,⟨t',rfl⟩,q⟩⟩)
 cases pl with
 |none=>cases pu with
  |none=>exact key none none hs rfl rfl
  |int j tj=>exact key none (some (j,tj)) hs rfl rfl
 |int i ti=>cases pu with
  |none=>exact key (some (i,ti)) none hs rfl rfl
  |int j tj=>exact key (some (i,ti)) (some (j,tj)) hs rfl rfl
noncomputable def mQ(n:Nat)(y:Nat->V):It:=⟨λi _=>i<n,λi H x H'=>H'=H/\x=y i,λi _=>n<=i⟩
end
theorem zD(K:PySem.W.Frag)(C:Addr):PySem.W.kitOne K (.ref C) (.ref C)=some true:=by unfold PySem.W.kitOne;rw[if_pos (by simp)]
end L2
namespace L2
theorem cr{p:Prop}(h:∀G:Prop,(p->G)->G):p:=h p id
theorem hid2.{u,v} {α:Sort u} {β:Sort v} {p:α->β->Prop} (c:α) (y:β) (h:∀G:α->β->Prop,(∀a b,p a b->G a b)->G c y):p c y:=h p λ_ _ x=>x
end L2
namespace L2
open PySem PySem.Spec PyProof.Rows
theorem zE{prog:Program}{w:World}{A:Around}{R:Result->Shared->Prop}{s:Shared}{Gb iter:Expr}{tg:Expr}{FL:List Expr}{sc:Scope}{pos:Pos}{it Fa:Value}{env:Env}(J:Nat->Shared->Prop)
  (one:∀k st,J k st->wpAny (model prog w) A (pyNext it) (λr s₁=>match r with
   |none=>R (.ok .next) s₁
   | some v=>wpAny (model prog w) A (letOwnedTupleGo tg it v) (fun _ sg=>wpAny (model prog w) A (assign tg env v) (fun _ s₂ =>
     wpAny (model prog w) A (qK FL env) (λok s₃ =>
      if ok=true then wpAny (model prog w) A (eval Gb env) (λy s₄=>wpAny (model prog w) A (call (.builtin "list.append") [Fa,y]) (λ_ s₅=>∃m,m<k/\J m s₅) (λ_ _=>False) s₄) (λ_ _=>False) s₃
      else ∃m,m<k/\J m s₃) (λ_ _=>False) s₂) (λ_ _=>False) sg) (λ_ _=>False) s₁) (λ_ _=>False) st)
  (k0:Nat) (h0:J k0 s):codeAny (model prog w) A (.compLoop (.ListComp Gb [⟨tg,iter,FL,0⟩] sc pos) 0 it Fa env) R s:=by
 refine codeAny_loop rfl J (λk st hk=>?_) k0 h0;show wpAny _ A ((compTurn (.ListComp Gb [⟨tg,iter,FL,0⟩] sc pos) 0 it Fa env).onRaise (λy=>do noteFrame y env;theTreesLotGoes y)) _ _ st;refine wpAny_noted ?_;rw[compTurn_list];refine Qb (wpAny_standAt (Qb (QW (one k st hk) (λr s₁ h₁=>?_) λ_ _ z=>z.elim)))
 cases r with
 |none=>exact Qd h₁
 |some v =>
  refine Qb (QW h₁ (λ_ sg hg=>?_) λ_ _ z=>z.elim);refine Qb (QW hg (λ_ s₂ h₂=>?_) λ_ _ z=>z.elim);refine Qb (QW h₂ (λok s₃ h₃=>?_) λ_ _ z=>z.elim)
  cases ok with
  |false=>exact Qd ⟨rfl,h₃⟩
  |true =>
   refine Qb (Qb (QW h₃ (λy s₄ h₄=>?_) λ_ _ z=>z.elim));exact Qb (QW h₄ (λ_ s₅ h₅=>Qd (Qd ⟨rfl,h₅⟩)) λ_ _ z=>z.elim)
structure kS(FJ sc:Scope)(NX:List Str)(xs:List Str)(fv:List Str)(js:List Nat):Prop where
 kind:sc.kind=.function
 kindX:FJ.kind=.function
 cell:∀y∈sc.names,y.2≠.cell
 own:∀x∈xs,sc.names.lookup x=some .local
 names:∀y∈sc.names,y.2=.local->sc.names.lookup y.1=some .local
 free:∀y∈sc.names,y.2=.free->FJ.names.lookup y.1=some .cell
 nd:(xs++fv).Nodup
 at':js.map (λj=>NX[j]?)=fv.map some
 fr:∀y∈fv,sc.names.lookup y=some .free
noncomputable abbrev dQ(X:Cx)(sc:Scope)(xs:List Str)(fv:List Str)(C:Addr)(s0:Shared)(H0:Hp)(ex:List Addr):Cx:=
 {X with N:=xs++fv,s₀:=s0,H₀:=H0,env:=compEnvC sc (cE X.env.cells sc.names []) C X.env,outer:=X.stack,ex:=ex,fn:=λ_=>false,pn:=[],xe:=λ_ _=>False}
def kT(k:Nat)(js:List Nat)(g:TG)(tt:TT)(te:TE)(σ:St)(ys:List V)(N:List V->Hp->Prop)(x:V)(H':Hp):Prop:=
 ∀os:List (Option V),os.length=k->g x (os++bx js σ) H' λσ6 H6=>(∃IL:List (Option V),IL.length=k/\σ6=IL++bx js σ) /\
  tt σ6 H6 λb H2=>if b=true then te σ6 H2 λy H3=>ys.length<sizeLine/\N (ys++[y]) H3 else N ys H2
def mR(J:It)(k:Nat)(js:List Nat)(g:TG)(tt:TT)(te:TE):TE:=λσ H1 Q=>∃W:Nat->Nat->List V->Hp->Prop,(∃m,W 0 m [] H1)/\∀i m ys H,W i m ys H ->
 (J.stop i H/\∀p,H p=none->Q (.ref p) (upd H p (.lst ys))) ∨
 (J.go i H/\∃N:List V->Hp->Prop,(∀Gn H',N Gn H'->∃m',m'<m/\W (i+1) m' Gn H')/\∀x H',J.yld i H x H'->kT k js g tt te σ ys N x H')
def qV(wi:TI)(k:Nat)(js:List Nat)(g:TG)(tt:TT)(te:TE):TE:=λσ H Q=>wi σ H λJ H1=>mR J k js g tt te σ H1 Q
section
variable {X:Cx}{EQ:List (Addr×Obj)}{σ:St}{H2:Hp}{s2:Shared}{Gb iter tg:Expr}{xs:List Str}{FL:List Expr}{sc FJ:Scope}{pos:Pos}{fv:List Str}{js:List Nat}{g:TG}{tt:TT}{te:TE}
theorem mS(S:kS FJ sc X.N xs fv js)(G6:X.env.scope=FJ)(Fo:X.calm=true)(hgg:∀C s0 H0 ex,PG (dQ X sc xs fv C s0 H0 ex) tg g)
  (ht:∀C s0 H0 ex,gu (dQ X sc xs fv C s0 H0 ex) FL tt) (he:∀C s0 H0 ex,PE (dQ X sc xs fv C s0 H0 ex) Gb te)
  {it:Addr} {fp:List Addr} {tn:Nat->Heap->Prop} {J:It} (I2:Inv X EQ σ H2 s2) (T:fm X.prog X.w X.K tg J fp it tn) (Ht:tn 0 s2.heap) (f2:∀b∈fp,cR X EQ H2 b)
  {Q:VK} {W:Nat->Nat->List V->Hp->Prop} (w0:∃m,W 0 m [] H2)
  (step:∀i m ys H,W i m ys H->(J.stop i H/\∀p,H p=none->Q (.ref p) (upd H p (.lst ys))) ∨
   (J.go i H/\∃N:List V->Hp->Prop,(∀Gn H',N Gn H'->∃m',m'<m/\W (i+1) m' Gn H') /\
    ∀x H',J.yld i H x H'->kT xs.length js g tt te σ ys N x H'))
  {RR:Value->Addr->Result->Shared->Prop} {E:Value->Shared->Prop}
  (fin:∀(D C:Addr) (s':Shared) (H':Hp),Inv X EQ σ H' s'->Q (.ref D) H'->(∃m,s'.heap.Ns C m)->cR X EQ H' C->RR (.ref D) C (.ok .next) s') :
  wpAny (model X.prog X.w) X.A (newList []) (λFa s₃=>wpAny (model X.prog X.w) X.A (newFunctionEnv sc X.env.globals (cE X.env.cells sc.names []) [] X.env.qual none .none (some X.env)) (λJf s₄ =>
   codeAny (model X.prog X.w) X.A (.compStart (.ListComp Gb [⟨tg,iter,FL,0⟩] sc pos) 0 (.ref it) Fa {Jf with scope:=relabel sc X.env}) (RR Fa Jf.locals) s₄) E s₃) E s2:=by
 have Fn:∀y∈sc.names,y.2=.free->∃c,X.env.cells.lookup y.1=some c:=λy hy hf=>I2.ok.has y.1 (.inl (by show X.env.scope.names.lookup y.1=_;rw[G6];exact S.free y hy hf));obtain⟨cl1,_,cl3⟩:=mO (cells:=X.env.cells) sc.names [] Fn (λy c h=>by simp at h);refine wpAny_newObj_type (wpAny_newFunctionEnv S.cell (by intro y hy;simp at hy) (λh₁ hns₁ hsb₁=>?_) S.kind);dsimp only at hns₁ hsb₁ ⊢;generalize hG:s2.heap.push {cls:=.type "list",dict:=none,data:=.seq ([]:List Value).toArray}=G at hns₁ hsb₁ ⊢;have hGz:G.objs.size=s2.heap.objs.size+1:=by rw[<-hG,Heap.size_push]
 have Iy:∀b o,s2.heap.get? b=some o->G.get? b=some o:=λb o e=>hG ▸ Qe _ e;have upH:∀b o,G.get? b=some o->h₁.get? b=some o:=λb o e=>hsb₁.extBut b o (QF (Qw e)) (Qe _ e);have ltD:∀b o,s2.heap.get? b=some o->b≠s2.heap.objs.size:=λb o e=>QF (Qw e);have fpo:∀b∈fp,∃o,s2.heap.get? b=some o:=λb hb=>by obtain⟨o,e,_⟩:=T.obj 0 _ Ht b hb;exact⟨o,e⟩
 have fpD:∀b∈fp,b≠s2.heap.objs.size:=λb hb=>by obtain⟨o,e⟩:=fpo b hb;exact ltD b o e
 have fpC:∀b∈fp,b≠G.objs.size:=λb hb=>by obtain⟨o,e⟩:=fpo b hb;exact QF (Qw (Iy b o e))
 have cellO:∀y c,(cE X.env.cells sc.names []).lookup y=some c->∃v,s2.heap.IsCell c v:=λy c e=>I2.cell y c (cl1 y c e);have cellD:∀y c,(cE X.env.cells sc.names []).lookup y=some c->c≠s2.heap.objs.size:=λy c e=>by obtain⟨v,q⟩:=cellO y c e;exact QF q.lt
 have Dfs:s2.heap.objs.size∉eB X.stack:=λhb=>by
  rcases Qn (I2.stkSub _ hb) with z|z
  ·exact absurd I2.lt (by rw[<-z];exact Nat.lt_irrefl _)
  ·exact I2.nofs (Qh _) z
 have fpfs:∀b∈fp,b∉eB X.stack:=λb hb hz=>by
  refine cr λ_ γ=>?_;obtain⟨_,f1,f2',_⟩:=f2 b hb;refine γ ?_;rcases Qn (I2.stkSub _ hz) with z|z
  ·exact f1 z
  ·exact f2' z
 have HD:H2 s2.heap.objs.size=none:=I2.hok.fresh (Qh _);have HC:H2 G.objs.size=none:=I2.hok.fresh (by rw[hGz];exact Nat.le_succ _);have DC:s2.heap.objs.size≠G.objs.size:=by rw[hGz];exact QF (Nat.lt_succ_self _)
 have okC:Cx.Ok (dQ X sc xs fv G.objs.size {s2 with heap:=G} H2 (s2.heap.objs.size::fp)):=by
  refine⟨I2.ok.mod,S.kind,I2.ok.glob,I2.ok.blt,Qh _,λy z c h1 h2=>I2.ok.inj y z c (cl1 _ _ h1) (cl1 _ _ h2),λy hy=>?_,λy c IH _=>(by cases IH),I2.ok.hd,I2.ok.frames,.inl rfl,λb hb=>?_,λb o e=>?_,?_,λb o e hb=>?_,λb hb=>?_,?_,I2.stkFree⟩
  ·exact Option.isSome_iff_exists.mp (cl3 y (qM S.cell hy))
  ·rcases Qn hb with z|z
   ·subst z;exact⟨DC,cellD⟩
   ·refine⟨fpC b z,λy c e=>?_⟩;refine cr λ_ γ=>?_;obtain⟨_,_,_,_,f4,_⟩:=f2 b z;refine γ ?_;exact f4 y c (cl1 y c e)
  ·exact⟨Iy b o (I2.bs b o e).1,(I2.bs b o e).2⟩
  ·show X.base.objs.size<=G.objs.size;rw[hGz];exact Nat.le_succ_of_le (QK I2.ok.bsz I2.sz)
  ·rcases Qn hb with z|z
   ·exact ltD b o (I2.bk b o e) z
   ·refine cr λ_ γ=>?_;obtain⟨_,_,_,f3,_⟩:=f2 b z;refine γ ?_;rcases f3 with q|q
    ·exact I2.ok.noex b o e q
    ·exact absurd (QO (Qw e) (QK I2.ok.bsz q)) (Nat.lt_irrefl _)
  ·rcases Qn hb with z|z
   ·subst z;exact Dfs
   ·exact fpfs b z
  ·exact(I2.stack).of_keeps λb o e _=>⟨o,Iy b o e,rfl⟩
 have lenC:∀os:List (Option V),os.length=xs.length->(os++bx js σ).length=(xs++fv).length:=λos ho=>by have:=congrArg List.length S.at';simp only[Qf] at this;simp[bx,this,ho]
 have HJ:h₁.get? s2.heap.objs.size=some {cls:=.type "list",dict:=none,data:=.seq ([]:List Value).toArray}:=upH _ _ (hG ▸ Qu _ rfl)
 have I4:Inv (dQ X sc xs fv G.objs.size {s2 with heap:=G} H2 (s2.heap.objs.size::fp)) [(s2.heap.objs.size,{cls:=.type "list",dict:=none,data:=.seq ([]:List Value).toArray})] (xs.map (λ_=>none)++bx js σ) H2 {s2 with heap:=h₁,toks:=s2.toks+([]:List (Str×Value)).length}:=by
  refine⟨okC,rfl,I2.bare,Un.kept upH,⟨_,hns₁,λi y v e1 e2 e3=>?_⟩,λy c e=>?_,HC,λy c e=>I2.freeC y c (cl1 y c e),λp hp=>?_,I2.hok.kept λb u e=>upH b u (Iy b u e),lenC _ (by simp)⟩
  ·by_cases FS:i<xs.length
   ·have:(xs.map (λ_=>(none:Option V))++bx js σ)[i]?=some none:=by rw[Ql (by simpa using FS),Qj,Qa FS];rfl
    rw[this] at e2;cases e2
   ·obtain⟨i',rfl⟩:∃i',i=xs.length+i':=⟨i-xs.length,by lia⟩
    have e1':fv[i']?=some y:=by have e1a:(xs++fv)[xs.length+i']?=some y:=e1;rw[Qs (by lia),Nat.add_sub_cancel_left] at e1a;exact e1a
    have e2':(bx js σ)[i']?=some (some v):=by have e2a:=e2;rw[Qs (by simp),Qf,Nat.add_sub_cancel_left] at e2a;exact e2a
    have q:=congrArg (λl=>l[i']?) S.at';simp only[Qj,e1',Option.map_some] at q
    cases hj:js[i']? with
    |none=>rw[hj] at q;cases q
    |some j =>
     rw[hj] at q;have hj':X.N[j]?=some y:=Qo q;unfold bx at e2';rw[Qj,hj] at e2';have e2'':(σ[j]?).getD none=some v:=Qo e2'
     have e2b:σ[j]?=some (some v):=by
      cases hh:σ[j]? with
      |none=>rw[hh] at e2'';cases e2''
      |some o=>rw[hh] at e2'';exact congrArg some e2''
     have hm:y∈fv:=Qk e1';have hcX:FJ.names.lookup y=some .cell:=S.free (y,.free) (PySem.mem_of_lookup (S.fr y hm)) rfl;have kX:X.env.kindOf y=some .cell:=by show X.env.scope.names.lookup y=_;rw[G6];exact hcX
     obtain⟨m,hn,hl⟩:=I2.loc;obtain⟨u,r,lk⟩:=hl j y v hj' e2b (.inr (.inl kX));refine⟨u,r,?_⟩
     rcases lk with ⟨k,_⟩|⟨_,c,ec,z⟩
     ·rw[kX] at k;cases k
     ·refine .inr ⟨.inl (qL (by rw[G6];exact S.kindX) (S.fr y hm) kX),c,?_,?_⟩
      ·obtain⟨c',ec'⟩:=Option.isSome_iff_exists.mp (cl3 y (PySem.mem_of_lookup (S.fr y hm)));have:=cl1 y c' ec';rw[ec] at this;cases this;exact ec'
      ·obtain⟨o,ho,hd⟩:=z;exact⟨o,upH c o (Iy c o ho),hd⟩
  ·refine cr λ_ γ=>?_;obtain⟨v,o,ho,hd⟩:=cellO y c e;refine γ ?_;exact⟨v,o,upH c o (Iy c o ho),hd⟩
  ·have FM:p=(s2.heap.objs.size,{cls:=.type "list",dict:=none,data:=.seq ([]:List Value).toArray}):=by simpa using hp
   subst FM;exact⟨HJ,HD,DC,Dfs,λv z=>by cases z⟩
 have loop:codeAny (model X.prog X.w) X.A (.compLoop (.ListComp Gb [⟨tg,iter,FL,0⟩] sc pos) 0 (.ref it) (.ref s2.heap.objs.size) (compEnvC sc (cE X.env.cells sc.names []) G.objs.size X.env)) (RR (.ref s2.heap.objs.size) G.objs.size) {s2 with heap:=h₁,toks:=s2.toks+([]:List (Str×Value)).length}:=by
  obtain⟨m0,w0⟩:=w0
  have fok:∀{H':Hp} {o:Obj},(∀b∈fp,H' b=none)->∀b∈fp,cR (dQ X sc xs fv G.objs.size {s2 with heap:=G} H2 (s2.heap.objs.size::fp)) [(s2.heap.objs.size,o)] H' b:=λ{H' o} hn b hb=>by
   refine⟨hn b hb,fpC b hb,fpfs b hb,.inl (QA _ hb),λy c e=>?_,λp hp=>?_⟩
   ·refine cr λ_ γ=>?_;obtain⟨_,_,_,_,f4,_⟩:=f2 b hb;refine γ ?_;exact f4 y c (cl1 y c e)
   ·have FM:p=(s2.heap.objs.size,o):=by simpa using hp
    subst FM;exact(fpD b hb).symm
  refine zE (λk st=>∃(i:Nat) (ys:List V) (its:List Value) (n:Nat) (os:List (Option V)) (H':Hp),os.length=xs.length/\Inv (dQ X sc xs fv G.objs.size {s2 with heap:=G} H2 (s2.heap.objs.size::fp)) [(s2.heap.objs.size,{cls:=.type "list",data:=.seq its.toArray n})] (os++bx js σ) H' st /\
   aw ys its/\ys.length<=sizeLine/\tn i st.heap/\(∀b∈fp,H' b=none)/\W i k ys H') ?_ m0
   ⟨0,[],[],_,xs.map (λ_=>none),H2,by simp,I4,.nil,QC _,T.keep _ _ _ Ht λb _ o e=>upH b o (Iy b o e),λb hb=>(f2 b hb).1,w0⟩
  rintro k s3 hh;refine cr λ_ γ=>?_;obtain⟨i,ys,its,n,os,H3,FO,I3,rv,hz,st3,fr3,w3⟩:=hh;refine γ ?_
  rcases step i k ys H3 w3 with ⟨stop,q⟩|⟨go,N,hN,hgo⟩
  ·refine aA (T.done (dQ X sc xs fv G.objs.size {s2 with heap:=G} H2 (s2.heap.objs.size::fp)) rfl rfl rfl Fo i _ s3 _ H3 _ I3 (fok fr3) st3 stop) λr s4 hsl39=>?_;obtain⟨hr,I4⟩:=hsl39;subst hr;refine cr λ_ γ=>?_;obtain⟨pD,pn,_,_,_⟩:=I4.pin _ (QE _ QH);refine γ ?_;have B:=I4.base;have nD:∀b o,s2.heap.get? b=some o->b∉fp->b∉s2.heap.objs.size::fp:=λb o e hx hm=>(Qn hm).elim (ltD b o e) hx;have neH:∀b u,H2 b=some u->b≠s2.heap.objs.size:=λb u e z=>by rw[z,HD] at e;cases e
   have JX:Inv X EQ σ (upd H3 s2.heap.objs.size (.lst ys)) s4:=by
    refine I2.call' (ch:=fp) I4.os ⟨λb o e hn hb hx=>B.keep b o (Iy b o e) hn hb (nD b o e hx),λb o e hn hb hx=>B.slot b o (Iy b o e) hn hb (nD b o e hx),λb o e hn hx=>?_,λb o e hx=>B.there b o (Iy b o e) (nD b o e hx),λb xs e=>?_,λb o u e=>?_,λb ps e=>?_⟩ (λb u e=>?_) I4.bare λb hb=>?_
    ·rw[aE (ltD b o e)];exact B.free b o (Iy b o e) hn (nD b o e hx)
    ·rw[aE (neH b _ e)];exact B.tups b xs e
    ·rw[aE (neH b _ e)];exact B.frzs b o u e
    ·rw[aE (neH b _ e)];exact B.tbls b ps e
    ·by_cases hb:b=s2.heap.objs.size
     ·subst hb;rw[ah] at e;cases e;exact⟨hz,its,n,rv,pD⟩
     ·rw[aE hb] at e;exact(I4.hok b u e).stay (λ_ _ _ z=>z) (λc z=>by rw[aE (fR z pn)];exact z) λc xs z=>by rw[aE (fR z pn)];exact z
    ·refine cr λ_ γ=>?_;obtain⟨_,f1,_,f3,f4,f5⟩:=f2 b hb;refine γ ?_;exact⟨f3,f1,f4,f5⟩
   refine fin _ _ s4 _ JX (q _ pn) (by obtain⟨m,hm,_⟩:=I4.loc;exact⟨m,hm⟩) (I2.fpOk (by rw[hGz];exact Nat.le_succ _) ?_);rw[aE DC.symm];exact I4.free
  ·refine aA (T.item (dQ X sc xs fv G.objs.size {s2 with heap:=G} H2 (s2.heap.objs.size::fp)) rfl rfl rfl Fo i _ s3 _ H3 _ I3 (fok fr3) st3 go) λr s4 hsl40=>?_;obtain⟨u,hr,h4⟩:=hsl40;subst hr;refine aA h4 λ_ s5 hsl41=>?_;obtain⟨y,H5,I5,r5,y5,st5,fr5⟩:=hsl41;have I5':=I5.pinned (fok fr5) (T.obj _ _ st5);refine aA (hgg _ _ _ _ _ s5 _ H5 y u _ I5' r5 (hgo y _ y5 os FO)) λ_ s6 hsl42=>?_;obtain⟨σ6,H6,I6,⟨IL,hos',eσ⟩,q6⟩:=hsl42;subst eσ;refine aA (ht _ _ _ _ _ s6 _ _ _ I6 q6) λb s7 hsl43=>?_;obtain⟨H7,I7,q7⟩:=hsl43
   cases b with
   |false =>
    rw[if_neg QG] at q7 ⊢;obtain⟨m',hm,w7⟩:=hN ys H7 q7
    exact⟨m',hm,i+1,ys,its,n,IL,H7,hos',I7.unpinned,rv,hz,T.keep _ _ _ st5 λb hb o e=>(I7.pin (b,o) (QE _ (QE _ (gg hb e)))).1,λb hb=>by
     obtain⟨o,e,d⟩:=T.obj _ _ st5 b hb
     exact(I7.pin (b,o) (QE _ (QE _ (gg hb e)))).2.1,w7⟩
   |true =>
    rw[if_pos rfl] at q7 ⊢;refine aA (he _ _ _ _ _ s7 _ H7 _ I7 q7) λu8 s8 hsl44=>?_;obtain⟨y8,H8,I8,r8,IV,q8⟩:=hsl44;obtain⟨m',hm,w8⟩:=hN _ H8 q8;refine cr λ_ γ=>?_;obtain⟨pD,pn,pC,pf,_⟩:=I8.pin _ (QE _ (List.mem_append_left _ QH));refine γ ?_;refine wpAny_list_append_plain (items:=its.toArray) ⟨n,pD⟩ (λh9 hl9 sb9=>?_) (by rw[Qt,<-rv.length];exact QT IV);have pinF:∀p∈gL fp s5.heap,p∈[(s2.heap.objs.size,({cls:=.type "list",data:=.seq its.toArray n}:Obj))]++gL fp s5.heap:=λp hp=>QE _ hp;have I8a:=I8.pins_of (pins':=gL fp s5.heap) λp hp=>I8.pin p (QE _ (pinF p hp));have I9:=I8a.turned (it:=s2.heap.objs.size) (h':=h9) (t':=s8.toks) (λb o hb e=>(sb9.2 b hb).trans e) pn DC (.inl QH) (λy c e=>cellD y c e) λp hp=>fpD p.1 (pV (by simpa using hp)).1;obtain⟨n9,e9⟩:=hl9;have e9':h9.get? s2.heap.objs.size=some {cls:=.type "list",data:=.seq (its++[u8]).toArray n9}:=by rw[e9,show(its++[u8]).toArray=its.toArray.push u8 by simp]
    refine⟨m',hm,i+1,ys++[y8],its++[u8],n9,IL,H8,hos',I9.pins_of λp hp=>?_,rv.append (.cons r8 .nil),by rw[Qr];exact IV,T.keep _ _ _ st5 λb hb o e=>(I9.pin (b,o) (QE _ (gg hb e))).1,λb hb=>?_,w8⟩
    ·have FM:p=(s2.heap.objs.size,{cls:=.type "list",data:=.seq (its++[u8]).toArray n9}):=by simpa using hp
     subst FM;exact⟨e9',pn,DC,pf,λv z=>by cases z⟩
    ·obtain⟨o,e,d⟩:=T.obj _ _ st5 b hb;exact(I9.pin (b,o) (QE _ (gg hb e))).2.1
 exact codeAny_compStart_list loop (T.self _ 0 _ _ _ (T.keep _ _ _ Ht λb _ o e=>upH b o (Iy b o e)) loop)
theorem jM{wi:TI}(FJ:Scope)(NX fv:List Str)(js:List Nat)(hNX:X.N=NX)(S:kS FJ sc NX xs fv js)(G6:X.env.scope=FJ)(Fo:X.calm=true)(hi:PI X tg iter wi)(hgg:∀C s0 H0 ex,PG (dQ X sc xs fv C s0 H0 ex) tg g)
  (ht:∀C s0 H0 ex,gu (dQ X sc xs fv C s0 H0 ex) FL tt) (he:∀C s0 H0 ex,PE (dQ X sc xs fv C s0 H0 ex) Gb te)
  (hs:∀v,foldedSetIterable iter X.env v=pure v:=by intro _;rfl):PE X (.ListComp Gb [⟨tg,iter,FL,0⟩] sc pos) (qV wi xs.length js g tt te):=by
 intro EQ s σ H Q I h;rw[<-hNX] at S;have Fn:∀y∈sc.names,y.2=.free->∃c,X.env.cells.lookup y.1=some c:=λy hy hf=>I.ok.has y.1 (.inl (by show X.env.scope.names.lookup y.1=_;rw[G6];exact S.free y hy hf));rw[eval_ListComp];refine wpAny_comprehension_free (use:=none) rfl hs (kN Fn) S.kind S.names (aA (hi EQ s σ H _ I h) λv s1 h1=>aA h1 λitv s2 h2=>?_);obtain⟨it,fp,tn,J,H2,e,I2,T,Ht,f2,W,w0,step⟩:=h2;subst e;refine mS (RR:=λFa C=>compPost (model X.prog X.w) X.A X.xe none (EP X EQ σ Q) Fa C) S G6 Fo hgg ht he I2 T Ht f2 w0 step λD C s' H' I' q hsl45 hC=>?_;obtain⟨m,hm⟩:=hsl45;obtain⟨f0,f1,_,f3,f4,f5⟩:=hC;exact⟨m,hm,λh' sb=>⟨.ref D,H',I'.turned (t':=s'.toks) (λb o hb e=>(sb.2 b hb).trans e) f0 f1 f3 f4 f5,rfl,q⟩⟩
theorem zF{wi:TI}{i:Nat}{y:Str}{py IY:Pos}(FJ:Scope)(NX fv:List Str)(js:List Nat)(hNX:X.N=NX)(S:kS FJ sc NX xs fv js)(G6:X.env.scope=FJ)(Fo:X.calm=true)(hi:PI X tg iter wi)(hgg:∀C s0 H0 ex,PG (dQ X sc xs fv C s0 H0 ex) tg g)
  (ht:∀C s0 H0 ex,gu (dQ X sc xs fv C s0 H0 ex) FL tt) (he:∀C s0 H0 ex,PE (dQ X sc xs fv C s0 H0 ex) Gb te)
  (hN:X.N.Nodup) (hy:X.N[i]?=some y) (hl:X.env.scope.names.lookup y=some .local) (hsw:swapsWith (.ListComp Gb [⟨tg,iter,FL,0⟩] sc pos) (some (.Name y py)) IY.line X.env=pure true)
  (hs:∀v,foldedSetIterable iter X.env v=pure v:=by intro _;rfl):PS X (.Assign [.Name y py] (.ListComp Gb [⟨tg,iter,FL,0⟩] sc pos) IY) (jA (qV wi xs.length js g tt te) (aR i)):=by
 intro EQ s σ H D I h;rw[<-hNX] at S;have Fn:∀y∈sc.names,y.2=.free->∃c,X.env.cells.lookup y.1=some c:=λy hy hf=>I.ok.has y.1 (.inl (by show X.env.scope.names.lookup y.1=_;rw[G6];exact S.free y hy hf));rw[exec_Assign_Name_used _ _ _ _ hsw];refine Qb (wpAny_standAt (Qb ?_));show wpAny _ _ (do let _ <- comprehension (.ListComp Gb [⟨tg,iter,FL,0⟩] sc pos) sc X.env _ (newList []) false (eval iter X.env) (some (assign (.Name y py) X.env))) _ _ s
 refine Qb (QW (wpAny_comprehension_free (use:=some (assign (.Name y py) X.env)) (Q:=λ_ st=>SP X EQ D .next st) rfl hs (kN Fn) S.kind S.names
  (aA (hi EQ s σ H _ I h) λv s1 h1=>aA h1 λitv s2 h2=>?_)) (λ_ st hq=>Qd (Qd hq)) λ_ _ e=>e)
 obtain⟨it,fp,tn,J,H2,e,I2,T,Ht,f2,W,w0,step⟩:=h2;subst e;refine mS (Q:=λv H1=>aR i v σ H1 D.nx) (RR:=λFa C=>compPost (model X.prog X.w) X.A X.xe (some (assign (.Name y py) X.env)) (λ_ st=>SP X EQ D .next st) Fa C) S G6 Fo hgg ht he I2 T Ht f2 w0 step λDl C s' H' I' q hsl46 hC=>?_;obtain⟨m,hm⟩:=hsl46;obtain⟨f0,f1,_,f3,f4,f5⟩:=hC;refine wpAny_assign_Name (mj I' hN hy (.inl hl) (show RelV (.ref Dl) (.ref Dl) from rfl) (λs'' I'' hsl47=>?_) (.inr hl));obtain⟨a,sb,ha⟩:=hsl47
 have aC:C≠a:=λz=>by
  rcases ha with ha|ha
  ·exact f1 (z.trans ha)
  ·exact f4 y a ha z.symm
 refine⟨m,hm.sameBut sb aC,λh' sb'=>?_⟩;exact⟨_,_,I''.turned (t':=s''.toks) (λb o hb e=>(sb'.2 b hb).trans e) f0 f1 f3 f4 f5,q⟩
end
theorem jK.two{FJ sc:Scope}{NX:List Str}{x:Str}{fv:List Str}{js:List Nat}(S:jK FJ sc NX x fv js):kS FJ sc NX [x] fv js:=
 ⟨S.kind,S.kindX,S.cell,λy hy=>by rw[Qp hy];exact S.own,S.names,S.free,S.nd,S.at',S.fr⟩
section
variable {X:Cx}{EQ:List (Addr×Obj)}{σ:St}{H2:Hp}{s2:Shared}{Gb iter:Expr}{x:Str}{px:Pos}{FL:List Expr}{sc FJ:Scope}{pos:Pos}{fv:List Str}{js:List Nat}{tt:TT}{te:TE}
theorem qW(S:jK FJ sc X.N x fv js)(G6:X.env.scope=FJ)(Fo:X.calm=true)
  (ht:∀C s0 H0 ex,gu (xc X sc x fv C s0 H0 ex) FL tt) (he:∀C s0 H0 ex,PE (xc X sc x fv C s0 H0 ex) Gb te)
  {it:Addr} {fp:List Addr} {tn:Nat->Heap->Prop} {J:It} (I2:Inv X EQ σ H2 s2) (T:fm X.prog X.w X.K (.Name x px) J fp it tn) (Ht:tn 0 s2.heap) (f2:∀b∈fp,cR X EQ H2 b)
  {Q:VK} {W:Nat->Nat->List V->Hp->Prop} (w0:∃m,W 0 m [] H2)
  (step:∀i m ys H,W i m ys H->(J.stop i H/\∀p,H p=none->Q (.ref p) (upd H p (.lst ys))) ∨
   (J.go i H/\∃N:List V->Hp->Prop,(∀Gn H',N Gn H'->∃m',m'<m/\W (i+1) m' Gn H') /\
    ∀x H',J.yld i H x H'->tt (some x::bx js σ) H' λb H2=>if b=true then te (some x::bx js σ) H2 λy H3=>ys.length<sizeLine/\N (ys++[y]) H3 else N ys H2))
  {RR:Value->Addr->Result->Shared->Prop} {E:Value->Shared->Prop}
  (fin:∀(D C:Addr) (s':Shared) (H':Hp),Inv X EQ σ H' s'->Q (.ref D) H'->(∃m,s'.heap.Ns C m)->cR X EQ H' C->RR (.ref D) C (.ok .next) s') :
  wpAny (model X.prog X.w) X.A (newList []) (λFa s₃=>wpAny (model X.prog X.w) X.A (newFunctionEnv sc X.env.globals (cE X.env.cells sc.names []) [] X.env.qual none .none (some X.env)) (λJf s₄ =>
   codeAny (model X.prog X.w) X.A (.compStart (.ListComp Gb [⟨.Name x px,iter,FL,0⟩] sc pos) 0 (.ref it) Fa {Jf with scope:=relabel sc X.env}) (RR Fa Jf.locals) s₄) E s₃) E s2:=by
 refine mS (xs:=[x]) (g:=aR 0) (RR:=RR) S.two G6 Fo (λC s0 H0 ex=>ba S.nd rfl (.inl (lookup_relabel_local S.own)) (.inr (lookup_relabel_local S.own))) ht he I2 T Ht f2 w0 (λi m ys H w=>?_) fin
 rcases step i m ys H w with h|⟨go,N,hN,st⟩
 ·exact .inl h
 ·refine .inr ⟨go,N,hN,λy H' hy os FO=>?_⟩;obtain⟨o,rfl⟩:=List.length_eq_one_iff.mp FO;exact⟨⟨[some y],rfl,rfl⟩,st y H' hy⟩
theorem fX{wi:TI}(FJ:Scope)(NX fv:List Str)(js:List Nat)(hNX:X.N=NX)(S:jK FJ sc NX x fv js)(G6:X.env.scope=FJ)(Fo:X.calm=true)(hi:PI X (.Name x px) iter wi)
  (ht:∀C s0 H0 ex,gu (xc X sc x fv C s0 H0 ex) FL tt) (he:∀C s0 H0 ex,PE (xc X sc x fv C s0 H0 ex) Gb te)
  (hs:∀v,foldedSetIterable iter X.env v=pure v:=by intro _;rfl):PE X (.ListComp Gb [⟨.Name x px,iter,FL,0⟩] sc pos) (qO wi js tt te):=by
 intro EQ s σ H Q I h;rw[<-hNX] at S;have Fn:∀y∈sc.names,y.2=.free->∃c,X.env.cells.lookup y.1=some c:=λy hy hf=>I.ok.has y.1 (.inl (by show X.env.scope.names.lookup y.1=_;rw[G6];exact S.free y hy hf));rw[eval_ListComp];refine wpAny_comprehension_free (use:=none) rfl hs (kN Fn) S.kind S.names (aA (hi EQ s σ H _ I h) λv s1 h1=>aA h1 λitv s2 h2=>?_);obtain⟨it,fp,tn,J,H2,e,I2,T,Ht,f2,W,w0,step⟩:=h2;subst e;refine qW (RR:=λFa C=>compPost (model X.prog X.w) X.A X.xe none (EP X EQ σ Q) Fa C) S G6 Fo ht he I2 T Ht f2 w0 step λD C s' H' I' q hsl48 hC=>?_;obtain⟨m,hm⟩:=hsl48;obtain⟨f0,f1,_,f3,f4,f5⟩:=hC;exact⟨m,hm,λh' sb=>⟨.ref D,H',I'.turned (t':=s'.toks) (λb o hb e=>(sb.2 b hb).trans e) f0 f1 f3 f4 f5,rfl,q⟩⟩
theorem qX{wi:TI}{i:Nat}{y:Str}{py IY:Pos}(FJ:Scope)(NX fv:List Str)(js:List Nat)(hNX:X.N=NX)(S:jK FJ sc NX x fv js)(G6:X.env.scope=FJ)(Fo:X.calm=true)(hi:PI X (.Name x px) iter wi)
  (ht:∀C s0 H0 ex,gu (xc X sc x fv C s0 H0 ex) FL tt) (he:∀C s0 H0 ex,PE (xc X sc x fv C s0 H0 ex) Gb te)
  (hN:X.N.Nodup) (hy:X.N[i]?=some y) (hl:X.env.scope.names.lookup y=some .local) (hsw:swapsWith (.ListComp Gb [⟨.Name x px,iter,FL,0⟩] sc pos) (some (.Name y py)) IY.line X.env=pure true)
  (hs:∀v,foldedSetIterable iter X.env v=pure v:=by intro _;rfl):PS X (.Assign [.Name y py] (.ListComp Gb [⟨.Name x px,iter,FL,0⟩] sc pos) IY) (jA (qO wi js tt te) (aR i)):=by
 intro EQ s σ H D I h;rw[<-hNX] at S;have Fn:∀y∈sc.names,y.2=.free->∃c,X.env.cells.lookup y.1=some c:=λy hy hf=>I.ok.has y.1 (.inl (by show X.env.scope.names.lookup y.1=_;rw[G6];exact S.free y hy hf));rw[exec_Assign_Name_used _ _ _ _ hsw];refine Qb (wpAny_standAt (Qb ?_));show wpAny _ _ (do let _ <- comprehension (.ListComp Gb [⟨.Name x px,iter,FL,0⟩] sc pos) sc X.env _ (newList []) false (eval iter X.env) (some (assign (.Name y py) X.env))) _ _ s
 refine Qb (QW (wpAny_comprehension_free (use:=some (assign (.Name y py) X.env)) (Q:=λ_ st=>SP X EQ D .next st) rfl hs (kN Fn) S.kind S.names
  (aA (hi EQ s σ H _ I h) λv s1 h1=>aA h1 λitv s2 h2=>?_)) (λ_ st hq=>Qd (Qd hq)) λ_ _ e=>e)
 obtain⟨it,fp,tn,J,H2,e,I2,T,Ht,f2,W,w0,step⟩:=h2;subst e;refine qW (Q:=λv H1=>aR i v σ H1 D.nx) (RR:=λFa C=>compPost (model X.prog X.w) X.A X.xe (some (assign (.Name y py) X.env)) (λ_ st=>SP X EQ D .next st) Fa C) S G6 Fo ht he I2 T Ht f2 w0 step λDl C s' H' I' q hsl49 hC=>?_;obtain⟨m,hm⟩:=hsl49;obtain⟨f0,f1,_,f3,f4,f5⟩:=hC;refine wpAny_assign_Name (mj I' hN hy (.inl hl) (show RelV (.ref Dl) (.ref Dl) from rfl) (λs'' I'' hsl50=>?_) (.inr hl));obtain⟨a,sb,ha⟩:=hsl50
 have aC:C≠a:=λz=>by
  rcases ha with ha|ha
  ·exact f1 (z.trans ha)
  ·exact f4 y a ha z.symm
 refine⟨m,hm.sameBut sb aC,λh' sb'=>?_⟩;exact⟨_,_,I''.turned (t':=s''.toks) (λb o hb e=>(sb'.2 b hb).trans e) f0 f1 f3 f4 f5,q⟩
end
section
variable {κ:Type}[DecidableEq κ]
noncomputable def bo(ES:List (κ×V))(k:κ):Option V:=(ES.find? λkv=>decide (kv.1=k)).map (·.2)
noncomputable def a8(ES:List (κ×V))(k:κ)(v:V):List (κ×V):=
 if(ES.any λkv=>decide (kv.1=k))=true then ES.map (λkv=>if kv.1=k then(kv.1,v) else kv) else ES++[(k,v)]
theorem iE{k:κ}:bo ([]:List (κ×V)) k=none:=rfl
theorem dm{p:κ×V}{r:List (κ×V)}{k:κ}(e:p.1=k):bo (p::r) k=some p.2:=by simp[bo,List.find?_cons,e]
theorem bi{p:κ×V}{r:List (κ×V)}{k:κ}(e:¬p.1=k):bo (p::r) k=bo r k:=by simp[bo,List.find?_cons,e]
theorem gS(k:κ):∀ES:List (κ×V),(ES.any λkv=>decide (kv.1=k))=(bo ES k).isSome
 | []=>rfl
 |p::r=>by
  rw[List.any_cons];by_cases e:p.1=k
  ·simp only[dm e,Qv e,Bool.true_or,Option.isSome_some]
  ·rw[bi e,Qi e,Bool.false_or];exact gS k r
theorem qY(k j:κ)(y:V):∀ES:List (κ×V),bo (ES.map λkv=>if kv.1=k then(kv.1,y) else kv) j=(bo ES j).map λx=>if j=k then y else x
 | []=>rfl
 |p::r=>by
  have ih:=qY k j y r;rw[List.map_cons];by_cases h:p.1=k
  ·rw[if_pos h];by_cases e:p.1=j
   ·rw[dm (p:=(p.1,y)) e,dm e,Option.map_some,if_pos (e.symm.trans h)]
   ·rw[bi (p:=(p.1,y)) e,bi e,ih]
  ·rw[if_neg h];by_cases e:p.1=j
   ·rw[dm (p:=p) e,dm e,Option.map_some,if_neg (λz=>h (e.trans z))]
   ·rw[bi (p:=p) e,bi e,ih]
theorem qZ(k j:κ)(y:V):∀ES:List (κ×V),bo ES k=none->bo (ES++[(k,y)]) j=if j=k then some y else bo ES j
 | [],_=>by
  by_cases e:k=j
  ·rw[if_pos e.symm];exact dm (p:=(k,y)) e
  ·rw[if_neg (λz=>e z.symm)];exact bi (p:=(k,y)) e
 |p::r,hn=>by
  rw[List.cons_append];have hk:¬p.1=k:=λz=>by rw[dm z] at hn;cases hn
  rw[bi hk] at hn;have ih:=qZ k j y r hn;by_cases e:p.1=j
  ·rw[dm e,dm e,if_neg (λz=>hk (e.trans z))]
  ·rw[bi e,bi e,ih]
theorem mT(ES:List (κ×V))(k j:κ)(y:V):bo (a8 ES k y) j=if j=k then some y else bo ES j:=by
 unfold a8;by_cases a:(ES.any λkv=>decide (kv.1=k))=true
 ·rw[if_pos a,qY];rw[gS] at a;by_cases e:j=k
  ·obtain⟨x,hx⟩:=Option.isSome_iff_exists.mp a;rw[if_pos e,e,hx,Option.map_some,if_pos rfl]
  ·rw[if_neg e]
   cases bo ES j with
   |none=>rfl
   |some x=>rw[Option.map_some,if_neg e]
 ·rw[if_neg a];refine qZ k j y ES ?_;rw[gS] at a
  cases q:bo ES k with
  |none=>rfl
  |some x=>rw[q] at a;exact(a rfl).elim
theorem iF(ES:List (κ×V))(k:κ)(v:V):(a8 ES k v).length<=ES.length+1:=by
 unfold a8;split
 ·rw[Qf];lia
 ·rw[Qr,QM,List.length_nil];lia
theorem iG{ES:List (κ×V)}{k:κ}(v:V)(h:bo ES k=none):a8 ES k v=ES++[(k,v)]:=by unfold a8;rw[gS,h];exact if_neg (by decide)
theorem cX.isSome_eq{o:Option V}{u:Option Value}(r:cX o u):o.isSome=u.isSome:=by
 cases o with
 |none=>cases u with
  |none=>rfl
  |some _=>exact(show False from r).elim
 |some _=>cases u with
  |none=>exact(show False from r).elim
  |some _=>rfl
theorem cX.getD{o:Option V}{u:Option Value}{d:V}{d':Value}(r:cX o u)(rd:RelV d d'):RelV (o.getD d) (u.getD d'):=by
 cases o with
 |none=>cases u with
  |none=>exact rd
  |some _=>exact(show False from r).elim
 |some _=>cases u with
  |none=>exact(show False from r).elim
  |some _=>exact r
theorem KV.val{ES:List (κ×V)}{vs:List (κ×Value)}(r:KV ES vs)(k:κ):cX (bo ES k) (valueAt vs k):=by
 unfold KV at r
 induction r with
 |nil=>exact True.intro
 | @cons p q ps qs h t ih =>
  obtain⟨h1,h2⟩:=h;by_cases e:p.1=k
  ·have e':q.1=k:=h1.symm.trans e;have b:valueAt (q::qs) k=some q.2:=by simp[valueAt,List.find?_cons,e']
   rw[dm e,b];exact h2
  ·have e':¬q.1=k:=λz=>e (h1.trans z);have b:valueAt (q::qs) k=valueAt qs k:=by simp[valueAt,List.find?_cons,e']
   rw[bi e,b];exact ih
theorem KV.any{ES:List (κ×V)}{vs:List (κ×Value)}(r:KV ES vs)(k:κ):(ES.any λkv=>decide (kv.1=k))=vs.any λkv=>decide (kv.1=k):=by
 unfold KV at r
 induction r with
 |nil=>rfl
 |cons h t ih=>rw[List.any_cons,List.any_cons,ih,h.1]
theorem KV.repl{ES:List (κ×V)}{vs:List (κ×Value)}(r:KV ES vs)(k:κ){y:V}{u:Value}(ry:RelV y u) :
  KV (ES.map λkv=>if kv.1=k then(kv.1,y) else kv) (vs.map λkv=>if kv.1=k then(kv.1,u) else kv):=by
 unfold KV at r ⊢
 induction r with
 |nil=>exact .nil
 | @cons p q ps qs h t ih =>
  rw[List.map_cons,List.map_cons];refine .cons ?_ ih;obtain⟨h1,h2⟩:=h;by_cases e:p.1=k
  ·rw[if_pos e,if_pos (h1.symm.trans e)];exact⟨h1,ry⟩
  ·rw[if_neg e,if_neg (λz=>e (h1.trans z))];exact⟨h1,h2⟩
theorem KV.put{ES:List (κ×V)}{vs:List (κ×Value)}(r:KV ES vs)(k:κ){y:V}{u:Value}(ry:RelV y u):KV (a8 ES k y) (stored vs k u):=by
 unfold a8 stored;rw[r.any k];by_cases e:(vs.any λkv=>decide (kv.1=k))=true
 ·rw[if_pos e,if_pos e];exact r.repl k ry
 ·rw[if_neg e,if_neg e];exact Paired.snoc r ⟨rfl,ry⟩
theorem KV.length{ES:List (κ×V)}{vs:List (κ×Value)}(r:KV ES vs):ES.length=vs.length:=Paired.length r
end
theorem gv{P:Program}{w:World}{k:af}{u:Value}(r:RelV (kV k) u):(bF P w).is k u=true:=by
 cases k with
 |inl i=>obtain⟨t,e⟩:=(show ∃t,u=Value.int i t from r);subst e;exact pP P w i t
 |inr x=>obtain⟨t,e⟩:=(show ∃t,u=Value.str x t from r);subst e;exact pQ P w x t
theorem zG{a b:af}(e:kV a=kV b):a=b:=by
 cases a with
 |inl i=>cases b with
  |inl j=>have e':V.int i=V.int j:=e;injection e' with e';rw[e']
  |inr y=>exact nomatch (show V.int i=V.str y from e)
 |inr x=>cases b with
  |inl j=>exact nomatch (show V.str x=V.int j from e)
  |inr y=>have e':V.str x=V.str y:=e;injection e' with e';rw[e']
theorem q5:∀{a b:List af},a.map kV=b.map kV->a=b
 | [],[],_=>rfl
 | [],_::_,e=>by simp at e
 |_::_,[],e=>by simp at e
 |x::xs,y::ys,e=>by rw[List.map_cons,List.map_cons] at e;injection e with e1 e2;rw[zG e1,q5 e2]
theorem q9{P:Program}{w:World}:∀{ks:List af} {us:List Value},aw (ks.map kV) us->ItemsAre (bF P w) ks us
 | [],_,r=>by rw[List.map_nil] at r;cases r;exact .nil
 |k::ks,_,r=>by
  rw[List.map_cons] at r
  cases r with
  |cons h t=>exact .cons (gv h) (q9 t)
abbrev KT(H:Hp):List (List af×V)->List (List af×Addr×Value)->Prop:=Paired λp q=>p.1=q.1/\H q.2.1=some (.tup (p.1.map kV))/\RelV p.2 q.2.2
theorem KT.val{H:Hp}{ES:List (List af×V)}{xs:List (List af×Addr×Value)}(r:KT H ES xs)(k:List af):cX (bo ES k) ((atKey xs k).map (·.2)):=by
 induction r with
 |nil=>exact True.intro
 | @cons p q ps qs h t ih =>
  obtain⟨h1,_,h2⟩:=h;by_cases e:p.1=k
  ·have e':q.1=k:=h1.symm.trans e;have b:atKey (q::qs) k=some q.2:=by simp[atKey,List.find?_cons,e']
   rw[dm e,b];exact h2
  ·have e':¬q.1=k:=λz=>e (h1.trans z);have b:atKey (q::qs) k=atKey qs k:=by simp[atKey,List.find?_cons,e']
   rw[bi e,b];exact ih
theorem KT.repl{H:Hp}{ES:List (List af×V)}{xs:List (List af×Addr×Value)}(r:KT H ES xs)(k:List af){y:V}{u:Value}(ry:RelV y u) :
  KT H (ES.map λkv=>if kv.1=k then(kv.1,y) else kv) (xs.map (putAt k u)):=by
 induction r with
 |nil=>exact .nil
 | @cons p q ps qs h t ih =>
  rw[List.map_cons,List.map_cons];refine .cons ?_ ih;obtain⟨h1,h2,h3⟩:=h;unfold putAt;by_cases e:p.1=k
  ·rw[if_pos e,if_pos (h1.symm.trans e)];exact⟨h1,h2,ry⟩
  ·rw[if_neg e,if_neg (λz=>e (h1.trans z))];exact⟨h1,h2,h3⟩
theorem KT.put{H:Hp}{ES:List (List af×V)}{xs:List (List af×Addr×Value)}(r:KT H ES xs)(k:List af){b:Addr}{y:V}{u:Value}(hb:H b=some (.tup (k.map kV)))(ry:RelV y u) :
  KT H (a8 ES k y) (storedH xs k b u):=by
 have e:(ES.any λkv=>decide (kv.1=k))=(atKey xs k).isSome:=by rw[gS,(r.val k).isSome_eq,Option.isSome_map]
 unfold a8 storedH;rw[e];by_cases q:(atKey xs k).isSome=true
 ·rw[if_pos q,if_pos q];exact r.repl k ry
 ·rw[if_neg q,if_neg q];exact Paired.snoc r ⟨rfl,hb,ry⟩
theorem KT.keeps{H H':Hp}{ES:List (List af×V)}{xs:List (List af×Addr×Value)}(r:KT H ES xs)(ht:∀b ys,H b=some (.tup ys)->H' b=some (.tup ys)):KT H' ES xs:=
 Paired.mapP r λ_ _ z=>⟨z.1,ht _ _ z.2.1,z.2.2⟩
section
variable {P:Program}{w:World}{H:Hp}{h:Heap}{a:Addr}
theorem re{u:HO}(ok:bG P w H h)(e:Rd H a u):bI P w H h a u:=e.ok ok
theorem jN{ES:List (af×V)}(ok:bG P w H h)(e:Rd H a (.dK ES)):ES.length<=sizeLine/\(a==sysModules)=false/\∃vs,KV ES vs/\h.DictOf (bF P w) a vs:=
 show bI P w H h a (.dK ES) from re ok e
theorem rf{ES:List (af×V)}(ok:bG P w H h)(e:H a=some (.dK ES)):ES.length<=sizeLine/\(a==sysModules)=false/\∃vs,KV ES vs/\h.DictOf (bF P w) a vs:=jN ok (.inl e)
theorem kU{ks:List af}(ok:bG P w H h)(e:H a=some (.tup (ks.map kV))):(tupleKind (bF P w)).is h ks a:=by
 obtain⟨_,its,r,⟨o,h1,h2,n,h3⟩,_⟩:=(show bI P w H h a (.tup (ks.map kV)) from ok a _ e)
 exact⟨o,its.toArray,n,h1,h2,h3,by simpa using q9 r⟩
theorem jO{ES:List (List af×V)}(ok:bG P w H h)(e:Rd H a (.dT ES)):ES.length<=sizeLine/\(a==sysModules)=false /\
  ∃xs,KT H ES xs/\h.DictOfH (tupleKind (bF P w)) a xs:=by
 obtain⟨z,y,xs,r,o,es,ep,h1,h2,h3,h4,h5⟩:=(show bI P w H h a (.dT ES) from re ok e)
 refine⟨z,y,xs,r,o,es,ep,h1,h2,h3,h4,λx hx=>?_,h5⟩
 have all:∀{l:List (List af×V)} {m:List (List af×Addr×Value)},KT H l m->∀x∈m,(tupleKind (bF P w)).is h x.1 x.2.1:=by
  intro l m q
  induction q with
  |nil=>intro x hx;exact nomatch hx
  | @cons p q ps qs hq t ih =>
   intro x hx;rcases Qn hx with e|hx
   ·subst e;exact kU ok (by rw[<-hq.1];exact hq.2.1)
   ·exact ih x hx
 exact all r x hx
theorem rh{ES:List (List af×V)}(ok:bG P w H h)(e:H a=some (.dT ES)):ES.length<=sizeLine/\(a==sysModules)=false /\
  ∃xs,KT H ES xs/\h.DictOfH (tupleKind (bF P w)) a xs:=jO ok (.inl e)
end
def bK(H:Hp)(a:Addr)(y:V)(r:Option V):Prop:=
 (∃ES k,Rd H a (.dK ES)/\y=kV k/\r=bo ES k)∨∃ES k b,Rd H a (.dT ES)/\y=.ref b/\H b=some (.tup (k.map kV))/\r=bo ES k
def cS(H:Hp)(a:Addr)(y v:V)(H':Hp):Prop:=
 (∃ES k,H a=some (.dK ES)/\y=kV k/\ES.length<sizeLine/\H'=upd H a (.dK (a8 ES k v))) ∨
 ∃ES k b,H a=some (.dT ES)/\y=.ref b/\H b=some (.tup (k.map kV))/\ES.length<sizeLine/\H'=upd H a (.dT (a8 ES k v))
theorem bK.k{H:Hp}{a:Addr}{ES:List (af×V)}{k:af}(e:H a=some (.dK ES)):bK H a (kV k) (bo ES k):=.inl ⟨ES,k,.inl e,rfl,rfl⟩
theorem bK.t{H:Hp}{a b:Addr}{ES:List (List af×V)}{k:List af}(e:H a=some (.dT ES))(eb:H b=some (.tup (k.map kV))):bK H a (.ref b) (bo ES k):=.inr ⟨ES,k,b,.inl e,rfl,eb,rfl⟩
theorem cS.k{H:Hp}{a:Addr}{ES:List (af×V)}{k:af}{v:V}(e:H a=some (.dK ES))(hl:ES.length<sizeLine):cS H a (kV k) v (upd H a (.dK (a8 ES k v))):=.inl ⟨ES,k,e,rfl,hl,rfl⟩
theorem cS.t{H:Hp}{a b:Addr}{ES:List (List af×V)}{k:List af}{v:V}(e:H a=some (.dT ES))(eb:H b=some (.tup (k.map kV)))(hl:ES.length<sizeLine) :
  cS H a (.ref b) v (upd H a (.dT (a8 ES k v))):=.inr ⟨ES,k,b,e,rfl,eb,hl,rfl⟩
section
variable {X:Cx}{EQ:List (Addr×Obj)}{σ:St}{H:Hp}{s:Shared}{a:Addr}{y v:V}{u r:Value}{o:Option V}{A:Around}{E:Value->Shared->Prop}
theorem Inv.big(I:Inv X EQ σ H s):sysModules<s.heap.objs.size:=by have h:mainGlobals<s.heap.objs.size:=(I.mod.glob.keeps I.bk).lt;exact Nat.lt_trans (by decide) h
theorem zH{Q:Value->Shared->Prop}(hu:A.units+1<cLine)(I:Inv X EQ σ H s)(g:bK H a y (some v))(ry:RelV y u)(h:∀w' s',Inv X EQ σ H s'->RelV v w'->Q w' s') :
  wpAny (model X.prog X.w) A (getItem (.ref a) u) Q E s:=by
 rcases g with ⟨ES,k,e,ey,l⟩|⟨ES,k,b,e,ey,eb,l⟩
 ·subst ey;obtain⟨z,hd,vs,Gj,dd⟩:=jN I.hok e;obtain⟨w',hw,Ig⟩:=cX.some_of (v:=v) (o:=valueAt vs k) (by rw[l];exact Gj.val k);exact wpAny_getItem_of (gv ry) dd.mapOf hw (h w' _ (I.tok _) Ig)
 ·subst ey;cases (show u=Value.ref b from ry);obtain⟨z,hd,xs,Gj,dd⟩:=jO I.hok e;obtain⟨w',hw,Ig⟩:=cX.some_of (v:=v) (o:=(atKey xs k).map (·.2)) (by rw[l];exact Gj.val k);obtain⟨p,hp,Hu⟩:=Option.map_eq_some_iff.mp hw;refine wpAny_getItem_heap (tupleKind_room_in1 hu) (kU I.hok eb) dd hp ?_;rw[Hu];exact h w' _ (I.tok _) Ig
theorem mU{h':Heap}{t':Nat}{ob:HO}(I:Inv X EQ σ H s)(mu:jx (H a))(hs:Heap.SameBut a s.heap h')(he:∃q,h'.get? a=some q)(new:bI X.prog X.w (upd H a ob) h' a ob) :
  Inv X EQ σ (upd H a ob) {s with heap:=h',toks:=t'} :=
 I.write (x:=a) (e:=a) mu (.inl rfl) (λb q hb z=>(hs.2 b hb).trans z) he new
theorem mV{P:Program}{w:World}{H':Hp}{h':Heap}{ES:List (af×V)}{vs:List (af×Value)}(z:ES.length<=sizeLine)(hd:(a==sysModules)=false)(Gj:KV ES vs)(dd:h'.DictOf (bF P w) a vs) :
  bI P w H' h' a (.dK ES):=⟨z,hd,vs,Gj,dd⟩
theorem zI{H':Hp}{Q:Unit->Shared->Prop}(hu:A.units+1<cLine)(I:Inv X EQ σ H s)(g:cS H a y v H')(ry:RelV y u)(rv:RelV v r)(h:∀s',Inv X EQ σ H' s'->Q () s') :
  wpAny (model X.prog X.w) A (setItem (.ref a) u r) Q E s:=by
 rcases g with ⟨ES,k,e,ey,l,eH⟩|⟨ES,k,b,e,ey,eb,l,eH⟩
 ·subst ey eH;obtain⟨z,hd,vs,Gj,dd⟩:=rf I.hok e;have hz:vs.length<=sizeLine:=by rw[<-Gj.length];exact z
  have hl:(a8 ES k v).length<=sizeLine:=by have:=iF ES k v;lia
  refine wpAny_setItem_pairs (hsz:=hz) (gv ry) dd λh' dd' hs=>h _ ?_;have he:∃q,h'.get? a=some q:=by obtain⟨q,_,_,hq,_⟩:=dd';exact⟨q,hq⟩
  exact mU I (by rw[e];exact True.intro) hs he (mV hl hd (Gj.put k rv) dd')
 ·subst ey eH;cases (show u=Value.ref b from ry);obtain⟨z,hd,xs,Gj,dd⟩:=rh I.hok e;have hz:xs.length<=sizeLine:=by rw[<-Paired.length Gj];exact z
  have hl:(a8 ES k v).length<=sizeLine:=by have:=iF ES k v;lia
  refine wpAny_setItem_heap (hsz:=hz) (tupleKind_room_in1 hu) (kU I.hok eb) dd λh' dd' hs=>h _ ?_;obtain⟨q,es,ep,hq,h2,h3,h4,_,h5⟩:=dd';refine mU I (by rw[e];exact True.intro) hs ⟨q,hq⟩ ⟨hl,hd,_,(Gj.put k eb rv).keeps λc ys ec=>?_,q,es,ep,hq,h2,h3,h4,h5⟩;rw[aE (xE ec e (λz=>nomatch z))];exact ec
end
def ri(i:Expr):Prop:=∀ov iv,subscripted i false ov iv=operate [ov,iv] (getItem ov iv)
theorem zJ{prog:Program}{w:World}{A:Around}{E:Value->Shared->Prop}{s:Shared}{env:Env}{value slice:Expr}{pos:Pos}{T id:String}{Q:Value->Shared->Prop}
  (hl:typeLookup (.type T) "__getitem__"=pure (some (.builtin id))) (hs:ri slice)
  (h:wpAny (model prog w) A (eval value env) (λo s₁=>wpAny (model prog w) A (eval slice env) (λi s₂=>s₂.TypeIs o T/\wpAny (model prog w) A (getItem o i) Q E s₂) E s₁) E s) :
  wpAny (model prog w) A (eval (.Subscript value slice pos) env) Q E s:=by
 refine Subscript_ (QW h (λo s₁ h₁=>QW h₁ (λi s₂ h₂=>?_) λ_ _ x=>x) λ_ _ x=>x);obtain⟨hT,h₂⟩:=h₂;unfold subscriptTail;refine Qb ?_;rw[getitemInPython_of_ne hT.not_modules];refine Qb (wpAny_specialOf hT hl ?_);have fin:wpAny (model prog w) A (subscripted slice false o i) (λr s₃=>wpAny (model prog w) A (letTemporaryGo value o r>>=λ_=>pure r) Q E s₃) E s₂:=by rw[hs o i];exact wpAny_operating (QW h₂ (λr s₃ h₃=>Qb (wpAny_letTemporaryGo (Qd h₃))) λ_ _ x=>x)
 first
  |exact Qd (Qb fin)
  |exact Qb (Qd (Qb fin))
  |exact Qb fin
theorem zK{X:Cx}{EQ:List (Addr×Obj)}{σ:St}{H:Hp}{s:Shared}{a:Addr}{y:V}{o:Option V}(I:Inv X EQ σ H s)(g:bK H a y o):s.TypeIs (.ref a) "dict":=by
 rcases g with ⟨ES,k,e,_,_⟩|⟨ES,k,b,e,_,_,_⟩
 ·obtain⟨_,_,vs,_,dd⟩:=jN I.hok e;exact dd.typeIs
 ·obtain⟨_,_,xs,_,dd⟩:=jO I.hok e;exact dd.typeIs
def zL(td ty:TE):TE:=λσ H Q=>td σ H λx H1=>ty σ H1 λy H2=>∃a v,x=.ref a/\bK H2 a y (some v)/\Q v H2
def zM(td ty tv:TE):TS:=λD σ H=>tv σ H λv H1=>td σ H1 λx H2=>ty σ H2 λy H3=>∃a H4,x=.ref a/\cS H3 a y v H4/\D.nx σ H4
section
variable {X:Cx}{o i e value:Expr}{pos F3 tpos:Pos}{td ty tv:TE}
theorem dr(hu:X.A.units+1<cLine)(ho:PE X o td)(hi:PE X i ty)(hs:ri i):PE X (.Subscript o i pos) (zL td ty):=by intro EQ s σ H Q I h;refine zJ PySem.F.slot_dict_getitem.lookup hs (aA (ho EQ s σ H _ I h) λu s1 ⟨x,H1,I1,rx,q1⟩=>aA (hi EQ s1 σ H1 _ I1 q1) λiv s2 hsl51=>?_);obtain⟨y,H2,I2,ry,a,v,ex,g,q2⟩:=hsl51;subst ex;obtain rfl:u=Value.ref a:=rx;exact⟨zK I2 g,zH hu I2 g ry λw' s3 I3 Ig=>⟨v,H2,I3,Ig,q2⟩⟩
theorem gT(hu:X.A.units+1<cLine)(ho:PE X o td)(hi:PE X i ty)(hv:PE X value tv)(hs:swapsWith value (some (.Subscript o i F3)) pos.line X.env=pure false) :
  PS X (.Assign [.Subscript o i F3] value pos) (zM td ty tv):=by
 intro EQ s σ H D I h;refine wpAny_Assign_Subscript (aA (hv EQ s σ H _ I h) λr s1 ⟨v,H1,I1,rv,q1⟩=>aA (ho EQ s1 σ H1 _ I1 q1) λu s2 ⟨x,H2,I2,rx,q2⟩=>aA (hi EQ s2 σ H2 _ I2 q2) λiv s3 hsl52=>?_) hs;obtain⟨y,H3,I3,ry,a,H4,ex,g,q3⟩:=hsl52;subst ex;obtain rfl:u=Value.ref a:=rx
 exact zI hu I3 g ry rv λs4 I4=>⟨σ,H4,I4,q3⟩
end
theorem rl{P:Program}{w:World}{H:Hp}(h:Heap)(hb:sysModules<h.objs.size):bI P w H (h.push {cls:=.type "dict",data:=.dict #[]}) h.objs.size (.dK []):=
 ⟨QC _,beq_eq_false_iff_ne.mpr (Ne.symm (QF hb)),[],.nil,Heap.DictOf.new h⟩
theorem zN{P:Program}{w:World}{H:Hp}(h:Heap)(hb:sysModules<h.objs.size):bI P w H (h.push {cls:=.type "dict",data:=.dict #[]}) h.objs.size (.dT []):=
 ⟨QC _,beq_eq_false_iff_ne.mpr (Ne.symm (QF hb)),[],.nil,_,#[],0,Qu _ rfl,⟨rfl,rfl,rfl⟩,rfl,rfl,List.nodup_nil⟩
def zO:TE:=λ_ H Q=>∀p,H p=none->Q (.ref p) (upd H p (.dK []))
def zP:TE:=λ_ H Q=>∀p,H p=none->Q (.ref p) (upd H p (.dT []))
section
variable {X:Cx}{pos:Pos}
theorem rm:PE X (.Dict [] [] pos) zO:=λEQ s σ H Q I h =>
 wpAny_Dict_empty ⟨.ref s.heap.objs.size,_,I.laid (a:=s.heap.objs.size) (o:=.dK []) (t':=s.toks) (λ_ _ q=>Qe _ q) (Qh _) (rl s.heap I.big),rfl,h _ (I.hok.fresh (Qh _))⟩
theorem rn:PE X (.Dict [] [] pos) zP:=λEQ s σ H Q I h =>
 wpAny_Dict_empty ⟨.ref s.heap.objs.size,_,I.laid (a:=s.heap.objs.size) (o:=.dT []) (t':=s.toks) (λ_ _ q=>Qe _ q) (Qh _) (zN s.heap I.big),rfl,h _ (I.hok.fresh (Qh _))⟩
end
def mW:List (TE×TE)->St->Hp->(List (V×V)->Hp->Prop)->Prop
 | [],_,H,Q=>Q [] H
 |(tk,tv)::r,σ,H,Q=>tk σ H λx H1=>tv σ H1 λy H2=>mW r σ H2 λps H3=>Q ((x,y)::ps) H3
abbrev VV:List (V×V)->List (Value×Value)->Prop:=Paired λp q=>RelV p.1 q.1/\RelV p.2 q.2
def kW(X:Cx)(pos:Pos)(Gc:List (Option Expr))(Ge:List Expr)(trs:List (TE×TE)):Prop:=
 ∀(EQ:List (Addr×Obj)) (s:Shared) (σ:St) (H:Hp) (Q:List (V×V)->Hp->Prop),Inv X EQ σ H s->mW trs σ H Q ->
  wpAny (model X.prog X.w) X.A (evalPairs (pairTrees Gc Ge X.env pos)) (λvs s'=>∃ps H',Inv X EQ σ H' s'/\VV ps vs/\Q ps H') X.xe s
theorem zQ{X:Cx}{pos:Pos}:kW X pos [] [] []:=λEQ s σ H Q I h=>pairTrees_nil_walk ⟨[],H,I,.nil,h⟩
theorem iH{X:Cx}{pos:Pos}{k v:Expr}{ks:List (Option Expr)}{vs:List Expr}{tk tv:TE}{trs:List (TE×TE)}(hk:PE X k tk)(hv:PE X v tv)(hr:kW X pos ks vs trs) :
  kW X pos (some k::ks) (v::vs) ((tk,tv)::trs):=λEQ s σ H Q I h =>
 pairTrees_cons_walk (aA (hk EQ s σ H _ I h) λu s1 ⟨x,H1,I1,rx,q1⟩=>aA (hv EQ s1 σ H1 _ I1 q1) λw2 s2 ⟨y,H2,I2,ry,q2⟩ =>
  aA (hr EQ s2 σ H2 _ I2 q2) λws s3 hsl53=>by obtain⟨ps,H3,I3,Gj,q3⟩:=hsl53;exact⟨(x,y)::ps,H3,I3,.cons ⟨rx,ry⟩ Gj,q3⟩)
noncomputable def iI(ES more:List (af×V)):List (af×V):=more.foldl (λFa kv=>a8 Fa kv.1 kv.2) ES
theorem KV.merge:∀{more:List (af×V)} {rs:List (af×Value)} {ES:List (af×V)} {vs:List (af×Value)},KV more rs->KV ES vs->KV (iI ES more) (merged vs rs):=by
 intro more rs ES vs r;unfold KV at r
 induction r generalizing ES vs with
 |nil=>intro q;exact q
 | @cons p q ps qs h t ih =>
  intro r0;have e:KV (a8 ES p.1 p.2) (stored vs q.1 q.2):=by have:=r0.put p.1 h.2;rw[<-h.1];exact this
  exact ih e
theorem ro:∀(more ES:List (af×V)),(iI ES more).length<=ES.length+more.length
 | [],ES=>by show ES.length<=ES.length+0;lia
 |p::r,ES=>by have h1:=ro r (a8 ES p.1 p.2);have h2:=iF ES p.1 p.2;show(iI (a8 ES p.1 p.2) r).length<=_;rw[QM];lia
theorem rp{P:Program}{w:World}:∀{ES:List (af×V)} {ws:List (Value×Value)},VV (ES.map λkv=>(kV kv.1,kv.2)) ws->∃rs,Carries (bF P w) ws rs/\KV ES rs
 | [],_,r=>by rw[List.map_nil] at r;cases r;exact⟨[],True.intro,.nil⟩
 |p::ES,_,r=>by
  rw[List.map_cons] at r
  cases r with
  | @cons a b as bs h t =>
   obtain⟨rs,c,q⟩:=rp (P:=P) (w:=w) t;obtain⟨b1,b2⟩:=b;exact⟨(p.1,b2)::rs,⟨gv h.1,rfl,c⟩,.cons ⟨rfl,h.2⟩ q⟩
def zR(trs:List (TE×TE)):TE:=λσ H Q=>∀p,H p=none->mW trs σ (upd H p (.dK [])) λps H2=>H2 p=some (.dK [])/\∃ES:List (af×V),ps=ES.map (λkv=>(kV kv.1,kv.2))/\ES.length<=15/\Q (.ref p) (upd H2 p (.dK (iI [] ES)))
theorem zS{X:Cx}{pos:Pos}{Gc:List (Option Expr)}{Ge:List Expr}{trs:List (TE×TE)}(h:kW X pos Gc Ge trs)(Gd:Gc.all (·.isSome)=true)(hl:Gc.length=Ge.length)(h0:Gc≠[])
  (h15:Gc.length<=15):PE X (.Dict Gc Ge pos) (zR trs):=by
 intro EQ s σ H Q I q;have hn:=I.hok.fresh (Qh s.heap.objs.size);have I1:=I.laid (a:=s.heap.objs.size) (o:=.dK []) (h':=s.heap.push {cls:=.type "dict",data:=.dict #[]}) (t':=s.toks) (λ_ _ q=>Qe _ q) (Qh _) (rl s.heap I.big);refine wpAny_Dict_walk (knd:=bF X.prog X.w) Gd hl h0 h15 (aA (h EQ _ σ _ _ I1 (q _ hn)) λws s2 hsl54=>?_);obtain⟨ps,H2,I2,Gj,e,ES,ep,lk,q2⟩:=hsl54;subst ep;obtain⟨rs,c,rk⟩:=rp (P:=X.prog) (w:=X.w) Gj;obtain⟨z,hd,vs0,r0,dd⟩:=rf I2.hok e;cases r0;refine⟨rs,c,dd,λh' dd' hs=>⟨.ref s.heap.objs.size,_,?_,rfl,q2⟩⟩;have hz:(iI [] ES).length<=sizeLine:=by have h1:=ro ES [];rw[List.length_nil] at h1;rw[sizeLine_eq];lia
 have he:∃q,h'.get? s.heap.objs.size=some q:=by obtain⟨q,_,_,hq,_⟩:=dd';exact⟨q,hq⟩
 exact mU I2 (by rw[e];exact True.intro) hs he (mV hz hd (rk.merge .nil) dd')
structure M2(X:Cx)(o:Expr)(m:Str)(apos:Pos)(e f:Expr)(Fl:Pos):Prop where
 base:attributeBase o m X.env (eval o X.env)=eval o X.env
 few:((backTo Fl (starEach [e,f] X.env)).all (λx=>!x.1)&&(backToKw Fl (keywordEach [] X.env)).all (λx=>x.1.isSome)
  && decide (([e,f]:List Expr).length+([]:List Keyword).length+(if([]:List Keyword).isEmpty then 0 else 1)<30))=true
 line:(apos.endLine==Fl.line)=true
 trees:backTo Fl (starEach [e,f] X.env)=[(false,eval e X.env),(false,eval f X.env)]
def mX(H:Hp)(a:Addr):Prop:=(∃ES,Rd H a (.dK ES))∨∃ES,Rd H a (.dT ES)
theorem zT{X:Cx}{EQ:List (Addr×Obj)}{σ:St}{H:Hp}{s:Shared}{a:Addr}(I:Inv X EQ σ H s)(d:mX H a) :
  s.TypeIs (.ref a) "dict"/\(∀b,Value.ref a=.ref b->∃ob,s.heap.get? b=some ob/\ob.dict=none)/\(a==sysModules)=false:=by
 rcases d with ⟨ES,e⟩|⟨ES,e⟩
 ·obtain⟨_,hd,vs,_,dd⟩:=jN I.hok e;refine⟨dd.typeIs,λb q=>?_,hd⟩;cases q;obtain⟨ob,_,_,h1,h2,_⟩:=dd;exact⟨ob,h1,h2.2.1⟩
 ·obtain⟨_,hd,xs,_,dd⟩:=jO I.hok e;refine⟨dd.typeIs,λb q=>?_,hd⟩;cases q;obtain⟨ob,_,_,h1,h2,_⟩:=dd;exact⟨ob,h1,h2.2.1⟩
section
variable {X:Cx}{EQ:List (Addr×Obj)}{σ:St}{H:Hp}{s:Shared}{a:Addr}{y d:V}{u r:Value}{o:Option V}{A:Around}{E:Value->Shared->Prop}
theorem zU{Q:Value->Shared->Prop}(hu:A.units+1<cLine)(I:Inv X EQ σ H s)(g:bK H a y o)(ry:RelV y u)(rd:RelV d r)(h:∀w' s',Inv X EQ σ H s'->RelV (o.getD d) w'->Q w' s') :
  wpAny (model X.prog X.w) A (call (.builtin "dict.get") [.ref a,u,r]) Q E s:=by
 rcases g with ⟨ES,k,e,ey,l⟩|⟨ES,k,b,e,ey,eb,l⟩
 ·subst ey;obtain⟨z,hd,vs,Gj,dd⟩:=jN I.hok e;refine call_meetsIn PySem.F.slot_dict_get dd.typeIs PySem.F.entry_dict_get (PySem.F.args_dict_get_3 _ _ _) (meets_dict_get_default (bF X.prog X.w) a (gv ry) hd r) ⟨_,dd.mapOf,h _ _ (I.tok _) ?_⟩;rw[l];exact(Gj.val k).getD rd
 ·subst ey;cases (show u=Value.ref b from ry);obtain⟨z,hd,xs,Gj,dd⟩:=jO I.hok e;refine call_meetsIn PySem.F.slot_dict_get dd.typeIs PySem.F.entry_dict_get (PySem.F.args_dict_get_3 _ _ _) (meetsH_dict_get_default (tupleKind (bF X.prog X.w)) a b hd r) ⟨tupleKind_room_in1 hu,k,xs,kU I.hok eb,dd,h _ _ (I.tok _) ?_⟩;rw[l];exact(Gj.val k).getD rd
end
def zV(td ty tx:TE):TE:=λσ H Q=>td σ H λx H1=>∃a,x=.ref a/\mX H1 a/\ty σ H1 λy H2=>tx σ H2 λz H3=>∃o,bK H3 a y o/\Q (o.getD z) H3
section
variable {X:Cx}{o e f:Expr}{apos Fl:Pos}{td ty tx:TE}
theorem iJ(hu:X.A.units+1<cLine)(ho:PE X o td)(he:PE X e ty)(hf:PE X f tx)(m:M2 X o "get" apos e f Fl):PE X (.Call (.Attribute o "get" apos) [e,f] [] Fl) (zV td ty tx):=by
 intro EQ s σ H Q I h;refine wpAny_Call_method m.base m.few m.line PySem.F.plainAttrs_dict PySem.F.slot_dict_get PySem.F.type_dict_get (aA (ho EQ s σ H _ I h) λu s1 hsl55=>?_);obtain⟨x,H1,I1,rx,a,ex,d,q1⟩:=hsl55;subst ex;obtain rfl:u=Value.ref a:=rx;obtain⟨t1,t2,_⟩:=zT I1 d;refine⟨t1,t2,?_⟩;rw[m.trees]
 refine Calls.callWith_builtin rfl (Calls.evalArgs_plain (Calls.spliced_cons (aA (he EQ s1 σ H1 _ I1 q1) λiv s2 ⟨y,H2,I2,ry,q2⟩ =>
  Calls.spliced_cons (aA (hf EQ s2 σ H2 _ I2 q2) λfv s3 ⟨z,H3,I3,rz,ov,g,q3⟩=>Calls.spliced_nil ?_))))
 exact zU hu I3 g ry rz λw' s4 I4 Ig=>⟨_,H3,I4,Ig,q3⟩
end
end L2
namespace Mm
open PySem L2
theorem jP:bootBuiltins "tuple"=some (.type "tuple"):=by decide +kernel
theorem jQ{js:List Nat}{tt:TT}{te:TE}{K:PySem.W.Frag}{a:Addr}{xs:List V}{σ:St}{H:Hp}{Q:VK}(Pv:Nat->List V->Hp->Prop)(h0:Pv 0 [] H)(hl:∀i ys H,i<=xs.length->Pv i ys H->aq K H a xs)
  (hs:∀i x ys H,xs[i]?=some x->Pv i ys H->tt (some x::bx js σ) H λb H2=>if b=true then te (some x::bx js σ) H2 λy H3=>ys.length<sizeLine/\Pv (i+1) (ys++[y]) H3 else Pv (i+1) ys H2)
  (hd:∀ys H,Pv xs.length ys H->∀p,H p=none->Q (.ref p) (upd H p (.lst ys))) :
  gQ (eX K a) js tt te σ H Q:=by
 refine⟨λi m ys H=>m=xs.length-i/\i<=xs.length/\Pv i ys H,⟨xs.length,by simp,QC _,h0⟩,?_⟩;rintro i m ys H ⟨rfl,hi,p⟩;have q:=hl i ys H hi p;by_cases EX:i<xs.length
 ·refine .inr ⟨⟨xs,xs[i],q,by simp[EX]⟩,Pv (i+1),λGn H' p'=>⟨xs.length-(i+1),by omega,rfl,EX,p'⟩,λx H' y=>?_⟩;obtain⟨e,y⟩:=y;subst e;exact hs i x ys _ (y xs q) p
 ·have e:i=xs.length:=by omega
  subst e;exact .inl ⟨⟨xs,q,Qh _⟩,hd ys H p⟩
theorem mY{v:V}{i:Nat}{b:TS}{D:cK}{σ:St}{H:Hp}(h:b D (σ.set i (some v)) H):iw (jA (tC v) (aR i)) b D σ H:=h
theorem dY{c:TT}{t u b:TS}{D:cK}{σ:St}{H:Hp}(P:St->Hp->Prop)(h1:∀R:St->Hp->Prop,(∀σ' H',P σ' H'->R σ' H')->gI c t u {D with nx:=R} σ H)(h2:∀σ' H',P σ' H'->b D σ' H'):iw (gI c t u) b D σ H:=h1 (b D) h2
theorem eZ{wi:TI}{g:TG}{tb b:TS}{D:cK}{σ:St}{H:Hp}(P:St->Hp->Prop)(h1:∀R:St->Hp->Prop,(∀σ' H',P σ' H'->R σ' H')->mv wi g tb {D with nx:=R} σ H)(h2:∀σ' H',P σ' H'->b D σ' H'):iw (mv wi g tb) b D σ H:=h1 (b D) h2
theorem zW{c:TT}{tb b:TS}{D:cK}{σ:St}{H:Hp}(P:St->Hp->Prop)(h1:∀R:St->Hp->Prop,(∀σ' H',P σ' H'->R σ' H')->ms c tb {D with nx:=R} σ H)(h2:∀σ' H',P σ' H'->b D σ' H'):iw (ms c tb) b D σ H:=h1 (b D) h2
end Mm
namespace L2
open PySem PySem.Spec PyProof.Rows
section
variable {k:Nat}{js:List Nat}{g:TG}{tt:TT}{te:TE}
theorem kY{K:PySem.W.Frag}{a:Addr}{xs:List V}{σ:St}{H:Hp}{Q:VK}(Pv:Nat->List V->Hp->Prop)(h0:Pv 0 [] H)(hl:∀i ys H,i<=xs.length->Pv i ys H->ak K H a xs)
  (hs:∀i x ys H,xs[i]?=some x->Pv i ys H->kT k js g tt te σ ys (Pv (i+1)) x H)
  (hd:∀ys H,Pv xs.length ys H->∀p,H p=none->Q (.ref p) (upd H p (.lst ys))):mR (eW K a) k js g tt te σ H Q:=by
 refine⟨λi m ys H=>m=xs.length-i/\i<=xs.length/\Pv i ys H,⟨xs.length,by simp,QC _,h0⟩,?_⟩;rintro i m ys H ⟨rfl,hi,p⟩;have q:=hl i ys H hi p;by_cases EX:i<xs.length
 ·refine .inr ⟨⟨xs,xs[i],q,by simp[EX]⟩,Pv (i+1),λGn H' p'=>⟨xs.length-(i+1),by lia,rfl,EX,p'⟩,λx H' y=>?_⟩;obtain⟨e,y⟩:=y;subst e;exact hs i x ys _ (y xs q) p
 ·have e:i=xs.length:=by lia
  subst e;exact .inl ⟨⟨xs,q,Qh _⟩,hd ys H p⟩
end
section
variable {prog:Program}{w:World}{A:Around}{E:Value->Shared->Prop}{s:Shared}
def iK(l:Bool)(h:Heap)(b:Addr)(ys:Array Value):Prop:=∃o,h.get? b=some o/\o.cls=.type (bif l then "list" else "tuple")/\∃n,o.data=.seq ys n
def zX(l:Bool)(h:Heap)(d b:Addr)(k:Nat):Prop:=∃o,h.get? d=some o/\o.cls=.type (bif l then "list_iterator" else "tuple_iterator")/\o.data=.fields #[.ref b,.int k 0]
noncomputable abbrev zY(l:Bool)(t:Addr):Obj:={cls:=.type (bif l then "list_iterator" else "tuple_iterator"),data:=.fields #[.ref t,.int 0 0]}
end
theorem zZ:typeLookup (.type "list") "keys"=pure none:=by rw[typeLookup_type,builtinLookup_eq_fast];kernel_rfl
theorem z0:typeLookup (.type "list") "__getattr__"=pure none:=by rw[typeLookup_type,builtinLookup_eq_fast];kernel_rfl
section
variable {prog:Program}{w:World}{A:Around}{E:Value->Shared->Prop}{h:Heap}{g:Array GenState}{d:Drawn}{t:Nat}{os:OsState}{a:Addr}{its:Array Value}{nn:Nat}{sl:Array (Option Value)}
noncomputable abbrev kZ(its:Array Value)(nn:Nat)(sl:Array (Option Value)):Obj:={cls:=.type "list",dict:=none,data:=.seq its nn,slots:=sl}
theorem z4{tk:Tok}{Q:Fin->Shared->Prop}(hx:h.get? a=some (kZ its nn sl))(hh:A.handled=none)
  (hq:∀hp tk e,Heap.NewAttrErr h hp e (.ref a) "keys"->E (.ref e) ⟨hp,g,d,tk,os⟩):wpAny (model prog w) A (Builtin.«object.__getattribute__» ⟨[.ref a,.str "keys" tk],[]⟩) Q E ⟨h,g,d,t,os⟩:=by
 have hT:(⟨h,g,d,t,os⟩:Shared).TypeIs (.ref a) "list":=⟨_,hx,rfl⟩
 have f4:=zZ
 repeat (any_goals (first|assumption|wp_step))
 exact wpAny_raiseAttrError hh hq (attrMsg_fits (by decide +kernel) (by decide +kernel))
theorem z5{tk:Tok}{R:Result->Shared->Prop}(hx:h.get? a=some (kZ its nn sl))(hh:A.handled=none)(hq:∀hp tk e,Heap.NewAttrErr h hp e (.ref a) "keys"->R (.error (.ref e)) ⟨hp,g,d,tk,os⟩) :
  codeAny (model prog w) A (.call (.builtin "list.__getattribute__") ⟨[.ref a,.str "keys" tk],[]⟩) R ⟨h,g,d,t,os⟩:=by
 refine codeAny_call_builtin F.slot_list_getattribute.plain F.entry_list_ga (F.slot_list_getattribute.check _ _ _ _ _ _ _ _ (show(⟨h,g,d,t,os⟩:Shared).TypeIs (.ref a) "list" from⟨_,hx,rfl⟩) (F.args_list_getattribute_2 _ _) (z4 hx (by simpa using hh) hq))
theorem z6{tk:Tok}{Q:Value->Shared->Prop}(hx:h.get? a=some (kZ its nn sl))(hh:A.handled=none)(hq:∀hp tk e,Heap.NewAttrErr h hp e (.ref a) "keys"->E (.ref e) ⟨hp,g,d,tk,os⟩) :
  wpAny (model prog w) A (getAttrBy (.ref a) (.str "keys" tk) false) Q E ⟨h,g,d,t,os⟩:=by
 have hT:(⟨h,g,d,t,os⟩:Shared).TypeIs (.ref a) "list":=⟨_,hx,rfl⟩
 have f1:=sub_AttributeError;have f2:=F.slot_list_getattribute.lookup;have f3:=F.slot_list_getattribute.bind (.ref a);have f5:=z0;unfold getAttrBy
 repeat (any_goals (first|assumption|wp_step))
 refine z5 hx hh λhp Iz e hn=>?_;obtain⟨t',u',he⟩:=hn.there;show wpAny _ _ (getattributeRaised _ _ _ _ _ _ _) _ _ _;unfold getattributeRaised
 repeat (any_goals (first|assumption|wp_step))
 exact hq _ _ _ hn
theorem z7{Q:Option Value->Shared->Prop}(hx:h.get? a=some (kZ its nn sl))(hh:A.handled=none)(hq:∀hp tk e,Heap.NewAttrErr h hp e (.ref a) "keys"->Q none ⟨hp,g,d,tk,os⟩) :
  wpAny (model prog w) A (getAttr? (.ref a) "keys") Q E ⟨h,g,d,t,os⟩:=by
 unfold getAttr? getAttrBy?;refine Qb (wpAny_mkText (Qb (wpAny_attempt (z6 hx hh λhp Iz e hn=>?_))));obtain⟨t',u',he⟩:=hn.there;have f1:=sub_AttributeError
 repeat (any_goals (first|assumption|wp_step))
 exact hq _ _ _ hn
end
theorem z8:typeLookup (.type "tuple") "keys"=pure none:=by rw[typeLookup_type,builtinLookup_eq_fast];kernel_rfl
theorem z9:typeLookup (.type "tuple") "__getattr__"=pure none:=by rw[typeLookup_type,builtinLookup_eq_fast];kernel_rfl
section
variable {prog:Program}{w:World}{A:Around}{E:Value->Shared->Prop}{h:Heap}{g:Array GenState}{d:Drawn}{t:Nat}{os:OsState}{a:Addr}{its:Array Value}{nn:Nat}{sl:Array (Option Value)}
noncomputable abbrev k4(its:Array Value)(nn:Nat)(sl:Array (Option Value)):Obj:={cls:=.type "tuple",dict:=none,data:=.seq its nn,slots:=sl}
theorem Aa{tk:Tok}{Q:Fin->Shared->Prop}(hx:h.get? a=some (k4 its nn sl))(hh:A.handled=none)
  (hq:∀hp tk e,Heap.NewAttrErr h hp e (.ref a) "keys"->E (.ref e) ⟨hp,g,d,tk,os⟩):wpAny (model prog w) A (Builtin.«object.__getattribute__» ⟨[.ref a,.str "keys" tk],[]⟩) Q E ⟨h,g,d,t,os⟩:=by
 have hT:(⟨h,g,d,t,os⟩:Shared).TypeIs (.ref a) "tuple":=⟨_,hx,rfl⟩
 have f4:=z8
 repeat (any_goals (first|assumption|wp_step))
 exact wpAny_raiseAttrError hh hq (attrMsg_fits (by decide +kernel) (by decide +kernel))
theorem Ab{tk:Tok}{R:Result->Shared->Prop}(hx:h.get? a=some (k4 its nn sl))(hh:A.handled=none)(hq:∀hp tk e,Heap.NewAttrErr h hp e (.ref a) "keys"->R (.error (.ref e)) ⟨hp,g,d,tk,os⟩) :
  codeAny (model prog w) A (.call (.builtin "tuple.__getattribute__") ⟨[.ref a,.str "keys" tk],[]⟩) R ⟨h,g,d,t,os⟩:=by
 refine codeAny_call_builtin F.slot_tuple_getattribute.plain F.entry_tuple_ga (F.slot_tuple_getattribute.check _ _ _ _ _ _ _ _ (show(⟨h,g,d,t,os⟩:Shared).TypeIs (.ref a) "tuple" from⟨_,hx,rfl⟩) (F.args_tuple_getattribute_2 _ _) (Aa hx (by simpa using hh) hq))
theorem Ac{tk:Tok}{Q:Value->Shared->Prop}(hx:h.get? a=some (k4 its nn sl))(hh:A.handled=none)(hq:∀hp tk e,Heap.NewAttrErr h hp e (.ref a) "keys"->E (.ref e) ⟨hp,g,d,tk,os⟩) :
  wpAny (model prog w) A (getAttrBy (.ref a) (.str "keys" tk) false) Q E ⟨h,g,d,t,os⟩:=by
 have hT:(⟨h,g,d,t,os⟩:Shared).TypeIs (.ref a) "tuple":=⟨_,hx,rfl⟩
 have f1:=sub_AttributeError;have f2:=F.slot_tuple_getattribute.lookup;have f3:=F.slot_tuple_getattribute.bind (.ref a);have f5:=z9;unfold getAttrBy
 repeat (any_goals (first|assumption|wp_step))
 refine Ab hx hh λhp Iz e hn=>?_;obtain⟨t',u',he⟩:=hn.there;show wpAny _ _ (getattributeRaised _ _ _ _ _ _ _) _ _ _;unfold getattributeRaised
 repeat (any_goals (first|assumption|wp_step))
 exact hq _ _ _ hn
theorem Ad{Q:Option Value->Shared->Prop}(hx:h.get? a=some (k4 its nn sl))(hh:A.handled=none)(hq:∀hp tk e,Heap.NewAttrErr h hp e (.ref a) "keys"->Q none ⟨hp,g,d,tk,os⟩) :
  wpAny (model prog w) A (getAttr? (.ref a) "keys") Q E ⟨h,g,d,t,os⟩:=by
 unfold getAttr? getAttrBy?;refine Qb (wpAny_mkText (Qb (wpAny_attempt (Ac hx hh λhp Iz e hn=>?_))));obtain⟨t',u',he⟩:=hn.there;have f1:=sub_AttributeError
 repeat (any_goals (first|assumption|wp_step))
 exact hq _ _ _ hn
end
theorem rq:entryFor table "dict.update.loop"=some Builtin.«dict.update.loop»:=entryFor_of_tree (by kernel_rfl)
theorem k5:plainId "dict.update.loop"=true:=by decide +kernel
noncomputable def e7(ps:List (af×Value)):List (af×Value):=ps.foldl (λq p=>stored q p.1 p.2) []
theorem Ae(ps:List (af×Value))(p:af×Value):e7 (ps++[p])=stored (e7 ps) p.1 p.2:=by unfold e7;rw[List.foldl_append];rfl
section
variable {prog:Program}{w:World}{A:Around}{E:Value->Shared->Prop}{s:Shared}{R:Result->Shared->Prop}{I:Addr}{fp wr:List Addr}{G:Array GenState->Array GenState->Prop}{n:Nat}{P:Nat->Value->Prop}{St:Nat->Shared->Prop}
theorem Af(W:WalksS prog w A.in1 I fp wr G n P St)(S:Addr)(hSf:S∉fp)(ps:List (af×Value))(hn:ps.length=n)(tp:Nat->Addr)(kyv:Nat->Value)(hky:∀i p,ps[i]?=some p->(bF prog w).is p.1 (kyv i)=true)
  (G9:∀i v,P i v->v=.ref (tp i)) (hw:∀i,tp i∉wr/\tp i≠S) (hsz:∀i,(e7 (ps.take i)).length<=sizeLine) :
  ∀(k i:Nat) (j:Tok) (s:Shared),n-i=k->i<=n->St i s->s.heap.DictOf (bF prog w) S (e7 (ps.take i))->(∀i p,ps[i]?=some p->s.heap.IsTuple (tp i) #[kyv i,p.2]) ->
   (∀s',Moved (S::wr) G s s'->s'.heap.DictOf (bF prog w) S (e7 ps)->R (.ok (.ret .none)) s') ->
   codeAny (model prog w) A (.builtin "dict.update.loop" ⟨[.ref S,.ref I,.int i j,.none],[]⟩) R s:=by
 have hSw:S∉wr:=λh=>hSf (W.sub _ h);have HH:∀b∈wr,b∈S::wr:=λb hb=>QA _ hb;have dk:∀{s s':Shared} {q},Moved wr G s s'->s.heap.DictOf (bF prog w) S q->s'.heap.DictOf (bF prog w) S q:=λhm hD=>by obtain⟨o,es,ep,ho,ET⟩:=hD;exact⟨o,es,ep,hm.heap S _ hSw ho,ET⟩
 intro k
 induction k with
 |zero =>
  intro i j s hk hi hst hS hT hR;have hin:i=n:=by lia
  subst hin;refine codeAny_builtin rq ?_;rw[Around.under_plainId k5 _];show wpAny _ A.in1 (pyNext (.ref I)>>=_) _ _ s;refine Qb (W.done s _ _ hst λs' hm=>?_);show wpAny _ _ (Builtin.Dict.addKeywords S []>>=_) _ _ _;refine Qb (Qd (Qd (hR s' (hm.mono HH) ?_)));rw[QD (by lia)] at hS;exact dk hm hS
 |succ k ih =>
  intro i j s hk hi hst hS hT hR;have EX:i<n:=by lia
  have Il:i<ps.length:=by lia
  refine codeAny_builtin rq ?_;rw[Around.under_plainId k5 _];show wpAny _ A.in1 (pyNext (.ref I)>>=_) _ _ s;refine Qb (W.item i s _ _ EX hst λv s' hP Gs hm=>?_);obtain rfl:=G9 i v hP;have hT1:∀i p,ps[i]?=some p->s'.heap.IsTuple (tp i) #[kyv i,p.2]:=λi p h=>(hT i p h).at λo r=>hm.heap _ o (hw i).1 r;have hti:=hT1 i ps[i] (Qa Il);have hky:=hky i ps[i] (Qa Il);refine Qb (wpAny_holding (Qb (wpAny_tryCatch ?_)));unfold Builtin.Dict.pairItems;refine Qb (wpAny_typeOf hti.typeIs ?_);obtain⟨ot,h1,h2,nt,h3⟩:=id hti;rw[if_pos (by decide)];refine Qb (wpAny_seqItems h1 h3 (Qd ?_));show wpAny _ _ (holding [kyv i,ps[i].2] (dictSet S (kyv i) ps[i].2)) _ _ _;refine wpAny_holding (wpAny_dictSet_pairs (hsz:=hsz i) hky (dk hm hS) λh' dd hs=>?_);rw[<-Ae,<-Qm Il] at dd;refine Qd ⟨plainId_quiet k5 _,ih (i+1) _ _ (by lia) EX (W.frame _ s' _ _ Gs (Nat.le_succ _) λb hb o e=>?_) dd (λi p h=>(hT1 i p h).at λo r=>?_) λs2 hm2 HE=>?_⟩
  ·rw[hs.2 b (λh:b=S=>hSf (by rw[<-h];exact hb))];exact e
  ·exact(hs.2 _ (hw i).2).trans r
  ·refine hR s2 (Moved.trans W.gtrans ((hm.mono HH).then_heap (Nat.le_succ _) λb o hb e=>?_) hm2) HE;rw[hs.2 b (λh:b=S=>hb (by rw[h];exact QH))];exact e
end
theorem iK.at{l:Bool}{h h':Heap}{b:Addr}{ys:Array Value}(p:iK l h b ys)(e:∀o,h.get? b=some o->h'.get? b=some o):iK l h' b ys:=
 let ⟨o,q,r⟩:=p;⟨o,e o q,r⟩
theorem Ag{prog:Program}{w:World}{A:Around}{E:Value->Shared->Prop}{s:Shared}{l:Bool}{a:Addr}{its:Array Value}{Q:Value->Shared->Prop}(h:iK l s.heap a its)(hq:Q (.ref s.heap.objs.size) {s with heap:=s.heap.push (zY l a)}):wpAny (model prog w) A (pyIter (.ref a)) Q E s:=by
 cases l
 ·exact wpAny_pyIter_tuple h hq
 ·exact wpAny_pyIter_list h hq
theorem Ah(l:Bool){prog:Program}{w:World}{A:Around}(hh:A.handled=none)(I ax:Addr)(EW:ax≠I)(items:Array Value) :
  Walks prog w A I [I,ax] [I] items.size (λi v=>items[i]?=some v) (λi h=>zX l h I ax i/\iK l h ax items):=by
 cases l
 ·exact .tuple hh I ax EW items
 ·exact .list hh I ax EW items
section
variable {prog:Program}{w:World}{A:Around}{E:Value->Shared->Prop}{s:Shared}
noncomputable abbrev mZ(l:Bool)(its:Array Value)(nn:Nat)(sl:Array (Option Value)):Obj:={cls:=.type (bif l then "list" else "tuple"),dict:=none,data:=.seq its nn,slots:=sl}
noncomputable abbrev iL:Obj:={cls:=.type "dict",data:=.dict #[]}
theorem Ai{c:Bool}{l:Addr}{items:Array Value}{nn:Nat}{sl:Array (Option Value)}{Q:Value->Shared->Prop}(hl:s.heap.get? l=some (mZ c items nn sl))(hh:A.handled=none)(ps:List (af×Value))(tp:Nat->Addr)(kyv:Nat->Value)
  (EZ:ps.length=items.size) (hky:∀i p,ps[i]?=some p->(bF prog w).is p.1 (kyv i)=true) (hit:∀(i:Nat) (v:Value),items[i]?=some v->v=.ref (tp i)) (IM:∀i,tp i<s.heap.objs.size) (hsz:∀i,(e7 (ps.take i)).length<=sizeLine)
  (hT:∀i p,ps[i]?=some p->s.heap.IsTuple (tp i) #[kyv i,p.2])
  (k:∀(hp:Heap) (tk:Nat),hp.DictOf (bF prog w) s.heap.objs.size (e7 ps)->(∀b o,s.heap.get? b=some o->hp.get? b=some o)->Q (.ref s.heap.objs.size) {s with heap:=hp,toks:=tk}) :
  wpAny (model prog w) A (call (.type "dict") [.ref l]) Q E s:=by
 refine callType_codes (Q₁:=λobj s₁=>obj=.ref s.heap.objs.size/\s₁={s with heap:=s.heap.push iL}) F.kt_called_dict (F.kt_typeCall_dict_1 _) F.entry_dict_init (kt_code_dict_new _ ⟨rfl,rfl⟩) ?_;rintro obj s₁ ⟨rfl,rfl⟩;have hnew:(s.heap.push iL).DictOf (bF prog w) s.heap.objs.size []:=Heap.DictOf.new s.heap;have Fe:(s.heap.push iL).get? l=some (mZ c items nn sl):=Qe _ hl;have hll:l<s.heap.objs.size:=Qw hl;refine⟨hnew.typeIs,F.args_dict_init_2 _ _,?_⟩;unfold Builtin.«dict.__init__»;refine Qb ?_;unfold Builtin.Dict.selfAndRest;refine Qb (wpAny_notOrdered_dict hnew.typeIs (Qd ?_));change wpAny _ _ (Builtin.Dict.updateFrom "dict.__init__" s.heap.objs.size (.ref l) [] .none) _ _ _;unfold Builtin.Dict.updateFrom
 have ty:Shared.TypeIs {s with heap:=s.heap.push iL} (.ref l) (bif c then "list" else "tuple"):=⟨_,Fe,rfl⟩
 refine Qb (wpAny_typeOf ty ?_);rw[if_pos (by cases c<;>decide)]
 have kn:∀{Q:Option Value->Shared->Prop} {E:Value->Shared->Prop},(∀hp tk e,Heap.NewAttrErr (s.heap.push iL) hp e (.ref l) "keys"->Q none ⟨hp,s.gens,s.drawn,tk,s.os⟩)->wpAny (model prog w) A.in1.in1 (getAttr? (.ref l) "keys") Q E {s with heap:=s.heap.push iL}:=λhq=>by
  cases c
  ·exact Ad Fe (by simpa using hh) hq
  ·exact z7 Fe (by simpa using hh) hq
 refine Qb (kn λhp tk e hn=>?_);have kp:∀b o,s.heap.get? b=some o->hp.get? b=some o:=λb o r=>hn.keeps b o (Qe _ r);have hD:hp.DictOf (bF prog w) s.heap.objs.size []:=by obtain⟨o,es,ep,ho,ET⟩:=hnew;exact⟨o,es,ep,hn.keeps _ _ ho,ET⟩
 have hSl:s.heap.objs.size<hp.objs.size:=by obtain⟨o,es,ep,ho,ET⟩:=hD;exact Qw ho
 rw[if_pos (by rfl)];refine Qb (wpAny_rule ?_)
 have IU:iK c hp l items:=⟨_,kp _ _ hl,rfl,nn,rfl⟩
 refine Qb (Ag (s:=⟨hp,s.gens,s.drawn,tk,s.os⟩) IU ?_);refine Qd ⟨plainId_quiet k5 _,?_⟩;have hneI:l≠hp.objs.size:=QF (Nat.lt_trans hll hSl);have hSf:s.heap.objs.size∉[hp.objs.size,l]:=by simp only[List.mem_cons,List.mem_singleton,List.not_mem_nil,or_false,not_or];exact⟨QF hSl,Nat.ne_of_gt hll⟩
 have W:=(Ah c (prog:=prog) (w:=w) (A:=A.in1.in1) (by simp[hh]) hp.objs.size l hneI items).toS;refine Af W s.heap.objs.size hSf ps EZ tp kyv hky hit (λi=>?_) hsz (items.size-0) 0 0 _ (by lia) (QC _) ⟨⟨_,Qu _ rfl,rfl,rfl⟩,IU.at λo r=>Qe _ r⟩ ?_ (λi p h=>((hT i p h).at λo r=>kp _ o r).push _) λs' hm Ir=>?_
 ·refine⟨?_,QF (IM i)⟩;simp only[List.mem_cons,List.mem_singleton,List.not_mem_nil,or_false];exact QF (Nat.lt_trans (IM i) hSl)
 ·obtain⟨o,es,ep,ho,ET⟩:=hD;exact⟨o,es,ep,Qe _ ho,ET⟩
 ·obtain⟨h',g',d',Iz,IL⟩:=s';have eg:g'=s.gens:=hm.gens;have ed:d'=s.drawn:=hm.drawn;have eo:IL=s.os:=hm.os;subst eg;subst ed;subst eo;refine⟨rfl,k h' Iz Ir λb o r=>?_⟩;have hb:b<s.heap.objs.size:=Qw r;refine hm.heap b o ?_ (Qe _ (kp b o r));simp only[List.mem_cons,List.mem_singleton,List.not_mem_nil,or_false,not_or];exact⟨QF hb,QF (Nat.lt_trans hb hSl)⟩
end
theorem Aj:bootBuiltins "dict"=some (.type "dict"):=by decide +kernel
noncomputable def gw(ps:List (af×V)):List (af×V):=ps.foldl (λq p=>a8 q p.1 p.2) []
theorem m4(ps:List (af×V)):(gw ps).length<=ps.length:=by
 have go:∀(ps:List (af×V)) (q:List (af×V)),(ps.foldl (λq p=>a8 q p.1 p.2) q).length<=q.length+ps.length:=λps=>by
  induction ps with
  |nil=>intro q;simp
  |cons p ps ih=>intro q;have h1:=ih (a8 q p.1 p.2);have h2:=iF q p.1 p.2;simp only[List.foldl_cons,QM];lia
 simpa [gw] using go ps []
theorem rA:∀{ps:List (af×V)} {qs:List (af×Value)},ps.length=qs.length->(∀(i:Nat) (p:af×V) (q:af×Value),ps[i]?=some p->qs[i]?=some q->p.1=q.1/\RelV p.2 q.2)->KV (gw ps) (e7 qs):=by
 have go:∀ (ps:List (af × V)) (qs:List (af × Value)) (a:List (af × V)) (b:List (af × Value)),KV a b->ps.length=qs.length->(∀ (i:Nat) (p:af × V) (q:af × Value),ps[i]?=some p->qs[i]?=some q->p.1=q.1/\RelV p.2 q.2) ->
   KV (ps.foldl (λq p=>a8 q p.1 p.2) a) (qs.foldl (λq p=>stored q p.1 p.2) b):=λps=>by
  induction ps with
  |nil=>intro qs a b h hl _;cases qs with|nil=>exact h|cons _ _=>simp at hl
  |cons p ps ih =>
   intro qs a b h hl hr
   cases qs with
   |nil=>simp at hl
   |cons q qs =>
    obtain⟨e,r⟩:=hr 0 p q rfl rfl;simp only[List.foldl_cons];refine ih qs _ _ ?_ (by simpa using hl) λi p' q' h1 h2=>hr (i+1) p' q' (by simpa using h1) (by simpa using h2);rw[e];exact h.put q.1 r
 intro ps qs hl hr;exact go ps qs [] [] .nil hl hr
section
variable {X:Cx}
theorem Ak(c:Bool)(hc:X.calm=true):dA X (.type "dict") (λxs H Q=>∃(l:Addr) (ts:List Addr) (ps:List (af×V)),xs=[V.ref l]/\H l=some (bif c then .lst (ts.map V.ref) else .tup (ts.map V.ref))/\ts.length=ps.length /\
  (∀(i:Nat) (t:Addr) (p:af×V),ts[i]?=some t->ps[i]?=some p->H t=some (.tup [kV p.1,p.2]))/\∀q,H q=none->Q (.ref q) (upd H q (.dK (gw ps)))):=by
 intro EQ s σ H xs us Q I r h;obtain⟨l,ts,ps,rfl,hl,htl,hat,kq⟩:=h;obtain⟨u,rfl,ru⟩:=vals1 r;cases (show u=Value.ref l from ru)
 obtain⟨its,rv,n,sl,ho,hz⟩:∃its,aw (ts.map V.ref) its/\∃n sl,s.heap.get? l=some (mZ c its.toArray n sl)/\(ts.map V.ref).length<=sizeLine:=by
  cases c
  ·obtain⟨hz,its,rv,⟨o,ho,IW,n,hda⟩,o2,HN,hd⟩:=(show bI X.prog X.w H s.heap l (.tup (ts.map V.ref)) from I.hok l _ hl)
   rw[ho] at HN;cases HN;obtain⟨ocls,Jg,odata,HL⟩:=o;simp only at IW hd hda;subst IW;subst hd;subst hda;exact⟨its,rv,n,_,ho,hz⟩
  ·obtain⟨its,rv,⟨o,n,ho,IW,hd,hda⟩,hz⟩:=I.list (ak.of hl);obtain⟨ocls,Jg,odata,HL⟩:=o;simp only at IW hd hda;subst IW;subst hd;subst hda;exact⟨its,rv,n,_,ho,hz⟩
 have Fm:its.length=ts.length:=by rw[<-rv.length,Qf]
 obtain⟨tp,htpe⟩:∃tp:Nat->Addr,∀i,tp i=ts.getD i l:=⟨_,λ_=>rfl⟩
 have pr:∀i:Nat,∃q:Value×Value,i<ps.length->its[i]?=some (.ref (tp i))/\IsTup s.heap (tp i) #[q.1,q.2]/\∀p,ps[i]?=some p->RelV (kV p.1) q.1/\RelV p.2 q.2:=λi=>by
  by_cases hi:i<ps.length
  ·have hti:i<ts.length:=by lia
   have h1:ts[i]?=some ts[i]:=Qa hti;have h2:ps[i]?=some ps[i]:=Qa hi;have et:tp i=ts[i]:=by rw[htpe,Qg,h1];rfl
   obtain⟨v,hv,rvv⟩:=rv.get (i:=i) (x:=.ref ts[i]) (by rw[Qj,h1];rfl);cases (show v=Value.ref ts[i] from rvv);obtain⟨jts,rj,pj,_⟩:=I.tuple (aq.of (hat i _ _ h1 h2))
   cases rj with
   |cons ra r2 =>
   cases r2 with
   |cons rb r3 =>
   cases r3;refine⟨(_,_),λ_=>⟨by rw[et];exact hv,by rw[et];exact pj,λp hp=>?_⟩⟩;rw[h2] at hp;cases hp;exact⟨ra,rb⟩
  ·exact⟨(.none,.none),λh=>absurd h hi⟩
 obtain⟨qv,Iv⟩:=Classical.axiomOfChoice pr
 obtain⟨qs,hqs⟩:∃qs:List (af×Value),qs=(List.range ps.length).map λi=>((ps.getD i (.inl 0,.non)).1,(qv i).2):=⟨_,rfl⟩
 have qsl:qs.length=ps.length:=by rw[hqs];simp
 have qsg:∀(i:Nat) (q:af×Value),qs[i]?=some q->i<ps.length/\∃p,ps[i]?=some p/\q=(p.1,(qv i).2):=λi q h=>by
  have hi:i<ps.length:=by have:=(Qc h).1;lia
  refine⟨hi,ps[i],Qa hi,?_⟩;rw[hqs,Qj,List.getElem?_range hi] at h;have h:=Qo h;rw[<-h];show((ps.getD i (.inl 0,.non)).1,(qv i).2)=_;rw[Qg,Qa hi];rfl
 have Gj:KV (gw ps) (e7 qs):=rA qsl.symm λi p q h1 h2=>by obtain⟨hi,p',FM,rfl⟩:=qsg i q h2;rw[h1] at FM;cases FM;exact⟨rfl,((Iv i hi).2.2 p h1).2⟩
 have relT:∀i,KV (gw (ps.take i)) (e7 (qs.take i)):=λi=>rA (by simp[qsl]) λj p q h1 h2=>by
  rw[List.getElem?_take] at h1 h2;split at h1
  ·rename_i hj;rw[if_pos hj] at h2;obtain⟨hi,p',FM,rfl⟩:=qsg j q h2;rw[h1] at FM;cases FM;exact⟨rfl,((Iv j hi).2.2 p h1).2⟩
  ·cases h1
 have hpz:ps.length<=sizeLine:=by rw[Qf] at hz;lia
 refine Ai ho (I.ok.hd hc) qs tp (λi=>(qv i).1) (by rw[qsl];simp;lia) (λi q h=>?_) (λi v h=>?_) (λi=>?_) (λi=>?_) (λi q h=>?_) λhp tk hD kk=>?_
 ·obtain⟨hi,p,hp,rfl⟩:=qsg i q h;exact gv ((Iv i hi).2.2 p hp).1
 ·have hi:i<ps.length:=by have:=(Array.getElem?_eq_some_iff.mp h).1;simp at this;lia
  have:=(Iv i hi).1;have h:its[i]?=some v:=by simpa using h
  rw[this] at h;exact(Qo h).symm
 ·by_cases hi:i<ps.length
  ·obtain⟨_,⟨o,r,_⟩,_⟩:=Iv i hi;exact Qw r
  ·have:tp i=l:=by rw[htpe,Qg,List.getElem?_eq_none (by lia)];rfl
   rw[this];exact Qw ho
 ·rw[<-(relT i).length];have:=m4 (ps.take i);rw[Qx] at this;lia
 ·obtain⟨hi,p,hp,rfl⟩:=qsg i q h;exact(Iv i hi).2.1
 ·have hf:=m4 ps;refine⟨.ref s.heap.objs.size,_,I.laid (a:=s.heap.objs.size) (o:=.dK (gw ps)) (t':=tk) kk (Qh _) (mV (by lia) (beq_eq_false_iff_ne.mpr (Ne.symm (QF I.big))) Gj hD),rfl,kq _ I.fresh⟩
end
theorem Al{t u:TS}{D:cK}{σ:St}{H:Hp}(h:∀N:St->Hp->Prop,(∀a b,u D a b->N a b)->t {D with nx:=N} σ H):iw t u D σ H:=h _ λ_ _ x=>x
theorem Am(a v:Value):argsOk "list.sort" ⟨[a],[(Str.ofString "key",v)]⟩:=by unfold argsOk;kernel_rfl
theorem An(a v:Value):argsOk "sorted" ⟨[a],[(Str.ofString "key",v)]⟩:=by unfold argsOk;kernel_rfl
theorem Ao(a f:Addr):Builtin.«list.sort» ⟨[.ref a],[(Str.ofString "key",.ref f)]⟩=(do
  let items <- Builtin.List.listItems (.ref a)
  Builtin.List.listUpdate (.ref a) λ_=>#[]
  let before <- seqEpoch a;let held <- newTuple items.toList;let keyStore <- newList []
  holding [held,keyStore] do
   rule "list.sort.key"
   for x in items do
    match <- (call (.ref f) [x]).attempt with
    |.ok k=>Builtin.List.listUpdate keyStore (·.push k)
    |.error e =>
     rule "list.sort.key-raised"
     let made <- Builtin.List.listItems keyStore
     Builtin.List.listUpdate keyStore λ_=>#[]
     letGo made.toList.reverse [e]
     Builtin.List.listUpdate (.ref a) λ_=>items;throw e
   let Gc <- Builtin.List.listItems keyStore
   let kind <- if items.size<2 then pure general' else keyKind' Gc
   let ((),s) <- (if items.size<2 then pure () else sortRuns').run (SortSt.mk' kind (Gc.zip items) #[] 7 none);let sorted:=(arrOf s).map (·.2)
   Builtin.List.listUpdate keyStore λ_=>#[]
   letGo ((arrOf s).map (·.1)).toList (failedOf s).toList
   let touched:=(<- seqEpoch a) != before
   Builtin.List.listUpdate (.ref a) λ_=>sorted
   if let some e:=failedOf s then rule "list.sort.comparison-raised";throw e
   if touched then rule "list.sort.modified";raiseError "ValueError" "list modified during sort"
   ret .none):=by
 first|rfl|(fail "not by rfl")
theorem Inv.adopt{X:Cx}{EQ:List (Addr×Obj)}{σ:St}{H:Hp}{s:Shared}{a:Addr}{o:HO}(I:Inv X EQ σ H s)(f:cR X EQ H a)(new:bI X.prog X.w (upd H a o) s.heap a o):Inv X EQ σ (upd H a o) s:=by
 obtain⟨f0,f1,f2,f3,f4,f5⟩:=f;have ne:∀b u,H b=some u->b≠a:=λb u e=>fR e f0
 have hok:bG X.prog X.w (upd H a o) s.heap:=λb u e=>by
  by_cases hb:b=a
  ·subst hb;rw[ah] at e;cases e;exact new
  ·rw[aE hb] at e;exact(I.hok b u e).stay (λc v _ q=>q) (λc q=>by rw[aE (ne c _ q)];exact q) λc xs q=>by rw[aE (ne c _ q)];exact q
 have nc:∀{b:Addr},b∉[a]->b≠a:=λh z=>h (by simp[z])
 exact I.step (g':=s.gens) (d':=s.drawn) (t':=s.toks) (h':=s.heap) (ch:=[a]) (fun b hb=>by
   have e:b=a:=by simpa using hb
   subst e
   exact⟨f3,f1,f4,f5⟩)
  (λb o _ _ _ e _=>e) (λb o _ _ _ e _=>⟨o.slots,e⟩) (λb o hc e n=>by rw[aE (nc hc)];exact n) (λb o _ e=>⟨o,e⟩)
  (λb xs e=>by rw[aE (ne b _ e)];exact e) (λb o u e=>by rw[aE (ne b _ e)];exact e) (λb ps e=>⟨#[],by rw[aE (ne b _ e),e];simp⟩) (λm hm=>hm) hok I.bare
end L2
namespace L2
open PySem PySem.Spec PyProof.Rows PySem.W
def aT(n:Nat)(p:Array Nat):Prop:=∀x∈p.toList,x<n
theorem aT.at{n:Nat}{p:Array Nat}(h0:0<n)(h:aT n p)(k:Nat):p.getD k 0<n:=by
 rw[Array.getD_eq_getD_getElem?]
 cases e:p[k]? with
 |none=>exact h0
 |some x =>
  refine h x ?_;rw[<-Array.getElem?_toList] at e;exact Qk e
structure Ev where
 κ:SortKind
 it:Array Keyed
def m5(n:Nat)(lt:Nat->Nat->Bool)(e:Ev)(prog:Program)(w:World)(A:Around)(s:Shared):Prop:=
 ∀i j,i<n->j<n->∀C:Bool->Shared->Prop,C (lt i j) s->kas_cmp prog w A e.κ e.it i j C s
def aJ(n:Nat)(lt:Nat->Nat->Bool){α:Type}(m:Ev->StateT SortSt Sem α)(x:Ev->SortSt)(R:(Ev->α)->(Ev->SortSt)->Prop):Prop:=
 ∃(a:Ev->α) (y:Ev->SortSt),R a y/\∀(e:Ev) (prog:Program) (w:World) (A:Around) (E:Value->Shared->Prop) (s:Shared),m5 n lt e prog w A s ->
  ∀Q:α->SortSt->Shared->Prop,Q (a e) (y e) s->kasC (model prog w) A E (m e) Q (x e) s
section
variable {n:Nat}{lt:Nat->Nat->Bool}{α β:Type}{x:Ev->SortSt}
theorem aF{a:Ev->α}{R:(Ev->α)->(Ev->SortSt)->Prop}(h:R a x):aJ n lt (λe=>pure (a e)) x R:=
 ⟨a,x,h,λe prog w A E s _ Q q=>kasC_pure q⟩
theorem ay{m:Ev->StateT SortSt Sem α}{f:Ev->α->StateT SortSt Sem β}{R:(Ev->β)->(Ev->SortSt)->Prop}(h:aJ n lt m x (λa y=>aJ n lt (λe=>f e (a e)) y R)):aJ n lt (λe=>m e>>=f e) x R:=by obtain⟨a,y,⟨b,z,r,h2⟩,h1⟩:=h;exact⟨b,z,r,λe prog w A E s ho Q q=>kasC_bind (h1 e prog w A E s ho _ (h2 e prog w A E s ho Q q))⟩
theorem aJ.mono{m:Ev->StateT SortSt Sem α}{R R':(Ev->α)->(Ev->SortSt)->Prop}(h:aJ n lt m x R)(hr:∀a y,R a y->R' a y):aJ n lt m x R':=by obtain⟨a,y,r,h1⟩:=h;exact⟨a,y,hr a y r,h1⟩
theorem rB{R:(Ev->SortSt)->(Ev->SortSt)->Prop}(h:R x x):aJ n lt (λ_=>(get:StateT SortSt Sem SortSt)) x R:=
 ⟨x,x,h,λe prog w A E s _ Q q=>kasC_get q⟩
theorem iM{f:Ev->SortSt->SortSt}{R:(Ev->PUnit)->(Ev->SortSt)->Prop}(h:R (λ_=>⟨⟩) (λe=>f e (x e))):aJ n lt (λe=>(modify (f e):StateT SortSt Sem PUnit)) x R:=
 ⟨_,_,h,λe prog w A E s _ Q q=>kasC_modify q⟩
theorem Ap{f:Ev->SortSt}{R:(Ev->PUnit)->(Ev->SortSt)->Prop}(h:R (λ_=>⟨⟩) f):aJ n lt (λe=>(set (f e):StateT SortSt Sem PUnit)) x R:=
 ⟨_,_,h,λe prog w A E s _ Q q=>by unfold kasC;rw[StateT.run_set];exact Qd q⟩
theorem iN{t:String}{R:(Ev->Unit)->(Ev->SortSt)->Prop}(h:R (λ_=>()) x):aJ n lt (λ_=>(liftM (rule t):StateT SortSt Sem Unit)) x R:=
 ⟨_,_,h,λe prog w A E s _ Q q=>kasC_lift (wpAny_rule q)⟩
theorem bg{c:Prop}{inst:Ev->Decidable c}{p q:Ev->StateT SortSt Sem α}{R:(Ev->α)->(Ev->SortSt)->Prop}(h1:c->aJ n lt p x R)(h2:¬c->aJ n lt q x R):aJ n lt (λe=>@ite _ c (inst e) (p e) (q e)) x R:=by
 by_cases h:c
 ·simp only[if_pos h];exact h1 h
 ·simp only[if_neg h];exact h2 h
theorem rC{β:Type}{f:Ev->Nat->β->StateT SortSt Sem (ForInStep β)}(I:List Nat->(Ev->β)->(Ev->SortSt)->Prop)(Q:(Ev->β)->(Ev->SortSt)->Prop)
  (Ia:∀i l c y,I (i::l) c y->aJ n lt (λe=>f e i (c e)) y (λr z=>(∃c',r=(λe=>.done (c' e))/\Q c' z)∨(∃c',r=(λe=>.yield (c' e))/\I l c' z)))
  (hend:∀c y,I [] c y->Q c y):∀(l:List Nat) (c:Ev->β) (x:Ev->SortSt),I l c x->aJ n lt (λe=>forIn l (c e) (f e)) x Q
 | [],c,x,h=>⟨c,x,hend c x h,λe prog w A E s _ Q q=>kasC_nil q⟩
 |i::l,c,x,h=>by
  obtain⟨r,z,hr,h1⟩:=Ia i l c x h
  rcases hr with ⟨c',rfl,hq⟩|⟨c',rfl,hi⟩
  ·exact⟨c',z,hq,λe prog w A E s ho Q q=>kasC_cons (h1 e prog w A E s ho _ q)⟩
  ·obtain⟨b,y,r,h2⟩:=rC I Q Ia hend l c' z hi;exact⟨b,y,r,λe prog w A E s ho Q q=>kasC_cons (h1 e prog w A E s ho _ (h2 e prog w A E s ho Q q))⟩
theorem cT{β:Type}{a b:Nat}{c:Ev->β}{f:Ev->Nat->β->StateT SortSt Sem (ForInStep β)}(I:Nat->(Ev->β)->(Ev->SortSt)->Prop)(Q:(Ev->β)->(Ev->SortSt)->Prop)
  (Ia:∀i c y,a<=i->i<b->I i c y->aJ n lt (λe=>f e i (c e)) y (λr z=>(∃c',r=(λe=>.done (c' e))/\Q c' z)∨(∃c',r=(λe=>.yield (c' e))/\I (i+1) c' z)))
  (hend:∀c y,I (max a b) c y->Q c y) (h:I a c x):aJ n lt (λe=>forIn [a:b] (c e) (f e)) x Q:=by
 have key:aJ n lt (λe=>forIn (List.range' a (b-a)) (c e) (f e)) x Q:=by
  refine rC (λl c y=>∃i,a<=i/\i<=max a b/\l=List.range' i (max a b-i) 1/\I i c y) Q ?_ ?_ _ c x ⟨a,Qh _,by lia,by congr 1;lia,h⟩
  ·rintro j l c y ⟨i,Gz,Gp,hl,hI⟩
   have EX:i<max a b:=by
    rcases Nat.lt_or_ge i (max a b) with h' | h'
    ·exact h'
    ·rw[show max a b-i=0 by lia] at hl;simp at hl
   obtain⟨k,hk⟩:∃k,max a b-i=k+1:=⟨max a b-i-1,by lia⟩
   rw[hk,List.range'_succ] at hl;obtain⟨rfl,rfl⟩:=List.cons.inj hl;refine(Ia j c y Gz (by lia) hI).mono λr z hr=>?_
   rcases hr with hr|⟨c',e',h'⟩
   ·exact .inl hr
   ·exact .inr ⟨c',e',j+1,by lia,by lia,by congr 1;lia,h'⟩
  ·rintro c y ⟨i,Gz,Gp,hl,hI⟩
   have:i=max a b:=by
    rcases Nat.lt_or_ge i (max a b) with h' | h'
    ·obtain⟨k,hk⟩:∃k,max a b-i=k+1:=⟨max a b-i-1,by lia⟩
     rw[hk,List.range'_succ] at hl;simp at hl
    ·lia
   subst this;exact hend _ _ hI
 obtain⟨b',y,r,h1⟩:=key;exact⟨b',y,r,λe prog w A E s ho Q q=>kasC_range (h1 e prog w A E s ho Q q)⟩
end
noncomputable def dD(e:Ev)(i:Nat):Keyed:=kas_item e.it i
noncomputable def aQ(e:Ev)(p:Array Nat):Array Keyed:=p.map (dD e)
noncomputable def av(p:Array Nat)(ER:Array (Nat×Nat×Nat))(g:Nat):Ev->SortSt:=λe=>SortSt.mk' e.κ (aQ e p) ER g none
theorem dE{e:Ev}{p:Array Nat}:(aQ e p).size=p.size:=Array.size_map ..
section
variable {n:Nat}{lt:Nat->Nat->Bool}{p:Array Nat}{ER:Array (Nat×Nat×Nat)}{g:Nat}
theorem Aq{e:Ev}{i:Nat}(hi:i<p.size):(aQ e p)[i]?=some (dD e (p.getD i 0)):=by
 have e1:p.getD i 0=p[i]:=by simp[Array.getD,hi]
 rw[e1];simp[aQ,hi]
theorem cu{i:Nat}{x:Ev->SortSt}{R:(Ev->Keyed)->(Ev->SortSt)->Prop}(hi:i<p.size)(h:R (λe=>dD e (p.getD i 0)) x):aJ n lt (λe=>elem' (aQ e p) i) x R:=by refine⟨_,_,h,λe prog w A E s _ Q q=>?_⟩;show kasC _ _ _ (elem' (aQ e p) i) _ _ _;rw[elem'_eq,Aq hi];exact kasC_pure q
theorem jR{i j:Nat}{R:(Ev->Option Bool)->(Ev->SortSt)->Prop}(hi:i<n)(hj:j<n)(h:R (λ_=>some (lt i j)) (av p ER g)):aJ n lt (λe=>lt' (dD e i) (dD e j)) (av p ER g) R:=by refine⟨_,_,h,λe prog w A E s ho Q q=>?_⟩;show kasC _ _ _ (lt' (dD e i) (dD e j)) _ _ _;rw[lt'_eq];refine kasC_bind (kasC_get ?_);refine kasC_bind (kasC_lift (wpAny_attempt (QW (ho i j hi hj (λb s'=>b=lt i j/\s'=s) ⟨rfl,rfl⟩) (λc s' hc=>?_) λ_ _ hF=>hF.elim)));obtain⟨rfl,rfl⟩:=hc;exact kasC_pure q
theorem iO{i j:Nat}{R:(Ev->Option Bool)->(Ev->SortSt)->Prop}(h0:0<n)(hp:aT n p)(hi:i<p.size)(hj:j<p.size)(h:R (λ_=>some (lt (p.getD i 0) (p.getD j 0))) (av p ER g)):aJ n lt (λ_=>ltAt' i j) (av p ER g) R:=by refine ay (rB ?_);refine ay (cu (p:=p) hi ?_);refine ay (cu (p:=p) hj ?_);exact jR (hp.at h0 _) (hp.at h0 _) h
theorem k6{i j:Nat}{R:(Ev->Unit)->(Ev->SortSt)->Prop}(h:R (λ_=>()) (av (kas_rev p i j) ER g)):aJ n lt (λ_=>reverseSlice' i j) (av p ER g) R:=by
 simp only[reverseSlice'_eq];refine iM ?_;have e:(λe=>setArr (av p ER g e) (mirror (arrOf (av p ER g e)) i j ((j-i)/2)))=av (kas_rev p i j) ER g:=by funext e;show SortSt.mk' e.κ (mirror (aQ e p) i j ((j-i)/2)) ER g none=SortSt.mk' e.κ (aQ e (kas_rev p i j)) ER g none;have e1:mirror (aQ e p) i j ((j-i)/2)=aQ e (kas_rev p i j):=kas_swaps_map (dD e) (λk=>i+k) (λk=>j-1-k) _ p;rw[e1]
 rw[e];exact h
theorem Ar{k l:Nat}{R:(Ev->Unit)->(Ev->SortSt)->Prop}(h:R (λ_=>()) (av (bubble p k (k-l)) ER g)):aJ n lt (λ_=>moveDown' k l) (av p ER g) R:=by
 simp only[moveDown'_eq];refine iM ?_;have e:(λe=>setArr (av p ER g e) (bubble (arrOf (av p ER g e)) k (k-l)))=av (bubble p k (k-l)) ER g:=by funext e;show SortSt.mk' e.κ (bubble (aQ e p) k (k-l)) ER g none=SortSt.mk' e.κ (aQ e (bubble p k (k-l))) ER g none;have e1:bubble (aQ e p) k (k-l)=aQ e (bubble p k (k-l)):=kas_swaps_map (dD e) (λi=>k-i) (λi=>k-i-1) _ p;rw[e1]
 rw[e];exact h
end
noncomputable def As:Bool->Keyed->Array Keyed->Nat->Nat->Nat->StateT SortSt Sem (Option Nat):=sortPriv% PySem.Builtin.gallop
noncomputable def At:Array Keyed->Array Keyed->StateT SortSt Sem (Array Keyed):=sortPriv% PySem.Builtin.mergeLo
noncomputable def Au:Array Keyed->Array Keyed->StateT SortSt Sem (Array Keyed):=sortPriv% PySem.Builtin.mergeHi
noncomputable def Av:Nat->StateT SortSt Sem Unit:=sortPriv% PySem.Builtin.setMinGallop
theorem dZ{e:Ev}{p:Array Nat}{i:Nat}:(aQ e p).push (dD e i)=aQ e (p.push i):=by simp[aQ]
theorem d0{e:Ev}{p q:Array Nat}:aQ e p++aQ e q=aQ e (p++q):=by simp[aQ]
theorem dR{e:Ev}{p:Array Nat}{i j:Nat}:(aQ e p).extract i j=aQ e (p.extract i j):=by simp[aQ]
theorem d4{e:Ev}{i:Nat}:#[dD e i]=aQ e #[i]:=by simp[aQ]
theorem gU{e:Ev}{p:Array Nat}:(aQ e p).reverse=aQ e p.reverse:=by simp[aQ]
theorem aT.push{n:Nat}{p:Array Nat}(h:aT n p){i:Nat}(hi:i<n):aT n (p.push i):=by
 intro x hx;rw[Array.toList_push,List.mem_append] at hx;rcases hx with hx|hx
 ·exact h x hx
 ·rw[List.mem_singleton] at hx;exact hx ▸ hi
theorem aT.app{n:Nat}{p q:Array Nat}(h:aT n p)(h':aT n q):aT n (p++q):=by intro x hx;rw[QP,List.mem_append] at hx;exact hx.elim (h x) (h' x)
theorem aT.ext{n:Nat}{p:Array Nat}(h:aT n p)(i j:Nat):aT n (p.extract i j):=by intro x hx;rw[Array.toList_extract] at hx;exact h x (List.mem_of_mem_drop (List.mem_of_mem_take hx))
theorem aT.reverse{n:Nat}{p:Array Nat}(h:aT n p):aT n p.reverse:=by intro x hx;rw[Array.toList_reverse,List.mem_reverse] at hx;exact h x hx
section
variable {n:Nat}{lt:Nat->Nat->Bool}{α:Type}{x:Ev->SortSt}{P:Array Nat}{ER:Array (Nat×Nat×Nat)}{g:Nat}
theorem dS{a b:Nat}{inst:Ev->Decidable ((a==b)=true)}{p q:Ev->StateT SortSt Sem α}{R:(Ev->α)->(Ev->SortSt)->Prop}(h1:a=b->aJ n lt p x R)(h2:a≠b->aJ n lt q x R):aJ n lt (λe=>@ite _ ((a==b)=true) (inst e) (p e) (q e)) x R:=
 bg (λh=>h1 (by simpa using h)) (λh=>h2 (by simpa using h))
theorem k7{k:Nat}{R:(Ev->Unit)->(Ev->SortSt)->Prop}(h:R (λ_=>()) (av P ER k)):aJ n lt (λ_=>Av k) (av P ER g) R:=iM h
theorem fE{γ:Type}{f:Ev->SortSt->StateT SortSt Sem γ}{R:(Ev->γ)->(Ev->SortSt)->Prop}(h:aJ n lt (λe=>f e (SortSt.mk' e.κ (aQ e P) ER g none)) (av P ER g) R):aJ n lt (λe=>get>>=f e) (av P ER g) R:=ay (rB h)
theorem rD{c:Prop}{inst:Ev->Decidable c}{q:Ev->StateT SortSt Sem α}{R:(Ev->α)->(Ev->SortSt)->Prop}{X:Nat->Ev->StateT SortSt Sem α}(v:Nat)(e:q=X v)(h:∀v,aJ n lt (X v) x R):∀m1,aJ n lt (λe=>@ite _ c (inst e) (X m1 e) (q e)) x R:=
 λm1=>bg (λ_=>h m1) (λ_=>e ▸ h v)
variable {pa pb:Array Nat}
end
theorem Aw(p:Array Nat)(i j:Nat):(kas_rev p i j).size=p.size:=mirror_size _ _ _ _
noncomputable def putN(po:List Nat)(k:Nat)(s:Nat)(p:Array Nat):Array Nat:=(po.zipIdx k).foldl (λa x=>a.setIfInBounds (s+x.2) x.1) p
theorem rE{α:Type}(f:Nat->α)(s:Nat):∀(po:List Nat) (k:Nat) (p:Array Nat),((po.map f).zipIdx k).foldl (λa (x:α×Nat)=>a.setIfInBounds (s+x.2) x.1) (p.map f)=(putN po k s p).map f
 | [],k,p=>rfl
 |a::po,k,p=>by show((po.map f).zipIdx (k+1)).foldl _ ((p.map f).setIfInBounds (s+k) (f a))=(putN po (k+1) s (p.setIfInBounds (s+k) a)).map f;rw[<-rE f s po (k+1),Array.map_setIfInBounds]
theorem rF(s:Nat):∀(po:List Nat) (k:Nat) (p:Array Nat),(putN po k s p).size=p.size
 | [],k,p=>rfl
 |a::po,k,p=>by show(putN po (k+1) s (p.setIfInBounds (s+k) a)).size=p.size;rw[rF s po,Array.size_setIfInBounds]
def Ch:Nat->List (Nat×Nat×Nat)->Nat->Prop
 |s,[],e=>s=e
 |s,(a,k,_)::l,e=>a=s/\0<k/\Ch (s+k) l e
theorem Ch.le:∀{s:Nat} {l:List (Nat×Nat×Nat)} {e:Nat},Ch s l e->s<=e
 |s,[],e,h=>Nat.le_of_eq h
 |s,(a,k,_)::l,e,h=>QK (Nat.le_add_right s k) h.2.2.le
theorem Ch.two:∀{s:Nat} {l:List (Nat×Nat×Nat)} {e:Nat} (i:Nat),Ch s l e->i+1<l.length->∃a k u m v,l[i]?=some (a,k,u)/\l[i+1]?=some (a+k,m,v)/\0<k/\0<m/\a+k+m<=e/\Ch s ((l.set i (a,k+m,u)).eraseIdx (i+1)) e
 |s,[],e,i,h,hi=>absurd hi (by simp)
 |s,[x],e,i,h,hi=>absurd hi (by simp)
 |s,(a,k,u)::(b,m,v)::l,e,0,h,hi=>by obtain⟨rfl,hk,rfl,hm,h⟩:=h;exact⟨a,k,u,m,v,rfl,rfl,hk,hm,h.le,rfl,by lia,by rw[<-Nat.add_assoc];exact h⟩
 |s,(a,k,u)::y::l,e,i+1,h,hi=>by obtain⟨rfl,hk,h⟩:=h;obtain⟨b,m,v,m2,v2,e1,e2,h1,h2,h3,h4⟩:=Ch.two i h (by simpa using hi);exact⟨b,m,v,m2,v2,e1,e2,h1,h2,h3,rfl,hk,h4⟩
theorem Ch.push:∀{s:Nat} {l:List (Nat×Nat×Nat)} {e:Nat} (k u:Nat),Ch s l e->0<k->Ch s (l++[(e,k,u)]) (e+k)
 |s,[],e,k,u,h,hk=>by cases (show s=e from h);exact⟨rfl,hk,rfl⟩
 |s,(a,m,v)::l,e,k,u,h,hk=>⟨h.1,h.2.1,Ch.push k u h.2.2 hk⟩
theorem Ch.mod:∀{s:Nat} {l:List (Nat×Nat×Nat)} {e:Nat} (i u:Nat),Ch s l e->Ch s (l.modify i λx=>(x.1,x.2.1,u)) e
 |s,[],e,i,u,h=>by cases i<;>exact h
 |s,(a,m,v)::l,e,0,u,h=>h
 |s,(a,m,v)::l,e,i+1,u,h=>⟨h.1,h.2.1,Ch.mod i u h.2.2⟩
section
variable {n:Nat}{lt:Nat->Nat->Bool}{α:Type}{x:Ev->SortSt}{p:Array Nat}{ER:Array (Nat×Nat×Nat)}{g:Nat}
theorem Ax{pend':Array (Nat×Nat×Nat)}{R:(Ev->PUnit)->(Ev->SortSt)->Prop}(h:R (λ_=>⟨⟩) (av p pend' g)):aJ n lt (λe=>(set (SortSt.mk' e.κ (aQ e p) pend' g none):StateT SortSt Sem PUnit)) x R:=Ap h
theorem Ay{f:Ev->SortSt->SortSt}{p':Array Nat}{pend':Array (Nat×Nat×Nat)}{g':Nat}{R:(Ev->PUnit)->(Ev->SortSt)->Prop}(e:∀e,f e (av p ER g e)=av p' pend' g' e)(h:R (λ_=>⟨⟩) (av p' pend' g')):aJ n lt (λe=>(modify (f e):StateT SortSt Sem PUnit)) (av p ER g) R:=
 iM (by rw[funext e];exact h)
theorem Az{c:Prop}{inst:Decidable c}{a b:Nat}(h:a+1<b):(@ite _ c inst (a-1) a)+1<b:=by
 by_cases hc:c
 ·rw[if_pos hc];omega
 ·rw[if_neg hc];exact h
theorem k8{v:Nat×Nat×Nat}{R:(Ev->PUnit)->(Ev->SortSt)->Prop}(h:R (λ_=>⟨⟩) (av p (ER.push v) g)):aJ n lt (λ_=>(modify λs=>setPending s ((pendingOf s).push v):StateT SortSt Sem PUnit)) (av p ER g) R:=iM h
theorem rG{f:Nat×Nat×Nat->Nat×Nat×Nat}{R:(Ev->PUnit)->(Ev->SortSt)->Prop}(h:R (λ_=>⟨⟩) (av p (ER.modify (ER.size-1) f) g)):aJ n lt (λ_=>(modify λs=>setPending s ((pendingOf s).modify ((pendingOf s).size-1) f):StateT SortSt Sem PUnit)) (av p ER g) R:=iM h
end
noncomputable def bp(left:Bool)(lt:Nat->Nat->Bool)(p:Array Nat)(k base i:Nat):Bool:=if left=true then lt (p.getD (base+i) 0) k else !(lt k (p.getD (base+i) 0))
section
variable {n:Nat}{lt:Nat->Nat->Bool}{p P:Array Nat}{ER:Array (Nat×Nat×Nat)}{g:Nat}
theorem jS{left:Bool}{k base i:Nat}{R:(Ev->Option Bool)->(Ev->SortSt)->Prop}(h0:0<n)(hk:k<n)(hp:aT n p)(hb:base+i<p.size)(h:R (λ_=>some (bp left lt p k base i)) (av P ER g)) :
  aJ n lt (λe=>elem' (aQ e p) (base+i)>>=λx=>if left=true then lt' x (dD e k) else lt' (dD e k) x>>=λr=>pure (r.map (!·))) (av P ER g) R:=by
 refine ay (cu (p:=p) hb (bg (λz=>jR (hp.at h0 _) hk ?_) (λz=>ay (jR hk (hp.at h0 _) (aF ?_)))))
 ·rw[bp,if_pos z] at h;exact h
 ·rw[bp,if_neg z] at h;exact h
theorem iP{left:Bool}{k base m hint:Nat}{R:(Ev->Option Nat)->(Ev->SortSt)->Prop}(h0:0<n)(hk:k<n)(hp:aT n p)(hh:hint<m)(hb:base+m<=p.size)
  (hm:∀i j,i<=j->j<m->bp left lt p k base j=true->bp left lt p k base i=true)
  (h:∀r,r<=m->(∀i,i<r->bp left lt p k base i=true)->(∀i,r<=i->i<m->bp left lt p k base i=false)->R (λ_=>some r) (av P ER g)) :
  aJ n lt (λe=>As left (dD e k) (aQ e p) base m hint) (av P ER g) R:=by
 have hm':∀i j,i<=j->j<m->bp left lt p k base i=false->bp left lt p k base j=false:=λi j Go hj z=>by
  cases e:bp left lt p k base j with
  |false=>rfl
  |true=>rw[hm i j Go hj e] at z;cases z
 refine ay (jS h0 hk hp (by omega) ?_);dsimp only;refine bg (λz=>?_) (λz=>?_)
 ·refine ay (aJ.mono (cT (fun i c y=>∃ la of:Nat,c=(fun _=>(none,la,of))/\y=av P ER g/\la<of/\i+1<=of/\hint+la<m/\bp left lt p k base (hint+la)=true)
   (λc y=>∃la of:Nat,c=(λ_=>(none,la,of))/\y=av P ER g/\la<of/\hint+la<m/\bp left lt p k base (hint+la)=true/\(m-hint<=of∨(hint+of<m/\bp left lt p k base (hint+of)=false))) ?_ ?_ ⟨_,_,rfl,rfl,by omega,by omega,by omega,z⟩) ?_)
  ·rintro i c0 y0 _ _ hh;apply hid2 c0 y0;intro _ γ;obtain⟨la,of,rfl,rfl,h1,h2,h3,GM⟩:=hh;refine γ _ _ ?_;dsimp only;refine bg (λhge=>aF (.inl ⟨_,rfl,_,_,rfl,rfl,h1,h3,GM,.inl hge⟩)) (λEX=>?_);refine ay (jS h0 hk hp (by omega) ?_);dsimp only;exact bg (λq=>aF (.inl ⟨_,rfl,_,_,rfl,rfl,h1,h3,GM,.inr ⟨by omega,by simpa using q⟩⟩)) (λq=>aF (.inr ⟨_,rfl,_,_,rfl,rfl,by omega,by omega,by omega,by simpa using q⟩))
  ·rintro c0 y0 hh;apply hid2 c0 y0;intro _ γ;obtain⟨la,of,rfl,rfl,h1,h2,h3,GM⟩:=hh;refine γ _ _ ?_;exact⟨la,of,rfl,rfl,h1,h3,GM,.inl (by omega)⟩
  ·rintro c0 y0 hh;apply hid2 c0 y0;intro _ γ;obtain⟨la,of,rfl,rfl,h1,h3,GM,Hy⟩:=hh;refine γ _ _ ?_;dsimp only
   refine ay (aJ.mono (cT (λi c y=>∃lo hi,c=(λ_=>(none,lo,hi))/\y=av P ER g/\lo<=hi/\hi<=m/\hi-lo<=m-i/\(∀i,i<lo->bp left lt p k base i=true)/\(∀i,hi<=i->i<m->bp left lt p k base i=false))
    (λc y=>∃lo hi,c=(λ_=>(none,lo,hi))/\y=av P ER g/\lo=hi/\hi<=m/\(∀i,i<lo->bp left lt p k base i=true)/\(∀i,hi<=i->i<m->bp left lt p k base i=false)) ?_ ?_ ⟨_,_,rfl,rfl,by omega,by omega,by omega,?_,?_⟩) ?_)
   ·rintro i c0 y0 _ _ hh;apply hid2 c0 y0;intro _ γ;obtain⟨lo,hi,rfl,rfl,h1,h2,h3,hA,hB⟩:=hh;refine γ _ _ ?_;dsimp only;refine bg (λhge=>aF (.inl ⟨_,rfl,_,_,rfl,rfl,by omega,h2,hA,hB⟩)) (λEX=>?_);refine ay (jS h0 hk hp (by omega) ?_);dsimp only;refine bg (λq=>aF (.inr ⟨_,rfl,_,_,rfl,rfl,by omega,h2,by omega,λi hi=>hm i _ (by omega) (by omega) q,hB⟩)) (λq=>aF (.inr ⟨_,rfl,_,_,rfl,rfl,by omega,by omega,by omega,hA,λi h1 h2=>hm' _ i h1 h2 (by simpa using q)⟩))
   ·rintro c0 y0 hh;apply hid2 c0 y0;intro _ γ;obtain⟨lo,hi,rfl,rfl,h1,h2,h3,hA,hB⟩:=hh;refine γ _ _ ?_;exact⟨lo,hi,rfl,rfl,by omega,h2,hA,hB⟩
   ·exact λi hi=>hm i _ (by omega) h3 GM
   ·intro i h4 h5
    rcases Hy with Hy|⟨Hy,hex2⟩
    ·omega
    ·exact hm' _ i (by omega) h5 hex2
   ·rintro c0 y0 hh;apply hid2 c0 y0;intro _ γ;obtain⟨lo,hi,rfl,rfl,rfl,h2,hA,hB⟩:=hh;refine γ _ _ ?_;exact aF (h _ h2 hA hB)
 ·refine ay (aJ.mono (cT (fun i c y=>∃ la of:Nat,c=(fun _=>(none,la,of))/\y=av P ER g/\la<of/\i+1<=of/\la<=hint/\bp left lt p k base (hint-la)=false)
   (λc y=>∃la of:Nat,c=(λ_=>(none,la,of))/\y=av P ER g/\la<of/\la<=hint/\bp left lt p k base (hint-la)=false/\(hint+1<=of∨(of<=hint/\bp left lt p k base (hint-of)=true))) ?_ ?_ ⟨_,_,rfl,rfl,by omega,by omega,by omega,by simpa using z⟩) ?_)
  ·rintro i c0 y0 _ _ hh;apply hid2 c0 y0;intro _ γ;obtain⟨la,of,rfl,rfl,h1,h2,h3,GM⟩:=hh;refine γ _ _ ?_;dsimp only;refine bg (λhge=>aF (.inl ⟨_,rfl,_,_,rfl,rfl,h1,h3,GM,.inl hge⟩)) (λEX=>?_);refine ay (jS h0 hk hp (by omega) ?_);dsimp only;exact bg (λq=>aF (.inl ⟨_,rfl,_,_,rfl,rfl,h1,h3,GM,.inr ⟨by omega,q⟩⟩)) (λq=>aF (.inr ⟨_,rfl,_,_,rfl,rfl,by omega,by omega,by omega,by simpa using q⟩))
  ·rintro c0 y0 hh;apply hid2 c0 y0;intro _ γ;obtain⟨la,of,rfl,rfl,h1,h2,h3,GM⟩:=hh;refine γ _ _ ?_;exact⟨la,of,rfl,rfl,h1,h3,GM,.inl (by omega)⟩
  ·rintro c0 y0 hh;apply hid2 c0 y0;intro _ γ;obtain⟨la,of,rfl,rfl,h1,h3,GM,Hy⟩:=hh;refine γ _ _ ?_;dsimp only
   refine ay (aJ.mono (cT (λi c y=>∃lo hi,c=(λ_=>(none,lo,hi))/\y=av P ER g/\lo<=hi/\hi<=m/\hi-lo<=m-i/\(∀i,i<lo->bp left lt p k base i=true)/\(∀i,hi<=i->i<m->bp left lt p k base i=false))
    (λc y=>∃lo hi,c=(λ_=>(none,lo,hi))/\y=av P ER g/\lo=hi/\hi<=m/\(∀i,i<lo->bp left lt p k base i=true)/\(∀i,hi<=i->i<m->bp left lt p k base i=false)) ?_ ?_ ⟨_,_,rfl,rfl,by omega,by omega,by omega,?_,?_⟩) ?_)
   ·rintro i c0 y0 _ _ hh;apply hid2 c0 y0;intro _ γ;obtain⟨lo,hi,rfl,rfl,h1,h2,h3,hA,hB⟩:=hh;refine γ _ _ ?_;dsimp only;refine bg (λhge=>aF (.inl ⟨_,rfl,_,_,rfl,rfl,by omega,h2,hA,hB⟩)) (λEX=>?_);refine ay (jS h0 hk hp (by omega) ?_);dsimp only;refine bg (λq=>aF (.inr ⟨_,rfl,_,_,rfl,rfl,by omega,h2,by omega,λi hi=>hm i _ (by omega) (by omega) q,hB⟩)) (λq=>aF (.inr ⟨_,rfl,_,_,rfl,rfl,by omega,by omega,by omega,hA,λi h1 h2=>hm' _ i h1 h2 (by simpa using q)⟩))
   ·rintro c0 y0 hh;apply hid2 c0 y0;intro _ γ;obtain⟨lo,hi,rfl,rfl,h1,h2,h3,hA,hB⟩:=hh;refine γ _ _ ?_;exact⟨lo,hi,rfl,rfl,by omega,h2,hA,hB⟩
   ·intro i h4
    rcases Hy with Hy|⟨Hy,hex2⟩
    ·omega
    ·exact hm i _ (by omega) (by omega) hex2
   ·exact λi h4 h5=>hm' _ i h4 h5 GM
   ·rintro c0 y0 hh;apply hid2 c0 y0;intro _ γ;obtain⟨lo,hi,rfl,rfl,rfl,h2,hA,hB⟩:=hh;refine γ _ _ ?_;exact aF (h _ h2 hA hB)
end
def cU(lt:Nat->Nat->Bool)(l:List Nat):Prop:=l.Pairwise λa b=>lt b a=false
structure eQ(lt:Nat->Nat->Bool):Prop where
 as:∀a b,lt a b=true->lt b a=false
 tr:∀a b c,lt b a=false->lt c b=false->lt c a=false
structure MM(lt:Nat->Nat->Bool)(A o a b:List Nat):Prop where
 pm:(o++(a++b)).Perm A
 so:cU lt o
 sa:cU lt a
 sb:cU lt b
 le:∀x∈o,∀y∈a++b,lt y x=false
structure MF(lt:Nat->Nat->Bool)(A o:List Nat):Prop where
 pm:o.Perm A
 so:cU lt o
section
variable {lt:Nat->Nat->Bool}{A o a b t:List Nat}
theorem fF:cU lt (a++b)↔cU lt a/\cU lt b/\∀x∈a,∀y∈b,lt y x=false:=List.pairwise_append
theorem MM.takeA(h:MM lt A o (t++a) b)(hb:∀x∈t,∀y∈b,lt y x=false):MM lt A (o++t) a b:=by
 obtain⟨p,s1,s2,s3,l⟩:=h;obtain⟨q1,q2,q3⟩:=fF.mp s2;refine⟨by simpa [QN] using p,fF.mpr ⟨s1,q1,λx hx y hy=>l x hx y (by simp[hy])⟩,q2,s3,λx hx y hy=>?_⟩;rcases Qq hx with hx|hx
 ·exact l x hx y (by rcases Qq hy with z|z<;>simp[z])
 ·rcases Qq hy with z|z
  ·exact q3 x hx y z
  ·exact hb x hx y z
theorem MM.takeB(h:MM lt A o a (t++b))(ha:∀x∈t,∀y∈a,lt y x=false):MM lt A (o++t) a b:=by
 obtain⟨p,s1,s2,s3,l⟩:=h;obtain⟨q1,q2,q3⟩:=fF.mp s3;refine⟨?_,fF.mpr ⟨s1,q1,λx hx y hy=>l x hx y (by simp[hy])⟩,s2,q2,λx hx y hy=>?_⟩
 ·refine List.Perm.trans ?_ p;rw[QN];refine List.Perm.append_left o ?_;rw[<-QN,<-QN];exact List.Perm.append_right b List.perm_append_comm
 rcases Qq hx with hx|hx
 ·exact l x hx y (by rcases Qq hy with z|z<;>simp[z])
 ·rcases Qq hy with z|z
  ·exact ha x hx y z
  ·exact q3 x hx y z
theorem MM.endA(h:MM lt A o a []):MF lt A (o++a):=by obtain⟨p,s1,s2,s3,l⟩:=h;exact⟨by simpa using p,fF.mpr ⟨s1,s2,λx hx y hy=>l x hx y (by simpa using hy)⟩⟩
theorem MM.endB(h:MM lt A o [] b):MF lt A (o++b):=by obtain⟨p,s1,s2,s3,l⟩:=h;exact⟨by simpa using p,fF.mpr ⟨s1,s3,λx hx y hy=>l x hx y (by simpa using hy)⟩⟩
theorem MM.endBA(h:MM lt A o a b)(hb:∀x∈b,∀y∈a,lt y x=false):MF lt A (o++(b++a)):=by obtain⟨p,s1,s2,s3,l⟩:=h;refine⟨List.Perm.trans (List.Perm.append_left o List.perm_append_comm) p,fF.mpr ⟨s1,fF.mpr ⟨s3,s2,hb⟩,λx hx y hy=>l x hx y ?_⟩⟩;rcases Qq hy with z|z<;>simp[z]
end
theorem rH{p:Array Nat}{i:Nat}(h:i<p.size):p.toList.drop i=p.getD i 0::p.toList.drop (i+1):=by
 have e1:p.getD i 0=p[i]:=by simp[Array.getD,h]
 rw[e1,List.drop_eq_getElem_cons (by simpa using h)];simp
theorem k9{p:Array Nat}{i k:Nat}(h:i+k<=p.size):p.toList.drop i=(p.extract i (i+k)).toList++p.toList.drop (i+k):=by rw[Array.toList_extract];simp only[List.extract];rw[show i+k-i=k by omega,<-List.drop_drop];exact(List.take_append_drop k _).symm
theorem iQ{p:Array Nat}{i:Nat}:(p.extract i p.size).toList=p.toList.drop i:=by rw[Array.toList_extract];simp only[List.extract];rw[QD (by simp)]
theorem lc{p:Array Nat}{i:Nat}{y:Nat}(h:y∈p.toList.drop i):∃j,i<=j/\j<p.size/\y=p.getD j 0:=by obtain⟨j,hj,e⟩:=List.mem_iff_getElem.mp h;rw[List.length_drop,QB] at hj;refine⟨i+j,by lia,by lia,?_⟩;rw[List.getElem_drop] at e;rw[<-e];simp[Array.getD,show i+j<p.size by lia]
theorem jT{p:Array Nat}{i k:Nat}{y:Nat}(h:y∈(p.extract i (i+k)).toList):∃j,j<k/\i+j<p.size/\y=p.getD (i+j) 0:=by obtain⟨j,hj,e⟩:=List.mem_iff_getElem.mp h;simp at hj;refine⟨j,by omega,by omega,?_⟩;rw[<-e];simp[Array.getD,show i+j<p.size by omega]
theorem gW{lt:Nat->Nat->Bool}{p:Array Nat}(h:cU lt p.toList){i j:Nat}(Go:i<j)(hj:j<p.size):lt (p.getD j 0) (p.getD i 0)=false:=by have:=List.pairwise_iff_getElem.mp h i j (by simpa using Nat.lt_trans Go hj) (by simpa using hj) Go;simpa [Array.getD,hj,Nat.lt_trans Go hj] using this
structure bB(n:Nat)(lt:Nat->Nat->Bool)(pa pb po:Array Nat)(ia ib:Nat):Prop where
 en:aT n po
 mm:MM lt (pa.toList++pb.toList) po.toList (pa.toList.drop ia) (pb.toList.drop ib)
structure GF(n:Nat)(lt:Nat->Nat->Bool)(A:List Nat)(po:Array Nat):Prop where
 en:aT n po
 mf:MF lt A po.toList
section
variable {n:Nat}{lt:Nat->Nat->Bool}{pa pb po:Array Nat}{ia ib k:Nat}
theorem bB.pushB(h0:0<n)(hb:aT n pb)(h:bB n lt pa pb po ia ib)(hi:ib<pb.size)(q:∀y∈pa.toList.drop ia,lt y (pb.getD ib 0)=false):bB n lt pa pb (po.push (pb.getD ib 0)) ia (ib+1):=by obtain⟨e,m⟩:=h;rw[rH hi] at m;refine⟨e.push (hb.at h0 _),?_⟩;rw[Array.toList_push];exact MM.takeB (t:=[pb.getD ib 0]) m λx hx y hy=>by rw[Qp hx];exact q y hy
theorem bB.pushA(h0:0<n)(ha:aT n pa)(h:bB n lt pa pb po ia ib)(hi:ia<pa.size)(q:∀y∈pb.toList.drop ib,lt y (pa.getD ia 0)=false):bB n lt pa pb (po.push (pa.getD ia 0)) (ia+1) ib:=by obtain⟨e,m⟩:=h;rw[rH hi] at m;refine⟨e.push (ha.at h0 _),?_⟩;rw[Array.toList_push];exact MM.takeA (t:=[pa.getD ia 0]) m λx hx y hy=>by rw[Qp hx];exact q y hy
theorem bB.extB(hb:aT n pb)(h:bB n lt pa pb po ia ib)(hi:ib+k<=pb.size)(q:∀j,j<k->∀y∈pa.toList.drop ia,lt y (pb.getD (ib+j) 0)=false):bB n lt pa pb (po++pb.extract ib (ib+k)) ia (ib+k):=by obtain⟨e,m⟩:=h;rw[k9 hi] at m;refine⟨e.app (hb.ext _ _),?_⟩;rw[QP];refine MM.takeB m λx hx y hy=>?_;obtain⟨j,h1,h2,rfl⟩:=jT hx;exact q j h1 y hy
theorem bB.extA(ha:aT n pa)(h:bB n lt pa pb po ia ib)(hi:ia+k<=pa.size)(q:∀j,j<k->∀y∈pb.toList.drop ib,lt y (pa.getD (ia+j) 0)=false):bB n lt pa pb (po++pa.extract ia (ia+k)) (ia+k) ib:=by obtain⟨e,m⟩:=h;rw[k9 hi] at m;refine⟨e.app (ha.ext _ _),?_⟩;rw[QP];refine MM.takeA m λx hx y hy=>?_;obtain⟨j,h1,h2,rfl⟩:=jT hx;exact q j h1 y hy
theorem rJ{p:Array Nat}{i:Nat}(h:p.size<=i):p.toList.drop i=[]:=List.drop_eq_nil_of_le (by simpa using h)
theorem bB.finB(ha:aT n pa)(hb:aT n pb)(h:bB n lt pa pb po ia ib)(e:pb.size<=ib):GF n lt (pa.toList++pb.toList) (po++pa.extract ia pa.size++pb.extract ib pb.size):=by obtain⟨en,m⟩:=h;refine⟨(en.app (ha.ext _ _)).app (hb.ext _ _),?_⟩;rw[QP,QP,iQ,iQ];rw[rJ e] at m ⊢;rw[Qy];exact m.endA
theorem bB.finA(ha:aT n pa)(hb:aT n pb)(h:bB n lt pa pb po ia ib)(e:pa.size<=ia):GF n lt (pa.toList++pb.toList) (po++pa.extract ia pa.size++pb.extract ib pb.size):=by obtain⟨en,m⟩:=h;refine⟨(en.app (ha.ext _ _)).app (hb.ext _ _),?_⟩;rw[QP,QP,iQ,iQ];rw[rJ e] at m ⊢;rw[Qy];exact m.endB
theorem bB.finL(ha:aT n pa)(hb:aT n pb)(hl:∀y∈pb.toList,lt (pa.getD (pa.size-1) 0) y=false)(h:bB n lt pa pb po ia ib)(e:ia+1=pa.size):GF n lt (pa.toList++pb.toList) (po++pb.extract ib pb.size++pa.extract ia pa.size):=by obtain⟨en,m⟩:=h;refine⟨(en.app (hb.ext _ _)).app (ha.ext _ _),?_⟩;rw[QP,QP,iQ,iQ,QN];refine m.endBA λx hx y hy=>?_;obtain⟨j,h1,h2,rfl⟩:=lc hy;rw[show j=pa.size-1 by lia];exact hl x (List.mem_of_mem_drop hx)
theorem iR(O:eQ lt)(sa:cU lt pa.toList){x:Nat}(h:lt (pa.getD ia 0) x=false):∀y∈pa.toList.drop ia,lt y x=false:=λy hy=>by
 obtain⟨j,h1,h2,rfl⟩:=lc hy;by_cases e:j=ia
 ·subst e;exact h
 ·exact O.tr _ _ _ h (gW sa (by lia) h2)
end
section
variable {n:Nat}{lt:Nat->Nat->Bool}{α:Type}{x:Ev->SortSt}
theorem rK{c:Prop}{i0:Ev->Decidable c}{q:Ev->StateT SortSt Sem α}{R:(Ev->α)->(Ev->SortSt)->Prop}{X d:Array Nat->Nat->Ev->StateT SortSt Sem α}{c1:Nat->Prop}{i1:∀v,Ev->Decidable (c1 v)}
  (po:Array Nat) (ia:Nat) (e:q=X po ia) (C J:Array Nat->Nat->Prop) (c0:¬c->C po ia) (h:∀po ia,C po ia->aJ n lt (X po ia) x R) (hd:∀po ia,J po ia->c1 ia->aJ n lt (d po ia) x R) (hx:∀po ia,J po ia->¬c1 ia->C po ia) :
  ∀FR F6,J FR F6->aJ n lt (λe=>@ite _ c (i0 e) (@ite _ (c1 F6) (i1 F6 e) (d FR F6 e) (X FR F6 e)) (q e)) x R:=
 λFR F6 hj=>bg (λ_=>bg (λz=>hd _ _ hj z) (λz=>h _ _ (hx _ _ hj z))) (λz=>e ▸ h _ _ (c0 z))
theorem rL{c:Prop}{i0:Ev->Decidable c}{q:Ev->StateT SortSt Sem α}{R:(Ev->α)->(Ev->SortSt)->Prop}{X d d2:Array Nat->Nat->Ev->StateT SortSt Sem α}{c1 c2:Nat->Prop}{i1:∀v,Ev->Decidable (c1 v)}{i2:∀v,Ev->Decidable (c2 v)}
  (po:Array Nat) (ia:Nat) (e:q=X po ia) (C J:Array Nat->Nat->Prop) (c0:¬c->C po ia) (h:∀po ia,C po ia->aJ n lt (X po ia) x R) (hd:∀po ia,J po ia->c1 ia->aJ n lt (d po ia) x R) (GJ:∀po ia,J po ia->c2 ia->aJ n lt (d2 po ia) x R) (hx:∀po ia,J po ia->¬c1 ia->¬c2 ia->C po ia) :
  ∀FR F6,J FR F6->aJ n lt (λe=>@ite _ c (i0 e) (@ite _ (c1 F6) (i1 F6 e) (d FR F6 e) (@ite _ (c2 F6) (i2 F6 e) (d2 FR F6 e) (X FR F6 e))) (q e)) x R:=
 λFR F6 hj=>bg (λ_=>bg (λz=>hd _ _ hj z) (λz=>bg (λz2=>GJ _ _ hj z2) (λz2=>h _ _ (hx _ _ hj z z2)))) (λz=>e ▸ h _ _ (c0 z))
end
section
variable {n:Nat}{lt:Nat->Nat->Bool}{P pa pb:Array Nat}{ER:Array (Nat×Nat×Nat)}{g:Nat}
theorem AB{R:(Ev->Array Keyed)->(Ev->SortSt)->Prop}(O:eQ lt)(h0:0<n)(ha:aT n pa)(hb:aT n pb)(ha0:0<pa.size)(hb0:0<pb.size)(sa:cU lt pa.toList)(sb:cU lt pb.toList)
  (hf:lt (pb.getD 0 0) (pa.getD 0 0)=true) (hl:∀y∈pb.toList,lt (pa.getD (pa.size-1) 0) y=false) (h:∀po g',GF n lt (pa.toList++pb.toList) po->R (λe=>aQ e po) (av P ER g')) :
  aJ n lt (λe=>At (aQ e pa) (aQ e pb)) (av P ER g) R:=by
 have G0:bB n lt pa pb #[pb.getD 0 0] 0 1:=by
  have G:bB n lt pa pb #[] 0 0:=⟨λx hx=>by simp at hx,by simp,List.Pairwise.nil,by simpa using sa,by simpa using sb,λx hx=>by simp at hx⟩
  simpa using G.pushB h0 hb hb0 (iR O sa (O.as _ _ hf))
 refine ay (iN ?_);refine ay (cu (p:=pb) hb0 ?_);dsimp only
 try simp only[dE,dZ,d0,dR,d4]
 refine dS (λz=>aF (h _ _ (G0.finB ha hb (by omega)))) (λGM=>dS (λz=>aF (h _ _ (G0.finL ha hb hl (by omega)))) (λha1=>fE ?_));dsimp only
 refine ay (aJ.mono (cT
  (λi c y=>∃po ia ib mg g',c=(λe=>(none,aQ e po,ia,ib,mg))/\y=av P ER g'/\bB n lt pa pb po ia ib/\ia+1<pa.size/\ib<pb.size/\i+1<=ia+ib)
  (λc y=>∃po,∃r:Ev->Array Keyed×Nat×Nat×Nat,∃g',c=(λe=>(some (aQ e po),r e))/\y=av P ER g'/\GF n lt (pa.toList++pb.toList) po) ?_ ?_ ⟨_,_,_,_,_,rfl,rfl,G0,by omega,by omega,by omega⟩) ?_)
 ·rintro t c0 y0 _ htt hh;apply hid2 c0 y0;intro _ γ;obtain⟨po,ia,ib,mg,g',rfl,rfl,E4,IG,Gp,F7⟩:=hh;refine γ _ _ ?_;dsimp only
  refine ay (aJ.mono (cT
   (λi c y=>∃po ia ib ac bc g',c=(λe=>(none,aQ e po,ia,ib,ac,bc))/\y=av P ER g'/\bB n lt pa pb po ia ib/\ia+1<pa.size/\ib<pb.size/\i+t+1<=ia+ib)
   (λc y=>(∃po,∃r:Ev->Array Keyed×Nat×Nat×Nat×Nat,∃g',c=(λe=>(some (aQ e po),r e))/\y=av P ER g'/\GF n lt (pa.toList++pb.toList) po)∨∃po ia ib ac bc g',c=(λe=>(none,aQ e po,ia,ib,ac,bc))/\y=av P ER g'/\bB n lt pa pb po ia ib/\ia+1<pa.size/\ib<pb.size/\t+2<=ia+ib) ?_ ?_ ⟨_,_,_,_,_,_,rfl,rfl,E4,IG,Gp,by omega⟩) ?_)
  ·rintro i c0 y0 _ _ hh;apply hid2 c0 y0;intro _ γ;obtain⟨po,ia,ib,ac,bc,g',rfl,rfl,E4,IG,Gp,F7⟩:=hh;refine γ _ _ ?_;dsimp only;refine ay (cu Gp (ay (cu (by omega) (ay (jR (hb.at h0 _) (ha.at h0 _) ?_)))));dsimp only;refine bg (λzl=>ay (cu Gp ?_)) (λzl=>ay (cu (by omega) ?_))
   ·have G:=E4.pushB h0 hb Gp (iR O sa (O.as _ _ zl));dsimp only
    try simp only[dE,dZ,d0,dR,d4]
    exact dS (λz=>aF (.inl ⟨_,rfl,.inl ⟨_,_,_,rfl,rfl,G.finB ha hb (by omega)⟩⟩)) (λ_=>bg (λ_=>aF (.inl ⟨_,rfl,.inr ⟨_,_,_,_,_,_,rfl,rfl,G,by omega,by omega,by omega⟩⟩)) (λ_=>aF (.inr ⟨_,rfl,⟨_,_,_,_,_,_,rfl,rfl,G,by omega,by omega,by omega⟩⟩)))
   ·have G:=E4.pushA h0 ha (by omega) (iR O sb (by simpa using zl));dsimp only
    try simp only[dE,dZ,d0,dR,d4]
    exact dS (λz=>aF (.inl ⟨_,rfl,.inl ⟨_,_,_,rfl,rfl,G.finL ha hb hl (by omega)⟩⟩)) (λ_=>bg (λ_=>aF (.inl ⟨_,rfl,.inr ⟨_,_,_,_,_,_,rfl,rfl,G,by omega,by omega,by omega⟩⟩)) (λ_=>aF (.inr ⟨_,rfl,⟨_,_,_,_,_,_,rfl,rfl,G,by omega,by omega,by omega⟩⟩)))
  ·rintro c0 y0 hh;apply hid2 c0 y0;intro _ γ;obtain⟨po,ia,ib,ac,bc,g',rfl,rfl,E4,IG,Gp,F7⟩:=hh;refine γ _ _ ?_;exact .inr ⟨po,ia,ib,ac,bc,g',rfl,rfl,E4,IG,Gp,by omega⟩
  ·rintro c0 y0 hh;apply hid2 c0 y0;intro _ γ;obtain (⟨po,r,g',rfl,rfl,E4⟩|⟨po,ia,ib,ac,bc,g',rfl,rfl,E4,IG,Gp,F7⟩):=hh<;>refine γ _ _ ?_
   ·exact aF (.inl ⟨_,rfl,_,_,_,rfl,rfl,E4⟩)
   refine ay (iN ?_);dsimp only
   refine ay (aJ.mono (cT
    (λi c y=>∃po ia ib mg ac bc g',c=(λe=>(none,aQ e po,ia,ib,mg,ac,bc))/\y=av P ER g'/\bB n lt pa pb po ia ib/\ia+1<pa.size/\ib<pb.size/\t+2<=ia+ib)
    (λc y=>(∃po,∃r:Ev->Array Keyed×Nat×Nat×Nat×Nat×Nat,∃g',c=(λe=>(some (aQ e po),r e))/\y=av P ER g'/\GF n lt (pa.toList++pb.toList) po)∨∃po ia ib mg ac bc g',c=(λe=>(none,aQ e po,ia,ib,mg,ac,bc))/\y=av P ER g'/\bB n lt pa pb po ia ib/\ia+1<pa.size/\ib<pb.size/\t+2<=ia+ib) ?_ (λ_ _ z=>.inr z) ⟨_,_,_,_,_,_,_,rfl,rfl,E4,IG,Gp,F7⟩) ?_)
   ·rintro i c0 y0 _ _ hh;apply hid2 c0 y0;intro _ γ;obtain⟨po,ia,ib,mg,ac,bc,g',rfl,rfl,E4,IG,Gp,F7⟩:=hh;refine γ _ _ ?_;dsimp only;dsimp +instances only;generalize mg-1=m1;revert m1;refine rD mg rfl λmg=>?_;refine ay (k7 (ay (cu Gp (ay (iP h0 (hb.at h0 _) ha (by omega) (by omega) ?_ λk hk hA hB=>?_)))))
    ·intro i j Go hj;simp only[bp,QR,if_false,Bool.not_eq_true'];intro z;by_cases e:i=j
     ·subst e;exact z
     ·exact O.tr _ _ _ (gW sa (by omega) (by omega)) z
    dsimp +instances only
    try simp only[dE,dZ,d0,dR,d4]
    simp only[bp,QR,if_false,Bool.not_eq_true',Bool.not_eq_false'] at hA hB;have hJ:bB n lt pa pb (po++pa.extract ia (ia+k)) (ia+k) ib/\ia<=ia+k/\ia+k<=pa.size/\(∀y∈pa.toList.drop (ia+k),lt y (pb.getD ib 0)=false):=by refine⟨E4.extA ha (by omega) λj hj=>iR O sb (hA j hj),by omega,by omega,λy hy=>?_⟩;refine cr λ_ γ=>?_;obtain⟨j,h1,h2,rfl⟩:=lc hy;refine γ ?_;have:=hB (j-ia) (by omega) (by omega);rw[show ia+(j-ia)=j by omega] at this;exact O.as _ _ this
    have hK:¬k>0->bB n lt pa pb po ia ib/\ia+1<pa.size/\t+2<=ia+ib/\(∀y∈pa.toList.drop ia,lt y (pb.getD ib 0)=false):=λz=>by
     have e:ia+k=ia:=by omega
     exact⟨E4,IG,F7,by have:=hJ.2.2.2;rwa [e] at this⟩
    clear hA hB;generalize po++pa.extract ia (ia+k)=FR at hJ ⊢;generalize ia+k=F6 at hJ ⊢;revert hJ;revert F6;revert FR
    refine rL po ia rfl (λpo ia=>bB n lt pa pb po ia ib/\ia+1<pa.size/\t+2<=ia+ib/\(∀y∈pa.toList.drop ia,lt y (pb.getD ib 0)=false)) (λFR F6=>bB n lt pa pb FR F6 ib/\ia<=F6/\F6<=pa.size/\(∀y∈pa.toList.drop F6,lt y (pb.getD ib 0)=false)) hK ?_
     (λpo ia hj z=>aF (.inl ⟨_,rfl,.inl ⟨_,_,_,rfl,rfl,hj.1.finL ha hb hl (by simpa using z)⟩⟩)) (λpo ia hj z=>aF (.inl ⟨_,rfl,.inl ⟨_,_,_,rfl,rfl,hj.1.finA ha hb (by simp only[beq_iff_eq] at z;omega)⟩⟩)) (λpo ia hj z1 z2=>by simp only[beq_iff_eq] at z1 z2;exact⟨hj.1,by omega,by omega,hj.2.2.2⟩)
    rintro po ia hh;refine cr λ_ γ=>?_;obtain⟨E4,IG,F7,hq⟩:=hh;refine γ ?_;refine ay (cu Gp ?_);have G:=E4.pushB h0 hb Gp hq;dsimp +instances only
    try simp only[dE,dZ,d0,dR,d4]
    refine dS (λz=>aF (.inl ⟨_,rfl,.inl ⟨_,_,_,rfl,rfl,G.finB ha hb (by omega)⟩⟩)) λE7=>ay (cu (by omega) (ay (iP h0 (ha.at h0 _) hb (by omega) (by omega) ?_ λk' G1 hA hB=>?_)))
    ·intro i j Go hj;simp only[bp,if_true];intro z;by_cases e:i=j
     ·subst e;exact z
     ·have h1:=gW sb (i:=ib+1+i) (j:=ib+1+j) (by omega) (by omega)
      cases e2:lt (pb.getD (ib+1+i) 0) (pa.getD ia 0) with
      |true=>rfl
      |false=>rw[O.tr _ _ _ e2 h1] at z;cases z
    dsimp +instances only
    try simp only[dE,dZ,d0,dR,d4]
    simp only[bp,if_true] at hA hB
    have HS:ib+1<pb.size/\t+3<=ia+(ib+1):=⟨by omega,by omega⟩
    generalize po.push (pb.getD ib 0)=po at G ⊢;clear hq E4;generalize ib+1=ib at HS G1 hA hB G ⊢;have hJ:bB n lt pa pb (po++pb.extract ib (ib+k')) ia (ib+k')/\ib<=ib+k'/\ib+k'<=pb.size/\(∀y∈pb.toList.drop (ib+k'),lt y (pa.getD ia 0)=false):=by refine⟨G.extB hb (by omega) λj hj=>iR O sa (O.as _ _ (hA j hj)),by omega,by omega,λy hy=>?_⟩;refine cr λ_ γ=>?_;obtain⟨j,h1,h2,rfl⟩:=lc hy;refine γ ?_;have:=hB (j-ib) (by omega) (by omega);rwa [show ib+(j-ib)=j by omega] at this
    have hK:¬k'>0->bB n lt pa pb po ia ib/\ib<pb.size/\t+2<=ia+ib/\(∀y∈pb.toList.drop ib,lt y (pa.getD ia 0)=false):=λz=>by
     have e:ib+k'=ib:=by omega
     exact⟨G,HS.1,by omega,by have:=hJ.2.2.2;rwa [e] at this⟩
    clear hA hB;generalize po++pb.extract ib (ib+k')=FR at hJ ⊢;generalize ib+k'=ib1 at hJ ⊢;revert hJ;revert ib1;revert FR
    refine rK po ib rfl (λpo ib=>bB n lt pa pb po ia ib/\ib<pb.size/\t+2<=ia+ib/\(∀y∈pb.toList.drop ib,lt y (pa.getD ia 0)=false)) (λFR ib1=>bB n lt pa pb FR ia ib1/\ib<=ib1/\ib1<=pb.size/\(∀y∈pb.toList.drop ib1,lt y (pa.getD ia 0)=false)) hK ?_
     (λpo ib hj z=>aF (.inl ⟨_,rfl,.inl ⟨_,_,_,rfl,rfl,hj.1.finB ha hb (by simp only[beq_iff_eq] at z;omega)⟩⟩)) (λpo ib hj z1=>by simp only[beq_iff_eq] at z1;exact⟨hj.1,by omega,by omega,hj.2.2.2⟩)
    rintro po ib hh;refine cr λ_ γ=>?_;obtain⟨E4,Gp,F7,hq⟩:=hh;refine γ ?_;refine ay (cu (by omega) ?_);have G:=E4.pushA h0 ha (by omega) hq;dsimp +instances only
    try simp only[dE,dZ,d0,dR,d4]
    exact dS (λz=>aF (.inl ⟨_,rfl,.inl ⟨_,_,_,rfl,rfl,G.finL ha hb hl (by omega)⟩⟩)) λ_=>bg (λ_=>aF (.inl ⟨_,rfl,.inr ⟨_,_,_,_,_,_,_,rfl,rfl,G,by omega,by omega,by omega⟩⟩)) (λ_=>aF (.inr ⟨_,rfl,⟨_,_,_,_,_,_,_,rfl,rfl,G,by omega,by omega,by omega⟩⟩))
   ·rintro c0 y0 hh;apply hid2 c0 y0;intro _ γ;obtain (⟨po,r,g',rfl,rfl,E4⟩|⟨po,ia,ib,mg,ac,bc,g',rfl,rfl,E4,IG,Gp,F7⟩):=hh<;>refine γ _ _ ?_
    ·exact aF (.inl ⟨_,rfl,_,_,_,rfl,rfl,E4⟩)
    dsimp only;exact ay (k7 (aF (.inr ⟨_,rfl,_,_,_,_,_,rfl,rfl,E4,IG,Gp,by omega⟩)))
 ·rintro c0 y0 hh;apply hid2 c0 y0;intro _ γ;obtain⟨po,ia,ib,mg,g',rfl,rfl,E4,IG,Gp,F7⟩:=hh;refine γ _ _ ?_;exfalso;omega
 ·rintro c0 y0 hh;apply hid2 c0 y0;intro _ γ;obtain⟨po,r,g',rfl,rfl,E4⟩:=hh;refine γ _ _ ?_;exact aF (h _ _ E4)
end
noncomputable def jU(lt:Nat->Nat->Bool):Nat->Nat->Bool:=λa b=>lt b a
section
variable {lt:Nat->Nat->Bool}{A o a b t:List Nat}
theorem MM.endAB(h:MM lt A o a b)(hb:∀x∈a,∀y∈b,lt y x=false):MF lt A (o++(a++b)):=by obtain⟨p,s1,s2,s3,l⟩:=h;exact⟨p,fF.mpr ⟨s1,fF.mpr ⟨s2,s3,hb⟩,l⟩⟩
theorem rM{l:List Nat}(h:cU lt l):cU (jU lt) l.reverse:=List.pairwise_reverse.mpr h
theorem MF.rev(h:MF (jU lt) A o):MF lt A o.reverse:=⟨(List.reverse_perm o).trans h.pm,List.pairwise_reverse.mpr h.so⟩
end
theorem rN{p:Array Nat}{i:Nat}(h0:0<i)(h:i<=p.size):(p.toList.take i).reverse=p.getD (i-1) 0::(p.toList.take (i-1)).reverse:=by
 obtain⟨j,rfl⟩:∃j,i=j+1:=⟨i-1,by lia⟩
 have hj:j<p.size:=by lia
 have e1:p.getD j 0=p[j]:=by simp[Array.getD,hj]
 rw[show j+1-1=j by lia,e1,Qm (by simpa using hj),List.reverse_append];simp
theorem rO{p:Array Nat}{i j:Nat}(h:i<=j)(hj:j<=p.size):(p.toList.take j).reverse=((p.extract i j).reverse).toList++(p.toList.take i).reverse:=by
 rw[Array.toList_reverse,Array.toList_extract,<-List.reverse_append];simp only[List.extract];congr 1
 obtain⟨k,rfl⟩:∃k,j=i+k:=⟨j-i,by omega⟩
 rw[show i+k-i=k by omega,List.take_add]
theorem iS{p:Array Nat}{i:Nat}:(p.extract 0 i).toList=p.toList.take i:=by rw[Array.toList_extract];simp[List.extract]
theorem jV{p:Array Nat}{i y:Nat}(h:y∈(p.toList.take i).reverse):∃j,j<i/\j<p.size/\y=p.getD j 0:=by obtain⟨j,hj,e⟩:=List.mem_iff_getElem.mp (List.mem_reverse.mp h);rw[Qx,QB] at hj;refine⟨j,by lia,by lia,?_⟩;rw[List.getElem_take] at e;rw[<-e];simp[Array.getD,show j<p.size by lia]
theorem rP{p:Array Nat}{i j y:Nat}(h:y∈((p.extract i j).reverse).toList):∃k,i<=k/\k<j/\k<p.size/\y=p.getD k 0:=by rw[Array.toList_reverse] at h;obtain⟨k,hk,e⟩:=List.mem_iff_getElem.mp (List.mem_reverse.mp h);simp at hk;refine⟨i+k,by lia,by lia,by lia,?_⟩;rw[<-e];simp[Array.getD,show i+k<p.size by lia]
structure bC(n:Nat)(lt:Nat->Nat->Bool)(pa pb po:Array Nat)(na nb:Nat):Prop where
 en:aT n po
 mm:MM (jU lt) (pa.toList++pb.toList) po.toList (pa.toList.take na).reverse (pb.toList.take nb).reverse
section
variable {n:Nat}{lt:Nat->Nat->Bool}{pa pb po:Array Nat}{na nb k:Nat}
theorem bC.pushB(h0:0<n)(hb:aT n pb)(h:bC n lt pa pb po na nb)(hi:0<nb)(hj:nb<=pb.size)(q:∀y∈(pa.toList.take na).reverse,lt (pb.getD (nb-1) 0) y=false):bC n lt pa pb (po.push (pb.getD (nb-1) 0)) na (nb-1):=by obtain⟨e,m⟩:=h;rw[rN hi hj] at m;refine⟨e.push (hb.at h0 _),?_⟩;rw[Array.toList_push];exact MM.takeB (t:=[pb.getD (nb-1) 0]) m λx hx y hy=>by rw[Qp hx];exact q y hy
theorem bC.pushA(h0:0<n)(ha:aT n pa)(h:bC n lt pa pb po na nb)(hi:0<na)(hj:na<=pa.size)(q:∀y∈(pb.toList.take nb).reverse,lt (pa.getD (na-1) 0) y=false):bC n lt pa pb (po.push (pa.getD (na-1) 0)) (na-1) nb:=by obtain⟨e,m⟩:=h;rw[rN hi hj] at m;refine⟨e.push (ha.at h0 _),?_⟩;rw[Array.toList_push];exact MM.takeA (t:=[pa.getD (na-1) 0]) m λx hx y hy=>by rw[Qp hx];exact q y hy
theorem bC.extB(hb:aT n pb)(h:bC n lt pa pb po na nb)(hi:k<=nb)(hj:nb<=pb.size)(q:∀j,k<=j->j<nb->∀y∈(pa.toList.take na).reverse,lt (pb.getD j 0) y=false):bC n lt pa pb (po++(pb.extract k nb).reverse) na k:=by obtain⟨e,m⟩:=h;rw[rO hi hj] at m;refine⟨e.app (hb.ext _ _).reverse,?_⟩;rw[QP];refine MM.takeB m λx hx y hy=>?_;obtain⟨j,h1,h2,_,rfl⟩:=rP hx;exact q j h1 h2 y hy
theorem bC.extA(ha:aT n pa)(h:bC n lt pa pb po na nb)(hi:k<=na)(hj:na<=pa.size)(q:∀j,k<=j->j<na->∀y∈(pb.toList.take nb).reverse,lt (pa.getD j 0) y=false):bC n lt pa pb (po++(pa.extract k na).reverse) k nb:=by obtain⟨e,m⟩:=h;rw[rO hi hj] at m;refine⟨e.app (ha.ext _ _).reverse,?_⟩;rw[QP];refine MM.takeA m λx hx y hy=>?_;obtain⟨j,h1,h2,_,rfl⟩:=rP hx;exact q j h1 h2 y hy
theorem bC.finA(ha:aT n pa)(hb:aT n pb)(h:bC n lt pa pb po na nb)(e:na=0):GF n lt (pa.toList++pb.toList) (pa.extract 0 na++pb.extract 0 nb++po.reverse):=by
 subst e;obtain⟨en,m⟩:=h;refine⟨((ha.ext _ _).app (hb.ext _ _)).app en.reverse,?_⟩;rw[QP,QP,iS,iS,Array.toList_reverse];have m':MM (jU lt) (pa.toList++pb.toList) po.toList [] (pb.toList.take nb).reverse:=by simpa using m
 have q:=m'.endB.rev;rw[List.reverse_append,List.reverse_reverse] at q;simpa using q
theorem bC.finB(ha:aT n pa)(hb:aT n pb)(h:bC n lt pa pb po na nb)(e:nb=0):GF n lt (pa.toList++pb.toList) (pa.extract 0 na++pb.extract 0 nb++po.reverse):=by
 subst e;obtain⟨en,m⟩:=h;refine⟨((ha.ext _ _).app (hb.ext _ _)).app en.reverse,?_⟩;rw[QP,QP,iS,iS,Array.toList_reverse];have m':MM (jU lt) (pa.toList++pb.toList) po.toList (pa.toList.take na).reverse []:=by simpa using m
 have q:=m'.endA.rev;rw[List.reverse_append,List.reverse_reverse] at q;simpa using q
theorem bC.finL(ha:aT n pa)(hb:aT n pb)(hl:∀y∈pa.toList,lt y (pb.getD 0 0)=false)(h:bC n lt pa pb po na nb)(e:nb=1):GF n lt (pa.toList++pb.toList) (pb.extract 0 nb++pa.extract 0 na++po.reverse):=by
 subst e;obtain⟨en,m⟩:=h;refine⟨((hb.ext _ _).app (ha.ext _ _)).app en.reverse,?_⟩;rw[QP,QP,iS,iS,Array.toList_reverse]
 have:=(m.endAB λx hx y hy=>by
  obtain⟨j,h1,h2,rfl⟩:=jV hy;rw[show j=0 by lia]
  exact hl x (List.mem_of_mem_take (List.mem_reverse.mp hx))).rev
 simpa using this
theorem lf(O:eQ lt)(sa:cU lt pa.toList){x:Nat}(hn:na<=pa.size)(h:lt x (pa.getD (na-1) 0)=false):∀y∈(pa.toList.take na).reverse,lt x y=false:=λy hy=>by
 obtain⟨j,h1,h2,rfl⟩:=jV hy;by_cases e:j=na-1
 ·subst e;exact h
 ·exact O.tr _ _ _ (gW sa (i:=j) (j:=na-1) (by lia) (by lia)) h
end
section
variable {n:Nat}{lt:Nat->Nat->Bool}{P pa pb:Array Nat}{ER:Array (Nat×Nat×Nat)}{g:Nat}
theorem AC{R:(Ev->Array Keyed)->(Ev->SortSt)->Prop}(O:eQ lt)(h0:0<n)(ha:aT n pa)(hb:aT n pb)(ha0:0<pa.size)(hb0:0<pb.size)(sa:cU lt pa.toList)(sb:cU lt pb.toList)
  (hf:lt (pb.getD 0 0) (pa.getD 0 0)=true) (hl:∀y∈pb.toList,lt (pa.getD (pa.size-1) 0) y=false) (h:∀po g',GF n lt (pa.toList++pb.toList) po->R (λe=>aQ e po) (av P ER g')) :
  aJ n lt (λe=>Au (aQ e pa) (aQ e pb)) (av P ER g) R:=by
 have hl0:∀y∈pa.toList,lt y (pb.getD 0 0)=false:=by simpa using iR O sa (ia:=0) (O.as _ _ hf)
 have G0:bC n lt pa pb #[pa.getD (pa.size-1) 0] (pa.size-1) pb.size:=by
  have G:bC n lt pa pb #[] pa.size pb.size:=by
   refine⟨λx hx=>by simp at hx,?_,List.Pairwise.nil,?_,?_,λx hx=>by simp at hx⟩
   ·rw[QD (by simp),QD (by simp)];simp only[List.nil_append];exact(List.reverse_perm _).append (List.reverse_perm _)
   ·rw[QD (by simp)];exact rM sa
   ·rw[QD (by simp)];exact rM sb
  simpa using G.pushA h0 ha ha0 (Qh _) λy hy=>by refine cr λ_ γ=>?_;obtain⟨j,h1,h2,rfl⟩:=jV hy;refine γ ?_;exact hl _ (by simp[Array.getD,h2])
 refine ay (iN ?_);dsimp only;simp only[dE];refine ay (cu (p:=pa) (by omega) ?_);dsimp only
 try simp only[dE,dZ,d0,dR,d4,gU]
 refine dS (λz=>aF (h _ _ (G0.finA ha hb (by omega)))) (λha1=>dS (λz=>aF (h _ _ (G0.finL ha hb hl0 (by omega)))) (λGM=>fE ?_));dsimp only
 refine ay (aJ.mono (cT
  (λi c y=>∃na nb po mg g',c=(λe=>(none,na,nb,aQ e po,mg))/\y=av P ER g'/\bC n lt pa pb po na nb/\0<na/\na<=pa.size/\1<nb/\nb<=pb.size/\na+nb+i+1<=pa.size+pb.size)
  (λc y=>∃po,∃r:Ev->Nat×Nat×Array Keyed×Nat,∃g',c=(λe=>(some (aQ e po),r e))/\y=av P ER g'/\GF n lt (pa.toList++pb.toList) po) ?_ ?_ ⟨_,_,_,_,_,rfl,rfl,G0,by omega,by omega,by omega,by omega,by omega⟩) ?_)
 ·rintro t c0 y0 _ htt hh;apply hid2 c0 y0;intro _ γ;obtain⟨na,nb,po,mg,g',rfl,rfl,E4,Fg,G7,E7,Hv,F7⟩:=hh;refine γ _ _ ?_;dsimp only
  refine ay (aJ.mono (cT
   (λi c y=>∃na nb po ac bc g',c=(λe=>(none,na,nb,aQ e po,ac,bc))/\y=av P ER g'/\bC n lt pa pb po na nb/\0<na/\na<=pa.size/\1<nb/\nb<=pb.size/\na+nb+t+i+1<=pa.size+pb.size)
   (λc y=>(∃po,∃r:Ev->Nat×Nat×Array Keyed×Nat×Nat,∃g',c=(λe=>(some (aQ e po),r e))/\y=av P ER g'/\GF n lt (pa.toList++pb.toList) po)∨∃na nb po ac bc g',c=(λe=>(none,na,nb,aQ e po,ac,bc))/\y=av P ER g'/\bC n lt pa pb po na nb/\0<na/\na<=pa.size/\1<nb/\nb<=pb.size/\na+nb+t+2<=pa.size+pb.size) ?_ ?_ ⟨_,_,_,_,_,_,rfl,rfl,E4,Fg,G7,E7,Hv,by omega⟩) ?_)
  ·rintro i c0 y0 _ _ hh;apply hid2 c0 y0;intro _ γ;obtain⟨na,nb,po,ac,bc,g',rfl,rfl,E4,Fg,G7,E7,Hv,F7⟩:=hh;refine γ _ _ ?_;dsimp only;refine ay (cu (by omega) (ay (cu (by omega) (ay (jR (hb.at h0 _) (ha.at h0 _) ?_)))));dsimp only;refine bg (λzl=>ay (cu (by omega) ?_)) (λzl=>ay (cu (by omega) ?_))
   ·have G:=E4.pushA h0 ha Fg G7 (lf O sb Hv (O.as _ _ zl));dsimp only
    try simp only[dE,dZ,d0,dR,d4,gU]
    exact dS (λz=>aF (.inl ⟨_,rfl,.inl ⟨_,_,_,rfl,rfl,G.finA ha hb (by omega)⟩⟩)) (λ_=>bg (λ_=>aF (.inl ⟨_,rfl,.inr ⟨_,_,_,_,_,_,rfl,rfl,G,by omega,by omega,by omega,by omega,by omega⟩⟩)) (λ_=>aF (.inr ⟨_,rfl,⟨_,_,_,_,_,_,rfl,rfl,G,by omega,by omega,by omega,by omega,by omega⟩⟩)))
   ·have G:=E4.pushB h0 hb (by omega) Hv (lf O sa G7 (by simpa using zl));dsimp only
    try simp only[dE,dZ,d0,dR,d4,gU]
    exact dS (λz=>aF (.inl ⟨_,rfl,.inl ⟨_,_,_,rfl,rfl,G.finL ha hb hl0 (by omega)⟩⟩)) (λ_=>bg (λ_=>aF (.inl ⟨_,rfl,.inr ⟨_,_,_,_,_,_,rfl,rfl,G,by omega,by omega,by omega,by omega,by omega⟩⟩)) (λ_=>aF (.inr ⟨_,rfl,⟨_,_,_,_,_,_,rfl,rfl,G,by omega,by omega,by omega,by omega,by omega⟩⟩)))
  ·rintro c0 y0 hh;apply hid2 c0 y0;intro _ γ;obtain⟨na,nb,po,ac,bc,g',rfl,rfl,E4,Fg,G7,E7,Hv,F7⟩:=hh;refine γ _ _ ?_;exact .inr ⟨na,nb,po,ac,bc,g',rfl,rfl,E4,Fg,G7,E7,Hv,by omega⟩
  ·rintro c0 y0 hh;apply hid2 c0 y0;intro _ γ;obtain (⟨po,r,g',rfl,rfl,E4⟩|⟨na,nb,po,ac,bc,g',rfl,rfl,E4,Fg,G7,E7,Hv,F7⟩):=hh<;>refine γ _ _ ?_
   ·exact aF (.inl ⟨_,rfl,_,_,_,rfl,rfl,E4⟩)
   refine ay (iN ?_);dsimp only
   refine ay (aJ.mono (cT
    (λi c y=>∃na nb po mg ac bc g',c=(λe=>(none,na,nb,aQ e po,mg,ac,bc))/\y=av P ER g'/\bC n lt pa pb po na nb/\0<na/\na<=pa.size/\1<nb/\nb<=pb.size/\na+nb+t+2<=pa.size+pb.size)
    (λc y=>(∃po,∃r:Ev->Nat×Nat×Array Keyed×Nat×Nat×Nat,∃g',c=(λe=>(some (aQ e po),r e))/\y=av P ER g'/\GF n lt (pa.toList++pb.toList) po)∨∃na nb po mg ac bc g',c=(λe=>(none,na,nb,aQ e po,mg,ac,bc))/\y=av P ER g'/\bC n lt pa pb po na nb/\0<na/\na<=pa.size/\1<nb/\nb<=pb.size/\na+nb+t+2<=pa.size+pb.size) ?_ (λ_ _ z=>.inr z) ⟨_,_,_,_,_,_,_,rfl,rfl,E4,Fg,G7,E7,Hv,F7⟩) ?_)
   ·rintro i c0 y0 _ _ hh;apply hid2 c0 y0;intro _ γ;obtain⟨na,nb,po,mg,ac,bc,g',rfl,rfl,E4,Fg,G7,E7,Hv,F7⟩:=hh;refine γ _ _ ?_;dsimp only;dsimp +instances only;generalize mg-1=m1;revert m1;refine rD mg rfl λmg=>?_;refine ay (k7 (ay (cu (by omega) (ay (iP h0 (hb.at h0 _) ha (by omega) (by omega) ?_ λHX hk hA hB=>?_)))))
    ·intro i j Go hj;simp only[bp,QR,if_false,Bool.not_eq_true',Nat.zero_add];intro z;by_cases e:i=j
     ·subst e;exact z
     ·exact O.tr _ _ _ (gW sa (by omega) (by omega)) z
    dsimp +instances only
    try simp only[dE,dZ,d0,dR,d4,gU]
    simp only[bp,QR,if_false,Bool.not_eq_true',Bool.not_eq_false',Nat.zero_add] at hA hB;generalize F9:na-HX=k;have hJ:bC n lt pa pb (po++(pa.extract HX na).reverse) HX nb/\HX<=na/\na-HX=k/\(∀y∈(pa.toList.take HX).reverse,lt (pb.getD (nb-1) 0) y=false):=by refine⟨E4.extA ha hk G7 λj h1 h2=>lf O sb Hv (O.as _ _ (hB j h1 h2)),hk,F9,λy hy=>?_⟩;refine cr λ_ γ=>?_;obtain⟨j,h1,h2,rfl⟩:=jV hy;refine γ ?_;exact hA j h1
    have hK:¬k>0->bC n lt pa pb po na nb/\0<na/\na<=pa.size/\na+nb+t+2<=pa.size+pb.size/\(∀y∈(pa.toList.take na).reverse,lt (pb.getD (nb-1) 0) y=false):=λz=>by
     have e:HX=na:=by omega
     exact⟨E4,Fg,G7,F7,by have:=hJ.2.2.2;rwa [e] at this⟩
    clear hA hB hk F9;generalize po++(pa.extract HX na).reverse=FR at hJ ⊢;revert hJ;revert HX;revert FR
    refine rK po na rfl (λpo na=>bC n lt pa pb po na nb/\0<na/\na<=pa.size/\na+nb+t+2<=pa.size+pb.size/\(∀y∈(pa.toList.take na).reverse,lt (pb.getD (nb-1) 0) y=false)) (λFR HX=>bC n lt pa pb FR HX nb/\HX<=na/\na-HX=k/\(∀y∈(pa.toList.take HX).reverse,lt (pb.getD (nb-1) 0) y=false)) hK ?_
     (λpo na hj z=>aF (.inl ⟨_,rfl,.inl ⟨_,_,_,rfl,rfl,hj.1.finA ha hb (by simpa using z)⟩⟩)) (λpo na hj z1=>by simp only[beq_iff_eq] at z1;exact⟨hj.1,by omega,by omega,by omega,hj.2.2.2⟩)
    rintro po na hh;refine cr λ_ γ=>?_;obtain⟨E4,Fg,G7,F7,hq⟩:=hh;refine γ ?_;refine ay (cu (by omega) ?_);have G:=E4.pushB h0 hb (by omega) Hv hq;dsimp +instances only
    try simp only[dE,dZ,d0,dR,d4,gU]
    refine dS (λz=>aF (.inl ⟨_,rfl,.inl ⟨_,_,_,rfl,rfl,G.finL ha hb hl0 (by omega)⟩⟩)) λhnb1=>ay (cu (by omega) (ay (iP h0 (ha.at h0 _) hb (by omega) (by omega) ?_ λHW G1 hA hB=>?_)))
    ·intro i j Go hj;simp only[bp,if_true,Nat.zero_add];intro z;by_cases e:i=j
     ·subst e;exact z
     ·have h1:=gW sb (i:=i) (j:=j) (by omega) (by omega)
      cases e2:lt (pb.getD i 0) (pa.getD (na-1) 0) with
      |true=>rfl
      |false=>rw[O.tr _ _ _ e2 h1] at z;cases z
    dsimp +instances only
    try simp only[dE,dZ,d0,dR,d4,gU]
    simp only[bp,if_true,Nat.zero_add] at hA hB;generalize po.push (pb.getD (nb-1) 0)=po at G ⊢;clear hq E4
    have HS:1<nb-1/\nb-1<=pb.size/\na+(nb-1)+t+2<=pa.size+pb.size:=⟨by omega,by omega,by omega⟩
    generalize nb-1=nb at HS G1 hA hB G ⊢;generalize F9:nb-HW=k2;have hJ:bC n lt pa pb (po++(pb.extract HW nb).reverse) na HW/\HW<=nb/\nb-HW=k2/\(∀y∈(pb.toList.take HW).reverse,lt (pa.getD (na-1) 0) y=false):=by refine⟨G.extB hb G1 HS.2.1 λj h1 h2=>lf O sa G7 (hB j h1 h2),G1,F9,λy hy=>?_⟩;refine cr λ_ γ=>?_;obtain⟨j,h1,h2,rfl⟩:=jV hy;refine γ ?_;exact O.as _ _ (hA j h1)
    have hK:¬k2>0->bC n lt pa pb po na nb/\1<nb/\nb<=pb.size/\na+nb+t+2<=pa.size+pb.size/\(∀y∈(pb.toList.take nb).reverse,lt (pa.getD (na-1) 0) y=false):=λz=>by
     have e:HW=nb:=by omega
     exact⟨G,HS.1,HS.2.1,HS.2.2,by have:=hJ.2.2.2;rwa [e] at this⟩
    clear hA hB G1 F9;generalize po++(pb.extract HW nb).reverse=FR at hJ ⊢;revert hJ;revert HW;revert FR
    refine rL po nb rfl (λpo nb=>bC n lt pa pb po na nb/\1<nb/\nb<=pb.size/\na+nb+t+2<=pa.size+pb.size/\(∀y∈(pb.toList.take nb).reverse,lt (pa.getD (na-1) 0) y=false)) (λFR HW=>bC n lt pa pb FR na HW/\HW<=nb/\nb-HW=k2/\(∀y∈(pb.toList.take HW).reverse,lt (pa.getD (na-1) 0) y=false)) hK ?_
     (λpo nb hj z=>aF (.inl ⟨_,rfl,.inl ⟨_,_,_,rfl,rfl,hj.1.finL ha hb hl0 (by simpa using z)⟩⟩)) (λpo nb hj z=>aF (.inl ⟨_,rfl,.inl ⟨_,_,_,rfl,rfl,hj.1.finB ha hb (by simpa using z)⟩⟩)) (λpo nb hj z1 z2=>by simp only[beq_iff_eq] at z1 z2;exact⟨hj.1,by omega,by omega,by omega,hj.2.2.2⟩)
    rintro po nb hh;refine cr λ_ γ=>?_;obtain⟨E4,E7,Hv,F7,hq⟩:=hh;refine γ ?_;refine ay (cu (by omega) ?_);have G:=E4.pushA h0 ha Fg G7 hq;dsimp +instances only
    try simp only[dE,dZ,d0,dR,d4,gU]
    exact dS (λz=>aF (.inl ⟨_,rfl,.inl ⟨_,_,_,rfl,rfl,G.finA ha hb (by omega)⟩⟩)) λ_=>bg (λ_=>aF (.inl ⟨_,rfl,.inr ⟨_,_,_,_,_,_,_,rfl,rfl,G,by omega,by omega,by omega,by omega,by omega⟩⟩)) (λ_=>aF (.inr ⟨_,rfl,⟨_,_,_,_,_,_,_,rfl,rfl,G,by omega,by omega,by omega,by omega,by omega⟩⟩))
   ·rintro c0 y0 hh;apply hid2 c0 y0;intro _ γ;obtain (⟨po,r,g',rfl,rfl,E4⟩|⟨na,nb,po,mg,ac,bc,g',rfl,rfl,E4,Fg,G7,E7,Hv,F7⟩):=hh<;>refine γ _ _ ?_
    ·exact aF (.inl ⟨_,rfl,_,_,_,rfl,rfl,E4⟩)
    dsimp only;exact ay (k7 (aF (.inr ⟨_,rfl,_,_,_,_,_,rfl,rfl,E4,Fg,G7,E7,Hv,by omega⟩)))
 ·rintro c0 y0 hh;apply hid2 c0 y0;intro _ γ;obtain⟨na,nb,po,mg,g',rfl,rfl,E4,Fg,G7,E7,Hv,F7⟩:=hh;refine γ _ _ ?_;exfalso;omega
 ·rintro c0 y0 hh;apply hid2 c0 y0;intro _ γ;obtain⟨po,r,g',rfl,rfl,E4⟩:=hh;refine γ _ _ ?_;exact aF (h _ _ E4)
end
def Sg(lt:Nat->Nat->Bool)(p:Array Nat)(i j:Nat):Prop:=∀a b,i<=a->a<b->b<j->lt (p.getD b 0) (p.getD a 0)=false
def Dg(lt:Nat->Nat->Bool)(p:Array Nat)(i j:Nat):Prop:=∀a b,i<=a->a<b->b<j->lt (p.getD a 0) (p.getD b 0)=false
structure Kp(p p':Array Nat)(lo hi:Nat):Prop where
 sz:p'.size=p.size
 pm:p'.Perm p
 out:∀k,k<lo∨hi<=k->p'.getD k 0=p.getD k 0
theorem getD_at{p q:Array Nat}{i j:Nat}(h:p[i]?=q[j]?):p.getD i 0=q.getD j 0:=by rw[Array.getD_eq_getD_getElem?,Array.getD_eq_getD_getElem?,h]
theorem e8{p:Array Nat}{i j:Nat}(hj:j<=p.size)(k:Nat):(kas_rev p i j).getD k 0=if i<=k/\k<j then p.getD (i+j-1-k) 0 else p.getD k 0:=by
 have e:=getElem?_mirror_all (xs:=p) (i:=i) hj k;unfold kas_rev;split at e<;>rename_i h
 ·rw[if_pos h];exact getD_at e
 ·rw[if_neg h];exact getD_at e
theorem m6{p:Array Nat}{s l:Nat}(hs:s<p.size)(hl:l<=s)(k:Nat):(bubble p s (s-l)).getD k 0=if k=l then p.getD s 0 else if l<k/\k<=s then p.getD (k-1) 0 else p.getD k 0:=by
 have e:=getElem?_bubble hs (s-l) (by (exact Nat.sub_le _ _)) k;rw[show s-(s-l)=l by (clear hs;omega)] at e;split at e<;>rename_i h
 ·rw[if_pos h];exact getD_at e
 ·rw[if_neg h];split at e<;>rename_i h2
  ·rw[if_pos h2];exact getD_at e
  ·rw[if_neg h2];exact getD_at e
section
variable {n:Nat}{lt:Nat->Nat->Bool}{p p' p'':Array Nat}{lo hi i j k:Nat}
theorem Kp.refl:Kp p p lo hi:=⟨rfl,Array.Perm.refl _,λ_ _=>rfl⟩
theorem Kp.trans(h:Kp p p' lo hi)(h':Kp p' p'' lo hi):Kp p p'' lo hi:=⟨h'.sz.trans h.sz,h'.pm.trans h.pm,λk hk=>(h'.out k hk).trans (h.out k hk)⟩
theorem Kp.ent(h:Kp p p' lo hi)(e:aT n p):aT n p':=λx hx=>e x ((Array.perm_iff_toList_perm.mp h.pm).mem_iff.mp hx)
theorem Kp.rev(h1:lo<=i)(h2:j<=hi)(hj:j<=p.size):Kp p (kas_rev p i j) lo hi:=⟨Aw _ _ _,mirror_perm _ _ _ _,λk hk=>by rw[e8 hj,if_neg (by (clear hj;omega))]⟩
theorem Kp.bub(h1:lo<=i)(h2:j<hi)(Go:i<=j)(hj:j<p.size):Kp p (bubble p j (j-i)) lo hi:=⟨bubble_size _ _ _,bubble_perm _ _ _,λk hk=>by rw[m6 hj Go,if_neg (by lia),if_neg (by (clear hj Go;lia))]⟩
theorem Sg.out(h:Sg lt p i j)(q:Kp p p' lo hi)(d:j<=lo∨hi<=i):Sg lt p' i j:=λa b h1 h2 h3=>by rw[q.out a (by lia),q.out b (by lia)];exact h a b h1 h2 h3
theorem Sg.snoc(O:eQ lt)(h:Sg lt p i j)(e:i<j->lt (p.getD j 0) (p.getD (j-1) 0)=false):Sg lt p i (j+1):=λa b h1 h2 h3=>by
 by_cases hb:b<j
 ·exact h a b h1 h2 hb
 ·obtain rfl:b=j:=by (clear h2 h1 e;lia)
  by_cases ha:a=b-1
  ·subst ha;exact e (by (exact Qz (by assumption) (by assumption)))
  ·exact O.tr _ _ _ (h a (b-1) h1 (by (clear hb h3 e h1;lia)) (by (clear ha hb h3 e h1;lia))) (e (by (exact Qz (by assumption) (by assumption))))
theorem Dg.snoc(O:eQ lt)(h:Dg lt p i j)(e:i<j->lt (p.getD (j-1) 0) (p.getD j 0)=false):Dg lt p i (j+1):=λa b h1 h2 h3=>by
 by_cases hb:b<j
 ·exact h a b h1 h2 hb
 ·obtain rfl:b=j:=by lia
  by_cases ha:a=b-1
  ·subst ha;exact e (by lia)
  ·exact O.tr _ _ _ (e (by (exact Qz (by assumption) (by assumption)))) (h a (b-1) h1 (by lia) (by lia))
theorem Sg.one:Sg lt p i (i+1):=λa b h1 h2 h3=>by omega
theorem Dg.one:Dg lt p i (i+1):=λa b h1 h2 h3=>by omega
theorem Sg.rev(h:Sg lt p i j)(hj:j<=p.size):Dg lt (kas_rev p i j) i j:=λa b h1 h2 h3=>by
 rw[e8 hj,e8 hj,if_pos (by (clear hj;lia)),if_pos (by (clear hj;lia))];exact h _ _ (by (clear h2 h1 hj;lia)) (by (clear h1 hj;lia)) (by (clear h2 hj;lia))
theorem Dg.rev(h:Dg lt p i j)(hj:j<=p.size):Sg lt (kas_rev p i j) i j:=λa b h1 h2 h3=>by rw[e8 hj,e8 hj,if_pos (by lia),if_pos (by lia)];exact h _ _ (by lia) (by lia) (by lia)
theorem Dg.tail(h:Dg lt p i j)(t:Sg lt p k j)(hk:i<=k)(hj:j<=p.size):Dg lt (kas_rev p k j) i j:=λa b h1 h2 h3=>by
 rw[e8 hj,e8 hj];by_cases ha:k<=a
 ·rw[if_pos (by (clear h1 hj hk;omega)),if_pos (by (clear h1 hj hk;omega))];exact t _ _ (by (clear ha h2 h1 hj hk;omega)) (by (clear ha h1 hj hk;omega)) (by (clear h2 h1 hj hk;omega))
 ·rw[if_neg (by (clear h3 h2 h1 hj hk;omega))];by_cases hb:k<=b
  ·rw[if_pos (by (solve_by_elim (maxDepth:=4) only [*,QO,QT,Nat.succ_le_of_lt,Qh]))];exact h _ _ h1 (by (clear hb h2 h1 hj hk;omega)) (by (clear ha h2 h1 hj hk;omega))
  ·rw[if_neg (by (clear ha h3 h2 h1 hj hk;omega))];exact h _ _ h1 h2 h3
end
section
variable {n:Nat}{lt:Nat->Nat->Bool}{p:Array Nat}{ER:Array (Nat×Nat×Nat)}{g:Nat}
theorem m7{α:Type}{c:Prop}{inst:Ev->Decidable c}{q r:Ev->StateT SortSt Sem α}{R:(Ev->α)->(Ev->SortSt)->Prop}(C:Array Nat->Prop)(c0:¬c->C p)(h:∀p',C p'->aJ n lt q (av p' ER g) R)(h1:c->(∀p',C p'->aJ n lt q (av p' ER g) R)->aJ n lt r (av p ER g) R):aJ n lt (λe=>@ite _ c (inst e) (r e) (q e)) (av p ER g) R:=
 bg (λz=>h1 z h) (λz=>h p (c0 z))
theorem AD{lo m:Nat}{R:(Ev->Option Nat)->(Ev->SortSt)->Prop}(O:eQ lt)(h0:0<n)(hp:aT n p)(hm:0<m)(EV:lo+m<=p.size)(h:∀p' k,Kp p p' lo (lo+m)->0<k->k<=m->Sg lt p' lo (lo+k)->(Sg lt p lo (lo+m)->p'=p/\k=m)->R (λ_=>some k) (av p' ER g)) :
  aJ n lt (λ_=>countRun' lo m) (av p ER g) R:=by
 refine ay (aJ.mono (cT (λi c y=>∃k,c=(λ_=>(none,k))/\y=av p ER g/\0<k/\k=i/\Sg lt p lo (lo+k)) (λc y=>∃k,c=(λ_=>(none,k))/\y=av p ER g/\0<k/\k<=m/\Sg lt p lo (lo+k)/\(k<m->lt (p.getD (lo+k) 0) (p.getD (lo+k-1) 0)=true)) ?_ ?_ ⟨_,rfl,rfl,by (exact Nat.lt_succ_self _),by (rfl),Sg.one⟩) ?_)
 ·rintro i c0 y0 _ _ hh;apply hid2 c0 y0;intro _ γ;obtain⟨k,rfl,rfl,h1,h2,hS⟩:=hh;refine γ _ _ ?_;refine ay (iO h0 hp (by dsimp only;(clear h1 h hm h0;lia)) (by dsimp only;(clear h1 h hm h0;lia)) ?_);dsimp only;exact bg (λz=>aF (.inl ⟨_,rfl,_,rfl,rfl,h1,by (clear h1 h EV hm h0;lia),hS,λ_=>z⟩)) (λz=>aF (.inr ⟨_,rfl,_,rfl,rfl,by (exact Nat.lt_succ_of_lt (by assumption)),by (clear z h1 h EV hm h0;lia),hS.snoc O λ_=>by simpa using z⟩))
 ·rintro c0 y0 hh;apply hid2 c0 y0;intro _ γ;obtain⟨k,rfl,rfl,h1,h2,hS⟩:=hh;refine γ _ _ ?_;exact⟨k,rfl,rfl,h1,by (clear h1 h EV h0;lia),hS,λz=>by lia⟩
 rintro c0 y0 hh;apply hid2 c0 y0;intro _ γ;obtain⟨k,rfl,rfl,h1,h2,hS,hx⟩:=hh;refine γ _ _ ?_;dsimp only;refine dS (λe=>aF (h _ _ Kp.refl h1 h2 hS λ_=>⟨rfl,e⟩)) λEW=>?_;have hx:=hx (by (clear hx h1 h EV hm h0;lia));have no:¬Sg lt p lo (lo+m):=λq=>by have:=q (lo+k-1) (lo+k) (by (clear EW h2 h EV hm h0;lia)) (by (clear EW h2 h EV hm h0;lia)) (by (clear h1 h EV hm h0;lia));rw[hx] at this;cases this
 refine m7 (λp'=>Kp p p' lo (lo+m)/\Dg lt p' lo (lo+k+1)) (λhk=>⟨Kp.refl,?_⟩) ?_ (λhk key=>ay (iO h0 hp (by (clear key hk no EW h2 h1 h h0;lia)) (by (clear key hk no EW h1 h h0;lia)) ?_))
 ·obtain rfl:k=1:=by (clear no EW h2 h EV hm h0;lia)
  exact Dg.one.snoc O λ_=>O.as _ _ hx
 rotate_left
 ·dsimp only;refine bg (λ_=>aF (h _ _ Kp.refl h1 h2 hS λq=>absurd q no)) (λz=>ay (k6 (key _ ⟨Kp.rev (Qh _) (by (clear z key hk no EW h1 h EV hm h0;lia)) (by (clear z key hk no EW h1 h hm h0;lia)),?_⟩)));refine(hS.rev (by lia)).snoc O λ_=>?_;rw[e8 (by lia),e8 (by lia),if_pos (by (clear z key hk no EW h2 h1 h EV hm h0;lia)),if_neg (by (simp;done)),show lo+(lo+k)-1-(lo+k-1)=lo by (clear z key hk no EW h2 h1 h EV hm h0;lia)];exact O.tr _ _ _ (O.as _ _ hx) (by simpa using z)
 rintro p1 ⟨E6,Fk⟩;refine ay (iN ?_)
 refine ay (aJ.mono (cT (λi c y=>∃p' j q,c=(λ_=>(none,j,q))/\y=av p' ER g/\Kp p p' lo (lo+m)/\j=i/\q+1<=j/\Dg lt p' lo (lo+j)/\Sg lt p' (lo+j-(q+1)) (lo+j))
  (λc y=>∃p' j q,c=(λ_=>(none,j,q))/\y=av p' ER g/\Kp p p' lo (lo+m)/\j<=m/\q+1<=j/\Dg lt p' lo (lo+j)/\Sg lt p' (lo+j-(q+1)) (lo+j)) ?_ ?_ ⟨_,_,_,rfl,rfl,E6,by (rfl),by (exact Nat.lt_succ_of_lt (by assumption)),Fk,λa b h1 h2 h3=>by (clear no EW h EV hm h0;lia)⟩) ?_)
 ·rintro i c0 y0 _ _ hh;apply hid2 c0 y0;intro _ γ;obtain⟨p2,j,q,rfl,rfl,E1,h3,h4,hD,hS⟩:=hh;refine γ _ _ ?_;have Hu:=E1.ent hp;have Ff:=E1.sz;dsimp only;refine ay (iO h0 Hu (by (clear h4 no EW h2 h1 h hm h0;lia)) (by (clear h4 no EW h2 h1 h hm h0;lia)) ?_);dsimp only;refine bg (λz=>m7 (λp'=>Kp p p' lo (lo+m)/\Dg lt p' lo (lo+j+1)) (λ_=>⟨E1,hD.snoc O λ_=>O.as _ _ z⟩) (λp' FM=>aF (.inr ⟨_,rfl,_,_,_,rfl,rfl,FM.1,by (clear FM Ff h4 no EW h2 h1 h EV hm h0;lia),by (exact Nat.le_add_left _ _),FM.2,λa b h1 h2 h3=>by (clear FM Ff h4 no EW h EV hm h0;lia)⟩)) (λ_ key=>ay (k6 (key _ ⟨E1.trans (Kp.rev (by (clear key Ff h3 no EW h2 h1 h EV hm h0;lia)) (by (clear key Ff h4 no EW h2 h1 h EV hm h0;lia)) (by (clear key h4 no EW h2 h1 h hm h0;lia))),?_⟩)))) (λz=>?_)
  ·refine(hD.tail hS (by lia) (by lia)).snoc O λ_=>?_;rw[e8 (by lia),e8 (by lia),if_pos (by (clear key Ff h4 h3 no EW h2 h1 h EV hm h0;lia)),if_neg (by (simp;done)),show lo+j-(q+1)+(lo+j)-1-(lo+j-1)=lo+j-(q+1) by (clear key Ff h4 h3 no EW h2 h1 h EV hm h0;lia)];by_cases hq:q=0
   ·subst hq;exact O.as _ _ z
   ·exact O.tr _ _ _ (O.as _ _ z) (hD _ _ (by lia) (by (clear hq key Ff h4 no EW h2 h EV hm h0;lia)) (by (clear hq key Ff h4 h3 no EW h2 h1 h EV hm h0;lia)))
  refine ay (iO h0 Hu (by lia) (by lia) ?_);dsimp only
  exact bg (λ_=>aF (.inl ⟨_,rfl,_,_,_,rfl,rfl,E1,by (clear z Ff h4 no EW h2 h1 h EV hm h0;lia),h4,hD,hS⟩)) (λz2=>aF (.inr ⟨_,rfl,_,_,_,rfl,rfl,E1,by lia,by (exact Nat.lt_succ_of_le (by assumption)),hD.snoc O λ_=>by simpa using z2,by
   rw[show lo+(j+1)-(q+1+1)=lo+j-(q+1) by lia]
   exact hS.snoc O λ_=>by simpa using z⟩))
 ·rintro c0 y0 hh;apply hid2 c0 y0;intro _ γ;obtain⟨p2,j,q,rfl,rfl,E1,h3,h4,hD,hS⟩:=hh;refine γ _ _ ?_;exact⟨p2,j,q,rfl,rfl,E1,by (clear h4 no h1 h EV hm h0;lia),h4,hD,hS⟩
 rintro c0 y0 hh;apply hid2 c0 y0;intro _ γ;obtain⟨p2,j,q,rfl,rfl,E1,h3,h4,hD,hS⟩:=hh;refine γ _ _ ?_;have Ff:=E1.sz;dsimp only;refine m7 (λp'=>Kp p p' lo (lo+m)/\Dg lt p' lo (lo+j)) (λ_=>⟨E1,hD⟩) ?_ (λ_ key=>ay (k6 (key _ ⟨E1.trans (Kp.rev (by (clear key Ff h3 no EW h2 h1 h EV hm h0;lia)) (by (clear key Ff h4 no EW h2 h1 h EV hm h0;lia)) (by (clear key h4 no EW h2 h1 h hm h0;lia))),hD.tail hS (by lia) (by lia)⟩)));rintro p3 ⟨EU,Fy⟩;have GZ:=EU.sz;refine ay (k6 ?_);have E5:Kp p (kas_rev p3 lo (lo+j)) lo (lo+m):=EU.trans (Kp.rev (Qh _) (by (clear GZ Ff h4 no EW h2 h1 h EV hm h0;lia)) (by (clear Ff h4 no EW h2 h1 h hm h0;lia)));have hS4:=Fy.rev (by lia);generalize kas_rev p3 lo (lo+j)=p4 at E5 hS4 ⊢;have hs4:=E5.sz;have hp4:=E5.ent hp;refine ay (aJ.mono (cT (λi c y=>∃k,c=(λ_=>(none,k))/\y=av p4 ER g/\0<k/\k=i/\Sg lt p4 lo (lo+k)) (λc y=>∃k,c=(λ_=>(none,k))/\y=av p4 ER g/\0<k/\k<=m/\Sg lt p4 lo (lo+k)) ?_ ?_ ⟨_,rfl,rfl,by (clear hs4 GZ Ff h3 no EW h2 h1 h EV hm h0;lia),by (rfl),hS4⟩) ?_)
 ·rintro i c0 y0 _ _ hh;apply hid2 c0 y0;intro _ γ;obtain⟨k,rfl,rfl,h1,h2,hS⟩:=hh;refine γ _ _ ?_;refine ay (iO h0 hp4 (by dsimp only;(clear h1 GZ Ff h4 h3 no EW h hm h0;lia)) (by dsimp only;(clear h1 GZ Ff h4 h3 no EW h hm h0;lia)) ?_);dsimp only;exact bg (λ_=>aF (.inl ⟨_,rfl,_,rfl,rfl,h1,by (clear h1 hs4 GZ Ff h4 h3 no EW h EV hm h0;lia),hS⟩)) (λz=>aF (.inr ⟨_,rfl,_,rfl,rfl,by (exact Nat.lt_succ_of_lt (by assumption)),by (clear z h1 hs4 GZ Ff h4 h3 no EW h EV hm h0;lia),hS.snoc O λ_=>by simpa using z⟩))
 ·rintro c0 y0 hh;apply hid2 c0 y0;intro _ γ;obtain⟨k,rfl,rfl,h1,h2,hS⟩:=hh;refine γ _ _ ?_;exact⟨k,rfl,rfl,h1,by (clear h1 hs4 GZ Ff h4 no EW h EV hm h0;lia),hS⟩
 rintro c0 y0 hh;apply hid2 c0 y0;intro _ γ;obtain⟨k,rfl,rfl,h1,h2,hS⟩:=hh;refine γ _ _ ?_;exact aF (h _ _ E5 h1 h2 hS λq=>absurd q no)
theorem AE{lo m ok:Nat}{R:(Ev->Bool)->(Ev->SortSt)->Prop}(O:eQ lt)(h0:0<n)(hp:aT n p)(EV:lo+m<=p.size)(hok:0<ok)(hm:ok<=m)(hS0:Sg lt p lo (lo+ok))(h:∀p',Kp p p' lo (lo+m)->Sg lt p' lo (lo+m)->(ok=m->p'=p)->R (λ_=>true) (av p' ER g)) :
  aJ n lt (λ_=>binarySort' lo m ok) (av p ER g) R:=by
 refine ay (aJ.mono (cT (λi c y=>∃p',c=(λ_=>(none,()))/\y=av p' ER g/\Kp p p' lo (lo+m)/\Sg lt p' lo (lo+i)/\(i<=ok->p'=p)) (λc y=>∃p',c=(λ_=>(none,()))/\y=av p' ER g/\Kp p p' lo (lo+m)/\Sg lt p' lo (lo+m)/\(ok=m->p'=p)) ?_ ?_ ⟨_,rfl,rfl,Kp.refl,by rw[show max ok 1=ok by (clear h hm EV h0;omega)];exact hS0,λ_=>rfl⟩) ?_)
 ·rintro i c0 y0 Fp hi hh;apply hid2 c0 y0;intro _ γ;obtain⟨p1,rfl,rfl,E6,HF,_⟩:=hh;refine γ _ _ ?_;have hp1:=E6.ent hp;have E9:=E6.sz;dsimp only
  refine ay (aJ.mono (cT (λt c y=>∃l r,c=(λ_=>(none,l,r))/\y=av p1 ER g/\l<=r/\r<=i/\r-l<=i-t/\(∀a,a<l->lt (p1.getD (lo+i) 0) (p1.getD (lo+a) 0)=false)/\(∀a,r<=a->a<i->lt (p1.getD (lo+i) 0) (p1.getD (lo+a) 0)=true))
   (λc y=>∃l r:Nat,c=(λ_=>(none,l,r))/\y=av p1 ER g/\l<=i/\(∀a,a<l->lt (p1.getD (lo+i) 0) (p1.getD (lo+a) 0)=false)/\(∀a,l<=a->a<i->lt (p1.getD (lo+i) 0) (p1.getD (lo+a) 0)=true)) ?_ ?_ ⟨_,_,rfl,rfl,QC _,Qh _,by (exact Nat.sub_le _ _),λa h=>by (contradiction),λa h1 h2=>by (clear E9 hi Fp h hm hok EV h0;omega)⟩) ?_)
  ·rintro k c0 y0 _ hk hh;apply hid2 c0 y0;intro _ γ;obtain⟨l,r,rfl,rfl,h1,h2,h3,hA,hB⟩:=hh;refine γ _ _ ?_;dsimp only;refine bg (λz=>aF (.inl ⟨_,rfl,_,_,rfl,rfl,by (exact QK (by assumption) (by assumption)),hA,λa q=>hB a (by (exact QK (by assumption) (by assumption)))⟩)) (λIT=>ay (iO h0 hp1 (by (clear IT hB hA h3 h2 h1 hk Fp h hm hok h0;omega)) (by (clear IT hB hA h3 hk Fp h hm hok h0;omega)) ?_));dsimp only;refine bg (λz=>aF (.inr ⟨_,rfl,_,_,rfl,rfl,by (clear IT hB hA h3 h2 hk E9 hi Fp h hm hok EV h0;omega),by (clear IT hB hA h3 hk E9 hi Fp h hm hok EV h0;omega),by (clear IT hB hA h2 h1 hk E9 hi Fp h hm hok EV h0;omega),hA,λa q1 q2=>?_⟩)) (λz=>aF (.inr ⟨_,rfl,_,_,rfl,rfl,by (clear z hB hA h3 h2 h1 hk E9 hi Fp h hm hok EV h0;omega),by (assumption),by (clear z IT hB hA h2 h1 hk E9 hi Fp h hm hok EV h0;omega),λa q1=>?_,hB⟩))
   ·by_cases e:a=(l+r)/2
    ·subst e;exact z
    ·cases e2:lt (p1.getD (lo+i) 0) (p1.getD (lo+a) 0) with
     |true=>rfl
     |false=>rw[O.tr _ _ _ (HF (lo+(l+r)/2) (lo+a) (by (exact Nat.le_add_right _ _)) (by (clear q2 IT hB hA h3 h2 h1 hk E9 hi Fp h hm hok EV h0;omega)) (by (clear e q1 IT hB hA h3 h2 h1 hk E9 hi Fp h hm hok EV h0;omega))) e2] at z;cases z
   ·by_cases e:a=(l+r)/2
    ·subst e;simpa using z
    ·exact O.tr _ _ _ (HF (lo+a) (lo+(l+r)/2) (by (exact Nat.le_add_right _ _)) (by (clear z IT hB hA h3 h2 h1 hk E9 hi Fp h hm hok EV h0;omega)) (by (clear e q1 z hB hA h3 h1 hk E9 hi Fp h hm hok EV h0;omega))) (by simpa using z)
  ·rintro c0 y0 hh;apply hid2 c0 y0;intro _ γ;obtain⟨l,r,rfl,rfl,h1,h2,h3,hA,hB⟩:=hh;refine γ _ _ ?_;exact⟨l,r,rfl,rfl,by (exact QK (by assumption) (by assumption)),hA,λa q=>hB a (by (clear hB hA h2 h1 E9 hi Fp h hm hok EV h0;omega))⟩
  rintro c0 y0 hh;apply hid2 c0 y0;intro _ γ;obtain⟨l,r,rfl,rfl,hl,hA,hB⟩:=hh;refine γ _ _ ?_;dsimp only;refine ay (Ar (aF (.inr ⟨_,rfl,_,rfl,rfl,E6.trans (Kp.bub (by (exact Nat.le_add_right _ _)) (by (clear hB hA hl E9 Fp h hm hok EV h0;omega)) (by (clear hB hA E9 hi Fp h hm hok EV h0;omega)) (by (clear hB hA hl Fp h hm hok h0;omega))),λa b h1 h2 h3=>?_,λq=>absurd q (by (clear q hB hA hl E9 hi h hm hok EV h0;omega))⟩)));rw[m6 (by omega) (by (clear h3 h2 h1 hB hA E9 hi Fp h hm hok EV h0;omega)),m6 (by omega) (by omega)];have key:∀a,lo<=a->a<lo+l->lt (p1.getD (lo+i) 0) (p1.getD a 0)=false:=λa q1 q2=>by have:=hA (a-lo) (by (clear h3 h2 h1 hB hA hl E9 hi Fp h hm hok EV h0;omega));rwa [show lo+(a-lo)=a by (clear q2 h3 h2 h1 hB hA hl E9 hi Fp h hm hok EV h0;omega)] at this
  have Fw:∀a,lo+l<=a->a<lo+i->lt (p1.getD (lo+i) 0) (p1.getD a 0)=true:=λa q1 q2=>by have:=hB (a-lo) (by (clear q2 key h3 h2 h1 hB hA hl E9 hi Fp h hm hok EV h0;omega)) (by omega);rwa [show lo+(a-lo)=a by (clear q2 key h3 h2 h1 hB hA hl E9 hi Fp h hm hok EV h0;omega)] at this
  by_cases ea:a=lo+l
  ·rw[if_pos ea,if_neg (by (clear Fw key h3 h1 hB hA hl E9 hi Fp h hm hok EV h0;omega)),if_pos (by (clear Fw key h1 hB hA hl E9 hi Fp h hm hok EV h0;omega))];exact O.as _ _ (Fw _ (by (clear Fw key h3 h1 hB hA hl E9 hi Fp h hm hok EV h0;omega)) (by (clear ea Fw key h2 h1 hB hA hl E9 hi h hm hok EV h0;omega)))
  ·rw[if_neg ea];by_cases eb:b=lo+l
   ·rw[if_pos eb,if_neg (by (clear ea Fw key h3 h1 hB hA hl E9 hi Fp h hm hok EV h0;omega))];exact key a h1 (by (clear ea Fw key h3 h1 hB hA hl E9 hi Fp h hm hok EV h0;omega))
   ·rw[if_neg eb];by_cases ha:lo+l<a
    ·rw[if_pos (by (clear eb ea Fw key h1 hB hA hl E9 hi Fp h hm hok EV h0;omega)),if_pos (by (clear eb ea Fw key h1 hB hA hl E9 hi Fp h hm hok EV h0;omega))];exact HF _ _ (by (clear eb ea Fw key h3 h2 h1 hB hA hl E9 hi Fp h hm hok EV h0;omega)) (by (clear eb ea Fw key h3 h1 hB hA hl E9 hi Fp h hm hok EV h0;omega)) (by omega)
    ·rw[if_neg (show ¬(lo+l<a/\a<=lo+i) by (clear eb ea Fw key h3 h2 h1 hB hA hl E9 hi Fp h hm hok EV h0;omega))];by_cases hb:lo+l<b
     ·rw[if_pos (by (clear ha eb ea Fw key h2 h1 hB hA hl E9 hi Fp h hm hok EV h0;omega))];exact HF _ _ (by (assumption)) (by (clear eb Fw key h3 h2 h1 hB hA hl E9 hi Fp h hm hok EV h0;omega)) (by omega)
     ·rw[if_neg (by (clear ha eb ea Fw key h3 h2 h1 hB hA hl E9 hi Fp h hm hok EV h0;omega))];exact HF _ _ (by (assumption)) (by (assumption)) (by (clear ha ea Fw key h3 h2 h1 hB hA E9 hi Fp h hm hok EV h0;omega))
 ·rintro c0 y0 hh;apply hid2 c0 y0;intro _ γ;obtain⟨p1,rfl,rfl,E6,HF,he⟩:=hh;refine γ _ _ ?_;exact⟨p1,rfl,rfl,E6,by rwa [show max (max ok 1) m=m by (clear he h EV h0;omega)] at HF,λq=>he (by (clear he h hm EV h0;omega))⟩
 rintro c0 y0 hh;apply hid2 c0 y0;intro _ γ;obtain⟨p1,rfl,rfl,E6,HF,he⟩:=hh;refine γ _ _ ?_;exact aF (h _ E6 HF he)
end
theorem rQ(s:Nat):∀(po:List Nat) (k:Nat) (p:Array Nat) (j:Nat),s+k+po.length<=p.size->(putN po k s p).getD j 0=if s+k<=j/\j<s+k+po.length then po.getD (j-(s+k)) 0 else p.getD j 0
 | [],k,p,j,h=>by rw[if_neg (λq=>by have:=q.2;simp at this;(clear h;lia))];rfl
 |a::po,k,p,j,h=>by
  show(putN po (k+1) s (p.setIfInBounds (s+k) a)).getD j 0=_;rw[QM] at h ⊢;rw[rQ s po (k+1) _ j (by rw[Array.size_setIfInBounds];lia)];by_cases h1:j=s+k
  ·subst h1;rw[if_neg (by (clear h;lia)),if_pos (by (simp;done))];simp[Array.getD,show s+k<p.size by lia]
  ·have e:(p.setIfInBounds (s+k) a).getD j 0=p.getD j 0:=getD_at (by rw[Array.getElem?_setIfInBounds];rw[if_neg (by (solve_by_elim (maxDepth:=4) only [*,QO,QT,Nat.succ_le_of_lt,Qh]))]);rw[e];by_cases h2:s+k<=j/\j<s+k+(po.length+1)
   ·rw[if_pos h2,if_pos (by (clear e h;lia)),show j-(s+k)=(j-(s+(k+1)))+1 by (clear e h;lia),List.getD_cons_succ]
   ·rw[if_neg h2,if_neg (by (clear e h1 h;lia))]
theorem rR(s:Nat):∀(po:List Nat) (k:Nat) (p:Array Nat),s+k+po.length<=p.size->(putN po k s p).toList=p.toList.take (s+k)++po++p.toList.drop (s+k+po.length)
 | [],k,p,h=>by simp[putN]
 |a::po,k,p,h=>by
  show(putN po (k+1) s (p.setIfInBounds (s+k) a)).toList=_;rw[QM] at h ⊢;rw[rR s po (k+1) _ (by rw[Array.size_setIfInBounds];lia),Array.toList_setIfInBounds,List.set_eq_take_append_cons_drop,if_pos (by simp;lia)];have hl:(p.toList.take (s+k)).length=s+k:=by rw[Qx,QB];lia
  have e1:(p.toList.take (s+k)++a::p.toList.drop (s+k+1)).take (s+(k+1))=p.toList.take (s+k)++[a]:=by
   rw[show s+(k+1)=(p.toList.take (s+k)).length+1 by (clear h;lia),List.take_length_add_append];simp
  have e2:(p.toList.take (s+k)++a::p.toList.drop (s+k+1)).drop (s+(k+1)+po.length)=p.toList.drop (s+k+(po.length+1)):=by
   rw[show s+(k+1)+po.length=(p.toList.take (s+k)).length+(1+po.length) by (clear h;lia),List.drop_length_add_append,show 1+po.length=po.length+1 by (simp only[Nat.add_comm];done),List.drop_succ_cons,List.drop_drop];congr 1
   (clear hl h;lia)
  rw[e1,e2];simp
theorem Ch.ge:∀{s:Nat} {l:List (Nat×Nat×Nat)} {e:Nat},Ch s l e->∀x∈l,s<=x.1
 |s,[],e,h,x,hx=>by simp at hx
 |s,(a,k,u)::l,e,h,x,hx=>by
  obtain⟨rfl,hk,h⟩:=h;rcases Qn hx with z|z
  ·subst z;exact Qh _
  ·exact QK (Nat.le_add_right _ _) (h.ge x z)
theorem Ch.two2{S S':Nat×Nat×Nat->Prop}:∀{s:Nat} {l:List (Nat×Nat×Nat)} {e:Nat} (i a k u m v:Nat),Ch s l e->l[i]?=some (a,k,u)->l[i+1]?=some (a+k,m,v)->(∀x∈l,S x)->(∀x,S x->(x.1+x.2.1<=a∨a+k+m<=x.1)->S' x)->S' (a,k+m,u) ->
  ∀x∈(l.set i (a,k+m,u)).eraseIdx (i+1),S' x
 |s,[],e,i,a,k,u,m,v,h,h1,h2,hS,hk,hn,x,hx=>by simp at h1
 |s,[y],e,i,a,k,u,m,v,h,h1,h2,hS,hk,hn,x,hx=>by cases i<;>simp at h1 h2
 |s,(a',k',u')::(b',m',v')::l,e,0,a,k,u,m,v,h,h1,h2,hS,hk,hn,x,hx=>by
  have e1:=Qo (show some (a',k',u')=some (a,k,u) from h1);have e2:=Qo (show some (b',m',v')=some (a+k,m,v) from h2);simp only[Prod.mk.injEq] at e1 e2;obtain⟨g1,g2,g3,g4,h⟩:=h;have hx:x∈(a,k+m,u)::l:=hx;rcases Qn hx with z|z
  ·subst z;exact hn
  ·refine hk x (hS x (by simp[z])) (.inr ?_);have:=h.ge x z;lia
 |s,(a',k',u')::y::l,e,i+1,a,k,u,m,v,h,h1,h2,hS,hk,hn,x,hx=>by
  obtain⟨rfl,G1,h⟩:=h;have hx:x∈(a',k',u')::((y::l).set i (a,k+m,u)).eraseIdx (i+1):=hx;rcases Qn hx with z|z
  ·subst z;refine hk _ (hS _ (by simp)) (.inl ?_);have h1':(y::l)[i]?=some (a,k,u):=h1;exact h.ge _ (Qk h1')
  ·exact Ch.two2 i a k u m v h h1 h2 (λx hx=>hS x (QA _ hx)) hk hn x z
theorem m8{p:Array Nat}{i j k:Nat}(hj:j<=p.size)(hk:i+k<j):(p.extract i j).getD k 0=p.getD (i+k) 0:=by
 have h1:k<(p.extract i j).size:=by simp;lia
 simp[Array.getD,show k<min j p.size-i by lia,show i+k<p.size by (exact QO (by assumption) (by assumption))]
theorem Sg.asc{lt:Nat->Nat->Bool}{p:Array Nat}{i j:Nat}(h:Sg lt p i j)(hj:j<=p.size):cU lt (p.extract i j).toList:=by refine List.pairwise_iff_getElem.mpr λa b ha hb Hr=>?_;simp at ha hb;have:=h (i+a) (i+b) (by (exact Nat.le_add_right _ _)) (by (clear hb ha hj;omega)) (by (clear ha Hr hj;omega));simpa [Array.getD,show i+a<p.size by omega,show i+b<p.size by omega] using this
def Rs(lt:Nat->Nat->Bool)(p:Array Nat)(l:List (Nat×Nat×Nat)):Prop:=∀x∈l,Sg lt p x.1 (x.1+x.2.1)
section
variable {n:Nat}{lt:Nat->Nat->Bool}{p:Array Nat}{ER:Array (Nat×Nat×Nat)}{g:Nat}
theorem AF(O:eQ lt){sa na nb k k2:Nat}{po:Array Nat}(hz:sa+na+nb<=p.size)(hk:k<na)(E1:0<k2)(EU:k2<=nb)(sA:Sg lt p sa (sa+na))(sB:Sg lt p (sa+na) (sa+na+nb))
  (hA:∀i,i<k->lt (p.getD (sa+na) 0) (p.getD (sa+i) 0)=false) (hB:∀i,k2<=i->i<nb->lt (p.getD (sa+na+i) 0) (p.getD (sa+na-1) 0)=false)
  (G:GF n lt ((p.extract (sa+k) (sa+na)).toList++(p.extract (sa+na) (sa+na+k2)).toList) po) :
  Kp p (putN po.toList 0 (sa+k) p) sa (sa+na+nb)/\Sg lt (putN po.toList 0 (sa+k) p) sa (sa+na+nb):=by
 have hl:po.toList.length=na-k+k2:=by rw[G.mf.pm.length_eq,Qr,QB,QB,Array.size_extract,Array.size_extract,Nat.min_eq_left (QK (Nat.le_add_right _ nb) hz),Nat.min_eq_left (QK (Nat.add_le_add_left EU _) hz),Nat.add_sub_add_left,Nat.add_sub_cancel_left]
 have at_:∀j,(putN po.toList 0 (sa+k) p).getD j 0=if sa+k<=j/\j<sa+na+k2 then po.getD (j-(sa+k)) 0 else p.getD j 0:=λj=>by
  rw[rQ (sa+k) po.toList 0 p j (by lia)];by_cases h:sa+k<=j/\j<sa+na+k2
  ·rw[if_pos h,if_pos (by (clear hB hA EU E1 hk hz;lia)),Nat.add_zero];have h2:j-(sa+k)<po.size:=by rw[<-QB];(clear hB hA EU E1 hk hz;lia)
   simp[Array.getD,List.getD,h2]
  ·rw[if_neg h,if_neg (by (clear hB hA EU E1 hz;lia))]
 have mem:∀j,sa+k<=j->j<sa+na+k2->∃i,sa+k<=i/\i<sa+na+k2/\po.getD (j-(sa+k)) 0=p.getD i 0:=λj h1 h2=>by
  have h3:j-(sa+k)<po.size:=by rw[<-QB];(clear h1 at_ hB hA EU E1 hz;lia)
  have hm:po.getD (j-(sa+k)) 0∈po.toList:=by simp[Array.getD,h3]
  rcases Qq (G.mf.pm.mem_iff.mp hm) with z|z
  ·rw[show sa+na=sa+k+(na-k) by (clear h3 h2 h1 at_ hl hB hA EU E1 hz;lia)] at z;obtain⟨i,q1,q2,q3⟩:=jT z;exact⟨sa+k+i,by (exact Nat.le_add_right _ _),by (clear q3 q2 h3 h2 h1 at_ hl hB hA EU E1 hk hz;lia),q3⟩
  ·obtain⟨i,q1,q2,q3⟩:=jT z;exact⟨sa+na+i,by (clear q3 q2 q1 h3 h2 h1 at_ hl hB hA EU E1 hz;lia),by (clear q3 q2 h3 h2 h1 at_ hl hB hA EU E1 hk hz;lia),q3⟩
 have Gx:∀a i,sa<=a->a<sa+k->a<i->i<sa+na+nb->lt (p.getD i 0) (p.getD a 0)=false:=λa i h1 h2 h3 h4=>by
  by_cases hi:i<sa+na
  ·exact sA a i h1 h3 hi
  ·have e:=hA (a-sa) (by (clear hi h4 h3 mem at_ hl hB hA EU E1 hk hz;lia));rw[show sa+(a-sa)=a by (clear hi h4 h3 h2 mem at_ hl hB hA EU E1 hk hz;lia)] at e;by_cases h:i=sa+na
   ·subst h;exact e
   ·exact O.tr _ _ _ e (sB (sa+na) i (Qh _) (by (clear h4 h3 h2 h1 mem at_ hl hB hA EU E1 hk hz;lia)) h4)
 have FE:∀b i,sa+na+k2<=b->b<sa+na+nb->sa<=i->i<b->lt (p.getD b 0) (p.getD i 0)=false:=λb i h1 h2 h3 h4=>by
  by_cases hi:i<sa+na
  ·have e:=hB (b-(sa+na)) (by (clear hi h4 h3 h2 Gx mem at_ hl hB hA EU E1 hk hz;lia)) (by (clear hi h4 h3 h1 Gx mem at_ hl hB hA hk hz;lia));rw[show sa+na+(b-(sa+na))=b by (clear hi h4 h3 h2 Gx mem at_ hl hB hA EU E1 hk hz;lia)] at e;by_cases h:i=sa+na-1
   ·subst h;exact e
   ·exact O.tr _ _ _ (sA i (sa+na-1) h3 (by (clear h4 h3 h2 h1 Gx mem at_ hl hB hA EU E1 hk hz;lia)) (by (clear h hi h4 h3 h2 h1 Gx mem at_ hl hB hA EU E1 hz;lia))) e
  ·exact sB i b (by (exact Nat.le_of_not_lt (by assumption))) h4 h2
 refine⟨⟨rF _ _ _ _,Array.perm_iff_toList_perm.mpr ?_,λj hj=>by rw[at_,if_neg (by (clear FE Gx mem at_ hl hB hA E1 hk hz;lia))]⟩,λa b h1 h2 h3=>?_⟩
 ·rw[rR (sa+k) po.toList 0 p (by lia),Nat.add_zero]
  have e:p.toList=p.toList.take (sa+k)++((p.extract (sa+k) (sa+na)).toList++(p.extract (sa+na) (sa+na+k2)).toList)++p.toList.drop (sa+k+po.toList.length):=by
   have e1:=k9 (p:=p) (i:=sa+k) (k:=na-k) (by (clear FE Gx mem at_ hl hB hA EU E1;lia));rw[show sa+k+(na-k)=sa+na by (clear FE Gx mem at_ hl hB hA EU E1 hz;lia),k9 (p:=p) (i:=sa+na) (k:=k2) (by (clear FE Gx mem at_ hl hB hA E1 hk;lia))] at e1;rw[hl,show sa+k+(na-k+k2)=sa+na+k2 by lia,QN,QN,<-e1,List.take_append_drop]
  conv=>rhs;rw[e]
  exact List.Perm.append_right _ (List.Perm.append_left _ G.mf.pm)
 ·rw[at_,at_];by_cases ha:sa+k<=a/\a<sa+na+k2
  ·rw[if_pos ha];by_cases hb:sa+k<=b/\b<sa+na+k2
   ·rw[if_pos hb];exact gW G.mf.so (by (clear hb h3 h1 FE Gx mem at_ hl hB hA EU E1 hk hz;lia)) (by rw[<-QB];(clear ha h3 h2 h1 FE Gx mem at_ hB hA EU E1 hk hz;lia))
   ·rw[if_neg hb];obtain⟨i,q1,q2,q3⟩:=mem a ha.1 ha.2;rw[q3];exact FE b i (by (clear q3 q2 q1 h3 h1 FE Gx mem at_ hl hB hA EU E1 hk hz;lia)) h3 (by (clear q3 q2 hb ha h3 h2 h1 FE Gx mem at_ hl hB hA EU E1 hk hz;lia)) (by (clear q3 q1 h3 h1 FE Gx mem at_ hl hB hA EU E1 hk hz;lia))
  ·rw[if_neg ha];by_cases hb:sa+k<=b/\b<sa+na+k2
   ·rw[if_pos hb];obtain⟨i,q1,q2,q3⟩:=mem b hb.1 hb.2;rw[q3];exact Gx a i h1 (by (clear q3 q2 q1 h3 h1 FE Gx mem at_ hl hB hA EU E1 hk hz;lia)) (by (clear q3 q2 h3 h1 FE Gx mem at_ hl hB hA EU E1 hk hz;lia)) (by (clear q3 q1 hb ha h3 h2 h1 FE Gx mem at_ hl hB hA E1 hk hz;lia))
   ·rw[if_neg hb];by_cases h:a<sa+k
    ·exact Gx a b h1 h h2 h3
    ·exact FE b a (by (clear hb h3 h1 FE Gx mem at_ hl hB hA EU E1 hk hz;lia)) h3 h1 h2
theorem m9{i lo:Nat}{R:(Ev->Bool)->(Ev->SortSt)->Prop}(O:eQ lt)(h0:0<n)(hp:aT n p)(hc:Ch 0 ER.toList lo)(hr:Rs lt p ER.toList)(EV:lo<=p.size)(hi:i+1<ER.size)
  (h:∀p' pend' g',Kp p p' 0 lo->Ch 0 pend'.toList lo->Rs lt p' pend'.toList->pend'.size+1=ER.size->R (λ_=>true) (av p' pend' g')):aJ n lt (λ_=>mergeAt' i) (av p ER g) R:=by
 obtain⟨sa,na,u,nb,v,e1,e2,Fg,E7,F2,HA⟩:=hc.two i (by simpa using hi);have sA:=hr _ (Qk e1);have sB:=hr _ (Qk e2);dsimp only at sA sB;have e3:((ER.setIfInBounds i (sa,na+nb,u)).eraseIdxIfInBounds (i+1)).toList=(ER.toList.set i (sa,na+nb,u)).eraseIdx (i+1):=by simp
 have Fj:∀p',Kp p p' sa (sa+na+nb)->Sg lt p' sa (sa+na+nb)->Rs lt p' ((ER.setIfInBounds i (sa,na+nb,u)).eraseIdxIfInBounds (i+1)).toList:=λp' hk hS=>by rw[e3];exact Ch.two2 (S:=λx=>Sg lt p x.1 (x.1+x.2.1)) (S':=λx=>Sg lt p' x.1 (x.1+x.2.1)) i sa na u nb v hc e1 e2 hr (λx hx d=>hx.out hk d) (by show Sg lt p' sa (sa+(na+nb));rw[<-Nat.add_assoc];exact hS)
 rw[<-e3] at HA
 have Fu:((ER.setIfInBounds i (sa,na+nb,u)).eraseIdxIfInBounds (i+1)).size+1=ER.size:=by
  have:((ER.setIfInBounds i (sa,na+nb,u)).eraseIdxIfInBounds (i+1)).toList.length+1=ER.size:=by rw[e3,List.length_eraseIdx,List.length_set,QB,if_pos hi];(clear Fj F2 E7 Fg h EV h0;lia)
  rwa [QB] at this
 rw[Array.getElem?_toList] at e1 e2
 have up:∀{p'},Kp p p' sa (sa+na+nb)->Kp p p' 0 lo:=λq=>⟨q.sz,q.pm,λk hk=>q.out k (by (clear Fu Fj E7 Fg h hi EV h0;lia))⟩
 refine fE ?_;dsimp only;simp only[e1,e2];refine ay (Ax ?_);generalize (ER.setIfInBounds i (sa,na+nb,u)).eraseIdxIfInBounds (i+1)=pend' at HA Fj Fu ⊢;refine ay (cu (by (clear Fu Fj up Fg h hi h0;lia)) (ay (iP h0 (hp.at h0 _) hp Fg (by (clear Fu Fj up E7 Fg h hi h0;lia)) ?_ λk hk hA hB=>?_)))
 ·intro i j Go hj;simp only[bp,QR,if_false,Bool.not_eq_true'];intro z;by_cases e:i=j
  ·subst e;exact z
  ·exact O.tr _ _ _ (sA (sa+i) (sa+j) (by (exact Nat.le_add_right _ _)) (by (clear hj Fu Fj up F2 E7 Fg h hi EV h0;lia)) (by (clear e Go Fu Fj up F2 E7 Fg h hi EV h0;lia))) z
 simp only[bp,QR,if_false,Bool.not_eq_true',Bool.not_eq_false'] at hA hB;dsimp only;refine dS (λz=>aF (h _ _ _ Kp.refl HA (Fj _ Kp.refl ?_) Fu)) λE1=>ay (cu (by (clear E1 hB hA Fu Fj up E7 h hi h0;lia)) (ay (iP h0 (hp.at h0 _) hp (by (exact Nat.sub_lt_sub_left (by assumption) (Nat.lt_succ_self _))) (by (exact QK (by assumption) (by assumption))) ?_ λk2 EU Gm Ga=>?_)))
 ·intro a b h1 h2 h3;by_cases hb:b<sa+na
  ·exact sA a b h1 h2 hb
  ·by_cases ha:a<sa+na
   ·have e:=hA (a-sa) (by (clear hb h3 h2 h1 hB hA hk Fu Fj up F2 E7 h hi EV h0;lia));rw[show sa+(a-sa)=a by (clear ha hb h3 h2 z hB hA hk Fu Fj up F2 E7 Fg h hi EV h0;lia)] at e;by_cases q:b=sa+na
    ·subst q;exact e
    ·exact O.tr _ _ _ e (sB (sa+na) b (Qh _) (by (clear ha h3 h2 h1 z hB hA hk Fu Fj up F2 E7 Fg h hi EV h0;lia)) h3)
   ·exact sB a b (by (exact Nat.le_of_not_lt (by assumption))) h2 h3
 ·intro i j Go hj;simp only[bp,if_true];intro z;by_cases e:i=j
  ·subst e;exact z
  ·have q1:=sB (sa+na+i) (sa+na+j) (by (exact Nat.le_add_right _ _)) (by (clear hj E1 hB hA hk Fu Fj up F2 E7 Fg h hi EV h0;lia)) (by (clear e Go E1 hB hA hk Fu Fj up F2 E7 Fg h hi EV h0;lia))
   cases e2:lt (p.getD (sa+na+i) 0) (p.getD (sa+k+(na-k)-1) 0) with
   |true=>rfl
   |false=>rw[O.tr _ _ _ e2 q1] at z;cases z
 simp only[bp,if_true] at Gm Ga;rw[show sa+k+(na-k)-1=sa+na-1 by lia] at Gm Ga;dsimp only;refine dS (λz=>aF (h _ _ _ Kp.refl HA (Fj _ Kp.refl ?_) Fu)) λE5=>?_
 ·intro a b h1 h2 h3;by_cases hb:b<sa+na
  ·exact sA a b h1 h2 hb
  ·by_cases ha:a<sa+na
   ·have e:=Ga (b-(sa+na)) (by (clear ha hb h3 h2 h1 Ga Gm EU E1 hB hA hk Fu Fj up F2 E7 Fg h hi EV h0;lia)) (by (clear ha hb h2 h1 z Ga Gm EU E1 hB hA hk Fu Fj up F2 Fg h hi EV h0;lia));rw[show sa+na+(b-(sa+na))=b by (clear ha h3 h2 h1 z Ga Gm EU E1 hB hA hk Fu Fj up F2 E7 Fg h hi EV h0;lia)] at e;by_cases q:a=sa+na-1
    ·subst q;exact e
    ·exact O.tr _ _ _ (sA a (sa+na-1) h1 (by (clear hb h3 h2 h1 z Ga Gm EU E1 hB hA hk Fu Fj up F2 E7 Fg h hi EV h0;lia)) (by (clear q ha hb h3 h2 h1 z Ga Gm EU E1 hB hA hk Fu Fj up F2 E7 h hi EV h0;lia))) e
   ·exact sB a b (by (exact Nat.le_of_not_lt (by assumption))) h2 h3
 simp only[dR]
 have fin:∀(po:Array Nat) (g':Nat),GF n lt ((p.extract (sa+k) (sa+na)).toList++(p.extract (sa+na) (sa+na+k2)).toList) po->R (λ_=>true) (av (putN po.toList 0 (sa+k) p) pend' g'):=λpo g' E4=>by
  obtain⟨q1,q2⟩:=AF O (by (exact QK (by assumption) (by assumption))) (by (clear E5 Ga Gm EU hB hA hk Fu Fj up F2 E7 Fg h hi EV h0;lia)) (by (exact Nat.pos_of_ne_zero (by assumption))) EU sA sB hA Ga E4;exact h _ _ _ (up q1) HA (Fj _ q1 q2) Fu
 have put:∀(e:Ev) (po:Array Nat),(aQ e po).toList.zipIdx.foldl (λa (x:Keyed×Nat)=>a.setIfInBounds (sa+k+x.2) x.1) (aQ e p)=aQ e (putN po.toList 0 (sa+k) p):=λe po=>by rw[show(aQ e po).toList=po.toList.map (dD e) from Array.toList_map];exact rE (dD e) (sa+k) po.toList 0 p
 have last:∀ (po:Array Nat) (g':Nat),GF n lt ((p.extract (sa+k) (sa+na)).toList++(p.extract (sa+na) (sa+na+k2)).toList) po->aJ n lt (fun e=>(do
   modify λs=>SortSt.mk' (kindOf s) ((aQ e po).toList.zipIdx.foldl (λa (x:Keyed×Nat)=>a.setIfInBounds (sa+k+x.2) x.1) (arrOf s)) (pendingOf s) (gallopOf s) (failedOf s)
   let s <- get
   pure (failedOf s).isNone:StateT SortSt Sem Bool)) (av p pend' g') R:=λpo g' E4 =>
  ay (Ay (p':=putN po.toList 0 (sa+k) p) (pend':=pend') (g':=g') (λe=>congrArg (λa=>SortSt.mk' e.κ a pend' g' none) (put e po)) (fE (aF (fin po g' E4))))
 have hz:sa+na+nb<=p.size:=QK F2 EV;have z1:(p.extract (sa+k) (sa+na)).size=na-k:=by rw[Array.size_extract,Nat.min_eq_left (QK (Nat.le_add_right _ nb) hz),Nat.add_sub_add_left]
 have z2:(p.extract (sa+na) (sa+na+k2)).size=k2:=by rw[Array.size_extract,Nat.min_eq_left (QK (Nat.add_le_add_left EU _) hz),Nat.add_sub_cancel_left]
 have s1:cU lt (p.extract (sa+k) (sa+na)).toList:=Sg.asc (λa b q1 q2 q3=>sA a b (by (clear q3 q2 z2 z1 hz last put fin E5 Ga Gm EU E1 hB hA hk Fu Fj up F2 E7 Fg h hi EV h0;lia)) q2 q3) (by (clear z2 z1 hz last put fin E5 Ga Gm EU E1 hB hA hk Fu Fj up E7 Fg h hi h0;lia));have s2:cU lt (p.extract (sa+na) (sa+na+k2)).toList:=Sg.asc (λa b q1 q2 q3=>sB a b (by (assumption)) q2 (by (clear q2 q1 z2 z1 hz last put fin E5 Ga Gm E1 hB hA hk Fu Fj up F2 E7 Fg h hi EV h0;lia))) (by (clear z2 z1 hz last put fin E5 Ga Gm E1 hB hA hk Fu Fj up E7 Fg h hi h0;lia))
 have hf:lt ((p.extract (sa+na) (sa+na+k2)).getD 0 0) ((p.extract (sa+k) (sa+na)).getD 0 0)=true:=by
  rw[m8 (by lia) (by (clear z2 z1 hz last put fin Ga Gm EU E1 hB hA hk Fu Fj up F2 E7 Fg h hi EV h0;lia)),m8 (by lia) (by (clear z2 z1 hz last put fin E5 Ga Gm EU hB hA hk Fu Fj up F2 E7 Fg h hi EV h0;lia))];exact hB k (Qh _) (by (clear z2 z1 hz last put fin E5 Ga Gm EU hB hA hk Fu Fj up F2 E7 Fg h hi EV h0;lia))
 have hl:∀y∈(p.extract (sa+na) (sa+na+k2)).toList,lt ((p.extract (sa+k) (sa+na)).getD ((p.extract (sa+k) (sa+na)).size-1) 0) y=false:=λy hy=>by obtain⟨j,q1,q2,rfl⟩:=jT hy;rw[z1,m8 (by (clear q2 q1 z2 z1 hz last put fin E5 Ga Gm EU E1 hB hA hk Fu Fj up E7 Fg h hi h0;lia)) (by (clear q2 q1 z2 z1 hz last put fin E5 Ga Gm EU hB hA hk Fu Fj up F2 E7 Fg h hi EV h0;lia)),show sa+k+(na-k-1)=sa+na-1 by (clear q2 q1 z2 z1 hz last put fin E5 Ga Gm EU hB hA hk Fu Fj up F2 E7 Fg h hi EV h0;lia)];exact O.as _ _ (Gm j q1)
 refine bg (λ_=>ay (AB O h0 (hp.ext _ _) (hp.ext _ _) (by (clear hl z2 hz last put fin E5 Ga Gm EU hB hA hk Fu Fj up F2 E7 Fg h hi EV h0;lia)) (by (clear hl z1 hz last put fin E5 Ga Gm EU hB hA hk Fu Fj up F2 E7 Fg h hi EV h0;lia)) s1 s2 hf hl λpo g' E4=>?_)) (λ_=>ay (AC O h0 (hp.ext _ _) (hp.ext _ _) (by (clear hl z2 hz last put fin E5 Ga Gm EU E1 hB hA hk Fu Fj up F2 E7 Fg h hi EV h0;lia)) (by lia) s1 s2 hf hl λpo g' E4=>?_))
 ·exact last po g' E4
 ·exact last po g' E4
end
theorem Rs.push{lt:Nat->Nat->Bool}{p:Array Nat}{l:List (Nat×Nat×Nat)}{a k:Nat}(u:Nat)(h:Rs lt p l)(q:Sg lt p a (a+k)):Rs lt p (l++[(a,k,u)]):=λx hx=>by
 rcases Qq hx with z|z
 ·exact h x z
 ·rw[Qp z];exact q
theorem Rs.mod{lt:Nat->Nat->Bool}{p:Array Nat}:∀{l:List (Nat×Nat×Nat)} (i u:Nat),Rs lt p l->Rs lt p (l.modify i λx=>(x.1,x.2.1,u))
 | [],i,u,h=>by cases i<;>exact h
 |y::l,0,u,h=>λx hx=>by
  have hx:x∈(y.1,y.2.1,u)::l:=hx;rcases Qn hx with z|z
  ·subst z;exact h y (by simp)
  ·exact h x (by simp[z])
 |y::l,i+1,u,h=>λx hx=>by
  have hx:x∈y::l.modify i λx=>(x.1,x.2.1,u):=hx;rcases Qn hx with z|z
  ·subst z;exact h x (by simp)
  ·exact Rs.mod i u (λx hx=>h x (QA _ hx)) x z
theorem Rs.out{lt:Nat->Nat->Bool}{p p':Array Nat}{l:List (Nat×Nat×Nat)}{lo hi:Nat}(h:Rs lt p l)(hc:Ch 0 l lo)(q:Kp p p' lo hi):Rs lt p' l:=λx hx=>by
 refine(h x hx).out q (.inl ?_)
 have go:∀{s:Nat} {l:List (Nat×Nat×Nat)} {e:Nat},Ch s l e->∀x∈l,x.1+x.2.1<=e:=by
  intro s l
  induction l generalizing s with
  |nil=>intro e _ x hx;simp at hx
  |cons y l ih =>
   intro e h x hx;obtain⟨a,k,u⟩:=y;obtain⟨rfl,hk,h⟩:=h;rcases Qn hx with z|z
   ·subst z;exact h.le
   ·exact ih h x z
 exact go hc x hx
theorem Ch.len:∀{s:Nat} {l:List (Nat×Nat×Nat)} {e:Nat},Ch s l e->s+l.length<=e
 |s,[],e,h=>by simpa using Nat.le_of_eq h
 |s,(a,k,u)::l,e,h=>by have:=h.2.2.len;have:=h.2.1;simp;lia
section
variable {n:Nat}{lt:Nat->Nat->Bool}{p:Array Nat}{g:Nat}
theorem AG{R:(Ev->Unit)->(Ev->SortSt)->Prop}(O:eQ lt)(h0:0<n)(hp:aT n p)(hs:p.size=n)(h:∀p' pend' g',p'.Perm p->Sg lt p' 0 n->(Sg lt p 0 n->p'=p)->R (λ_=>()) (av p' pend' g')) :
  aJ n lt (λ_=>sortRuns') (av p #[] g) R:=by
 refine fE ?_;dsimp only;simp only[dE,hs];refine ay (aJ.mono (cT (λi c y=>∃p' pend' g' lo,c=(λ_=>(none,lo))/\y=av p' pend' g'/\Kp p p' 0 n/\Ch 0 pend'.toList lo/\Rs lt p' pend'.toList/\lo<=n/\i<=lo/\(Sg lt p 0 n->p'=p/\(lo=0∨lo=n/\pend'.size<=1))) (λc y=>∃p' pend' g' lo,c=(λ_=>(none,lo))/\y=av p' pend' g'/\Kp p p' 0 n/\Ch 0 pend'.toList lo/\Rs lt p' pend'.toList/\lo=n/\(Sg lt p 0 n->p'=p/\pend'.size<=1)) ?_ ?_ ⟨_,_,_,_,rfl,rfl,Kp.refl,rfl,λx hx=>by simp at hx,QC _,QC _,λ_=>⟨rfl,.inl rfl⟩⟩) ?_)
 ·rintro i c0 y0 _ _ hh;apply hid2 c0 y0;intro _ γ;obtain⟨p1,pe1,g1,lo,rfl,rfl,E6,Iq,Fd,Fe,Gq,hT⟩:=hh;refine γ _ _ ?_;have E9:=E6.sz;dsimp only;refine bg (λ_=>aF (.inl ⟨_,rfl,_,_,_,_,rfl,rfl,E6,Iq,Fd,by (exact Nat.le_antisymm (by assumption) (by assumption)),λq=>⟨(hT q).1,by rcases (hT q).2 with z|z<;>lia⟩⟩)) (λEX=>?_);refine ay (AD O h0 (E6.ent hp) (by (clear E9 hT Gq Fe h hs h0;lia)) (by (clear EX hT Gq h h0;lia)) λp2 k E1 F8 IF HU hE=>?_)
  have hq:Sg lt p 0 n->p2=p/\lo=0/\k=n/\pe1=#[]:=λq=>by
   obtain⟨e1,e2⟩:=hT q
   obtain rfl:lo=0:=by (clear hE IF F8 E9 hT Gq Fe h hs h0;lia)
   have e3:=hE (by rw[e1];simpa using q);have e4:=Iq.len;exact⟨e3.1.trans e1,rfl,by (clear e4 e2 hE IF EX hT Gq Fe F8 E9 h hs h0;lia),by apply Array.eq_empty_of_size_eq_zero;rw[<-QB];(clear e3 e2 hE IF EX hT Gq Fe F8 E9 h hs h0;lia)⟩
  have Ff:=E1.sz;have hk2':Kp p p2 0 n:=E6.trans ⟨E1.sz,E1.pm,λk hk=>E1.out k (by (clear Ff hq hE IF F8 EX E9 hT Gq Fe h hs h0;lia))⟩;have E3:=Fd.out Iq E1;dsimp only;refine bg (λhmr=>ay (iN (ay (AE O h0 (hk2'.ent hp) (by lia) F8 (by (clear Ff hq hE F8 EX E9 hT Gq Fe h hs h0;lia)) HU λp5 HP hSP hE5=>?_)))) (λ_=>?_)
  ·have hP:Kp p p5 0 n:=hk2'.trans ⟨HP.sz,HP.pm,λk hk=>HP.out k (by (clear hE5 hmr Ff hq hE IF F8 EX E9 hT Gq Fe h hs h0;lia))⟩;have hrP:=E3.out Iq HP;have HM:Sg lt p 0 n->p5=p/\lo=0/\min (n-lo) ((sortPriv% PySem.Builtin.minRun) n n 0)=n/\pe1=#[]:=λq=>by refine cr λ_ γ=>?_;obtain⟨e1,e2,e3,e4⟩:=hq q;refine γ ?_;exact⟨(hE5 (by (clear e2 hE5 Ff hq hE F8 EX E9 hT Gq Fe h hs h0;lia))).trans e1,e2,by (clear e2 hE5 Ff hq hE F8 EX E9 hT Gq Fe h hs h0;lia),e4⟩
   refine bg (λz=>absurd z (by decide)) (λ_=>?_)
   have F9:0<min (n-lo) ((sortPriv% PySem.Builtin.minRun) n n 0):=by (clear HM hE5 Ff hq hE IF F8 E9 hT Gq Fe h hs h0;lia)
   have FP:lo+min (n-lo) ((sortPriv% PySem.Builtin.minRun) n n 0)<=n:=by (clear F9 HM hE5 hmr Ff hq hE IF F8 EX E9 hT Gq h hs h0;lia)
   refine fE ?_;dsimp only
   cases hb:pe1.back? with
   |none =>
    simp only[hb]
    exact ay (k8 (aF (.inr ⟨_,rfl,_,_,_,_,rfl,rfl,hP,by rw[Array.toList_push];exact Iq.push _ 0 F9,by rw[Array.toList_push];exact hrP.push 0 hSP,FP,by lia,λq=>by
     refine cr λ_ γ=>?_;obtain⟨e1,e2,e3,e4⟩:=HM q;refine γ ?_
     exact⟨e1,.inr ⟨by lia,by rw[e4];simp⟩⟩⟩)))
   |some y =>
    obtain⟨s1,n1,u1⟩:=y;simp only[hb];refine ay (aJ.mono (cT (λ_ c y=>∃p' pend' g',c=(λ_=>(none,()))/\y=av p' pend' g'/\Kp p p' 0 n/\Ch 0 pend'.toList lo/\Rs lt p' pend'.toList/\Sg lt p' lo (lo+min (n-lo) ((sortPriv% PySem.Builtin.minRun) n n 0))) (λc y=>∃p' pend' g',c=(λ_=>(none,()))/\y=av p' pend' g'/\Kp p p' 0 n/\Ch 0 pend'.toList lo/\Rs lt p' pend'.toList/\Sg lt p' lo (lo+min (n-lo) ((sortPriv% PySem.Builtin.minRun) n n 0))) ?_ (λ_ _ z=>z) ⟨_,_,_,rfl,rfl,hP,Iq,hrP,hSP⟩) ?_)
    ·rintro j c0 y0 _ _ hh;apply hid2 c0 y0;intro _ γ;obtain⟨p3,IB,g3,rfl,rfl,EU,Gy,FD,HE⟩:=hh;refine γ _ _ ?_;have GZ:=EU.sz;refine fE ?_;dsimp only;by_cases hz:IB.size>1
     ·obtain⟨a,b,u,m,v,e1,_⟩:=Gy.two (IB.size-2) (by rw[QB];(clear GZ FP F9 HM hE5 hmr Ff hq hE IF F8 EX E9 hT Gq Fe h hs h0;lia));rw[Array.getElem?_toList] at e1;simp only[if_pos hz,e1];refine bg (λ_=>aF (.inl ⟨_,rfl,_,_,_,rfl,rfl,EU,Gy,FD,HE⟩)) (λ_=>ay (m9 O h0 (EU.ent hp) Gy FD (by (clear hz FP F9 HM hE5 hmr Ff hq hE IF F8 EX E9 hT Gq h h0;lia)) (by (clear GZ FP F9 HM hE5 hmr Ff hq hE IF F8 EX E9 hT Gq Fe h hs h0;lia)) λp4 pe4 g4 E5 hc4 hr4 _=>?_));exact bg (λz=>absurd z (by decide)) (λ_=>aF (.inr ⟨_,rfl,_,_,_,rfl,rfl,EU.trans ⟨E5.sz,E5.pm,λk hk=>E5.out k (by (clear hz GZ FP F9 HM hE5 hmr Ff hq hE IF F8 EX E9 hT Gq h hs h0;lia))⟩,hc4,hr4,HE.out E5 (.inr (Qh _))⟩))
     ·simp only[if_neg hz];exact aF (.inl ⟨_,rfl,_,_,_,rfl,rfl,EU,Gy,FD,HE⟩)
    ·rintro c0 y0 hh;apply hid2 c0 y0;intro _ γ;obtain⟨p3,IB,g3,rfl,rfl,EU,Gy,FD,HE⟩:=hh;refine γ _ _ ?_;dsimp only;refine ay (rG ?_)
     refine ay (k8 (aF (.inr ⟨_,rfl,_,_,_,_,rfl,rfl,EU,?_,?_,FP,by lia,λq=>by
      refine cr λ_ γ=>?_;obtain⟨e1,e2,e3,e4⟩:=HM q;refine γ ?_;rw[e4] at hb
      simp at hb⟩)))
     ·rw[Array.toList_push,Array.toList_modify];exact(Gy.mod _ _).push _ _ F9
     ·rw[Array.toList_push,Array.toList_modify];exact(FD.mod _ _).push _ HE
  ·have HM:=hq;have hP:=hk2';have hrP:=E3;have hSP:=HU;have F9:=F8
   have FP:lo+k<=n:=by (clear F9 HM Ff hq hE F8 EX E9 hT Gq h hs h0;lia)
   refine fE ?_;dsimp only
   cases hb:pe1.back? with
   |none =>
    simp only[hb]
    exact ay (k8 (aF (.inr ⟨_,rfl,_,_,_,_,rfl,rfl,hP,by rw[Array.toList_push];exact Iq.push _ 0 F9,by rw[Array.toList_push];exact hrP.push 0 hSP,FP,by (clear FP F9 HM Ff hq hE IF EX E9 hT Fe h hs h0;lia),λq=>by
     refine cr λ_ γ=>?_;obtain⟨e1,e2,e3,e4⟩:=HM q;refine γ ?_
     exact⟨e1,.inr ⟨by (clear e2 FP F9 HM Ff hq hE F8 EX E9 hT Gq Fe h hs h0;lia),by rw[e4];simp⟩⟩⟩)))
   |some y =>
    obtain⟨s1,n1,u1⟩:=y;simp only[hb];refine ay (aJ.mono (cT (λ_ c y=>∃p' pend' g',c=(λ_=>(none,()))/\y=av p' pend' g'/\Kp p p' 0 n/\Ch 0 pend'.toList lo/\Rs lt p' pend'.toList/\Sg lt p' lo (lo+k)) (λc y=>∃p' pend' g',c=(λ_=>(none,()))/\y=av p' pend' g'/\Kp p p' 0 n/\Ch 0 pend'.toList lo/\Rs lt p' pend'.toList/\Sg lt p' lo (lo+k)) ?_ (λ_ _ z=>z) ⟨_,_,_,rfl,rfl,hP,Iq,hrP,hSP⟩) ?_)
    ·rintro j c0 y0 _ _ hh;apply hid2 c0 y0;intro _ γ;obtain⟨p3,IB,g3,rfl,rfl,EU,Gy,FD,HE⟩:=hh;refine γ _ _ ?_;have GZ:=EU.sz;refine fE ?_;dsimp only;by_cases hz:IB.size>1
     ·obtain⟨a,b,u,m,v,e1,_⟩:=Gy.two (IB.size-2) (by rw[QB];lia);rw[Array.getElem?_toList] at e1;simp only[if_pos hz,e1];refine bg (λ_=>aF (.inl ⟨_,rfl,_,_,_,rfl,rfl,EU,Gy,FD,HE⟩)) (λ_=>ay (m9 O h0 (EU.ent hp) Gy FD (by lia) (by lia) λp4 pe4 g4 E5 hc4 hr4 _=>?_));exact bg (λz=>absurd z (by decide)) (λ_=>aF (.inr ⟨_,rfl,_,_,_,rfl,rfl,EU.trans ⟨E5.sz,E5.pm,λk hk=>E5.out k (by lia)⟩,hc4,hr4,HE.out E5 (.inr (Qh _))⟩))
     ·simp only[if_neg hz];exact aF (.inl ⟨_,rfl,_,_,_,rfl,rfl,EU,Gy,FD,HE⟩)
    ·rintro c0 y0 hh;apply hid2 c0 y0;intro _ γ;obtain⟨p3,IB,g3,rfl,rfl,EU,Gy,FD,HE⟩:=hh;refine γ _ _ ?_;dsimp only;refine ay (rG ?_)
     refine ay (k8 (aF (.inr ⟨_,rfl,_,_,_,_,rfl,rfl,EU,?_,?_,FP,by lia,λq=>by
      refine cr λ_ γ=>?_;obtain⟨e1,e2,e3,e4⟩:=HM q;refine γ ?_;rw[e4] at hb
      simp at hb⟩)))
     ·rw[Array.toList_push,Array.toList_modify];exact(Gy.mod _ _).push _ _ F9
     ·rw[Array.toList_push,Array.toList_modify];exact(FD.mod _ _).push _ HE
 ·rintro c0 y0 hh;apply hid2 c0 y0;intro _ γ;obtain⟨p1,pe1,g1,lo,rfl,rfl,E6,Iq,Fd,Fe,Gq,hT⟩:=hh;refine γ _ _ ?_;exact⟨p1,pe1,g1,lo,rfl,rfl,E6,Iq,Fd,by (exact Nat.le_antisymm (by assumption) (by assumption)),λq=>⟨(hT q).1,by rcases (hT q).2 with z|z<;>lia⟩⟩
 rintro c0 y0 hh;apply hid2 c0 y0;intro _ γ;obtain⟨p1,pe1,g1,lo,rfl,rfl,E6,Iq,Fd,rfl,hT⟩:=hh;refine γ _ _ ?_;dsimp only;have EZ:=Iq.len;rw[QB] at EZ;refine ay (aJ.mono (cT (λj c y=>∃p' pend' g',c=(λ_=>(none,()))/\y=av p' pend' g'/\Kp p p' 0 lo/\Ch 0 pend'.toList lo/\Rs lt p' pend'.toList/\pend'.size+j<=lo/\(Sg lt p 0 lo->p'=p/\pend'.size<=1)) (λc y=>∃p' pend' g',c=(λ_=>(none,()))/\y=av p' pend' g'/\Kp p p' 0 lo/\Ch 0 pend'.toList lo/\Rs lt p' pend'.toList/\pend'.size<=1/\(Sg lt p 0 lo->p'=p)) ?_ ?_ ⟨_,_,_,rfl,rfl,E6,Iq,Fd,by (clear hT h hs h0;lia),hT⟩) ?_)
 ·rintro j c0 y0 _ _ hh;apply hid2 c0 y0;intro _ γ;obtain⟨p3,IB,g3,rfl,rfl,EU,Gy,FD,hz3,hT3⟩:=hh;refine γ _ _ ?_;have GZ:=EU.sz;refine fE ?_;dsimp +instances only;refine bg (λz=>aF (.inl ⟨_,rfl,_,_,_,rfl,rfl,EU,Gy,FD,z,λq=>(hT3 q).1⟩)) (λhz=>ay (m9 O h0 (EU.ent hp) Gy FD (by (clear hz hT3 hz3 EZ hT h h0;lia)) ?_ λp4 pe4 g4 E5 hc4 hr4 hz4=>?_))
  ·exact Az (by (clear GZ hT3 hz3 EZ hT h hs h0;lia))
  ·exact bg (λz=>absurd z (by decide)) (λ_=>aF (.inr ⟨_,rfl,_,_,_,rfl,rfl,EU.trans E5,hc4,hr4,by (clear hz GZ hT3 EZ hT h hs h0;lia),λq=>absurd (hT3 q).2 hz⟩))
 ·rintro c0 y0 hh;apply hid2 c0 y0;intro _ γ;obtain⟨p3,IB,g3,rfl,rfl,EU,Gy,FD,hz3,hT3⟩:=hh;refine γ _ _ ?_;exact⟨p3,IB,g3,rfl,rfl,EU,Gy,FD,by (clear hT3 EZ hT h hs h0;lia),λq=>(hT3 q).1⟩
 ·rintro c0 y0 hh;apply hid2 c0 y0;intro _ γ;obtain⟨p3,IB,g3,rfl,rfl,EU,Gy,FD,hz3,hT3⟩:=hh;refine γ _ _ ?_;refine aF (h _ _ _ EU.pm ?_ hT3);rw[<-QB] at hz3
  match hq:IB.toList,hz3,Gy,FD with
  | [],_,hc,_=>exact absurd (show 0=lo from hc) (by (exact QF (by assumption)))
  | [(a,k,u)],_,hc,hr =>
   obtain⟨rfl,_,rfl⟩:=hc;exact hr (0,k,u) (by simp)
end
theorem rS(n:Nat)(lt:Nat->Nat->Bool)(h0:0<n)(as:∀a b,a<n->b<n->lt a b=true->lt b a=false)(tr:∀a b c,a<n->b<n->c<n->lt b a=false->lt c b=false->lt c a=false) :
  ∃P:Array Nat,(P.Perm (List.range n).toArray/\Sg lt P 0 n/\(Sg lt (List.range n).toArray 0 n->P=(List.range n).toArray))/\∃(ER:Array (Nat×Nat×Nat)) (g:Nat),∀(e:Ev) (prog:Program) (w:World) (A:Around) (E:Value->Shared->Prop) (s:Shared),m5 n lt e prog w A s ->
  ∀Q:Unit->SortSt->Shared->Prop,Q () (av P ER g e) s->kasC (model prog w) A E sortRuns' Q (av (List.range n).toArray #[] 7 e) s:=by
 obtain⟨c,hc⟩:∃c:Nat->Nat,∀i,c i=if i<n then i else 0:=⟨_,λ_=>rfl⟩
 have cn:∀i,c i<n:=λi=>by rw[hc];split<;>(assumption)
 have ce:∀i,i<n->c i=i:=λi h=>by rw[hc,if_pos h]
 have O:eQ λi j=>lt (c i) (c j):=⟨λa b h=>as _ _ (cn a) (cn b) h,λa b d h1 h2=>tr _ _ _ (cn a) (cn b) (cn d) h1 h2⟩
 obtain⟨a,y,⟨P,ER,g,h1,h2,h4,rfl⟩,h3⟩:=AG (n:=n) (g:=7) (p:=(List.range n).toArray) (R:=λ_ y=>∃P ER g,P.Perm (List.range n).toArray/\Sg (λi j=>lt (c i) (c j)) P 0 n/\(Sg (λi j=>lt (c i) (c j)) (List.range n).toArray 0 n->P=(List.range n).toArray)/\y=av P ER g) O h0 (λx hx=>by simpa using hx) (by simp) λp' pend' g' h1 h2 h4=>⟨p',pend',g',h1,h2,h4,rfl⟩
 have hz:P.size=n:=by rw[h1.size_eq];simp
 have ent:∀i,i<n->P.getD i 0<n:=λi hi=>by
  have hm:P.getD i 0∈P.toList:=by simp[Array.getD,show i<P.size by lia]
  simpa using(Array.perm_iff_toList_perm.mp h1).mem_iff.mp hm
 refine⟨P,⟨h1,λi j q1 q2 q3=>?_,λq=>h4 λi j q1 q2 q3=>?_⟩,ER,g,λe prog w A E s ho=>h3 e prog w A E s λi j hi hj C hC=>ho i j hi hj C (by have hC:C (lt (c i) (c j)) s:=hC;rwa [ce i hi,ce j hj] at hC)⟩
 ·have:=(show lt (c (P.getD j 0)) (c (P.getD i 0))=false from h2 i j q1 q2 q3)
  rwa [ce _ (ent i (by (exact Nat.lt_trans (by assumption) (by assumption)))),ce _ (ent j q3)] at this
 ·have e:∀i,i<n->(List.range n).toArray.getD i 0=i:=λi h=>by simp[Array.getD,h]
  have:=q i j q1 q2 q3;show lt (c _) (c _)=false;rw[e i (by (exact Nat.lt_trans (by assumption) (by assumption))),e j q3] at this ⊢;rwa [ce i (by (exact Nat.lt_trans (by assumption) (by assumption))),ce j q3]
noncomputable def cv:af->Bool
 |.inl _=>true
 |.inr _=>false
noncomputable def eF:af->af->Bool
 |.inl i,.inl j=>decide (i<j)
 |.inr a,.inr c=>decide (a.cps.toList<c.cps.toList)
 |_,_=>false
noncomputable def bT:List af->List af->Bool
 |a::r,b::q=>if a=b then bT r q else eF a b
 |_,_=>false
theorem AH{a c:Str}(h:a.cps.toList=c.cps.toList):a=c:=by obtain⟨x⟩:=a;obtain⟨y⟩:=c;have:x=y:=Array.toList_inj.mp h;rw[this]
theorem AI{a b c:af}(h:eF a b=true)(g:eF b c=true):eF a c=true:=by cases a<;>cases b<;>cases c<;>simp only[eF,decide_eq_true_eq] at*<;>first|lia|exact List.lt_trans h g|cases h|cases g
theorem rT{a b:af}(h:eF a b=true):eF b a=false:=by cases a<;>cases b<;>simp only[eF,decide_eq_true_eq,decide_eq_false_iff_not] at*<;>first|lia|exact List.lt_asymm h|cases h
theorem AJ{a b:af}(hs:cv a=cv b)(hn:a≠b)(h:eF a b=false):eF b a=true:=by
 cases a<;>cases b<;>simp only[eF,decide_eq_true_eq,decide_eq_false_iff_not] at *
 ·rename_i i j;have:i≠j:=λe=>hn (by rw[e]);lia
 ·cases hs
 ·cases hs
 ·rename_i x y;refine Classical.byContradiction λg=>hn ?_;rw[AH (List.le_antisymm (List.not_lt.mp g) (List.not_lt.mp h))]
theorem rV:∀{a b c:List af},bT a b=true->bT b c=true->bT a c=true
 |a::r,b::q,c::p,h,g=>by
  unfold bT at h g ⊢;by_cases e1:a=b
  ·subst e1;rw[if_pos rfl] at h;by_cases e2:a=c
   ·subst e2;rw[if_pos rfl] at g ⊢;exact rV h g
   ·rw[if_neg e2] at g ⊢;exact g
  ·rw[if_neg e1] at h;by_cases e2:b=c
   ·subst e2;rw[if_neg e1];exact h
   ·rw[if_neg e2] at g;have e3:a≠c:=λz=>by subst z;rw[rT h] at g;cases g
    rw[if_neg e3];exact AI h g
 | [],_,_,h,_=>by unfold bT at h;cases h
 |_::_,[],_,h,_=>by unfold bT at h;cases h
 |_::_,_::_,[],_,g=>by unfold bT at g;cases g
theorem iT:∀{a b:List af},bT a b=true->bT b a=false
 |a::r,b::q,h=>by
  unfold bT at h ⊢;by_cases e1:a=b
  ·subst e1;rw[if_pos rfl] at h ⊢;exact iT h
  ·rw[if_neg e1] at h;rw[if_neg (Ne.symm e1)];exact rT h
 | [],_,h=>by unfold bT at h;cases h
 |_::_,[],h=>by unfold bT at h;cases h
theorem lg:∀{a b:List af},a.map cv=b.map cv->a≠b->bT a b=false->bT b a=true
 |a::r,b::q,hs,hn,h=>by
  unfold bT at h ⊢;have hs':=List.cons.inj hs;by_cases e1:a=b
  ·subst e1;rw[if_pos rfl] at h ⊢;exact lg hs'.2 (λz=>hn (by rw[z])) h
  ·rw[if_neg e1] at h;rw[if_neg (Ne.symm e1)];exact AJ hs'.1 e1 h
 | [],[],_,hn,_=>absurd rfl hn
 | [],_::_,hs,_,_=>by cases hs
 |_::_,[],hs,_,_=>by cases hs
theorem AK{prog:Program}{w:World}{A:Around}{E:Value->Shared->Prop}{fl:Bool}{Q:Bool->Shared->Prop}{s:Shared}{a b:af}{u v:Value}(ra:RelV (kV a) u)(rb:RelV (kV b) v)(h:cv a=cv b)(q:Q (eF a b) s):wpAny (model prog w) A (oneLt' fl u v) Q E s:=by
 cases a with
 |inl i =>
  cases b with
  |inr y=>cases h
  |inl j =>
   obtain⟨t,rfl⟩:=(show ∃t,u=Value.int i t from ra)
   obtain⟨t',rfl⟩:=(show ∃t,v=Value.int j t from rb)
   cases fl with
   |true=>exact kat_lt_int q
   |false=>exact kat_one _ _ (lt_int q)
 |inr x =>
  cases b with
  |inl j=>cases h
  |inr y =>
   obtain⟨t,rfl⟩:=(show ∃t,u=Value.str x t from ra)
   obtain⟨t',rfl⟩:=(show ∃t,v=Value.str y t from rb)
   cases fl with
   |true=>exact kas_lt_str q
   |false=>exact kat_one _ _ (lt_str q)
theorem ng{prog:Program}{w:World}{A:Around}{fl:Bool}{Q:Bool->Shared->Prop}{s:Shared}:∀{a b:List af} {us vs:List Value} (i:Nat),aw (a.map kV) us->aw (b.map kV) vs->a.map cv=b.map cv->Q (bT a b) s->KatLex prog w A fl false Q (us.zip vs) i s
 | [],[],us,vs,i,ra,rb,h,q=>by cases ra;cases rb;unfold KatLex;exact q
 | [],_::_,us,vs,i,ra,rb,h,q=>by cases h
 |_::_,[],us,vs,i,ra,rb,h,q=>by cases h
 |a::r,b::t,us,vs,i,ra,rb,h,q=>by
  cases ra with
  | @cons _ u _ us ra1 ra2 =>
   cases rb with
   | @cons _ v _ vs rb1 rb2 =>
    simp only[List.map_cons,List.cons.injEq] at h;show KatLex prog w A fl false Q ((u,v)::us.zip vs) i s;unfold KatLex;refine(bF prog w).eqBool (gv ra1) (gv rb1) ?_;unfold bT at q;by_cases e:a=b
    ·rw[if_pos e] at q;rw[if_pos (Qv e)];exact ng (i+1) ra2 rb2 h.2 q
    ·rw[if_neg e] at q;rw[if_neg (by rw[Qi e];exact QG)];exact AK ra1 rb1 h.1 q
noncomputable def eR(ds:List (List af))(i j:Nat):Bool:=bT (ds.getD i []) (ds.getD j [])
structure iU(n:Nat)(lt:Nat->Nat->Bool):Prop where
 as:∀a b,a<n->b<n->lt a b=true->lt b a=false
 tr:∀a b c,a<n->b<n->c<n->lt b a=false->lt c b=false->lt c a=false
open Classical in
noncomputable def cV(n:Nat)(lt:Nat->Nat->Bool):Array Nat:=if h:0<n/\iU n lt then Classical.choose (rS n lt h.1 h.2.as h.2.tr) else(List.range n).toArray
theorem lh{n:Nat}{lt:Nat->Nat->Bool}(h0:0<n)(o:iU n lt):((cV n lt).Perm (List.range n).toArray/\Sg lt (cV n lt) 0 n/\(Sg lt (List.range n).toArray 0 n->cV n lt=(List.range n).toArray))/\∃(ER:Array (Nat×Nat×Nat)) (g:Nat),∀(e:Ev) (prog:Program) (w:World) (A:Around) (E:Value->Shared->Prop) (s:Shared),m5 n lt e prog w A s ->
  ∀Q:Unit->SortSt->Shared->Prop,Q () (av (cV n lt) ER g e) s->kasC (model prog w) A E sortRuns' Q (av (List.range n).toArray #[] 7 e) s:=by
 unfold cV;rw[dif_pos ⟨h0,o⟩];exact Classical.choose_spec (rS n lt h0 o.as o.tr)
theorem rW(n:Nat)(lt:Nat->Nat->Bool):(cV n lt).Perm (List.range n).toArray:=by
 by_cases h:0<n/\iU n lt
 ·exact(lh h.1 h.2).1.1
 ·unfold cV;rw[dif_neg h]
theorem rX(n:Nat)(lt:Nat->Nat->Bool):(cV n lt).size=n:=by rw[(rW n lt).size_eq];simp
theorem ni{n:Nat}(lt:Nat->Nat->Bool)(h0:0<n):aT n (cV n lt):=λx hx=>by simpa using(Array.perm_iff_toList_perm.mp (rW n lt)).mem_iff.mp hx
theorem nj{ds:List (List af)}{sh:List Bool}(FC:∀d∈ds,d.map cv=sh):iU ds.length (eR ds):=by
 have gd:∀i,i<ds.length->(ds.getD i []).map cv=sh:=λi hi=>FC _ (by
  rw[Qg,Qa hi]
  exact QQ hi)
 have ir:∀x:List af,bT x x=false:=λx=>by
  cases e:bT x x with
  |false=>rfl
  |true=>rw[iT e] at e;cases e
 refine⟨λa b _ _ h=>iT h,λa b c ha hb hc h1 h2=>?_⟩;unfold eR at h1 h2 ⊢;have s1:=gd a ha;have s2:=gd b hb;have s3:=gd c hc;generalize ds.getD a []=x at *;generalize ds.getD b []=y at *;generalize ds.getD c []=z at *;by_cases e1:y=x
 ·subst e1;exact h2
 by_cases e2:z=y
 ·subst e2;exact h1
 exact iT (rV (lg (s2.trans s1.symm) e1 h1) (lg (s3.trans s2.symm) e2 h2))
theorem rY{prog:Program}{w:World}{A:Around}{E:Value->Shared->Prop}{κ:SortKind}{ks vs:List Value}{lt:Nat->Nat->Bool}{s:Shared}(hl:ks.length=vs.length)(h2:2<=vs.length)(ho:iU vs.length lt)
  (hc:∀i j,i<vs.length->j<vs.length->∀C:Bool->Shared->Prop,C (lt i j) s->kas_ask prog w A κ ks i j C s) :
  wpAny (model prog w) A ((sortRuns').run (SortSt.mk' κ (ks.toArray.zip vs.toArray) #[] 7 none)) (λr s'=>s'=s/\failedOf r.2=none/\(arrOf r.2).size=vs.length/\arrOf r.2=Array.map (kas_item (ks.toArray.zip vs.toArray)) (cV vs.length lt)) E s:=by
 obtain⟨⟨h3,h4⟩,ER,g,run⟩:=lh (n:=vs.length) (lt:=lt) (by lia) ho;have est:SortSt.mk' κ (ks.toArray.zip vs.toArray) #[] 7 none=av (List.toArray (List.range vs.length)) #[] 7 ⟨κ,ks.toArray.zip vs.toArray⟩:=by have e:=kas_range (ks.toArray.zip vs.toArray);rw[show(ks.toArray.zip vs.toArray).size=vs.length by simp[hl]] at e;exact congrArg (λa=>SortSt.mk' κ a #[] 7 none) e.symm
 rw[est];rw[kat_ask_eq hl] at hc;exact run ⟨κ,ks.toArray.zip vs.toArray⟩ prog w A E s hc (λr Fi s'=>s'=s/\failedOf Fi=none/\(arrOf Fi).size=vs.length/\arrOf Fi=Array.map (kas_item (ks.toArray.zip vs.toArray)) (cV vs.length lt)) ⟨rfl,rfl,by show(Array.map _ _).size=_;rw[Array.size_map];exact rX _ _,rfl⟩
noncomputable def cw(ds:List (List af)):List Nat:=if ds.length<2 then List.range ds.length else(cV ds.length (eR ds)).toList
noncomputable def cb(ds:List (List af))(xs:List V):List V:=(cw ds).map λi=>xs.getD i .non
def aY(H:Hp)(xs:List V)(ds:List (List af)):Prop:=xs.length=ds.length/\∀(i:Nat) (x:V) (d:List af),xs[i]?=some x->ds[i]?=some d->∃t,x=.ref t/\H t=some (.tup (d.map kV))
theorem iV{X:Cx}{EQ:List (Addr×Obj)}{σ:St}{H:Hp}{s:Shared}(I:Inv X EQ σ H s){t:Addr}{d:List af}(h:H t=some (.tup (d.map kV))):∃(o:Obj) (vs:List Value) (n:Nat),s.heap.get? t=some o/\o.cls=.type "tuple"/\o.data=.seq vs.toArray n/\aw (d.map kV) vs:=by obtain⟨_,its,rv,⟨o,ho,hc,n,hd⟩,_⟩:=I.hok t _ h;exact⟨o,its,n,ho,hc,hd,rv⟩
theorem nk{X:Cx}{EQ:List (Addr×Obj)}{σ:St}{H:Hp}{s:Shared}(I:Inv X EQ σ H s):∀{xs:List V} {ds:List (List af)} {its:List Value},aw xs its->aY H xs ds->(∀d∈ds,d≠[])->∃fs:List Value,KatTups s.heap its fs/\fs.length=ds.length/\∀(i:Nat) (f:Value) (d:List af),fs[i]?=some f->ds[i]?=some d->∃k r,d=k::r/\RelV (kV k) f
 | [],[],_,rv,h,_=>by cases rv;exact⟨[],KatTups.nil,rfl,λi f d h=>by simp at h⟩
 | [],_::_,_,_,h,_=>by simp[aY] at h
 |_::_,[],_,_,h,_=>by simp[aY] at h
 |x::xs,d::ds,_,rv,h,hn=>by
  cases rv with
  | @cons _ u _ us r1 r2 =>
   obtain⟨t,rfl,ht⟩:=h.2 0 x d rfl rfl;cases (show u=Value.ref t from r1);obtain⟨o,vs,n,ho,hc,hd,rd⟩:=iV I ht;obtain⟨fs,k1,k2,k3⟩:=nk I r2 (ds:=ds) ⟨by simpa using h.1,λi y e a b=>h.2 (i+1) y e a b⟩ λe he=>hn e (QA _ he)
   cases d with
   |nil=>exact absurd rfl (hn [] (by simp))
   |cons k r =>
    cases rd with
    | @cons _ f _ gs q1 q2 =>
     refine⟨f::fs,KatTups.cons ho hc hd (by simp) k1,by simp[k2],λi g e a b=>?_⟩
     cases i with
     |zero =>
      have e1:f=g:=by simpa using a
      have e2:k::r=e:=by simpa using b
      subst e1 e2;exact⟨k,r,rfl,q1⟩
     |succ i=>exact k3 i g e a b
theorem ll:∀{xs:List V} {vs:List Value},aw xs vs->∀i,i<xs.length->RelV (xs.getD i .non) (vs.getD i Value.none)
 |_,_,.nil,i,h=>by simp at h
 |_,_,.cons r1 r2,0,_=>r1
 |_,_,.cons r1 r2,i+1,h=>ll r2 i (by simpa using h)
theorem np{xs:List V}{vs:List Value}(r:aw xs vs):∀p:List Nat,(∀i∈p,i<xs.length)->aw (p.map λi=>xs.getD i .non) (p.map λi=>vs.getD i Value.none)
 | [],_=>.nil
 |i::p,h=>.cons (ll r i (h i (by simp))) (np r p λj hj=>h j (QA _ hj))
theorem jW{α:Type}(d:α):∀xs:List α,(List.range xs.length).map (λi=>xs.getD i d)=xs:=by intro xs;refine List.ext_getElem (by simp) λi h1 h2=>?_;simp[Qa h2]
section
variable {X:Cx}{EQ:List (Addr×Obj)}{σ:St}{H:Hp}{s:Shared}{xs:List V}{ds:List (List af)}{sh:List Bool}
theorem rZ{A:Around}{E:Value->Shared->Prop}{a:Addr}{its:List Value}{n:Nat}{P:Fin->Shared->Prop}
  (I:Inv X EQ σ H s) (fa:cR X EQ H a) (ho:s.heap.get? a=some (seqObj "list" its.toArray n)) (rv:aw xs its) (hz:xs.length<=sizeLine) (ht:aY H xs ds) (FC:∀d∈ds,d.map cv=sh) (EW:sh≠[])
  (fin:∀(s':Shared) (out:Array Value) (n':Nat),Inv X EQ σ H s'->s'.heap.get? a=some (seqObj "list" out n')->out.size<=sizeLine->aw (cb ds xs) out.toList->P (.done (.ret .none)) s') :
  wpAny (model X.prog X.w) A (Builtin.«list.sort» ⟨[.ref a],[]⟩) P E s:=by
 have Fm:its.length=xs.length:=rv.length.symm;rw[<-Fm] at hz;obtain⟨f0,f1,f2,f3,f4,f5⟩:=id fa;rw[list_sort_plain];refine Qb (listItems_at ho rfl ?_);refine Qb (listUpdate_at ho rfl ?_ (by rw[Qt];exact hz) (by show(#[]:Array Value).size<=_;simp))
 obtain⟨e1,IS⟩:∃e1,(s.heap.update a (Obj.mapSeq λ_=>#[])).get? a=some (seqObj "list" #[] e1):=⟨_,get?_update_seq ho (λ_=>#[])⟩
 have I1:Inv X EQ σ H {s with heap:=s.heap.update a (Obj.mapSeq λ_=>#[])}:=I.turned (t':=s.toks) (λb o hb e=>by rw[QY _ _ _ _ hb];exact e) f0 f1 f3 f4 f5;generalize s.heap.update a (Obj.mapSeq λ_=>#[])=h1 at IS I1;refine Qb (seqEpoch_at (s:={s with heap:=h1}) IS rfl ?_);refine Qb (wpAny_newTuple (s:={s with heap:=h1}) ?_ (by simpa using hz));have HN:=Qe (seqObj "tuple" its.toArray.toList.toArray 0) IS;have I2:Inv X EQ σ H {s with heap:=h1.push (seqObj "tuple" its.toArray.toList.toArray 0)}:=I1.kept (t':=s.toks) λb o e=>Qe _ e;change wpAny _ _ _ _ _ {s with heap:=h1.push (seqObj "tuple" its.toArray.toList.toArray 0)};generalize h1.push (seqObj "tuple" its.toArray.toList.toArray 0)=h2 at HN I2;refine Qb (wpAny_newList (s:={s with heap:=h2}) ?_ (by simp));have ho3:=Qe (seqObj "list" #[] 0) HN;have I3:Inv X EQ σ H {s with heap:=h2.push (seqObj "list" #[] 0)}:=I2.kept (t':=s.toks) λb o e=>Qe _ e;change wpAny _ _ _ _ _ {s with heap:=h2.push (seqObj "list" #[] 0)};generalize h2.push (seqObj "list" #[] 0)=h3 at ho3 I3;dsimp only;refine wpAny_holding ?_;have ho3:({s with heap:=h3}:Shared).heap.get? a=some (seqObj "list" #[] e1):=ho3;generalize {s with heap:=h3}=s3 at I3 ho3 ⊢
 have last:∀ Fi:SortSt,failedOf Fi=none->((arrOf Fi).map (·.2)).size<=sizeLine->aw (cb ds xs) ((arrOf Fi).map (·.2)).toList->wpAny (model X.prog X.w) A (do
   let __do_lift <- seqEpoch a
   Builtin.List.listUpdate (Value.ref a) λx=>Array.map (λx=>x.snd) (arrOf Fi)
   match failedOf Fi with
    |some e=>do
     rule "list.sort.comparison-raised"
     throw e
     if (__do_lift != e1)=true then do
         rule "list.sort.modified"
         raiseErrorWords "ValueError" "list modified during sort"
         ret Value.none
      else ret Value.none
    |x =>
     if(__do_lift != e1)=true then do
      rule "list.sort.modified"
      raiseErrorWords "ValueError" "list modified during sort"
      ret Value.none
     else ret Value.none) P E s3:=by
  intro Fi hf hsz hv;refine Qb (seqEpoch_at ho3 rfl ?_);refine Qb (listUpdate_at ho3 rfl ?_ (by simp) (Nat.le_succ_of_le hsz));rw[hf];simp only[bne_self_eq_false,QR,if_false];exact Qd (fin _ _ _ (I3.turned (t':=s3.toks) (λb o hb e=>by rw[QY _ _ _ _ hb];exact e) f0 f1 f3 f4 f5) (get?_update_seq ho3 (λ_=>(arrOf Fi).map (·.2))) hsz hv)
 have GH:ds.length=its.length:=by rw[Fm];exact ht.1.symm
 by_cases h2:its.toArray.size<2
 ·rw[if_pos h2];refine Qb (Qd ?_);rw[if_pos h2,StateT.run_pure];refine Qb (Qd ?_);have e:((arrOf (SortSt.mk' general' (its.toArray.zip its.toArray) #[] 7 none)).map (·.2))=its.toArray:=by show(its.toArray.zip its.toArray).map (·.2)=its.toArray;rw[<-Array.toList_inj];simp[List.map_snd_zip]
  refine last _ rfl (by rw[e,Qt];exact hz) ?_;rw[e];rw[Qt] at h2;unfold cb cw;rw[if_pos (by rw[GH];exact h2),GH,Fm,jW];exact rv
 ·rw[if_neg h2];rw[Qt] at h2;have hnn:∀d∈ds,d≠[]:=λd hd z=>EW (by rw[<-FC d hd,z];rfl);obtain⟨fs,kt,kl,kf⟩:=nk I3 rv ht hnn;have hds:2<=its.length:=by lia
  obtain⟨b0,sh',rfl⟩:∃b r,sh=b::r:=by
   cases sh with
   |nil=>exact absurd rfl EW
   |cons b r=>exact⟨b,r,rfl⟩
  refine Qb (kat_kind (T:=if b0=true then Value.type "int" else Value.type "str") kt (by rw[kl,GH];lia) (λv hv=>?_) (by cases b0<;>rfl) ?_)
  ·obtain⟨i,hi⟩:=List.mem_iff_getElem?.mp hv;have hil2:=(Qc hi).1;have Ho:i<ds.length:=by rw[<-kl];exact hil2
   obtain⟨k,r,ed,rk⟩:=kf i v ds[i] hi (Qa Ho);have hs:=FC ds[i] (QQ Ho);rw[ed,List.map_cons] at hs;have hb:cv k=b0:=(List.cons.inj hs).1
   cases k with
   |inl m =>
    obtain⟨t,rfl⟩:=(show ∃t,v=Value.int m t from rk)
    rw[<-hb];exact λA Q E s _ q=>Qd q
   |inr z =>
    obtain⟨t,rfl⟩:=(show ∃t,v=Value.str z t from rk)
    rw[<-hb];exact λA Q E s _ q=>Qd q
  rw[if_neg (by rw[Qt];exact h2)];refine Qb (QW (rY (vs:=its) (ks:=its) (lt:=eR ds) rfl hds (by rw[Fm,ht.1];exact nj FC) λi j hi hj C hC=>?_) ?_ λ_ _ e=>e)
  ·have one:∀ i,i<its.length->∃ (t:Addr) (o:Obj) (vs:List Value) (m:Nat),its.getD i Value.none=.ref t/\s3.heap.get? t=some o/\o.data=.seq vs.toArray m/\aw ((ds.getD i []).map kV) vs/\(ds.getD i []).map cv=b0::sh':=fun i hi=>by
    have FS:i<xs.length:=by rw[<-Fm];exact hi
    have Ho:i<ds.length:=by rw[GH];exact hi
    obtain⟨t,ex,hH⟩:=ht.2 i xs[i] ds[i] (Qa FS) (Qa Ho);obtain⟨o,vs,m,ho,hc,hd,rd⟩:=iV I3 hH;have rg:=ll rv i FS;have e1:xs.getD i .non=.ref t:=by rw[Qg,Qa FS,ex];rfl
    have e2:ds.getD i []=ds[i]:=by rw[Qg,Qa Ho];rfl
    rw[e1] at rg;exact⟨t,o,vs,m,rg,ho,hd,by rw[e2];exact rd,by rw[e2];exact FC _ (QQ Ho)⟩
   obtain⟨t1,o1,v1,m1,a1,a2,a3,a4,a5⟩:=one i hi;obtain⟨t2,o2,v2,m2,c1,c2,c3,c4,c5⟩:=one j hj;show wpAny (model X.prog X.w) A (keyLt' _ (its.getD i Value.none) (its.getD j Value.none)) C _ s3;rw[a1,c1];have hl:v1.length=v2.length:=by have q1:=a4.length;have q2:=c4.length;have q3:=congrArg List.length (a5.trans c5.symm);simp only[Qf] at q1 q2 q3;lia
   refine kat_lt a2 a3 c2 c3 ?_;rw[Qi (by simp[hl])];exact ng 0 a4 c4 (a5.trans c5.symm) hC
  rintro⟨⟨⟩,Fi⟩ s2 ⟨rfl,hf,hsz,ha⟩;have hp:aT its.length (cV its.length (eR ds)):=ni _ (by lia);have em:((arrOf Fi).map (·.2)).toList=(cV its.length (eR ds)).toList.map λi=>its.getD i Value.none:=by rw[ha,Array.toList_map,Array.toList_map,QX];refine QZ λi _=>?_;show(kas_item (its.toArray.zip its.toArray) i).2=_;rw[kat_item rfl]
  refine last Fi hf ?_ ?_
  ·rw[Array.size_map,hsz];exact hz
  ·rw[em];unfold cb cw;rw[if_neg (by rw[GH];exact h2),GH];exact np rv _ λi hi=>by rw[<-Fm];exact hp i hi
end
section
variable {X:Cx}{k:Nat}{f:Addr}{fd:FuncData}{ps:List Str}{sp:Sp}{Fv:List V}{ds:List Value}{EQ:List (Addr×Obj)}{σ:St}{H:Hp}{s:Shared}{xs:List V}{E8:List (List af)}{sh:List Bool}
theorem AL{A:Around}{E:Value->Shared->Prop}{a:Addr}{its:List Value}{n:Nat}{P:Fin->Shared->Prop}(F:aI X.prog X.w X.K X.mg X.base aK k f fd ps sp)(hr:aB k A)
  (hA:∀s H,eP X.prog X.w X.K X.mg X.base X.A X.stack s H->eP X.prog X.w X.K X.mg X.base A X.stack s H) (hb:Binds X.K fd ps ds) (hd:aw Fv ds)
  (I:Inv X EQ σ H s) (fa:cR X EQ H a) (ho:s.heap.get? a=some (seqObj "list" its.toArray n)) (rv:aw xs its) (h64:xs.length<64) (hl:E8.length=xs.length) (FC:∀d∈E8,d.map cv=sh) (EW:sh≠[])
  (hk:∀(i:Nat) (x:V) (d:List af) (H':Hp),Same H H'->xs[i]?=some x->E8[i]?=some d->∀Q':VK,(∀t H2,Same H' H2->H2 t=some (.tup (d.map kV))->Q' (.ref t) H2)->sp ([x]++Fv) H' Q' E0)
  (fin:∀(s':Shared) (H':Hp) (out:Array Value) (n':Nat),Same H H'->H' a=none->Inv X EQ σ H' s'->s'.heap.get? a=some (seqObj "list" out n')->out.size<=sizeLine->aw (cb E8 xs) out.toList->P (.done (.ret .none)) s') :
  wpAny (model X.prog X.w) A (Builtin.«list.sort» ⟨[.ref a],[(Str.ofString "key",.ref f)]⟩) P E s:=by
 have Fm:its.length=xs.length:=rv.length.symm;have hz:its.length<=sizeLine:=by rw[sizeLine_eq];lia
 obtain⟨f0,f1,f2,f3,f4,f5⟩:=id fa;rw[Ao];refine Qb (listItems_at ho rfl ?_);refine Qb (listUpdate_at ho rfl ?_ (by rw[Qt];exact hz) (by show(#[]:Array Value).size<=_;simp))
 obtain⟨e1,IS⟩:∃e1,(s.heap.update a (Obj.mapSeq λ_=>#[])).get? a=some (seqObj "list" #[] e1):=⟨_,get?_update_seq ho (λ_=>#[])⟩
 have I1:Inv X EQ σ H {s with heap:=s.heap.update a (Obj.mapSeq λ_=>#[])}:=I.turned (t':=s.toks) (λb o hb e=>by rw[QY _ _ _ _ hb];exact e) f0 f1 f3 f4 f5;generalize s.heap.update a (Obj.mapSeq λ_=>#[])=h1 at IS I1;refine Qb (seqEpoch_at (s:={s with heap:=h1}) IS rfl ?_);refine Qb (wpAny_newTuple (s:={s with heap:=h1}) ?_ (by simpa using hz));have HN:=Qe (seqObj "tuple" its.toArray.toList.toArray 0) IS;have I2:Inv X EQ σ H {s with heap:=h1.push (seqObj "tuple" its.toArray.toList.toArray 0)}:=I1.kept (t':=s.toks) λb o e=>Qe _ e;change wpAny _ _ _ _ _ {s with heap:=h1.push (seqObj "tuple" its.toArray.toList.toArray 0)};generalize h1.push (seqObj "tuple" its.toArray.toList.toArray 0)=h2 at HN I2;refine Qb (wpAny_newList (s:={s with heap:=h2}) ?_ (by simp));have ho3:=Qe (seqObj "list" #[] 0) HN;have hK3:(h2.push (seqObj "list" #[] 0)).get? h2.objs.size=some (seqObj "list" #[] 0):=Qu _ rfl;have fK:cR X EQ H h2.objs.size:=I2.fpOk (Qh _) (I2.hok.fresh (Qh _));have naK:a≠h2.objs.size:=QF (Qw HN);have I3:Inv X EQ σ H {s with heap:=h2.push (seqObj "list" #[] 0)}:=I2.kept (t':=s.toks) λb o e=>Qe _ e;change wpAny _ _ _ _ _ {s with heap:=h2.push (seqObj "list" #[] 0)};generalize h2.push (seqObj "list" #[] 0)=h3 at ho3 hK3 I3;dsimp only;generalize h2.objs.size=K at hK3 fK naK;obtain⟨g0,g1,g2,g3,g4,g5⟩:=id fK;refine wpAny_holding ?_;refine Qb (wpAny_rule ?_);refine Qb ?_;rw[<-Array.forIn_toList]
 refine wpAny_forIn_list _ (λET _ s'=>∃(i:Nat) (kv:List Value) (kx:List V) (n':Nat) (H':Hp),ET=its.drop i/\Same H H'/\H' a=none/\H' K=none/\Inv X EQ σ H' s'/\s'.heap.get? a=some (seqObj "list" #[] e1)/\s'.heap.get? K=some (seqObj "list" kv.toArray n')/\aw kx kv/\aY H' kx (E8.take i)/\i<=its.length) _ ?_ ?_ _ _
  ⟨0,[],[],0,H,by simp,Same.refl _,f0,g0,I3,ho3,hK3,.nil,⟨by simp,λi x d h=>by simp at h⟩,QC _⟩
 ·rintro x ET b s' ⟨i,kv,kx,n',H1,er,sm,na1,nK1,I',hoa,hoK,rk,tk,hi⟩;have EX:i<its.length:=by have:=congrArg List.length er;simp at this;lia
  have e2:its[i]?=some x/\its.drop (i+1)=ET:=by rw[List.drop_eq_getElem_cons EX] at er;obtain⟨z1,z2⟩:=List.cons.inj er;exact⟨by rw[Qa EX,z1],z2.symm⟩
  have FS:i<xs.length:=by lia
  have Im:i<E8.length:=by lia
  obtain⟨u,eu,ru⟩:=rv.get (Qa FS);rw[e2.1] at eu;cases eu;have r1:aw ([xs[i]]++Fv) ([x]++ds):=aw.append (.cons ru .nil) hd
  have IN:=hk i xs[i] E8[i] H1 sm (Qa FS) (Qa Im) (λv H2=>∃t,v=.ref t/\Same H1 H2/\H2 t=some (.tup (E8[i].map kV))) λt H2 a b=>⟨t,rfl,a,b⟩
  have EZ:([x]++ds).length=ps.length:=by rw[<-r1.length];exact F.len _ _ _ _ IN
  have ho2':∀b∈[a,K],∃o,s'.heap.get? b=some o/\∀v,o.data≠.cell v:=by
   intro b hb;rcases Qn hb with z|z
   ·subst z;exact⟨_,hoa,λv z=>nomatch z⟩
   ·have z:b=K:=by simpa using z
    subst z;exact⟨_,hoK,λv z=>nomatch z⟩
  have hf2:∀b∈[a,K],cR X EQ H1 b:=by
   intro b hb;rcases Qn hb with z|z
   ·subst z;exact⟨na1,fa.2⟩
   ·have z:b=K:=by simpa using z
    subst z;exact⟨nK1,fK.2⟩
  have Ip:=I'.pinned hf2 ho2';refine Qb (wpAny_attempt ?_);refine wpAny_call (codeAny_mono (F.run A X.stack s' H1 ⟨[x],[]⟩ ([x]++ds) ([xs[i]]++Fv) _ E0 hr (hA _ _ I'.env0) (hb s' [x] I'.kIn EZ) r1 IN) λr s2 hq=>?_)
  cases r with
  |error e=>exact False.elim hq
  |ok fl =>
   cases fl with
   |next=>exact False.elim hq
   |brk=>exact False.elim hq
   |cont=>exact False.elim hq
   |ret u =>
    obtain⟨v,H2,os,bare,un,hok,rr,t,ev,sm2,Fz⟩:=(show CE X.stack X.prog X.w H1 s' _ u s2 from hq)
    subst ev;cases (show u=Value.ref t from rr);have I2':=Ip.call' os un hok bare (λb z=>absurd z (by simp));have pa:=I2'.pin (a,_) (QE _ (QE _ (gg (by simp) hoa)));have pK:=I2'.pin (K,_) (QE _ (QE _ (gg (by simp) hoK)));have Jd:=pa.1;have hoK2:=pK.1;have I3':=I2'.unpinned;have Ih:kx.length=i:=by have:=tk.1;rw[Qx] at this;lia
    have FP:kv.length<=64:=by have:=rk.length;lia
    dsimp only;refine Qb (listUpdate_at hoK2 rfl ?_ (by rw[Qt,sizeLine_eq];lia) (by rw[Array.size_push,Qt,sizeLine_eq];lia))
    obtain⟨n2,hn2⟩:∃n2,(s2.heap.update K (Obj.mapSeq (·.push (Value.ref t)))).get? K=some (seqObj "list" (kv++[Value.ref t]).toArray n2):=⟨_,(get?_update_seq hoK2 (·.push (Value.ref t))).trans (by rw[List.push_toArray])⟩
    refine Qd ⟨i+1,kv++[Value.ref t],kx++[.ref t],n2,H2,e2.2.symm,sm.trans sm2,pa.2.1,pK.2.1,I3'.turned (t':=s2.toks) (λb o hb e=>by rw[QY _ _ _ _ hb];exact e) pK.2.1 g1 g3 g4 g5,?_,hn2,rk.append (.cons (show RelV (.ref t) (Value.ref t) from rfl) .nil),?_,EX⟩
    ·show(s2.heap.update K _).get? a=_;rw[QY _ _ _ _ naK];exact Jd
    ·rw[Qm Im];refine⟨by simp only[Qr,Qx,QM,List.length_nil];lia,λj y d hy hd'=>?_⟩;by_cases hj:j<i
     ·rw[Ql (by lia)] at hy;rw[Ql (by rw[Qx];lia)] at hd';obtain⟨t',a1,a2⟩:=tk.2 j y d hy hd';exact⟨t',a1,sm2 _ _ a2⟩
     ·rw[Qs (by lia)] at hy;rw[Qs (by rw[Qx];lia)] at hd';have hj2:=(Qc hy).1;have hji:j-kx.length=0:=by simp at hj2;lia
      rw[hji] at hy;rw[show j-(List.take i E8).length=0 by rw[Qx];lia] at hd';have y1:V.ref t=y:=by simpa using hy
      have d1:E8[i]=d:=by simpa using hd'
      exact⟨t,y1.symm,by rw[<-d1];exact Fz⟩
 ·rintro b s' ⟨i,kv,kx,n',H1,er,sm,na1,nK1,I',hoa,hoK,rk,tk,hi⟩;have Io:i=its.length:=by have:=congrArg List.length er;simp at this;lia
  have Iz:aY H1 kx E8:=by rw[Io,QD (by lia)] at tk;exact tk
  have FP:kv.length=its.length:=by rw[<-rk.length,Iz.1];lia
  clear tk er hi Io;have GH:E8.length=its.length:=by lia
  refine Qb (listItems_at hoK rfl ?_)
  have last:∀ Fi:SortSt,failedOf Fi=none->((arrOf Fi).map (·.2)).size=its.length->aw (cb E8 xs) ((arrOf Fi).map (·.2)).toList->wpAny (model X.prog X.w) A (do
    Builtin.List.listUpdate (.ref K) λ_=>#[]
    letGo ((arrOf Fi).map (·.1)).toList (failedOf Fi).toList
    let touched:=(<- seqEpoch a) != e1
    Builtin.List.listUpdate (.ref a) λ_=>(arrOf Fi).map (·.2)
    if let some e:=failedOf Fi then rule "list.sort.comparison-raised";throw e
    if touched then rule "list.sort.modified";raiseError "ValueError" "list modified during sort"
    ret .none) P E s':=by
   intro Fi hf hsz vy;refine Qb (listUpdate_at hoK rfl ?_ (by rw[Qt];lia) (by show(#[]:Array Value).size<=_;simp));refine Qb (wpAny_letGo ?_);have Jd:(s'.heap.update K (Obj.mapSeq λ_=>#[])).get? a=some (seqObj "list" #[] e1):=by rw[QY _ _ _ _ naK];exact hoa
   have I2:Inv X EQ σ H1 {s' with heap:=s'.heap.update K (Obj.mapSeq λ_=>#[])}:=I'.turned (t':=s'.toks) (λb o hb e=>by rw[QY _ _ _ _ hb];exact e) nK1 g1 g3 g4 g5;refine Qb (seqEpoch_at (s:={s' with heap:=s'.heap.update K (Obj.mapSeq λ_=>#[])}) Jd rfl ?_);refine Qb (listUpdate_at (s:={s' with heap:=s'.heap.update K (Obj.mapSeq λ_=>#[])}) Jd rfl ?_ (by simp) (by rw[hsz];lia));rw[hf];simp only[bne_self_eq_false,QR,if_false];exact Qd (fin _ H1 _ _ sm na1 (I2.turned (t':=s'.toks) (λb o hb e=>by rw[QY _ _ _ _ hb];exact e) na1 f1 f3 f4 f5) (get?_update_seq Jd (λ_=>(arrOf Fi).map (·.2))) (by show((arrOf Fi).map (·.2)).size<=_;rw[hsz];exact hz) vy)
  by_cases h2:its.toArray.size<2
  ·rw[if_pos h2,if_pos h2];refine Qb (Qd ?_);rw[StateT.run_pure];refine Qb (Qd ?_);have e:((arrOf (SortSt.mk' general' (kv.toArray.zip its.toArray) #[] 7 none)).map (·.2))=its.toArray:=by show(kv.toArray.zip its.toArray).map (·.2)=its.toArray;rw[<-Array.toList_inj];simp[List.map_snd_zip,FP]
   refine last _ rfl (by rw[e,Qt]) ?_;rw[e];rw[Qt] at h2;unfold cb cw;rw[if_pos (by rw[GH];exact h2),GH,Fm,jW];exact rv
  ·rw[if_neg h2,if_neg h2];rw[Qt] at h2;have hnn:∀d∈E8,d≠[]:=λd hd z=>EW (by rw[<-FC d hd,z];rfl);obtain⟨fs,kt,kl,kf⟩:=nk I' rk Iz hnn;have hds:2<=its.length:=by lia
   obtain⟨b0,sh',rfl⟩:∃b r,sh=b::r:=by
    cases sh with
    |nil=>exact absurd rfl EW
    |cons b r=>exact⟨b,r,rfl⟩
   refine Qb (kat_kind (T:=if b0=true then Value.type "int" else Value.type "str") kt (by rw[kl,GH];lia) (λv hv=>?_) (by cases b0<;>rfl) ?_)
   ·obtain⟨i,hi⟩:=List.mem_iff_getElem?.mp hv;have hil2:=(Qc hi).1;have Ho:i<E8.length:=by rw[<-kl];exact hil2
    obtain⟨k,r,ed,rk⟩:=kf i v E8[i] hi (Qa Ho);have hs:=FC E8[i] (QQ Ho);rw[ed,List.map_cons] at hs;have hb:cv k=b0:=(List.cons.inj hs).1
    cases k with
    |inl m =>
     obtain⟨t,rfl⟩:=(show ∃t,v=Value.int m t from rk)
     rw[<-hb];exact λA Q E s _ q=>Qd q
    |inr z =>
     obtain⟨t,rfl⟩:=(show ∃t,v=Value.str z t from rk)
     rw[<-hb];exact λA Q E s _ q=>Qd q
   refine Qb (QW (rY (vs:=its) (ks:=kv) (lt:=eR E8) FP hds (by rw[Fm,<-hl];exact nj FC) λi j hi hj C hC=>?_) ?_ λ_ _ e=>e)
   ·have one:∀ i,i<its.length->∃ (t:Addr) (o:Obj) (vs:List Value) (m:Nat),kv.getD i Value.none=.ref t/\s'.heap.get? t=some o/\o.data=.seq vs.toArray m/\aw ((E8.getD i []).map kV) vs/\(E8.getD i []).map cv=b0::sh':=fun i hi=>by
     have FS:i<kx.length:=by rw[Iz.1,GH];exact hi
     have Ho:i<E8.length:=by rw[GH];exact hi
     obtain⟨t,ex,hH⟩:=Iz.2 i kx[i] E8[i] (Qa FS) (Qa Ho);obtain⟨o,vs,m,ho,hc,hd,rd⟩:=iV I' hH;have rg:=ll rk i FS;have e1:kx.getD i .non=.ref t:=by rw[Qg,Qa FS,ex];rfl
     have e2:E8.getD i []=E8[i]:=by rw[Qg,Qa Ho];rfl
     rw[e1] at rg;exact⟨t,o,vs,m,rg,ho,hd,by rw[e2];exact rd,by rw[e2];exact FC _ (QQ Ho)⟩
    obtain⟨t1,o1,v1,m1,a1,a2,a3,a4,a5⟩:=one i hi;obtain⟨t2,o2,v2,m2,c1,c2,c3,c4,c5⟩:=one j hj;show wpAny (model X.prog X.w) A (keyLt' _ (kv.getD i Value.none) (kv.getD j Value.none)) C _ s';rw[a1,c1];have hl:v1.length=v2.length:=by have q1:=a4.length;have q2:=c4.length;have q3:=congrArg List.length (a5.trans c5.symm);simp only[Qf] at q1 q2 q3;lia
    refine kat_lt a2 a3 c2 c3 ?_;rw[Qi (by simp[hl])];exact ng 0 a4 c4 (a5.trans c5.symm) hC
   rintro⟨⟨⟩,Fi⟩ s2 ⟨rfl,hf,hsz,ha⟩;have hp:aT its.length (cV its.length (eR E8)):=ni _ (by lia);have em:((arrOf Fi).map (·.2)).toList=(cV its.length (eR E8)).toList.map λi=>its.getD i Value.none:=by rw[ha,Array.toList_map,Array.toList_map,QX];refine QZ λi _=>?_;show(kas_item (kv.toArray.zip its.toArray) i).2=_;rw[kat_item FP]
   refine last Fi hf (by rw[Array.size_map,hsz]) ?_;rw[em];unfold cb cw;rw[if_neg (by rw[GH];exact h2),GH];exact np rv _ λi hi=>by rw[<-Fm];exact hp i hi
theorem AM{Q:VK}{l:Addr}(F:aI X.prog X.w X.K X.mg X.base aK k f fd ps sp)(hr:aB (k+2) X.A)(hb:Binds X.K fd ps ds)(hd:aw Fv ds)
  (I:Inv X EQ σ H s) (hq:ak X.K H l xs) (h64:xs.length<64) (hl:E8.length=xs.length) (FC:∀d∈E8,d.map cv=sh) (EW:sh≠[])
  (hk:∀(i:Nat) (x:V) (d:List af) (H':Hp),Same H H'->xs[i]?=some x->E8[i]?=some d->∀Q':VK,(∀t H2,Same H' H2->H2 t=some (.tup (d.map kV))->Q' (.ref t) H2)->sp ([x]++Fv) H' Q' E0)
  (q:∀p H',Same H H'->H' p=none->Q (.ref p) (upd H' p (.lst (cb E8 xs)))) :
  wpAny (model X.prog X.w) X.A (call (.builtin "sorted") [.ref l] [(Str.ofString "key",.ref f)]) (EP X EQ σ Q) X.xe s:=by
 obtain⟨its,rv,pl,hz⟩:=I.list hq;have Fm:its.length=xs.length:=rv.length.symm;refine call_function_entry_kw kind_sorted plain_sorted entry_sorted (An _ _) ?_;unfold Builtin.«sorted»;refine Qb (m:=checkCount "sorted" 1 1 _) (Qd ?_);refine Qb (collect_list pl.isList ?_ (by rw[Fm];exact hz));have I1:Inv X EQ σ H {s with heap:=(s.heap.push (seqObj "list" #[] 0)).update s.heap.objs.size (Obj.mapSeq (·++its.toArray))}:=I.kept (t':=s.toks) λb o e=>by rw[QY _ _ _ _ (QF (Qw e))];exact Qe _ e
 generalize (s.heap.push (seqObj "list" #[] 0)).update s.heap.objs.size (Obj.mapSeq (·++its.toArray))=h1 at I1;refine Qb (wpAny_newList (s:={s with heap:=h1}) ?_ (by rw[Fm];exact hz));have Hm:(h1.push (seqObj "list" its.toArray 0)).get? h1.objs.size=some (seqObj "list" its.toArray 0):=Qu _ rfl;have I2:Inv X EQ σ H {s with heap:=h1.push (seqObj "list" its.toArray 0)}:=I1.kept (t':=s.toks) λb o e=>Qe _ e;have fL:cR X EQ H h1.objs.size:=I1.fpOk (Qh _) (I1.hok.fresh (Qh _));change wpAny _ _ _ _ _ {s with heap:=h1.push (seqObj "list" its.toArray 0)};dsimp only;generalize h1.push (seqObj "list" its.toArray 0)=h2 at Hm I2;generalize h1.objs.size=L at Hm fL;have E3:aB k X.A.in1.in1:=(aB.in1 (k:=k+1) hr).in1;refine Qb (wpAny_holding (wpAny_call_entry_kw (s:={s with heap:=h2}) slot_list_sort ⟨_,Hm,rfl⟩ entry_list_sort (AL F E3 (λ_ _ e=>e.in1.in1) hb hd I2 fL Hm rv h64 hl FC EW hk λs' H' out n' sm nL I' hoa FO vy=>⟨_,rfl,?_⟩) (Am _ _)));refine Qd ⟨_,rfl,.ref L,upd H' L (.lst (cb E8 xs)),I'.adopt ⟨nL,fL.2⟩ ?_,rfl,q L H' sm nL⟩;have FF:(cb E8 xs).length<=sizeLine:=by rw[vy.length,QB];exact FO
 exact⟨FF,out.toList,n',vy,by simpa using hoa⟩
end
def AN(sp:Sp)(Fv:List V)(K:PySem.W.Frag)(t:TE):TE:=λσ H Q=>t σ H λx H1=>∃(l:Addr) (xs:List V) (E8:List (List af)) (sh:List Bool),x=.ref l/\ak K H1 l xs/\xs.length<64/\E8.length=xs.length/\(∀d∈E8,d.map cv=sh)/\sh≠[] /\
 (∀(i:Nat) (x:V) (d:List af) (H':Hp),Same H1 H'->xs[i]?=some x->E8[i]?=some d->∀Q':VK,(∀t H2,Same H' H2->H2 t=some (.tup (d.map kV))->Q' (.ref t) H2)->sp ([x]++Fv) H' Q' E0)/\∀p H',Same H1 H'->H' p=none->Q (.ref p) (upd H' p (.lst (cb E8 xs)))
theorem AO{X:Cx}{k:Nat}{f:Addr}{fd:FuncData}{ps:List Str}{sp:Sp}{Fv:List V}{ds:List Value}{K:PySem.W.Frag}{e:Expr}{t:TE}{y:Str}{p p2 p3 pos:Pos}(hK:X.K=K)(F:aI X.prog X.w X.K X.mg X.base aK k f fd ps sp)(hr:aB (k+2) X.A)(hb:Binds X.K fd ps ds)(hd:aw Fv ds)
  (hg:Gl X "sorted") (hm:X.mg "sorted"=none) (hgf:Gl X y) (hmf:X.mg y=some (.ref f)) (he:PE X e t) (hy:(y==("__debug__":Str))=false:=by decide)
  (hs:starEach [e] X.env=(false,eval e X.env)::starEach [] X.env:=by rfl) :
  PE X (.Call (.Name "sorted" p) [e] [⟨some "key",.Name y p2,p3⟩] pos) (AN sp Fv K t):=by
 intro EQ s σ H Q I h;subst hK;refine wpAny_Call_Name_kw (jy I hg hm (show bootBuiltins "sorted"=some (.builtin "sorted") from by decide +kernel) ?_);refine callWith_kw ?_ (by rw[hs];rfl) (by rw[hs];rfl);rw[hs];show wpAny _ _ (spliced ((false,eval e X.env)::backTo pos (starEach [] X.env))) _ _ s;refine Calls.spliced_cons (aA (he EQ s σ H _ I h) λu s1 ⟨x,H1,I1,r1,q1⟩=>Calls.spliced_nil ?_);obtain⟨l,xs,E8,sh,e1,hq,h64,hl,FC,EW,hk,q⟩:=q1;subst e1;cases (show u=Value.ref l from r1);refine aA ((yP (te:=λ_ H Q=>Q (.ref f) H) (λEQ s σ H Q I h=>kE I hgf hmf ⟨.ref f,H,I,rfl,h⟩ hy) yO) pos EQ s1 σ H1 (λzs H2=>zs=[.ref f]/\H2=H1) I1 ⟨rfl,rfl⟩) λws s2 hsl56=>?_;obtain⟨zs,H2,I2,rz,ez,eH⟩:=hsl56;subst ez eH;obtain⟨u,rfl,ru⟩:=vals1 rz;cases (show u=Value.ref f from ru);exact AM F hr hb hd I2 hq h64 hl FC EW hk q
end L2
namespace L2
open PySem PySem.Spec PyProof.Rows
noncomputable def nq(z:Str)(i:Nat):V:=.str ⟨#[z.cps.toList.getD i 0]⟩
theorem AQ{P:Program}{w:World}{K:PySem.W.Frag}{tg:Expr}(it:Addr)(z:Str)(t:Tok) :
  fm P w K tg (mQ z.length (nq z)) [it] it (λi h=>i<=z.length/\h.IsStrIter it "str_ascii_iterator" z t i) where
 mem:=by simp
 obj:=λi h st b hb=>by
  have e:b=it:=by simpa using hb
  subst e;obtain⟨_,o,e,c,d⟩:=st;exact⟨o,e,λv z=>by rw[d] at z;cases z⟩
 keep:=λi h h' st k=>⟨st.1,by obtain⟨o,e,r⟩:=st.2;exact⟨o,k it (by simp) o e,r⟩⟩
 item:=by
  intro X hP hw hK hc i EQ s σ H E I hf st hg;subst hP hw hK;have hg:i<z.length:=hg;obtain⟨f0,f1,f2,f3,f4,f5⟩:=hf it (by simp);have hl:z.cps.toList.length=z.length:=by simp[Str.length]
  have hcc:z.cps[i]?=some (z.cps.toList.getD i 0):=by rw[Qg,Qa (by lia),<-Array.getElem?_toList,Qa (by lia)];rfl
  refine wpAny_pyNext_ascii_item st.2 hcc λh' Fi sb=>?_;have I1:Inv X EQ σ H {s with heap:=h',toks:=s.toks+1}:=I.turned (λb o hb e=>(sb.2 b hb).trans e) f0 f1 f3 f4 f5;obtain⟨o,e,c,d⟩:=id Fi;exact⟨_,rfl,kH (s:={s with heap:=h',toks:=s.toks+1}) e c d (by decide) ⟨nq z i,H,I1,⟨s.toks,rfl⟩,⟨rfl,rfl⟩,⟨hg,Fi⟩,λb hb=>(hf b hb).1⟩⟩
 done:=by
  intro X hP hw hK hc i EQ s σ H E I hf st hg;subst hP hw hK;have hg:z.length<=i:=hg;obtain⟨f0,f1,f2,f3,f4,f5⟩:=hf it (by simp)
  exact wpAny_pyNext_ascii_end (I.ok.hd hc) st.2 (Array.getElem?_eq_none (by show z.length<=i;exact hg)) λh' eb=>⟨rfl,I.turned (t':=s.toks) (λb o hb e=>eb b o hb e) f0 f1 f3 f4 f5⟩
 self:=λ_ _ _ _ _ st h=>wpAny_pyIter_striter_ascii st.2 h
section
variable {X:Cx}{tg:Expr}
def AR(te:TE):TI:=λσ H R=>te σ H λx H1=>∃z:Str,x=.str z/\z.cps.all (·<128)=true/\R (mQ z.length (nq z)) H1
theorem AS{e:Expr}{te:TE}(he:PE X e te):PI X tg e (AR te):=by
 intro EQ s σ H R I h;refine aA (he EQ s σ H _ I h) λv s1 hsl57=>?_;obtain⟨x,H1,I1,r1,q1⟩:=hsl57;obtain⟨z,e,ha,q⟩:=q1;subst e;obtain⟨t,rfl⟩:=r1;refine wpAny_pyIter_ascii ha ?_;refine⟨s1.heap.objs.size,[s1.heap.objs.size],_,_,H1,rfl,I1.kept (t':=s1.toks) λb o e=>Qe _ e,AQ _ z t,⟨QC _,_,Qu _ rfl,rfl,rfl⟩,λb hb=>?_,q⟩;have e:b=s1.heap.objs.size:=by simpa using hb
 subst e;exact I1.fpOk (Qh _) (I1.hok.fresh (Qh _))
end
section
variable {X:Cx}
theorem AT{K:PySem.W.Frag}(hK:X.K=K):bR X (compareOp .NotIn) (iB K true):=by subst hK;exact qG
end
section
variable {js:List Nat}{tt:TT}{te:TE}
theorem AU{n:Nat}{y:Nat->V}{σ:St}{H:Hp}{Q:VK}(Pv:Nat->List V->Hp->Prop)(h0:Pv 0 [] H)
  (hs:∀i ys H,i<n->Pv i ys H->tt (some (y i)::bx js σ) H λb H2=>if b=true then te (some (y i)::bx js σ) H2 λz H3=>ys.length<sizeLine/\Pv (i+1) (ys++[z]) H3 else Pv (i+1) ys H2)
  (hd:∀ys H,Pv n ys H->∀p,H p=none->Q (.ref p) (upd H p (.lst ys))):gQ (mQ n y) js tt te σ H Q:=by
 refine⟨λi m ys H=>i+m=n/\Pv i ys H,⟨n,by simp,h0⟩,?_⟩;rintro i m ys H1 ⟨e,q⟩;rcases Nat.lt_or_ge i n with EX|hge
 ·refine .inr ⟨EX,λGn H'=>Pv (i+1) Gn H',λGn H' q'=>⟨m-1,by lia,by lia,q'⟩,?_⟩;rintro x H' ⟨rfl,rfl⟩;exact hs i ys _ EX q
 ·have:i=n:=by lia
  subst this;exact .inl ⟨hge,hd ys H1 q⟩
end
end L2
namespace Mm
open PySem L2 PyProof.Rows
noncomputable def jX:List Str:=["+","-","*","less","same","and","or"]
inductive Ex where
 |num (n:Int)
 |truth (z:Str)
 |name (z:Str)
 |not (e:Ex)
 |op (w:Str) (a b:Ex)
 |of (n:Str) (e:Ex)
 |many (w n:Str) (es:List Ex)
mutual
inductive bf (H:Hp):V->Ex->Prop where
 |num {t:Addr} {n:Int}:H t=some (.tup [.str "num",.int n])->bf H (.ref t) (.num n)
 |truth {t:Addr} {z:Str}:H t=some (.tup [.str "truth",.str z])->bf H (.ref t) (.truth z)
 |name {t:Addr} {z:Str}:H t=some (.tup [.str "name",.str z])->bf H (.ref t) (.name z)
 |not {t:Addr} {v:V} {e:Ex}:H t=some (.tup [.str "not",v])->bf H v e->bf H (.ref t) (.not e)
 |op {t:Addr} {z:Str} {v u:V} {a b:Ex}:H t=some (.tup [.str z,v,u])->bf H v a->bf H u b->bf H (.ref t) (.op z a b)
 |of {t:Addr} {n:Str} {v:V} {e:Ex}:H t=some (.tup [.str "of",.str n,v])->bf H v e->bf H (.ref t) (.of n e)
 |many {t l:Addr} {z n:Str} {vs:List V} {es:List Ex}:H t=some (.tup [.str z,.str n,.ref l])->H l=some (.tup vs)->ExsAt H vs es->bf H (.ref t) (.many z n es)
inductive ExsAt (H:Hp):List V->List Ex->Prop where
 |nil:ExsAt H [] []
 |cons {v:V} {vs:List V} {e:Ex} {es:List Ex}:bf H v e->ExsAt H vs es->ExsAt H (v::vs) (e::es)
end
def nu(H H':Hp):Prop:=∀b xs,H b=some (.tup xs)->H' b=some (.tup xs)
mutual
theorem bf.kept{H H':Hp}(s:nu H H'):∀{v:V} {e:Ex},bf H v e->bf H' v e
 |_,_,.num h=>.num (s _ _ h)
 |_,_,.truth h=>.truth (s _ _ h)
 |_,_,.name h=>.name (s _ _ h)
 |_,_,.not h a=>.not (s _ _ h) (a.kept s)
 |_,_,.op h a b=>.op (s _ _ h) (a.kept s) (b.kept s)
 |_,_,.of h a=>.of (s _ _ h) (a.kept s)
 |_,_,.many h l a=>.many (s _ _ h) (s _ _ l) (a.kept s)
theorem ExsAt.kept{H H':Hp}(s:nu H H'):∀{vs:List V} {es:List Ex},ExsAt H vs es->ExsAt H' vs es
 |_,_,.nil=>.nil
 |_,_,.cons a b=>.cons (a.kept s) (b.kept s)
end
theorem _root_.L2.Same.tups{H H':Hp}(s:Same H H'):nu H H':=λ_ _ h=>s _ _ h
end Mm
namespace L2
open PySem PySem.Spec PyProof.Rows PySem.W
theorem r9:bootBuiltins "sorted"=some (.builtin "sorted"):=by decide +kernel
theorem AV(ds:List (List af)):(cw ds).length=ds.length:=by
 unfold cw;split
 ·simp
 ·rw[QB];exact rX _ _
theorem sd{n i:Nat}(h:i<n):(List.toArray (List.range n)).getD i 0=i:=by simp[Array.getD,h]
theorem AW{lt:Nat->Nat->Bool}{n:Nat}(hn:0<n)(h:∀i,i+1<n->lt (i+1) i=false):cV n lt=(List.range n).toArray:=by
 by_cases o:0<n/\iU n lt
 ·refine(lh o.1 o.2).1.2.2 λi j _ Go hj=>?_;rw[sd hj,sd (by omega)]
  obtain⟨k,rfl⟩:∃k,j=i+k+1:=⟨j-i-1,by omega⟩
  clear Go
  induction k with
  |zero=>exact h i hj
  |succ k ih=>exact o.2.tr _ _ _ (by omega) (by omega) hj (ih (by omega)) (h _ hj)
 ·unfold cV;rw[dif_neg o]
theorem AX{ds:List (List af)}{xs:List V}(h64:ds.length<1000)(hl:ds.length=xs.length)(h:∀i,i+1<ds.length->bT (ds.getD (i+1) []) (ds.getD i [])=false):cb ds xs=xs:=by
 unfold cb cw;split
 ·rw[hl,jW]
 ·rw[AW (by lia) (lt:=eR ds) h];show(List.range ds.length).map _=_;rw[hl,jW]
theorem se:∀{a b:List (List af)},a.Pairwise (λx y=>bT x y=true)->b.Pairwise (λx y=>bT x y=true)->(∀d,d∈a↔d∈b)->a=b
 | [],[],_,_,_=>rfl
 | [],y::b,_,_,h=>nomatch (h y).mpr QH
 |x::a,[],_,_,h=>nomatch (h x).mp QH
 |x::a,y::b,ha,hb,h=>by
  have ha':=List.pairwise_cons.mp ha;have HB:=List.pairwise_cons.mp hb
  have e:x=y:=by
   rcases Qn ((h x).mp QH) with e|h1
   ·exact e
   ·rcases Qn ((h y).mpr QH) with e|h2
    ·exact e.symm
    ·have g1:=HB.1 x h1;have g2:=ha'.1 y h2;rw[iT g1] at g2;cases g2
  subst e;have nx:∀{l:List (List af)},(∀z∈l,bT x z=true)->x∉l:=λhl hm=>by have:=hl x hm;have g:=iT this;rw[this] at g;cases g
  rw[se ha'.2 HB.2 λd=>?_];constructor
  ·intro hd;rcases Qn ((h d).mp (QA _ hd)) with e|g
   ·subst e;exact absurd hd (nx ha'.1)
   ·exact g
  ·intro hd;rcases Qn ((h d).mpr (QA _ hd)) with e|g
   ·subst e;exact absurd hd (nx HB.1)
   ·exact g
theorem sf{ds:List (List af)}{sh:List Bool}(FC:∀d∈ds,d.map cv=sh)(nd:ds.Nodup) :
  ((cw ds).map λi=>ds.getD i []).Pairwise (λx y=>bT x y=true)/\(∀i∈cw ds,i<ds.length)/\∀j,j<ds.length->j∈cw ds:=by
 unfold cw;by_cases h2:ds.length<2
 ·rw[if_pos h2];refine⟨?_,λi hi=>List.mem_range.mp hi,λj hj=>List.mem_range.mpr hj⟩
  match ds,h2 with
  | [],_=>exact .nil
  | [a],_=>exact List.pairwise_singleton ..
 ·rw[if_neg h2];have gd:∀i,i<ds.length->ds.getD i []∈ds:=λi hi=>by rw[Qg,Qa hi];exact QQ hi
  have ok:=(lh (by omega) (nj FC)).1;generalize cV ds.length (eR ds)=q at ok;obtain⟨pm,sg,_⟩:=ok;have pl:=Array.perm_iff_toList_perm.mp pm;have hm:∀i,i∈q.toList↔i<ds.length:=λi=>by rw[pl.mem_iff];simp
  refine⟨?_,λi hi=>(hm i).mp hi,λj hj=>(hm j).mpr hj⟩;rw[List.pairwise_map];refine List.pairwise_iff_getElem.mpr λi j hi hj Go=>?_;have ndq:q.toList.Nodup:=pl.nodup_iff.mpr (by simpa using List.nodup_range);have EW:q.toList[i]≠q.toList[j]:=List.pairwise_iff_getElem.mp ndq i j hi hj Go;have li:=(hm _).mp (QQ hi);have lj:=(hm _).mp (QQ hj);have hq:∀i (h:i<q.toList.length),q.toList[i]=q.getD i 0:=λi h=>by rw[QB] at h;simp[Array.getD,h]
  have hz:q.toList.length=ds.length:=by rw[pl.length_eq];simp
  have h1:=sg i j (QC _) Go (by omega);rw[<-hq i hi,<-hq j hj] at h1;refine lg ((FC _ (gd _ lj)).trans (FC _ (gd _ li)).symm) (λe=>EW ?_) h1;rw[Qg,Qg,Qa li,Qa lj] at e;have pw:=List.pairwise_iff_getElem.mp nd;rcases Nat.lt_trichotomy q.toList[i] q.toList[j] with g|g|g
  ·exact absurd e.symm (pw _ _ li lj g)
  ·exact g
  ·exact absurd e (pw _ _ lj li g)
end L2
namespace Mm
open PySem L2 PyProof.Rows
inductive Tr where
 |set (r:Nat) (n:Str) (e:Ex)
 |tell (r:Nat) (e:Ex)
 |iff (r:Nat) (e:Ex) (b o:List Tr)
 |whl (r:Nat) (e:Ex) (b:List Tr)
 |give (r:Nat) (e:Ex)
 |df (r:Nat) (n k:Str) (ps:List (Str×Str)) (b:List Tr)
 |kd (r:Nat) (n:Str) (ps:List (Str×Str))
noncomputable def Tr.row:Tr->Nat
 |.set r _ _=>r
 |.tell r _=>r
 |.iff r _ _ _=>r
 |.whl r _ _=>r
 |.give r _=>r
 |.df r _ _ _ _=>r
 |.kd r _ _=>r
mutual
noncomputable def Tr.deep:Tr->Nat
 |.set _ _ _=>0
 |.tell _ _=>0
 |.iff _ _ b o=>max (deeps b) (deeps o)
 |.whl _ _ b=>deeps b
 |.give _ _=>0
 |.df _ _ _ _ b=>deeps b
 |.kd _ _ _=>0
noncomputable def deeps:List Tr->Nat
 | []=>0
 |t::ts=>max (t.deep+1) (deeps ts)
end
inductive bL where
 |s (z:Str)
 |i (n:Nat)
 |e (x:Ex)
 |b (ts:List Tr)
 |p (ps:List (Str×Str))
noncomputable def Tr.parts:Tr->List bL
 |.set r n e=>[.s "set",.i r,.s n,.e e]
 |.tell r e=>[.s "tell",.i r,.e e]
 |.iff r e b o=>[.s "if",.i r,.e e,.b b,.b o]
 |.whl r e b=>[.s "while",.i r,.e e,.b b]
 |.give r e=>[.s "give",.i r,.e e]
 |.df r n k ps b=>[.s "def",.i r,.s n,.s k,.p ps,.b b]
 |.kd r n ps=>[.s "kind",.i r,.s n,.p ps]
theorem Tr.parts_len(t:Tr):t.parts.length<=6:=by cases t<;>simp[Tr.parts]
def fY(H:Hp)(v:V)(ps:List (Str×Str)):Prop:=∃(t:Addr) (us:List Addr),v=.ref t/\H t=some (.tup (us.map V.ref))/\us.length=ps.length/\∀(i:Nat) (u:Addr) (q:Str×Str),us[i]?=some u->ps[i]?=some q->H u=some (.tup [.str q.1,.str q.2])
mutual
inductive bW (H:Hp) (sh:Bool):V->Tr->Prop where
 |mk {t:Addr} {vs:List V} {x:Tr}:H t=some (.tup vs)->PsAt H sh vs x.parts->bW H sh (.ref t) x
inductive PsAt (H:Hp) (sh:Bool):List V->List bL->Prop where
 |nil:PsAt H sh [] []
 |cons {v:V} {vs:List V} {p:bL} {ps:List bL}:PAt H sh v p->PsAt H sh vs ps->PsAt H sh (v::vs) (p::ps)
inductive PAt (H:Hp) (sh:Bool):V->bL->Prop where
 |s (z:Str):PAt H sh (.str z) (.s z)
 |i (n:Nat):PAt H sh (.int (n:Int)) (.i n)
 |e {v:V} {x:Ex}:bf H v x->PAt H sh v (.e x)
 |b {l:Addr} {xs:List V} {ts:List Tr}:H l=some (.lst xs)->LAt H sh xs ts->PAt H sh (.ref l) (.b ts)
 |p {v:V} {ps:List (Str×Str)}:fY H v ps->PAt H sh v (.p ps)
inductive LAt (H:Hp) (sh:Bool):List V->List Tr->Prop where
 |nil:LAt H sh [] []
 |cons {v:V} {vs:List V} {t:Tr} {ts:List Tr}:OAt H sh v t->LAt H sh vs ts->LAt H sh (v::vs) (t::ts)
inductive OAt (H:Hp) (sh:Bool):V->Tr->Prop where
 |plain {v:V} {t:Tr}:sh=false->bW H sh v t->OAt H sh v t
 |shared {p:Addr} {v:V} {t:Tr}:sh=true->H p=some (.tup [.int 1,v])->bW H sh v t->OAt H sh (.ref p) t
end
structure ca(H H':Hp):Prop where
 t:∀b xs,H b=some (.tup xs)->H' b=some (.tup xs)
 l:∀b xs,H b=some (.lst xs)->H' b=some (.lst xs)
 z:∀b o x,H b=some (.frz o x)->H' b=some (.frz o x)
 b:∀b ps,H b=some (.tbl ps)->H' b=some (.tbl ps)
theorem ca.refl(H:Hp):ca H H:=⟨λ_ _ h=>h,λ_ _ h=>h,λ_ _ _ h=>h,λ_ _ h=>h⟩
theorem ca.trans{H H1 H2:Hp}(a:ca H H1)(b:ca H1 H2):ca H H2:=⟨λ_ _ h=>b.1 _ _ (a.1 _ _ h),λ_ _ h=>b.2 _ _ (a.2 _ _ h),λ_ _ _ h=>b.z _ _ _ (a.z _ _ _ h),λ_ _ h=>b.b _ _ (a.b _ _ h)⟩
theorem _root_.L2.Same.ls{H H':Hp}(s:Same H H'):ca H H':=⟨λ_ _ h=>s _ _ h,λ_ _ h=>s _ _ h,λ_ _ _ h=>s _ _ h,λ_ _ h=>s _ _ h⟩
structure gX(H H':Hp):Prop where
 t:∀b xs,H b=some (.tup xs)->H' b=some (.tup xs)
 l:∀b xs,H b=some (.lst xs)->H' b=some (.lst xs)
theorem ca.w{H H':Hp}(s:ca H H'):gX H H':=⟨s.1,s.2⟩
theorem fY.keep{H H':Hp}{v:V}{ps:List (Str×Str)}(h:fY H v ps)(s:gX H H'):fY H' v ps:=by obtain⟨t,us,a,b,c,d⟩:=h;exact⟨t,us,a,s.1 _ _ b,c,λi u q x y=>s.1 _ _ (d i u q x y)⟩
mutual
theorem bW.keep{H H':Hp}{sh:Bool}(s:gX H H'):∀{v:V} {t:Tr},bW H sh v t->bW H' sh v t
 |_,_,.mk h a=>.mk (s.1 _ _ h) (a.keep s)
theorem PsAt.keep{H H':Hp}{sh:Bool}(s:gX H H'):∀{vs:List V} {ps:List bL},PsAt H sh vs ps->PsAt H' sh vs ps
 |_,_,.nil=>.nil
 |_,_,.cons a b=>.cons (a.keep s) (b.keep s)
theorem PAt.keep{H H':Hp}{sh:Bool}(s:gX H H'):∀{v:V} {p:bL},PAt H sh v p->PAt H' sh v p
 |_,_,.s z=>.s z
 |_,_,.i n=>.i n
 |_,_,.e a=>.e (a.kept s.1)
 |_,_,.b l a=>.b (s.2 _ _ l) (a.keep s)
 |_,_,.p a=>.p (a.keep s)
theorem LAt.keep{H H':Hp}{sh:Bool}(s:gX H H'):∀{vs:List V} {ts:List Tr},LAt H sh vs ts->LAt H' sh vs ts
 |_,_,.nil=>.nil
 |_,_,.cons a b=>.cons (a.keep s) (b.keep s)
theorem OAt.keep{H H':Hp}{sh:Bool}(s:gX H H'):∀{v:V} {t:Tr},OAt H sh v t->OAt H' sh v t
 |_,_,.plain e a=>.plain e (a.keep s)
 |_,_,.shared e h a=>.shared e (s.1 _ _ h) (a.keep s)
end
theorem bW.kept{H H':Hp}{sh:Bool}(s:ca H H'){v:V}{t:Tr}(h:bW H sh v t):bW H' sh v t:=h.keep s.w
theorem PsAt.kept{H H':Hp}{sh:Bool}(s:ca H H'){vs:List V}{ps:List bL}(h:PsAt H sh vs ps):PsAt H' sh vs ps:=h.keep s.w
theorem PAt.kept{H H':Hp}{sh:Bool}(s:ca H H'){v:V}{p:bL}(h:PAt H sh v p):PAt H' sh v p:=h.keep s.w
theorem LAt.kept{H H':Hp}{sh:Bool}(s:ca H H'){vs:List V}{ts:List Tr}(h:LAt H sh vs ts):LAt H' sh vs ts:=h.keep s.w
theorem OAt.kept{H H':Hp}{sh:Bool}(s:ca H H'){v:V}{t:Tr}(h:OAt H sh v t):OAt H' sh v t:=h.keep s.w
theorem PsAt.length{H:Hp}{sh:Bool}:∀{vs:List V} {ps:List bL},PsAt H sh vs ps->vs.length=ps.length
 |_,_,.nil=>rfl
 |_,_,.cons _ b=>by simp[b.length]
theorem PsAt.get{H:Hp}{sh:Bool}:∀{vs:List V} {ps:List bL},PsAt H sh vs ps->∀{i:Nat} {v:V},vs[i]?=some v->∃p,ps[i]?=some p/\PAt H sh v p
 |_,_,.nil,i,v,h=>by simp at h
 |_,_,.cons a b,0,v,h=>by cases (show some _=some v from h);exact⟨_,rfl,a⟩
 |_,_,.cons a b,i+1,v,h=>b.get h
theorem PsAt.snoc{H:Hp}{sh:Bool}:∀{vs:List V} {ps:List bL} {v:V} {p:bL},PsAt H sh vs ps->PAt H sh v p->PsAt H sh (vs++[v]) (ps++[p])
 |_,_,_,_,.nil,h=>.cons h .nil
 |_,_,_,_,.cons a b,h=>.cons a (b.snoc h)
theorem PAt.other{H:Hp}{sh sh':Bool}{v:V}{p:bL}(h:PAt H sh v p)(n:∀ts,p≠.b ts):PAt H sh' v p:=by
 cases h with
 |s z=>exact .s z
 |i m=>exact .i m
 |e a=>exact .e a
 |b _ _=>exact absurd rfl (n _)
 |p a=>exact .p a
theorem bf.tup{H:Hp}{v:V}{e:Ex}(h:bf H v e):∃t xs,v=.ref t/\H t=some (.tup xs):=by
 cases h with
 |num h=>exact⟨_,_,rfl,h⟩
 |truth h=>exact⟨_,_,rfl,h⟩
 |name h=>exact⟨_,_,rfl,h⟩
 |not h _=>exact⟨_,_,rfl,h⟩
 |op h _ _=>exact⟨_,_,rfl,h⟩
 |of h _=>exact⟨_,_,rfl,h⟩
 |many h _ _=>exact⟨_,_,rfl,h⟩
theorem AY(K:PySem.W.Frag):PySem.W.kitOne K (.type "int") (.type "list")=some false:=by rfl
theorem AZ(K:PySem.W.Frag):PySem.W.kitOne K (.type "str") (.type "list")=some false:=by rfl
theorem si(K:PySem.W.Frag):PySem.W.kitOne K (.type "tuple") (.type "list")=some false:=by rfl
theorem PAt.isL{K:PySem.W.Frag}{H:Hp}{sh:Bool}{v:V}{p:bL}(h:PAt H sh v p):(∃ts l xs,p=.b ts/\v=.ref l/\H l=some (.lst xs)/\LAt H sh xs ts/\de K H v (.type "list")/\PySem.W.kitOne K (.type "list") (.type "list")=some true) ∨
  (∀ts,p≠.b ts)/\∃t,de K H v t/\PySem.W.kitOne K t (.type "list")=some false:=by
 cases h with
 |s z=>exact .inr ⟨λ_ h=>(nomatch h),_,.str z,AZ K⟩
 |i n=>exact .inr ⟨λ_ h=>(nomatch h),_,.int _,AY K⟩
 |e a =>
  obtain⟨t,xs,rfl,ht⟩:=bf.tup a;exact .inr ⟨λ_ h=>(nomatch h),_,.tup ht,si K⟩
 |b h a=>exact .inl ⟨_,_,_,rfl,rfl,h,a,.lst h,by rfl⟩
 |p a =>
  obtain⟨t,us,rfl,ht,_⟩:=a;exact .inr ⟨λ_ h=>(nomatch h),_,.tup ht,si K⟩
theorem LAt.length{H:Hp}{sh:Bool}:∀{vs:List V} {ts:List Tr},LAt H sh vs ts->vs.length=ts.length
 |_,_,.nil=>rfl
 |_,_,.cons _ b=>by simp[b.length]
theorem LAt.get{H:Hp}{sh:Bool}:∀{vs:List V} {ts:List Tr},LAt H sh vs ts->∀{i:Nat} {v:V},vs[i]?=some v->∃t,ts[i]?=some t/\OAt H sh v t
 |_,_,.nil,i,v,h=>by simp at h
 |_,_,.cons a b,0,v,h=>by cases (show some _=some v from h);exact⟨_,rfl,a⟩
 |_,_,.cons a b,i+1,v,h=>b.get h
theorem LAt.snoc{H:Hp}{sh:Bool}:∀{vs:List V} {ts:List Tr} {v:V} {t:Tr},LAt H sh vs ts->OAt H sh v t->LAt H sh (vs++[v]) (ts++[t])
 |_,_,_,_,.nil,h=>.cons h .nil
 |_,_,_,_,.cons a b,h=>.cons a (b.snoc h)
mutual
noncomputable def Tr.cnt:Tr->Nat
 |.set _ _ _=>1
 |.tell _ _=>1
 |.iff _ _ b o=>1+(cnts b+cnts o)
 |.whl _ _ b=>1+cnts b
 |.give _ _=>1
 |.df _ _ _ _ b=>1+cnts b
 |.kd _ _ _=>1
noncomputable def cnts:List Tr->Nat
 | []=>0
 |t::ts=>t.cnt+cnts ts
end
theorem lm:∀(a b:List Tr),cnts (a++b)=cnts a+cnts b
 | [],b=>by simp[cnts]
 |t::a,b=>by simp[cnts,lm a b];lia
mutual
noncomputable def Ex.deep:Ex->Nat
 |.num _=>0
 |.truth _=>0
 |.name _=>0
 |.not e=>e.deep+1
 |.op _ a b=>max a.deep b.deep+1
 |.of _ e=>e.deep+1
 |.many _ _ es=>gY es+1
noncomputable def gY:List Ex->Nat
 | []=>0
 |e::es=>max e.deep (gY es)
end
mutual
def Ex.good:Ex->Prop
 |.num _=>True
 |.truth _=>True
 |.name _=>True
 |.not e=>e.good
 |.op w a b=>w∈jX/\a.good/\b.good
 |.of _ e=>e.good
 |.many w _ es=>(w="do"∨w="new")/\es.length<=20/\jY es
def jY:List Ex->Prop
 | []=>True
 |e::es=>e.good/\jY es
end
theorem nv:∀{es:List Ex} {e:Ex},e∈es->e.deep<=gY es
 |x::es,e,h=>by
  rcases Qn h with z|z
  ·subst z;simp[gY];lia
  ·have:=nv z;simp[gY];lia
theorem nw:∀{es:List Ex} {e:Ex},jY es->e∈es->e.good
 |x::es,e,g,h=>by
  rcases Qn h with z|z
  ·subst z;exact g.1
  ·exact nw g.2 z
def Ex.fit(e:Ex):Prop:=e.good/\e.deep<8
mutual
def Tr.asc:Tr->Prop
 |.set _ _ e=>e.fit
 |.tell _ e=>e.fit
 |.iff _ e b o=>e.fit/\(b.length<=40/\ascs b)/\o.length<=40/\ascs o
 |.whl _ e b=>e.fit/\b.length<=40/\ascs b
 |.give _ e=>e.fit
 |.df _ _ _ ps b=>ps.length<=20/\b.length<=40/\ascs b
 |.kd _ _ ps=>ps.length<=20
def ascs:List Tr->Prop
 | []=>True
 |t::ts=>t.asc/\(∀u∈ts,t.row<u.row)/\ascs ts
end
theorem ExsAt.get{H:Hp}:∀{vs:List V} {es:List Ex},ExsAt H vs es->∀{i:Nat} {v:V},vs[i]?=some v->∃e,es[i]?=some e/\bf H v e
 |_,_,.nil,i,v,h=>by simp at h
 |_,_,.cons a b,0,v,h=>by cases (show some _=some v from h);exact⟨_,rfl,a⟩
 |_,_,.cons a b,i+1,v,h=>ExsAt.get b h
theorem ExsAt.len{H:Hp}:∀{vs:List V} {es:List Ex},ExsAt H vs es->vs.length=es.length
 |_,_,.nil=>rfl
 |_,_,.cons a b=>by simp[ExsAt.len b]
theorem ln{t:Tr}{ts:List Tr}(h:bL.b ts∈t.parts):deeps ts<=t.deep:=by
 cases t with
 |set r n e=>simp[Tr.parts] at h
 |tell r e=>simp[Tr.parts] at h
 |iff r e b o =>
  simp[Tr.parts] at h;rcases h with h|h<;>subst h<;>simp[Tr.deep]<;>lia
 |whl r e b=>simp[Tr.parts] at h;subst h;simp[Tr.deep]
 |give r e=>simp[Tr.parts] at h
 |df r n k ps b=>simp[Tr.parts] at h;subst h;simp[Tr.deep]
 |kd r n ps=>simp[Tr.parts] at h
theorem jZ{t:Tr}{ts:List Tr}(a:t.asc)(h:bL.b ts∈t.parts):ts.length<=40/\ascs ts:=by
 cases t with
 |set r n e=>simp[Tr.parts] at h
 |tell r e=>simp[Tr.parts] at h
 |iff r e b o =>
  simp[Tr.parts] at h;rcases h with h|h<;>subst h
  ·exact a.2.1
  ·exact a.2.2
 |whl r e b=>simp[Tr.parts] at h;subst h;exact a.2
 |give r e=>simp[Tr.parts] at h
 |df r n k ps b=>simp[Tr.parts] at h;subst h;exact a.2
 |kd r n ps=>simp[Tr.parts] at h
theorem lq:∀{ts:List Tr} {t:Tr},t∈ts->t.deep+1<=deeps ts
 |u::ts,t,h=>by
  rcases Qn h with z|z
  ·subst z;simp[deeps];lia
  ·have:=lq z;simp[deeps];lia
theorem lr:∀{ts:List Tr} {t:Tr},ascs ts->t∈ts->t.asc
 |u::ts,t,a,h=>by
  rcases Qn h with z|z
  ·subst z;exact a.1
  ·exact lr a.2.2 z
mutual
noncomputable def Ex.sz:Ex->Nat
 |.many _ _ es=>szL es+1
 |.name _=>1
 |.not e=>e.sz+1
 |.op _ a b=>a.sz+b.sz+1
 |.of _ e=>e.sz+1
 |.num _=>1
 |.truth _=>1
noncomputable def szL:List Ex->Nat
 | []=>0
 |e::es=>e.sz+szL es
end
theorem sj{us:List Tr}{d:Nat}:∀{vs:List Tr},(∀t∈vs,t.deep+1<=d)->deeps vs<=d
 | [],_=>by simp[deeps]
 |t::ts,h=>by have h1:=h t (by simp);have h2:=sj (us:=us) (vs:=ts) λx hx=>h x (by simp[hx]);rw[deeps];lia
noncomputable def A0:Tr:=.kd 0 "" []
theorem sn:∀{ts:List Tr},(∀t∈ts,t.asc)->ts.Pairwise (λt u=>t.row<u.row)->ascs ts
 | [],_,_=>trivial
 |t::ts,h,p=>by rw[List.pairwise_cons] at p;exact⟨h t (.head _),p.1,sn (λx hx=>h x (.tail _ hx)) p.2⟩
theorem sr:∀{ts:List Tr},ascs ts->ts.Pairwise λt u=>t.row<u.row
 | [],_=>.nil
 |t::ts,h=>.cons h.2.1 (sr h.2.2)
end Mm
namespace L2
open PySem PySem.Spec PyProof.Rows
section
variable {prog:Program}{w:World}{A:Around}{E:Value->Shared->Prop}{s:Shared}{it d:Addr}{i ep:Nat}{es:Array DictEntry}{od:Obj}
theorem A1{Q:Option Value->Shared->Prop}(hit:s.heap.IsKeyIter it d i es.size ep)(IR:s.heap.get? d=some od)(HR:od.data=.dict es ep)(EX:i<es.size)
  (hQ:∀h',h'.IsKeyIter it d (i+1) es.size ep->Heap.SameBut it s.heap h'->Q (some es[i].key) {s with heap:=h'}):wpAny (model prog w) A (pyNext (.ref it)) Q E s:=by
 have hT:=hit.typeIs;obtain⟨o,ho,hc,hd⟩:=hit;unfold pyNext;refine Qb (wpAny_attempt (wpAny_callSpecial?_slot (name:=Str.ofString "__next__") hT F.slot_dict_keyiterator_next (wpAny_call_entry F.slot_dict_keyiterator_next hT F.entry_dict_keyiterator_next ?_ (F.args_dict_keyiterator_next_1 _))));refine Qb (Qd (Qb (Qb ?_)))
 first|refine Qb (wpAny_typeNameOfWhole_keyiter hT (Qd (Qb (wpAny_fieldsOf ho hd ?_))))|refine Qb (wpAny_typeNameOf_keyiter hT (Qd (Qb (wpAny_fieldsOf ho hd ?_))))
 simp only[show Builtin.Dict_items.ownsTuple "dict_keyiterator"=false by decide,QR,if_false];show wpAny _ _ (if(Value.ref d==Value.none)=true then _ else _) _ _ _;rw[if_neg (show ¬(Value.ref d==Value.none)=true from λz=>by cases z)];refine Qb (Qd (Qb (wpAny_dictEntries IR HR ?_)));rw[if_neg (by simp)];refine Qb (Qd (Qb (wpAny_dictEpoch IR HR ?_)));rw[if_neg (by simp)];refine Qd ?_;simp only[show ¬((i:Int)<0) by lia,if_false,QU,Array.getElem?_eq_getElem EX];refine Qb ?_
 first|refine Qb (wpAny_typeNameOfWhole_keyiter hT (Qd (Qb (wpAny_isOneOf_keyiter hT ?_))))|refine Qb (wpAny_typeNameOf_keyiter hT (Qd (Qb (wpAny_isOneOf_keyiter hT ?_))))
 show wpAny _ _ (setField (.ref it) 1 (rawInt ((i:Int)+1))>>=_) _ _ _;refine Qb (wpAny_setField ho hd (by simp) (Qb (wpAny_holding ?_)));have hi2:(s.heap.update it (Obj.mapFields (·.setIfInBounds 1 (rawInt ((i:Int)+1))))).IsKeyIter it d (i+1) es.size ep:=by refine⟨_,Heap.get?_update_self _ ho (Obj.isFreed_of_fields (Obj.data_mapFields hd _)),(Obj.cls_mapFields ..).trans hc,?_⟩;rw[Obj.data_mapFields hd];simp[rawInt]
 refine Qb (wpAny_isOneOf_keyiter (s:={s with heap:=s.heap.update it (Obj.mapFields (·.setIfInBounds 1 (rawInt ((i:Int)+1))))}) hi2.typeIs ?_);show wpAny _ _ (pure es[i].key) _ _ _;exact Qd (Qd ⟨_,rfl,Qd (hQ _ hi2 (Heap.SameBut.update ..))⟩)
theorem A2{Q:Option Value->Shared->Prop}(hh:A.handled=none)(hit:s.heap.IsKeyIter it d i es.size ep)(IR:s.heap.get? d=some od)(HR:od.data=.dict es ep)(hge:es.size<=i)
  (hQ:∀h',Heap.ExtBut it s.heap h'->Q none {s with heap:=h'}):wpAny (model prog w) A (pyNext (.ref it)) Q E s:=by
 have hT:=hit.typeIs;obtain⟨o,ho,hc,hd⟩:=hit;unfold pyNext;refine Qb (wpAny_attempt (wpAny_callSpecial?_slot (name:=Str.ofString "__next__") hT F.slot_dict_keyiterator_next (wpAny_call_entry F.slot_dict_keyiterator_next hT F.entry_dict_keyiterator_next ?_ (F.args_dict_keyiterator_next_1 _))));refine Qb (Qd (Qb (Qb ?_)))
 first|refine Qb (wpAny_typeNameOfWhole_keyiter hT (Qd (Qb (wpAny_fieldsOf ho hd ?_))))|refine Qb (wpAny_typeNameOf_keyiter hT (Qd (Qb (wpAny_fieldsOf ho hd ?_))))
 simp only[show Builtin.Dict_items.ownsTuple "dict_keyiterator"=false by decide,QR,if_false];show wpAny _ _ (if(Value.ref d==Value.none)=true then _ else _) _ _ _;rw[if_neg (show ¬(Value.ref d==Value.none)=true from λz=>by cases z)];refine Qb (Qd (Qb (wpAny_dictEntries IR HR ?_)));rw[if_neg (by simp)];refine Qb (Qd (Qb (wpAny_dictEpoch IR HR ?_)));rw[if_neg (by simp)];refine Qd ?_;simp only[show ¬((i:Int)<0) by omega,if_false,QU,Array.getElem?_eq_none hge];refine Qb ?_
 first|refine Qb (wpAny_typeNameOfWhole_keyiter hT (Qd ?_))|refine Qb (wpAny_typeNameOf_keyiter hT (Qd ?_))
 show wpAny _ _ (setField (.ref it) 0 .none>>=_) _ _ _;refine Qb (wpAny_setField ho hd (by simp) ?_);show wpAny _ _ (newExc (.type "StopIteration") []>>=_) _ _ _;refine Qb ?_;simp only[newExc,newTuple];refine Qb (wpAny_newObj_type (Qb (m:=firstArgMember _ _) (wpAny_of_eq (a:=Value.none) (by first|rfl|(simp only[firstArgMember];rfl)) (wpAny_newObj_type ?_ (by size_fits)))) (by size_fits));simp only[raiseNew];refine Qb (wpAny_handled ?_);rw[show A.in1.handled=none from hh];refine(Qb (Qd (wpAny_throw ?_)));refine(Qb (wpAny_isInstance (T:="StopIteration") (b:=true) ⟨_,Qu _ rfl,rfl⟩ isSubtype_stop (Qd (hQ _ ?_))));exact((Heap.SameBut.update ..).extBut.push _).push _
theorem A3{Q:Value->Shared->Prop}(hT:s.TypeIs (.ref d) "dict")(hd:(d==sysModules)=false)(IR:s.heap.get? d=some od)(HR:od.data=.dict es ep)
  (hQ:Q (.ref s.heap.objs.size) {s with heap:=s.heap.push {cls:=.type "dict_keyiterator",data:=.fields #[.ref d,.int 0 0,.int es.size 0,.int ep 0]} }):wpAny (model prog w) A (pyIter (.ref d)) Q E s:=by
 refine wpAny_pyIter_slot hT F.slot_dict_iter (wpAny_call_entry F.slot_dict_iter hT F.entry_dict_iter ?_ (F.args_dict_iter_1 _));unfold Builtin.«dict.__iter__» Builtin.Dict.dictSlotNone;refine Qb (Qb (wpAny_notOrdered_dict hT ?_));show wpAny _ _ (pure (Value.ref d)) _ _ _;refine Qd ?_;show wpAny _ _ (Builtin.Dict.showsAll d>>=_) _ _ _;unfold Builtin.Dict.showsAll;rw[if_neg (show ¬(d==sysModules)=true by rw[hd];decide)];refine Qb (Qd (Qb (wpAny_dictEntries IR HR (Qb (wpAny_dictEpoch IR HR ?_)))));refine Qb (wpAny_newObj_type (Qd ⟨_,rfl,"dict_keyiterator",_,⟨_,Qu _ rfl,rfl⟩,F.slot_dict_keyiterator_next.lookup,?_⟩));simpa [rawInt] using hQ
end
theorem A4{P:Program}{w:World}{H:Hp}{h:Heap}{d:Addr}{od:Obj}{ES:List (List af×V)}{es:Array DictEntry}{ep:Nat}(ok:bG P w H h)(e:H d=some (.frz od (.dT ES)))(HR:od.data=.dict es ep) :
  h.get? d=some od/\es.size=ES.length/\∀(i:Nat) (hi:i<es.size) kv,ES[i]?=some kv->∃b,es[i].key=.ref b/\H b=some (.tup (kv.1.map kV)):=by
 obtain⟨IR,_,_,xs,r,o,Iu,ep',h1,_,h3,h4,_⟩:=(show bI P w H h d (.frz od (.dT ES)) from ok d _ e)
 rw[IR] at h1;cases h1;rw[HR] at h3;cases h3;have hl:es.size=xs.length:=by rw[<-QB,h4,Qf]
 refine⟨IR,by rw[hl];exact(Paired.length r).symm,λi hi kv hk=>?_⟩;have FS:i<xs.length:=by lia
 have ek:es[i]=entryOfKey (tupleKind (bF P w)) xs[i]:=by have:=congrArg (λl=>l[i]?) h4;simp only[Qj,Qa FS] at this;rw[Array.getElem?_toList,Array.getElem?_eq_getElem hi] at this;exact Qo this
 have pr:∀{l:List (List af×V)} {m:List (List af×Addr×Value)},Paired (λ(p:List af×V) (q:List af×Addr×Value)=>p.1=q.1/\H q.2.1=some (.tup (p.1.map kV))/\RelV p.2 q.2.2) l m->∀(i:Nat) p q,l[i]?=some p->m[i]?=some q->H q.2.1=some (.tup (p.1.map kV)):=by
  intro l m pq
  induction pq with
  |nil=>intro i p q h;simp at h
  |cons hq _ ih =>
   intro i p q h1 h2
   cases i with
   |zero =>
    simp only[List.getElem?_cons_zero,Option.some.injEq] at h1 h2;subst h1 h2;exact hq.2.1
   |succ j =>
    simp only[List.getElem?_cons_succ] at h1 h2;exact ih j p q h1 h2
 exact⟨xs[i].2.1,by rw[ek];rfl,pr r i kv xs[i] hk (Qa FS)⟩
section
variable {X:Cx}{tg:Expr}
theorem Inv.freeze{EQ:List (Addr×Obj)}{σ:St}{H:Hp}{s:Shared}{d:Addr}{ES:List (List af×V)}{od:Obj}(I:Inv X EQ σ H s)(e:H d=some (.dT ES))(ho:s.heap.get? d=some od):Inv X EQ σ (upd H d (.frz od (.dT ES))) s:=by
 have h0:∀{t:Nat},Inv X EQ σ (upd H d (.frz od (.dT ES))) {s with heap:=s.heap,toks:=t}:=by intro t;refine I.write (x:=d) (e:=d) (by rw[e];trivial) (.inl rfl) (λb q hb z=>z) ⟨_,ho⟩ ⟨ho,?_⟩;have q:=I.hok d _ e;exact q.stay (λ_ _ _ z=>z) (λc z=>by rw[aE (λy=>by rw[y,e] at z;cases z)];exact z) λc xs z=>by rw[aE (λy=>by rw[y,e] at z;cases z)];exact z
 exact h0 (t:=s.toks)
end
end L2
namespace L2
open PySem PySem.Spec PyProof.Rows PySem.W
theorem A5{prog:Program}{w:World}{d:Addr}{od:Obj}{es:Array DictEntry}{ep:Nat}(hc:od.cls=.type "dict")(HR:od.data=.dict es ep)(hs:(d==sysModules)=false) :
  KdlSrc prog w "dict" d d es.size (λi v=>∃h:i<es.size,v=es[i].key) (λh=>h.get? d=some od) where
 type:=λs h=>⟨od,h,hc⟩
 there:=λh e=>⟨Qw e,Qw e⟩
 keep:=λh h' e k=>k d (.inl rfl) _ e
 notList:=by decide
 notTuple:=by decide
 hint:=λA E s Q h q=>kdl_hint_dict ⟨od,h,hc⟩ q
 iter:=λA s hh h=>by
  refine⟨_,λi h'=>h'.IsKeyIter s.heap.objs.size d i es.size ep/\h'.get? d=some od,λE Q q=>A3 ⟨od,h,hc⟩ hs h HR q,?_,?_⟩
  ·have EW:d≠s.heap.objs.size:=QF (Qw h);refine⟨λb hb=>List.mem_cons.mpr (.inl (by simpa using hb)),λi h1 h2 st k=>⟨st.1.at λo e=>k _ (by simp) o e,k d (by simp) _ st.2⟩,?_,?_,?_⟩
   ·intro i s1 Q E hi st q;refine A1 st.1 st.2 HR hi λh' Fi sb=>?_;exact q _ h' s1.toks ⟨hi,rfl⟩ ⟨Fi,(sb.2 d EW).trans st.2⟩ λb o hb e=>(sb.2 b (by simpa using hb)).trans e
   ·intro s1 Q E st q;refine A2 hh st.1 st.2 HR (Qh _) λh' eb=>?_;exact q h' s1.toks λb o hb e=>eb b o (by simpa using hb) e
   ·intro i s1 Q E st q;exact wpAny_pyIter_keyiter st.1 q
  ·exact⟨⟨_,Qu _ rfl,rfl,rfl⟩,Qe _ h⟩
section
variable {X:Cx}
theorem A6(hc:X.calm=true):dA X (.builtin "sorted") (λas H Q=>∃(d:Addr) (ES:List (List af×V)) (sh:List Bool),as=[.ref d]/\H d=some (.dT ES)/\ES.length<1000000/\(∀kv∈ES,kv.1.map cv=sh)/\sh≠[] /\
  ∀p xs,H p=none->aY H xs (ES.map (·.1))->Q (.ref p) (upd H p (.lst (cb (ES.map (·.1)) xs)))):=by
 intro EQ s σ H as us Q I r h;obtain⟨d,ES,sh,rfl,hd,h64,FC,EW,q⟩:=h;obtain⟨u,rfl,ru⟩:=vals1 r;cases (show u=Value.ref d from ru);obtain⟨z,hs,ys,Gj,dd⟩:=rh I.hok hd;have hT:=dd.typeIs;obtain⟨od,es,ep,ho,IW,hdat,_⟩:=dd;have IW:od.cls=.type "dict":=by obtain⟨o,e,c⟩:=hT;rw[ho] at e;cases e;exact c
 have If:=I.freeze hd ho;obtain⟨_,hsz,hat⟩:=A4 If.hok ah hdat;refine Calls.call_function_entry kind_sorted plain_sorted entry_sorted (args_sorted1 _) ?_;unfold Builtin.«sorted»;refine Qb (m:=checkCount "sorted" 1 1 _) (Qd ?_);refine Qb (kdu_collect (A5 IW hdat hs) (I.ok.hd hc) ho (by rw[hsz,sizeLine_eq];lia) λh1 tk Fa hk HJ=>?_);obtain⟨hal,hav⟩:=HJ;have I1:Inv X EQ σ H {s with heap:=h1,toks:=tk}:=I.kept (t':=tk) hk
 have each:∀(i:Nat) (v:Value),Fa.toList[i]?=some v->∃b kv,v=.ref b/\ES[i]?=some kv/\H b=some (.tup (kv.1.map kV)):=λi v hv=>by
  rw[Array.getElem?_toList] at hv;obtain⟨hi,rfl⟩:=hav i v hv;have Im:i<ES.length:=by rw[<-hsz];exact hi
  obtain⟨b,e1,e2⟩:=hat i hi ES[i] (Qa Im);have hbd:b≠d:=λz=>by rw[z,ah] at e2;cases e2
  rw[aE hbd] at e2;exact⟨b,ES[i],e1,Qa Im,e2⟩
 obtain⟨xs,rv,hxt⟩:∃xs:List V,aw xs Fa.toList/\∀(i:Nat) (x:V),xs[i]?=some x->∃b kv,x=.ref b/\ES[i]?=some kv/\H b=some (.tup (kv.1.map kV)):=by
  have go:∀(vs:List Value) (f:Nat->Option (List af×V)),(∀(i:Nat) (v:Value),vs[i]?=some v->∃b kv,v=.ref b/\f i=some kv/\H b=some (.tup (kv.1.map kV)))->∃xs:List V,aw xs vs/\∀(i:Nat) (x:V),xs[i]?=some x->∃b kv,x=.ref b/\f i=some kv/\H b=some (.tup (kv.1.map kV)):=by
   intro vs
   induction vs with
   |nil=>intro f _;exact⟨[],.nil,λi x h=>by simp at h⟩
   |cons v vs ih =>
    intro f h;obtain⟨b,kv,rfl,e2,e3⟩:=h 0 v rfl;obtain⟨xs,r1,r2⟩:=ih (λi=>f (i+1)) λi v hv=>h (i+1) v hv;refine⟨.ref b::xs,.cons rfl r1,λi x hx=>?_⟩
    cases i with
    |zero =>
     have:V.ref b=x:=by simpa using hx
     subst this;exact⟨b,kv,rfl,e2,e3⟩
    |succ i=>exact r2 i x hx
  exact go Fa.toList (λi=>ES[i]?) each
 have Ih:xs.length=ES.length:=by rw[rv.length,QB,hal,hsz]
 have ht:aY H xs (ES.map (·.1)):=⟨by rw[Ih,Qf],λi x k hx hk=>by
  obtain⟨b,kv,e1,e2,e3⟩:=hxt i x hx;rw[Qj,e2] at hk;have:kv.1=k:=by simpa using hk
  exact⟨b,e1,by rw[<-this];exact e3⟩⟩
 have hsh2:∀k∈ES.map (·.1),k.map cv=sh:=λk hk=>by obtain⟨kv,h1,rfl⟩:=QI hk;exact FC kv h1
 have h64x:xs.length<1000000:=by rw[Ih];exact h64
 generalize Fa.toList=its at rv;have Fm:its.length=xs.length:=rv.length.symm;have hz:its.length<=sizeLine:=by rw[sizeLine_eq];lia
 refine Qb (wpAny_newList (s:={s with heap:=h1,toks:=tk}) ?_ hz);have Hm:(h1.push (seqObj "list" its.toArray 0)).get? h1.objs.size=some (seqObj "list" its.toArray 0):=Qu _ rfl;have I2:Inv X EQ σ H {s with heap:=h1.push (seqObj "list" its.toArray 0),toks:=tk}:=I1.kept (t':=tk) λb o e=>Qe _ e;have fL:cR X EQ H h1.objs.size:=I1.fpOk (Qh _) (I1.hok.fresh (Qh _));change wpAny _ _ _ _ _ {s with heap:=h1.push (seqObj "list" its.toArray 0),toks:=tk};dsimp only;generalize h1.push (seqObj "list" its.toArray 0)=h2 at Hm I2;generalize h1.objs.size=L at Hm fL;refine Qb (wpAny_holding (wpAny_call_entry (s:={s with heap:=h2,toks:=tk}) slot_list_sort ⟨_,Hm,rfl⟩ entry_list_sort (rZ I2 fL Hm rv (by rw[<-Fm];exact hz) ht hsh2 EW λs' out n' I' hoa FO vy=>⟨_,rfl,?_⟩) (args_list_sort _)));refine Qd ⟨_,rfl,.ref L,upd H L (.lst (cb (ES.map (·.1)) xs)),I'.adopt fL ?_,rfl,q L xs fL.1 ht⟩;have FF:(cb (ES.map (·.1)) xs).length<=sizeLine:=by rw[vy.length,QB];exact FO
 exact⟨FF,out.toList,n',vy,by simpa using hoa⟩
end
end L2
namespace L2
open PySem PySem.Spec PyProof.Rows
theorem lu{X:Cx}{K:PySem.W.Frag}{n:String}(hK:X.K=K):dA X (.builtin "isinstance") (λxs H Q=>∃x t b,xs=[x,.ty n]/\de K H x t/\PySem.W.kitOne K t (.type n)=some b/\Q (.bl b) H):=by subst hK;exact zy
end L2
namespace L2
theorem A7{α:Type}:∀{us:List α},us.length=1->∃a,us=[a]
 | [a],_=>⟨a,rfl⟩
theorem ny{α:Type}{n:Nat}:∀{us:List α},us.length=n+1->∃a r,us=a::r/\r.length=n
 |a::r,h=>⟨a,r,rfl,Nat.succ.inj h⟩
theorem iW{α:Type}{us:List α}(h:us.length=2):∃a b,us=[a,b]:=by obtain⟨a,r,rfl,k⟩:=ny h;obtain⟨b,rfl⟩:=A7 k;exact⟨a,b,rfl⟩
theorem A8{α:Type}{us:List α}(h:us.length=3):∃a b c,us=[a,b,c]:=by obtain⟨a,r,rfl,k⟩:=ny h;obtain⟨b,c,rfl⟩:=iW k;exact⟨a,b,c,rfl⟩
theorem A9{α:Type}{us:List α}(h:us.length=4):∃a b c d,us=[a,b,c,d]:=by obtain⟨a,r,rfl,k⟩:=ny h;obtain⟨b,c,d,rfl⟩:=A8 k;exact⟨a,b,c,d,rfl⟩
end L2
namespace L2
open PySem
theorem fc{K:PySem.W.Frag}{a:Addr}{xs:List V}{g:TG}{tb:TS}{D:cK}{σ:St}{H:Hp}(Pv:Nat->St->Hp->Prop)(h0:Pv 0 σ H)(hl:∀i σ H,i<=xs.length->Pv i σ H->ak K H a xs)
  (hs:∀i x σ H,xs[i]?=some x->Pv i σ H->∀E:cK,(∀σ H,Pv (i+1) σ H->E.nx σ H)->g x σ H λσ2 H2=>tb E σ2 H2) (hd:∀σ H,Pv xs.length σ H->D.nx σ H) :
  ∃W:Nat->Nat->St->Hp->Prop,(∃m,W 0 m σ H)/\∀i m σ H,W i m σ H ->
   ((eW K a).stop i H/\D.nx σ H)∨((eW K a).go i H/\∃N:St->Hp->Prop,(∀σ' H',N σ' H'->∃m',m'<m/\W (i+1) m' σ' H')/\∀x H',(eW K a).yld i H x H'->g x σ H' λσ2 H2=>tb {D with nx:=N,ct:=N,bk:=D.nx} σ2 H2):=
 pW Pv h0 hl (λi x σ H hx hp=>hs i x σ H hx hp _ λ_ _ h=>h) hd
theorem nz{lo:Int}{n:Nat}{g:TG}{tb:TS}{D:cK}{σ:St}{H:Hp}(Pv:Nat->St->Hp->Prop)(h0:Pv 0 σ H)
  (hs:∀i σ H,i<n->Pv i σ H->∀E:cK,(∀σ H,Pv (i+1) σ H->E.nx σ H)->g (.int (lo+i)) σ H λσ2 H2=>tb E σ2 H2) (hd:∀σ H,Pv n σ H->D.nx σ H) :
  ∃W:Nat->Nat->St->Hp->Prop,(∃m,W 0 m σ H)/\∀i m σ H,W i m σ H ->
   ((eN lo n).stop i H/\D.nx σ H)∨((eN lo n).go i H/\∃N:St->Hp->Prop,(∀σ' H',N σ' H'->∃m',m'<m/\W (i+1) m' σ' H')/\∀x H',(eN lo n).yld i H x H'->g x σ H' λσ2 H2=>tb {D with nx:=N,ct:=N,bk:=D.nx} σ2 H2):=
 pX Pv h0 (λi σ H hi hp=>hs i σ H hi hp _ λ_ _ h=>h) hd
theorem Ba{K:PySem.W.Frag}{a:Addr}{xs:List V}{g:TG}{tb:TS}{D:cK}{σ:St}{H:Hp}(Pv:Nat->St->Hp->Prop)(h0:Pv 0 σ H)(hl:∀i σ H,i<=xs.length->Pv i σ H->aq K H a xs)
  (hs:∀i x σ H,xs[i]?=some x->Pv i σ H->∀E:cK,(∀σ H,Pv (i+1) σ H->E.nx σ H)->g x σ H λσ2 H2=>tb E σ2 H2) (hd:∀σ H,Pv xs.length σ H->D.nx σ H) :
  ∃W:Nat->Nat->St->Hp->Prop,(∃m,W 0 m σ H)/\∀i m σ H,W i m σ H ->
   ((eX K a).stop i H/\D.nx σ H)∨((eX K a).go i H/\∃N:St->Hp->Prop,(∀σ' H',N σ' H'->∃m',m'<m/\W (i+1) m' σ' H')/\∀x H',(eX K a).yld i H x H'->g x σ H' λσ2 H2=>tb {D with nx:=N,ct:=N,bk:=D.nx} σ2 H2):=
 yg Pv h0 hl (λi x σ H hx hp=>hs i x σ H hx hp _ λ_ _ h=>h) hd
theorem j0{α β:Type}{f:α->β}{l:List α}{i:Nat}{x:β}(h:(l.map f)[i]?=some x):∃h:i<l.length,x=f l[i]:=by rw[Qj] at h;obtain⟨a,h1,h2⟩:=Option.map_eq_some_iff.mp h;obtain⟨h3,h4⟩:=Qc h1;exact⟨h3,by rw[h4,h2]⟩
end L2
namespace L2
open PySem PySem.Spec PyProof.Rows
noncomputable def K0:PySem.W.Frag:=[]
theorem ak.up{K:PySem.W.Frag}{H:Hp}{a:Addr}{xs:List V}(h:ak K0 H a xs):ak K H a xs:=h.elim .inl λhsl58=>by obtain⟨_,_,_,e,_⟩:=hsl58;exact nomatch e
theorem aq.up{K:PySem.W.Frag}{H:Hp}{a:Addr}{xs:List V}(h:aq K0 H a xs):aq K H a xs:=h.elim .inl λhsl59=>by obtain⟨_,_,_,e,_⟩:=hsl59;exact nomatch e
section
variable {X:Cx}{tg:Expr}
theorem Bb:gO X (jG K0):=by rintro va sl EQ s σ H x y v u Q I rx ry ⟨p,xs,i,v,e1,e2,h,e3,q⟩;exact y9 va sl EQ s σ H x y _ u Q I rx ry ⟨p,xs,i,v,e1,e2,h.up,e3,q⟩
theorem cW:gO X (jF K0):=by rintro va sl EQ s σ H x y v u Q I rx ry ⟨p,xs,i,v,e1,e2,h,e3,q⟩;exact qD va sl EQ s σ H x y _ u Q I rx ry ⟨p,xs,i,v,e1,e2,h.up,e3,q⟩
theorem au{a:Expr}{ta:TE}{pos p2:Pos}{i:Int}{j}(ha:PE X a ta):PE X (.Subscript a (.Constant (.int i) j p2) pos) (gM (jG K0) ta (tC (.int i))):=ck Bb ha ap (λ_ _=>rfl)
theorem lv{a:Expr}{ta:TE}{pos p2:Pos}{i:Int}{j}(ha:PE X a ta):PE X (.Subscript a (.Constant (.int i) j p2) pos) (gM (jF K0) ta (tC (.int i))):=ck cW ha ap (λ_ _=>rfl)
theorem az{i:Nat}{σ:St}{H:Hp}{Q:VK}{t:Addr}{xs:List V}{v:V}(j:Nat)(h1:σ[i]?=some (some (.ref t)))(h2:H t=some (.tup xs))(h3:xs[j]?=some v)(k:Q v H):gM (jG K0) (kC i) (tC (.int (j:Int))) σ H Q:=⟨_,h1,t,xs,_,v,rfl,rfl,aq.of h2,bH h3,k⟩
theorem ss:iA X (mG K0):=by rintro EQ s σ H x v vl vu lo hi sl Q I rx hs pl pu ⟨a,xs,e,h,q⟩;exact zc EQ s σ H x v vl vu lo hi sl Q I rx hs pl pu ⟨a,xs,e,h.up,q⟩
theorem su:iA X (mD K0):=by rintro EQ s σ H x v vl vu lo hi sl Q I rx hs pl pu ⟨a,xs,e,h,n,q⟩;exact yZ EQ s σ H x v vl vu lo hi sl Q I rx hs pl pu ⟨a,xs,e,h.up,n,q⟩
theorem j3:bR X (compareOp .In) (iB K0 false):=by rintro EQ s σ H x y v u Q I rx ry ⟨p,xs,e,h,f,g,q⟩;exact ze EQ s σ H x y v u Q I rx ry ⟨p,xs,e,h.imp ak.up aq.up,f,g,q⟩
theorem Bc:bR X (compareOp .NotIn) (iB K0 true):=by rintro EQ s σ H x y v u Q I rx ry ⟨p,xs,e,h,f,g,q⟩;exact qG EQ s σ H x y v u Q I rx ry ⟨p,xs,e,h.imp ak.up aq.up,f,g,q⟩
theorem Be:bR X (binaryOp .Add) (mE K0):=by rintro EQ s σ H x y v u Q I rx ry ⟨a,b,xs,ys,e1,e2,h1,h2,n,l,q1,q2⟩;exact y4 EQ s σ H x y v u Q I rx ry ⟨a,b,xs,ys,e1,e2,h1.up,h2.up,n,l,q1,q2⟩
inductive sv (xs:List V) (H:Hp) (Q:VK):Prop
 |mk:∀p ys,xs=[.ref p]->(ak K0 H p ys∨aq K0 H p ys)->Q (.int ys.length) H->sv xs H Q
theorem d5:dA X (.builtin "len") sv:=by rintro EQ s σ H xs us Q I r ⟨p,ys,e,h,q⟩;exact mH EQ s σ H xs us Q I r ⟨p,ys,e,h.imp ak.up aq.up,q⟩
inductive sy (xs:List V) (H:Hp) (Q:VK):Prop
 |mk:∀p ys,xs=[.ref p]->(ak K0 H p ys∨aq K0 H p ys)->(∀l,H l=none->Q (.ref l) (upd H l (.lst ys)))->sy xs H Q
theorem nA:dA X (.type "list") sy:=by rintro EQ s σ H xs us Q I r ⟨p,ys,e,h,q⟩;exact zg EQ s σ H xs us Q I r ⟨p,ys,e,h.imp ak.up aq.up,q⟩
theorem j4:dA X (.type "tuple") (λxs H Q=>∃p ys,xs=[.ref p]/\((ak K0 H p ys/\∀l,H l=none->Q (.ref l) (upd H l (.tup ys)))∨(aq K0 H p ys/\Q (.ref p) H))):=by rintro EQ s σ H xs us Q I r ⟨p,ys,e,h⟩;exact zh EQ s σ H xs us Q I r ⟨p,ys,e,h.imp (λh=>⟨h.1.up,h.2⟩) λh=>⟨h.1.up,h.2⟩⟩
theorem dF{es:List Expr}{k:Nat}{pos:Pos}{t:gJ}{n:Nat}(hc:X.calm=true)(h:jz X es t)
  (hn:(assignEach es X.env).length=n:=by rfl) (hst:(assignEach es X.env).findIdx? (·.1)=none:=by rfl):PG X (.Tuple es k pos) (mq K0 n t):=by
 rintro EQ s σ H v u Q I r ⟨a,xs,e1,hq,hl,hw⟩;exact xY hc h hn hst EQ s σ H v u Q I r ⟨a,xs,e1,hq.up,hl,hw⟩
theorem fm.mono{P:Program}{w:World}{K:PySem.W.Frag}{J J':It}{fp:List Addr}{it:Addr}{tn:Nat->Heap->Prop}(T:fm P w K tg J fp it tn)(g:∀i H,J'.go i H->J.go i H)(y:∀i H x H',J.yld i H x H'->J'.yld i H x H')(d:∀i H,J'.stop i H->J.stop i H):fm P w K tg J' fp it tn:=
 ⟨T.mem,T.obj,T.keep,λX a b c cl i EQ s σ H E I f t h=>QW (T.item X a b c cl i EQ s σ H E I f t (g i H h)) (λ_ _ hsl60=>by obtain⟨u,e,z⟩:=hsl60;exact⟨u,e,QW z (λ_ _ hsl61=>by obtain⟨x,H',q1,q2,q3,q4⟩:=hsl61;exact⟨x,H',q1,q2,y _ _ _ _ q3,q4⟩) λ_ _ z=>z⟩) λ_ _ z=>z,λX a b c cl i EQ s σ H E I f t h=>T.done X a b c cl i EQ s σ H E I f t (d i H h),T.self⟩
theorem c7{l:Expr}{tl:TE}(hl:PE X l tl):PI X tg l (yc K0 tl):=by intro EQ s σ H R I h;refine aA (hl EQ s σ H _ I h) λv s1 hsl62=>?_;obtain⟨x,H1,I1,r1,a,e,⟨xs,hq⟩,q⟩:=hsl62;subst e;cases r1;obtain⟨its,rv,p,hz⟩:=I1.list hq.up;refine wpAny_pyIter_list p.isList ⟨s1.heap.objs.size,[s1.heap.objs.size],_,eW K0 a,H1,rfl,I1.kept (t':=s1.toks) λb o e=>Qe _ e,(x0 a _).mono (λi H hsl63=>by obtain⟨xs,x,h,e⟩:=hsl63;exact⟨xs,x,h.up,e⟩) (λi H x H' hsl64=>by obtain⟨e,h⟩:=hsl64;exact⟨e,λxs z=>h xs z.up⟩) (λi H hsl65=>by obtain⟨xs,h,e⟩:=hsl65;exact⟨xs,h.up,e⟩),⟨_,Qu _ rfl,rfl,rfl⟩,λb hb=>?_,q⟩;rw[Qp hb];exact I1.fpOk (Qh _) (I1.hok.fresh (Qh _))
theorem gx{l:Expr}{tl:TE}(hl:PE X l tl):PI X tg l (yd K0 tl):=by intro EQ s σ H R I h;refine aA (hl EQ s σ H _ I h) λv s1 hsl66=>?_;obtain⟨x,H1,I1,r1,a,e,⟨xs,hq⟩,q⟩:=hsl66;subst e;cases r1;obtain⟨its,rv,p,hz⟩:=I1.tuple hq.up;refine wpAny_pyIter_tuple (show s1.heap.IsTuple a its.toArray from p) ⟨s1.heap.objs.size,[s1.heap.objs.size],_,eX K0 a,H1,rfl,I1.kept (t':=s1.toks) λb o e=>Qe _ e,(ya a _).mono (λi H hsl67=>by obtain⟨xs,x,h,e⟩:=hsl67;exact⟨xs,x,h.up,e⟩) (λi H x H' hsl68=>by obtain⟨e,h⟩:=hsl68;exact⟨e,λxs z=>h xs z.up⟩) (λi H hsl69=>by obtain⟨xs,h,e⟩:=hsl69;exact⟨xs,h.up,e⟩),⟨_,Qu _ rfl,rfl,rfl⟩,λb hb=>?_,q⟩;rw[Qp hb];exact I1.fpOk (Qh _) (I1.hok.fresh (Qh _))
theorem iC.up{K:PySem.W.Frag}{T:String}{x:V}{H:Hp}(h:iC K0 T x H):iC K T x H:=by
 cases x with
 |ref p=>exact h.elim (λ⟨e,xs,z⟩=>.inl ⟨e,xs,z.up⟩) λh=>h.elim (λ⟨_,_,e,_⟩=>nomatch e) λh=>.inr (.inr h)
 |_=>exact h
section
variable {o e:Expr}{es:List Expr}{to:TE}{t:TA}{apos Fl:Pos}
theorem fG(ho:PE X o to)(ha:PA X (e::es) t)
  (Hc:attributeBase o "append" X.env (eval o X.env)=eval o X.env:=by rfl)
  (hfew:((backTo Fl (starEach (e::es) X.env)).all (λx=>!x.1)&&(backToKw Fl (keywordEach [] X.env)).all (λx=>x.1.isSome)
   && decide ((e::es).length+([]:List Keyword).length+(if([]:List Keyword).isEmpty then 0 else 1)<30))=true:=by rfl)
  (Hb:(apos.endLine==Fl.line)=true:=by rfl) (hs:starEach (e::es) X.env=(false,eval e X.env)::starEach es X.env:=by rfl) (hplain:(backTo Fl (starEach es X.env)).any (·.1)=false:=by rfl) :
  PE X (.Call (.Attribute o "append" apos) (e::es) [] Fl) (zi K0 "list" mJ to t):=by
 intro EQ s σ H Q I h;refine wpAny_Call_method_late Hc hfew Hb rfl (aA (ho EQ s σ H _ I h) λv s1 hsl70=>?_);obtain⟨x,H1,I1,r1,ty,q1⟩:=hsl70;obtain⟨h1,h2⟩:=mI I1 r1 ty.up;refine⟨_,_,PySem.F.plainAttrs_list,PySem.F.slot_list_append,PySem.F.type_list_append,h1,h2,?_⟩;have hA:=ha Fl EQ s1 σ H1 _ I1 q1;rw[hs] at hA ⊢;refine Calls.callWith_builtin (by show(false||(backTo Fl (starEach es X.env)).any (·.1))=false;rw[hplain]<;>rfl) (Calls.evalArgs_plain ?_);exact aA hA λus s2 hsl71=>by obtain⟨vs,H2,I2,r2,q2⟩:=hsl71;exact zm EQ s2 σ H2 x vs v us Q I2 r1 r2 q2
theorem sC(ho:PE X o to)(Hc:attributeBase o "pop" X.env (eval o X.env)=eval o X.env:=by rfl)(Hb:(apos.endLine==Fl.line)=true:=by rfl):PE X (.Call (.Attribute o "pop" apos) [] [] Fl) (qH K0 "list" mK to):=by intro EQ s σ H Q I h;refine wpAny_Call_method0_late Hc Hb (aA (ho EQ s σ H _ I h) λv s1 hsl72=>?_);obtain⟨x,H1,I1,r1,ty,q1⟩:=hsl72;obtain⟨h1,h2⟩:=mI I1 r1 ty.up;exact⟨_,_,PySem.F.plainAttrs_list,PySem.F.slot_list_pop,PySem.F.type_list_pop,h1,h2,Calls.callWith_builtin rfl (PySem.evalArgs_none (zo EQ s1 σ H1 x [] v [] Q I1 r1 .nil q1))⟩
end
end
end L2
namespace Mm
open PySem L2 PyProof.Rows
noncomputable def Tr.nb:Tr->Nat
 |.iff _ _ _ _=>2
 |.whl _ _ _=>1
 |.df _ _ _ _ _=>1
 |_=>0
noncomputable def Tr.pre:Tr->List bL
 |.set r n e=>[.s "set",.i r,.s n,.e e]
 |.tell r e=>[.s "tell",.i r,.e e]
 |.iff r e _ _=>[.s "if",.i r,.e e]
 |.whl r e _=>[.s "while",.i r,.e e]
 |.give r e=>[.s "give",.i r,.e e]
 |.df r n k ps _=>[.s "def",.i r,.s n,.s k,.p ps]
 |.kd r n ps=>[.s "kind",.i r,.s n,.p ps]
noncomputable def Tr.fill:Tr->List (List Tr)->Tr
 |.iff r e _ _,bs=>.iff r e (bs.getD 0 []) (bs.getD 1 [])
 |.whl r e _,bs=>.whl r e (bs.getD 0 [])
 |.df r n k ps _,bs=>.df r n k ps (bs.getD 0 [])
 |.set r n e,_=>.set r n e
 |.tell r e,_=>.tell r e
 |.give r e,_=>.give r e
 |.kd r n ps,_=>.kd r n ps
theorem lw(t:Tr)(bs:List (List Tr)):(t.fill bs).row=t.row:=by cases t<;>rfl
theorem j5{α:Type}{l:List α}(h:l.length=0):l=[]:=List.length_eq_zero_iff.mp h
theorem gZ{α:Type}{l:List α}(h:l.length=1):∃a,l=[a]:=List.length_eq_one_iff.mp h
theorem nB{α:Type}{l:List α}(h:l.length=2):∃a b,l=[a,b]:=by obtain⟨a,r,rfl⟩:=List.exists_cons_of_length_eq_add_one h;obtain⟨b,rfl⟩:=gZ (l:=r) (by simpa using h);exact⟨a,b,rfl⟩
theorem Bf{t:Tr}{bs:List (List Tr)}(h:bs.length=t.nb):(t.fill bs).parts=t.pre++bs.map bL.b:=by
 cases t with
 |iff r e b o=>obtain⟨a,c,rfl⟩:=nB h;rfl
 |whl r e b=>obtain⟨a,rfl⟩:=gZ h;rfl
 |df r n k ps b=>obtain⟨a,rfl⟩:=gZ h;rfl
 |_=>rw[j5 h];rfl
structure Bk where
 d:Nat
 rs:List (Tr×List Nat)
noncomputable def fH:Bk:=⟨0,[]⟩
noncomputable def bj(B:List Bk):Nat->Nat->List Tr
 |0,_=>[]
 |n+1,i=>(B.getD i fH).rs.map λq=>q.1.fill (q.2.map (bj B n))
structure lx(B:List Bk)(k:Nat)(b:Bk)(q:Tr×List Nat):Prop where
 asc:q.1.asc
 bare:q.1.fill []=q.1
 row:q.1.row<k
 nb:q.2.length=q.1.nb
 ch:∀j∈q.2,∃c,B[j]?=some c/\c.d=b.d+1
structure sD(B:List Bk)(k:Nat)(b:Bk):Prop where
 d:b.d<=3
 len:b.rs.length<=1*k
 pw:b.rs.Pairwise λp q=>p.1.row<q.1.row
 rw:∀q∈b.rs,lx B k b q
noncomputable def kids(b:Bk):List Nat:=b.rs.flatMap (·.2)
structure PI(B:List Bk)(k:Nat):Prop where
 b:∀b∈B,sD B k b
 nd:∀b∈B,(kids b).Nodup
 dj:∀(i j:Nat) (a b:Bk),B[i]?=some a->B[j]?=some b->i≠j->∀c∈kids a,c∉kids b
theorem dU{B:List Bk}{i:Nat}{b:Bk}(h:B[i]?=some b):B.getD i fH=b:=by rw[Qg,h];rfl
theorem sE{B:List Bk}{i:Nat}(h:B[i]?=none):B.getD i fH=fH:=by rw[Qg,h];rfl
theorem sF(B:List Bk):∀n i,deeps (bj B n i)<=n
 |0,i=>by simp[bj,deeps]
 |n+1,i=>by
  rw[bj];refine sj (us:=[]) λt ht=>?_;obtain⟨q,hq,rfl⟩:=QI ht
  have go:∀j,deeps ((q.2.map (bj B n)).getD j [])<=n:=λj=>by
   rw[Qg,Qj]
   cases q.2[j]? with
   |none=>simp[deeps]
   |some a=>exact sF B n a
  cases e:q.1 with
  |iff r x b o=>have h1:=go 0;have h2:=go 1;simp only[Tr.fill,Tr.deep];lia
  |whl r x b=>have h1:=go 0;simp only[Tr.fill,Tr.deep];lia
  |df r n k ps b=>have h1:=go 0;simp only[Tr.fill,Tr.deep];lia
  |_=>simp[Tr.fill,Tr.deep]
theorem PI.len{B:List Bk}{k:Nat}(h:PI B k)(hk:k<=23)(n i:Nat):(bj B n i).length<=40:=by
 cases n with
 |zero=>simp[bj]
 |succ n =>
  rw[bj,Qf]
  cases e:B[i]? with
  |none=>rw[sE e];simp[fH]
  |some b=>rw[dU e];have:=(h.b b (Qk e)).len;lia
theorem PI.ascs{B:List Bk}{k:Nat}(h:PI B k)(hk:k<=23):∀n i,Mm.ascs (bj B n i)
 |0,i=>by rw[bj];trivial
 |n+1,i=>by
  rw[bj]
  cases e:B[i]? with
  |none=>rw[sE e];trivial
  |some b =>
   rw[dU e];have hb:=h.b b (Qk e)
   have one:∀q∈b.rs,(q.1.fill (q.2.map (bj B n))).asc:=λq hq=>by
    have hr:=hb.rw q hq;have ha:=hr.asc;have go:∀j,j<q.2.length->((q.2.map (bj B n)).getD j []).length<=40/\Mm.ascs ((q.2.map (bj B n)).getD j []):=λj hj=>by rw[Qg,Qj,Qa hj];exact⟨h.len hk n _,h.ascs hk n q.2[j]⟩
    have E7:=hr.nb
    cases eq:q.1 with
    |iff r x bb o =>
     rw[eq] at ha E7;exact⟨ha.1,go 0 (by rw[E7];show 0<2;decide),go 1 (by rw[E7];show 1<2;decide)⟩
    |whl r x bb =>
     rw[eq] at ha E7;exact⟨ha.1,go 0 (by rw[E7];show 0<1;decide)⟩
    |df r nn kk ps bb =>
     rw[eq] at ha E7;exact⟨ha.1,go 0 (by rw[E7];show 0<1;decide)⟩
    |_=>rw[eq] at ha;exact ha
   refine sn (λt ht=>?_) ?_
   ·obtain⟨q,hq,rfl⟩:=QI ht;exact one q hq
   ·refine List.pairwise_map.mpr (hb.pw.imp λ{p q} g=>?_);rw[lw,lw];exact g
theorem PI.at{B:List Bk}{k:Nat}(h:PI B k){i:Nat}{b:Bk}(e:B[i]?=some b):sD B k b:=h.b b (Qk e)
noncomputable def fZ(d:Nat)(ts:List Tr):List Bk:=ts.flatMap λt=>List.replicate t.nb ⟨d,[]⟩
noncomputable def cI(n:Nat)(ts:List Tr):List (Tr×List Nat):=ts.map λt=>(t,List.range' n t.nb)
noncomputable def bA(B:List Bk)(i:Nat)(ts:List Tr):List Bk:=B.set i ⟨(B.getD i fH).d,(B.getD i fH).rs++cI B.length ts⟩++fZ ((B.getD i fH).d+1) ts
def nC(ts:List Tr):Prop:=(∃t,ts=[t])∨∀t∈ts,t.nb=0
theorem g9{d:Nat}{ts:List Tr}{j:Nat}{c:Bk}(h:(fZ d ts)[j]?=some c):c.rs=[]/\c.d=d:=by obtain⟨t,_,h⟩:=List.mem_flatMap.mp (Qk h);rw[List.eq_of_mem_replicate h];exact⟨rfl,rfl⟩
theorem f6{B:List Bk}{i j:Nat}{ts:List Tr}{b:Bk}(hb:B[i]?=some b)(hj:j<B.length):(bA B i ts)[j]?=if i=j then some {b with rs:=b.rs++cI B.length ts} else B[j]?:=by
 unfold bA;rw[dU hb,Ql (by simpa using hj),List.getElem?_set];split
 ·rename_i e;rw[if_pos (by lia)]
 ·rfl
theorem iX{B:List Bk}{i j:Nat}{ts:List Tr}{b:Bk}(hb:B[i]?=some b)(hj:B.length<=j):(bA B i ts)[j]?=(fZ (b.d+1) ts)[j-B.length]?:=by unfold bA;rw[dU hb,Qs (by simpa using hj),List.length_set]
theorem Bg{B:List Bk}{i:Nat}{ts:List Tr}:(bA B i ts).length=B.length+(fZ ((B.getD i fH).d+1) ts).length:=by unfold bA;rw[Qr,List.length_set]
theorem sG{B:List Bk}{i j:Nat}{ts:List Tr}{b c:Bk}(hb:B[i]?=some b)(hc:B[j]?=some c):∃c',(bA B i ts)[j]?=some c'/\c'.d=c.d:=by
 rw[f6 hb (Qc hc).1];split
 ·rename_i e;subst e;rw[hb] at hc;cases hc;exact⟨_,rfl,rfl⟩
 ·exact⟨c,hc,rfl⟩
theorem nE{B:List Bk}{i:Nat}{ts:List Tr}{b:Bk}(hb:B[i]?=some b)(hl:nC ts){q:Tr×List Nat}(hq:q∈cI B.length ts):q.1∈ts/\q.2.length=q.1.nb/\∀j∈q.2,B.length<=j/\∃c,(bA B i ts)[j]?=some c/\c.d=b.d+1:=by
 obtain⟨t,ht,rfl⟩:=QI hq;refine⟨ht,List.length_range',λj hj=>?_⟩;obtain⟨h1,h2⟩:=List.mem_range'_1.mp hj;refine⟨h1,?_⟩;rcases hl with ⟨u,rfl⟩|hl
 ·rw[Qp ht] at h2;rw[iX hb h1];unfold fZ;rw[List.flatMap_cons,List.flatMap_nil,Qy,List.getElem?_replicate,if_pos (by omega)];exact⟨_,rfl,rfl⟩
 ·have:=hl t ht;omega
theorem Bh{n:Nat}{ts:List Tr}(hl:nC ts):((cI n ts).flatMap (·.2)).Nodup/\∀j∈(cI n ts).flatMap (·.2),n<=j:=by
 refine⟨?_,λj hj=>?_⟩
 ·rcases hl with ⟨u,rfl⟩|hl
  ·unfold cI;simp only[List.map_cons,List.map_nil,List.flatMap_cons,List.flatMap_nil,Qy];exact List.nodup_range'
  ·have:(cI n ts).flatMap (·.2)=[]:=List.flatMap_eq_nil_iff.mpr λq hq=>by obtain⟨t,ht,rfl⟩:=QI hq;show List.range' n t.nb=[];rw[hl t ht];rfl
   rw[this];exact .nil
 ·obtain⟨q,hq,hj⟩:=List.mem_flatMap.mp hj;obtain⟨t,_,rfl⟩:=QI hq;exact(List.mem_range'_1.mp hj).1
theorem PI.add{B:List Bk}{k i:Nat}{b:Bk}{ts:List Tr}(h:PI B k)(hb:B[i]?=some b)(hl:nC ts)(h2:ts.length<=1)(hd:(∃t∈ts,t.nb≠0)->b.d<=2)(hpw:ts.Pairwise λt u=>t.row<u.row)
  (hr:∀t∈ts,t.asc/\t.fill []=t/\t.row=k):PI (bA B i ts) (k+1):=by
 have Fm:=(Qc hb).1;have hbP:=h.at hb;have klt:∀j c,B[j]?=some c->∀x∈kids c,x<B.length:=λj c hc x hx=>by obtain⟨q,hq,hx⟩:=List.mem_flatMap.mp hx;obtain⟨d,hd,_⟩:=((h.at hc).rw q hq).ch x hx;exact(Qc hd).1
 have rwm:∀{c c':Bk} {q},lx B k c q->c'.d=c.d->lx (bA B i ts) (k+1) c' q:=λ{c c' q} r e2=>⟨r.asc,r.bare,Nat.lt_succ_of_lt r.row,r.nb,λj hj=>by
  obtain⟨x,hx,m2⟩:=r.ch j hj;obtain⟨x',hx',n2⟩:=sG (ts:=ts) hb hx
  exact⟨x',hx',by rw[n2,m2,e2]⟩⟩
 have cas:∀{j c},(bA B i ts)[j]?=some c->(j<B.length/\i=j/\c={b with rs:=b.rs++cI B.length ts})∨(j<B.length/\i≠j/\B[j]?=some c)∨(B.length<=j/\(fZ (b.d+1) ts)[j-B.length]?=some c):=λ{j c} hc=>by
  by_cases hj:j<B.length
  ·rw[f6 hb hj] at hc;split at hc
   ·rename_i e;cases hc;exact .inl ⟨hj,e,rfl⟩
   ·rename_i e;exact .inr (.inl ⟨hj,e,hc⟩)
  ·rw[iX hb (by lia)] at hc;exact .inr (.inr ⟨by lia,hc⟩)
 have kn:∀{c:Bk},c.rs=[]->kids c=[]:=λ{c} e=>by unfold kids;rw[e];rfl
 have kA:kids {b with rs:=b.rs++cI B.length ts}=kids b++(cI B.length ts).flatMap (·.2):=by unfold kids;rw[List.flatMap_append]
 obtain⟨kd1,kd2⟩:=Bh (n:=B.length) hl;refine⟨λc hc=>?_,λc hc=>?_,λj j' a a' ha ha' EW x hx hx'=>?_⟩
 ·obtain⟨j,hj⟩:=List.mem_iff_getElem?.mp hc
  rcases cas hj with ⟨_,_,rfl⟩|⟨_,_,hc⟩|⟨_,hc⟩
  ·refine⟨hbP.d,?_,?_,λq hq=>?_⟩
   ·show(b.rs++cI B.length ts).length<=_;have:=hbP.len;rw[Qr];unfold cI;rw[Qf];lia
   ·refine List.pairwise_append.mpr ⟨hbP.pw,?_,λp hp q hq=>?_⟩
    ·unfold cI;exact List.pairwise_map.mpr hpw
    ·obtain⟨t,ht,rfl⟩:=QI hq;have h1:=(hbP.rw p hp).row;have h2:=(hr t ht).2.2;show p.1.row<t.row;lia
   ·rcases Qq (show q∈b.rs++cI B.length ts from hq) with hq|hq
    ·exact rwm (hbP.rw q hq) rfl
    ·obtain⟨m1,m2,m3⟩:=nE hb hl hq;obtain⟨n2,n3,n5⟩:=hr q.1 m1;exact⟨n2,n3,by lia,m2,λj hj=>(m3 j hj).2⟩
  ·have:=h.at hc;exact⟨this.d,by have:=this.len;lia,this.pw,λq hq=>rwm (this.rw q hq) rfl⟩
  ·obtain⟨e1,e2⟩:=g9 hc;obtain⟨t,ht,hm⟩:=List.mem_flatMap.mp (Qk hc);have EW:t.nb≠0:=λz=>by rw[z] at hm;simp at hm
   have:=hd ⟨t,ht,EW⟩;refine⟨by lia,by rw[e1];exact QC _,by rw[e1];exact .nil,λq hq=>by rw[e1] at hq;simp at hq⟩
 ·obtain⟨j,hj⟩:=List.mem_iff_getElem?.mp hc
  rcases cas hj with ⟨_,_,rfl⟩|⟨_,_,hc⟩|⟨_,hc⟩
  ·rw[kA];refine List.nodup_append.mpr ⟨h.nd b (Qk hb),kd1,λx hx y hy e=>?_⟩;have:=klt i b hb x hx;have:=kd2 y hy;lia
  ·exact h.nd c (Qk hc)
  ·rw[kn (g9 hc).1];exact .nil
 ·have split:∀ {j a},(bA B i ts)[j]?=some a->x∈kids a->(∃ a0,B[j]?=some a0/\x∈kids a0/\x<B.length)∨(i=j/\B.length<=x):=fun {j a} ha hx=>by
   rcases cas ha with ⟨_,e,rfl⟩|⟨_,_,hc⟩|⟨_,hc⟩
   ·rw[kA] at hx;rcases Qq hx with q|q
    ·exact .inl ⟨b,by rw[<-e];exact hb,q,klt i b hb x q⟩
    ·exact .inr ⟨e,kd2 x q⟩
   ·exact .inl ⟨a,hc,hx,klt j a hc x hx⟩
   ·rw[kn (g9 hc).1] at hx;simp at hx
  rcases split ha hx with ⟨a0,g1,g2,g3⟩|⟨g1,g2⟩<;>rcases split ha' hx' with ⟨b0,f1,f2,f3⟩|⟨f1,f2⟩
  ·exact h.dj j j' a0 b0 g1 f1 EW x g2 f2
  ·lia
  ·lia
  ·exact EW (by rw[<-g1,<-f1])
abbrev cL(H G:Hp):Prop:=∀b xs,H b=some (.tup xs)->G b=some (.tup xs)
def cy(H:Hp)(u:Addr)(t:Tr)(bs:List Addr):Prop:=∃vs,H u=some (.tup (vs++bs.map V.ref))/\∀G,cL H G->PsAt G false vs t.pre
theorem cy.kept{H G:Hp}{u:Addr}{t:Tr}{bs:List Addr}(h:cy H u t bs)(s:cL H G):cy G u t bs:=by obtain⟨vs,h2,h3⟩:=h;exact⟨vs,s _ _ h2,λG' s'=>h3 G' λb xs e=>s' _ _ (s _ _ e)⟩
def d6(H:Hp)(as:List Addr)(us:List Addr)(rs:List (Tr×List Nat)):Prop:=us.length=rs.length/\∀(k:Nat) (u:Addr) (q:Tr×List Nat),us[k]?=some u->rs[k]?=some q->cy H u q.1 (q.2.map λj=>as.getD j 0)
structure FA(H:Hp)(as:List Addr)(B:List Bk):Prop where
 len:as.length=B.length
 nd:as.Nodup
 bl:∀(i:Nat) (a:Addr) (b:Bk),as[i]?=some a->B[i]?=some b->∃us:List Addr,H a=some (.lst (us.map V.ref))/\d6 H as us b.rs
theorem FA.kept{H G:Hp}{as:List Addr}{B:List Bk}(h:FA H as B)(s:cL H G)(e:∀a∈as,G a=H a):FA G as B:=
 ⟨h.len,h.nd,λi a b ha hb=>by obtain⟨us,h1,h2,h3⟩:=h.bl i a b ha hb;exact⟨us,by rw[e a (Qk ha)];exact h1,h2,λk u q x y=>(h3 k u q x y).kept s⟩⟩
theorem d6.ext{H:Hp}{as bs us:List Addr}{rs:List (Tr×List Nat)}(h:d6 H as us rs)(hj:∀q∈rs,∀j∈q.2,j<as.length):d6 H (as++bs) us rs:=⟨h.1,λk u q x y=>by
 have:(q.2.map λj=>(as++bs).getD j 0)=q.2.map λj=>as.getD j 0:=QZ λj hm=>by have hl:=hj q (Qk y) j hm;rw[Qg,Qg,Ql hl]
 rw[this];exact h.2 k u q x y⟩
theorem d6.app{H:Hp}{as us vs:List Addr}{rs qs:List (Tr×List Nat)}(h:d6 H as us rs)(g:d6 H as vs qs):d6 H as (us++vs) (rs++qs):=by
 refine⟨by rw[Qr,Qr,h.1,g.1],λk u q x y=>?_⟩;have e:=h.1;by_cases hk:k<us.length
 ·rw[Ql hk] at x;rw[Ql (by lia)] at y;exact h.2 k u q x y
 ·rw[Qs (by lia)] at x;rw[Qs (by lia)] at y;exact g.2 (k-us.length) u q x (by rw[e];exact y)
theorem FA.add{H H3:Hp}{as us Hs bs:List Addr}{B:List Bk}{k i:Nat}{a:Addr}{b:Bk}{ts:List Tr}(h:FA H as B)(hp:PI B k)(hi:as[i]?=some a)(hb:B[i]?=some b)(ha:H a=some (.lst (us.map V.ref)))(hT:cL H H3)(hL:∀x∈as,H3 x=H x)
  (hr:d6 H3 (as++bs) Hs (cI B.length ts)) (IX:∀x∈bs,x∉as/\H3 x=some (.lst [])) (Hn:bs.Nodup) (hl:bs.length=(fZ (b.d+1) ts).length):FA (upd H3 a (.lst ((us++Hs).map V.ref))) (as++bs) (bA B i ts):=by
 have tk:cL H3 (upd H3 a (.lst ((us++Hs).map V.ref))):=λc xs e=>by
  rw[aE λz=>by rw[z,hL a (Qk hi),ha] at e;cases e];exact e
 have rk:∀{vs:List Addr} {rs:List (Tr×List Nat)} {as:List Addr},d6 H3 as vs rs->d6 (upd H3 a (.lst ((us++Hs).map V.ref))) as vs rs:=λr=>⟨r.1,λk u q x y=>(r.2 k u q x y).kept tk⟩
 have rk0:∀{vs:List Addr} {rs:List (Tr×List Nat)} {as:List Addr},d6 H as vs rs->d6 H3 as vs rs:=λr=>⟨r.1,λk u q x y=>(r.2 k u q x y).kept hT⟩
 have lt:∀c∈B,∀q∈c.rs,∀j∈q.2,j<as.length:=λc hc q hq j hj=>by obtain⟨d,hd,_⟩:=((hp.b c hc).rw q hq).ch j hj;rw[h.len];exact(Qc hd).1
 refine⟨by rw[Qr,h.len,Bg,dU hb,hl],List.nodup_append.mpr ⟨h.nd,Hn,λx hx y hy e=>(IX y hy).1 (by rw[<-e];exact hx)⟩,λj x c hx hc=>?_⟩;by_cases hj:j<B.length
 ·rw[Ql (by rw[h.len];exact hj)] at hx;rw[f6 hb hj] at hc;by_cases e:i=j
  ·subst e;rw[if_pos rfl] at hc;rw[hi] at hx;cases hx;cases hc;obtain⟨vs,h1,h2⟩:=h.bl i a b hi hb;rw[ha] at h1
   have ev:us=vs:=by
    have h1:us.map V.ref=vs.map V.ref:=by injection h1 with h1;injection h1
    exact List.map_inj_right (λx y z=>by injection z) |>.mp h1
   subst ev;exact⟨us++Hs,ah,((rk (rk0 h2)).ext (lt b (Qk hb))).app (rk hr)⟩
  ·rw[if_neg e] at hc;obtain⟨vs,h1,h2⟩:=h.bl j x c hx hc
   have EW:x≠a:=λz=>e (by
    obtain⟨p1,p2⟩:=Qc hi;obtain⟨q1,q2⟩:=Qc hx
    exact(List.getElem_inj h.nd).mp (by rw[p2,q2,z]))
   exact⟨vs,by rw[aE EW,hL x (Qk hx)];exact h1,(rk (rk0 h2)).ext (lt c (Qk hc))⟩
 ·rw[Qs (by rw[h.len];lia)] at hx;rw[iX hb (by lia)] at hc;obtain⟨g1,g2⟩:=IX x (Qk hx);refine⟨[],by rw[aE λz=>g1 (by rw[z];exact Qk hi)];exact g2,?_⟩;rw[(g9 hc).1];exact⟨rfl,λk u q x=>by simp at x⟩
theorem PsAt.app{H:Hp}{sh:Bool}:∀{vs us:List V} {ps qs:List bL},PsAt H sh vs ps->PsAt H sh us qs->PsAt H sh (vs++us) (ps++qs)
 |_,_,_,_,.nil,h=>h
 |_,_,_,_,.cons a b,h=>.cons a (b.app h)
theorem FA.lat{H:Hp}{as:List Addr}{B:List Bk}{k:Nat}(h:FA H as B)(p:PI B k):∀(n i:Nat) (a:Addr) (b:Bk),as[i]?=some a->B[i]?=some b->4<=b.d+n->∃us:List Addr,H a=some (.lst (us.map V.ref))/\LAt H false (us.map V.ref) (bj B n i)
 |0,i,a,b,ha,hb,hd=>by have:=(p.at hb).d;lia
 |n+1,i,a,b,ha,hb,hd=>by
  obtain⟨us,h1,h2,h3⟩:=h.bl i a b ha hb;refine⟨us,h1,?_⟩;rw[bj,dU hb]
  have blk:∀{js:List Nat},(∀j∈js,∃c,B[j]?=some c/\c.d=b.d+1)->PsAt H false ((js.map λj=>as.getD j 0).map V.ref) ((js.map (bj B n)).map bL.b):=λ{js}=>by
   induction js with
   |nil=>intro _;exact .nil
   |cons j js ih =>
    intro hj;obtain⟨c,hc,Hz⟩:=hj j (by simp);have hjl:j<as.length:=by rw[h.len];exact(Qc hc).1
    obtain⟨ws,g1,g2⟩:=FA.lat h p n j as[j] c (Qa hjl) hc (by lia);refine .cons ?_ (ih λx hx=>hj x (by simp[hx]));show PAt H false (V.ref (as.getD j 0)) _;rw[Qg,Qa hjl];exact .b g1 g2
  have go:∀{rs:List (Tr×List Nat)} {us:List Addr},d6 H as us rs->(∀q∈rs,lx B k b q)->LAt H false (us.map V.ref) (rs.map λq=>q.1.fill (q.2.map (bj B n))):=λ{rs}=>by
   induction rs with
   |nil=>intro us g _;rw[List.length_eq_zero_iff.mp g.1];exact .nil
   |cons q rs ih =>
    intro us g hr;obtain⟨u,us,rfl⟩:=List.exists_cons_of_length_eq_add_one g.1;have hq:=hr q (by simp);obtain⟨vs,e2,e3⟩:=g.2 0 u q rfl rfl;refine .cons (.plain rfl (.mk e2 ?_)) (ih ⟨by simpa using g.1,λk u q x y=>g.2 (k+1) u q x y⟩ λq hq=>hr q (by simp[hq]));rw[Bf (by rw[Qf];exact hq.nb)];exact(e3 H λ_ _ e=>e).app (blk λj hj=>hq.ch j hj)
  exact go ⟨h2,h3⟩ (p.at hb).rw
abbrev Bd:=Int×List Str
noncomputable def cA(b:Bd):Tr->Bd
 |.df r _ _ ps _=>(((r:Nat):Int),ps.map (·.1))
 |_=>b
mutual
noncomputable def aZ(b:Bd):Tr->List (Tr×Bd)
 |.iff r e x o=>(.iff r e [] [],b)::(seqB b x++seqB b o)
 |.whl r e x=>(.whl r e [],b)::seqB b x
 |.df r n k ps x=>(.df r n k ps [],b)::seqB (((r:Nat):Int),ps.map (·.1)) x
 |.set r n e=>[(.set r n e,b)]
 |.tell r e=>[(.tell r e,b)]
 |.give r e=>[(.give r e,b)]
 |.kd r n ps=>[(.kd r n ps,b)]
noncomputable def seqB(b:Bd):List Tr->List (Tr×Bd)
 | []=>[]
 |t::ts=>aZ b t++seqB b ts
end
theorem sH{α:Type}(b:Bd)(f:α->Tr):∀l:List α,seqB b (l.map f)=l.flatMap λa=>aZ b (f a)
 | []=>rfl
 |a::l=>by simp only[List.map_cons,seqB,sH b f l,List.flatMap_cons]
theorem Bi{t:Tr}{bs:List (List Tr)}(b:Bd)(hb:t.fill []=t)(h:bs.length=t.nb):aZ b (t.fill bs)=(t,b)::bs.flatMap (seqB (cA b t)):=by
 cases t with
 |iff r e x o =>
  obtain⟨p,q,rfl⟩:=nB h;cases hb;simp[Tr.fill,aZ,cA]
 |whl r e x =>
  obtain⟨p,rfl⟩:=gZ h;cases hb;simp[Tr.fill,aZ,cA]
 |df r n k ps x =>
  obtain⟨p,rfl⟩:=gZ h;cases hb;simp[Tr.fill,aZ,cA]
 |set r n e=>rw[j5 h];rfl
 |tell r e=>rw[j5 h];rfl
 |give r e=>rw[j5 h];rfl
 |kd r n ps=>rw[j5 h];rfl
noncomputable def cm(B:List Bk)(n:Nat)(b:Bd)(i:Nat):List (Tr×Bd):=seqB b (bj B n i)
theorem ly{B:List Bk}{k n i:Nat}{c:Bk}(h:PI B k)(hc:B[i]?=some c)(b:Bd):cm B (n+1) b i=c.rs.flatMap λq=>(q.1,b)::q.2.flatMap (cm B n (cA b q.1)):=by
 show seqB b (bj B (n+1) i)=_;rw[bj,dU hc,sH];have:∀q∈c.rs,aZ b (q.1.fill (q.2.map (bj B n)))=(q.1,b)::q.2.flatMap (cm B n (cA b q.1)):=λq hq=>by have hr:=(h.at hc).rw q hq;rw[Bi b hr.bare (by rw[Qf];exact hr.nb),List.flatMap_map];rfl
 generalize c.rs=l at this
 induction l with
 |nil=>rfl
 |cons q l ih=>rw[List.flatMap_cons,List.flatMap_cons,this q (.head _),ih λp hp=>this p (.tail _ hp)]
def hU(B:List Bk):List Nat->Prop
 | []=>False
 | [x]=>∃b,B[x]?=some b
 |x::y::r=>(∃b init q,B[x]?=some b/\b.rs=init++[q]/\(q.2=[y]∨(∃z c,q.2=[y,z]/\B[z]?=some c/\c.rs=[])∨∃z,q.2=[z,y]))/\hU B (y::r)
noncomputable def fI(B:List Bk)(x:Nat):Tr:=match (B.getD x fH).rs.getLast? with
 |some q=>q.1
 |none=>A0
noncomputable def endB(B:List Bk):List Nat->Bd->Bd
 |x::y::r,b=>endB B (y::r) (cA b (fI B x))
 |_,b=>b
def sI(B:List Bk)(S:List Nat):Prop:=∀(e x:Nat),S[e]?=some x->∃b,B[x]?=some b/\b.d=e
theorem nF{B:List Bk}{j:Nat}{c:Bk}(hc:B[j]?=some c)(e:c.rs=[]):∀n,bj B n j=[]
 |0=>rfl
 |n+1=>by rw[bj,dU hc,e];rfl
theorem hU.link{B:List Bk}:∀{S:List Nat},hU B S->∀{e x y:Nat},S[e]?=some x->S[e+1]?=some y->∃b init q,B[x]?=some b/\b.rs=init++[q]/\(q.2=[y]∨(∃z c,q.2=[y,z]/\B[z]?=some c/\c.rs=[])∨∃z,q.2=[z,y])
 | [],h,e,x,y,hx,hy=>h.elim
 | [a],h,e,x,y,hx,hy=>by simp at hy
 |a::c::r,h,0,x,y,hx,hy=>by
  have hx:a=x:=by simpa using hx
  have hy:c=y:=by simpa using hy
  rw[<-hx,<-hy];exact h.1
 |a::c::r,h,e+1,x,y,hx,hy=>hU.link h.2 (e:=e) (by simpa using hx) (by simpa using hy)
theorem iY{α β:Type}{f g:α->List β}:∀{l:List α},(∀a∈l,f a=g a)->l.flatMap f=l.flatMap g
 | [],_=>rfl
 |a::l,h=>by rw[List.flatMap_cons,List.flatMap_cons,h a (.head _),iY λc hc=>h c (.tail _ hc)]
theorem Bj{b:Bk}{init:List (Tr×List Nat)}{q:Tr×List Nat}{y:Nat}{B:List Bk}(e:b.rs=init++[q])(h:q.2=[y]∨(∃z c,q.2=[y,z]/\B[z]?=some c/\c.rs=[])∨∃z,q.2=[z,y]):y∈kids b:=by unfold kids;rw[e,List.flatMap_append];refine QE _ ?_;rw[List.flatMap_cons,List.flatMap_nil,Qy];rcases h with h|⟨z,c,h,_⟩|⟨z,h⟩<;>rw[h]<;>simp
section
variable {B:List Bk}{k i:Nat}{b:Bk}{S:List Nat}{t:Tr}(h:PI B k)(hb:B[i]?=some b)(hS:sI B S)(hC:hU B S)(hi:S[b.d]?=some i)(hl:S.length=b.d+1)
include h hb hS hC hi hl
theorem nG:∀(n x:Nat) (c:Bk),B[x]?=some c->(∀y,S[c.d]?=some y->y≠x)->bj (bA B i [t]) n x=bj B n x
 |0,x,c,hc,hn=>rfl
 |n+1,x,c,hc,hn=>by
  have hxi:i≠x:=λe=>by subst e;rw[hb] at hc;cases hc;exact hn i hi rfl
  have HA:(bA B i [t])[x]?=some c:=by rw[f6 hb (Qc hc).1,if_neg hxi];exact hc
  rw[bj,bj,dU hc,dU HA];refine QZ λq hq=>?_;congr 1;refine QZ λj hj=>?_;obtain⟨d,hd,h2⟩:=((h.at hc).rw q hq).ch j hj;refine nG n j d hd λy hy e=>?_;rw[h2] at hy;subst e;have EX:=(Qc hy).1;have hx':S[c.d]?=some S[c.d]:=Qa (by omega);obtain⟨b',init,q',g1,g2,g3⟩:=hC.link hx' hy;exact h.dj _ _ b' c g1 hc (hn _ hx') y (Bj g2 g3) (List.mem_flatMap.mpr ⟨q,hq,hj⟩)
theorem sJ(h':PI (bA B i [t]) (k+1)):∀(L:List Nat) (e:Nat),S.drop e=L->L≠[]->∀(n:Nat) (bd:Bd),L.length<=n->cm (bA B i [t]) n bd (L.headD 0)=cm B n bd (L.headD 0)++[(t,endB B L bd)]
 | [],e,hL,EW,n,bd,hn=>absurd rfl EW
 | [x],e,hL,EW,n,bd,hn=>by
  obtain⟨m,rfl⟩:∃m,n=m+1:=⟨n-1,by simp at hn;lia⟩
  have EZ:S.length-e=1:=by have:=congrArg List.length hL;simpa using this
  have he:e=b.d:=by lia
  have hx:S[e]?=some x:=by have:=congrArg (λl=>l[0]?) hL;simpa using this
  rw[he,hi] at hx;cases hx;show cm (bA B i [t]) (m+1) bd i=cm B (m+1) bd i++[(t,bd)];have hB':(bA B i [t])[i]?=some {b with rs:=b.rs++cI B.length [t]}:=by rw[f6 hb (Qc hb).1,if_pos rfl]
  rw[ly h hb,ly h' hB'];show(b.rs++cI B.length [t]).flatMap _=_;rw[List.flatMap_append];congr 1
  ·refine iY λq hq=>?_;congr 1;refine iY λj hj=>?_;obtain⟨d,hd,h2⟩:=((h.at hb).rw q hq).ch j hj;unfold cm;rw[nG h hb hS hC hi hl m j d hd λy hy=>by rw[h2,List.getElem?_eq_none (by lia)] at hy;cases hy]
  ·show [(t,List.range' B.length t.nb)].flatMap _=_;rw[List.flatMap_cons,List.flatMap_nil,Qy];congr 1;refine List.flatMap_eq_nil_iff.mpr λj hj=>?_;obtain⟨_,_,g⟩:=nE (ts:=[t]) hb (.inl ⟨t,rfl⟩) (q:=(t,List.range' B.length t.nb)) (by unfold cI;simp);obtain⟨hj1,c,hc,_⟩:=g j hj;have IJ:=hc;rw[iX hb hj1] at IJ;unfold cm;rw[nF hc (g9 IJ).1];rfl
 |x::y::r,e,hL,EW,n,bd,hn=>by
  obtain⟨m,rfl⟩:∃m,n=m+1:=⟨n-1,by simp at hn;lia⟩
  have EZ:S.length-e=r.length+1+1:=by have:=congrArg List.length hL;simpa using this
  have hx:S[e]?=some x:=by have:=congrArg (λl=>l[0]?) hL;simpa using this
  have hy:S[e+1]?=some y:=by have:=congrArg (λl=>l[1]?) hL;simpa using this
  have hL':S.drop (e+1)=y::r:=by have:=congrArg (List.drop 1) hL;rw[List.drop_drop] at this;simpa using this
  obtain⟨c,hc,Hz⟩:=hS e x hx;obtain⟨c',init,q,g1,g2,g3⟩:=hC.link hx hy;rw[hc] at g1;cases g1;have hxi:i≠x:=λz=>by subst z;rw[hb] at hc;cases hc;lia
  have HA:(bA B i [t])[x]?=some c:=by rw[f6 hb (Qc hc).1,if_neg hxi];exact hc
  have ih:=sJ h' (y::r) (e+1) hL' (by simp) m (cA bd q.1) (by simp at hn ⊢;lia);have ih:cm (bA B i [t]) m (cA bd q.1) y=cm B m (cA bd q.1) y++[(t,endB B (y::r) (cA bd q.1))]:=ih;have IT:fI B x=q.1:=by unfold fI;rw[dU hc,g2,List.getLast?_concat]
  show cm (bA B i [t]) (m+1) bd x=cm B (m+1) bd x++[(t,endB B (y::r) (cA bd (fI B x)))];rw[IT,ly h hc,ly h' HA,g2,List.flatMap_append,List.flatMap_append,QN];have Hn:=h.nd c (Qk hc);unfold kids at Hn;rw[g2,List.flatMap_append,List.flatMap_cons,List.flatMap_nil,Qy] at Hn;have other:∀p∈c.rs,∀j∈p.2,j≠y->bj (bA B i [t]) m j=bj B m j:=λp hp j hj EW=>by obtain⟨d,hd,h2⟩:=((h.at hc).rw p hp).ch j hj;refine nG h hb hS hC hi hl m j d hd λy' hy' z=>?_;rw[h2,Hz,hy] at hy';cases hy';exact EW z.symm
  congr 1
  ·refine iY λp hp=>?_;congr 1;refine iY λj hj=>?_;unfold cm;rw[other p (by rw[g2];exact List.mem_append_left _ hp) j hj λz=>?_];refine(List.nodup_append.mp Hn).2.2 j (List.mem_flatMap.mpr ⟨p,hp,hj⟩) j ?_ rfl;rw[z];rcases g3 with g|⟨z',c2,g,_⟩|⟨z',g⟩<;>rw[g]<;>simp
  ·rw[List.flatMap_cons,List.flatMap_nil,Qy,List.flatMap_cons,List.flatMap_nil,Qy,List.cons_append];congr 1;have hq:q∈c.rs:=by rw[g2];simp
   have hnq:=(List.nodup_append.mp Hn).2.1
   rcases g3 with g|⟨z,c2,g,hz,hz0⟩|⟨z,g⟩
   ·rw[g];simp only[List.flatMap_cons,List.flatMap_nil,Qy];exact ih
   ·have hzy:z≠y:=λe=>by rw[g,e] at hnq;simp at hnq
    have e1:=other q hq z (by rw[g];simp) hzy;have e2:cm (bA B i [t]) m (cA bd q.1) z=[]:=by unfold cm;rw[e1,nF hz hz0];rfl
    have e3:cm B m (cA bd q.1) z=[]:=by unfold cm;rw[nF hz hz0];rfl
    rw[g];simp only[List.flatMap_cons,List.flatMap_nil,Qy];rw[e2,e3,Qy,Qy];exact ih
   ·have hzy:z≠y:=λe=>by rw[g,e] at hnq;simp at hnq
    have e1:=other q hq z (by rw[g];simp) hzy;have e2:cm (bA B i [t]) m (cA bd q.1) z=cm B m (cA bd q.1) z:=by unfold cm;rw[e1]
    rw[g];simp only[List.flatMap_cons,List.flatMap_nil,Qy];rw[e2,ih,QN]
end
theorem sK{B:List Bk}(bd:Bd):∀(L:List Nat),(∀x∈L,∀b,cA b (fI B x)=b)->endB B L bd=bd
 | [],_=>rfl
 | [x],_=>rfl
 |x::y::r,h=>by show endB B (y::r) (cA bd (fI B x))=bd;rw[h x (.head _)];exact sK bd (y::r) λz hz=>h z (.tail _ hz)
mutual
theorem Bl(b:Bd):∀t:Tr,t.cnt=(aZ b t).length
 |.set _ _ _=>by simp[aZ,Tr.cnt]
 |.tell _ _=>by simp[aZ,Tr.cnt]
 |.give _ _=>by simp[aZ,Tr.cnt]
 |.kd _ _ _=>by simp[aZ,Tr.cnt]
 |.iff r e x o=>by simp[aZ,Tr.cnt,cnt_seq b x,cnt_seq b o];omega
 |.whl r e x=>by simp[aZ,Tr.cnt,cnt_seq b x];omega
 |.df r n k ps x=>by simp[aZ,Tr.cnt,cnt_seq (((r:Nat):Int),ps.map (·.1)) x];omega
theorem cnt_seq(b:Bd):∀ts:List Tr,cnts ts=(seqB b ts).length
 | []=>by simp[seqB,cnts]
 |t::ts=>by simp[seqB,cnts,Bl b t,cnt_seq b ts]
end
end Mm
namespace L2
open PySem PySem.SetTable
section
variable {α:Type}
def lz(xs:Array Nat):Prop:=∀a b,a<b->b<xs.size->xs.getD a 0<xs.getD b 0
theorem Bm{xs:Array Nat}{k:Nat}(d d':Nat)(h:k<xs.size):xs.getD k d=xs.getD k d':=by simp[Array.getD,h]
theorem nH(xs:Array Nat)(j:Nat)(hr:lz xs):∀fuel lo hi,hi<=xs.size->lo<=hi->hi-lo<=fuel->(∀k,k<lo->xs.getD k 0<j)->(∀k,hi<=k->k<xs.size->j<=xs.getD k 0) ->
  below.go xs j fuel lo hi<=xs.size/\(∀k,k<below.go xs j fuel lo hi->xs.getD k 0<j)/\∀k,below.go xs j fuel lo hi<=k->k<xs.size->j<=xs.getD k 0
 |0,lo,hi,h1,h2,h3,h4,h5=>by
  have e:lo=hi:=by omega
  subst e;unfold below.go;exact⟨h1,h4,h5⟩
 |fuel+1,lo,hi,h1,h2,h3,h4,h5=>by
  unfold below.go;by_cases EX:lo<hi
  ·rw[if_pos EX];dsimp only;have hm:(lo+hi)/2<xs.size:=by omega
   rw[Bm j 0 hm];by_cases hc:xs.getD ((lo+hi)/2) 0<j
   ·rw[if_pos hc];refine nH xs j hr fuel _ hi h1 (by omega) (by omega) (λk hk=>?_) h5;by_cases e:k=(lo+hi)/2
    ·rw[e];exact hc
    ·have:=hr k ((lo+hi)/2) (by omega) hm;omega
   ·rw[if_neg hc];refine nH xs j hr fuel lo _ (by omega) (by omega) (by omega) h4 λk h6 h7=>?_;by_cases e:k=(lo+hi)/2
    ·rw[e];omega
    ·have:=hr ((lo+hi)/2) k (by omega) h7;omega
  ·rw[if_neg EX];have e:lo=hi:=by omega
   subst e;exact⟨h1,h4,h5⟩
theorem sL(xs:Array Nat)(j:Nat)(hr:lz xs):below xs j<=xs.size/\(∀k,k<below xs j->xs.getD k 0<j)/\∀k,below xs j<=k->k<xs.size->j<=xs.getD k 0:=
 nH xs j hr xs.size 0 xs.size (Qh _) (QC _) (by lia) (λk hk=>absurd hk (Nat.not_lt_zero _)) (λk h1 h2=>by lia)
structure cM(t:SetTable)(es:Array α)(L:List (Nat×α)):Prop where
 pl:t.place.toList=L.map (·.1)
 el:es.toList=L.map (·.2)
 up:(L.map (·.1)).Pairwise (·<·)
 du:t.dummies=#[]
 le:∀p∈L,p.1<=t.mask
 fl:L.length<=t.mask
variable {t:SetTable}{es:Array α}{L:List (Nat×α)}
theorem getD_list{xs:Array Nat}{l:List Nat}(h:xs.toList=l)(k:Nat):xs.getD k 0=l.getD k 0:=by subst h;rw[Array.getD_eq_getD_getElem?,Qg,Array.getElem?_toList]
theorem Bn{xs:Array Nat}{l:List Nat}(h:xs.toList=l)(u:l.Pairwise (·<·)):lz xs:=λa b Hr hb=>by
 have hl:xs.size=l.length:=by rw[<-h];simp
 rw[getD_list h,getD_list h,Qg,Qg,Qa (by lia:a<l.length),Qa (by lia:b<l.length)];exact(List.pairwise_iff_getElem.mp u) a b (by lia) (by lia) Hr
theorem cM.rise(T:cM t es L):lz t.place:=Bn T.pl T.up
theorem cM.size(T:cM t es L):t.place.size=L.length/\es.size=L.length:=by have h1:=congrArg List.length T.pl;have h2:=congrArg List.length T.el;simp at h1 h2;exact⟨h1,h2⟩
theorem cM.place(T:cM t es L)(i:Nat):t.place[i]?=(L[i]?).map (·.1):=by rw[<-Array.getElem?_toList,T.pl,Qj]
theorem cM.entry(T:cM t es L)(i:Nat):es[i]?=(L[i]?).map (·.2):=by rw[<-Array.getElem?_toList,T.el,Qj]
theorem cM.live(T:cM t es L){i:Nat}{p:Nat×α}(h:L[i]?=some p):t.slot p.1=.live i:=by
 obtain⟨hb,h1,h2⟩:=sL t.place p.1 T.rise;have hi:i<L.length:=(Qc h).1;have hs:=T.size.1;have hp:t.place.getD i 0=p.1:=by rw[Array.getD_eq_getD_getElem?,T.place,h];rfl
 have e:below t.place p.1=i:=by
  rcases Nat.lt_trichotomy (below t.place p.1) i with z|z|z
  ·have a:=h2 (below t.place p.1) (Qh _) (by lia);have b:=T.rise (below t.place p.1) i z (by lia);lia
  ·exact z
  ·have:=h1 i z;lia
 unfold SetTable.slot;dsimp only;rw[e,T.place,h];simp
theorem cM.empty(T:cM t es L){j:Nat}(h:∀p∈L,p.1≠j):t.slot j=.empty:=by
 unfold SetTable.slot;dsimp only;rw[if_neg,if_neg]
 ·rw[T.du];unfold SetTable.has;simp
 ·intro z;have z:t.place[below t.place j]?=some j:=by simpa using z
  rw[T.place] at z;obtain⟨p,h1,h2⟩:=Option.map_eq_some_iff.mp z;exact h p (Qk h1) h2
theorem sM{β:Type}(xs:Array β)(p:Nat)(x:β):(insertAt xs p x).toList=xs.toList.take p++x::xs.toList.drop p:=by simp[insertAt,QD]
theorem Bo{L:List Nat}{p j:Nat}(u:L.Pairwise (·<·))(h1:∀k,k<p->∀x,L[k]?=some x->x<j)(h2:∀k,p<=k->∀x,L[k]?=some x->j<x):(L.take p++j::L.drop p).Pairwise (·<·):=by
 rw[List.pairwise_append];refine⟨u.sublist (List.take_sublist _ _),List.pairwise_cons.mpr ⟨λx hx=>?_,u.sublist (List.drop_sublist _ _)⟩,λa ha b hb=>?_⟩
 ·obtain⟨k,hk⟩:=List.mem_iff_getElem?.mp hx;rw[List.getElem?_drop] at hk;exact h2 (p+k) (by lia) x hk
 ·obtain⟨k,hk⟩:=List.mem_iff_getElem?.mp ha
  have F8:k<p:=by
   rcases Nat.lt_or_ge k p with z|z
   ·exact z
   ·rw[List.getElem?_eq_none (by rw[Qx];lia)] at hk;cases hk
  rw[List.getElem?_take_of_lt F8] at hk;have ha':=h1 k F8 a hk;rcases Qn hb with e|hb
  ·rw[e];exact ha'
  ·obtain⟨q,hq⟩:=List.mem_iff_getElem?.mp hb;rw[List.getElem?_drop] at hq;have:=h2 (p+q) (by lia) b hq;lia
theorem cM.put(T:cM t es L){j:Nat}{e:α}(h:∀p∈L,p.1≠j)(hj:j<=t.mask)(hl:L.length+1<=t.mask) :
  ∃L',cM (t.put j).1 (insertAt es (t.put j).2 e) L'/\L'.Perm ((j,e)::L)/\(t.put j).1.mask=t.mask/\(t.put j).1.plain=t.plain/\(t.put j).1.led=t.led/\(t.put j).1.moves=t.moves:=by
 obtain⟨hb,h1,h2⟩:=sL t.place j T.rise;have hd:(SetTable.has t.dummies j)=false:=by rw[T.du];unfold SetTable.has;simp
 refine⟨L.take (below t.place j)++(j,e)::L.drop (below t.place j),⟨?_,?_,?_,?_,?_,?_⟩,?_,rfl,rfl,rfl,rfl⟩
 ·show(insertAt t.place (below t.place j) j).toList=_;rw[sM,T.pl];simp
 ·show(insertAt es (below t.place j) e).toList=_;rw[sM,T.el];simp
 ·simp only[QL,List.map_cons,List.map_take,List.map_drop];refine Bo T.up (λk hk x hx=>?_) λk hk x hx=>?_
  ·have:=h1 k hk;rw[getD_list T.pl,Qg,hx] at this;exact this
  ·have FP:k<(L.map (·.1)).length:=(Qc hx).1;have:=h2 k hk (by rw[T.size.1];simpa using FP);rw[getD_list T.pl,Qg,hx] at this;have EW:x≠j:=by obtain⟨p,hp,rfl⟩:=QI (Qk hx);exact h p hp
   simp at this;omega
 ·show(if SetTable.has t.dummies j then _ else t.dummies)=#[];rw[hd,if_neg (by decide)];exact T.du
 ·intro p hp;show p.1<=t.mask;rcases Qq hp with q|q
  ·exact T.le p (List.mem_of_mem_take q)
  ·rcases Qn q with q|q
   ·rw[q];exact hj
   ·exact T.le p (List.mem_of_mem_drop q)
 ·show _<=t.mask;simp;omega
 ·refine List.perm_middle.trans ?_;rw[List.take_append_drop]
end
noncomputable def d7(m:Nat)(p:Probe):Probe:=
 if p.more>0 then {p with j:=p.j+1,more:=p.more-1} else
 {p with j:=(leap m p.i p.perturb).1,more:=runEnd m (leap m p.i p.perturb).1-(leap m p.i p.perturb).1,i:=(leap m p.i p.perturb).1,perturb:=(leap m p.i p.perturb).2}
theorem sN(t:SetTable)(p:Probe):t.advance p=d7 t.mask p:=rfl
noncomputable def j6(m i pt:Nat):Probe:={j:=i,more:=runEnd m i-i,i,perturb:=pt,dummy:=none}
noncomputable def aO(m:Nat)(h:Int):Nat->Probe
 |0=>j6 m (bits h%(m+1)) (bits h)
 |k+1=>d7 m (aO m h k)
noncomputable def run(m:Nat)(h:Int):Nat->Nat×Nat
 |0=>(bits h%(m+1),bits h)
 |r+1=>leap m (run m h r).1 (run m h r).2
theorem lA(m i:Nat)(hi:i<=m):i<=runEnd m i/\runEnd m i<=m/\runEnd m i<=i+9:=by unfold runEnd;split<;>lia
theorem iZ(m:Nat)(h:Int):∀r,(run m h r).1<=m
 |0=>Nat.le_of_lt_succ (Nat.mod_lt _ (Nat.succ_pos _))
 |r+1=>Nat.le_of_lt_succ (Nat.mod_lt _ (Nat.succ_pos _))
theorem sO(m:Nat)(h:Int):∀k,(aO m h k).dummy=none
 |0=>rfl
 |k+1=>by show(d7 m (aO m h k)).dummy=none;unfold d7;split<;>exact sO m h k
theorem hV(m:Nat)(h:Int){k r:Nat}(e:aO m h k=j6 m (run m h r).1 (run m h r).2):∀d,d<=runEnd m (run m h r).1-(run m h r).1 ->
  aO m h (k+d)={j:=(run m h r).1+d,more:=runEnd m (run m h r).1-(run m h r).1-d,i:=(run m h r).1,perturb:=(run m h r).2,dummy:=none}
 |0,_=>e
 |d+1,hd=>by show d7 m (aO m h (k+d))=_;rw[hV m h e d (by omega)];unfold d7;rw[if_pos (by show _>0;dsimp only;omega)];dsimp only;congr 1
theorem sP(m:Nat)(h:Int):∀r,∃k,k<=10*r/\aO m h k=j6 m (run m h r).1 (run m h r).2
 |0=>⟨0,Qh _,rfl⟩
 |r+1=>by obtain⟨k,hk,e⟩:=sP m h r;have hr:=lA m _ (iZ m h r);refine⟨k+(runEnd m (run m h r).1-(run m h r).1)+1,by lia,?_⟩;show d7 m (aO m h _)=_;rw[hV m h e _ (Qh _)];unfold d7;rw[if_neg (by dsimp only;lia)];rfl
theorem Bp(h:Int):bits h<2^64:=by unfold bits;have h1:=Int.emod_nonneg h (show(2^64:Int)≠0 by decide);have h2:=Int.emod_lt_of_pos h (show(0:Int)<2^64 by decide);lia
theorem sQ(m:Nat)(h:Int):∀r,(run m h r).2=bits h/32^r
 |0=>by simp[run]
 |r+1=>by show(run m h r).2/32=_;rw[sQ m h r,Nat.div_div_eq_div_mul,Nat.pow_succ]
noncomputable def eG(m:Nat):Nat->Nat->Nat
 |0,i=>i
 |q+1,i=>((eG m q i)*5+1)%(m+1)
theorem sR(m:Nat)(h:Int):∀q,(run m h (12+q)).1=eG m q (run m h 12).1
 |0=>rfl
 |q+1=>by
  show(leap m (run m h (12+q)).1 (run m h (12+q)).2).1=_;unfold leap;dsimp only;rw[sR m h q,sQ,Nat.div_div_eq_div_mul]
  have:bits h/(32^(12+q)*32)=0:=by
   refine Nat.div_eq_of_lt ?_;have h1:=Bp h;have h2:32^13<=32^(12+q)*32:=by rw[<-Nat.pow_succ];exact Nat.pow_le_pow_right (by decide) (by lia)
   have h3:(2:Nat)^64<=32^13:=by decide
   lia
  rw[this];rfl
def eI(m:Nat):Prop:=(∀j,j<=m->∃q,q<=m/\eG m q 0=j)/\eG m (m+1) 0=0
theorem lB(m:Nat)(i:Nat):∀a b,eG m (a+b) i=eG m b (eG m a i)
 |a,0=>rfl
 |a,b+1=>by show(eG m (a+b) i*5+1)%(m+1)=_;rw[lB m i a b];rfl
theorem eI.all{m:Nat}(R:eI m){i j:Nat}(hi:i<=m)(hj:j<=m):∃q,q<=m/\eG m q i=j:=by
 obtain⟨a,ha,ea⟩:=R.1 i hi;obtain⟨b,hb,eb⟩:=R.1 j hj;by_cases Hr:a<=b
 ·refine⟨b-a,by omega,?_⟩;rw[<-ea,<-lB,show a+(b-a)=b by omega,eb]
 ·refine⟨b+(m+1)-a,by omega,?_⟩;rw[<-ea,<-lB,show a+(b+(m+1)-a)=(m+1)+b by omega,lB,R.2,eb]
noncomputable def gq:Nat->Nat
 |0=>0
 |q+1=>5*gq q+1
theorem j7(m:Nat):∀q,eG m q 0=gq q%(m+1)
 |0=>by simp[eG,gq]
 |q+1=>by show(eG m q 0*5+1)%(m+1)=_;rw[j7 m q];show _=(5*gq q+1)%(m+1);rw[Nat.add_mod,Nat.mul_mod,Nat.mod_mod,<-Nat.mul_mod,<-Nat.add_mod,Nat.mul_comm]
theorem nI:∀n,5^n=4*gq n+1
 |0=>rfl
 |n+1=>by rw[Nat.pow_succ,nI n];show _=4*(5*gq n+1)+1;lia
theorem nJ(a:Nat):∀b,gq (a+b)=gq a*5^b+gq b
 |0=>by simp[gq]
 |b+1=>by show 5*gq (a+b)+1=gq a*5^(b+1)+(5*gq b+1);rw[nJ a b,Nat.pow_succ,<-Nat.mul_assoc];lia
theorem sS(n:Nat):gq (n+n)=2*(gq n*(2*gq n+1)):=by
 rw[nJ,nI,Nat.mul_add,Nat.mul_add,Nat.mul_one,show gq n*(4*gq n)=2*(gq n*(2*gq n)) by rw[<-Nat.mul_assoc,Nat.mul_comm (gq n) 4,Nat.mul_assoc,<-Nat.mul_assoc (gq n) 2,Nat.mul_comm (gq n) 2];rw[Nat.mul_assoc];lia];lia
theorem sT(k x:Nat)(h:x%2=1):Nat.Coprime (2^k) x:=by refine Nat.Coprime.pow_left k ?_;rw[Nat.coprime_iff_gcd_eq_one,Nat.gcd_rec,h,Nat.gcd_one_left]
theorem nK:∀k n,2^k ∣ gq n↔2^k ∣ n
 |0,n=>by simp
 |k+1,n=>by
  rcases Nat.mod_two_eq_zero_or_one n with h|h
  ·obtain⟨j,rfl⟩:∃j,n=j+j:=⟨n/2,by lia⟩
   rw[sS,<-Nat.two_mul,Nat.pow_succ,Nat.mul_comm (2^k),Nat.mul_dvd_mul_iff_left (by decide),Nat.mul_dvd_mul_iff_left (by decide),<-nK k j];exact⟨λh=>(sT k _ (by lia)).dvd_of_dvd_mul_right h,λh=>Nat.dvd_trans h (Nat.dvd_mul_right _ _)⟩
  ·obtain⟨j,rfl⟩:∃j,n=j+j+1:=⟨n/2,by lia⟩
   have e:gq (j+j+1)=5*(2*(gq j*(2*gq j+1)))+1:=by rw[<-sS];rfl
   rw[e,Nat.pow_succ];generalize gq j*(2*gq j+1)=z;refine⟨λh=>?_,λh=>?_⟩
   ·have:=Nat.dvd_trans (Nat.dvd_mul_left 2 (2^k)) h;lia
   ·have:=Nat.dvd_trans (Nat.dvd_mul_left 2 (2^k)) h;lia
theorem Bq(k:Nat){a b:Nat}(Hr:a<=b)(hb:b<2^k)(h:gq a%2^k=gq b%2^k):a=b:=by
 have e:gq b=gq (b-a)*5^a+gq a:=by rw[<-nJ];congr 1;lia
 have d:2^k ∣ gq (b-a)*5^a:=by have:=Nat.sub_mod_eq_zero_of_mod_eq h.symm;rw[e,Nat.add_sub_cancel] at this;exact Nat.dvd_of_mod_eq_zero this
 have d:=(nK k _).mp ((sT k (5^a) (by rw[nI];lia)).dvd_of_dvd_mul_right d);rcases Nat.eq_zero_or_pos (b-a) with z|z
 ·lia
 ·have:=Nat.le_of_dvd z d;lia
theorem sU:∀(n:Nat) (l:List Nat),l.Nodup->(∀x∈l,x<n)->l.length<=n
 |0,[],_,_=>Qh _
 |0,x::l,_,h=>absurd (h x (.head _)) (Nat.not_lt_zero _)
 |n+1,l,hd,h=>by
  have:=sU n (l.erase n) (hd.erase n) λx hx=>by
   have h1:=h x (List.mem_of_mem_erase hx);have h2:x≠n:=λz=>by rw[z] at hx;exact(hd.mem_erase_iff.mp hx).1 rfl
   lia
  have:=List.length_erase (a:=n) (l:=l);split at this<;>lia
theorem i3(k:Nat){m:Nat}(hm:m+1=2^k):eI m:=by
 refine⟨λj hj=>Classical.byContradiction λno=>?_,by rw[j7,hm];exact Nat.mod_eq_zero_of_dvd ((nK k _).mpr (Nat.dvd_refl _))⟩;have:=sU (m+1) (j::(List.range (m+1)).map λq=>eG m q 0) (List.nodup_cons.mpr ⟨λh=>?_,List.pairwise_map.mpr (List.pairwise_lt_range.imp_of_mem λ{a b} ha hb h z=>?_)⟩) λx hx=>?_
 ·simp at this;lia
 ·obtain⟨q,hq,e⟩:=QI h;exact no ⟨q,Nat.le_of_lt_succ (List.mem_range.mp hq),e⟩
 ·rw[j7,j7,hm] at z;have:=Bq k (QT h) (by rw[<-hm];exact List.mem_range.mp hb) z;lia
 ·rcases Qn hx with e|hx
  ·lia
  ·obtain⟨q,hq,e⟩:=QI hx;rw[<-e,j7];exact Nat.mod_lt _ (by lia)
def lC(m:Nat):Prop:=m=7∨m=31∨m=127∨m=511∨m=2047∨m=8191
theorem lC.round{m:Nat}(h:lC m):eI m:=by
 rcases h with e|e|e|e|e|e<;>rw[e]
 ·exact i3 3 rfl
 ·exact i3 5 rfl
 ·exact i3 7 rfl
 ·exact i3 9 rfl
 ·exact i3 11 rfl
 ·exact i3 13 rfl
theorem sV{m:Nat}(R:eI m)(h:Int){j:Nat}(hj:j<=m):∃r,r<=12+m/\(run m h r).1=j:=by obtain⟨q,hq,e⟩:=R.all (iZ m h 12) hj;exact⟨12+q,by lia,by rw[sR,e]⟩
theorem Br{m:Nat}(R:eI m)(h:Int){j:Nat}(hj:j<=m):∃k,k<=10*(12+m)/\(aO m h k).j=j:=by obtain⟨r,hr,e⟩:=sV R h hj;obtain⟨k,hk,ek⟩:=sP m h r;exact⟨k,by lia,by rw[ek];exact e⟩
theorem nM:∀(n:Nat) (l:List Nat),l.length<n->∃j,j<n/\j∉l
 |0,l,h=>absurd h (Nat.not_lt_zero _)
 |n+1,l,h=>by
  by_cases hn:n∈l
  ·have hp:0<l.length:=List.length_pos_of_mem hn;obtain⟨j,h1,h2⟩:=nM n (l.erase n) (by rw[List.length_erase_of_mem hn];lia);exact⟨j,by lia,λz=>h2 ((List.mem_erase_of_ne (by lia)).mpr z)⟩
  ·exact⟨n,by lia,hn⟩
theorem Bs{P:Nat->Prop}:∀n,P n->∃k,k<=n/\P k/\∀k',k'<k->¬P k':=by
 intro n
 induction n using Nat.strongRecOn with
 |ind n ih =>
  intro h;by_cases hx:∃k,k<n/\P k
  ·obtain⟨k,h1,h2⟩:=hx;obtain⟨q,a,b,c⟩:=ih k h1 h2;exact⟨q,by lia,b,c⟩
  ·exact⟨n,Qh _,h,λk' hk hp=>hx ⟨k',hk,hp⟩⟩
section
variable {β:Type}
def dt(L:List (Nat×β))(j:Nat):Prop:=∃p∈L,p.1=j
theorem dt.mono{L L':List (Nat×β)}{j:Nat}(h:dt L j)(k:∀p∈L,p∈L'):dt L' j:=by obtain⟨p,a,b⟩:=h;exact⟨p,k p a,b⟩
theorem Bu{m:Nat}(R:eI m){L:List (Nat×β)}(hl:L.length<=m)(h:Int):∃K,K<=10*(12+m)/\¬dt L (aO m h K).j/\∀k,k<K->dt L (aO m h k).j:=by
 obtain⟨j,h1,h2⟩:=nM (m+1) (L.map (·.1)) (by simp;lia);obtain⟨k,hk,ek⟩:=Br R h (by lia:j<=m);obtain⟨K,a,b,c⟩:=Bs (P:=λk=>¬dt L (aO m h k).j) k λhsl73=>by obtain⟨p,hp,e⟩:=hsl73;exact h2 (by rw[<-ek,<-e];exact List.mem_map_of_mem hp)
 exact⟨K,by lia,b,λk' G1=>Classical.byContradiction (c k' G1)⟩
theorem nN(m:Nat)(h:Int)(k:Nat):(aO m h k).j+(aO m h k).more<=m/\(aO m h k).i<=m:=by
 induction k with
 |zero =>
  have:=lA m _ (iZ m h 0);show(run m h 0).1+(runEnd m (run m h 0).1-(run m h 0).1)<=m/\(run m h 0).1<=m;exact⟨by lia,iZ m h 0⟩
 |succ k ih =>
  show(d7 m (aO m h k)).j+(d7 m (aO m h k)).more<=m/\(d7 m (aO m h k)).i<=m;unfold d7;split
  ·dsimp only;exact⟨by lia,ih.2⟩
  ·dsimp only;have hl:(leap m (aO m h k).i (aO m h k).perturb).1<=m:=Nat.le_of_lt_succ (Nat.mod_lt _ (Nat.succ_pos _));have:=lA m _ hl;exact⟨by lia,hl⟩
end
section
variable {α:Type}{t:SetTable}{es:Array (Int×α)}{L:List (Nat×(Int×α))}
def Reach(m:Nat)(L:List (Nat×(Int×α))):Prop:=∀p∈L,∃k,(aO m p.2.1 k).j=p.1/\∀k',k'<k->dt L (aO m p.2.1 k').j
theorem Reach.ahead{m:Nat}(R:Reach m L){h:Int}{K:Nat}(hK:¬dt L (aO m h K).j){p:Nat×(Int×α)}(hp:p∈L)(e:p.2.1=h):∃k,k<K/\(aO m h k).j=p.1:=by
 obtain⟨k,h1,h2⟩:=R p hp;rw[e] at h1 h2;refine⟨k,?_,h1⟩;rcases Nat.lt_trichotomy k K with z|z|z
 ·exact z
 ·exact absurd ⟨p,hp,by rw[<-h1,z]⟩ hK
 ·exact absurd (h2 K z) hK
theorem Reach.cons{m:Nat}(R:Reach m L){h:Int}{x:α}{K:Nat}{L':List (Nat×(Int×α))}(hp:L'.Perm (((aO m h K).j,(h,x))::L))(hb:∀k,k<K->dt L (aO m h k).j):Reach m L':=λp FM=>by
 have sub:∀q∈L,q∈L':=λq hq=>hp.mem_iff.mpr (QA _ hq);rcases Qn (hp.mem_iff.mp FM) with e|hq
 ·rw[e];exact⟨K,rfl,λk' hk=>(hb k' hk).mono sub⟩
 ·obtain⟨k,a,b⟩:=R p hq;exact⟨k,a,λk' hk=>(b k' hk).mono sub⟩
theorem sW(T:cM t es L){hashAt:Nat->Int}(hh:∀i p,L[i]?=some p->hashAt i=p.2.1){h:Int}{K:Nat}(hK:¬dt L (aO t.mask h K).j)(hb:∀k,k<K->dt L (aO t.mask h k).j):∀fuel k,k<=K->K-k<fuel ->
  (∃k1 i p,k<=k1/\k1<K/\SetTable.probe.go t hashAt h fuel (aO t.mask h k)=some (.candidate (aO t.mask h k1).j i (aO t.mask h (k1+1)))/\L[i]?=some p/\p.1=(aO t.mask h k1).j/\p.2.1=h/\∀k',k<=k'->k'<k1->∀q∈L,q.1=(aO t.mask h k').j->q.2.1≠h) ∨
  (SetTable.probe.go t hashAt h fuel (aO t.mask h k)=some (.empty (aO t.mask h K).j none)/\∀k',k<=k'->k'<K->∀q∈L,q.1=(aO t.mask h k').j->q.2.1≠h)
 |0,k,hk,hf=>absurd hf (Nat.not_lt_zero _)
 |fuel+1,k,hk,hf=>by
  unfold SetTable.probe.go;by_cases e:k=K
  ·subst e;right;rw[T.empty λp hp z=>hK ⟨p,hp,z⟩,sO];exact⟨rfl,λk' h1 h2=>by lia⟩
  ·obtain⟨p,hp,ep⟩:=hb k (by lia);obtain⟨i,hi⟩:=List.mem_iff_getElem?.mp hp;rw[<-ep,T.live hi];dsimp only;rw[hh i p hi];by_cases hq:p.2.1=h
   ·left;rw[if_pos (by simpa using hq)];refine⟨k,i,p,Qh _,by lia,?_,hi,ep,hq,λk' h1 h2=>by lia⟩;rw[sN,ep];rfl
   ·rw[if_neg (by simpa using hq),sN];have one:∀q∈L,q.1=(aO t.mask h k).j->q.2.1≠h:=λq hqm eq=>by obtain⟨i',Io⟩:=List.mem_iff_getElem?.mp hqm;have h1:=T.live hi;have h2:=T.live Io;rw[eq,<-ep,h1] at h2;cases h2;rw[hi] at Io;cases Io;exact hq
    rcases sW T hh hK hb fuel (k+1) (by lia) (by lia) with ⟨k1,i',p',a1,a2,a3,a4,a5,a6,a7⟩|⟨a1,a2⟩
    ·left;refine⟨k1,i',p',by lia,a2,a3,a4,a5,a6,λk' h1 h2=>?_⟩;by_cases z:k'=k
     ·rw[z];exact one
     ·exact a7 k' (by lia) h2
    ·right;refine⟨a1,λk' h1 h2=>?_⟩;by_cases z:k'=k
     ·rw[z];exact one
     ·exact a2 k' (by lia) h2
end
theorem sX{m:Nat}{h:Int}{owner:Array (Option Nat)}:∀fuel r k,aO m h k=j6 m (run m h r).1 (run m h r).2->(∃r',r<=r'/\r'<r+fuel/\(owner.getD (run m h r').1 (some 0)).isNone=true) ->
  ∃k1,k<=k1/\layClean.free m owner fuel (run m h r).1 (run m h r).2=some (aO m h k1).j/\(owner.getD (aO m h k1).j (some 0)).isNone=true/\∀k',k<=k'->k'<k1->(owner.getD (aO m h k').j (some 0)).isNone=false
 |0,r,k,e,⟨r',h1,h2,_⟩=>by lia
 |fuel+1,r,k,e,⟨r',h1,h2,h3⟩=>by
  have hr:=lA m _ (iZ m h r);unfold layClean.free
  cases hf:(List.range (runEnd m (run m h r).1+1-(run m h r).1)).find? λk=>(owner.getD ((run m h r).1+k) (some 0)).isNone with
  |some d =>
   obtain⟨a,b,c⟩:=List.find?_range_eq_some.mp hf;have hd:d<=runEnd m (run m h r).1-(run m h r).1:=by have:=List.mem_range.mp b;lia
   refine⟨k+d,by lia,?_,?_,λk' g1 g2=>?_⟩
   ·rw[hV m h e d hd]
   ·rw[hV m h e d hd];exact a
   ·have:=hV m h e (k'-k) (by lia);rw[show k+(k'-k)=k' by lia] at this;rw[this];simpa using c (k'-k) (by lia)
  |none =>
   have c:=List.find?_range_eq_none.mp hf;dsimp only;have en:aO m h (k+(runEnd m (run m h r).1-(run m h r).1)+1)=j6 m (run m h (r+1)).1 (run m h (r+1)).2:=by show d7 m (aO m h _)=_;rw[hV m h e _ (Qh _)];unfold d7;rw[if_neg (by dsimp only;lia)];rfl
   have EW:r'≠r:=λz=>by subst z;have:=c 0 (by lia);rw[Nat.add_zero,h3] at this;cases this
   obtain⟨k1,g1,g2,g3,g4⟩:=sX fuel (r+1) _ en ⟨r',by lia,by lia,h3⟩;refine⟨k1,by lia,g2,g3,λk' q1 q2=>?_⟩;by_cases hk:k'<=k+(runEnd m (run m h r).1-(run m h r).1)
   ·have:=hV m h e (k'-k) (by lia);rw[show k+(k'-k)=k' by lia] at this;rw[this];simpa using c (k'-k) (by lia)
   ·exact g4 k' (by lia) q2
structure i4(m:Nat)(hs:List Int)(owner:Array (Option Nat))(L:List (Nat×Nat)):Prop where
 sz:owner.size=m+1
 own:∀j q,owner[j]?=some (some q)↔(j,q)∈L
 ix:L.map (·.2)=List.range hs.length
 le:∀p∈L,p.1<=m
 nd:(L.map (·.1)).Nodup
 rc:∀p∈L,∀h,hs[p.2]?=some h->∃k,(aO m h k).j=p.1/\∀k',k'<k->dt L (aO m h k').j
noncomputable def lD(m:Nat)(Fa:Option (Array (Option Nat)×Nat))(h:Int):Option (Array (Option Nat)×Nat):=do
 let (owner,k) <- Fa;let j <- layClean.free m owner (turns m) (bits h%(m+1)) (bits h)
 pure (owner.setIfInBounds j (some k),k+1)
theorem Bv{m:Nat}(R:eI m){hs:List Int}{owner:Array (Option Nat)}{L:List (Nat×Nat)}(T:i4 m hs owner L)(h:Int)(hl:hs.length<m+1) :
  ∃Gf L',lD m (some (owner,hs.length)) h=some (Gf,hs.length+1)/\i4 m (hs++[h]) Gf L':=by
 have hL:L.length=hs.length:=by have:=congrArg List.length T.ix;simpa using this
 have Gg:∀j,j<=m->((owner.getD j (some 0)).isNone=true↔¬dt L j):=λj hj=>by
  have e:owner[j]?=some (owner[j]'(by rw[T.sz];lia)):=Array.getElem?_eq_getElem _;rw[Array.getD_eq_getD_getElem?,e];show(owner[j]'(by rw[T.sz];lia)).isNone=true↔_;constructor
  ·rintro hn ⟨p,hp,ep⟩;have:=(T.own p.1 p.2).mpr hp;rw[ep,e] at this;have:=Qo this;rw[this] at hn;cases hn
  ·intro ho
   cases hc:owner[j]'(by rw[T.sz];lia) with
   |none=>rfl
   |some q=>exact absurd ⟨(j,q),(T.own j q).mp (by rw[e,hc]),rfl⟩ ho
 obtain⟨j,h1,h2⟩:=nM (m+1) (L.map (·.1)) (by simp;lia);obtain⟨r,hr,er⟩:=sV R h (by lia:j<=m);have hfr:(owner.getD (run m h r).1 (some 0)).isNone=true:=(Gg _ (iZ m h r)).mpr λhsl74=>by obtain⟨p,hp,e⟩:=hsl74;exact h2 (by rw[<-er,<-e];exact List.mem_map_of_mem hp)
 obtain⟨k1,_,g2,g3,g4⟩:=sX (m:=m) (h:=h) (owner:=owner) (turns m) 0 0 rfl ⟨r,QC _,by unfold turns;lia,hfr⟩;have hj:(aO m h k1).j<=m:=by have:=(nN m h k1).1;lia
 have IE:¬dt L (aO m h k1).j:=(Gg _ hj).mp g3;refine⟨owner.setIfInBounds (aO m h k1).j (some hs.length),L++[((aO m h k1).j,hs.length)],?_,⟨?_,?_,?_,?_,?_,?_⟩⟩
 ·unfold lD;show(layClean.free m owner (turns m) (run m h 0).1 (run m h 0).2>>=_)=_;rw[g2];rfl
 ·simp[T.sz]
 ·intro j q;rw[Array.getElem?_setIfInBounds];by_cases e:(aO m h k1).j=j
  ·rw[if_pos e];rw[if_pos (by rw[T.sz];lia)];constructor
   ·intro z;cases z;rw[<-e];simp
   ·intro z;rcases Qq z with z|z
    ·exact absurd ⟨_,z,e.symm⟩ IE
    ·simp at z;rw[z.2]
  ·rw[if_neg e,T.own];constructor
   ·exact λz=>List.mem_append.mpr (.inl z)
   ·intro z;rcases Qq z with z|z
    ·exact z
    ·simp at z;exact absurd z.1.symm e
 ·rw[QL,T.ix];simp[List.range_succ]
 ·intro p hp;rcases Qq hp with z|z
  ·exact T.le p z
  ·simp at z;rw[z];exact hj
 ·rw[QL,List.nodup_append];refine⟨T.nd,by simp,λa ha b hb=>?_⟩;simp at hb;intro z;obtain⟨p,hp,ep⟩:=QI ha;exact IE ⟨p,hp,by rw[ep,z,hb]⟩
 ·intro p hp h' hh;rcases Qq hp with z|z
  ·have hq:p.2<hs.length:=by have:p.2∈L.map (·.2):=List.mem_map_of_mem z;rw[T.ix] at this;exact List.mem_range.mp this
   rw[Ql hq] at hh;obtain⟨k,a,b⟩:=T.rc p z h' hh;exact⟨k,a,λk' hk=>(b k' hk).mono λq hq=>List.mem_append.mpr (.inl hq)⟩
  ·simp at z;subst z;rw[Qs (Qh _)] at hh;simp at hh;subst hh;refine⟨k1,rfl,λk' hk=>?_⟩;have hjk:(aO m h k').j<=m:=by have:=(nN m h k').1;lia
   have g:=g4 k' (QC _) hk;refine dt.mono (Classical.byContradiction λz=>?_) λq hq=>List.mem_append.mpr (.inl hq);have:=(Gg _ hjk).mpr z;rw[g] at this;cases this
theorem sY{m:Nat}(R:eI m):∀(ET hs:List Int) (owner:Array (Option Nat)) (L:List (Nat×Nat)),i4 m hs owner L->hs.length+ET.length<=m+1->∃Gf L',ET.foldl (lD m) (some (owner,hs.length))=some (Gf,hs.length+ET.length)/\i4 m (hs++ET) Gf L'
 | [],hs,owner,L,T,_=>⟨owner,L,rfl,by simpa using T⟩
 |h::ET,hs,owner,L,T,hl=>by
  obtain⟨o1,L1,e1,T1⟩:=Bv R T h (by simp at hl;lia);obtain⟨o2,L2,e2,T2⟩:=sY R ET (hs++[h]) o1 L1 T1 (by simp at hl ⊢;lia);refine⟨o2,L2,?_,by simpa using T2⟩;rw[List.foldl_cons,e1];rw[Qr,List.length_singleton] at e2;rw[e2];simp;lia
theorem Bw{m:Nat}(R:eI m)(hs:Array Int)(hl:hs.size<=m+1):∃owner L,layClean m hs=some owner/\i4 m hs.toList owner L:=by
 have T0:i4 m [] (Array.replicate (m+1) none) []:=by
  refine⟨by simp,λj q=>?_,rfl,λp hp=>(nomatch hp),.nil,λp hp=>(nomatch hp)⟩;rw[Array.getElem?_replicate];constructor
  ·intro z;split at z<;>cases z
  ·intro z;cases z
 obtain⟨o,L,e,T⟩:=sY R hs.toList [] _ [] T0 (by simpa using hl);refine⟨o,L,?_,by simpa using T⟩;unfold layClean;rw[<-Array.foldl_toList];show Option.map _ (hs.toList.foldl (lD m) (some (Array.replicate (m+1) none,([]:List Int).length)))=_;rw[e];rfl
section
variable {α:Type}{t:SetTable}{es:Array (Int×α)}{L:List (Nat×(Int×α))}
theorem Bx{m:Nat}(R:eI m){finger moves:Nat}{led plain:Bool}(hl:es.size<=m):∃t' FU L',SetTable.laid m finger moves led plain (es.map (·.1))=some (t',FU)/\cM t' (FU.filterMap (es[·]?)) L'/\(L'.map (·.2)).Perm es.toList/\Reach m L'/\t'.mask=m/\t'.led=led/\t'.plain=plain/\t'.moves=moves:=by
 obtain⟨owner,L,e,T⟩:=Bw R (es.map (·.1)) (by simp;lia);have FS:L.map (·.2)=List.range es.size:=by rw[T.ix];simp
 let live:=(List.range (m+1)).filterMap λj=>(owner.getD j none).map (j,·)
 have Fc:∀p,p∈live↔p∈L:=λp=>by
  rw[<-T.own p.1 p.2];constructor
  ·intro h;obtain⟨j,hj,ej⟩:=List.mem_filterMap.mp h;obtain⟨q,eq,ep⟩:=Option.map_eq_some_iff.mp ej;subst ep;rw[Array.getD_eq_getD_getElem?] at eq;show owner[j]?=some (some q)
   cases ho:owner[j]? with
   |none=>rw[ho] at eq;cases eq
   |some v=>rw[ho] at eq;rw[show v=some q from eq]
  ·intro h;have hj:p.1<owner.size:=(Array.getElem?_eq_some_iff.mp h).1;exact List.mem_filterMap.mpr ⟨p.1,List.mem_range.mpr (by rw[<-T.sz];exact hj),by rw[Array.getD_eq_getD_getElem?,h];rfl⟩
 have hup:live.Pairwise λa b=>a.1<b.1:=by refine List.Pairwise.filterMap (R:=(·<·)) _ (λa a' haa b hb b' HB=>?_) List.pairwise_lt_range;obtain⟨_,_,e1⟩:=Option.map_eq_some_iff.mp hb;obtain⟨_,_,e2⟩:=Option.map_eq_some_iff.mp HB;rw[<-e1,<-e2];exact haa
 have Hn:live.Nodup:=hup.imp λh z=>by rw[z] at h;exact Nat.lt_irrefl _ h
 have hndL:L.Nodup:=by have h2:L.Pairwise λa b=>a.1≠b.1:=List.pairwise_map.mp T.nd;exact h2.imp λh z=>h (by rw[z])
 have hperm:live.Perm L:=(List.perm_ext_iff_of_nodup Hn hndL).mpr Fc;have hq:∀p∈live,p.2<es.size:=λp hp=>by have:p.2∈L.map (·.2):=List.mem_map_of_mem ((Fc p).mp hp);rw[FS] at this;exact List.mem_range.mp this
 by_cases EW:es.size=0
 ·have hlv:live=[]:=by
   cases hc:live with
   |nil=>rfl
   |cons p r=>have:=hq p (by rw[hc];exact QH);lia
  have HQ:es=#[]:=Array.eq_empty_of_size_eq_zero EW;refine⟨_,_,[],by unfold SetTable.laid;rw[e];rfl,⟨?_,?_,.nil,rfl,λp hp=>(nomatch hp),QC _⟩,?_,λp hp=>(nomatch hp),rfl,rfl,rfl,rfl⟩
  ·show((live.map (·.1)).toArray).toList=_;rw[hlv];rfl
  ·show(Array.filterMap _ (live.map (·.2)).toArray).toList=_;rw[hlv];simp
  ·rw[HQ];exact .refl _
 have hpos:0<es.size:=by lia
 let d:=es[0]'hpos
 let f:Nat×Nat->Nat×(Int×α):=λp=>(p.1,es.getD p.2 d)
 have hf:∀p∈live,es[p.2]?=some (f p).2:=λp hp=>by have h:=hq p hp;show _=some (es.getD p.2 d);rw[Array.getD_eq_getD_getElem?,Array.getElem?_eq_getElem h];rfl
 refine⟨_,_,live.map f,by unfold SetTable.laid;rw[e];rfl,⟨?_,?_,?_,rfl,λp hp=>?_,?_⟩,?_,λp hp=>?_,rfl,rfl,rfl,rfl⟩
 ·show((live.map (·.1)).toArray).toList=_;rw[QX];rfl
 ·show(Array.filterMap _ (live.map (·.2)).toArray).toList=_;rw[Array.toList_filterMap,List.filterMap_map,QX]
  have:∀l:List (Nat×Nat),(∀p∈l,es[p.2]?=some (f p).2)->l.filterMap ((λx=>es[x]?)∘λx=>x.2)=l.map ((λx=>x.2)∘f):=by
   intro l
   induction l with
   |nil=>intro _;rfl
   |cons p l ih =>
    intro h;have e1:((λx=>es[x]?)∘λx:Nat×Nat=>x.2) p=some (f p).2:=h p QH;rw[List.filterMap_cons_some e1,ih λq hq=>h q (QA _ hq)];rfl
  exact this live hf
 ·rw[QX];exact List.pairwise_map.mpr (hup.imp λh=>h)
 ·obtain⟨q,h1,rfl⟩:=QI hp;exact T.le q ((Fc q).mp h1)
 ·show(live.map f).length<=m;have h1:=congrArg List.length FS;simp at h1;rw[Qf,hperm.length_eq,h1];exact hl
 ·rw[QX];refine(hperm.map _).trans ?_;have:L.map ((λx=>x.2)∘f)=(L.map (·.2)).map λq=>es.getD q d:=by rw[QX];rfl
  rw[this,FS]
  have:(List.range es.size).map (λq=>es.getD q d)=es.toList:=by
   refine List.ext_getElem? λi=>?_;rw[Qj];by_cases hi:i<es.size
   ·rw[List.getElem?_range hi,Array.getElem?_toList,Array.getElem?_eq_getElem hi];simp[Array.getD,hi]
   ·rw[List.getElem?_eq_none (by simp;lia),List.getElem?_eq_none (by simp;lia)];rfl
  rw[this]
 ·obtain⟨q,h1,rfl⟩:=QI hp;have hqs:=hq q h1
  obtain⟨k,a,b⟩:=T.rc q ((Fc q).mp h1) (f q).2.1 (by
   rw[Array.getElem?_toList,Array.getElem?_map,hf q h1];rfl)
  refine⟨k,a,λk' hk=>?_⟩;obtain⟨z,hz,ez⟩:=b k' hk;exact⟨f z,List.mem_map_of_mem ((Fc z).mpr hz),ez⟩
end
end L2
namespace L2
open PySem PySem.Spec PyProof.Rows
noncomputable abbrev newSet(led:Bool):Obj:={cls:=.type "set",dict:=none,data:=.set #[] 0 (.fresh 0 0 led)}
noncomputable def dv(w:World):Bool:=w.params.followText "set-order"
section
variable {prog:Program}{w:World}{A:Around}{E:Value->Shared->Prop}{s:Shared}
open PySem in
theorem By(a:Value){Q₁:Value->Shared->Prop}(h:Q₁ (.ref s.heap.objs.size) {s with heap:=s.heap.push (newSet (!dv w))}) :
  codeAny (model prog w) A (.call (.builtin "set.__new__") ⟨[.type "set",a],[]⟩) (wants Q₁ E) s:=by
 refine codeAny_of_tree ?_;show wpAny _ A.in1 (do checkBuiltinCall "set.__new__" ⟨[.type "set",a],[]⟩;again (.builtin "set.__new__" ⟨[.type "set",a],[]⟩)) _ _ s;refine Qb (wpAny_of_eq (F.newCall_set_1 a) (Qd ⟨plainId_quiet F.plain_set_new _,codeAny_builtin F.entry_set_new ?_⟩));rw[Around.under_plainId F.plain_set_new _];unfold Builtin.«set.__new__» Builtin.Frozenset.newClass;have HH:=sub_set_self;obtain⟨hp,g,d,tk,os⟩:=s;dsimp only
 wp_walk
 refine wpAny_askSetting (Qd ?_);dsimp only;simp only[newObj];exact Qb (wpAny_alloc (Qd (Qd h)))
end
theorem nO{α:Type}:∀(xs:List α) (i:Nat) (x:α),xs[i]?=some x->List.Perm (x::xs.eraseIdx i) xs
 | [],i,x,h=>by simp at h
 |a::xs,0,x,h=>by cases h;exact .refl _
 |a::xs,i+1,x,h=>by have:=nO xs i x (by simpa using h);simp only[List.eraseIdx_cons_succ];exact(List.Perm.swap a x _).trans (this.cons a)
section
variable {prog:Program}{w:World}{A:Around}{E:Value->Shared->Prop}
theorem Bz{src:Source}{n:Nat}{s:Shared}{Q:Nat->Shared->Prop}(hn:n≠0)(h:∀i d',i<n->Q i {s with drawn:=d'}):wpAny (model prog w) A (choose src n) Q E s:=
 λ_ _ _=>⟨hn,h _ _ (Nat.mod_lt _ (Nat.pos_of_ne_zero hn))⟩
theorem sZ{α:Type}:∀(n:Nat) (xs:List α) (s:Shared) (Q:List α->Shared->Prop),n=xs.length->(∀ys d',List.Perm ys xs->Q ys {s with drawn:=d'})->wpAny (model prog w) A (drawOrder n xs) Q E s
 |0,xs,s,Q,hn,h=>by
  have:xs=[]:=by cases xs with|nil=>rfl|cons _ _=>simp at hn
  subst this;exact Qd (h [] s.drawn (.refl _))
 |n+1,[],s,Q,hn,h=>by simp at hn
 |n+1,a::xs,s,Q,hn,h=>by unfold drawOrder;refine Qb (Bz (by simp) λi d' hi=>?_);have e:(a::xs)[i]?=some (a::xs)[i]:=Qa hi;rw[e];refine Qb (sZ n _ _ _ (by rw[List.length_eraseIdx_of_lt hi];simp at hn ⊢;omega) λys d'' hp=>Qd ?_);exact h _ _ ((hp.cons _).trans (nO _ i _ e))
end
theorem fJ:Slot "set_iterator" "__next__" "set_iterator.__next__" :=
 .of (owner:="set_iterator") (n:="__next__") (by rw[typeLookup_type,builtinLookup_eq_fast];kernel_rfl) (by decide +kernel) (by decide +kernel) (by decide +kernel)
  (by first|exact .inl (by decide +kernel)|exact .inr (by decide +kernel)) (by rw[isSubtype_type];kernel_rfl)
theorem tm:Slot "set_iterator" "__iter__" "set_iterator.__iter__" :=
 .of (owner:="set_iterator") (n:="__iter__") (by rw[typeLookup_type,builtinLookup_eq_fast];kernel_rfl) (by decide +kernel) (by decide +kernel) (by decide +kernel)
  (by first|exact .inl (by decide +kernel)|exact .inr (by decide +kernel)) (by rw[isSubtype_type];kernel_rfl)
theorem lE:entryFor table "set_iterator.__next__"=some Builtin.«set_iterator.__next__»:=entryFor_of_tree (by kernel_rfl)
theorem BA:entryFor table "set.__iter__"=some Builtin.«frozenset.__iter__» :=
 entryFor_alias (id':="frozenset.__iter__") (by kernel_rfl) rfl (by decide +kernel) (by kernel_rfl)
theorem lF(a:Value):argsOk "set_iterator.__next__" ⟨[a],[]⟩:=by
 unfold argsOk
 kernel_rfl
theorem tu{α:Type}(next:Nat->Nat):∀(n k:Nat) (xs:List α) (out:Array α),n=xs.length->List.Perm (pickOrder.go next n k xs out).toList (out.toList++xs)
 |0,k,xs,out,hn=>by
  have:xs=[]:=by cases xs with|nil=>rfl|cons _ _=>simp at hn
  subst this;simp[pickOrder.go]
 |n+1,k,xs,out,hn=>by
  have hp:0<xs.length:=by lia
  have hi:next k%xs.length<xs.length:=Nat.mod_lt _ hp
  have e:xs[next k%xs.length]?=some xs[next k%xs.length]:=Qa hi;rw[pickOrder.go,e];dsimp only;refine(tu next n (k+1) _ _ (by rw[List.length_eraseIdx_of_lt hi];lia)).trans ?_;rw[Array.toList_push,QN];exact(nO xs _ _ e).append_left _
theorem nP{α:Type}(next:Nat->Nat)(xs:Array α):List.Perm (pickOrder next xs).toList xs.toList:=by
 have:=tu next xs.size 0 xs.toList #[] (by simp)
 simpa [pickOrder] using this
noncomputable def gy(ys:List Nat):Obj:={cls:=.type "tuple",data:=.seq (ys.map λ(i:Nat)=>Value.int (i:Int) 0).toArray}
noncomputable def dG(first:Value)(i:Nat)(S:Addr)(n ep:Nat):Obj:={cls:=.type "set_iterator",data:=.fields #[first,.int i 0,.ref S,.int n 0,.int ep 0]}
structure SW(w:World)(h:Heap)(S:Addr)(o:Obj)(es:Array (Int×Value))(ep:Nat)(t:SetTable):Prop where
 ob:h.get? S=some o
 ex:o.ExactSet
 da:o.data=.set es ep t
 ft:t.fits es.size=true
 ld:t.led=!dv w
 pl:es.size=0∨t.plain=false
theorem SW.at{w:World}{h h':Heap}{S:Addr}{o:Obj}{es:Array (Int×Value)}{ep:Nat}{t:SetTable}(T:SW w h S o es ep t)(k:∀o,h.get? S=some o->h'.get? S=some o):SW w h' S o es ep t:=⟨k o T.ob,T.ex,T.da,T.ft,T.ld,T.pl⟩
section
variable {prog:Program}{w:World}{A:Around}{E:Value->Shared->Prop}{s:Shared}{S:Addr}{zs:List Str}{o:Obj}{es:Array (Int×Value)}{ep:Nat}{t:SetTable}
theorem SW.typeIs(T:SW w s.heap S o es ep t):s.TypeIs (.ref S) "set":=⟨o,T.ob,T.ex.1⟩
theorem BB{Q:Value->Shared->Prop}(T:SW w s.heap S o es ep t)(hn:es.size<=5000)
  (h1:dv w=true∨es.size<=1->Q (.ref s.heap.objs.size) {s with heap:=s.heap.push (dG (.int 0 0) 0 S es.size ep)})
  (h2:dv w=false->1<es.size->∀(ys:List Nat) d',List.Perm ys (List.range es.size)->Q (.ref (s.heap.push (gy ys)).objs.size) {s with heap:=(s.heap.push (gy ys)).push (dG (.ref s.heap.objs.size) 0 S es.size ep),drawn:=d'}) :
  wpAny (model prog w) A (pyIter (.ref S)) Q E s:=by
 refine wpAny_pyIter_slot T.typeIs PySem.F.slot_set_iter (wpAny_call_entry PySem.F.slot_set_iter T.typeIs BA ?_ (PySem.F.args_set_iter_1 _));unfold Builtin.«frozenset.__iter__»;refine Qb (wpAny_of_eq (a:=S) (by rfl) ?_);unfold Builtin.Frozenset.sizeOf;refine Qb (Qb (wpAny_setEntries_of T.ob T.da T.ft (Qd ?_)));unfold setDrawn setsByText;refine Qb (Qb (wpAny_setState_of T.ob T.da T.ft (Qb (Qb (wpAny_askSetting (Qd (Qd ?_)))))));show wpAny _ _ (if(!dv w&&(!t.plain&&decide (es.size>1)))=true then _ else _) _ _ _
 have fin:∀ (first:Value) (s1:Shared),s1.heap.get? S=some o->Q (.ref s1.heap.objs.size) { s1 with heap:=s1.heap.push (dG first 0 S es.size ep) } ->
   wpAny (model prog w) A.in1 (do
    let e <- setEpoch S;let x <- newFields "set_iterator" [first,rawInt 0,Value.ref S,rawInt (es.size:Nat),rawInt (e:Nat)]
    ret x) (λfin s'=>∃v,fin=.done (.ret v)/\∃T' r,s'.TypeIs v T'/\typeLookup (.type T') "__next__"=pure (some r)/\Q v s') E s1:=λfirst s1 ho q=>by
  refine Qb (wpAny_setEpoch_of ho T.da T.ft ?_);exact Qb (wpAny_newObj_type (Qd ⟨_,rfl,"set_iterator",_,⟨_,Qu _ rfl,rfl⟩,fJ.lookup,q⟩))
 by_cases hb:dv w=true
 ·rw[hb];simp only[Bool.not_true,Bool.false_and,QR,if_false];refine Qb (Qd ?_);exact fin (rawInt 0) s T.ob (h1 (.inl hb))
 ·have hb:dv w=false:=by simpa using hb
  by_cases hz:es.size<=1
  ·rw[show decide (es.size>1)=false from Qi (by lia)];simp only[Bool.and_false,QR,if_false];refine Qb (Qd ?_);exact fin (rawInt 0) s T.ob (h1 (.inr hz))
  ·have hp:t.plain=false:=by
    rcases T.pl with h|h
    ·lia
    ·exact h
   rw[hb,hp,show decide (es.size>1)=true from Qv (by lia)];simp only[Bool.not_false,Bool.and_self,if_true];refine Qb (sZ es.size (List.range es.size) s _ (by simp) λys d' hy=>?_);simp only[newTuple];refine Qb (wpAny_newObj_type ?_ ?_)
   ·exact fin _ _ (Qe _ T.ob) (h2 hb (by lia) ys d' hy)
   ·have hl:ys.length=es.size:=by rw[hy.length_eq];simp
    show(ys.map λ(i:Nat)=>rawInt (i:Int)).toArray.size<=sizeLine;rw[Qt,Qf,hl];exact QT (Qz (m:=5000) hn (by decide))
end
section
variable {prog:Program}{w:World}{A:Around}{E:Value->Shared->Prop}{s:Shared}{S I:Addr}{o:Obj}{es:Array (Int×Value)}{ep:Nat}{t:SetTable}
theorem hW{first:Value}{i n:Nat}(hI:s.heap.get? I=some (dG first i S n ep)):s.TypeIs (.ref I) "set_iterator":=⟨_,hI,rfl⟩
theorem tw{Q:Option (Value×Nat)->Shared->Prop}{slot i:Nat}(hb:dv w=true)(T:SW w s.heap S o es ep t)(h:Q (((pickOrder (w.params.setOrder S ep) es)[i]?).map λe=>(e.2,slot)) s):wpAny (model prog w) A (setNext S slot i ep) Q E s:=by have HB:w.params.followText "set-order"=true:=hb;unfold setNext setsByText;refine Qb (wpAny_setState_of T.ob T.da T.ft ?_);dsimp only;refine Qb (Qb (wpAny_askSetting (Qd ?_)));rw[if_pos (show(model prog w).w.params.followText "set-order"=true from HB)];rw[if_neg (by simp)];unfold setWalk setsByText;refine Qb (Qb (wpAny_setState_of T.ob T.da T.ft ?_));dsimp only;refine Qb (Qb (wpAny_askSetting (Qd ?_)));rw[if_pos (show(model prog w).w.params.followText "set-order"=true from HB)];exact Qb (wpAny_askSetting (Qd (Qd h)))
theorem tz{Q:Option (Value×Nat)->Shared->Prop}{slot i:Nat}(hb:dv w=false)(hz:es.size<=1)(T:SW w s.heap S o es ep t) (h:Q (match es[SetTable.below t.place slot]?,t.place[SetTable.below t.place slot]? with
  |some (_,x),some j=>some (x,j+1)
  |_,_=>none) s):wpAny (model prog w) A (setNext S slot i ep) Q E s:=by
 have HB:w.params.followText "set-order"=false:=hb;unfold setNext setsByText;refine Qb (wpAny_setState_of T.ob T.da T.ft ?_);dsimp only;refine Qb (Qb (wpAny_askSetting (Qd ?_)));rw[if_neg (show ¬(model prog w).w.params.followText "set-order"=true by show ¬w.params.followText "set-order"=true;rw[HB];decide)];show wpAny _ _ (if(!t.plain&&decide (es.size>1))=true then _ else _) _ _ _;rw[show decide (es.size>1)=false from Qi (by omega),Bool.and_false,if_neg (by decide)];show wpAny _ _ ((if(!t.led&&!es.isEmpty)=true then unsupported _ else pure PUnit.unit)>>=_) _ _ _;rw[T.ld,hb];exact Qb (Qd (Qd h))
theorem tD{Q:Option Value->Shared->Prop}{slot i nx:Nat}{x:Value}(hI:s.heap.get? I=some (dG (.int slot 0) i S es.size ep))(T:SW w s.heap S o es ep t)
  (hsn:∀(A:Around) (E:Value->Shared->Prop) (Q:Option (Value×Nat)->Shared->Prop),Q (some (x,nx)) s->wpAny (model prog w) A (setNext S slot i ep) Q E s)
  (hQ:∀h',h'.get? I=some (dG (.int nx 0) (i+1) S es.size ep)->Heap.SameBut I s.heap h'->Q (some x) {s with heap:=h'}):wpAny (model prog w) A (pyNext (.ref I)) Q E s:=by
 have hT:=hW hI;unfold pyNext;refine Qb (wpAny_attempt (wpAny_callSpecial?_slot (name:=Str.ofString "__next__") hT fJ (wpAny_call_entry fJ hT lE ?_ (lF _))));unfold Builtin.«set_iterator.__next__»;refine Qb (Qd (Qb (wpAny_fieldsOf hI rfl ?_)));show wpAny _ _ (setEntries S>>=_) _ _ _;refine Qb (wpAny_setEntries_of T.ob T.da T.ft ?_);rw[if_neg (by simp)];show wpAny _ _ (setNext S (slot:Int).toNat (i:Int).toNat (ep:Int).toNat>>=_) _ _ _;simp only[QU];refine Qb (hsn _ _ _ ?_);dsimp only;refine Qb (wpAny_setField hI rfl (by simp) ?_);have h1:(s.heap.update I (Obj.mapFields (·.setIfInBounds 0 (rawInt (nx:Nat))))).get? I=some (dG (.int nx 0) i S es.size ep):=Heap.get?_update_self _ hI rfl;refine Qb (wpAny_setField (s:={s with heap:=s.heap.update I (Obj.mapFields (·.setIfInBounds 0 (rawInt (nx:Nat))))}) h1 rfl (by simp) ?_);refine Qd ⟨_,rfl,Qd (hQ _ (Heap.get?_update_self _ h1 rfl) ?_)⟩;exact(Heap.SameBut.update ..).trans (Heap.SameBut.update ..)
theorem tE{Q:Option Value->Shared->Prop}{slot i:Nat}(hh:A.handled=none)(hI:s.heap.get? I=some (dG (.int slot 0) i S es.size ep))(T:SW w s.heap S o es ep t)
  (hsn:∀(A:Around) (E:Value->Shared->Prop) (Q:Option (Value×Nat)->Shared->Prop),Q none s->wpAny (model prog w) A (setNext S slot i ep) Q E s)
  (hQ:∀h',Heap.ExtBut I s.heap h'->Q none {s with heap:=h'}):wpAny (model prog w) A (pyNext (.ref I)) Q E s:=by
 have hT:=hW hI;unfold pyNext;refine Qb (wpAny_attempt (wpAny_callSpecial?_slot (name:=Str.ofString "__next__") hT fJ (wpAny_call_entry fJ hT lE ?_ (lF _))));unfold Builtin.«set_iterator.__next__»;refine Qb (Qd (Qb (wpAny_fieldsOf hI rfl ?_)));show wpAny _ _ (setEntries S>>=_) _ _ _;refine Qb (wpAny_setEntries_of T.ob T.da T.ft ?_);rw[if_neg (by simp)];show wpAny _ _ (setNext S (slot:Int).toNat (i:Int).toNat (ep:Int).toNat>>=_) _ _ _;simp only[QU];refine Qb (hsn _ _ _ ?_);dsimp only;refine Qb (wpAny_setField hI rfl (by simp) ?_);refine Qb ?_;simp only[newExc,newTuple];refine Qb (wpAny_newObj_type (Qb (m:=firstArgMember _ _) (wpAny_of_eq (a:=Value.none) (by first|rfl|(simp only[firstArgMember];rfl)) (wpAny_newObj_type ?_ (by size_fits)))) (by size_fits));simp only[raiseNew];refine Qb (wpAny_handled ?_);rw[show A.in1.handled=none from hh];refine(Qb (Qd (wpAny_throw ?_)));refine(Qb (wpAny_isInstance (T:="StopIteration") (b:=true) ⟨_,Qu _ rfl,rfl⟩ isSubtype_stop (Qd (hQ _ ?_))));exact((Heap.SameBut.update ..).extBut.push _).push _
theorem BC{Q:Option Value->Shared->Prop}{i:Nat}{P:Addr}{ys:List Nat}{y:Nat}{e:Int×Value}(hI:s.heap.get? I=some (dG (.ref P) i S es.size ep))(hP:s.heap.get? P=some (gy ys))(T:SW w s.heap S o es ep t)(hy:ys[i]?=some y)(he:es[y]?=some e)
  (hQ:∀h',h'.get? I=some (dG (.ref P) (i+1) S es.size ep)->Heap.SameBut I s.heap h'->Q (some e.2) {s with heap:=h'}):wpAny (model prog w) A (pyNext (.ref I)) Q E s:=by
 have hT:=hW hI;unfold pyNext;refine Qb (wpAny_attempt (wpAny_callSpecial?_slot (name:=Str.ofString "__next__") hT fJ (wpAny_call_entry fJ hT lE ?_ (lF _))));unfold Builtin.«set_iterator.__next__»;refine Qb (Qd (Qb (wpAny_fieldsOf hI rfl ?_)));show wpAny _ _ (setEntries S>>=_) _ _ _;refine Qb (wpAny_setEntries_of T.ob T.da T.ft ?_);rw[if_neg (by simp)];show wpAny _ _ (seqItems? (Value.ref P)>>=_) _ _ _;unfold seqItems?;refine Qb (Qb (wpAny_load hP ?_));show wpAny _ _ (pure (some (ys.map λ(i:Nat)=>Value.int (i:Int) 0).toArray)) _ _ _;refine Qd ?_;dsimp only;rw[show((ys.map λ(i:Nat)=>Value.int (i:Int) 0).toArray)[(i:Int).toNat]?=some (Value.int (y:Int) 0) by rw[QU,List.getElem?_toArray,Qj,hy];rfl];dsimp only;unfold setNextDrawn;refine Qb (Qb (wpAny_setState_of T.ob T.da T.ft ?_));dsimp only;simp only[QU];rw[if_neg (by simp)];rw[he];dsimp only;refine Qd ?_;refine Qb (wpAny_setField hI rfl (by simp) ?_);exact Qd ⟨_,rfl,Qd (hQ _ (Heap.get?_update_self _ hI rfl) (Heap.SameBut.update ..))⟩
theorem BD{Q:Option Value->Shared->Prop}{i:Nat}{P:Addr}{ys:List Nat}(hh:A.handled=none)(hI:s.heap.get? I=some (dG (.ref P) i S es.size ep))(hP:s.heap.get? P=some (gy ys))(T:SW w s.heap S o es ep t)(hy:ys[i]?=none)
  (hQ:∀h',Heap.ExtBut I s.heap h'->Q none {s with heap:=h'}):wpAny (model prog w) A (pyNext (.ref I)) Q E s:=by
 have hT:=hW hI;unfold pyNext;refine Qb (wpAny_attempt (wpAny_callSpecial?_slot (name:=Str.ofString "__next__") hT fJ (wpAny_call_entry fJ hT lE ?_ (lF _))));unfold Builtin.«set_iterator.__next__»;refine Qb (Qd (Qb (wpAny_fieldsOf hI rfl ?_)));show wpAny _ _ (setEntries S>>=_) _ _ _;refine Qb (wpAny_setEntries_of T.ob T.da T.ft ?_);rw[if_neg (by simp)];show wpAny _ _ (seqItems? (Value.ref P)>>=_) _ _ _;unfold seqItems?;refine Qb (Qb (wpAny_load hP ?_));show wpAny _ _ (pure (some (ys.map λ(i:Nat)=>Value.int (i:Int) 0).toArray)) _ _ _;refine Qd ?_;dsimp only;rw[show((ys.map λ(i:Nat)=>Value.int (i:Int) 0).toArray)[(i:Int).toNat]?=none by rw[QU,List.getElem?_toArray,Qj,hy];rfl];dsimp only;refine Qb (wpAny_setField hI rfl (by simp) ?_);have h1:(s.heap.update I (Obj.mapFields (·.setIfInBounds 0 (rawInt 0)))).get? I=some (dG (.int 0 0) i S es.size ep):=Heap.get?_update_self _ hI rfl;refine Qb (wpAny_setField (s:={s with heap:=s.heap.update I (Obj.mapFields (·.setIfInBounds 0 (rawInt 0)))}) h1 rfl (by simp) ?_);refine Qb ?_;simp only[newExc,newTuple];refine Qb (wpAny_newObj_type (Qb (m:=firstArgMember _ _) (wpAny_of_eq (a:=Value.none) (by first|rfl|(simp only[firstArgMember];rfl)) (wpAny_newObj_type ?_ (by size_fits)))) (by size_fits));simp only[raiseNew];refine Qb (wpAny_handled ?_);rw[show A.in1.handled=none from hh];refine(Qb (Qd (wpAny_throw ?_)));refine(Qb (wpAny_isInstance (T:="StopIteration") (b:=true) ⟨_,Qu _ rfl,rfl⟩ isSubtype_stop (Qd (hQ _ ?_))));exact(((Heap.SameBut.update ..).trans (Heap.SameBut.update ..)).extBut.push _).push _
end
section
variable {prog:Program}{w:World}{A:Around}{E:Value->Shared->Prop}{s:Shared}
abbrev c8(prog:Program)(w:World)(h:Heap)(z:List af)(b:Addr):Prop:=IsTupleKey (bF prog w) h z b
noncomputable def bq(prog:Program)(w:World)(z:List af):Int:=tupleKeyHash (bF prog w) z
theorem IsTupleKey.at'{h h':Heap}{z:List af}{b:Addr}(x:c8 prog w h z b)(k:∀o,h.get? b=some o->h'.get? b=some o):c8 prog w h' z b:=by obtain⟨o,its,n,h1,h2,h3,h4⟩:=x;exact⟨o,its,n,k o h1,h2,h3,h4⟩
theorem tF{z:List af}{b:Addr}{Q:Bool->Shared->Prop}(hk:c8 prog w s.heap z b)(q:Q false s):wpAny (model prog w) A (ofAClassStatement 8 (.ref b)) Q E s:=by
 have hT:=hk.typeIs;obtain⟨o,items,n,ho,hc,hd,hi⟩:=hk;unfold ofAClassStatement;refine Qb (wpAny_typeOf hT ?_);dsimp only;rw[if_pos (by rfl)];refine Qb (Qd ?_);rw[if_neg (by decide)];refine Qb (wpAny_seqItems ho hd ?_);dsimp only;refine Qb ?_;rw[<-Array.forIn_toList];refine wpAny_forIn_list _ (λET r s'=>r.1=none/\s'=s/\∀v∈ET,carriedByValue v=true) _ ?_ ?_ _ _ ⟨rfl,rfl,hi.byValue⟩
 ·rintro v ET r s' ⟨hr,rfl,Gd⟩;have e:ofAClassStatement 7 v=pure false:=by have:=Gd v QH;cases v<;>first|rfl|cases this
  rw[e];refine Qb (Qd ?_);rw[if_neg (by decide)];exact Qd ⟨rfl,rfl,λu hu'=>Gd u (QA _ hu')⟩
 ·rintro⟨r1,r2⟩ s' ⟨hr,rfl,_⟩;simp only at hr;subst hr;exact Qd q
theorem BE{z:List af}{b:Addr}{Q:Bool->Shared->Prop}(hk:c8 prog w s.heap z b)(stored:List Value)(hs:∀v∈stored,∃y c,v=.ref c/\c8 prog w s.heap y c)(q:Q false s):wpAny (model prog w) A (searchCouldBeSeen (.ref b) stored) Q E s:=by
 unfold searchCouldBeSeen;refine Qb (wpAny_forIn_list _ (λET r s'=>r.1=none/\s'=s/\∀v∈ET,∃y c,v=.ref c/\c8 prog w s.heap y c) _ ?_ ?_ _ _ ⟨rfl,rfl,hs⟩)
 ·rintro v ET r s' ⟨hr,rfl,Gd⟩;obtain⟨y,c,rfl,hy⟩:=Gd v QH;have hrest:=λu hu'=>Gd u (QA _ hu');dsimp only;refine wpAny_ite_split (λ_=>Qd ⟨rfl,rfl,hrest⟩) λ_=>?_;refine Qb (wpAny_eqIsQuiet_tuple hk ?_);rw[if_neg (by decide)];refine Qb (wpAny_eqIsQuiet_tuple hy ?_);rw[if_neg (by decide)];refine Qb (tF hk ?_);rw[if_neg (by decide)];refine Qb (tF hy ?_);rw[if_neg (by decide)];exact Qd ⟨rfl,rfl,hrest⟩
 ·rintro⟨r1,r2⟩ s' ⟨hr,rfl,_⟩;simp only at hr;subst hr;exact Qd q
def hX(z:List af):Prop:=∃x:Str,Sum.inr x∈z
theorem BF{z:List af}{b:Addr}{Q:Bool->Shared->Prop}(hk:c8 prog w s.heap z b)(ht:hX z)(q:Q false s):wpAny (model prog w) A (hashByValue 8 (.ref b)) Q E s:=by
 have hT:=hk.typeIs;obtain⟨o,items,n,ho,hc,hd,hi⟩:=hk;unfold hashByValue;refine Qb (wpAny_specialOf hT PySem.F.slot_tuple_hash.lookup ?_);dsimp only;refine Qb (wpAny_seqItems ho hd ?_);show wpAny _ _ (forIn items _ _>>=_) _ _ _;refine Qb ?_;rw[<-Array.forIn_toList];refine wpAny_forIn_list _ (λET r s'=>r.1=none/\s'=s/\∃left,ItemsAre (bF prog w) left ET/\hX left) _ ?_ ?_ _ _ ⟨rfl,rfl,z,hi,ht⟩
 ·rintro v ET r s' ⟨hr,rfl,left,hl,x,hx⟩
  cases hl with
  | @cons k v ks vs h1 h2 =>
   rcases fk h1 with ⟨i,t,rfl,rfl⟩|⟨y,t,rfl,rfl⟩
   ·refine Qb (Qd ?_);rw[if_neg (by decide)];refine Qd ⟨rfl,rfl,ks,h2,x,?_⟩;rcases Qn hx with e|e
    ·cases e
    ·exact e
   ·refine Qb (Qd ?_);rw[if_pos (by decide)];exact Qd (Qd q)
 ·rintro⟨r1,r2⟩ s' ⟨hr,rfl,left,hl,x,hx⟩;cases hl;cases hx
structure dH(prog:Program)(w:World)(kz:Value->List af)(N:Addr->Prop)(h:Heap)(a:Addr)(zs:List (List af))(led:Bool)(o:Obj)(es:Array (Int×Value))(ep:Nat)(t:SetTable)(L:List (Nat×(Int×Value))):Prop where
 ob:h.get? a=some o
 ex:o.ExactSet
 da:o.data=.set es ep t
 tb:cM t es L
 rc:Reach t.mask L
 mk7:lC t.mask
 fu:L.length*5<t.mask*3
 el:∀p∈L,p.2.1=bq prog w (kz p.2.2)/\∃b,p.2.2=.ref b/\c8 prog w h (kz p.2.2) b/\N b
 pm:(L.map λp=>kz p.2.2).Perm zs
 ld:t.led=led
 pl:L.length=0∨t.plain=false
variable {kz:Value->List af}{N:Addr->Prop}{a:Addr}{zs:List (List af)}{led:Bool}{o:Obj}{es:Array (Int×Value)}{ep:Nat}{t:SetTable}{L:List (Nat×(Int×Value))}
theorem i5{α:Type}{t:SetTable}{es:Array α}{L:List (Nat×α)}(T:cM t es L):t.fits es.size=true:=by unfold SetTable.fits SetTable.fill;have h1:=T.size;have h2:=T.fl;rw[T.du];simp;lia
theorem dH.round(T:dH prog w kz N s.heap a zs led o es ep t L):eI t.mask:=T.mk7.round
theorem dH.ne{h:Heap}(T:dH prog w kz N h a zs led o es ep t L){z:List af}{b:Addr}(hk:c8 prog w h z b):b≠a:=λe=>by obtain⟨o',its,n,h1,h2,h3,_⟩:=hk;rw[e,T.ob] at h1;cases h1;rw[T.da] at h3;cases h3
theorem dH.mem{h:Heap}(T:dH prog w kz N h a zs led o es ep t L){z:List af}:z∈zs↔∃p∈L,kz p.2.2=z:=by rw[<-T.pm.mem_iff,List.mem_map]
noncomputable def i6(es:Array (Int×Value))(i:Nat):Int:=(es[i]?.map (·.1)).getD 0
theorem tI(T:dH prog w kz N s.heap a zs led o es ep t L){x:Value}{z:List af}{b:Addr}(hx:x=.ref b)(hk:c8 prog w s.heap z b)(hu:A.units<cLine){K:Nat}(hK:¬dt L (aO t.mask (bq prog w z) K).j)(hb:∀k,k<K->dt L (aO t.mask (bq prog w z) k).j)(hKb:K<10*SetTable.turns t.mask)
  {Q:SetFound->Shared->Prop} (q1:z∈zs->Q (.there none) s) (q2:z∉zs->Q (.free (aO t.mask (bq prog w z) K).j false) s) :
  ∀fuel k (stand:Option SetTable.Probe),stand.getD (t.probeStart (bq prog w z))=aO t.mask (bq prog w z) k->k<=K->K-k<fuel->(∀k',k'<k->∀q∈L,q.1=(aO t.mask (bq prog w z) k').j->kz q.2.2≠z)->wpAny (model prog w) A (setSearchFrom a x (bq prog w z) true fuel stand) Q E s
 |0,k,stand,_,_,h,_=>absurd h (Nat.not_lt_zero _)
 |fuel+1,k,stand,hst,E6,hf,IE=>by
  unfold setSearchFrom;refine Qb (wpAny_setState_of T.ob T.da (i5 T.tb) ?_);dsimp only;rw[if_neg (show ¬t.gaveWay=true by unfold SetTable.gaveWay;rcases T.mk7 with e|e|e|e|e|e<;>rw[e]<;>decide),hst];have hh:∀(i:Nat) (p:Nat×(Int×Value)),L[i]?=some p->i6 es i=p.2.1:=λi p hp=>by unfold i6;rw[T.tb.entry,hp];rfl
  have F7:=sW T.tb hh hK hb (10*SetTable.turns t.mask) k E6 (by lia);have tail:∀met,SetTable.probe.go t (i6 es) (bq prog w z) (10*SetTable.turns t.mask) (aO t.mask (bq prog w z) k)=some met->t.probe (i6 es) (bq prog w z) (aO t.mask (bq prog w z) k)=some met:=λmet e=>e
  rcases F7 with ⟨k1,i,p,a1,a2,a3,a4,a5,a6,a7⟩|⟨a1,a2⟩
  ·have a3:=tail _ a3;show wpAny _ _ (match t.probe (i6 es) (bq prog w z) (aO t.mask (bq prog w z) k) with|some met=>_|x=>_) _ _ _;rw[a3];dsimp only;have hp:=Qk a4;obtain⟨e1,c,e2,hc,_⟩:=T.el p hp;have HQ:es[i]?=some p.2:=by rw[T.tb.entry,a4];rfl
   have ET:wpAny (model prog w) A (do
     let some (_,y):=es[i]? | unsupported "internal:set-entry"
     let equal <- holding [y] (eqBool y x);let (Iu,_,t') <- setState a
     if true&&equal then return .there none
     let some same:=t'.sameMemory t.moves t.mask|unsupported "set.changed-during-lookup:is-the-new-block-at-the-old-address"
     let still <- match (if same then t'.slot (aO t.mask (bq prog w z) k1).j else .empty) with
      |.live i'=>match Iu[i']? with
       |some (_,y')=>do pure (if <- isSame y' y then some i' else none)
       |none=>pure none
      |_=>pure none
     match still with
     |none=>rule "set.search.anew";setSearchFrom a x (bq prog w z) true fuel none
     |some i'=>if equal then return .there (some i') else setSearchFrom a x (bq prog w z) true fuel (some (aO t.mask (bq prog w z) (k1+1)))) Q E s:=by
    rw[HQ];dsimp only;rw[e2];rw[hx];refine Qb (wpAny_holding (wpAny_eqBool_tuple hu hc hk ?_));refine Qb (wpAny_setState_of T.ob T.da (i5 T.tb) ?_);dsimp only;by_cases hq:kz (.ref c)=z
    ·have IQ:kz p.2.2=z:=by rw[e2];exact hq
     rw[show decide (kz p.2.2=z)=true from Qv IQ,if_pos (by decide)];exact Qd (q1 (T.mem.mpr ⟨p,hp,IQ⟩))
    ·have IQ:kz p.2.2≠z:=by rw[e2];exact hq
     rw[show decide (kz p.2.2=z)=false from Qi IQ,if_neg (by decide)];rw[show t.sameMemory t.moves t.mask=some true by unfold SetTable.sameMemory;simp];dsimp only;rw[if_pos rfl,<-a5,T.tb.live a4];dsimp only;rw[HQ];dsimp only;rw[e2];refine Qb ?_;unfold isSame;dsimp only;rw[if_pos (by simp)];refine Qd (Qb (Qd ?_));rw[if_pos rfl];dsimp only;rw[if_neg (by decide),<-hx];refine tI T hx hk hu hK hb hKb q1 q2 fuel (k1+1) _ rfl (by lia) (by lia) λk' G1 q hqm eq=>?_;by_cases z1:k'<k
     ·exact IE k' z1 q hqm eq
     ·by_cases z2:k'<k1
      ·intro z3;have:=a7 k' (by lia) z2 q hqm eq;exact this (by rw[(T.el q hqm).1,z3])
      ·have z3:k'=k1:=by lia
       subst z3;rw[<-a5] at eq;obtain⟨i',Io⟩:=List.mem_iff_getElem?.mp hqm;have l1:=T.tb.live a4;have l2:=T.tb.live Io;rw[eq,l1] at l2;cases l2;rw[a4] at Io;cases Io;exact IQ
   by_cases hl:t.led=true
   ·rw[if_neg (by rw[hl];decide)];exact ET
   ·rw[if_pos (by simpa using hl)];rw[hx] at ET ⊢;refine Qb (BE hk _ (λv hv=>?_) ?_)
    ·obtain⟨e,he,rfl⟩:=QI hv;have he2:e∈es.toList:=by have:=Array.mem_toList_iff.mp he;exact Array.mem_toList_iff.mpr (Array.mem_filter.mp this).1
     rw[T.tb.el] at he2;obtain⟨q,hq,rfl⟩:=QI he2;obtain⟨_,d,e3,hd,_⟩:=T.el q hq;exact⟨_,d,e3,hd⟩
    ·rw[if_neg (by decide)];exact ET
  ·have a1:=tail _ a1;show wpAny _ _ (match t.probe (i6 es) (bq prog w z) (aO t.mask (bq prog w z) k) with|some met=>_|x=>_) _ _ _;rw[a1];refine Qd (q2 λhz=>?_);obtain⟨p,hp,ep⟩:=T.mem.mp hz;have eh:p.2.1=bq prog w z:=by rw[(T.el p hp).1,ep]
   obtain⟨k0,g1,g2⟩:=T.rc.ahead hK hp eh;by_cases z1:k0<k
   ·exact IE k0 z1 p hp g2.symm ep
   ·exact a2 k0 (by lia) g1 p hp g2.symm eh
end
open Classical in
noncomputable def fe(σ:List (List af))(v:List af):List (List af):=if v∈σ then σ else σ++[v]
section
variable {prog:Program}{w:World}{A:Around}{E:Value->Shared->Prop}{s:Shared}
variable {kz:Value->List af}{N:Addr->Prop}{a:Addr}{zs zs':List (List af)}{led:Bool}{o:Obj}{es Iu:Array (Int×Value)}{ep:Nat}{t t':SetTable}{L L':List (Nat×(Int×Value))}
theorem tJ{h:Heap}{a:Addr}{o:Obj}{es:Array (Int×Value)}{ep:Nat}{t:SetTable}(ob:h.get? a=some o)(da:o.data=.set es ep t)(Iu:Array (Int×Value))(t':SetTable):(h.update a (Obj.putSet Iu t')).get? a=some {o with data:=.set Iu (ep+1) t'}:=by
 have:=Heap.get?_update_self (Obj.putSet Iu t') ob (by rw[putSet_of Iu t' da];rfl);rw[putSet_of Iu t' da] at this;exact this
theorem BG{x:Value}{z:List af}{b:Addr}(hx:x=.ref b)(hkz:kz x=z)(hN:N b)(ht:hX z)(hu:A.units<cLine){Q:Bool->Shared->Prop}(hk:c8 prog w s.heap z b)
  (hS:∃o es ep t L,dH prog w kz N s.heap a zs led o es ep t L) (hroom:zs.length+1<=4900)
  (k:∀r h',Heap.SameBut a s.heap h'->(∃o es ep t L,dH prog w kz N h' a (fe zs z) led o es ep t L)->Q r {s with heap:=h'}):wpAny (model prog w) A (setAddHashed a x (bq prog w z)) Q E s:=by
 obtain⟨o,es,ep,t,L,T⟩:=hS;have hLz:L.length=zs.length:=by have:=T.pm.length_eq;simpa using this
 have EW:b≠a:=T.ne hk;obtain⟨K,hK1,hK2,hK3⟩:=Bu T.round (L:=L) T.tb.fl (bq prog w z);unfold setAddHashed setAddHashedIn;refine wpAny_holding (Qb (wpAny_setState_of T.ob T.da (i5 T.tb) ?_));dsimp only;rw[hx,if_neg (show ¬byScan (.ref b) es=true by unfold byScan;rw[show(Value.ref b).scannable=false from rfl];simp),<-hx];unfold setSearch;refine Qb (tI (k:=0) (fuel:=100000) (stand:=none) T hx hk hu hK2 hK3 (by unfold SetTable.turns;lia) (λhz=>?_) (λhz=>?_) rfl (QC _) ?_ λk' h=>absurd h (Nat.not_lt_zero _))
 ·refine Qd ?_;have e:s={s with heap:=s.heap}:=rfl;rw[e];refine k false s.heap ⟨rfl,λ_ _=>rfl⟩ ⟨o,es,ep,t,L,?_⟩;unfold fe;rw[if_pos hz];exact T
 ·
  refine Qb (wpAny_setState_of T.ob T.da (i5 T.tb) ?_);dsimp only;have hj:(aO t.mask (bq prog w z) K).j<=t.mask:=by have:=(nN t.mask (bq prog w z) K).1;lia
  have hfu:=T.fu;have Fe:L.length+1<=t.mask:=by rcases T.mk7 with e|e|e|e|e|e<;>rw[e] at hfu ⊢<;>lia
  obtain⟨L',T',FM,e1,e2,e3,e4⟩:=T.tb.put (e:=(bq prog w z,x)) (λp hp z=>hK2 ⟨p,hp,z⟩) hj Fe;generalize Gk:t.put (aO t.mask (bq prog w z) K).j=tp at T' e1 e2 e3 e4;obtain⟨t1,p1⟩:=tp;dsimp only at T' e1 e2 e3 e4 ⊢;have hrc:Reach t1.mask L':=by rw[e1];exact T.rc.cons FM hK3
  have EZ:L'.length=L.length+1:=by rw[FM.length_eq];rfl
  have hel:∀p∈L',p.2.1=bq prog w (kz p.2.2)/\∃b,p.2.2=.ref b/\c8 prog w s.heap (kz p.2.2) b/\N b:=λp hp=>by
   rcases Qn (FM.mem_iff.mp hp) with e|hp
   ·rw[e];exact⟨by rw[hkz],b,hx,by rw[hkz];exact hk,hN⟩
   ·exact T.el p hp
  have hpm:(L'.map λp=>kz p.2.2).Perm (fe zs z):=by unfold fe;rw[if_neg hz];refine(FM.map _).trans ?_;rw[List.map_cons];show List.Perm (kz x::_) _;rw[hkz];exact(T.pm.cons z).trans (List.perm_append_singleton z zs).symm
  have main:∀ t2:SetTable,t2.place=t1.place->t2.dummies=t1.dummies->t2.mask=t1.mask->t2.led=led->t2.plain=false->wpAny (model prog w) A (do
    storeSet a (SetTable.insertAt es p1 (bq prog w z,x)) t2
    if !false&&t2.tooFull then setRelay a (SetTable.grown (es.size+1))
    return true) Q E s:=by
   intro t2 f1 f2 f3 f4 f5
   have T2:cM t2 (SetTable.insertAt es p1 (bq prog w z,x)) L':=⟨by rw[f1];exact T'.pl,T'.el,T'.up,by rw[f2];exact T'.du,by rw[f3];exact T'.le,by rw[f3];exact T'.fl⟩
   have Ff:=T2.size.2;refine Qb (wpAny_storeSet_of T.ob T.da ?_ (by rw[Ff,EZ,hLz];exact QT (Qz (m:=5000) (by lia) (by decide))));have ob1:=tJ T.ob T.da (SetTable.insertAt es p1 (bq prog w z,x)) t2;have sb:=Heap.SameBut.update s.heap a (Obj.putSet (SetTable.insertAt es p1 (bq prog w z,x)) t2);generalize s.heap.update a (Obj.putSet (SetTable.insertAt es p1 (bq prog w z,x)) t2)=h1 at ob1 sb;generalize SetTable.insertAt es p1 (bq prog w z,x)=es1 at ob1 T2 Ff;have kp:∀h',Heap.SameBut a s.heap h'->∀p:Nat×(Int×Value),(p.2.1=bq prog w (kz p.2.2)/\∃b,p.2.2=.ref b/\c8 prog w s.heap (kz p.2.2) b/\N b)->(p.2.1=bq prog w (kz p.2.2)/\∃b,p.2.2=.ref b/\c8 prog w h' (kz p.2.2) b/\N b):=λh' sb p hsl75=>by obtain⟨g1,d,g2,g3,g4⟩:=hsl75;exact⟨g1,d,g2,IsTupleKey.at' g3 (λo e=>(sb.2 d (T.ne g3)).trans e),g4⟩
   have tf:t2.tooFull=decide (t.mask*3<=(L.length+1)*5):=by unfold SetTable.tooFull SetTable.fill;rw[f1,f2,f3,T'.du,T'.size.1,EZ,e1];simp
   by_cases hc:t.mask*3<=(L.length+1)*5
   ·rw[tf,if_pos (by simpa using hc)];have hm:L.length+1=5∨L.length+1=19∨L.length+1=77∨L.length+1=307∨L.length+1=1229:=by rcases T.mk7 with e|e|e|e|e|e<;>rw[e] at hfu hc<;>lia
    have HQ:es.size=L.length:=T.tb.size.2
    obtain⟨m,em,hm1,hm2,hm3,hm4⟩:∃m,SetTable.sizeAbove (SetTable.grown (es.size+1))-1=m/\lC m/\L.length+1<=m/\(L.length+1)*5<m*3/\SetTable.sizeAbove (SetTable.grown (es.size+1))<=sizeLine:=by
     rcases hm with e|e|e|e|e<;>rw[HQ,e]
     ·exact⟨31,by decide +kernel,.inr (.inl rfl),by decide,by decide,by decide +kernel⟩
     ·exact⟨127,by decide +kernel,.inr (.inr (.inl rfl)),by decide,by decide,by decide +kernel⟩
     ·exact⟨511,by decide +kernel,.inr (.inr (.inr (.inl rfl))),by decide,by decide,by decide +kernel⟩
     ·exact⟨2047,by decide +kernel,.inr (.inr (.inr (.inr (.inl rfl)))),by decide,by decide,by decide +kernel⟩
     ·exact⟨8191,by decide +kernel,.inr (.inr (.inr (.inr (.inr rfl)))),by decide,by decide,by decide +kernel⟩
    have R:eI m:=hm1.round;unfold setRelay;refine Qb (Qb (wpAny_setState_of (s:={s with heap:=h1}) ob1 rfl (i5 T2) ?_));dsimp only;rw[if_neg (by lia)];unfold SetTable.relaid;rw[em];obtain⟨t3,FU,L3,g1,g2,g3,g4,g5,g6,g7,g8⟩:=Bx (es:=es1) R (finger:=t2.finger) (moves:=t2.movedTo m) (led:=t2.led) (plain:=t2.plain) (by rw[Ff,EZ];exact hm2);rw[g1];have Hw:L3.length=L'.length:=by have:=g3.length_eq;have h2:es1.toList.length=es1.size:=QB;have h3:(L3.map (·.2)).length=L3.length:=Qf _;lia
    have GZ:(FU.filterMap (es1[·]?)).size=es1.size:=by rw[g2.size.2,Hw,Ff]
    refine Qb ?_;show wpAny _ _ (if((FU.filterMap (es1[·]?)).size != es1.size)=true then _ else pure (FU.filterMap (es1[·]?),t3)) _ _ _;rw[if_neg (by simp[GZ])];refine Qd ?_;dsimp only;refine wpAny_storeSet_of (s:={s with heap:=h1}) ob1 rfl ?_ (by rw[GZ,Ff,EZ,hLz];exact QT (Qz (m:=5000) (by lia) (by decide)));have ob2:=tJ ob1 rfl (FU.filterMap (es1[·]?)) t3;have sb2:=sb.trans (Heap.SameBut.update h1 a (Obj.putSet (FU.filterMap (es1[·]?)) t3));refine Qd (k true _ sb2 ⟨_,_,_,t3,L3,ob2,T.ex,rfl,g2,by rw[g5];exact g4,by rw[g5];exact hm1,by rw[g5,Hw,EZ];exact hm3,λp hp=>?_,?_,g6.trans f4,.inr (g7.trans f5)⟩)
    ·refine kp _ sb2 p ?_;have:p.2∈L'.map (·.2):=by rw[<-T2.el];exact g3.mem_iff.mp (List.mem_map_of_mem hp)
     obtain⟨q,hq,eq⟩:=QI this;rw[<-eq];exact hel q hq
    ·refine List.Perm.trans ?_ hpm;rw[show(L3.map λp=>kz p.2.2)=(L3.map (·.2)).map λe=>kz e.2 by rw[QX];rfl,show(L'.map λp=>kz p.2.2)=(L'.map (·.2)).map λe=>kz e.2 by rw[QX];rfl,<-T2.el];exact g3.map _
   ·rw[tf,if_neg (by simpa using hc)];refine Qb (Qd (Qd (k true h1 sb ⟨_,_,_,t2,L',ob1,T.ex,rfl,T2,by rw[f3];exact hrc,by rw[f3,e1];exact T.mk7,by rw[f3,e1,EZ];lia,λp hp=>kp _ sb p (hel p hp),hpm,f4,.inr f5⟩)))
  by_cases Fx:t1.plain=true
  ·rw[if_pos Fx,hx];refine Qb (BF hk ht ?_);rw[if_neg (by decide),<-hx];exact main {t1 with plain:=false} rfl rfl rfl (e3.trans T.ld) rfl
  ·rw[if_neg Fx];refine Qb (Qd ?_);rw[if_pos rfl];exact main t1 rfl rfl rfl (e3.trans T.ld) (by simpa using Fx)
 ·rcases T.mk7 with e|e|e|e|e|e<;>rw[e] at hK1<;>lia
end
noncomputable def dw(val:Nat->List af)(i:Nat):List (List af):=((List.range i).map val).foldl fe []
theorem lG(val:Nat->List af)(i:Nat):dw val (i+1)=fe (dw val i) (val i):=by unfold dw;rw[List.range_succ,QL,List.foldl_append];rfl
theorem BH(σ:List (List af))(v u:List af):u∈fe σ v↔u∈σ∨u=v:=by
 unfold fe;split
 ·rename_i h;exact⟨.inl,λz=>z.elim id λe=>by rw[e];exact h⟩
 ·simp
theorem BI{σ:List (List af)}(h:σ.Nodup)(v:List af):(fe σ v).Nodup:=by
 unfold fe;split
 ·exact h
 ·rename_i hv;rw[List.nodup_append]
  exact ⟨h,by simp,fun a ha b hb e=>hv (by have:b=v:=by simpa using hb
                                           rw[<-this,<-e];exact ha)⟩
theorem tK(val:Nat->List af):∀i,(dw val i).Nodup
 |0=>.nil
 |i+1=>by rw[lG];exact BI (tK val i) _
theorem tL(val:Nat->List af)(u:List af):∀i,u∈dw val i↔∃j,j<i/\val j=u
 |0=>⟨λh=>(nomatch h),λ⟨j,h,_⟩=>absurd h (Nat.not_lt_zero _)⟩
 |i+1=>by
  rw[lG,BH,tL val u i];constructor
  ·rintro (⟨j,h1,h2⟩|rfl)
   ·exact⟨j,by lia,h2⟩
   ·exact⟨i,by lia,rfl⟩
  ·rintro⟨j,h1,h2⟩;by_cases e:j=i
   ·exact .inr (by rw[<-h2,e])
   ·exact .inl ⟨j,by lia,h2⟩
theorem nQ(val:Nat->List af):∀i,(dw val i).length<=i
 |0=>Qh _
 |i+1=>by
  have ih:=nQ val i;rw[lG];unfold fe;split
  ·lia
  ·rw[Qr,List.length_singleton];lia
section
variable {prog:Program}{w:World}{A:Around}{R:Result->Shared->Prop}{I:Addr}{fp wr:List Addr}{G:Array GenState->Array GenState->Prop}{n:Nat}{P:Nat->Value->Prop}{St:Nat->Shared->Prop}{kz:Value->List af}{N:Addr->Prop}
theorem BJ{led:Bool}(W:WalksS prog w A.in1 I fp wr G n P St)(S:Addr)(hSf:S∉fp)(val:Nat->List af)(hu:A.in1.units<cLine)(hb:∀i,i<n->(dw val i).length+1<=4900)(hN:∀b,N b->b∉wr/\b≠S) :
  ∀(k i:Nat) (s:Shared),n-i=k->i<=n->St i s->(∀i v,i<n->P i v->∃b,v=.ref b/\kz v=val i/\hX (val i)/\N b/\c8 prog w s.heap (val i) b)->(∃o es ep t L,dH prog w kz N s.heap S (dw val i) led o es ep t L) ->
   (∀s',Moved (S::wr) G s s'->(∃o es ep t L,dH prog w kz N s'.heap S (dw val n) led o es ep t L)->R (.ok (.ret .none)) s') ->
   codeAny (model prog w) A (.builtin "set.update.loop" ⟨[.ref S,.ref I],[]⟩) R s:=by
 have hSw:S∉wr:=λh=>hSf (W.sub _ h);have HH:∀b∈wr,b∈S::wr:=λb hb=>QA _ hb;have hmv:∀{s s':Shared} {i:Nat},Moved wr G s s'->(∃o es ep t L,dH prog w kz N s.heap S (dw val i) led o es ep t L)->∃o es ep t L,dH prog w kz N s'.heap S (dw val i) led o es ep t L:=λ{s s' i} hm hS=>by obtain⟨o,es,ep,t,L,T⟩:=hS;exact⟨o,es,ep,t,L,hm.heap S _ hSw T.ob,T.ex,T.da,T.tb,T.rc,T.mk7,T.fu,λp hp=>by obtain⟨e,b,e2,hb,hn⟩:=T.el p hp;exact⟨e,b,e2,IsTupleKey.at' hb (λo e=>hm.heap b o (hN b hn).1 e),hn⟩,T.pm,T.ld,T.pl⟩
 intro k
 induction k with
 |zero =>
  intro i s hk hi hst G9 hS hR;have hin:i=n:=by omega
  subst hin;refine codeAny_builtin F.entry_set_update_loop ?_;rw[Around.under_plainId F.plain_set_update_loop _];show wpAny _ A.in1 (pyNext (.ref I)>>=_) _ _ s;refine Qb (W.done s _ _ hst λs' hm=>?_);exact Qd (hR s' (hm.mono HH) (hmv hm hS))
 |succ k ih =>
  intro i s hk hi hst G9 hS hR;have EX:i<n:=by omega
  refine codeAny_builtin F.entry_set_update_loop ?_;rw[Around.under_plainId F.plain_set_update_loop _];show wpAny _ A.in1 (pyNext (.ref I)>>=_) _ _ s;refine Qb (W.item i s _ _ EX hst λv s' hP Gs hm=>?_);have hval':∀i v,i<n->P i v->∃b,v=.ref b/\kz v=val i/\hX (val i)/\N b/\c8 prog w s'.heap (val i) b:=λi v hi hp=>by obtain⟨b,e1,e2,e3,e4,e6⟩:=G9 i v hi hp;exact⟨b,e1,e2,e3,e4,IsTupleKey.at' e6 λo e=>hm.heap b o (hN b e4).1 e⟩
  obtain⟨b,hv,hkz,htx,hbn,GV⟩:=hval' i v EX hP;have HF:=hmv hm hS;show wpAny _ A.in1 (holding [v] (setAdd S v)>>=_) _ _ s';refine Qb (wpAny_holding ?_);unfold setAdd;refine wpAny_holding ?_;refine Qb ?_;rw[hv];refine wpAny_pyHash_tuple hu GV ?_;rw[<-hv];refine BG (s:={s' with toks:=s'.toks+((val i).length+1)}) hv hkz hbn htx hu GV HF (hb i EX) λ_ h' hsb HU=>?_;have hSi:∃o es ep t L,dH prog w kz N h' S (dw val (i+1)) led o es ep t L:=by rw[lG];exact HU
  refine Qd ⟨plainId_quiet F.plain_set_update_loop _,ih (i+1) _ (by omega) EX (W.frame _ s' _ _ Gs (Nat.le_add_right _ _) λb hb o e=>?_) (λi v hi hp=>?_) hSi λs2 hm2 HE=>?_⟩
  ·rw[hsb.2 b (λh:b=S=>hSf (by rw[<-h];exact hb))];exact e
  ·obtain⟨b,e1,e2,e3,e4,e6⟩:=hval' i v hi hp;exact⟨b,e1,e2,e3,e4,IsTupleKey.at' e6 λo e=>(hsb.2 b (hN b e4).2).trans e⟩
  ·refine hR s2 (Moved.trans W.gtrans ((hm.mono HH).then_heap (Nat.le_add_right _ _) λb o hb e=>?_) hm2) HE;rw[hsb.2 b (λh:b=S=>hb (by rw[h];exact QH))];exact e
end
section
variable {prog:Program}{w:World}{A:Around}{E:Value->Shared->Prop}{s:Shared}
open PySem in
theorem BK{kz:Value->List af}{M:Addr->Prop}{l:Addr}{items:Array Value}{val:Nat->List af}{Q:Value->Shared->Prop}(hh:A.handled=none)(hu:A.units+1+1+1<cLine)(hl:s.heap.IsList l items)(G9:∀i v,i<items.size->items[i]?=some v->∃b,v=.ref b/\kz v=val i/\hX (val i)/\c8 prog w s.heap (val i) b/\M b)(hb:∀i,i<items.size->(dw val i).length+1<=4900)
  (h:∀(h':Heap) (tk:Nat),(∃o es ep t L,dH prog w kz (λb=>b<s.heap.objs.size/\M b) h' s.heap.objs.size (dw val items.size) (!dv w) o es ep t L) ->
   (∀b o,b<s.heap.objs.size->s.heap.get? b=some o->h'.get? b=some o)->Q (.ref s.heap.objs.size) {s with heap:=h',toks:=tk}):wpAny (model prog w) A (call (.type "set") [.ref l]) Q E s:=by
 obtain⟨c,tl,hmro⟩:=F.called_set.mro;have hmade:=F.called_set.made;have HH:=F.called_set.sub;refine wpAny_call (codeAny_of_tree ?_);show wpAny _ _ (callAny (.type "set") _) _ _ _;refine Qd ⟨Code.quiet_builtin _ (by decide +kernel),codeAny_builtin F.entry_type_call ?_⟩;rw[Around.under_plain (weight_type_call_type "set" [.ref l] []) rfl];have h1:=F.called_set.notType;have h2:=F.called_set.canCreate;have hct:=F.typeCall_set_1 (.ref l)
 repeat (any_goals (first|assumption|wp_step))
 refine codeAny_mono (By (.ref l) (E:=E) (Q₁:=λobj s1=>∃led:Bool,led=(!dv w)/\obj=.ref s.heap.objs.size/\s1={s with heap:=s.heap.push (newSet led)}) ⟨_,rfl,rfl,rfl⟩) λr s1 hr=>?_
 cases r with
 |error e=>exact hr
 |ok fl =>
  cases fl with
  |ret obj =>
   obtain⟨led,eled,rfl,rfl⟩:=hr;have hS:(s.heap.push (newSet led)).get? s.heap.objs.size=some (newSet led):=Qu _ rfl
   have hT:Shared.TypeIs {s with heap:=s.heap.push (newSet led)} (.ref s.heap.objs.size) "set":=⟨_,hS,rfl⟩
   have hli:=F.called_set.init.lookup;have hbi:=F.called_set.init.bind (.ref s.heap.objs.size)
   repeat (any_goals (first|assumption|wp_step))
   refine codeAny_mono (codeAny_call_builtin (R:=wants (fun r s2=>r=.none/\∃ h' tk,s2={ s with heap:=h',toks:=tk }/\(∃ o es ep t L,dH prog w kz (fun b=>b<s.heap.objs.size/\M b) h' s.heap.objs.size (dw val items.size) (!dv w) o es ep t L) /\
     (∀b o,b<s.heap.objs.size->s.heap.get? b=some o->h'.get? b=some o)) E) F.called_set.init.plain F.entry_set_init (check_set_init_1 hT ?_)) λr2 s2 E3=>?_
   ·obtain⟨ol,hol,IW,nl,GH⟩:=hl;obtain⟨ocls,Jg,odata,HL⟩:=ol;simp only at IW GH;subst IW;subst GH;have hol':(s.heap.push (newSet led)).get? l=some {cls:=.type "list",dict:=Jg,data:=.seq items nl,slots:=HL}:=Qe _ hol;have hsls:=F.sub_list_set;have hslf:=F.sub_list_frozenset;have EW:(Value.type "list" == Value.type "dict")=false:=by decide
    have Fe:(s.heap.push (newSet led)).IsList l items:=⟨_,hol',rfl,nl,rfl⟩
    unfold Builtin.«set.__init__» noKeywords Builtin.Frozenset.updateFrom;generalize hPI:pyIter=PI
    wp_walk
    subst hPI;refine wpAny_pyIter_list Fe (Qb (wpAny_runValue ?_));have hlS:l<s.heap.objs.size:=Qw hol;have hh3:A.in1.in1.in1.handled=none:=by simp[hh]
    have hneI:l≠(s.heap.push (newSet led)).objs.size:=by rw[Heap.size_push];exact QF (Nat.lt_succ_of_lt hlS)
    have hSf:s.heap.objs.size∉[(s.heap.push (newSet led)).objs.size,l]:=by rw[Heap.size_push];simp only[List.mem_cons,List.mem_singleton,List.not_mem_nil,or_false,not_or];exact⟨QF (Nat.lt_succ_self _),Nat.ne_of_gt hlS⟩
    have hu3:A.in1.in1.in1.units<cLine:=by simpa using hu
    refine BJ (kz:=kz) (N:=λb=>b<s.heap.objs.size/\M b) (led:=!dv w) ((Walks.list hh3 _ l hneI items).toS) s.heap.objs.size hSf val hu3 hb (λb hb=>⟨λz=>?_,QF hb.1⟩) (items.size-0) 0 _ (by lia) (QC _) ⟨⟨_,Qu _ rfl,rfl,rfl⟩,(Fe.push _)⟩ (λi v hi hv=>?_) ?hS0 ?hR
    ·have z:=Qp z;have hb:=hb.1;rw[z,Heap.size_push] at hb;exact absurd hb (Nat.not_lt.mpr (Nat.le_succ _))
    ·obtain⟨b,e1,e2,e3,e4,e5⟩:=G9 i v hi hv;have hbl:b<s.heap.objs.size:=by obtain⟨o,_,_,e,_⟩:=e4;exact Qw e
     exact⟨b,e1,e2,e3,⟨hbl,e5⟩,IsTupleKey.at' e4 λo e=>Qe _ (Qe _ e)⟩
    case hS0 =>
     have hget:=Qe {cls:=.type "list_iterator",data:=.fields #[.ref l,.int 0 0]} hS;exact⟨_,#[],0,_,[],hget,⟨rfl,rfl,rfl⟩,rfl,⟨rfl,rfl,.nil,rfl,λp hp=>(nomatch hp),QC _⟩,λp hp=>(nomatch hp),.inl rfl,(by show 0<7*3;decide),λp hp=>(nomatch hp),List.Perm.refl _,eled,.inl rfl⟩
    case hR =>
     intro s' hm Ir;obtain⟨h',g',d',Iz,IL⟩:=s';have eg:g'=s.gens:=hm.gens;have ed:d'=s.drawn:=hm.drawn;have eo:IL=s.os:=hm.os;subst eg;subst ed;subst eo;refine Qd (Qd ⟨rfl,h',Iz,rfl,Ir,λb o hb e=>?_⟩);have GM:b≠s.heap.objs.size:=QF hb;have HS:b≠(s.heap.push (newSet led)).objs.size:=by rw[Heap.size_push];exact QF (Nat.lt_succ_of_lt hb)
     exact hm.heap b o (by simp only[List.mem_cons,List.mem_singleton,List.not_mem_nil,or_false,not_or];exact⟨GM,HS⟩) (Qe _ (Qe _ e))
   ·cases r2 with
    |error e=>exact E3
    |ok fl2 =>
     cases fl2 with
     |ret r =>
      obtain⟨rfl,h',tk,rfl,Ir,G1⟩:=E3
      repeat (any_goals (first|assumption|wp_step))
      exact h _ _ Ir G1
     |_=>exact E3.elim
  |_=>exact hr.elim
end
end L2
namespace L2
open PySem PySem.Spec PyProof.Rows PySem.W
theorem BL:entryFor table "set_iterator.__iter__"=some Builtin.«dict_keyiterator.__iter__» :=
 entryFor_alias (id':="dict_keyiterator.__iter__") (by kernel_rfl) (by first|rfl|decide +kernel|(unfold String.splitOn;simp +decide [String.splitOnAux])) (by decide +kernel) (by kernel_rfl)
theorem BM(a:Value):argsOk "set_iterator.__iter__" ⟨[a],[]⟩:=by
 unfold argsOk
 kernel_rfl
section
variable {prog:Program}{w:World}{A:Around}{E:Value->Shared->Prop}{s:Shared}{S I:Addr}{o:Obj}{es:Array (Int×Value)}{ep:Nat}{t:SetTable}
theorem nR{Q:Value->Shared->Prop}{first:Value}{i n:Nat}(hI:s.heap.get? I=some (dG first i S n ep))(h:Q (.ref I) s):wpAny (model prog w) A (pyIter (.ref I)) Q E s:=by refine wpAny_pyIter_slot (hW hI) tm (wpAny_call_entry tm (hW hI) BL ?_ (BM _));show wpAny _ _ (ret (.ref I)) _ _ s;exact Qd ⟨_,rfl,"set_iterator",_,hW hI,fJ.lookup,h⟩
theorem BN(hh:A.handled=none)(EW:S≠I)(hb:dv w=true):Walks prog w A I [I,S] [I] es.size (λi v=>((pickOrder (w.params.setOrder S ep) es).toList.map (·.2))[i]?=some v) (λi h=>h.get? I=some (dG (.int 0 0) i S es.size ep)/\SW w h S o es ep t) where
 sub:=λb hb=>by simp at hb;simp[hb]
 frame:=λi h h' st k=>⟨k I (by simp) _ st.1,st.2.at λo e=>k S (by simp) o e⟩
 item:=λi s Q E hi st hQ=>by
  have hl:(pickOrder (w.params.setOrder S ep) es).size=es.size:=by simpa using(nP (w.params.setOrder S ep) es).length_eq
  have e:(pickOrder (w.params.setOrder S ep) es)[i]?=some (pickOrder (w.params.setOrder S ep) es)[i]:=Array.getElem?_eq_getElem (by omega);refine tD (nx:=0) (x:=(pickOrder (w.params.setOrder S ep) es)[i].2) st.1 st.2 (λA E Q q=>tw hb st.2 (by rw[e];exact q)) λh' h1 sb=>?_;refine hQ _ h' s.toks ?_ ⟨h1,st.2.at λo e=>(sb.2 S EW).trans e⟩ λb o hb e=>(sb.2 b (by simpa using hb)).trans e;rw[Qj,Array.getElem?_toList,e];rfl
 done:=λs Q E st hQ=>by
  have hl:(pickOrder (w.params.setOrder S ep) es).size=es.size:=by simpa using(nP (w.params.setOrder S ep) es).length_eq
  refine tE hh st.1 st.2 (λA E Q q=>tw hb st.2 (by rw[Array.getElem?_eq_none (by omega)];exact q)) λh' eb=>?_;exact hQ h' s.toks λb o hb e=>eb b o (by simpa using hb) e
 self:=λi s Q E st q=>nR st.1 q
theorem tM{j:Nat}{p:Array Nat}(hp:p=#[j]):SetTable.below p 0=0/\SetTable.below p (j+1)=1:=by
 subst hp;constructor
 ·simp[SetTable.below,SetTable.below.go]
 ·simp[SetTable.below,SetTable.below.go]
theorem BO(hh:A.handled=none)(EW:S≠I)(hb:dv w=false)(hz:es.size<=1):Walks prog w A I [I,S] [I] es.size (λi v=>(es.toList.map (·.2))[i]?=some v) (λi h=>∃slot:Nat,(i=0->slot=0)/\(0<i->∀j:Nat,t.place[0]?=some j->slot=j+1)/\h.get? I=some (dG (.int slot 0) i S es.size ep)/\SW w h S o es ep t) where
 sub:=λb hb=>by simp at hb;simp[hb]
 frame:=λi h h' hsl76 k=>by obtain⟨sl,a,b,c,d⟩:=hsl76;exact⟨sl,a,b,k I (by simp) _ c,d.at λo e=>k S (by simp) o e⟩
 item:=λi s Q E hi ⟨sl,a,b,c,d⟩ hQ=>by
  have Fp:i=0:=by lia
  subst Fp;have hsl:=a rfl;subst hsl;have hf:t.place.size=es.size:=by have:=d.ft;unfold SetTable.fits at this;simp at this;exact this.1
  have hn:es.size=1:=by lia
  obtain⟨j,hj⟩:∃j,t.place=#[j]:=by
   refine⟨t.place[0]'(by lia),?_⟩;refine Array.ext (by simp;lia) λk h1 h2=>?_;have:k=0:=by lia
   subst this;rfl
  have e:es[0]?=some es[0]:=Array.getElem?_eq_getElem (by lia);refine tD (nx:=j+1) (x:=es[0].2) c d (λA E Q q=>tz hb hz d (by rw[(tM hj).1,e,hj];exact q)) λh' h1 sb=>?_;refine hQ _ h' s.toks (by rw[Qj,Array.getElem?_toList,e];rfl) ⟨j+1,λz=>absurd z (by lia),λ_ j' h=>by rw[hj] at h;simp at h;lia,h1,d.at λo e=>(sb.2 S EW).trans e⟩ λb o hb e=>(sb.2 b (by simpa using hb)).trans e
 done:=λs Q E ⟨sl,a,b,c,d⟩ hQ=>by
  have hf:t.place.size=es.size:=by have:=d.ft;unfold SetTable.fits at this;simp at this;exact this.1
  refine tE hh c d (λA E Q q=>tz hb hz d ?_) λh' eb=>hQ h' s.toks λb o hb e=>eb b o (by simpa using hb) e
  have e:es[SetTable.below t.place sl]?=none:=by
   by_cases h0:es.size=0
   ·exact Array.getElem?_eq_none (by lia)
   ·obtain ⟨j,hj⟩:∃ j,t.place=#[j]:=by
     refine⟨t.place[0]'(by lia),?_⟩;refine Array.ext (by simp;lia) λk h1 h2=>?_;have:k=0:=by lia
     subst this;rfl
    rw[b (by lia) j (by rw[hj];rfl),(tM hj).2];exact Array.getElem?_eq_none (by lia)
  rw[e];exact q
 self:=λi s Q E hsl77 q=>by obtain⟨sl,a,b,c,d⟩:=hsl77;exact nR c q
theorem BP(hh:A.handled=none)(EW:S≠I){P:Addr}(hnp:P≠I){ys:List Nat}(hy:ys.Perm (List.range es.size)):Walks prog w A I [I,S,P] [I] es.size (λi v=>(ys.map λy=>(es.toList.map (·.2)).getD y .none)[i]?=some v)
  (λi h=>h.get? I=some (dG (.ref P) i S es.size ep)/\SW w h S o es ep t/\h.get? P=some (gy ys)) where
 sub:=λb hb=>by simp at hb;simp[hb]
 frame:=λi h h' st k=>⟨k I (by simp) _ st.1,st.2.1.at λo e=>k S (by simp) o e,k P (by simp) _ st.2.2⟩
 item:=λi s Q E hi st hQ=>by
  have hl:ys.length=es.size:=by simpa using hy.length_eq
  have e:ys[i]?=some ys[i]:=Qa (by omega);have hm:ys[i]<es.size:=List.mem_range.mp (hy.mem_iff.mp (QQ _));have e2:es[ys[i]]?=some es[ys[i]]:=Array.getElem?_eq_getElem hm;refine BC st.1 st.2.2 st.2.1 e e2 λh' h1 sb=>?_;refine hQ _ h' s.toks ?_ ⟨h1,st.2.1.at λo e=>(sb.2 S EW).trans e,(sb.2 P hnp).trans st.2.2⟩ λb o hb e=>(sb.2 b (by simpa using hb)).trans e;rw[Qj,e];simp[hm]
 done:=λs Q E st hQ=>by
  have hl:ys.length=es.size:=by simpa using hy.length_eq
  refine BD hh st.1 st.2.2 st.2.1 (List.getElem?_eq_none (by omega)) λh' eb=>?_;exact hQ h' s.toks λb o hb e=>eb b o (by simpa using hb) e
 self:=λi s Q E st q=>nR st.1 q
theorem BQ{Q:Value->Shared->Prop}(hh:A.handled=none)(T:SW w s.heap S o es ep t)(hn:es.size<=5000)
  (k:∀(I:Addr) (fp:List Addr) (h':Heap) (d':Drawn) (vs:List Value) (St:Nat->Heap->Prop),vs.Perm (es.toList.map (·.2))->s.heap.objs.size<=I->(∀b∈fp,b=S∨s.heap.objs.size<=b)->(∀b u,s.heap.get? b=some u->h'.get? b=some u) ->
   Walks prog w A I fp [I] es.size (λi v=>vs[i]?=some v) St->St 0 h'->Q (.ref I) {s with heap:=h',drawn:=d'}):wpAny (model prog w) A (pyIter (.ref S)) Q E s:=by
 have hS:=Qw T.ob;refine BB T hn (λhc=>?_) λhb hz ys d' hy=>?_
 ·have EW:S≠s.heap.objs.size:=QF hS
  have fp:∀b∈[s.heap.objs.size,S],b=S∨s.heap.objs.size<=b:=λb hb=>by
   rcases (show b=s.heap.objs.size∨b=S by simpa using hb) with z|z
   ·exact .inr (Nat.le_of_eq z.symm)
   ·exact .inl z
  by_cases hb:dv w=true
  ·exact k _ _ _ s.drawn _ _ ((nP (w.params.setOrder S ep) es).map _) (Qh _) fp (λb u e=>Qe _ e) (BN (o:=o) (t:=t) hh EW hb) ⟨Qu _ rfl,T.at λo e=>Qe _ e⟩
  ·have HB:dv w=false:=by simpa using hb
   have hz:es.size<=1:=hc.resolve_left hb;exact k _ _ _ s.drawn _ _ (.refl _) (Qh _) fp (λb u e=>Qe _ e) (BO (o:=o) (t:=t) hh EW HB hz) ⟨0,λ_=>rfl,λz=>absurd z (by lia),Qu _ rfl,T.at λo e=>Qe _ e⟩
 ·have hsz:(s.heap.push (gy ys)).objs.size=s.heap.objs.size+1:=Heap.size_push _ _;refine k _ [(s.heap.push (gy ys)).objs.size,S,s.heap.objs.size] _ d' (ys.map λy=>(es.toList.map (·.2)).getD y .none) _ ?_ (by rw[hsz];exact Nat.le_succ _) (λb hb=>?_) (λb u e=>Qe _ (Qe _ e)) (BP (o:=o) (t:=t) (P:=s.heap.objs.size) hh (λz=>by rw[hsz] at z;rw[z] at hS;exact absurd hS (Nat.not_lt.mpr (Nat.le_succ _))) (λz=>by rw[hsz] at z;exact absurd z (QF (Nat.lt_succ_self _))) hy) ⟨Qu _ rfl,T.at λo e=>Qe _ (Qe _ e),Qe _ (Qu _ rfl)⟩
  ·refine(hy.map _).trans ?_;have:=jW Value.none (es.toList.map (·.2));rw[Qf,QB] at this;rw[this]
  ·rcases (show b=(s.heap.push (gy ys)).objs.size∨b=S∨b=s.heap.objs.size by simpa using hb) with z|z|z
   ·exact .inr (by rw[z,hsz];exact Nat.le_succ _)
   ·exact .inl z
   ·exact .inr (Nat.le_of_eq z.symm)
theorem BR{Q:Bool->Shared->Prop}(hT:s.TypeIs (.ref S) "set")(h:Q false s):wpAny (model prog w) A (Builtin.List.listLengthHint (.ref S)) Q E s:=by
 unfold Builtin.List.listLengthHint;refine Qb (wpAny_specialOf hT PySem.F.slot_set_len.lookup ?_);generalize Ho:("set.__len__":String)=id0
 wp_delta
 rw[show splitId id0=some ("set","__len__") from by subst Ho;decide +kernel];subst Ho;refine Qb (wpAny_isInstance (T:="set") (b:=true) hT (by rw[isSubtype_type];kernel_rfl) ?_);refine wpAny_ite_split (λHr=>absurd Hr (by decide)) (λ_=>?_);refine wpAny_ite_split (λ_=>?_) (λHr=>absurd (by decide +kernel) Hr);refine Qb (wpAny_typeOf hT ?_);exact Qd h
theorem BS{R:Result->Shared->Prop}(hh:A.handled=none)(T:SW w s.heap S o es ep t)(hn:es.size<=5000)(L:Addr)(hLS:L≠S)(res:Value)(c₀:Nat)(hL:s.heap.get? L=some {cls:=.type "list",data:=.seq #[] c₀})
  (hR:∀h' tk d' (vs:List Value) c',(∀b u,b≠L->s.heap.get? b=some u->h'.get? b=some u)->h'.get? L=some {cls:=.type "list",dict:=none,data:=.seq vs.toArray c',slots:=#[]}->vs.Perm (es.toList.map (·.2))->R (.ok (.ret res)) {s with heap:=h',toks:=tk,drawn:=d'}) :
  wpAny (model prog w) A.in1 (Builtin.List.listExtendWith (.ref L) (.ref S) res)
   (λfin s'=>match fin with|.done f=>R (.ok f) s' | .again c'=>c'.quiet=true/\codeAny (model prog w) A c' R s') (λe s'=>R (.error e) s') s:=by
 unfold Builtin.List.listExtendWith;refine Qb (wpAny_typeOf (T:="set") T.typeIs ?_);have h1:Builtin.List.listSameRef (.ref L) (.ref S)=false:=by simp[Builtin.List.listSameRef,hLS]
 have h2:(Value.type "set" == Value.type "list")=false:=by decide
 have h3:(Value.type "set" == Value.type "tuple")=false:=by decide
 simp only[h1,h2,h3,Bool.or_false,QR,if_false];refine Qb (BQ (A:=A.in1) hh T hn λI fp h1 d' vs St hp hI hfp k W st=>?_);have hLl:=Qw hL
 have hLf:L∉fp:=λhm=>by
  rcases hfp L hm with z|z
  ·exact hLS z
  ·exact absurd hLl (Nat.not_lt.mpr z)
 refine Qb (wpAny_holding (BR ⟨o,k _ _ T.ob,T.ex.1⟩ ?_))
 have key:∀ (h:Heap) (c₁:Nat),St 0 h->(∀ b u,b≠L->s.heap.get? b=some u->h.get? b=some u)->h.get? L=some { cls:=.type "list",data:=.seq #[] c₁ } ->
   codeAny (model prog w) A (.builtin "list.extend.loop" ⟨[.ref L,.ref I,res],[]⟩) R {s with heap:=h,drawn:=d'}:=by
  intro h c₁ st k hL1;refine codeAny_extend_loopS W.toS (QT (Qz (m:=5000) hn (by decide))) L hLf res es.size 0 _ #[] c₁ rfl (QC _) st hL1 (ItemsOf.nil _) λs' acc' c' hm Ir HJ=>?_;rw[Moved.eq_with hm];have hlv:vs.length=es.size:=by simpa using hp.length_eq
  have ea:acc'=vs.toArray:=by
   refine Array.ext_getElem? λi=>?_;by_cases hi:i<es.size
   ·have h1:acc'[i]?=some (acc'[i]'(by rw[HJ.1];exact hi)):=Array.getElem?_eq_getElem _;rw[h1,List.getElem?_toArray,HJ.2 i _ h1]
   ·rw[Array.getElem?_eq_none (by rw[HJ.1];lia),Array.getElem?_eq_none (by simp;lia)]
  subst ea;refine hR s'.heap s'.toks d' vs c' (λb u hb e=>hm.heap b u (λFc=>?_) (k b u hb e)) Ir hp;rcases Qn Fc with e' | Fc
  ·exact hb e'
  ·have:=Qw e;rw[Qp Fc] at this;exact absurd this (Nat.not_lt.mpr hI)
 have hL1:=k _ _ hL;refine wpAny_ite_split (λ_=>?_) (λ_=>Qd ⟨plainId_quiet PySem.F.plain_extend_loop _,key _ c₀ st (λb u _ e=>k b u e) hL1⟩);refine Qb (wpAny_rule ?_);refine Qb ?_;show wpAny _ _ (updateSeq L (·.push .none)>>=λ_=>updateSeq L (·.pop)) _ _ _;refine Qb (wpAny_updateSeq hL1 rfl ?_);have hL2:=Heap.get?_update_self (Obj.mapSeq (·.push Value.none)) hL1 rfl;refine wpAny_updateSeq (hz:=by seq_fits) hL2 rfl ?_;have hL3:=Heap.get?_update_self (Obj.mapSeq (·.pop)) hL2 rfl;refine Qd ⟨plainId_quiet PySem.F.plain_extend_loop _,key _ _ ?_ (λb u hb e=>?_) hL3⟩
 ·refine W.frame 0 _ _ st λb hb u e=>?_;have hbS:b≠L:=λh=>hLf (h ▸ hb);exact(Heap.get?_update_other _ _ (Ne.symm hbS)).trans ((Heap.get?_update_other _ _ (Ne.symm hbS)).trans e)
 ·exact(Heap.get?_update_other _ _ (Ne.symm hb)).trans ((Heap.get?_update_other _ _ (Ne.symm hb)).trans (k b u e))
theorem BU{R:List Value->Shared->Prop}(hh:A.handled=none)(T:SW w s.heap S o es ep t)(hn:es.size<=5000)
  (h:∀h' tk d' (vs:List Value),(∀b u,s.heap.get? b=some u->h'.get? b=some u)->vs.Perm (es.toList.map (·.2))->R vs {s with heap:=h',toks:=tk,drawn:=d'}) :
  wpAny (model prog w) A (collect (.ref S)) R E s:=by
 have EX:=Qw T.ob;unfold collect;refine Qb (wpAny_runValue (codeAny_builtin entry_proto_collect' ?_));rw[Around.under_plainId PySem.F.plain_proto_collect _];show wpAny _ A.in1 (newList []>>=λl=>again (.builtin "list.__iadd__" ⟨[l,.ref S],[]⟩)) _ _ s;refine Qb (wpAny_newObj_type ?_);refine Qd ⟨plainId_quiet PySem.F.plain_list_iadd _,codeAny_builtin entry_list_iadd' ?_⟩;rw[Around.under_plainId PySem.F.plain_list_iadd _];have hS₁:(s.heap.push {cls:=.type "list",data:=.seq ([]:List Value).toArray}).get? s.heap.objs.size=some {cls:=.type "list",data:=.seq #[]}:=Qu _ rfl;show wpAny _ A.in1 (Builtin.List.listExtendWith (.ref s.heap.objs.size) (.ref S) (.ref s.heap.objs.size)) _ _ _
 have key:=BS (prog:=prog) (A:=A) (s:={s with heap:=s.heap.push {cls:=.type "list",data:=.seq ([]:List Value).toArray} })
  (R:=λ(q:Result) (s':Shared)=>∃(h':Heap) (tk:Nat) (d':Drawn) (vs:List Value) (c':Nat),q=.ok (.ret (.ref s.heap.objs.size))/\s'={s with heap:=h',toks:=tk,drawn:=d'} /\
   (∀b o,s.heap.get? b=some o->h'.get? b=some o)/\h'.get? s.heap.objs.size=some {cls:=.type "list",dict:=none,data:=.seq vs.toArray c',slots:=#[]}/\vs.Perm (es.toList.map (·.2)))
  hh (T.at λo e=>Qe _ e) hn s.heap.objs.size (Nat.ne_of_gt EX) (.ref s.heap.objs.size) 0 hS₁
  (λh' tk d' vs c' hk Ir hp=>⟨h',tk,d',vs,c',rfl,rfl,λb o e=>hk b o (QF (Qw e)) (Qe _ e),Ir,hp⟩)
 refine QW key (λfin s' x=>?_) λe s' x=>?_
 ·cases fin with
  |done f =>
   obtain⟨h',tk,d',vs,c',e,rfl,hk,Ir,hp⟩:=x;cases e;show wpAny _ A (load s.heap.objs.size>>=_) _ _ _;refine Qb (wpAny_load Ir ?_);exact Qd (h h' tk d' vs hk hp)
  |again c₁ =>
   refine⟨x.1,codeAny_mono x.2 λq s₂ y=>?_⟩;obtain⟨h',tk,d',vs,c',rfl,rfl,hk,Ir,hp⟩:=y;show wpAny _ A (load s.heap.objs.size>>=_) _ _ _;refine Qb (wpAny_load Ir ?_);exact Qd (h h' tk d' vs hk hp)
 ·obtain⟨_,_,_,_,_,e',_⟩:=x;cases e'
end
noncomputable def eJ(bs:List Addr)(ds:List (List af)):Value->List af
 |.ref b=>((bs.zip ds).lookup b).getD []
 |_=>[]
noncomputable def f7(ds:List (List af))(i:Nat):List af:=ds.getD i []
noncomputable def lH(w:World)(q:Addr)(bs:List Addr)(ds:List (List af)):HO:=.ext λh=>∃o es ep t,SW w h q o es ep t/\(∀e∈es.toList,∃b∈bs,e.2=.ref b)/\(es.toList.map λe=>eJ bs ds e.2).Perm (dw (f7 ds) ds.length)
theorem nS{H:Hp}:∀{bs:List Addr} {ds:List (List af)},aY H (bs.map V.ref) ds->∀(i:Nat) (b:Addr) (d:List af),bs[i]?=some b->ds[i]?=some d->(bs.zip ds).lookup b=some d
 | [],_,_,i,b,d,h,_=>by simp at h
 |c::bs,[],_,i,b,d,_,h=>by simp at h
 |c::bs,e::ds,T,i,b,d,h1,h2=>by
  show(match b==c with|true=>some e|false=>(bs.zip ds).lookup b)=some d
  have T':aY H (bs.map V.ref) ds:=⟨by have:=T.1;simpa using this,λi x k hx hk=>T.2 (i+1) x k hx hk⟩
  by_cases hc:b=c
  ·subst hc;simp only[BEq.rfl];obtain⟨t0,g0,g1⟩:=T.2 0 (.ref b) e rfl rfl;cases g0;obtain⟨t1,g2,g3⟩:=T.2 i (.ref b) d (by rw[Qj,h1];rfl) h2;cases g2;rw[g1] at g3;injection g3 with g3;injection g3 with g3;rw[q5 g3]
  ·rw[show(b==c)=false from beq_eq_false_iff_ne.mpr hc]
   cases i with
   |zero=>simp at h1;exact absurd h1.symm hc
   |succ i=>exact nS T' i b d (by simpa using h1) (by simpa using h2)
section
variable {X:Cx}
theorem BV{X:Cx}{EQ:List (Addr×Obj)}{σ:St}{H:Hp}{s:Shared}(I:Inv X EQ σ H s){t:Addr}{d:List af}(h:H t=some (.tup (d.map kV))):c8 X.prog X.w s.heap d t:=by
 obtain⟨o,vs,n,ho,hc,hd,rv⟩:=iV I h;refine⟨o,vs.toArray,n,ho,hc,hd,?_⟩
 have go:∀{d:List af} {vs:List Value},aw (d.map kV) vs->ItemsAre (bF X.prog X.w) d vs:=by
  intro d
  induction d with
  |nil=>intro vs r;cases r;exact .nil
  |cons k d ih =>
   intro vs r
   cases r with
   |cons r1 r2 =>
    refine .cons ?_ (ih r2)
    cases k with
    |inl i=>obtain⟨t,rfl⟩:=(show ∃t,_=Value.int i t from r1);exact pP ..
    |inr x=>obtain⟨t,rfl⟩:=(show ∃t,_=Value.str x t from r1);exact pQ ..
 exact go (by simpa using rv)
theorem tN:∀{bs:List Addr} {vs:List Value},aw (bs.map V.ref) vs->vs=bs.map Value.ref
 | [],vs,h=>by cases h;rfl
 |b::bs,vs,h=>by
  cases h with
  |cons r1 r2 =>
   have:_=Value.ref b:=r1;rw[this,tN r2];rfl
theorem tO:∀(bs:List Addr),aw (bs.map V.ref) (bs.map Value.ref)
 | []=>.nil
 |b::bs=>.cons rfl (tO bs)
theorem BW{K:PySem.W.Frag}(hK:X.K=K)(hc:X.calm=true)(hu:X.A.units+1+1+1<cLine):dA X (.type "set") (λas H Q=>∃(p:Addr) (bs:List Addr) (ds:List (List af)),as=[.ref p]/\ak K H p (bs.map V.ref)/\aY H (bs.map V.ref) ds/\(∀d∈ds,hX d)/\bs.length<=4800/\∀q,H q=none->Q (.ref q) (upd H q (lH X.w q bs ds))):=by
 intro EQ s σ H as us Q I r h;subst hK;obtain⟨p,bs,ds,rfl,hq,ht,htx,hl,q⟩:=h;obtain⟨u,rfl,ru⟩:=vals1 r;cases (show u=Value.ref p from ru);obtain⟨its,rv,pl,hz⟩:=I.list hq;have eits:=tN rv;subst eits;have hbd:bs.length=ds.length:=by have:=ht.1;simpa using this
 have hsz:(bs.map Value.ref).toArray.size=bs.length:=by simp
 refine BK (kz:=eJ bs ds) (M:=λb=>b∈bs) (val:=f7 ds) (I.ok.hd hc) hu pl.isList (λi v hi hv=>?_) (λi hi=>?_) λh' tk hS hk=>?_
 ·rw[hsz] at hi;have hb:=Qa hi;have hd:=Qa (show i<ds.length by omega);have ev:v=.ref bs[i]:=by rw[List.getElem?_toArray,Qj,hb] at hv;exact(Qo hv).symm
  have ed:f7 ds i=ds[i]:=by unfold f7;rw[Qg,hd];rfl
  refine⟨bs[i],ev,?_,?_,?_⟩
  ·rw[ev,ed];unfold eJ;dsimp only;rw[nS ht i _ _ hb hd];rfl
  ·rw[ed];exact htx _ (QQ _)
  ·rw[ed];obtain⟨t,e1,e2⟩:=ht.2 i (.ref bs[i]) ds[i] (by rw[Qj,hb];rfl) hd;cases e1;exact⟨BV I e2,QQ _⟩
 ·rw[hsz] at hi;have:=nQ (f7 ds) i;omega
 ·rw[hsz,hbd] at hS;have k2:∀b u,s.heap.get? b=some u->h'.get? b=some u:=λb u e=>hk b u (Qw e) e;obtain⟨o,es,ep,t,L,T⟩:=hS;have HQ:=T.tb.size.2
  have sw:SW X.w h' s.heap.objs.size o es ep t:=⟨T.ob,T.ex,T.da,i5 T.tb,T.ld,T.pl.imp (λz=>by rw[HQ];exact z) id⟩
  refine⟨.ref s.heap.objs.size,_,I.laid (t':=tk) (o:=lH X.w s.heap.objs.size bs ds) k2 (Qh _) ⟨⟨o,es,ep,t,sw,λe he=>?_,?_⟩,⟨o,T.ob⟩,λh1 h2 hsl78 kk=>by obtain⟨o,es,ep,t,S,a,b⟩:=hsl78;exact⟨o,es,ep,t,S.at kk,a,b⟩⟩,rfl,q _ I.fresh⟩
  ·rw[T.tb.el] at he;obtain⟨p,hp,rfl⟩:=QI he;obtain⟨_,b,e2,_,_,hb⟩:=T.el p hp;exact⟨b,hb,e2⟩
  ·rw[T.tb.el,QX];exact T.pm
theorem BX(hc:X.calm=true):dA X (.builtin "sorted") (λas H Q=>∃(q0:Addr) (bs:List Addr) (ds:List (List af)) (sh:List Bool),as=[.ref q0]/\H q0=some (lH X.w q0 bs ds)/\aY H (bs.map V.ref) ds/\(∀d∈ds,d.map cv=sh)/\sh≠[]/\bs.length<=4800 /\
  ∀(p:Addr) (cs:List Addr) (es:List (List af)),H p=none->aY H (cs.map V.ref) es->es.Pairwise (λx y=>bT x y=true)->(∀d,d∈es↔d∈ds)->Q (.ref p) (upd H p (.lst (cs.map V.ref)))):=by
 intro EQ s σ H as us Q I r h;obtain⟨q0,bs,ds,sh,rfl,IC,ht,FC,EW,h64,q⟩:=h;obtain⟨u,rfl,ru⟩:=vals1 r;cases (show u=Value.ref q0 from ru);obtain⟨⟨o,es,ep,t,S,hin,hpm⟩,_,_⟩:=I.hok q0 _ IC;have hbd:bs.length=ds.length:=by have:=ht.1;simpa using this
 have hml:=nQ (f7 ds) ds.length;have hel:es.size<=5000:=by have:=hpm.length_eq;simp at this;lia
 refine Calls.call_function_entry kind_sorted plain_sorted entry_sorted (args_sorted1 _) ?_;unfold Builtin.«sorted»;refine Qb (m:=checkCount "sorted" 1 1 _) (Qd ?_);refine Qb (BU (I.ok.hd hc) S hel λh1 tk d' vs hk hp=>?_);have I1:Inv X EQ σ H {s with heap:=h1,toks:=tk,drawn:=d'}:=let J:=I.kept (t':=tk) hk;⟨J.ok,J.os,J.bare,J.base,J.loc,J.cell,J.free,J.freeC,J.pin,J.hok,J.len⟩
 obtain⟨Fh,ebs,hbs'⟩:∃Fh:List Addr,vs=Fh.map Value.ref/\∀b∈Fh,b∈bs:=by
  have hv:∀v∈vs,∃b∈bs,v=.ref b:=λv hv=>by obtain⟨e,he,rfl⟩:=QI (hp.mem_iff.mp hv);exact hin e he
  have go:∀vs:List Value,(∀v∈vs,∃b∈bs,v=.ref b)->∃Fh:List Addr,vs=Fh.map Value.ref/\∀b∈Fh,b∈bs:=by
   intro vs
   induction vs with
   |nil=>intro _;exact⟨[],rfl,λb hb=>(nomatch hb)⟩
   |cons v vs ih =>
    intro h;obtain⟨b,hb,rfl⟩:=h v QH;obtain⟨Fh,e,Gd⟩:=ih λu hu=>h u (QA _ hu);exact⟨b::Fh,by rw[e];rfl,λc hc=>(Qn hc).elim (λz=>by rw[z];exact hb) (Gd c)⟩
  exact go vs hv
 have hkey:∀b∈bs,∃d∈ds,eJ bs ds (.ref b)=d/\H b=some (.tup (d.map kV)):=λb hb=>by obtain⟨i,hi⟩:=List.mem_iff_getElem?.mp hb;have Fm:=(Qc hi).1;have hd:=Qa (show i<ds.length by lia);obtain⟨t,e1,e2⟩:=ht.2 i (.ref b) ds[i] (by rw[Qj,hi];rfl) hd;cases e1;refine⟨ds[i],QQ _,?_,e2⟩;unfold eJ;dsimp only;rw[nS ht i _ _ hi hd];rfl
 have edp:(Fh.map λb=>eJ bs ds (.ref b)).Perm (dw (f7 ds) ds.length):=by have h2:(vs.map (eJ bs ds)).Perm ((es.toList.map (·.2)).map (eJ bs ds)):=hp.map _;rw[ebs,QX,QX] at h2;exact h2.trans hpm
 have Fc:∀d,d∈(Fh.map λb=>eJ bs ds (.ref b))↔d∈ds:=λd=>by
  rw[edp.mem_iff,tL];constructor
  ·rintro⟨j,hj,rfl⟩;unfold f7;rw[Qg,Qa hj];exact QQ hj
  ·intro hd;obtain⟨j,hj,rfl⟩:=List.mem_iff_getElem.mp hd;exact⟨j,hj,by unfold f7;rw[Qg,Qa hj];rfl⟩
 have ndp:(Fh.map λb=>eJ bs ds (.ref b)).Nodup:=edp.nodup_iff.mpr (tK _ _)
 have Ii:aY H (Fh.map V.ref) (Fh.map λb=>eJ bs ds (.ref b)):=⟨by simp,λi x k hx hk=>by
  rw[Qj] at hx hk;obtain⟨b,hb,rfl⟩:=Option.map_eq_some_iff.mp hx;rw[hb] at hk;obtain⟨d,_,e1,e2⟩:=hkey b (hbs' b (Qk hb));have:eJ bs ds (.ref b)=k:=Qo hk
  exact⟨b,rfl,by rw[<-this,e1];exact e2⟩⟩
 have hl':Fh.length<=4800:=by have:=edp.length_eq;rw[Qf] at this;lia
 generalize hds':(Fh.map λb=>eJ bs ds (.ref b))=E8 at edp Fc ndp Ii;have GH:Fh.length=E8.length:=by rw[<-hds'];simp
 have hsh':∀d∈E8,d.map cv=sh:=λd hd=>FC d ((Fc d).mp hd);obtain⟨u1,u2,u3⟩:=sf hsh' ndp;subst ebs;have rv:aw (Fh.map V.ref) (Fh.map Value.ref):=tO Fh;have hz:(Fh.map Value.ref).length<=sizeLine:=by rw[Qf];exact QT (Qz (m:=5000) (by lia) (by decide))
 refine Qb (wpAny_newList (s:={s with heap:=h1,toks:=tk,drawn:=d'}) ?_ hz);have Hm:(h1.push (seqObj "list" (Fh.map Value.ref).toArray 0)).get? h1.objs.size=some (seqObj "list" (Fh.map Value.ref).toArray 0):=Qu _ rfl;have I2:Inv X EQ σ H {s with heap:=h1.push (seqObj "list" (Fh.map Value.ref).toArray 0),toks:=tk,drawn:=d'}:=I1.kept (t':=tk) λb o e=>Qe _ e;have fL:cR X EQ H h1.objs.size:=I1.fpOk (Qh _) (I1.hok.fresh (Qh _));change wpAny _ _ _ _ _ {s with heap:=h1.push (seqObj "list" (Fh.map Value.ref).toArray 0),toks:=tk,drawn:=d'};dsimp only;generalize h1.push (seqObj "list" (Fh.map Value.ref).toArray 0)=h2 at Hm I2;generalize h1.objs.size=LL at Hm fL;refine Qb (wpAny_holding (wpAny_call_entry (s:={s with heap:=h2,toks:=tk,drawn:=d'}) slot_list_sort ⟨_,Hm,rfl⟩ entry_list_sort (rZ I2 fL Hm rv (by rw[Qf];exact QT (Qz (m:=5000) (by lia) (by decide))) Ii hsh' EW λs' out n' I' hoa FO vy=>⟨_,rfl,?_⟩) (args_list_sort _)))
 have esr:cb E8 (Fh.map V.ref)=((cw E8).map λi=>Fh.getD i 0).map V.ref:=by
  unfold cb;rw[QX];refine QZ λi hi=>?_;have Gp:i<Fh.length:=by rw[GH];exact u2 i hi
  show(Fh.map V.ref).getD i .non=V.ref (Fh.getD i 0);rw[Qg,Qg,Qj,Qa Gp];rfl
 have hmE:∀d,d∈((cw E8).map λi=>E8.getD i [])↔d∈ds:=λd=>by
  rw[<-Fc d,List.mem_map];constructor
  ·rintro⟨i,hi,rfl⟩;rw[Qg,Qa (u2 i hi)];exact QQ _
  ·intro hd;obtain⟨j,hj,rfl⟩:=List.mem_iff_getElem.mp hd;exact⟨j,u3 j hj,by rw[Qg,Qa hj];rfl⟩
 have htE:aY H (((cw E8).map λi=>Fh.getD i 0).map V.ref) ((cw E8).map λi=>E8.getD i []):=⟨by simp,λi x k hx hk=>by
  rw[Qj,Qj] at hx;rw[Qj] at hk
  cases hj:(cw E8)[i]? with
  |none=>rw[hj] at hk;cases hk
  |some j =>
   rw[hj] at hx hk;have hjl:=u2 j (Qk hj);have e1:=Qa (show j<Fh.length by lia);have e2:=Qa hjl;have ex:V.ref Fh[j]=x:=by have:=Qo hx;rw[<-this];show V.ref Fh[j]=V.ref (Fh.getD j 0);rw[Qg,e1];rfl
   have ek:E8[j]=k:=by have:=Qo hk;rw[<-this];show E8[j]=E8.getD j [];rw[Qg,e2];rfl
   exact Ii.2 j x k (by rw[Qj,e1,<-ex];rfl) (by rw[e2,ek])⟩
 rw[esr] at vy;refine Qd ⟨_,rfl,.ref LL,upd H LL (.lst (((cw E8).map λi=>Fh.getD i 0).map V.ref)),I'.adopt fL ?_,rfl,q LL _ _ fL.1 htE u1 hmE⟩;have FF:(((cw E8).map λi=>Fh.getD i 0).map V.ref).length<=sizeLine:=by rw[vy.length,QB];exact FO
 exact⟨FF,out.toList,n',vy,by simpa using hoa⟩
end
end L2
namespace L2
open PySem PySem.Spec PyProof.Rows
section
variable {X:Cx}
theorem BY{A:Around}{s:Shared}{d:List af}{vs us:List Value}(r:aw (d.map kV) vs)(r2:aw (d.map kV) us)(j:Nat)(h1:j<vs.toArray.size)(h2:j<us.toArray.size):SeqAt.EqAt A s vs.toArray[j] us.toArray[j] true:=by
 have h1:j<vs.length:=by simpa using h1
 have h2:j<us.length:=by simpa using h2
 have hl:=r.length;rw[Qf] at hl;have hj:j<d.length:=by lia
 have e:(d.map kV)[j]?=some (kV d[j]):=by rw[Qj,Qa hj];rfl
 obtain⟨u,e1,g1⟩:=r.get e;obtain⟨v,e2,g2⟩:=r2.get e;rw[Qa h1] at e1;rw[Qa h2] at e2;rw[List.getElem_toArray,List.getElem_toArray,Qo e1,Qo e2]
 cases hd:d[j] with
 |inl i =>
  rw[hd] at g1 g2
  obtain⟨t,rfl⟩:=(show ∃t,_=Value.int i t from g1)
  obtain⟨t2,rfl⟩:=(show ∃t,_=Value.int i t from g2)
  have:=SeqAt.EqAt.int_int (A:=A) (s:=s) i t i t2;rwa [beq_self_eq_true] at this
 |inr z =>
  rw[hd] at g1 g2
  obtain⟨t,rfl⟩:=(show ∃t,_=Value.str z t from g1)
  obtain⟨t2,rfl⟩:=(show ∃t,_=Value.str z t from g2)
  have:=SeqAt.EqAt.str_str (A:=A) (s:=s) z t z t2;rwa [beq_self_eq_true] at this
theorem BZ(hu:X.A.units+64<cLine):bR X (compareOp .Eq) (λx y H Q=>∃(p q:Addr) (xs ys:List V) (ks:List (List af)),x=.ref p/\y=.ref q/\H p=some (.lst xs)/\H q=some (.lst ys)/\aY H xs ks/\aY H ys ks/\Q (.bl true) H):=by
 intro EQ s σ H x y v u Q I rx ry h;obtain⟨p,q,xs,ys,ks,rfl,rfl,hp,hq,h1,h2,k⟩:=h;cases (show v=Value.ref p from rx);cases (show u=Value.ref q from ry);obtain⟨its,rv,pl,_⟩:=I.list (ak.of hp);obtain⟨IZ,rv2,pl2,_⟩:=I.list (ak.of hq);have hl:=rv.length;have Ik:=rv2.length;have k1:=h1.1;have k2:=h2.1
 have e:=SeqAt.RcAt.lists (A:=X.A) (e:=λ_=>true) pl.isList pl2.isList (by simp;lia) (by lia) λj j1 j2=>by
  have j1:j<its.length:=by simpa using j1
  have j2:j<IZ.length:=by simpa using j2
  have e1:=Qa (show j<xs.length by lia);have e2:=Qa (show j<ys.length by lia);have e3:=Qa (show j<ks.length by lia);obtain⟨a,a1,a2⟩:=h1.2 j _ _ e1 e3;obtain⟨b,b1,b2⟩:=h2.2 j _ _ e2 e3;obtain⟨u,c1,c2⟩:=rv.get e1;obtain⟨u2,c3,c4⟩:=rv2.get e2;rw[a1] at c2;rw[b1] at c4;rw[Qa j1] at c1;rw[Qa j2] at c3;rw[List.getElem_toArray,List.getElem_toArray,Qo c1,Qo c3,show u=Value.ref a from c2,show u2=Value.ref b from c4];by_cases Hr:a=b
  ·rw[Hr];exact SeqAt.EqAt.same _
  ·obtain⟨o,vs,n,g1,g2,g3,g4⟩:=iV I a2;obtain⟨o',vs',n',f1,f2,f3,f4⟩:=iV I b2;have:=SeqAt.EqAt.of_refs Hr (SeqAt.RcAt.tuples (A:=X.A.in1) (e:=λ_=>true) ⟨o,g1,g2,n,g3⟩ ⟨o',f1,f2,n',f3⟩ (Qz (show X.A.in1.units<=X.A.units+64 from by show X.A.units+1<=_;lia) hu) (BY g4 f4));have z1:=g4.length;have z2:=f4.length;have z:vs.toArray.size=vs'.toArray.size:=by simp;lia
   rw[z,List.all_eq_true.mpr λ_ _=>rfl,Bool.true_and,beq_self_eq_true] at this;exact this
 rw[List.all_eq_true.mpr λ_ _=>rfl] at e;exact e _ _ _ _ ⟨.bl true,H,I,rfl,k⟩
end
end L2
namespace K33
open PySem L2 Mm
noncomputable def top(i:Nat):Stmt:=PySem.Challenge.pw_manymakes_k33_whole_plain_names.main.body.getD i (.Pass ⟨0,0,0,0⟩)
noncomputable abbrev nT:Stmt:=top 1
noncomputable abbrev nU:Stmt:=top 2
noncomputable abbrev nV:Stmt:=top 3
noncomputable abbrev lI:Stmt:=top 4
noncomputable abbrev nW:Stmt:=top 5
noncomputable abbrev lJ:Stmt:=top 6
noncomputable abbrev lK:Stmt:=top 8
noncomputable abbrev lL:Stmt:=top 9
noncomputable abbrev nX:Stmt:=top 10
noncomputable abbrev lM:Stmt:=top 11
noncomputable abbrev lN:Stmt:=top 12
noncomputable abbrev lO:Stmt:=top 13
noncomputable abbrev nY:Stmt:=top 17
noncomputable abbrev nZ:Stmt:=top 18
noncomputable abbrev n0:Stmt:=top 19
noncomputable abbrev n6:Stmt:=top 20
noncomputable abbrev n8:Stmt:=top 21
noncomputable abbrev lP:Stmt:=top 22
noncomputable abbrev oh:Stmt:=top 24
noncomputable abbrev oi:Stmt:=top 25
noncomputable abbrev oj:Stmt:=top 26
noncomputable abbrev om:Stmt:=top 27
noncomputable abbrev j8:Stmt:=top 28
noncomputable abbrev oo:Stmt:=top 29
noncomputable abbrev lQ:Stmt:=top 30
noncomputable abbrev oq:Stmt:=top 31
noncomputable abbrev lR:Stmt:=top 32
noncomputable abbrev lS:Stmt:=top 33
noncomputable abbrev ou:Stmt:=top 34
noncomputable abbrev ow:Stmt:=top 35
noncomputable abbrev ox:Stmt:=top 36
noncomputable abbrev oy:Stmt:=top 37
noncomputable abbrev oz:Stmt:=top 38
noncomputable abbrev j9:Stmt:=top 39
noncomputable abbrev oA:Stmt:=gr (top 16) 0
noncomputable abbrev oB:Stmt:=gr (top 16) 1
noncomputable abbrev oC:Stmt:=gr (top 16) 2
noncomputable abbrev oE:Stmt:=gr (top 16) 3
noncomputable abbrev ka:Stmt:=gr (top 16) 4
noncomputable abbrev oF:Stmt:=gr (top 16) 5
noncomputable abbrev oG:Stmt:=gr (top 16) 6
noncomputable abbrev oH:Stmt:=gr (top 16) 7
noncomputable abbrev oI:Stmt:=top 40
structure oJ where
 ZP:Addr
 ZJ:Addr
 ZN:Addr
 Zr:Addr
 ZO:Addr
 Zs:Addr
 Zw:Addr
 Zg:Addr
 Zh:Addr
 Zx:Addr
 Zf:Addr
 Zy:Addr
 Zt:Addr
 ZE:Addr
 ZK:Addr
 ZF:Addr
 Zl:Addr
 Zo:Addr
 Zp:Addr
 Zz:Addr
 ZA:Addr
 ZG:Addr
 ZB:Addr
 Zu:Addr
 ZH:Addr
 ZL:Addr
 ZM:Addr
 ZI:Addr
 ZC:Addr
 Zv:Addr
 ZD:Addr
 Zq:Addr
 Zm:Addr
 Zn:Addr
 Zi:Addr
 Zj:Addr
 Za:Addr
 Zb:Addr
 Zd:Addr
 Zc:Addr
 Ze:Addr
 Zk:Addr
 c_NameLook:Addr
 q_PLAIN_KINDS:Addr
structure oK where
 ZP:FuncData
 ZJ:FuncData
 ZN:FuncData
 Zr:FuncData
 ZO:FuncData
 Zs:FuncData
 Zw:FuncData
 Zg:FuncData
 Zh:FuncData
 Zx:FuncData
 Zf:FuncData
 Zy:FuncData
 Zt:FuncData
 ZE:FuncData
 ZK:FuncData
 ZF:FuncData
 Zl:FuncData
 Zo:FuncData
 Zp:FuncData
 Zz:FuncData
 ZA:FuncData
 ZG:FuncData
 ZB:FuncData
 Zu:FuncData
 ZH:FuncData
 ZL:FuncData
 ZM:FuncData
 ZI:FuncData
 ZC:FuncData
 Zv:FuncData
 ZD:FuncData
 Zq:FuncData
 Zm:FuncData
 Zn:FuncData
 Zi:FuncData
 Zj:FuncData
 Za:FuncData
 Zb:FuncData
 Zd:FuncData
 Zc:FuncData
 Ze:FuncData
 Zk:FuncData
structure FB(K:W.Frag)(n q:Str)(st:Stmt)(ps:List Str)(f:Addr)(fd:FuncData):Prop where
 k:W.keepIn K (.ref f)=true
 F:jJ K n q st f fd
 b:Binds K fd ps []
structure FZ(K:W.Frag)(mg:Str->Option Value)(n q:Str)(st:Stmt)(ps:List Str)(f:Addr)(fd:FuncData):Prop extends FB K n q st ps f fd where
 m:mg n=some (.ref f)
theorem aG{X:Cx}{k:Nat}{f:Addr}{fd:FuncData}{ps:List Str}{sp:Sp}{x q:Str}{st:Stmt}{e:Expr}{es:List Expr}{p pos:Pos}{t:TA}(F:aI X.prog X.w X.K X.mg X.base aK k f fd ps sp)(hr:aB k X.A)(hg:Gl X x)(z:FZ X.K X.mg x q st ps f fd)(ha:PA X (e::es) t)(hdb:(x==("__debug__":Str))=false:=by decide)(he:starEach (e::es) X.env=(false,eval e X.env)::starEach es X.env:=by rfl)(Fx:(backTo pos (starEach es X.env)).any (·.1)=false:=by rfl) :
  PE X (.Call (.Name x p) (e::es) [] pos) (qk sp [] E0 t):=yL F hr hg z.m z.k z.b .nil c6 ha hdb he Fx
structure All(P:Program)(w:World)(K:W.Frag)(mg:Str->Option Value)(A:oJ)(D:oK):Prop where
 z_ZP:FZ K mg "least" "least" nT ["mask"] A.ZP D.ZP
 z_ZJ:FZ K mg "without" "without" nU ["mask","other"] A.ZJ D.ZJ
 z_ZN:FZ K mg "all_of" "all_of" nV ["pairs"] A.ZN D.ZN
 z_Zr:FZ K mg "kept_pairs" "kept_pairs" lI ["pairs","mask"] A.Zr D.Zr
 z_ZO:FZ K mg "add_to" "add_to" nW ["found","key","mask"] A.ZO D.ZO
 z_Zs:FZ K mg "with_masks" "with_masks" lJ ["found"] A.Zs D.Zs
 z_Zw:FZ K mg "kept_tree" "kept_tree" lK ["tree","mask"] A.Zw D.Zw
 z_Zg:FZ K mg "kept_statement" "kept_statement" lL ["one","mask"] A.Zg D.Zg
 z_Zh:FZ K mg "row_and_least" "row_and_least" nX ["pair"] A.Zh D.Zh
 z_Zx:FZ K mg "shared_of" "shared_of" lM ["tree"] A.Zx D.Zx
 z_Zf:FZ K mg "shared_statement" "shared_statement" lN ["one"] A.Zf D.Zf
 z_Zy:FZ K mg "blocks_of" "blocks_of" lO ["one"] A.Zy D.Zy
 z_Zt:FZ K mg "first_rows" "first_rows" nY ["tree"] A.Zt D.Zt
 z_ZE:FZ K mg "pairs_of" "pairs_of" nZ ["one"] A.ZE D.ZE
 z_ZK:FZ K mg "expr_of" "expr_of" n0 ["one"] A.ZK D.ZK
 z_ZF:FZ K mg "exprs_in" "exprs_in" n6 ["e"] A.ZF D.ZF
 z_Zl:FZ K mg "shared_names" "shared_names" n8 ["tree","mask"] A.Zl D.Zl
 z_Zo:FZ K mg "plain_names" "plain_names" lP ["tree"] A.Zo D.Zo
 z_Zp:FZ K mg "_law_cell_at" "_law_cell_at" oh ["_law_script","_law_k"] A.Zp D.Zp
 z_Zz:FZ K mg "_law_mixed" "_law_mixed" oi ["_law_cell","_law_k"] A.Zz D.Zz
 z_ZA:FZ K mg "_law_draws" "_law_draws" oj ["_law_script"] A.ZA D.ZA
 z_ZG:FZ K mg "_law_next" "_law_next" om ["_law_draws_here"] A.ZG D.ZG
 z_ZB:FZ K mg "_law_names" "_law_names" j8 ["_law_draws_here"] A.ZB D.ZB
 z_Zu:FZ K mg "_law_number" "_law_number" oo ["_law_draws_here"] A.Zu D.Zu
 z_ZH:FZ K mg "_law_expr" "_law_expr" lQ ["_law_draws_here","_law_names_here","_law_deep"] A.ZH D.ZH
 z_ZL:FZ K mg "_law_def" "_law_def" oq ["_law_draws_here","_law_at","_law_names_here"] A.ZL D.ZL
 z_ZM:FZ K mg "_law_row" "_law_row" lR ["_law_draws_here","_law_form","_law_at","_law_names_here","_law_stack"] A.ZM D.ZM
 z_ZI:FZ K mg "_law_rows" "_law_rows" lS ["_law_draws_here"] A.ZI D.ZI
 z_ZC:FZ K mg "_law_parts" "_law_parts" ou ["_law_e"] A.ZC D.ZC
 z_Zv:FZ K mg "_law_within" "_law_within" ow ["_law_e"] A.Zv D.Zv
 z_ZD:FZ K mg "_law_first" "_law_first" ox ["_law_rows_here","_law_word","_law_name"] A.ZD D.ZD
 z_Zq:FZ K mg "_law_use_due" "_law_use_due" oy ["_law_rows_here","_law_at","_law_e"] A.Zq D.Zq
 z_Zm:FZ K mg "_law_expr_due" "_law_expr_due" oz ["_law_rows_here","_law_k","_law_e"] A.Zm D.Zm
 z_Zn:FZ K mg "_law_head_due" "_law_head_due" j9 ["_law_rows_here","_law_k"] A.Zn D.Zn
 M_NameLook:Mk K A.c_NameLook A.Zi
 z_Zi:FB K "__init__" "NameLook.__init__" oA ["self","tree"] A.Zi D.Zi
 M_Zj:fU K A.c_NameLook "note" A.Zj
 z_Zj:FB K "note" "NameLook.note" oB ["self","mask","at","what","name"] A.Zj D.Zj
 M_Za:fU K A.c_NameLook "look_twice" A.Za
 z_Za:FB K "look_twice" "NameLook.look_twice" oC ["self","tree"] A.Za D.Za
 M_Zb:fU K A.c_NameLook "look_body" A.Zb
 z_Zb:FB K "look_body" "NameLook.look_body" oE ["self","statements","given"] A.Zb D.Zb
 M_Zd:fU K A.c_NameLook "look_def" A.Zd
 z_Zd:FB K "look_def" "NameLook.look_def" ka ["self","mask","one"] A.Zd D.Zd
 M_Zc:fU K A.c_NameLook "look_expr" A.Zc
 z_Zc:FB K "look_expr" "NameLook.look_expr" oF ["self","mask","e","at","given"] A.Zc D.Zc
 M_Ze:fU K A.c_NameLook "look_use" A.Ze
 z_Ze:FB K "look_use" "NameLook.look_use" oG ["self","mask","e","at","word","missing"] A.Ze D.Ze
 M_Zk:fU K A.c_NameLook "held" A.Zk
 z_Zk:FB K "held" "NameLook.held" oH ["self","word","name"] A.Zk D.Zk
 m_NameLook:mg "NameLook"=some (.ref A.c_NameLook)
 cl_NameLook:fz K A.c_NameLook
 na_NameLook_faults:gj K A.c_NameLook "faults"
 na_NameLook_firsts:gj K A.c_NameLook "firsts"
 ty_NameLook:∀(H:Hp) (a dx:Addr) (fs:List (Str×V)),H a=some (.ins A.c_NameLook dx fs)->de K H (.ref a) (.ref A.c_NameLook)
 is_NameLook:W.kitOne K (.ref A.c_NameLook) (.ref A.c_NameLook)=some true
 m_PLAIN_KINDS:mg "PLAIN_KINDS"=some (.ref A.q_PLAIN_KINDS)
 Q_PLAIN_KINDS:∀H,aq K H A.q_PLAIN_KINDS [.str "num",.str "truth"]
 n_len:mg "len"=none
 n_range:mg "range"=none
 n_list:mg "list"=none
 n_dict:mg "dict"=none
 n_tuple:mg "tuple"=none
 n_sorted:mg "sorted"=none
 n_set:mg "set"=none
 n_isinstance:mg "isinstance"=none
 n_abs:mg "abs"=none
theorem aj{H:Hp}{p:Addr}{o:HO}(h:H p=none):Same H (upd H p o):=λb u e=>by rw[aE (fR e h)];exact e
noncomputable def c9(fs:List (List af)):List (List af):=(cw fs).map λi=>fs.getD i []
theorem tQ{fs:List (List af)}:∀i∈cw fs,i<fs.length:=by
 unfold cw;split
 ·intro i hi;simpa using hi
 ·intro i hi;exact ni (eR fs) (by omega) i hi
theorem B0{H:Hp}{xs:List V}{fs:List (List af)}(h:aY H xs fs):aY H (cb fs xs) (c9 fs):=by
 refine⟨by simp[cb,c9],λj x d hx hd=>?_⟩;unfold cb at hx;unfold c9 at hd;rw[Qj] at hx hd;obtain⟨i,hi,rfl⟩:=Option.map_eq_some_iff.mp hx;rw[hi] at hd;have hd:fs.getD i []=d:=by simpa using hd
 have EX:=tQ i (Qk hi);have hlx:i<xs.length:=by rw[h.1];exact EX
 refine h.2 i _ d ?_ ?_
 ·rw[Qa hlx,Qg,Qa hlx];rfl
 ·rw[<-hd,Qa EX,Qg,Qa EX];rfl
section
variable {P:Program}{w:World}{K:W.Frag}{mg:Str->Option Value}{base:Heap}{AA:oJ}{DD:oK}
theorem cB{H:Hp}{sh:Bool}{vs:List V}{p:bL}{ps:List bL}(h:PsAt H sh vs (p::ps)):∃v r,vs=v::r/\PAt H sh v p/\PsAt H sh r ps:=by cases h with|cons a b=>exact⟨_,_,rfl,a,b⟩
theorem hZ{H:Hp}{sh:Bool}{vs:List V}(h:PsAt H sh vs []):vs=[]:=by cases h;rfl
theorem ff{H:Hp}{sh:Bool}{v:V}{z:Str}(h:PAt H sh v (.s z)):v=.str z:=by cases h;rfl
theorem B1{H:Hp}{sh:Bool}{v:V}{n:Nat}(h:PAt H sh v (.i n)):v=.int ((n:Nat):Int):=by cases h;rfl
theorem oM{H:Hp}{sh:Bool}{v:V}{x:Ex}(h:PAt H sh v (.e x)):bf H v x:=by cases h with|e a=>exact a
theorem lT{H:Hp}{sh:Bool}{v:V}{ts:List Tr}(h:PAt H sh v (.b ts)):∃l xs,v=.ref l/\H l=some (.lst xs)/\LAt H sh xs ts:=by cases h with|b l a=>exact⟨_,_,rfl,l,a⟩
theorem lU{H:Hp}{sh:Bool}{v:V}{ps:List (Str×Str)}(h:PAt H sh v (.p ps)):fY H v ps:=by cases h with|p a=>exact a
theorem ic{H:Hp}{sh:Bool}{v:V}{t:Tr}(h:bW H sh v t):∃a vs,v=.ref a/\H a=some (.tup vs)/\PsAt H sh vs t.parts:=by cases h with|mk a b=>exact⟨_,_,rfl,a,b⟩
theorem dI{H:Hp}{sh:Bool}{vs:List V}{z:Str}{n:Nat}{ps:List bL}(h:PsAt H sh vs (.s z::.i n::ps)):∃r,vs=.str z::.int ((n:Nat):Int)::r/\PsAt H sh r ps:=by obtain⟨a,r,e,h1,h⟩:=cB h;obtain⟨b,r',e',h2,h⟩:=cB h;exact⟨r',by rw[e,e',ff h1,B1 h2],h⟩
theorem kc{H:Hp}{sh:Bool}{vs:List V}{x:Ex}(h:PsAt H sh vs [.e x]):∃v,vs=[v]/\bf H v x:=by obtain⟨a,r,e,h1,h⟩:=cB h;exact⟨a,by rw[e,hZ h],oM h1⟩
theorem tR{H:Hp}{sh:Bool}{v:V}{r:Nat}{z:Str}{e:Ex}(h:bW H sh v (.set r z e)):∃t ve,v=.ref t/\H t=some (.tup [.str "set",.int ((r:Nat):Int),.str z,ve])/\bf H ve e:=by obtain⟨t,vs,e1,ht,h⟩:=ic h;obtain⟨q,e2,h⟩:=dI h;obtain⟨a,q',e3,h1,h⟩:=cB h;obtain⟨ve,e4,hx⟩:=kc h;exact⟨t,ve,e1,by rw[ht,e2,e3,ff h1,e4],hx⟩
theorem B2{H:Hp}{sh:Bool}{v:V}{r:Nat}{e:Ex}(h:bW H sh v (.tell r e)):∃t ve,v=.ref t/\H t=some (.tup [.str "tell",.int ((r:Nat):Int),ve])/\bf H ve e:=by obtain⟨t,vs,e1,ht,h⟩:=ic h;obtain⟨q,e2,h⟩:=dI h;obtain⟨ve,e4,hx⟩:=kc h;exact⟨t,ve,e1,by rw[ht,e2,e4],hx⟩
theorem B3{H:Hp}{sh:Bool}{v:V}{r:Nat}{e:Ex}(h:bW H sh v (.give r e)):∃t ve,v=.ref t/\H t=some (.tup [.str "give",.int ((r:Nat):Int),ve])/\bf H ve e:=by obtain⟨t,vs,e1,ht,h⟩:=ic h;obtain⟨q,e2,h⟩:=dI h;obtain⟨ve,e4,hx⟩:=kc h;exact⟨t,ve,e1,by rw[ht,e2,e4],hx⟩
theorem B4{H:Hp}{sh:Bool}{v:V}{r:Nat}{e:Ex}{b o:List Tr}(h:bW H sh v (.iff r e b o)):∃t ve lb xb lo xo,v=.ref t/\H t=some (.tup [.str "if",.int ((r:Nat):Int),ve,.ref lb,.ref lo])/\bf H ve e/\H lb=some (.lst xb)/\LAt H sh xb b/\H lo=some (.lst xo)/\LAt H sh xo o:=by obtain⟨t,vs,e1,ht,h⟩:=ic h;obtain⟨q,e2,h⟩:=dI h;obtain⟨ve,q',e3,h1,h⟩:=cB h;obtain⟨vb,q2,e4,h2,h⟩:=cB h;obtain⟨vo,q3,e5,h3,h⟩:=cB h;obtain⟨lb,xb,f1,f2,f3⟩:=lT h2;obtain⟨lo,xo,g1,g2,g3⟩:=lT h3;exact⟨t,ve,lb,xb,lo,xo,e1,by rw[ht,e2,e3,e4,e5,hZ h,f1,g1],oM h1,f2,f3,g2,g3⟩
theorem B5{H:Hp}{sh:Bool}{v:V}{r:Nat}{e:Ex}{b:List Tr}(h:bW H sh v (.whl r e b)):∃t ve lb xb,v=.ref t/\H t=some (.tup [.str "while",.int ((r:Nat):Int),ve,.ref lb])/\bf H ve e/\H lb=some (.lst xb)/\LAt H sh xb b:=by obtain⟨t,vs,e1,ht,h⟩:=ic h;obtain⟨q,e2,h⟩:=dI h;obtain⟨ve,q',e3,h1,h⟩:=cB h;obtain⟨vb,q2,e4,h2,h⟩:=cB h;obtain⟨lb,xb,f1,f2,f3⟩:=lT h2;exact⟨t,ve,lb,xb,e1,by rw[ht,e2,e3,e4,hZ h,f1],oM h1,f2,f3⟩
theorem tS{H:Hp}{sh:Bool}{v:V}{r:Nat}{n k:Str}{ps:List (Str×Str)}{b:List Tr}(h:bW H sh v (.df r n k ps b)):∃t vp lb xb,v=.ref t/\H t=some (.tup [.str "def",.int ((r:Nat):Int),.str n,.str k,vp,.ref lb])/\fY H vp ps/\H lb=some (.lst xb)/\LAt H sh xb b:=by obtain⟨t,vs,e1,ht,h⟩:=ic h;obtain⟨q,e2,h⟩:=dI h;obtain⟨a,q1,e3,h1,h⟩:=cB h;obtain⟨c,q2,e4,h2,h⟩:=cB h;obtain⟨vp,q3,e5,h3,h⟩:=cB h;obtain⟨vb,q4,e6,h4,h⟩:=cB h;obtain⟨lb,xb,f1,f2,f3⟩:=lT h4;exact⟨t,vp,lb,xb,e1,by rw[ht,e2,e3,e4,e5,e6,hZ h,f1,ff h1,ff h2],lU h3,f2,f3⟩
theorem B6{H:Hp}{sh:Bool}{v:V}{r:Nat}{n:Str}{ps:List (Str×Str)}(h:bW H sh v (.kd r n ps)):∃t vp,v=.ref t/\H t=some (.tup [.str "kind",.int ((r:Nat):Int),.str n,vp])/\fY H vp ps:=by obtain⟨t,vs,e1,ht,h⟩:=ic h;obtain⟨q,e2,h⟩:=dI h;obtain⟨a,q1,e3,h1,h⟩:=cB h;obtain⟨vp,q3,e5,h3,h⟩:=cB h;exact⟨t,vp,e1,by rw[ht,e2,e3,e5,hZ h,ff h1],lU h3⟩
theorem bP{n:Nat}(h:n<1000):n<sizeLine:=by rw[sizeLine_eq];lia
inductive i7 (k:Nat) (vs:List V) (H:Hp) (Q:VK) (E:XK):Prop
 |mk:∀(l:Addr) (xs:List V) (ts:List Tr),vs=[.ref l]->H l=some (.lst xs)->LAt H false xs ts->deeps ts<k->ts.length<=40->ascs ts->(∀p ys H',Same H H'->H' p=some (.lst ys)->LAt H' true ys ts->Q (.ref p) H')->i7 k vs H Q E
inductive oN (k:Nat) (vs:List V) (H:Hp) (Q:VK) (E:XK):Prop
 |mk:∀(v:V) (t:Tr),vs=[v]->bW H false v t->t.deep<k->t.asc->(∀v' H',Same H H'->bW H' true v' t->Q v' H')->oN k vs H Q E
noncomputable abbrev tT:List Str:=["one"]
theorem tU:be tT ["one"] (aM lN):=⟨rfl,rfl,rfl,by decide +kernel,rfl,by decide +kernel,by decide +kernel⟩
theorem B7(T:All P w K mg AA DD)(k:Nat)(GF:aI P w K mg base aK (2*k+1) AA.Zx DD.Zx ["tree"] (i7 k)):aI P w K mg base aK (2*k+2) AA.Zf DD.Zf ["one"] (oN k):=by
 refine T.z_Zf.F.ok tU (λvs H Q E h=>by cases h;subst_vars;rfl) λE2 A outer s H vs Q E hr h=>?_;obtain⟨v,t,rfl,hS,hd,ha,kq⟩:=h;have nd:=tU.nd;have hrF:aB (2*k+1) _:=hr;refine⟨_,(am (aP (fA j4 rfl T.n_tuple jP (ae (fX (aM lN) tT [] [] rfl (by exact⟨rfl,rfl,by decide +kernel,rfl,by decide +kernel,by decide +kernel,by decide +kernel,rfl,by decide +kernel⟩) rfl rfl (gx (pv 0)) (λ_ _ _ _=>eE) (λ_ _ _ _=>(kG (mo (ci (lu (K:=K) (n:="list") rfl) rfl T.n_isinstance kP (ae (pv 0) (ae (kF (v:=.ty "list") rfl T.n_list gR rfl) ag)))) (aG GF hrF rfl T.z_Zx (ae (pv 0) ag)) (pv 0)))) ag)))),?_⟩
 cases hS with
 | @mk t0 xs _ ht F1 =>
 refine⟨_,rfl,t0,rfl,⟨_,aq.of ht⟩,?_⟩;have Fx:=t.parts_len;have Ih:=F1.length;refine jQ (K:=K0) (a:=t0) (xs:=xs) (λi ys H'=>Same H H'/\i<=xs.length/\PsAt H' true ys (t.parts.take i)) ⟨Same.refl _,QC _,by simpa using PsAt.nil⟩ (λi ys H' _ h=>aq.of (h.1 _ _ ht)) ?_ ?_
 ·rintro i x ys H1 hx ⟨sm,hi,EY⟩;obtain⟨p,hp,hP⟩:=F1.get hx;have hP1:=hP.kept sm.ls;have hilt:=(Qc hx).1;have FF:=EY.length;rw[Qx] at FF;have Fm:i<t.parts.length:=by lia
  have GV:t.parts.take (i+1)=t.parts.take i++[p]:=by rw[Qm Fm];rw[Qa Fm] at hp;rw[Qo hp]
  refine eD ?_;rw[if_pos rfl]
  rcases hP1.isL (K:=K) with ⟨bs,l,zs,e1,e2,hl,hL,ty,kb⟩|⟨nb,ty0,ty,kb⟩
  ·subst e1 e2;have hm:bL.b bs∈t.parts:=Qk hp;refine⟨_,rfl,_,_,true,rfl,ty,kb,_,rfl,dh ?_⟩;refine⟨_,rfl,l,zs,bs,rfl,hl,hL,Qz (ln hm) hd,(jZ ha hm).1,(jZ ha hm).2,λq us H2 s2 hq hL2=>?_⟩;refine⟨bP (by lia),sm.trans s2,by lia,?_⟩;rw[GV];exact(EY.kept s2.ls).snoc (.b hq hL2)
  ·refine⟨_,rfl,_,_,false,rfl,ty,kb,_,rfl,bO ?_⟩;refine⟨_,rfl,bP (by lia),sm,by lia,?_⟩;rw[GV];exact EY.snoc (hP1.other nb)
 ·rintro ys H1 ⟨sm,hi,EY⟩ p hp;have s1:=aj (o:=.lst ys) hp;refine⟨p,ys,rfl,.inl ⟨ak.of ah,λl hl=>?_⟩⟩;have s2:=aj (o:=.tup ys) hl;refine kq _ _ ((sm.trans s1).trans s2) (.mk ah ?_);rw[QD (by lia)] at EY;exact EY.kept (s1.trans s2).ls
noncomputable abbrev tV:List Str:=["tree"]
theorem oO:be tV ["tree"] (aM lM):=⟨rfl,rfl,rfl,by decide +kernel,rfl,by decide +kernel,by decide +kernel⟩
theorem B8(T:All P w K mg AA DD)(k:Nat)(GS:aI P w K mg base aK (2*k+2) AA.Zf DD.Zf ["one"] (oN k)):aI P w K mg base aK (2*(k+1)+1) AA.Zx DD.Zx ["tree"] (i7 (k+1)):=by
 refine T.z_Zx.F.ok oO (λvs H Q E h=>by cases h;subst_vars;rfl) λE2 A outer s H vs Q E hr h=>?_;obtain⟨l,xs,ts,rfl,hl,hL,hd,h20,ha,kq⟩:=h;have nd:=oO.nd;have hrS:aB (2*k+2) _:=hr;refine⟨_,(am (aP (fX (aM lM) tV [] [] rfl (by exact⟨rfl,rfl,by decide +kernel,rfl,by decide +kernel,by decide +kernel,by decide +kernel,rfl,by decide +kernel⟩) rfl rfl (c7 (pv 0)) (λ_ _ _ _=>eE) (λ_ _ _ _=>(aX (ae ap (ae (aG GS hrS rfl T.z_Zf (ae (pv 0) ag)) ag))))))),?_⟩;refine⟨_,rfl,l,rfl,⟨_,ak.of hl⟩,?_⟩;have Ih:=hL.length;refine qP (K:=K0) (a:=l) (xs:=xs) (λi ys H'=>Same H H'/\i<=xs.length/\LAt H' true ys (ts.take i)) ⟨Same.refl _,QC _,by simpa using LAt.nil⟩ (λi ys H' _ h=>ak.of (h.1 _ _ hl)) ?_ ?_
 ·rintro i x ys H1 hx ⟨sm,hi,EY⟩;obtain⟨t,ht,hO⟩:=hL.get hx;have hilt:=(Qc hx).1;have FF:=EY.length;rw[Qx] at FF;have Fm:i<ts.length:=by lia
  have GV:ts.take (i+1)=ts.take i++[t]:=by rw[Qm Fm];rw[Qa Fm] at ht;rw[Qo ht]
  have hm:t∈ts:=Qk ht
  have hS:bW H1 false x t:=by
   cases hO with
   |plain _ a=>exact a.kept sm.ls
   |shared e _ _=>cases e
  refine eD ?_;rw[if_pos rfl];refine⟨_,rfl,x,t,rfl,hS,by have:=lq hm;lia,lr ha hm,λv' H2 s2 HU=>?_⟩;refine⟨bZ,λq hq=>?_⟩;have s3:=aj (o:=.tup [.int 1,v']) hq;refine⟨bP (by lia),(sm.trans s2).trans s3,by lia,?_⟩;rw[GV];exact(EY.kept (s2.trans s3).ls).snoc (.shared rfl ah (HU.kept s3.ls))
 ·rintro ys H1 ⟨sm,hi,EY⟩ p hp;have s1:=aj (o:=.lst ys) hp;rw[QD (by lia)] at EY;exact kq p ys _ (sm.trans s1) ah (EY.kept s1.ls)
theorem B9(T:All P w K mg AA DD):aI P w K mg base aK 1 AA.Zx DD.Zx ["tree"] (i7 0):=by
 have no:∀vs H Q E,¬i7 0 vs H Q E:=λvs H Q E h=>by obtain⟨l,xs,ts,_,_,_,z,_⟩:=h;lia
 exact T.z_Zx.F.ok oO (λvs H Q E h=>(no _ _ _ _ h).elim) (λE2 A outer s H vs Q E hr h=>(no _ _ _ _ h).elim)
theorem tW(T:All P w K mg AA DD):∀k:Nat,aI P w K mg base aK (2*k+1) AA.Zx DD.Zx ["tree"] (i7 k)
 |0=>B9 T
 |k+1=>B8 T k (B7 T k (tW T k))
theorem cN{c:Bool}{a b:Prop}(h:c=false)(k:b):if c=true then a else b:=by rw[h];exact k
theorem dW{c:Bool}{a b:Prop}(h:c=true)(k:a):if c=true then a else b:=by rw[h];exact k
def Ca:Sp:=λvs H Q _=>vs=[.int 1]/\Q (.int 0) H
theorem Cb:Builtin.bitXor (1:Int) (1-1)=1:=by decide +kernel
noncomputable abbrev Cc:List Str:=["mask"]
theorem tX:be Cc ["mask"] (aM nT):=⟨rfl,rfl,rfl,by decide +kernel,rfl,by decide +kernel,by decide +kernel⟩
theorem Cd(T:All P w K mg AA DD):aI P w K mg base aK 1 AA.ZP DD.ZP ["mask"] Ca:=by
 refine T.z_ZP.F.ok tX (λvs H Q E h=>by cases h;subst_vars;rfl) λE2 A outer s H vs Q E hr h=>?_;obtain⟨rfl,k⟩:=h;have nd:=tX.nd;refine⟨_,(ar (aS (aH aV (pv 0) ap (aL _)) (am (aP kD)) a9) (am (aP (aD gh (zj PySem.F.plainAttrs_int PySem.F.slot_int_bit_length PySem.F.type_int_bit_length zA (aD p7 (pv 0) (aD gh (pv 0) ap))) ap)))),?_⟩;refine⟨_,rfl,rfl,_,rfl,bO ?_⟩;refine⟨_,rfl,_,rfl,_,_,rfl,rfl,_,_,rfl,rfl,rfl,_,rfl,rfl,_,_,rfl,rfl,?_⟩;rw[Cb];exact k
noncomputable def gz(t:Tr):List af:=[.inl ((t.row:Nat):Int),.inl 0]
inductive tY (vs:List V) (H:Hp) (Q:VK) (E:XK):Prop
 |mk:∀(v:V) (t:Tr),vs=[v]->OAt H true v t->(∀q H',Same H H'->H' q=some (.tup ((gz t).map kV))->Q (.ref q) H')->tY vs H Q E
theorem Ce{H:Hp}{sh:Bool}{vs:List V}{t:Tr}(h:PsAt H sh vs t.parts):∃(a:V) (r:List V),vs=a::.int ((t.row:Nat):Int)::r:=by
 have g:∃a ps,t.parts=.s a::.i t.row::ps:=by cases t<;>exact⟨_,_,rfl⟩
 obtain⟨a,ps,e⟩:=g;rw[e] at h;obtain⟨r,e2,_⟩:=dI h;exact⟨_,r,e2⟩
noncomputable abbrev Cf:List Str:=["pair"]
theorem tZ:be Cf ["pair"] (aM nX):=⟨rfl,rfl,rfl,by decide +kernel,rfl,by decide +kernel,by decide +kernel⟩
theorem Cg(T:All P w K mg AA DD):aI P w K mg base aK 2 AA.Zh DD.Zh ["pair"] tY:=by
 have GL:=Cd (base:=base) T;refine T.z_Zh.F.ok tZ (λvs H Q E h=>by cases h;subst_vars;rfl) λE2 A outer s H vs Q E hr h=>?_;obtain⟨v,t,rfl,hO,k⟩:=h;have nd:=tZ.nd;have Fd:aB 1 _:=hr;refine⟨_,(am (aP (aX (ae (au (au (pv 0))) (ae (aG GL Fd rfl T.z_ZP (ae (au (pv 0)) ag)) ag))))),?_⟩
 cases hO with
 |plain e _=>cases e
 | @shared p x _ _ hp hS =>
 cases hS with
 | @mk t0 vs _ ht F1 =>
 obtain⟨a,r,rfl⟩:=Ce F1;refine⟨_,rfl,p,_,_,_,rfl,rfl,aq.of hp,rfl,?_⟩;refine⟨t0,_,_,_,rfl,rfl,aq.of ht,bH (j:=1) rfl,?_⟩;refine⟨_,rfl,p,_,_,_,rfl,rfl,aq.of hp,rfl,?_⟩;refine⟨rfl,bZ,λq hq=>?_⟩;exact k q _ (aj hq) ah
inductive i8 (k:Nat) (vs:List V) (H:Hp) (Q:VK) (E:XK):Prop
 |mk:∀(l:Addr) (xs:List V) (ts:List Tr),vs=[.ref l,.int 1]->H l=some (.lst xs)->LAt H true xs ts->deeps ts<k->ts.length<=40->ascs ts->(∀p ys H',Same H H'->H' p=some (.lst ys)->LAt H' true ys ts->Q (.ref p) H')->i8 k vs H Q E
inductive oP (k:Nat) (vs:List V) (H:Hp) (Q:VK) (E:XK):Prop
 |mk:∀(v:V) (t:Tr),vs=[v,.int 1]->bW H true v t->t.deep<k->t.asc->(∀v' H',Same H H'->bW H' true v' t->Q v' H')->oP k vs H Q E
noncomputable abbrev ua:List Str:=["one","mask"]
theorem ub:be ua ["one","mask"] (aM lL):=⟨rfl,rfl,rfl,by decide +kernel,rfl,by decide +kernel,by decide +kernel⟩
theorem Ci(T:All P w K mg AA DD)(k:Nat)(GF:aI P w K mg base aK (2*k+5) AA.Zw DD.Zw ["tree","mask"] (i8 k)):aI P w K mg base aK (2*k+6) AA.Zg DD.Zg ["one","mask"] (oP k):=by
 refine T.z_Zg.F.ok ub (λvs H Q E h=>by cases h;subst_vars;rfl) λE2 A outer s H vs Q E hr h=>?_;obtain⟨v,t,rfl,hS,hd,ha,kq⟩:=h;have nd:=ub.nd;have hrF:aB (2*k+5) _:=hr;refine⟨_,(am (aP (fA j4 rfl T.n_tuple jP (ae (fX (aM lL) ua ["mask"] [1] rfl (by exact⟨rfl,rfl,by decide +kernel,rfl,by decide +kernel,by decide +kernel,by decide +kernel,rfl,by decide +kernel⟩) rfl rfl (gx (pv 0)) (λ_ _ _ _=>eE) (λ_ _ _ _=>(kG (mo (ci (lu (K:=K) (n:="list") rfl) rfl T.n_isinstance kP (ae (pv 0) (ae (kF (v:=.ty "list") rfl T.n_list gR rfl) ag)))) (aG GF hrF rfl T.z_Zw (ae (pv 0) (ae (pv 1) ag))) (pv 0)))) ag)))),?_⟩
 cases hS with
 | @mk t0 xs _ ht F1 =>
 refine⟨_,rfl,t0,rfl,⟨_,aq.of ht⟩,?_⟩;have Fx:=t.parts_len;have Ih:=F1.length;refine jQ (K:=K0) (a:=t0) (xs:=xs) (λi ys H'=>Same H H'/\i<=xs.length/\PsAt H' true ys (t.parts.take i)) ⟨Same.refl _,QC _,by simpa using PsAt.nil⟩ (λi ys H' _ h=>aq.of (h.1 _ _ ht)) ?_ ?_
 ·rintro i x ys H1 hx ⟨sm,hi,EY⟩;obtain⟨p,hp,hP⟩:=F1.get hx;have hP1:=hP.kept sm.ls;have hilt:=(Qc hx).1;have FF:=EY.length;rw[Qx] at FF;have Fm:i<t.parts.length:=by lia
  have GV:t.parts.take (i+1)=t.parts.take i++[p]:=by rw[Qm Fm];rw[Qa Fm] at hp;rw[Qo hp]
  refine eD ?_;rw[if_pos rfl]
  rcases hP1.isL (K:=K) with ⟨bs,l,zs,e1,e2,hl,hL,ty,kb⟩|⟨nb,ty0,ty,kb⟩
  ·subst e1 e2;have hm:bL.b bs∈t.parts:=Qk hp;refine⟨_,rfl,_,_,true,rfl,ty,kb,_,rfl,dh ?_⟩;refine⟨_,rfl,_,rfl,l,zs,bs,rfl,hl,hL,Qz (ln hm) hd,(jZ ha hm).1,(jZ ha hm).2,λq us H2 s2 hq hL2=>?_⟩;refine⟨bP (by lia),sm.trans s2,by lia,?_⟩;rw[GV];exact(EY.kept s2.ls).snoc (.b hq hL2)
  ·refine⟨_,rfl,_,_,false,rfl,ty,kb,_,rfl,bO ?_⟩;refine⟨_,rfl,bP (by lia),sm,by lia,?_⟩;rw[GV];exact EY.snoc hP1
 ·rintro ys H1 ⟨sm,hi,EY⟩ p hp;have s1:=aj (o:=.lst ys) hp;refine⟨p,ys,rfl,.inl ⟨ak.of ah,λl hl=>?_⟩⟩;have s2:=aj (o:=.tup ys) hl;refine kq _ _ ((sm.trans s1).trans s2) (.mk ah ?_);rw[QD (by lia)] at EY;exact EY.kept (s1.trans s2).ls
theorem uc:Builtin.bitAnd (1:Int) 1=1:=by decide +kernel
theorem Cj{ts:List Tr}(h:ascs ts){i:Nat}{a b:Tr}(h1:ts[i]?=some a)(h2:ts[i+1]?=some b):a.row<b.row:=by have hi:=(Qc h2).1;have g:=(List.pairwise_iff_getElem.mp (sr h)) i (i+1) (by omega) hi (by omega);rwa [(Qc h1).2,(Qc h2).2] at g
theorem Ck{ts:List Tr}{ys:List V}(h64:ts.length<=40)(h:ascs ts)(hl:ys.length=ts.length):cb (ts.map gz) ys=ys:=by
 refine AX (by rw[Qf];omega) (by simp[hl]) λi hi=>?_;rw[Qf] at hi;have Io:i<ts.length:=by omega
 have e1:(ts.map gz).getD (i+1) []=gz ts[i+1]:=by simp[Qg,hi]
 have e2:(ts.map gz).getD i []=gz ts[i]:=by simp[Qg,Io]
 have hr:=Cj h (Qa Io) (Qa hi);rw[e1,e2];show(if(Sum.inl ((ts[i+1].row:Nat):Int):af)=Sum.inl ((ts[i].row:Nat):Int) then _ else eF (Sum.inl ((ts[i+1].row:Nat):Int)) (Sum.inl ((ts[i].row:Nat):Int)))=false;rw[if_neg (λz=>by injection z with z;omega)];show decide (((ts[i+1].row:Nat):Int)<((ts[i].row:Nat):Int))=false;exact Qi (by omega)
noncomputable abbrev ud:List Str:=["tree","mask","kept"]
theorem oQ:be ud ["tree","mask"] (aM lK):=⟨rfl,rfl,rfl,by decide +kernel,rfl,by decide +kernel,by decide +kernel⟩
theorem Cm(T:All P w K mg AA DD)(k:Nat)(GS:aI P w K mg base aK (2*k+6) AA.Zg DD.Zg ["one","mask"] (oP k)):aI P w K mg base aK (2*(k+1)+5) AA.Zw DD.Zw ["tree","mask"] (i8 (k+1)):=by
 have GR:=Cg (base:=base) T;refine T.z_Zw.F.ok oQ (λvs H Q E h=>by cases h;subst_vars;rfl) λE2 A outer s H vs Q E hr h=>?_;obtain⟨l,xs,ts,rfl,hl,hL,hd,h20,ha,kq⟩:=h;have nd:=oQ.nd;have hrS:aB (2*k+6) _:=hr;have hr4:aB 4 _:=hrS.mono (by lia);refine⟨_,(ar (zF (i:=2) (xs:=["there","one"]) (aM lK) ud ["mask"] [1] rfl (by exact⟨rfl,rfl,by decide +kernel,by decide +kernel,by decide +kernel,by decide +kernel,by decide +kernel,rfl,by decide +kernel⟩) rfl rfl (c7 (pv 0)) (λ_ _ _ _=>(dF (n:=2) rfl (bv (ba (i:=0) (show(["there","one","mask"]:List Str).Nodup by decide +kernel) rfl (Or.inl rfl)) (bv (ba (i:=1) (show(["there","one","mask"]:List Str).Nodup by decide +kernel) rfl (Or.inl rfl)) dz)))) (λ_ _ _ _=>kO (aH fT (aD iy (pv 0) (pv 2)) ap (aL _))) (λ_ _ _ _=>(aX (ae (aD iy (pv 0) (pv 2)) (ae (aG GS hrS rfl T.z_Zg (ae (pv 1) (ae (pv 2) ag))) ag)))) nd rfl rfl rfl) (am (aP (AO (K:=K) rfl GR hr4 T.z_Zh.b .nil rfl T.n_sorted rfl T.z_Zh.m (pv 2))))),?_⟩;refine⟨_,rfl,l,rfl,⟨_,ak.of hl⟩,?_⟩;have Ih:=hL.length;refine kY (K:=K0) (a:=l) (xs:=xs) (λi ys H'=>Same H H'/\i<=xs.length/\LAt H' true ys (ts.take i)) ⟨Same.refl _,QC _,by simpa using LAt.nil⟩ (λi ys H' _ h=>ak.of (h.1 _ _ hl)) ?_ ?_
 ·rintro i x ys H1 hx ⟨sm,hi,EY⟩;obtain⟨t,ht,hO⟩:=hL.get hx;have hO:=hO.kept sm.ls;have hilt:=(Qc hx).1;have FF:=EY.length;rw[Qx] at FF;have Fm:i<ts.length:=by lia
  have GV:ts.take (i+1)=ts.take i++[t]:=by rw[Qm Fm];rw[Qa Fm] at ht;rw[Qo ht]
  have hm:t∈ts:=Qk ht
  cases hO with
  |plain e _=>cases e
  | @shared q y _ _ hq hS =>
  intro os FO;obtain⟨a,b,rfl⟩:=iW FO;refine⟨q,_,rfl,aq.of hq,rfl,_,_,rfl,_,_,rfl,rfl,⟨[_,_],rfl,rfl⟩,?_⟩;refine⟨_,rfl,_,rfl,_,_,rfl,rfl,rfl,_,rfl,?_⟩
  refine dW (by
    show(!decide (V.int (Builtin.bitAnd 1 1)=V.int 0))=true
    rw[uc];rfl) ?_
  refine⟨_,rfl,_,rfl,_,_,rfl,rfl,_,rfl,_,rfl,y,t,rfl,hS,by have:=lq hm;lia,lr ha hm,λv' H2 s2 HU=>?_⟩;refine⟨bZ,λq2 Fq=>?_⟩;dsimp only;rw[uc];have s3:=aj (o:=.tup [.int 1,v']) Fq;refine⟨bP (by lia),(sm.trans s2).trans s3,by lia,?_⟩;rw[GV];exact(EY.kept (s2.trans s3).ls).snoc (.shared rfl ah (HU.kept s3.ls))
 ·rintro ys H1 ⟨sm,hi,EY⟩ p hp;have s1:=aj (o:=.lst ys) hp;rw[QD (by lia)] at EY;have FF:=EY.length;have Ja:=EY.kept s1.ls;refine⟨_,rfl,p,ys,ts.map gz,[true,true],rfl,ak.of ah,by lia,by simp[FF],λd hd=>?_,by simp,λi x d H' s2 hx hd Q' kQ=>?_,λq H' s2 hq=>?_⟩
  ·obtain⟨t,_,rfl⟩:=QI hd;rfl
  ·obtain⟨t,ht,hO⟩:=Ja.get hx;rw[Qj,ht] at hd;cases (show some (gz t)=some d from hd);exact⟨x,t,rfl,hO.kept s2.ls,λq H2 s3 hq=>kQ q H2 s3 hq⟩
  ·rw[Ck (by lia) ha FF];have s3:=aj (o:=.lst ys) hq;exact kq q ys _ (((sm.trans s1).trans s2).trans s3) ah (Ja.kept (s2.trans s3).ls)
theorem Cn(T:All P w K mg AA DD):aI P w K mg base aK 5 AA.Zw DD.Zw ["tree","mask"] (i8 0):=by
 have no:∀vs H Q E,¬i8 0 vs H Q E:=λvs H Q E h=>by obtain⟨l,xs,ts,_,_,_,z,_⟩:=h;lia
 exact T.z_Zw.F.ok oQ (λvs H Q E h=>(no _ _ _ _ h).elim) (λE2 A outer s H vs Q E hr h=>(no _ _ _ _ h).elim)
theorem ue(T:All P w K mg AA DD):∀k:Nat,aI P w K mg base aK (2*k+5) AA.Zw DD.Zw ["tree","mask"] (i8 k)
 |0=>Cn T
 |k+1=>Cm T k (Ci T k (ue T k))
theorem ke{H:Hp}{d:Addr}{ob ob':HO}(h:H d=some ob)(n1:∀xs,ob≠.tup xs)(n2:∀xs,ob≠.lst xs)(n3:∀o x,ob≠.frz o x)(n4:∀ps,ob≠.tbl ps:=by intro _ z;cases z):ca H (upd H d ob'):=
 ⟨λb xs e=>(by rw[aE (λz=>by rw[z,h] at e;exact n1 _ (Qo e))];exact e),λb xs e=>(by rw[aE (λz=>by rw[z,h] at e;exact n2 _ (Qo e))];exact e),λb o xs e=>by rw[aE (λz=>by rw[z,h] at e;exact n3 _ _ (Qo e))];exact e,λb ps e=>by rw[aE (λz=>by rw[z,h] at e;exact n4 _ (Qo e))];exact e⟩
inductive uf (vs:List V) (H:Hp) (Q:VK) (E:XK):Prop
 |mk:∀m o:Nat,vs=[.int m,.int o]->Q (.int ((m^^^(m&&&o):Nat):Int)) H->uf vs H Q E
noncomputable abbrev Co:List Str:=["mask","other"]
theorem ug:be Co ["mask","other"] (aM nU):=⟨rfl,rfl,rfl,by decide +kernel,rfl,by decide +kernel,by decide +kernel⟩
theorem lV(T:All P w K mg AA DD):aI P w K mg base aK 1 AA.ZJ DD.ZJ ["mask","other"] uf:=by
 refine T.z_ZJ.F.ok ug (λvs H Q E h=>by cases h;subst_vars;rfl) λE2 A outer s H vs Q E hr h=>?_;obtain⟨m,o,rfl,k⟩:=h;have nd:=ug.nd;refine⟨_,(am (aP (aD p7 (pv 0) (aD iy (pv 0) (pv 1))))),?_⟩;refine⟨_,rfl,_,rfl,_,rfl,_,_,rfl,rfl,_,_,rfl,rfl,?_⟩;dsimp only;rw[qR,zx];exact k
theorem uh(a:V)(ys:List V):fB (a::ys) (some 1) none=ys:=by
 unfold fB;have h1:HT.sIx (a::ys).length 0 (some 1)=1:=by simp[HT.sIx]
 have h2:HT.sIx (a::ys).length (a::ys).length none=ys.length+1:=by simp[HT.sIx]
 rw[h1,h2];simp
theorem lW(z:Str)(l:List Str):fD (.str z) (l.map V.str)=decide (z∈l):=by
 induction l with
 |nil=>rfl
 |cons a r ih =>
  show((a==z)||fD (.str z) (r.map V.str))=_;rw[ih];by_cases h:a=z
  ·subst h;simp
  ·have:¬z=a:=λe=>h e.symm;simp[h,this]
theorem fM{z:Str}{zs:List Str}{b:Bool}(h:decide (z∈zs)=b):(if false=true then !fD (V.str z) (zs.map V.str) else fD (V.str z) (zs.map V.str))=b:=by rw[<-h];exact lW _ _
noncomputable def cJ(fs:List (List af)):List (List af×V):=fs.map λk=>(k,.int 1)
noncomputable def dJ(fs:List (List af))(k:List af):List (List af):=if(fs.any λd=>decide (d=k))=true then fs else fs++[k]
theorem ui(fs:List (List af))(k:List af):((cJ fs).any λkv=>decide (kv.1=k))=fs.any λd=>decide (d=k):=by unfold cJ;rw[List.any_map];rfl
theorem Cp(fs:List (List af))(k:List af):a8 (cJ fs) k (.int 1)=cJ (dJ fs k):=by
 unfold a8 dJ;rw[ui];split
 ·unfold cJ;rw[QX];refine QZ λd _=>?_;show(if d=k then(d,V.int 1) else(d,V.int 1))=_;split<;>rfl
 ·unfold cJ;rw[QL];rfl
theorem uj(fs:List (List af))(k:List af):bo (cJ fs) k=if(fs.any λd=>decide (d=k))=true then some (.int 1) else none:=by
 have h:=gS k (cJ fs);rw[ui] at h
 cases e:bo (cJ fs) k with
 |none=>rw[e] at h;rw[h];rfl
 |some v =>
  rw[e] at h;rw[h];have hm:∃d,(d,v)∈cJ fs:=by unfold bo at e;obtain⟨q,hq,rfl⟩:=Option.map_eq_some_iff.mp e;exact⟨q.1,List.mem_of_find?_eq_some hq⟩
  obtain⟨d,hd⟩:=hm;obtain⟨y,_,hy⟩:=QI hd;have:v=.int 1:=(Prod.mk.inj hy).2.symm;rw[this];rfl
inductive uk (vs:List V) (H:Hp) (Q:VK) (E:XK):Prop
 |mk:∀(d:Addr) (y:V) (m:Nat),vs=[.ref d,y,.int ((m:Nat):Int)]->mX H d->((m=0/\Q .non H)∨(m=1/\∃o H',bK H d y o/\(o=none∨o=some (.int 1))/\cS H d y (.int 1) H'/\Q .non H'))->uk vs H Q E
noncomputable abbrev Cq:List Str:=["found","key","mask"]
theorem um:be Cq ["found","key","mask"] (aM nW):=⟨rfl,rfl,rfl,by decide +kernel,rfl,by decide +kernel,by decide +kernel⟩
theorem oR(T:All P w K mg AA DD):aI P w K mg base aK 1 AA.ZO DD.ZO ["found","key","mask"] uk:=by
 refine T.z_ZO.F.ok um (λvs H Q E h=>by cases h;subst_vars;rfl) λE2 A outer s H vs Q E hr h=>?_;obtain⟨d,y,m,rfl,hI,h⟩:=h;have nd:=um.nd;have hu:_+1<cLine:=Qz (Nat.add_le_add_left (show 1<=16*0+200 by decide) _) (by have:=hr.un;omega);refine⟨_,(am (aS (aH fT (pv 2) ap (aL _)) (am (gT hu (pv 0) (pv 1) (aD p6 (iJ hu (pv 0) (pv 1) ap ⟨by rfl,by rfl,by rfl,by rfl⟩) (pv 2)) rfl)) a9)),?_⟩;refine⟨_,rfl,rfl,_,rfl,?_⟩
 rcases h with ⟨rfl,k⟩|⟨rfl,o,H',g,ho,hp,k⟩
 ·exact bO k
 ·refine dh ⟨_,rfl,d,rfl,hI,_,rfl,o,g,?_⟩;rcases ho with rfl|rfl<;>exact⟨_,rfl,_,_,rfl,rfl,_,rfl,_,rfl,d,H',rfl,hp,k⟩
noncomputable def _root_.Mm.Ex.kids:Ex->List Ex
 |.not e=>[e]
 |.op _ a b=>[a,b]
 |.of _ e=>[e]
 |.many _ _ es=>es
 |_=>[]
noncomputable def dL:List Str:=["num","truth","name"]
noncomputable def d8:List Str:=["do","new"]
theorem uo:∀z∈jX,z∉dL/\z∉d8/\z≠"of"/\z≠"name"/\z≠"do"/\z≠"new":=by decide +kernel
theorem oS:("not":Str)∉dL/\("not":Str)∉d8/\("not":Str)≠"of"/\("not":Str)≠"name"/\("not":Str)≠"do"/\("not":Str)≠"new":=by decide +kernel
theorem uq:("of":Str)∉dL/\("of":Str)∉d8/\("of":Str)≠"name"/\("of":Str)≠"do"/\("of":Str)≠"new":=by decide +kernel
theorem ur:∀w:Str,w="do"∨w="new"->w∉dL/\w∈d8/\w≠"name":=by rintro w (rfl|rfl)<;>decide +kernel
theorem Cr{e:Ex}(hg:e.good):∀x∈e.kids,x.good/\x.deep+1<=e.deep:=by
 cases e with
 |not e=>intro x h;simp[Ex.kids] at h;subst h;exact⟨hg,by simp[Ex.deep]⟩
 |of n e=>intro x h;simp[Ex.kids] at h;subst h;exact⟨hg,by simp[Ex.deep]⟩
 |op w a b =>
  intro x h;simp[Ex.kids] at h;rcases h with rfl|rfl
  ·exact⟨hg.2.1,by simp[Ex.deep];omega⟩
  ·exact⟨hg.2.2,by simp[Ex.deep];omega⟩
 |many w z es =>
  intro x h;have h:x∈es:=h;exact⟨nw hg.2.2 h,by have:=nv h;simp[Ex.deep];omega⟩
 |_=>intro x h;simp[Ex.kids] at h
inductive ut (vs:List V) (H:Hp) (Q:VK) (E:XK):Prop
 |mk:∀(v:V) (e:Ex),vs=[v]->bf H v e->e.good->(∀t ys H',Same H H'->H' t=some (.tup ys)->ExsAt H' ys e.kids->Q (.ref t) H')->ut vs H Q E
theorem uv{H:Hp}{v:V}{e:Ex}(h:bf H v e)(hp:e.good):∃(t:Addr) (z:Str) (ys:List V),v=.ref t/\H t=some (.tup (.str z::ys)) /\
  ((z∈dL/\e.kids=[])∨(z∉dL/\z∈d8/\∃y l vs,ys=[y,.ref l]/\H l=some (.tup vs)/\ExsAt H vs e.kids)∨(z∉dL/\z∉d8/\z="of"/\∃y x,ys=[y,x]/\ExsAt H [x] e.kids)∨(z∉dL/\z∉d8/\z≠"of"/\ExsAt H ys e.kids/\ys≠[])):=by
 cases h with
 |num h=>exact⟨_,_,_,rfl,h,.inl ⟨by decide,rfl⟩⟩
 |truth h=>exact⟨_,_,_,rfl,h,.inl ⟨by decide,rfl⟩⟩
 |name h=>exact⟨_,_,_,rfl,h,.inl ⟨by decide,rfl⟩⟩
 |not h a=>exact⟨_,_,_,rfl,h,.inr (.inr (.inr ⟨oS.1,oS.2.1,oS.2.2.1,.cons a .nil,by simp⟩))⟩
 |op h a b=>have q:=uo _ hp.1;exact⟨_,_,_,rfl,h,.inr (.inr (.inr ⟨q.1,q.2.1,q.2.2.1,.cons a (.cons b .nil),by simp⟩))⟩
 |of h a=>exact⟨_,_,_,rfl,h,.inr (.inr (.inl ⟨uq.1,uq.2.1,rfl,_,_,rfl,.cons a .nil⟩))⟩
 |many h l a=>have q:=ur _ hp.1;exact⟨_,_,_,rfl,h,.inr (.inl ⟨q.1,q.2.1,_,_,_,rfl,l,a⟩)⟩
noncomputable abbrev Cs:List Str:=["e"]
theorem uw:be Cs ["e"] (aM n6):=⟨rfl,rfl,rfl,by decide +kernel,rfl,by decide +kernel,by decide +kernel⟩
theorem Ct(T:All P w K mg AA DD):aI P w K mg base aK 1 AA.ZF DD.ZF ["e"] ut:=by
 refine T.z_ZF.F.ok uw (λvs H Q E h=>by cases h;subst_vars;rfl) λE2 A outer s H vs Q E hr h=>?_;obtain⟨v,e,rfl,hE,Fx,k⟩:=h;have nd:=uw.nd;refine⟨_,(ar (aS (aH j3 (au (pv 0)) (aX (ae al (ae al (ae al ag)))) rfl) (am (aP (aX ag))) a9) (ar (aS (aH j3 (au (pv 0)) (aX (ae al (ae al ag))) rfl) (am (aP (au (pv 0)))) a9) (ar (aS (aH aV (au (pv 0)) al (aL _)) (am (aP (aX (ae (au (pv 0)) ag)))) a9) (am (aP (gm su (pv 0) (gl ap) gk)))))),?_⟩;obtain⟨t,z,ys,rfl,ht,hc⟩:=uv hE Fx;refine az 0 rfl ht rfl ⟨cQ,λpt Gk=>⟨pt,dL.map V.str,rfl,.inr (aq.of ah),rfl,rfl,_,rfl,?_⟩⟩;have s1:=aj (o:=.tup (dL.map V.str)) Gk;by_cases hz:z∈dL
 ·refine dW (fM (Qv hz)) ?_;refine⟨cP,λp hp=>?_⟩
  have hk:e.kids=[]:=by
   rcases hc with ⟨_,q⟩|⟨q,_⟩|⟨q,_⟩|⟨q,_⟩
   ·exact q
   ·exact absurd hz q
   ·exact absurd hz q
   ·exact absurd hz q
  exact k p _ _ (s1.trans (aj hp)) ah (by rw[hk];exact .nil)
 refine cN (fM (Qi hz)) ?_;refine az 0 rfl (s1 _ _ ht) rfl ⟨bZ,λpu hpu=>⟨pu,d8.map V.str,rfl,.inr (aq.of ah),rfl,rfl,_,rfl,?_⟩⟩;have s2:=s1.trans (aj (o:=.tup (d8.map V.str)) hpu);have Fz:=s2 _ _ ht
 rcases hc with ⟨q,_⟩|⟨_,n2,y,l,vs,rfl,hl,hvs⟩|⟨_,n2,n3,y,x,rfl,hx⟩|⟨_,n2,n3,hk,hn⟩
 ·exact absurd q hz
 ·refine dW (fM (Qv n2)) ?_;refine az 2 rfl Fz rfl ?_;exact k l vs _ s2 (s2 _ _ hl) (hvs.kept s2.tups)
 ·refine cN (fM (Qi n2)) ?_;refine az 0 rfl Fz rfl ⟨rfl,_,rfl,?_⟩;refine dW (Qv (by rw[n3])) ?_;refine az 2 rfl Fz rfl ⟨eM,λp hp=>?_⟩;have s3:=s2.trans (aj (o:=.tup [x]) hp);exact k p _ _ s3 ah (hx.kept s3.tups)
 ·refine cN (fM (Qi n2)) ?_;refine az 0 rfl Fz rfl ⟨rfl,_,rfl,?_⟩;refine cN (Qi λq=>n3 (by injection q)) ?_;refine⟨_,rfl,_,rfl,t,_,rfl,aq.of Fz,?_,λp hp=>?_⟩
  ·rintro⟨q,_⟩;simp[HT.sIx] at q
  rw[uh];have s3:=s2.trans (aj (o:=.tup ys) hp);exact k p _ _ s3 ah (hk.kept s3.tups)
noncomputable def _root_.Mm.Tr.kw:Tr->Str
 |.set _ _ _=>"set"
 |.tell _ _=>"tell"
 |.iff _ _ _ _=>"if"
 |.whl _ _ _=>"while"
 |.give _ _=>"give"
 |.df _ _ _ _ _=>"def"
 |.kd _ _ _=>"kind"
noncomputable def _root_.Mm.Tr.ex:Tr->Option Ex
 |.set _ _ e=>some e
 |.tell _ e=>some e
 |.iff _ e _ _=>some e
 |.whl _ e _=>some e
 |.give _ e=>some e
 |.df _ _ _ _ _=>none
 |.kd _ _ _=>none
noncomputable def _root_.Mm.Tr.blocks:Tr->List (List Tr)
 |.iff _ _ b o=>[b,o]
 |.whl _ _ b=>[b]
 |.df _ _ _ _ b=>[b]
 |_=>[]
noncomputable def eV:bL->Bool
 |.b _=>true
 |_=>false
theorem ux(t:Tr):t.parts.filter eV=t.blocks.map bL.b:=by cases t<;>rfl
theorem uy{t:Tr}{e:Ex}(h:t.ex=some e):t.kw≠"def"/\t.kw≠"kind":=by cases t<;>first|(simp only[Tr.kw];decide +kernel)|cases h
theorem oT{H:Hp}{sh:Bool}{vs:List V}{t:Tr}(h:PsAt H sh vs t.parts):∃(r:List V),vs=.str t.kw::.int ((t.row:Nat):Int)::r:=by
 have g:∃ps,t.parts=.s t.kw::.i t.row::ps:=by cases t<;>exact⟨_,rfl⟩
 obtain⟨ps,e⟩:=g;rw[e] at h;obtain⟨r,e2,_⟩:=dI h;exact⟨r,e2⟩
inductive uz (vs:List V) (H:Hp) (Q:VK) (E:XK):Prop
 |mk:∀(v:V) (t:Tr) (e:Ex),vs=[v]->bW H true v t->t.ex=some e->(∀x,bf H x e->Q x H)->uz vs H Q E
noncomputable abbrev Cu:List Str:=["one"]
theorem uA:be Cu ["one"] (aM n0):=⟨rfl,rfl,rfl,by decide +kernel,rfl,by decide +kernel,by decide +kernel⟩
theorem Cv(T:All P w K mg AA DD):aI P w K mg base aK 1 AA.ZK DD.ZK ["one"] uz:=by
 refine T.z_ZK.F.ok uA (λvs H Q E h=>by cases h;subst_vars;rfl) λE2 A outer s H vs Q E hr h=>?_;obtain⟨v,t,e0,rfl,hS,hx0,k⟩:=h;have nd:=uA.nd
 obtain⟨t0,vs,j,x,ev,ht,h0,hj,hx,hb⟩:∃t0 vs j x,v=.ref t0/\H t0=some (.tup vs)/\vs[0]?=some (.str t.kw)/\vs[j]?=some x/\bf H x e0/\((t.kw="set"/\j=3)∨(t.kw≠"set"/\j=2)):=by
  cases t with
  |set r n e=>cases hx0;obtain⟨t0,ve,e1,ht,hx⟩:=tR hS;exact⟨t0,_,3,ve,e1,ht,rfl,rfl,hx,.inl ⟨rfl,rfl⟩⟩
  |tell r e=>cases hx0;obtain⟨t0,ve,e1,ht,hx⟩:=B2 hS;exact⟨t0,_,2,ve,e1,ht,rfl,rfl,hx,.inr ⟨by show("tell":Str)≠"set";decide,rfl⟩⟩
  |iff r e b o=>cases hx0;obtain⟨t0,ve,_,_,_,_,e1,ht,hx,_⟩:=B4 hS;exact⟨t0,_,2,ve,e1,ht,rfl,rfl,hx,.inr ⟨by show("if":Str)≠"set";decide,rfl⟩⟩
  |whl r e b=>cases hx0;obtain⟨t0,ve,_,_,e1,ht,hx,_⟩:=B5 hS;exact⟨t0,_,2,ve,e1,ht,rfl,rfl,hx,.inr ⟨by show("while":Str)≠"set";decide,rfl⟩⟩
  |give r e=>cases hx0;obtain⟨t0,ve,e1,ht,hx⟩:=B3 hS;exact⟨t0,_,2,ve,e1,ht,rfl,rfl,hx,.inr ⟨by show("give":Str)≠"set";decide,rfl⟩⟩
  |df r n k ps b=>cases hx0
  |kd r n ps=>cases hx0
 subst ev;refine⟨_,(am (aP (kG (aH aV (au (pv 0)) al (aL _)) (au (pv 0)) (au (pv 0))))),?_⟩;refine⟨_,rfl,t0,_,_,_,rfl,rfl,aq.of ht,bH (j:=0) h0,rfl,_,rfl,?_⟩;rcases hb with ⟨hw,e⟩|⟨hw,e⟩<;>subst e
 ·exact dW (Qv (by rw[hw])) ⟨_,rfl,t0,_,_,_,rfl,rfl,aq.of ht,bH (j:=3) hj,k _ hx⟩
 ·exact cN (Qi λz=>hw (by injection z)) ⟨_,rfl,t0,_,_,_,rfl,rfl,aq.of ht,bH (j:=2) hj,k _ hx⟩
inductive uB (vs:List V) (H:Hp) (Q:VK) (E:XK):Prop
 |mk:∀(v:V) (t:Tr),vs=[v]->bW H true v t->(∀p ys H',Same H H'->H' p=some (.lst ys)->PsAt H' true ys (t.blocks.map bL.b)->Q (.ref p) H')->uB vs H Q E
noncomputable abbrev uC:List Str:=["one"]
theorem uD:be uC ["one"] (aM lO):=⟨rfl,rfl,rfl,by decide +kernel,rfl,by decide +kernel,by decide +kernel⟩
theorem Cw(T:All P w K mg AA DD):aI P w K mg base aK 1 AA.Zy DD.Zy ["one"] uB:=by
 refine T.z_Zy.F.ok uD (λvs H Q E h=>by cases h;subst_vars;rfl) λE2 A outer s H vs Q E hr h=>?_;obtain⟨v,t,rfl,hS,k⟩:=h;have nd:=uD.nd;refine⟨_,(am (aP (fX (aM lO) uC [] [] rfl (by exact⟨rfl,rfl,by decide +kernel,rfl,by decide +kernel,by decide +kernel,by decide +kernel,rfl,by decide +kernel⟩) rfl rfl (gx (pv 0)) (λ_ _ _ _=>kO (mo (ci (lu (K:=K) (n:="list") rfl) rfl T.n_isinstance kP (ae (pv 0) (ae (kF (v:=.ty "list") rfl T.n_list gR rfl) ag))))) (λ_ _ _ _=>(pv 0))))),?_⟩
 cases hS with
 | @mk t0 xs _ ht F1 =>
 refine⟨_,rfl,t0,rfl,⟨_,aq.of ht⟩,?_⟩;have Fx:=t.parts_len;have Ih:=F1.length;refine jQ (K:=K0) (a:=t0) (xs:=xs) (λi ys H'=>H'=H/\i<=xs.length/\ys.length<=i/\PsAt H true ys ((t.parts.take i).filter eV)) ⟨rfl,QC _,QC _,by simpa using PsAt.nil⟩ (λi ys H' _ h=>by rw[h.1];exact aq.of ht) ?_ ?_
 ·rintro i x ys H1 hx ⟨rfl,hi,hy,EY⟩;obtain⟨p,hp,hP⟩:=F1.get hx;have hilt:=(Qc hx).1;have Fm:i<t.parts.length:=by lia
  have GV:(t.parts.take (i+1)).filter eV=(t.parts.take i).filter eV++[p].filter eV:=by rw[Qm Fm,List.filter_append];rw[Qa Fm] at hp;rw[Qo hp]
  rcases hP.isL (K:=K) with ⟨bs,l,zs,e1,e2,hl,hL,ty,kb⟩|⟨nb,ty0,ty,kb⟩
  ·subst e1 e2;refine⟨_,rfl,_,_,true,rfl,ty,kb,_,rfl,dh ?_⟩;refine⟨_,rfl,bP (by lia),rfl,by lia,by simp;lia,?_⟩;rw[GV];exact EY.snoc hP
  ·refine⟨_,rfl,_,_,false,rfl,ty,kb,_,rfl,bO ?_⟩;refine⟨rfl,by lia,by lia,?_⟩;rw[GV]
   have:[p].filter eV=[]:=by
    cases p with
    |b ts=>exact absurd rfl (nb ts)
    |s z=>rfl
    |i n=>rfl
    |e x=>rfl
    |p x=>rfl
   rw[this,Qy];exact EY
 ·rintro ys H1 ⟨rfl,hi,hy,EY⟩ p hp;rw[QD (by lia),ux] at EY;have s1:=aj (o:=.lst ys) hp;exact k p ys _ s1 ah (EY.kept s1.ls)
noncomputable def _root_.Mm.Tr.hd:Tr->Option (Str×Str)
 |.df _ n _ _ _=>some ("def",n)
 |.kd _ n _=>some ("kind",n)
 |_=>none
noncomputable def bU(k:Str×Str)(ts:List Tr):Option Tr:=ts.find? λt=>decide (t.hd=some k)
noncomputable def fh(k:Str×Str):List af:=[.inr k.1,.inr k.2]
theorem Cy{a b:Str×Str}(h:fh a=fh b):a=b:=by simp[fh] at h;exact Prod.ext h.1 h.2
noncomputable def gA:List Str:=["def","kind"]
theorem uE{H:Hp}{sh:Bool}{vs:List V}{t:Tr}(h:PsAt H sh vs t.parts):(t.kw∉gA/\t.hd=none)∨(t.kw∈gA/\∃z r,t.hd=some (t.kw,z)/\vs=.str t.kw::.int ((t.row:Nat):Int)::.str z::r):=by
 have g:(t.kw∉gA/\t.hd=none)∨(t.kw∈gA/\∃z ps,t.hd=some (t.kw,z)/\t.parts=.s t.kw::.i t.row::.s z::ps):=by
  cases t with
  |df r n k ps b=>exact .inr ⟨by simp only[Tr.kw];decide +kernel,n,_,rfl,rfl⟩
  |kd r n ps=>exact .inr ⟨by simp only[Tr.kw];decide +kernel,n,_,rfl,rfl⟩
  |_=>exact .inl ⟨by simp only[Tr.kw];decide +kernel,rfl⟩
 rcases g with g|⟨g1,z,ps,g2,g3⟩
 ·exact .inl g
 ·rw[g3] at h;obtain⟨r,e,h⟩:=dI h;obtain⟨a,r',e',h1,h⟩:=cB h;exact .inr ⟨g1,z,r',g2,by rw[e,e',ff h1]⟩
noncomputable def _root_.Mm.Tr.prs:Tr->List (Str×Str)
 |.df _ _ _ ps _=>ps
 |.kd _ _ ps=>ps
 |_=>[]
inductive uF (vs:List V) (H:Hp) (Q:VK) (E:XK):Prop
 |mk:∀(v:V) (t:Tr),vs=[v]->bW H true v t->t.hd≠none->(∀x,fY H x t.prs->Q x H)->uF vs H Q E
noncomputable abbrev Cz:List Str:=["one"]
theorem uG:be Cz ["one"] (aM nZ):=⟨rfl,rfl,rfl,by decide +kernel,rfl,by decide +kernel,by decide +kernel⟩
theorem CA(T:All P w K mg AA DD):aI P w K mg base aK 1 AA.ZE DD.ZE ["one"] uF:=by
 refine T.z_ZE.F.ok uG (λvs H Q E h=>by cases h;subst_vars;rfl) λE2 A outer s H vs Q E hr h=>?_;obtain⟨v,t,rfl,hS,hn,k⟩:=h;have nd:=uG.nd
 obtain⟨t0,vs,j,x,ev,ht,h0,hj,hp,hb⟩:∃t0 vs j x,v=.ref t0/\H t0=some (.tup vs)/\vs[0]?=some (.str t.kw)/\vs[j]?=some x/\fY H x t.prs/\((t.kw="def"/\j=4)∨(t.kw≠"def"/\j=3)):=by
  cases t with
  |df r n kd ps b=>obtain⟨t0,vp,_,_,e1,ht,hp,_⟩:=tS hS;exact⟨t0,_,4,vp,e1,ht,rfl,rfl,hp,.inl ⟨rfl,rfl⟩⟩
  |kd r n ps=>obtain⟨t0,vp,e1,ht,hp⟩:=B6 hS;exact⟨t0,_,3,vp,e1,ht,rfl,rfl,hp,.inr ⟨by show("kind":Str)≠"def";decide,rfl⟩⟩
  |_=>exact absurd rfl hn
 subst ev;refine⟨_,(am (aP (kG (aH aV (au (pv 0)) al (aL _)) (au (pv 0)) (au (pv 0))))),?_⟩;refine⟨_,rfl,t0,_,_,_,rfl,rfl,aq.of ht,bH (j:=0) h0,rfl,_,rfl,?_⟩;rcases hb with ⟨hw,e⟩|⟨hw,e⟩<;>subst e
 ·exact dW (Qv (by rw[hw])) ⟨_,rfl,t0,_,_,_,rfl,rfl,aq.of ht,bH (j:=4) hj,k _ hp⟩
 ·exact cN (Qi λz=>hw (by injection z)) ⟨_,rfl,t0,_,_,_,rfl,rfl,aq.of ht,bH (j:=3) hj,k _ hp⟩
inductive LO (H:Hp):List V->Option V->Prop where
 |n:LO H [] none
 |s {t:Addr} {v:V}:H t=some (.tup [.int 1,v])->LO H [.ref t] (some v)
theorem LO.kept{H H':Hp}{xs:List V}{o:Option V}(h:LO H xs o)(s:ca H H'):LO H' xs o:=by
 cases h with
 |n=>exact .n
 |s h=>exact .s (s.1 _ _ h)
noncomputable def on(o:Option V):Nat:=if o.isSome then 1 else 0
inductive uH (vs:List V) (H:Hp) (Q:VK) (E:XK):Prop
 |mk:∀(p:Addr) (xs:List V) (o:Option V),vs=[.ref p]->H p=some (.lst xs)->LO H xs o->Q (.int ((on o:Nat):Int)) H->uH vs H Q E
noncomputable abbrev CB:List Str:=["pairs","found","mask","value"]
theorem uI:be CB ["pairs"] (aM nV):=⟨rfl,rfl,rfl,by decide +kernel,rfl,by decide +kernel,by decide +kernel⟩
theorem uJ(T:All P w K mg AA DD):aI P w K mg base aK 1 AA.ZN DD.ZN ["pairs"] uH:=by
 refine T.z_ZN.F.ok uI (λvs H Q E h=>by cases h;subst_vars;rfl) λE2 A outer s H vs Q E hr h=>?_;obtain⟨l,xs,o,rfl,hl,hx,k⟩:=h;have nd:=uI.nd;refine⟨_,(ar (aU (i:=1) nd rfl (Or.inl rfl) ap) (ar (db PassesOwn.never rfl (c7 (pv 0)) (dF rfl (bv (ba (i:=2) nd rfl (Or.inl rfl)) (bv (ba (i:=3) nd rfl (Or.inl rfl)) dz))) (am (aU (i:=1) nd rfl (Or.inl rfl) (aD p6 (pv 1) (pv 2)))) (by intro _;rfl)) (am (aP (pv 1))))),?_⟩;refine mY ?_;dsimp only[aR];refine eZ (λσ' H'=>H'=H/\∃s2 s3:Option V,σ'=[some (.ref l),some (.int ((on o:Nat):Int)),s2,s3]) (λR hRR=>?_) ?_
 ·refine⟨_,rfl,l,rfl,⟨_,ak.of hl⟩,?_⟩;refine fc (K:=K0) (a:=l) (xs:=xs) (λi σ' H'=>H'=H/\∃s2 s3:Option V,σ'=[some (.ref l),some (.int (if i=0 then 0 else 1)),s2,s3]) ⟨rfl,none,none,rfl⟩ (λi σ' H' _ hsl79=>by obtain⟨e,_⟩:=hsl79;rw[e];exact ak.of hl) ?_ ?_
  ·rintro i x σ' H1 hi ⟨rfl,s2,s3,rfl⟩ D1 hN
   cases hx with
   |n=>simp at hi
   | @s t v ht =>
   cases i with
   |succ i=>simp at hi
   |zero =>
   cases hi;exact⟨t,_,rfl,aq.of ht,rfl,_,_,rfl,_,_,rfl,rfl,_,rfl,_,rfl,_,_,rfl,rfl,hN _ _ ⟨rfl,_,_,rfl⟩⟩
  ·rintro σ' H1 ⟨rfl,s2,s3,rfl⟩;refine hRR _ _ ⟨rfl,s2,s3,?_⟩;cases hx<;>rfl
 ·rintro σ' H1 ⟨rfl,s2,s3,rfl⟩;exact⟨_,rfl,k⟩
inductive uK (vs:List V) (H:Hp) (Q:VK) (E:XK):Prop
 |mk:∀(p:Addr) (xs:List V) (o:Option V) (m:Nat),vs=[.ref p,.int ((m:Nat):Int)]->m<=1->H p=some (.lst xs)->LO H xs o->(∀q ys H',Same H H'->H' q=some (.lst ys)->LO H' ys (if m=0 then none else o)->Q (.ref q) H')->uK vs H Q E
noncomputable abbrev uL:List Str:=["pairs","mask"]
theorem uM:be uL ["pairs","mask"] (aM lI):=⟨rfl,rfl,rfl,by decide +kernel,rfl,by decide +kernel,by decide +kernel⟩
theorem uN(T:All P w K mg AA DD):aI P w K mg base aK 1 AA.Zr DD.Zr ["pairs","mask"] uK:=by
 refine T.z_Zr.F.ok uM (λvs H Q E h=>by cases h;subst_vars;rfl) λE2 A outer s H vs Q E hr h=>?_;obtain⟨p,xs,o,m,rfl,hm,hp,hx,k⟩:=h;have nd:=uM.nd;refine⟨_,(am (aP (jM (xs:=["there","value"]) (aM lI) uL ["mask"] [1] rfl (by exact⟨rfl,rfl,by decide +kernel,by decide +kernel,by decide +kernel,by decide +kernel,by decide +kernel,rfl,by decide +kernel⟩) rfl rfl (c7 (pv 0)) (λ_ _ _ _=>(dF (n:=2) rfl (bv (ba (i:=0) (show(["there","value","mask"]:List Str).Nodup by decide +kernel) rfl (Or.inl rfl)) (bv (ba (i:=1) (show(["there","value","mask"]:List Str).Nodup by decide +kernel) rfl (Or.inl rfl)) dz)))) (λ_ _ _ _=>kO (aH fT (aD iy (pv 0) (pv 2)) ap (aL _))) (λ_ _ _ _=>(aX (ae (aD iy (pv 0) (pv 2)) (ae (pv 1) ag))))))),?_⟩;refine⟨_,rfl,p,rfl,⟨_,ak.of hp⟩,?_⟩;refine kY (K:=K0) (a:=p) (xs:=xs) (λi ys H'=>Same H H'/\LO H' ys (if i=0∨m=0 then none else o)) ⟨Same.refl _,.n⟩ (λi ys H' _ hsl80=>by obtain⟨e,_⟩:=hsl80;exact ak.of (e _ _ hp)) ?_ ?_
 ·rintro i x ys H1 hi ⟨sm,hy⟩
  cases hx with
  |n=>simp at hi
  | @s t v ht =>
  cases i with
  |succ i=>simp at hi
  |zero =>
  cases hi;cases hy;intro os FO;obtain⟨a,b,rfl⟩:=iW FO;refine⟨t,_,rfl,aq.of (sm _ _ ht),rfl,_,_,rfl,_,_,rfl,rfl,⟨[_,_],rfl,rfl⟩,?_⟩;refine⟨_,rfl,_,rfl,_,_,rfl,rfl,rfl,_,rfl,?_⟩;rcases Nat.le_one_iff_eq_zero_or_eq_one.mp hm with rfl|rfl
  ·exact bO ⟨sm,.n⟩
  ·refine dh ⟨_,rfl,_,rfl,_,_,rfl,rfl,_,rfl,bZ,λt2 Fz=>?_⟩;exact⟨bP (by decide),sm.trans (aj Fz),.s ah⟩
 ·rintro ys H1 ⟨sm,hy⟩ q hq;have sq:=aj (o:=.lst ys) hq;refine k q ys _ (sm.trans sq) ah ?_
  have e:(if xs.length=0∨m=0 then none else o)=if m=0 then none else o:=by
   cases hx with
   |n=>split<;>split<;>rfl
   |s h=>simp
  rw[e] at hy;exact hy.kept sq.ls
inductive FT (H:Hp):Option V->Option Tr->Prop where
 |n:FT H none none
 |s {v:V} {t:Tr}:bW H true v t->FT H (some v) (some t)
theorem FT.kept{H H':Hp}{o:Option V}{t:Option Tr}(h:FT H o t)(s:ca H H'):FT H' o t:=by
 cases h with
 |n=>exact .n
 |s h=>exact .s (h.kept s)
def CC(H:Hp)(x:Option V)(t:Option Tr):Prop:=(x=none/\t=none)∨∃p xs o,x=some (.ref p)/\H p=some (.lst xs)/\LO H xs o/\FT H o t
def eK(H:Hp)(F:List (List af×V))(tt:List Tr):Prop:=∀k:Str×Str,CC H (bo F (fh k)) (bU k tt)
theorem eK.kept{H H':Hp}{F:List (List af×V)}{tt:List Tr}(h:eK H F tt)(s:ca H H'):eK H' F tt:=λk=>(h k).imp_right λhsl81=>by obtain⟨p,xs,o,a,b,c,d⟩:=hsl81;exact⟨p,xs,o,a,s.2 _ _ b,c.kept s,d.kept s⟩
theorem oU{H:Hp}{F:List (List af×V)}{tt:List Tr}(hF:eK H F tt){a z:Str}{q q2:Addr}(hq:H q=none)(Fq:upd H q (.tup [.str a,.str z]) q2=none):∃l3 xs o,(bo F (fh (a,z))).getD (V.ref q2)=.ref l3/\upd (upd H q (.tup [.str a,.str z])) q2 (.lst []) l3=some (.lst xs)/\LO (upd (upd H q (.tup [.str a,.str z])) q2 (.lst [])) xs o/\FT (upd (upd H q (.tup [.str a,.str z])) q2 (.lst [])) o (bU (a,z) tt):=by
 have FQ:=(aj (o:=.tup [.str a,.str z]) hq).trans (aj (o:=.lst []) Fq)
 rcases hF (a,z) with ⟨e1,e2⟩|⟨p',xs,o,e1,e2,e3,e4⟩
 ·exact⟨q2,[],none,by rw[e1];rfl,ah,.n,by rw[e2];exact .n⟩
 ·exact⟨p',xs,o,by rw[e1];rfl,FQ _ _ e2,e3.kept FQ.ls,e4.kept FQ.ls⟩
theorem uP(k:Str×Str)(ts:List Tr)(t:Tr):bU k (ts++[t])=(bU k ts).or (if t.hd=some k then some t else none):=by unfold bU;rw[List.find?_append];by_cases h:t.hd=some k<;>simp[h]
inductive uQ (vs:List V) (H:Hp) (Q:VK) (E:XK):Prop
 |mk:∀(l:Addr) (xs:List V) (ts:List Tr),vs=[.ref l]->H l=some (.lst xs)->LAt H true xs ts->ts.length<=50->(∀d F H',Same H H'->H' d=some (.dT F)->eK H' F ts->Q (.ref d) H')->uQ vs H Q E
theorem lX(o:Option V):(1^^^(1&&&on o):Nat)=if o.isSome then 0 else 1:=by cases o<;>simp[on]
theorem CD{H:Hp}{xs ys:List V}{o:Option V}{x:Option Tr}{v:V}{t:Tr}(hx:LO H xs o)(hf:FT H o x)(hv:bW H true v t)(hy:LO H ys (if(1^^^(1&&&on o):Nat)=0 then none else some v)):∃o',LO H (xs++ys) o'/\FT H o' (x.or (some t))/\(xs++ys).length<=1:=by
 cases hf with
 |n=>cases hx;rw[lX] at hy;cases hy with|s g=>exact⟨_,.s g,.s hv,Qh _⟩
 |s h=>rw[lX] at hy;cases hx with|s g=>cases hy;exact⟨_,.s g,.s h,Qh _⟩
noncomputable abbrev CF:List Str:=["tree","found","mask","one","key","rows"]
theorem uR:be CF ["tree"] (aM nY):=⟨rfl,rfl,rfl,by decide +kernel,rfl,by decide +kernel,by decide +kernel⟩
theorem CG(T:All P w K mg AA DD):aI P w K mg base aK 2 AA.Zt DD.Zt ["tree"] uQ:=by
 have GA:=uJ (base:=base) T;have GN:=lV (base:=base) T;have GB:=uN (base:=base) T;refine T.z_Zt.F.ok uR (λvs H Q E h=>by cases h;subst_vars;rfl) λE2 A outer s H vs Q E hr h=>?_;obtain⟨l,xs,ts,rfl,hl,hL,h50,kq⟩:=h;have nd:=uR.nd;have Fd:aB 1 _:=hr;have hu:=Qz (Nat.add_le_add_left (show 1<=64 by decide) _) hr.units;refine⟨_,(ar (aU (i:=1) nd rfl (Or.inl rfl) (rn)) (ar (db PassesOwn.never rfl (c7 (pv 0)) (dF rfl (bv (ba (i:=2) nd rfl (Or.inl rfl)) (bv (ba (i:=3) nd rfl (Or.inl rfl)) dz))) (am (aS (aH j3 (au (pv 3)) (aX (ae al (ae al ag))) rfl) (ar (aU (i:=4) nd rfl (Or.inl rfl) (aX (ae (au (pv 3)) (ae (au (pv 3)) ag)))) (ar (aU (i:=5) nd rfl (Or.inl rfl) (iJ hu (pv 1) (pv 4) (bJ ag) ⟨by rfl,by rfl,by rfl,by rfl⟩)) (am (gT hu (pv 1) (pv 4) (aD fW (pv 5) (aG GB Fd rfl T.z_Zr (ae (bJ (ae (aX (ae (pv 2) (ae (pv 3) ag))) ag)) (ae (aG GN Fd rfl T.z_ZJ (ae (pv 2) (ae (aG GA Fd rfl T.z_ZN (ae (pv 5) ag)) ag))) ag)))) rfl)))) a9)) (by intro _;rfl)) (am (aP (pv 1))))),?_⟩;dsimp only[cZ];refine λd hd=>?_;have s1:=aj (o:=.dT []) hd;dsimp only[aR];have Ih:=hL.length;refine eZ (λσ' H'=>(∃F,H' d=some (.dT F)/\eK H' F ts)/\(∀a,a≠d->∀o,H a=some o->H' a=some o)/\∃x2 x3 x4 x5,σ'=[some (.ref l),some (.ref d),x2,x3,x4,x5]) (λR hR=>?_) ?_
 ·refine⟨_,rfl,l,rfl,⟨_,ak.of (s1 _ _ hl)⟩,?_⟩;refine fc (K:=K0) (a:=l) (xs:=xs) (λi σ' H'=>(∃F,H' d=some (.dT F)/\eK H' F (ts.take i)/\F.length<=i)/\(∀a,a≠d->∀o,H a=some o->H' a=some o)/\∃x2 x3 x4 x5,σ'=[some (.ref l),some (.ref d),x2,x3,x4,x5]) ⟨⟨[],ah,λk=>.inl ⟨rfl,rfl⟩,Qh _⟩,λa ha o h=>by rw[aE ha];exact h,_,_,_,_,rfl⟩ (λi σ' H' _ h=>ak.of (h.2.1 _ (λz=>by rw[z] at hl;rw[hl] at hd;cases hd) _ hl)) ?_ ?_
  ·rintro i x σ' H1 hx ⟨⟨F,hF,hFs,hFl⟩,sm,x2,x3,x4,x5,rfl⟩ D1 hN;obtain⟨t,ht,hO⟩:=hL.get hx
   have ls1:ca H H1:=⟨λb xs h=>sm b (λz=>by rw[z,hd] at h;cases h) _ h,λb xs h=>sm b (λz=>by rw[z,hd] at h;cases h) _ h,λb o x h=>sm b (λz=>by rw[z,hd] at h;cases h) _ h,λb x h=>sm b (λz=>by rw[z,hd] at h;cases h) _ h⟩
   have hO1:=hO.kept ls1;obtain⟨hit,et⟩:=Qc ht;rw[Qm hit,et] at hN
   cases hO1 with
   |plain e _=>cases e
   | @shared p y _ _ hp hS =>
   have hS0:=hS
   cases hS with
   | @mk t0 vs _ Hl F1 =>
   have hda:=uE F1;obtain⟨vr,rfl⟩:=oT F1;refine⟨p,_,rfl,aq.of hp,rfl,_,_,rfl,_,_,rfl,rfl,?_⟩;refine az 0 rfl Hl rfl ⟨bZ,λpt Gk=>⟨pt,gA.map V.str,rfl,.inr (aq.of ah),rfl,rfl,_,rfl,?_⟩⟩;have s2:=aj (o:=.tup [V.str "def",V.str "kind"]) Gk
   rcases hda with ⟨hh,hn⟩|⟨hh,z,r,hz,ev⟩
   ·refine cN (fM (Qi hh)) ?_;refine hN _ _ ⟨⟨F,s2 _ _ hF,λk=>?_,by lia⟩,λa ha o h=>s2 _ _ (sm a ha o h),_,_,_,_,rfl⟩;rw[uP,hn,if_neg (by simp),Option.or_none];exact hFs.kept s2.ls k
   ·refine dW (fM (Qv hh)) ?_;have ev2:vr=.str z::r:=by injection ev with _ q;injection q
    subst ev2;have hF2:=s2 _ _ hF;have Fz:=s2 _ _ Hl;have hFs2:=hFs.kept s2.ls;have sm2:∀a,a≠d->∀o,H a=some o->upd H1 pt (.tup [V.str "def",V.str "kind"]) a=some o:=λa ha o h=>s2 _ _ (sm a ha o h);have HU:=hS0.kept s2.ls;generalize upd H1 pt (.tup [V.str "def",V.str "kind"])=H2 at Fz hF2 hFs2 sm2 HU ⊢;refine az 0 rfl Fz rfl (az 2 rfl Fz rfl ⟨bZ,λq hq=>?_⟩);have s3:=aj (o:=.tup [.str t.kw,.str z]) hq;dsimp only[aR];refine⟨_,rfl,d,rfl,.inr ⟨F,.inl (s3 _ _ hF2)⟩,_,rfl,cP,λq2 Fq=>?_⟩;have s4:=aj (o:=.lst []) Fq;have IA:=s3.trans s4;have F9:upd (upd H2 q (.tup [.str t.kw,.str z])) q2 (.lst []) q=some (.tup ((fh (t.kw,z)).map kV)):=s4 _ _ ah;refine⟨_,bK.t (k:=fh (t.kw,z)) (IA _ _ hF2) F9,?_⟩;obtain⟨l3,ws,o,el3,Hw,EV,hft⟩:=oU hFs2 hq Fq;rw[el3];have hS4:=HU.kept IA.ls;have hF4:=IA _ _ hF2;have hFs4:=hFs2.kept IA.ls;have sm4:∀a,a≠d->∀o,H a=some o->upd (upd H2 q (.tup [.str t.kw,.str z])) q2 (.lst []) a=some o:=λa ha o h=>IA _ _ (sm2 a ha o h);generalize upd (upd H2 q (.tup [.str t.kw,.str z])) q2 (.lst [])=H4 at F9 Hw EV hft hS4 hF4 hFs4 sm4 ⊢;dsimp only[aR];refine⟨_,rfl,_,rfl,_,rfl,bZ,λtp IM=>⟨eM,λlp IU=>?_⟩⟩;have s6:=aj (o:=.lst [.ref tp]) IU;have s56:=(aj (o:=.tup [.int 1,.ref t0]) IM).trans s6;refine⟨_,rfl,_,rfl,l3,ws,o,rfl,s56 _ _ Hw,EV.kept s56.ls,1,on o,rfl,lp,[.ref tp],some (.ref t0),_,rfl,by rw[lX];split<;>decide,ah,.s (s6 _ _ ah),λp3 ys H7 s7 ID hlo7=>?_⟩;have s47:=s56.trans s7;obtain⟨o',g1,g2,g3⟩:=CD (EV.kept s47.ls) (hft.kept s47.ls) (hS4.kept s47.ls) hlo7;refine⟨l3,p3,ws,ys,rfl,rfl,s47 _ _ Hw,ID,?_,λl8 IV=>?_⟩
    ·rw[Qr] at g3;exact QK g3 (by decide)
    have s48:=s47.trans (aj (o:=.lst (ws++ys)) IV);have s8:=aj (o:=.lst (ws++ys)) IV;have hF8:=s48 _ _ hF4;have lsd:ca (upd H7 l8 (.lst (ws++ys))) (upd (upd H7 l8 (.lst (ws++ys))) d (.dT (a8 F (fh (t.kw,z)) (.ref l8)))):=ke hF8 (λ_ z=>nomatch z) (λ_ z=>nomatch z) λ_ _ z=>nomatch z
    refine⟨_,rfl,_,rfl,d,_,rfl,cS.t hF8 (s48 _ _ F9) (bP (by lia)),hN _ _ ⟨⟨_,ah,λk=>?_,?_⟩,λa ha o h=>by rw[aE ha];exact s48 _ _ (sm4 a ha o h),_,_,_,_,rfl⟩⟩
    ·rw[mT,uP];by_cases hk:k=(t.kw,z)
     ·subst hk;rw[if_pos rfl,if_pos hz];exact .inr ⟨l8,_,o',rfl,lsd.2 _ _ ah,(g1.kept s8.ls).kept lsd,(g2.kept s8.ls).kept lsd⟩
     ·rw[if_neg (λq=>hk (Cy q)),if_neg (λq=>hk (by rw[hz] at q;exact(Qo q).symm)),Option.or_none];exact(hFs4.kept s48.ls).kept lsd k
    ·have:=iF F (fh (t.kw,z)) (V.ref l8);lia
  ·rintro σ' H1 ⟨⟨F,a,b,_⟩,sm,x2,x3,x4,x5,rfl⟩;rw[QD (by lia)] at b;exact hR _ _ ⟨⟨F,a,b⟩,sm,_,_,_,_,rfl⟩
 ·rintro σ' H1 ⟨⟨F,a,b⟩,sm,x2,x3,x4,x5,rfl⟩;refine⟨_,rfl,kq d F _ (λb o h=>sm b (λz=>by rw[z,hd] at h;cases h) o h) a b⟩
noncomputable def k3(r:Nat)(a z:Str):List af:=[.inl ((r:Nat):Int),.inr a,.inr z]
theorem CH{fs:List (List af)}{c k:List af}:k∈dJ fs c↔k∈fs∨k=c:=by
 unfold dJ;split
 ·rename_i h;obtain⟨d,hd,e⟩:=List.any_eq_true.mp h;have e:=QJ e;subst e;exact⟨.inl,λq=>q.elim id λz=>by rw[z];exact hd⟩
 ·simp
theorem CI{fs:List (List af)}{c:List af}(h:fs.Nodup):(dJ fs c).Nodup:=by
 unfold dJ;split
 ·exact h
 ·rename_i q;refine List.nodup_append.mpr ⟨h,by simp,λa ha b hb e=>q ?_⟩;have:b=c:=by simpa using hb
  exact List.any_eq_true.mpr ⟨a,ha,Qv (by rw[e,this])⟩
theorem CJ(fs:List (List af))(k:List af):fs.length<=(dJ fs k).length:=by unfold dJ;split<;>simp
noncomputable def bh(fs ks:List (List af)):List (List af):=ks.foldl dJ fs
theorem i9(fs a b:List (List af)):bh fs (a++b)=bh (bh fs a) b:=List.foldl_append
theorem kg{k:List af}:∀{ks fs:List (List af)},k∈bh fs ks↔k∈fs∨k∈ks
 | [],fs=>by simp[bh]
 |c::ks,fs=>by show k∈bh (dJ fs c) ks↔_;rw[kg,CH,List.mem_cons,or_assoc]
theorem uS:∀{ks fs:List (List af)},fs.Nodup->(bh fs ks).Nodup
 | [],fs,h=>h
 |c::ks,fs,h=>uS (ks:=ks) (CI h)
theorem ja:∀(ks fs:List (List af)),fs.length<=(bh fs ks).length
 | [],fs=>Qh _
 |c::ks,fs=>QK (CJ fs c) (ja ks (dJ fs c))
structure cc(H H':Hp):Prop where
 ls:ca H H'
 dk:∀a kv,H a=some (.dK kv)->H' a=some (.dK kv)
theorem cc.refl(H:Hp):cc H H:=⟨ca.refl _,λ_ _ h=>h⟩
theorem cc.trans{H H1 H2:Hp}(a:cc H H1)(b:cc H1 H2):cc H H2:=⟨a.ls.trans b.ls,λ_ _ h=>b.dk _ _ (a.dk _ _ h)⟩
theorem d9{H H':Hp}(s:Same H H'):cc H H':=⟨s.ls,λ_ _ h=>s _ _ h⟩
structure bD(H:Hp)(C o dx d2:Addr)(F:List (List af×V))(fs:List (List af)):Prop where
 ins:∃d1,H o=some (.ins C dx [("firsts",.ref d1),("faults",.ref d2)])/\H d1=some (.dT F)/\d1≠d2
 flt:H d2=some (.dT (cJ fs))
theorem bD.same{H H':Hp}{C o dx d2:Addr}{F:List (List af×V)}{fs:List (List af)}(h:bD H C o dx d2 F fs)(s:Same H H'):bD H' C o dx d2 F fs:=by obtain⟨⟨d1,h1,h3,h4⟩,h2⟩:=h;exact⟨⟨d1,s _ _ h1,s _ _ h3,h4⟩,s _ _ h2⟩
theorem bD.fault{H:Hp}{C o dx d2:Addr}{F:List (List af×V)}{fs fs':List (List af)}(h:bD H C o dx d2 F fs):bD (upd H d2 (.dT (cJ fs'))) C o dx d2 F fs'/\cc H (upd H d2 (.dT (cJ fs'))):=by
 obtain⟨⟨d1,h1,h3,h4⟩,h2⟩:=h;refine⟨⟨⟨d1,?_,?_,h4⟩,ah⟩,⟨ke h2 (λ_ z=>nomatch z) (λ_ z=>nomatch z) (λ_ _ z=>nomatch z),λa kv e=>by rw[aE (λz=>by rw[z,h2] at e;cases e)];exact e⟩⟩
 ·rw[aE (λz=>by rw[z,h2] at h1;cases h1)];exact h1
 ·rw[aE h4];exact h3
theorem oV{n:Nat}(h:n<900000):n<sizeLine:=by rw[sizeLine_eq];lia
noncomputable def jb(m:Nat)(k:List af):List (List af):=if m=0 then [] else [k]
inductive uT (C:Addr) (vs:List V) (H:Hp) (Q:VK) (E:XK):Prop
 |mk:∀(o dx d2:Addr) (F:List (List af×V)) (fs:List (List af)) (m r:Nat) (a z:Str),vs=[.ref o,.int ((m:Nat):Int),.int ((r:Nat):Int),.str a,.str z]->bD H C o dx d2 F fs->fs.length<900000->m<=1->(∀H',cc H H'->bD H' C o dx d2 F (bh fs (jb m (k3 r a z)))->Q .non H')->uT C vs H Q E
noncomputable abbrev CK:List Str:=["self","mask","at","what","name"]
theorem uU:be CK ["self","mask","at","what","name"] (aM oB):=⟨rfl,rfl,rfl,by decide +kernel,rfl,by decide +kernel,by decide +kernel⟩
theorem lY(T:All P w K mg AA DD):aI P w K mg base aK 2 AA.Zj DD.Zj ["self","mask","at","what","name"] (uT AA.c_NameLook):=by
 have GD:=oR (base:=base) T;refine T.z_Zj.F.ok uU (λvs H Q E h=>by cases h;subst_vars;rfl) λE2 A outer s H vs Q E hr h=>?_;obtain⟨o,dx,d2,F,fs,m,r,a,z,rfl,hk,hf,hm,k⟩:=h;have nd:=uU.nd;have Fd:aB 1 _:=hr;refine⟨_,(am (bV (aG GD Fd rfl T.z_ZO (ae (kL (pv 0) rfl) (ae (aX (ae (pv 2) (ae (pv 3) (ae (pv 4) ag)))) (ae (pv 1) ag)))) (by rfl))),?_⟩;obtain⟨d1,hi,_⟩:=hk.ins;refine⟨_,rfl,o,AA.c_NameLook,dx,_,_,rfl,hi,T.cl_NameLook,T.na_NameLook_faults,rfl,?_⟩;refine⟨_,rfl,_,rfl,_,rfl,cQ,λt ht=>?_⟩;have s1:=aj (o:=.tup [.int ((r:Nat):Int),.str a,.str z]) ht;have E6:=hk.same s1;have e1:upd H t (.tup [.int ((r:Nat):Int),.str a,.str z]) t=some (.tup ((k3 r a z).map kV)):=ah;generalize upd H t (.tup [.int ((r:Nat):Int),.str a,.str z])=H1 at s1 E6 e1 ⊢;refine⟨_,rfl,d2,.ref t,m,rfl,.inr ⟨_,.inl E6.flt⟩,?_⟩;rcases Nat.le_one_iff_eq_zero_or_eq_one.mp hm with rfl|rfl
 ·exact .inl ⟨rfl,k _ (d9 s1) E6⟩
 ·obtain⟨a1,b1⟩:=E6.fault (fs':=dJ fs (k3 r a z));refine .inr ⟨rfl,_,_,bK.t E6.flt e1,?_,cS.t E6.flt e1 ?_,?_⟩
  ·rw[uj];split
   ·exact .inr rfl
   ·exact .inl rfl
  ·unfold cJ;rw[Qf];exact oV hf
  ·rw[Cp];exact k _ ((d9 s1).trans b1) a1
noncomputable def fN(k:Str×Str)(tt:List Tr):Bool:=(bU k tt).isSome
theorem FT.on{H:Hp}{o:Option V}{k:Str×Str}{tt:List Tr}(h:FT H o (bU k tt)):(1^^^(1&&&on o):Nat)=if fN k tt=true then 0 else 1:=by rw[lX];unfold fN;generalize bU k tt=x at h ⊢;cases h<;>rfl
inductive uV (C:Addr) (vs:List V) (H:Hp) (Q:VK) (E:XK):Prop
 |mk:∀(o dx d2:Addr) (F:List (List af×V)) (fs:List (List af)) (tt:List Tr) (a z:Str),vs=[.ref o,.str a,.str z]->bD H C o dx d2 F fs->eK H F tt->(∀(h:Nat) H',Same H H'->(1^^^(1&&&h):Nat)=(if fN (a,z) tt=true then 0 else 1)->Q (.int ((h:Nat):Int)) H')->uV C vs H Q E
noncomputable abbrev CL:List Str:=["self","word","name"]
theorem uW:be CL ["self","word","name"] (aM oH):=⟨rfl,rfl,rfl,by decide +kernel,rfl,by decide +kernel,by decide +kernel⟩
theorem uX(T:All P w K mg AA DD):aI P w K mg base aK 2 AA.Zk DD.Zk ["self","word","name"] (uV AA.c_NameLook):=by have GA:=uJ (base:=base) T;refine T.z_Zk.F.ok uW (λvs H Q E h=>by cases h;subst_vars;rfl) λE2 A outer s H vs Q E hr h=>?_;obtain⟨o,dx,d2,F,fs,tt,a,z,rfl,hk,hF,k⟩:=h;have nd:=uW.nd;have Fd:aB 1 _:=hr;have hu:=Qz (Nat.add_le_add_left (show 1<=64 by decide) _) hr.units;refine⟨_,(am (aP (aG GA Fd rfl T.z_ZN (ae (iJ hu (kL (pv 0) rfl) (aX (ae (pv 1) (ae (pv 2) ag))) (bJ ag) ⟨by rfl,by rfl,by rfl,by rfl⟩) ag)))),?_⟩;dsimp only[cZ];obtain⟨d1,hi,G3,EW⟩:=hk.ins;refine⟨_,rfl,o,AA.c_NameLook,dx,_,_,rfl,hi,T.cl_NameLook,T.na_NameLook_firsts,rfl,d1,rfl,.inr ⟨F,.inl G3⟩,?_⟩;refine⟨_,rfl,_,rfl,bZ,λq hq=>⟨cP,λq2 Fq=>?_⟩⟩;have s2:=aj (o:=.lst []) Fq;have FQ:=(aj (o:=.tup [.str a,.str z]) hq).trans s2;refine⟨_,bK.t (k:=fh (a,z)) (FQ _ _ G3) (s2 _ _ ah),?_⟩;obtain⟨l3,xs,w,el3,Hw,EV,hft⟩:=oU hF hq Fq;rw[el3];exact⟨l3,xs,w,rfl,Hw,EV,k _ _ FQ hft.on⟩
noncomputable def cF(tt:List Tr)(r:Nat)(a FI z:Str)(n:Nat):List (List af):=match bU (a,z) tt with
 |none=>[k3 r FI z]
 |some t=>if t.prs.length=n then [] else [k3 r "count" z]
inductive uY (C:Addr) (vs:List V) (H:Hp) (Q:VK) (E:XK):Prop
 |mk:∀(o dx d2:Addr) (F:List (List af×V)) (fs:List (List af)) (tt:List Tr) (v:V) (w z:Str) (es:List Ex) (r:Nat) (a FI:Str),vs=[.ref o,.int 1,v,.int ((r:Nat):Int),.str a,.str FI]->bf H v (.many w z es)->bD H C o dx d2 F fs->eK H F tt->fs.length<900000->(∀H',cc H H'->bD H' C o dx d2 F (bh fs (cF tt r a FI z es.length))->Q .non H')->uY C vs H Q E
noncomputable abbrev CM:List Str:=["self","mask","e","at","word","missing","name","here","one"]
theorem uZ:be CM ["self","mask","e","at","word","missing"] (aM oG):=⟨rfl,rfl,rfl,by decide +kernel,rfl,by decide +kernel,by decide +kernel⟩
theorem CN(T:All P w K mg AA DD):aI P w K mg base aK 3 AA.Ze DD.Ze ["self","mask","e","at","word","missing"] (uY AA.c_NameLook):=by
 have GO:=lY (base:=base) T;have GN:=lV (base:=base) T;have GHD:=uX (base:=base) T;have GB:=uN (base:=base) T;have GPO:=CA (base:=base) T;refine T.z_Ze.F.ok uZ (λvs H Q E h=>by cases h;subst_vars;rfl) λE2 A outer s H vs Q E hr h=>?_;obtain⟨o,dx,d2,F,fs,tt,v,w,z,es,r,a,FI,rfl,hE,hk,hF,hf,kq⟩:=h;have nd:=uZ.nd;have E3:aB 2 _:=hr;have Fd:aB 1 _:=E3.mono (by lia);have hu:=Qz (Nat.add_le_add_left (show 1<=64 by decide) _) hr.units;refine⟨_,(ar (aU (i:=6) nd rfl (Or.inl rfl) (au (pv 2))) (ar (bV (dC (pv 0) T.cl_NameLook T.M_Zj GO E3 T.z_Zj.b .nil c6 (ae (aG GN Fd rfl T.z_ZJ (ae (pv 1) (ae (dC (pv 0) T.cl_NameLook T.M_Zk GHD E3 T.z_Zk.b .nil c6 (ae (pv 4) (ae (pv 6) ag))) ag))) (ae (pv 3) (ae (pv 5) (ae (pv 6) ag))))) (by rfl)) (am (db PassesOwn.never rfl (c7 (aG GB Fd rfl T.z_Zr (ae (iJ hu (kL (pv 0) rfl) (aX (ae (pv 4) (ae (pv 6) ag))) (bJ ag) ⟨by rfl,by rfl,by rfl,by rfl⟩) (ae (pv 1) ag)))) (dF rfl (bv (ba (i:=7) nd rfl (Or.inl rfl)) (bv (ba (i:=8) nd rfl (Or.inl rfl)) dz))) (am (aS (aH fT (ci d5 rfl T.n_len di (ae (aG GPO Fd rfl T.z_ZE (ae (pv 8) ag)) ag)) (ci d5 rfl T.n_len di (ae (au (pv 2)) ag)) (aL _)) (am (bV (dC (pv 0) T.cl_NameLook T.M_Zj GO E3 T.z_Zj.b .nil c6 (ae (pv 7) (ae (pv 3) (ae al (ae (pv 6) ag))))) (by rfl))) a9)) (by intro _;rfl))))),?_⟩;dsimp only[cZ]
 cases hE with
 | @many t l _ _ vs _ ht hl hvs =>
 obtain⟨d1,hi,G3,EW⟩:=hk.ins;refine az 1 rfl ht rfl ?_;dsimp only[aR];refine⟨_,rfl,o,dx,_,rfl,hi,rfl,_,rfl,_,rfl,o,dx,_,rfl,hi,rfl,_,rfl,_,rfl,?_⟩;refine⟨o,dx,d2,F,fs,tt,a,z,rfl,hk,hF,λh H1 s1 hh=>⟨1,h,rfl,?_⟩⟩;rw[hh];refine⟨_,rfl,_,rfl,_,rfl,o,dx,d2,F,fs,_,r,FI,z,rfl,hk.same s1,hf,by split<;>decide,λH2 l2 E1=>?_⟩;have l02:=(d9 s1).trans l2;have hF2:=hF.kept l02.ls;have Fz:=l02.ls.1 _ _ ht;have Ik:=l02.ls.1 _ _ hl;obtain⟨d1',hi2,GJ,hne2⟩:=E1.ins;dsimp only[aR];refine⟨_,rfl,o,AA.c_NameLook,dx,_,_,rfl,hi2,T.cl_NameLook,T.na_NameLook_firsts,rfl,d1',rfl,.inr ⟨F,.inl GJ⟩,?_⟩;refine⟨_,rfl,_,rfl,bZ,λq hq=>⟨cP,λq2 Fq=>?_⟩⟩;have s4:=aj (o:=.lst []) Fq;have IA:=(aj (o:=.tup [.str a,.str z]) hq).trans s4;refine⟨_,bK.t (k:=fh (a,z)) (IA _ _ GJ) (s4 _ _ ah),_,rfl,?_⟩;obtain⟨l3,xs,y,el3,Hw,EV,hft⟩:=oU hF2 hq Fq;rw[el3];refine⟨l3,xs,y,1,rfl,Qh _,Hw,EV,λp ys H3 s5 hp IU=>?_⟩;have s6:=IA.trans s5;have EU:=E1.same s6;have ht3:=s6 _ _ Fz;have hl3':=s6 _ _ Ik;have hft:=hft.kept s5.ls;have l03:=l02.trans (d9 s6);have hvl:=hvs.len;refine⟨p,rfl,⟨_,ak.of hp⟩,?_⟩
 have hfh:bU (a,z) tt=none∨∃t',bU (a,z) tt=some t'/\t'.hd≠none:=by
  cases e:bU (a,z) tt with
  |none=>exact .inl rfl
  |some t'=>exact .inr ⟨t',rfl,λq=>by have:=List.find?_some e;rw[QJ this] at q;cases q⟩
 unfold cF at kq;unfold fN at EU;generalize bU (a,z) tt=ft at hft EU hfh kq;refine fc (K:=K0) (a:=p) (xs:=ys) (λi σ' H'=>cc H3 H'/\bD H' AA.c_NameLook o dx d2 F (bh fs (if i=0 then jb (if ft.isSome=true then 0 else 1) (k3 r FI z) else match ft with|none=>[k3 r FI z] | some t=>if t.prs.length=es.length then [] else [k3 r "count" z]))/\∃x7 x8,σ'=[some (.ref o),some (.int 1),some (.ref t),some (.int ((r:Nat):Int)),some (.str a),some (.str FI),some (.str z),x7,x8]) ⟨cc.refl _,EU,_,_,rfl⟩ (λi σ' H' _ hsl82=>by obtain⟨e,_⟩:=hsl82;exact ak.of (e.ls.2 _ _ hp)) ?_ ?_
 ·rintro i x σ' H4 hx ⟨l4,E5,x7,x8,rfl⟩ D1 hN
  cases hft with
  |n=>cases IU;simp at hx
  | @s v' t' hS =>
  cases IU with
  | @s u _ hu0 =>
  cases i with
  |succ i=>simp at hx
  |zero =>
  cases hx;obtain⟨t2,e2,hhd⟩:=hfh.resolve_left λz=>nomatch z
  cases e2;refine⟨u,_,rfl,aq.of (l4.ls.1 _ _ hu0),rfl,_,_,rfl,_,_,rfl,rfl,?_⟩;refine⟨_,rfl,v',t',rfl,hS.kept l4.ls,hhd,λxp hxp=>?_⟩;obtain⟨tpp,uu,rfl,htpp,huul,huat⟩:=hxp;refine⟨tpp,_,rfl,.inr (aq.of htpp),az 2 rfl (l4.ls.1 _ _ ht3) rfl ⟨l,_,rfl,.inr (aq.of (l4.ls.1 _ _ hl3')),rfl,_,rfl,?_⟩⟩;rw[Qf,huul,hvl];have E5:bD H4 AA.c_NameLook o dx d2 F fs:=E5;by_cases hq:t'.prs.length=es.length
  ·refine cN (by rw[hq,Qv rfl];rfl) ?_;exact hN _ _ ⟨l4,by dsimp only;rw[if_neg (by decide),if_pos hq];exact E5,_,_,rfl⟩
  ·refine dW (by rw[Qi (λq=>hq (by injection q with q;lia))];rfl) ?_;obtain⟨d1'',hi4,_⟩:=E5.ins;refine⟨_,rfl,o,dx,_,rfl,hi4,rfl,_,rfl,_,rfl,_,rfl,o,dx,d2,F,fs,1,r,"count",z,rfl,E5,hf,Qh _,λH5 l5 HP=>hN _ _ ⟨l4.trans l5,by dsimp only;rw[if_neg (by decide),if_neg hq];exact HP,_,_,rfl⟩⟩
 ·rintro σ' H4 ⟨l4,E5,x7,x8,rfl⟩;refine kq _ (l03.trans l4) ?_
  cases hft with
  |n=>cases IU;exact E5
  |s hS=>cases IU;exact E5
def eL(H:Hp)(g:Addr)(kn:List Str):Prop:=∃kv,H g=some (.dK kv)/\kv.length<=kn.length/\∀z:Str,bo kv (.inr z)=if z∈kn then some (.int 1) else none
theorem eL.kept{H H':Hp}{g:Addr}{kn:List Str}(h:eL H g kn)(l:cc H H'):eL H' g kn:=by obtain⟨kv,a,b⟩:=h;exact⟨kv,l.dk _ _ a,b⟩
mutual
noncomputable def aN(tt:List Tr)(kn:List Str)(r:Nat):Ex->List (List af)
 |.many w z es=>cF tt r (if w="do" then "def" else "kind") (if w="do" then "nofunc" else "nokind") z es.length++exKs tt kn r es
 |.name z=>if z∈kn then [] else [k3 r "unset" z]
 |.not e=>aN tt kn r e
 |.op _ a b=>aN tt kn r a++aN tt kn r b
 |.of _ e=>aN tt kn r e
 |.num _=>[]
 |.truth _=>[]
noncomputable def exKs(tt:List Tr)(kn:List Str)(r:Nat):List Ex->List (List af)
 | []=>[]
 |e::es=>aN tt kn r e++exKs tt kn r es
end
noncomputable def cC(tt:List Tr)(kn:List Str)(r:Nat):Ex->List (List af)
 |.many w z es=>cF tt r (if w="do" then "def" else "kind") (if w="do" then "nofunc" else "nokind") z es.length
 |.name z=>if z∈kn then [] else [k3 r "unset" z]
 |_=>[]
theorem CO(tt:List Tr)(kn:List Str)(r:Nat)(z:Str):cC tt kn r (.name z)=jb (1^^^(1&&&if z∈kn then 1 else 0)) (k3 r "unset" z):=by show(if z∈kn then [] else [k3 r "unset" z])=_;by_cases h:z∈kn<;>simp[h,jb]
theorem u0(tt:List Tr)(kn:List Str)(r:Nat)(e:Ex):aN tt kn r e=cC tt kn r e++exKs tt kn r e.kids:=by cases e<;>simp[aN,cC,Ex.kids,exKs]
theorem oW{tt:List Tr}{kn:List Str}{r:Nat}:∀a b:List Ex,exKs tt kn r (a++b)=exKs tt kn r a++exKs tt kn r b
 | [],b=>by simp[exKs]
 |e::a,b=>by simp[exKs,oW a b]
theorem u4{tt:List Tr}{kn:List Str}{r i:Nat}{es:List Ex}{e:Ex}(h:es[i]?=some e):exKs tt kn r (es.take (i+1))=exKs tt kn r (es.take i)++aN tt kn r e:=by obtain⟨hi,rfl⟩:=Qc h;rw[Qm hi,oW];simp[exKs]
theorem CP{tt:List Tr}{kn:List Str}{r i:Nat}{e c:Ex}{fs:List (List af)}(hb:(bh fs (aN tt kn r e)).length<900000)(hc:e.kids[i]?=some c):(bh (bh fs (cC tt kn r e++exKs tt kn r (e.kids.take i))) (aN tt kn r c)).length<900000:=by have h:=oW (tt:=tt) (kn:=kn) (r:=r) (e.kids.take (i+1)) (e.kids.drop (i+1));rw[List.take_append_drop] at h;rw[u0,h,<-QN,i9] at hb;rw[<-i9,QN,<-u4 hc];exact Qz (ja _ _) hb
theorem CQ(e:Ex):e.sz=szL e.kids+1:=by cases e<;>simp[Ex.sz,Ex.kids,szL]
theorem u5:∀{es:List Ex} {i:Nat} {e:Ex},es[i]?=some e->szL (es.take (i+1))=szL (es.take i)+e.sz/\szL (es.take i)+e.sz<=szL es
 |x::es,0,e,h=>by cases (show some x=some e from h);simp[szL]
 |x::es,i+1,e,h=>by obtain⟨a,b⟩:=u5 (es:=es) (i:=i) h;simp[szL,a];lia
inductive jc (C:Addr) (k:Nat) (vs:List V) (H:Hp) (Q:VK) (E:XK):Prop
 |mk:∀(o dx d2 g:Addr) (F:List (List af×V)) (tt:List Tr) (fs:List (List af)) (kn:List Str) (v:V) (e:Ex) (r:Nat),vs=[.ref o,.int 1,v,.int ((r:Nat):Int),.ref g]->bf H v e->e.good->e.deep<k->bD H C o dx d2 F fs->eK H F tt->eL H g kn->(bh fs (aN tt kn r e)).length<900000->(∀H',cc H H'->bD H' C o dx d2 F (bh fs (aN tt kn r e))->Q .non H')->jc C k vs H Q E
noncomputable abbrev CS:List Str:=["self","mask","e","at","given","inner"]
theorem oX:be CS ["self","mask","e","at","given"] (aM oF):=⟨rfl,rfl,rfl,by decide +kernel,rfl,by decide +kernel,by decide +kernel⟩
theorem CT(T:All P w K mg AA DD)(k:Nat)(GE:aI P w K mg base aK (k+4) AA.Zc DD.Zc ["self","mask","e","at","given"] (jc AA.c_NameLook k)) :
  aI P w K mg base aK (k+1+4) AA.Zc DD.Zc ["self","mask","e","at","given"] (jc AA.c_NameLook (k+1)):=by
 have GU:=CN (base:=base) T;have GI:=Ct (base:=base) T;have GO:=lY (base:=base) T;have GN:=lV (base:=base) T;refine T.z_Zc.F.ok oX (λvs H Q E h=>by cases h;subst_vars;rfl) λE2 A outer s H vs Q E hr h=>?_;obtain⟨o,dx,d2,g,F,tt,fs,kn,v,e,r,rfl,hE,hp,hd,hk,hF,hg,hN,kq⟩:=h;have nd:=oX.nd;have hu:=Qz (Nat.add_le_add_left (show 1<=64 by decide) _) hr.units;have FH:aB (k+4) _:=hr;have FD:aB 3 _:=FH.mono (by lia);have E3:aB 2 _:=FH.mono (by lia);have Fd:aB 1 _:=FH.mono (by lia);have hf:=Qz (ja _ _) hN;refine⟨_,(ar (aS (aH aV (au (pv 2)) al (aL _)) (am (bV (dC (pv 0) T.cl_NameLook T.M_Zj GO E3 T.z_Zj.b .nil c6 (ae (aG GN Fd rfl T.z_ZJ (ae (pv 1) (ae (iJ hu (pv 4) (au (pv 2)) ap ⟨by rfl,by rfl,by rfl,by rfl⟩) ag))) (ae (pv 3) (ae al (ae (au (pv 2)) ag))))) (by rfl))) (am (aS (aH aV (au (pv 2)) al (aL _)) (am (bV (dC (pv 0) T.cl_NameLook T.M_Ze GU FD T.z_Ze.b .nil c6 (ae (pv 1) (ae (pv 2) (ae (pv 3) (ae al (ae al ag)))))) (by rfl))) (am (aS (aH aV (au (pv 2)) al (aL _)) (am (bV (dC (pv 0) T.cl_NameLook T.M_Ze GU FD T.z_Ze.b .nil c6 (ae (pv 1) (ae (pv 2) (ae (pv 3) (ae al (ae al ag)))))) (by rfl))) a9))))) (am (db PassesOwn.never rfl (gx (aG GI Fd rfl T.z_ZF (ae (pv 2) ag))) (ba (i:=5) nd rfl (Or.inl rfl)) (am (bV (dC (pv 0) T.cl_NameLook T.M_Zc GE FH T.z_Zc.b .nil c6 (ae (pv 1) (ae (pv 5) (ae (pv 3) (ae (pv 4) ag))))) (by rfl))) (by intro _;rfl)))),?_⟩;refine dY (λσ' H'=>σ'=[some (.ref o),some (.int 1),some v,some (.int ((r:Nat):Int)),some (.ref g),none]/\cc H H'/\bD H' AA.c_NameLook o dx d2 F (bh fs (cC tt kn r e))) (λR hR=>?_) ?_
 ·obtain⟨d1,hi,_⟩:=hk.ins;have hE0:=hE;by_cases hnm:∃z,e=.name z
  ·obtain⟨z,rfl⟩:=hnm
   cases hE with
   | @name t _ ht =>
   obtain⟨ES,hgd,hgl,hgv⟩:=hg;refine⟨_,rfl,t,_,_,_,rfl,rfl,aq.of ht,rfl,rfl,_,rfl,dh ?_⟩;refine⟨_,rfl,o,dx,_,rfl,hi,rfl,_,rfl,_,rfl,g,rfl,.inl ⟨_,.inl hgd⟩,_,rfl,t,_,_,_,rfl,rfl,aq.of ht,rfl,_,bK.k (k:=.inr z) hgd,?_⟩;rw[hgv z];refine⟨1,if z∈kn then 1 else 0,by split<;>rfl,?_⟩;refine⟨_,rfl,_,rfl,t,_,_,_,rfl,rfl,aq.of ht,rfl,o,dx,d2,F,fs,_,r,"unset",z,rfl,hk,hf,by split<;>decide,λH' ls G1=>hR _ _ ⟨rfl,ls,by rw[CO];exact G1⟩⟩
  by_cases hmn:∃w z es,e=.many w z es
  ·obtain⟨w,z,es,rfl⟩:=hmn
   cases hE with
   | @many t l _ _ vs _ ht hl hvs =>
   refine az 0 rfl ht rfl ⟨rfl,_,rfl,?_⟩;refine cN (Qi λq=>(ur w hp.1).2.2 (by injection q)) ?_;refine az 0 rfl ht rfl ⟨rfl,_,rfl,?_⟩;unfold cC at hR;rcases hp.1 with rfl|rfl
   ·refine dW (Qv rfl) ?_;exact⟨_,rfl,o,dx,_,rfl,hi,rfl,_,rfl,_,rfl,_,rfl,o,dx,d2,F,fs,tt,.ref t,_,z,es,r,_,_,rfl,hE0,hk,hF,hf,λH1 l1 E6=>hR _ _ ⟨rfl,l1,E6⟩⟩
   ·refine cN (Qi λq=>by injection q with q;exact absurd q (by decide)) ?_;refine az 0 rfl ht rfl ⟨rfl,_,rfl,?_⟩;refine dW (Qv rfl) ?_;exact⟨_,rfl,o,dx,_,rfl,hi,rfl,_,rfl,_,rfl,_,rfl,o,dx,d2,F,fs,tt,.ref t,_,z,es,r,_,_,rfl,hE0,hk,hF,hf,λH1 l1 E6=>hR _ _ ⟨rfl,l1,E6⟩⟩
  ·obtain ⟨t,z,ys,ev,ht,n1,n2,n3,he⟩:∃ t z ys,v=.ref t/\H t=some (.tup (.str z::ys))/\z≠"name"/\z≠"do"/\z≠"new"/\cC tt kn r e=[]:=by
    cases hE with
    |num h=>exact⟨_,_,_,rfl,h,by decide,by decide,by decide,rfl⟩
    |truth h=>exact⟨_,_,_,rfl,h,by decide,by decide,by decide,rfl⟩
    |name h=>exact absurd ⟨_,rfl⟩ hnm
    |not h a=>exact⟨_,_,_,rfl,h,by decide,by decide,by decide,rfl⟩
    |op h a b=>have q:=uo _ hp.1;exact⟨_,_,_,rfl,h,q.2.2.2.1,q.2.2.2.2.1,q.2.2.2.2.2,rfl⟩
    |of h a=>exact⟨_,_,_,rfl,h,by decide,by decide,by decide,rfl⟩
    |many h l a=>exact absurd ⟨_,_,_,rfl⟩ hmn
   subst ev;refine az 0 rfl ht rfl ⟨rfl,_,rfl,?_⟩;refine cN (Qi λq=>n1 (by injection q)) ?_;refine az 0 rfl ht rfl ⟨rfl,_,rfl,?_⟩;refine cN (Qi λq=>n2 (by injection q)) ?_;refine az 0 rfl ht rfl ⟨rfl,_,rfl,?_⟩;refine cN (Qi λq=>n3 (by injection q)) ?_;exact hR _ _ ⟨rfl,cc.refl _,by rw[he];exact hk⟩
 ·rintro σ' H1 ⟨rfl,ls1,E6⟩;refine⟨_,rfl,v,e,rfl,hE.kept ls1.ls.1,hp,λt ys H2 s2 ht EY=>⟨t,rfl,⟨_,aq.of ht⟩,?_⟩⟩;have FP:=EY.len;rw[u0] at kq
  refine Ba (K:=K0) (a:=t) (xs:=ys) (λi σ' H'=>cc H H'/\cc H2 H'/\(∃x5,σ'=[some (.ref o),some (.int 1),some v,some (.int ((r:Nat):Int)),some (.ref g),x5])/\bD H' AA.c_NameLook o dx d2 F (bh fs (cC tt kn r e++exKs tt kn r (e.kids.take i)))) ⟨ls1.trans (d9 s2),cc.refl _,⟨_,rfl⟩,by
   rw[List.take_zero,exKs,Qy];exact E6.same s2⟩ (λi σ' H' _ h=>aq.of (h.2.1.ls.1 _ _ ht)) ?_ ?_
  ·rintro i x σ' H3 hx ⟨l3,l23,⟨x5,rfl⟩,EU⟩ D1 hM;obtain⟨c,hc,hcx⟩:=EY.get hx;have hcm:=Cr hp c (Qk hc);obtain⟨d1,hi3,_⟩:=EU.ins;refine⟨_,rfl,o,dx,_,rfl,hi3,rfl,_,rfl,_,rfl,_,rfl,_,rfl,o,dx,d2,g,F,tt,_,kn,x,c,r,rfl,hcx.kept l23.ls.1,hcm.1,by lia,EU,hF.kept l3.ls,hg.kept l3,CP hN hc,λH' ls G1=>hM _ _ ⟨l3.trans ls,l23.trans ls,⟨_,rfl⟩,?_⟩⟩;rw[u4 hc,<-QN,i9];exact G1
  ·rintro σ' H3 ⟨l3,l23,⟨x5,rfl⟩,EU⟩;rw[QD (by lia)] at EU;exact kq _ l3 EU
theorem CU(T:All P w K mg AA DD):aI P w K mg base aK 4 AA.Zc DD.Zc ["self","mask","e","at","given"] (jc AA.c_NameLook 0):=by
 have no:∀vs H Q E,¬jc AA.c_NameLook 0 vs H Q E:=λvs H Q E h=>by obtain⟨o,dx,d2,g,F,tt,fs,kn,v,e,r,_,_,_,z,_⟩:=h;lia
 exact T.z_Zc.F.ok oX (λvs H Q E h=>(no _ _ _ _ h).elim) (λE2 A outer s H vs Q E hr h=>(no _ _ _ _ h).elim)
theorem u6(T:All P w K mg AA DD):∀k:Nat,aI P w K mg base aK (k+4) AA.Zc DD.Zc ["self","mask","e","at","given"] (jc AA.c_NameLook k)
 |0=>CU T
 |k+1=>CT T k (u6 T k)
noncomputable def br(t:Tr):List Str:=match t.hd with
 |none=>[]
 |some q=>[q.2]
noncomputable def fi(ts:List Tr):List Str:=ts.flatMap br
noncomputable def cq(ab:List Str)(t:Tr):List (List af):=match t.hd with
 |none=>[]
 |some q=>if q.2∈ab then [k3 t.row "twice" q.2] else []
noncomputable def cf:List Str->List Tr->List (List af)
 |_,[]=>[]
 |ab,t::ts=>cq ab t++cf (ab++br t) ts
theorem u7:∀(a b:List Tr) (ab:List Str),cf ab (a++b)=cf ab a++cf (ab++fi a) b
 | [],b,ab=>by simp[cf,fi]
 |t::a,b,ab=>by show cq ab t++cf (ab++br t) (a++b)=_;rw[u7 a b];simp[cf,fi,QN]
theorem CV{ts:List Tr}{i:Nat}{t:Tr}(h:ts[i]?=some t):cf [] (ts.take (i+1))=cf [] (ts.take i)++cq (fi (ts.take i)) t/\fi (ts.take (i+1))=fi (ts.take i)++br t:=by obtain⟨hi,rfl⟩:=Qc h;rw[Qm hi,u7];exact⟨by simp[cf],by unfold fi;rw[List.flatMap_append,List.flatMap_cons,List.flatMap_nil,Qy]⟩
theorem CW{p:Prop}[Decidable p](k:List af):jb (if p then 1 else 0) k=if p then [k] else []:=by split<;>rfl
theorem u9:∀(ts:List Tr) (ab:List Str),(cf ab ts).length<=ts.length
 | [],ab=>Qh _
 |t::ts,ab=>by
  have h:=u9 ts (ab++br t)
  have h1:(cq ab t).length<=1:=by
   unfold cq;split
   ·decide
   ·split<;>simp
  rw[cf,Qr,QM];omega
theorem vc:∀(ks fs:List (List af)),(bh fs ks).length<=fs.length+ks.length
 | [],fs=>Qh _
 |k::ks,fs=>by
  have h1:=vc ks (dJ fs k);have h2:(dJ fs k).length<=fs.length+1:=by unfold dJ;split<;>simp
  show(bh (dJ fs k) ks).length<=fs.length+(ks.length+1);omega
theorem vd:∀ts:List Tr,(fi ts).length<=ts.length
 | []=>Qh _
 |t::ts=>by
  have h:=vd ts;have h1:(br t).length<=1:=by unfold br;split<;>simp
  show((t::ts).flatMap br).length<=_;rw[List.flatMap_cons,Qr,QM];unfold fi at h;omega
structure dM(g:Addr)(H H':Hp):Prop where
 ls:ca H H'
 dk:∀a kv,a≠g->H a=some (.dK kv)->H' a=some (.dK kv)
theorem dM.refl(g:Addr)(H:Hp):dM g H H:=⟨ca.refl _,λ_ _ _ h=>h⟩
theorem dM.trans{g:Addr}{H H1 H2:Hp}(a:dM g H H1)(b:dM g H1 H2):dM g H H2:=⟨a.ls.trans b.ls,λ_ _ n h=>b.dk _ _ n (a.dk _ _ n h)⟩
theorem cc.g{g:Addr}{H H':Hp}(h:cc H H'):dM g H H':=⟨h.ls,λ_ _ _ e=>h.dk _ _ e⟩
theorem eL.add{H:Hp}{g:Addr}{kn:List Str}(h:eL H g kn)(hn:kn.length<900)(z:Str):∃(o:Option V) (ob:HO),bK H g (.str z) o/\(o=none∨o=some (.int 1))/\cS H g (.str z) (.int 1) (upd H g ob)/\eL (upd H g ob) g (kn++[z])/\dM g H (upd H g ob)/\∃kv,H g=some (.dK kv):=by
 obtain⟨kv,h1,h2,h3⟩:=h;refine⟨_,.dK (a8 kv (.inr z) (.int 1)),bK.k (k:=.inr z) h1,?_,cS.k (k:=.inr z) h1 (bP (by lia)),⟨_,ah,?_,λy=>?_⟩,⟨ke h1 (λ_ z=>nomatch z) (λ_ z=>nomatch z) (λ_ _ z=>nomatch z),λa kv' na e=>by rw[aE na];exact e⟩,kv,h1⟩
 ·rw[h3];split
  ·exact .inr rfl
  ·exact .inl rfl
 ·have:=iF kv (Sum.inr z:af) (.int 1);rw[Qr,List.length_singleton];lia
 ·rw[mT,h3];by_cases hy:y=z
  ·subst hy;rw[if_pos rfl,if_pos (by simp)]
  ·rw[if_neg (λq=>hy (by injection q))];by_cases hz:y∈kn
   ·rw[if_pos hz,if_pos (List.mem_append_left _ hz)]
   ·rw[if_neg hz,if_neg (by simp[hz,hy])]
theorem bD.upd{H:Hp}{C o dx d2 g:Addr}{F:List (List af×V)}{fs:List (List af)}{ob:HO}{kv:List (af×V)}(h:bD H C o dx d2 F fs)(hg:H g=some (.dK kv)):bD (upd H g ob) C o dx d2 F fs:=by
 obtain⟨⟨d1,h1,h3,h4⟩,h2⟩:=h
 have e:∀{a x},H a=some x->(∀kv,x≠.dK kv)->L2.upd H g ob a=some x:=λh n=>by
  rw[aE (λz=>by rw[z,hg] at h;exact n _ (Qo h).symm)];exact h
 exact⟨⟨d1,e h1 λ_ z=>(nomatch z),e h3 λ_ z=>(nomatch z),h4⟩,e h2 λ_ z=>nomatch z⟩
inductive vf (C:Addr) (vs:List V) (H:Hp) (Q:VK) (E:XK):Prop
 |mk:∀(o dx d2 l:Addr) (F:List (List af×V)) (xs:List V) (ts:List Tr),vs=[.ref o,.ref l]->H l=some (.lst xs)->LAt H true xs ts->ts.length<=50->bD H C o dx d2 F []->(∀H',cc H H'->bD H' C o dx d2 F (bh [] (cf [] ts))->Q .non H')->vf C vs H Q E
noncomputable abbrev CY:List Str:=["self","tree","above","mask","one"]
theorem vg:be CY ["self","tree"] (aM oC):=⟨rfl,rfl,rfl,by decide +kernel,rfl,by decide +kernel,by decide +kernel⟩
theorem CZ(T:All P w K mg AA DD):aI P w K mg base aK 3 AA.Za DD.Za ["self","tree"] (vf AA.c_NameLook):=by
 have GO:=lY (base:=base) T;have GD:=oR (base:=base) T;refine T.z_Za.F.ok vg (λvs H Q E h=>by cases h;subst_vars;rfl) λE2 A outer s H vs Q E hr h=>?_;obtain⟨o,dx,d2,l,F,xs,ts,rfl,hl,hL,h50,hk,kq⟩:=h;have nd:=vg.nd;have E3:aB 2 _:=hr;have Fd:aB 1 _:=E3.mono (by lia);have hu:=Qz (Nat.add_le_add_left (show 1<=64 by decide) _) hr.units;refine⟨_,(ar (aU (i:=2) nd rfl (Or.inl rfl) rm) (am (db PassesOwn.never rfl (c7 (pv 1)) (dF rfl (bv (ba (i:=3) nd rfl (Or.inl rfl)) (bv (ba (i:=4) nd rfl (Or.inl rfl)) dz))) (am (aS (aH j3 (au (pv 4)) (aX (ae al (ae al ag))) rfl) (ar (bV (dC (pv 0) T.cl_NameLook T.M_Zj GO E3 T.z_Zj.b .nil c6 (ae (aD iy (pv 3) (iJ hu (pv 2) (au (pv 4)) ap ⟨by rfl,by rfl,by rfl,by rfl⟩)) (ae (au (pv 4)) (ae al (ae (au (pv 4)) ag))))) (by rfl)) (am (bV (aG GD Fd rfl T.z_ZO (ae (pv 2) (ae (au (pv 4)) (ae (pv 3) ag)))) (by rfl)))) a9)) (by intro _;rfl)))),?_⟩;dsimp only[cZ];refine λd hd=>?_;have s1:=aj (o:=.dK []) hd;dsimp only[aR];refine⟨_,rfl,l,rfl,⟨_,ak.of (s1 _ _ hl)⟩,?_⟩;have Ih:=hL.length;refine fc (K:=K0) (a:=l) (xs:=xs) (λi σ' H'=>dM d H H'/\eL H' d (fi (ts.take i))/\bD H' AA.c_NameLook o dx d2 F (bh [] (cf [] (ts.take i)))/\∃x3 x4,σ'=[some (.ref o),some (.ref l),some (.ref d),x3,x4]) ⟨(d9 s1).g,⟨[],ah,Qh _,λz=>rfl⟩,hk.same s1,_,_,rfl⟩ (λi σ' H' _ h=>ak.of (h.1.ls.2 _ _ hl)) ?_ ?_
 ·rintro i x σ' H1 hx ⟨l1,Hr,E6,x3,x4,rfl⟩ D1 hN;obtain⟨t,ht,hO⟩:=hL.get hx;have hO1:=hO.kept l1.ls;obtain⟨et,ea⟩:=CV ht;have hbl:=vd (ts.take i);have hfl:=vc (cf [] (ts.take i)) [];have htl:=u9 (ts.take i) [];rw[Qx] at hbl htl;rw[List.length_nil] at hfl;rw[et,ea,i9] at hN;generalize bh [] (cf [] (ts.take i))=fs at E6 hN hfl;generalize fi (ts.take i)=ab at Hr hN hbl
  cases hO1 with
  |plain e _=>cases e
  | @shared p y _ _ hp hS =>
  cases hS with
  | @mk t0 vs _ Hl F1 =>
  have hda:=uE F1;obtain⟨vr,rfl⟩:=oT F1;refine⟨p,_,rfl,aq.of hp,rfl,_,_,rfl,_,_,rfl,rfl,?_⟩;refine az 0 rfl Hl rfl ⟨bZ,λpt Gk=>⟨pt,gA.map V.str,rfl,.inr (aq.of ah),rfl,rfl,_,rfl,?_⟩⟩;have s2:=aj (o:=.tup [V.str "def",V.str "kind"]) Gk;have hab2:=Hr.kept (d9 s2);have l2:=l1.trans (d9 s2).g;have E1:=E6.same s2;unfold cq br at hN
  rcases hda with ⟨hh,hn⟩|⟨hh,z,r,hz,ev⟩
  ·refine cN (fM (Qi hh)) ?_;rw[hn] at hN;exact hN _ _ ⟨l2,by rw[Qy];exact hab2,E1,_,_,rfl⟩
  ·refine dW (fM (Qv hh)) ?_;rw[hz] at hN;have ev2:vr=.str z::r:=by injection ev with _ q;injection q
   subst ev2;have Fz:=s2 _ _ Hl;generalize L2.upd H1 pt (.tup [V.str "def",V.str "kind"])=H2 at Fz l2 hab2 E1 ⊢;obtain⟨kv,hkv,FP,hgv⟩:=id hab2;obtain⟨d1,hi,_⟩:=E1.ins;refine⟨_,rfl,o,dx,_,rfl,hi,rfl,_,rfl,_,rfl,d,rfl,.inl ⟨_,.inl hkv⟩,az 2 rfl Fz rfl ⟨_,bK.k (k:=.inr z) hkv,?_⟩⟩;rw[hgv z];have ev:((if z∈ab then some (V.int 1) else none).getD (V.int 0))=.int (((if z∈ab then 1 else 0):Nat):Int):=by split<;>rfl
   rw[ev];refine⟨_,_,rfl,rfl,?_⟩;refine az 1 rfl Fz rfl (az 2 rfl Fz rfl ⟨o,dx,d2,F,fs,if z∈ab then 1 else 0,t.row,"twice",z,by split<;>rfl,E1,by lia,by split<;>decide,λH3 l3 EU=>?_⟩);have ht3:=l3.ls.1 _ _ Fz;rw[CW] at EU;obtain⟨og,ob,g1,g2,g3,g4,g5,kv',g6⟩:=(hab2.kept l3).add (by lia) z;refine⟨_,rfl,az 2 rfl ht3 rfl ⟨_,rfl,d,.str z,1,rfl,.inl ⟨_,.inl g6⟩,.inr ⟨rfl,og,_,g1,g2,g3,hN _ _ ⟨(l2.trans l3.g).trans g5,g4,(EU.upd g6),_,_,rfl⟩⟩⟩⟩
 ·rintro σ' H1 ⟨l1,Hr,E6,x3,x4,rfl⟩;rw[Ih,QV] at E6;exact kq _ ⟨l1.ls,λa kv e=>l1.dk _ _ (λz=>by rw[z,hd] at e;cases e) e⟩ E6
inductive vh (C:Addr) (vs:List V) (H:Hp) (Q:VK) (E:XK):Prop
 |mk:∀(o dx l:Addr) (xs:List V) (ts:List Tr),vs=[.ref o,.ref l]->H o=some (.ins C dx [])->H l=some (.lst xs)->LAt H true xs ts->ts.length<=50->(∀d2 F H',ca H H'->bD H' C o dx d2 F []->eK H' F ts->Q .non H')->vh C vs H Q E
noncomputable abbrev C0:List Str:=["self","tree"]
theorem vi:be C0 ["self","tree"] (aM oA):=⟨rfl,rfl,rfl,by decide +kernel,rfl,by decide +kernel,by decide +kernel⟩
theorem C1(T:All P w K mg AA DD):aI P w K mg base aK 3 AA.Zi DD.Zi ["self","tree"] (vh AA.c_NameLook):=by
 have GA:=CG (base:=base) T;refine T.z_Zi.F.ok vi (λvs H Q E h=>by cases h;subst_vars;rfl) λE2 A outer s H vs Q E hr h=>?_;obtain⟨o,dx,l,xs,ts,rfl,ho,hl,hL,h50,kq⟩:=h;have nd:=vi.nd;have E3:aB 2 _:=hr;refine⟨_,(ar (qh (pv 0) (aG GA E3 rfl T.z_Zt (ae (pv 1) ag)) rfl) (am (qh (pv 0) (rn) rfl))),?_⟩;dsimp only[cZ];refine⟨_,rfl,l,xs,ts,rfl,hl,hL,h50,λd1 F H1 s1 G3 hF=>?_⟩;have IS:=s1 _ _ ho;refine⟨_,rfl,o,AA.c_NameLook,dx,_,rfl,IS,T.cl_NameLook,T.na_NameLook_firsts,(by show 0<1000;decide),?_⟩;refine λd2 GJ=>?_;have s3:=aj (o:=.dT []) GJ;refine⟨_,rfl,o,AA.c_NameLook,dx,_,rfl,s3 _ _ ah,T.cl_NameLook,T.na_NameLook_faults,(by show 1<1000;decide),?_⟩;have b1:=ke (ob':=.ins AA.c_NameLook dx [("firsts",.ref d1)]) IS (λ_ z=>nomatch z) (λ_ z=>nomatch z) λ_ _ z=>nomatch z
 have h3:=s3 _ _ (ah (H:=H1) (a:=o) (o:=.ins AA.c_NameLook dx [("firsts",.ref d1)]));have b2:=ke (ob':=.ins AA.c_NameLook dx [("firsts",.ref d1),("faults",.ref d2)]) h3 (λ_ z=>nomatch z) (λ_ z=>nomatch z) λ_ _ z=>nomatch z
 have EW:d2≠o:=λz=>by rw[z,ah] at GJ;cases GJ
 have hne1:d1≠o:=λz=>by rw[z,IS] at G3;cases G3
 have hd12:L2.upd H1 o (.ins AA.c_NameLook dx [("firsts",.ref d1)]) d1=some (.dT F):=by rw[aE hne1];exact G3
 have hne2:d1≠d2:=λz=>by rw[<-z] at GJ;exact absurd (hd12.symm.trans GJ) (λz=>by cases z)
 refine kq d2 F _ (((s1.ls.trans b1).trans s3.ls).trans b2) ⟨⟨d1,ah,?_,hne2⟩,?_⟩ (((hF.kept b1).kept s3.ls).kept b2)
 ·rw[aE hne1];exact s3 _ _ hd12
 ·rw[aE EW,ah];rfl
theorem vj{k:Nat}{js:List Nat}{g:TG}{tt:TT}{te:TE}{K:W.Frag}{a:Addr}{xs:List V}{σ:St}{H:Hp}{Q:VK}(Pv:Nat->List V->Hp->Prop)(h0:Pv 0 [] H)(hl:∀i ys H,i<=xs.length->Pv i ys H->aq K H a xs)
  (hs:∀i x ys H,xs[i]?=some x->Pv i ys H->kT k js g tt te σ ys (Pv (i+1)) x H)
  (hd:∀ys H,Pv xs.length ys H->∀p,H p=none->Q (.ref p) (upd H p (.lst ys))):mR (eX K a) k js g tt te σ H Q:=by
 refine⟨λi m ys H=>m=xs.length-i/\i<=xs.length/\Pv i ys H,⟨xs.length,by simp,QC _,h0⟩,?_⟩;rintro i m ys H ⟨rfl,hi,p⟩;have q:=hl i ys H hi p;by_cases EX:i<xs.length
 ·refine .inr ⟨⟨xs,xs[i],q,by simp[EX]⟩,Pv (i+1),λGn H' p'=>⟨xs.length-(i+1),by omega,rfl,EX,p'⟩,λx H' y=>?_⟩;obtain⟨e,y⟩:=y;subst e;exact hs i x ys _ (y xs q) p
 ·have e:i=xs.length:=by omega
  subst e;exact .inl ⟨⟨xs,q,Qh _⟩,hd ys H p⟩
noncomputable def jd:List Str:=["num","truth"]
noncomputable def eS(tt:List Tr)(r:Nat)(z:Str):List (List af):=if z∈jd then [] else if fN ("kind",z) tt=true then [] else [k3 r "nokind" z]
noncomputable def bQ(tt:List Tr)(r:Nat)(zs:List Str):List (List af):=zs.flatMap (eS tt r)
theorem vk{tt:List Tr}{r:Nat}{zs:List Str}{i:Nat}(h:i<zs.length):bQ tt r (zs.take (i+1))=bQ tt r (zs.take i)++eS tt r zs[i]:=by unfold bQ;rw[Qm h,List.flatMap_append];simp
theorem C2{tt:List Tr}{r:Nat}{zs:List Str}{fs:List (List af)}(h:(bh fs (bQ tt r zs)).length<900000)(i:Nat):(bh fs (bQ tt r (zs.take i))).length<900000:=by
 have e:bQ tt r zs=bQ tt r (zs.take i)++bQ tt r (zs.drop i):=by unfold bQ;rw[<-List.flatMap_append,List.take_append_drop]
 rw[e,i9] at h;exact Qz (ja _ _) h
abbrev St:=List Str×List (List af)
noncomputable def dN:Tr->List Str
 |.set _ n _=>[n]
 |_=>[]
noncomputable def dX(tt:List Tr)(t:Tr)(e:Ex)(q:St):St:=(q.1++dN t,bh q.2 (aN tt q.1 t.row e))
mutual
noncomputable def bE(tt:List Tr):Tr->St->St
 |.set r n e,q=>dX tt (.set r n e) e q
 |.tell r e,q=>dX tt (.tell r e) e q
 |.give r e,q=>dX tt (.give r e) e q
 |.iff r e b o,q=>lbTs tt o (lbTs tt b (dX tt (.iff r e b o) e q))
 |.whl r e b,q=>lbTs tt b (dX tt (.whl r e b) e q)
 |.df r _ k ps b,q=>(q.1,(lbTs tt b (ps.map (·.1),bh q.2 (bQ tt r (k::ps.map (·.2))))).2)
 |.kd _ _ _,q=>q
noncomputable def lbTs(tt:List Tr):List Tr->St->St
 | [],q=>q
 |t::ts,q=>lbTs tt ts (bE tt t q)
end
theorem je(tt:List Tr):∀(a b:List Tr) (q:St),lbTs tt (a++b) q=lbTs tt b (lbTs tt a q)
 | [],b,q=>by rw[List.nil_append];simp[lbTs]
 |t::a,b,q=>by rw[List.cons_append,lbTs,lbTs,je tt a b]
theorem oY(tt:List Tr)(t:Tr)(q:St):lbTs tt [t] q=bE tt t q:=by rw[lbTs,lbTs]
theorem vm(tt:List Tr){t:Tr}{e:Ex}(h:t.ex=some e)(q:St):bE tt t q=lbTs tt t.blocks.flatten (dX tt t e q)/\t.cnt=1+cnts t.blocks.flatten:=by cases t<;>first|(cases h;simp[bE,Tr.blocks,lbTs,je,Tr.cnt,cnts,lm];done)|cases h
def ie(q q':St)(n:Nat):Prop:=q.2.length<=q'.2.length/\q'.1.length<=q.1.length+n
theorem jf(tt:List Tr)(t:Tr)(e:Ex)(q:St):ie q (dX tt t e q) 1:=by refine⟨ja _ _,?_⟩;show(q.1++dN t).length<=_;rw[Qr];cases t<;>simp[dN]
theorem ie.trans{a b c:St}{n m:Nat}(h:ie a b n)(g:ie b c m):ie a c (n+m):=⟨QK h.1 g.1,by have:=h.2;have:=g.2;omega⟩
mutual
theorem C3(tt:List Tr):∀(t:Tr) (q:St),ie q (bE tt t q) t.cnt
 |.set r n e,q=>by rw[bE,Tr.cnt];exact jf _ _ _ _
 |.tell r e,q=>by rw[bE,Tr.cnt];exact jf _ _ _ _
 |.give r e,q=>by rw[bE,Tr.cnt];exact jf _ _ _ _
 |.iff r e b o,q=>by rw[bE,Tr.cnt];exact(jf _ _ _ _).trans ((lbs_g tt b _).trans (lbs_g tt o _))
 |.whl r e b,q=>by rw[bE,Tr.cnt];exact(jf _ _ _ _).trans (lbs_g tt b _)
 |.df r _ k ps b,q=>by rw[bE];exact⟨QK (ja _ _) (lbs_g tt b (ps.map (·.1),bh q.2 (bQ tt r (k::ps.map (·.2))))).1,Nat.le_add_right _ _⟩
 |.kd _ _ _,q=>by rw[bE];exact⟨Qh _,Nat.le_add_right _ _⟩
theorem lbs_g(tt:List Tr):∀(ts:List Tr) (q:St),ie q (lbTs tt ts q) (cnts ts)
 | [],q=>by rw[lbTs];exact⟨Qh _,Nat.le_add_right _ _⟩
 |t::ts,q=>by rw[lbTs,cnts];exact(C3 tt t q).trans (lbs_g tt ts _)
end
def dy(tt ts:List Tr)(q:St):Prop:=cnts ts<700/\q.1.length+cnts ts<800/\(lbTs tt ts q).2.length<900000
theorem dy.mid{tt a b c:List Tr}{q:St}(h:dy tt (a++(b++c)) q):dy tt b (lbTs tt a q):=by obtain⟨h1,h2,h3⟩:=h;rw[lm,lm] at h1 h2;rw[je,je] at h3;have g1:=(lbs_g tt a q).2;exact⟨by omega,by omega,Qz (lbs_g tt c _).1 h3⟩
theorem vn{α:Type}{l:List α}{i:Nat}{x:α}(h:l[i]?=some x):l=l.take i++([x]++l.drop (i+1))/\l.take (i+1)=l.take i++[x]:=by obtain⟨hi,rfl⟩:=Qc h;exact⟨by rw[List.singleton_append,<-List.drop_eq_getElem_cons hi,List.take_append_drop],Qm hi⟩
theorem dy.at{tt ts:List Tr}{q:St}{i:Nat}{t:Tr}(h:dy tt ts q)(ht:ts[i]?=some t):dy tt [t] (lbTs tt (ts.take i) q)/\lbTs tt (ts.take (i+1)) q=bE tt t (lbTs tt (ts.take i) q):=by obtain⟨e1,e2⟩:=vn ht;rw[e1] at h;exact⟨h.mid,by rw[e2,je,oY]⟩
theorem dy.blk{tt:List Tr}{bs:List (List Tr)}{q:St}{i:Nat}{b:List Tr}(h:dy tt bs.flatten q)(ht:bs[i]?=some b):dy tt b (lbTs tt (bs.take i).flatten q)/\lbTs tt (bs.take (i+1)).flatten q=lbTs tt b (lbTs tt (bs.take i).flatten q):=by
 obtain⟨e1,e2⟩:=vn ht;rw[e1,List.flatten_append,List.flatten_append] at h;rw[e2,List.flatten_append,je];have e:[b].flatten=b:=by simp
 rw[e] at h ⊢;exact⟨h.mid,rfl⟩
theorem dy.row{tt:List Tr}{t:Tr}{e:Ex}{q:St}(h:dy tt [t] q)(he:t.ex=some e):(bh q.2 (aN tt q.1 t.row e)).length<900000/\q.1.length<800/\dy tt t.blocks.flatten (dX tt t e q):=by
 obtain⟨h1,h2,h3⟩:=h;obtain⟨g1,g2⟩:=vm tt he q;rw[oY,g1] at h3;have ec:cnts [t]=t.cnt:=by simp[cnts]
 rw[ec,g2] at h1 h2;have g3:=(jf tt t e q).2;exact⟨Qz (lbs_g tt _ (dX tt t e q)).1 h3,by omega,by omega,by omega,h3⟩
theorem dy.df{tt:List Tr}{r:Nat}{n k:Str}{ps:List (Str×Str)}{b:List Tr}{q:St}(h:dy tt [.df r n k ps b] q)(hp:ps.length<=20):dy tt b (ps.map (·.1),bh q.2 (bQ tt r (k::ps.map (·.2)))):=by
 obtain⟨h1,h2,h3⟩:=h;rw[oY,bE] at h3;have ec:cnts [.df r n k ps b]=1+cnts b:=by simp[cnts,Tr.cnt]
 rw[ec] at h1 h2;exact⟨by omega,by rw[Qf];omega,h3⟩
theorem C4{t:Tr}{bs:List Tr}(h:bs∈t.blocks):bL.b bs∈t.parts:=by
 have:bL.b bs∈t.parts.filter eV:=by rw[ux];exact List.mem_map.mpr ⟨bs,h,rfl⟩
 exact(List.mem_filter.mp this).1
theorem C5{t:Tr}(h:t.asc){e:Ex}(q:t.ex=some e):e.fit:=by
 cases t with
 |set r n e=>cases q;exact h
 |tell r e=>cases q;exact h
 |iff r e b o=>cases q;exact h.1
 |whl r e b=>cases q;exact h.1
 |give r e=>cases q;exact h
 |_=>cases q
inductive ig (C:Addr) (k:Nat) (vs:List V) (H:Hp) (Q:VK) (E:XK):Prop
 |mk:∀(o dx d2 g l:Addr) (F:List (List af×V)) (tt:List Tr) (xs:List V) (ts:List Tr) (q:St),vs=[.ref o,.ref l,.ref g]->H l=some (.lst xs)->LAt H true xs ts->deeps ts<k->ascs ts->bD H C o dx d2 F q.2->eK H F tt->eL H g q.1->dy tt ts q->(∀H',dM g H H'->bD H' C o dx d2 F (lbTs tt ts q).2->eL H' g (lbTs tt ts q).1->Q .non H')->ig C k vs H Q E
inductive vq (C:Addr) (k:Nat) (vs:List V) (H:Hp) (Q:VK) (E:XK):Prop
 |mk:∀(o dx d2:Addr) (F:List (List af×V)) (tt:List Tr) (v:V) (r:Nat) (z kd:Str) (ps:List (Str×Str)) (b:List Tr) (fs:List (List af)),vs=[.ref o,.int 1,v]->bW H true v (.df r z kd ps b)->(Tr.df r z kd ps b).asc->deeps b<k->bD H C o dx d2 F fs->eK H F tt->dy tt b (ps.map (·.1),bh fs (bQ tt r (kd::ps.map (·.2))))->(∀H',cc H H'->bD H' C o dx d2 F (lbTs tt b (ps.map (·.1),bh fs (bQ tt r (kd::ps.map (·.2))))).2->Q .non H')->vq C k vs H Q E
theorem vt:∀(ps:List (Str×Str)) (a:List (af×V)) (l:List Str),(∀z:Str,bo a (.inr z)=if z∈l then some (.int 1) else none) ->
  ∀z:Str,bo ((ps.map λq=>((.inr q.1:af),V.int 1)).foldl (λq p=>a8 q p.1 p.2) a) (.inr z)=if z∈l++ps.map (·.1) then some (.int 1) else none
 | [],a,l,h,z=>by rw[List.map_nil,List.map_nil,Qy];exact h z
 |q::ps,a,l,h,z=>by
  rw[List.map_cons,List.foldl_cons,vt ps _ (l++[q.1]) (λz=>?_) z,QN]
  ·rfl
  ·rw[mT,h];by_cases hz:z=q.1
   ·rw[if_pos (by rw[hz]),if_pos (by simp[hz])]
   ·rw[if_neg (λe=>hz (by injection e))];by_cases hq:z∈l
    ·rw[if_pos hq,if_pos (by simp[hq])]
    ·rw[if_neg hq,if_neg (by simp[hq,hz])]
theorem C6{p:Prop}[Decidable p](k:List af):jb (if p then 0 else 1) k=if p then [] else [k]:=by split<;>rfl
noncomputable abbrev oZ:List Str:=["self","mask","one","kind"]
theorem vv:be oZ ["self","mask","one"] (aM ka):=⟨rfl,rfl,rfl,by decide +kernel,rfl,by decide +kernel,by decide +kernel⟩
theorem C7(T:All P w K mg AA DD)(k:Nat)(GY:aI P w K mg base aK (2*k+13) AA.Zb DD.Zb ["self","statements","given"] (ig AA.c_NameLook k)) :
  aI P w K mg base aK (2*k+14) AA.Zd DD.Zd ["self","mask","one"] (vq AA.c_NameLook k):=by
 have GO:=lY (base:=base) T;have GN:=lV (base:=base) T;have GHD:=uX (base:=base) T;refine T.z_Zd.F.ok vv (λvs H Q E h=>by cases h;subst_vars;rfl) λE2 A outer s H vs Q E hr h=>?_;obtain⟨o,dx,d2,F,tt,v,r,z,kd,ps,b,fs,rfl,hS,ha,hd,hk,hF,hB,kq⟩:=h;have nd:=vv.nd;have hrB:aB (2*k+13) _:=hr;have E3:aB 2 _:=hrB.mono (by lia);have Fd:aB 1 _:=hrB.mono (by lia);obtain⟨t0,vp,lb,zs,ev,Hl,hp,hlb,hLb⟩:=tS hS;subst ev;obtain⟨tp,us,rfl,IM,G5,huat⟩:=hp;have F1:=ha.1;have hbd:=Qz (lbs_g tt b _).1 hB.2.2;dsimp only at hbd;refine⟨_,(ar (db PassesOwn.never rfl (c7 (aD fW (bJ (ae (au (pv 2)) ag)) (jM (xs:=["name","kind"]) (aM ka) oZ [] [] rfl (by exact⟨rfl,rfl,by decide +kernel,by decide +kernel,by decide +kernel,by decide +kernel,by decide +kernel,rfl,by decide +kernel⟩) rfl rfl (gx (au (pv 2))) (λ_ _ _ _=>(dF (n:=2) rfl (bv (ba (i:=0) (show(["name","kind"]:List Str).Nodup by decide +kernel) rfl (Or.inl rfl)) (bv (ba (i:=1) (show(["name","kind"]:List Str).Nodup by decide +kernel) rfl (Or.inl rfl)) dz)))) (λ_ _ _ _=>eE) (λ_ _ _ _=>(pv 1))))) (ba (i:=3) nd rfl (Or.inl rfl)) (am (aS (aH (AT (K:=K) rfl) (pv 3) (xJ (v:=.ref AA.q_PLAIN_KINDS) rfl T.m_PLAIN_KINDS rfl) rfl) (am (bV (dC (pv 0) T.cl_NameLook T.M_Zj GO E3 T.z_Zj.b .nil c6 (ae (aG GN Fd rfl T.z_ZJ (ae (pv 1) (ae (dC (pv 0) T.cl_NameLook T.M_Zk GHD E3 T.z_Zk.b .nil c6 (ae al (ae (pv 3) ag))) ag))) (ae (au (pv 2)) (ae al (ae (pv 3) ag))))) (by rfl))) a9)) (by intro _;rfl)) (am (bV (dC (pv 0) T.cl_NameLook T.M_Zb GY hrB T.z_Zb.b .nil c6 (ae (au (pv 2)) (ae (fA (Ak true rfl) rfl T.n_dict Aj (ae (jM (xs:=["name","kind"]) (aM ka) oZ ["mask"] [1] rfl (by exact⟨rfl,rfl,by decide +kernel,by decide +kernel,by decide +kernel,by decide +kernel,by decide +kernel,rfl,by decide +kernel⟩) rfl rfl (gx (au (pv 2))) (λ_ _ _ _=>(dF (n:=2) rfl (bv (ba (i:=0) (show(["name","kind","mask"]:List Str).Nodup by decide +kernel) rfl (Or.inl rfl)) (bv (ba (i:=1) (show(["name","kind","mask"]:List Str).Nodup by decide +kernel) rfl (Or.inl rfl)) dz)))) (λ_ _ _ _=>eE) (λ_ _ _ _=>(aX (ae (pv 0) (ae (pv 2) ag))))) ag)) ag))) (by rfl)))),?_⟩;refine eZ (λσ' H'=>cc H H'/\bD H' AA.c_NameLook o dx d2 F (bh fs (bQ tt r (kd::ps.map (·.2))))/\∃x3,σ'=[some (.ref o),some (.int 1),some (.ref t0),x3]) (λR hR=>?_) ?_
 ·refine az 3 rfl Hl rfl ⟨eM,λq hq=>?_⟩;have s1:=aj (o:=.lst [.str kd]) hq;have Jb:=s1 _ _ IM;refine az 4 rfl (s1 _ _ Hl) rfl ⟨tp,rfl,⟨_,aq.of Jb⟩,?_⟩;refine vj (K:=K0) (a:=tp) (xs:=us.map V.ref) (λi ys H'=>H'=upd H q (.lst [.str kd])/\ys=((ps.take i).map (·.2)).map V.str) ⟨rfl,rfl⟩ (λi ys H' _ h=>by rw[h.1];exact aq.of Jb) ?_ ?_
  ·rintro i x ys H2 hx ⟨rfl,rfl⟩;obtain⟨FS,ex⟩:=j0 hx;subst ex;have Il:i<ps.length:=by lia
   have hu2:=s1 _ _ (huat i us[i] ps[i] (Qa FS) (Qa Il));intro os FO;obtain⟨o1,o2,rfl⟩:=iW FO;refine⟨us[i],_,rfl,aq.of hu2,rfl,_,_,rfl,_,_,rfl,rfl,⟨[_,_],rfl,rfl⟩,?_⟩;refine eD ?_;rw[if_pos rfl];refine⟨_,rfl,?_⟩;refine⟨by rw[Qf,Qf,Qx];exact bP (by lia),rfl,?_⟩;rw[Qm Il,QL,QL];rfl
  ·rintro ys H2 ⟨rfl,rfl⟩ q2 Fq;have etk:ps.take (us.map V.ref).length=ps:=by rw[Qf,G5,QV]
   rw[etk];have s2:=aj (o:=.lst ((ps.map (·.2)).map V.str)) Fq;refine⟨q,q2,[.str kd],(ps.map (·.2)).map V.str,rfl,rfl,s2 _ _ ah,ah,?_,λl8 IV=>?_⟩
   ·simp only[Qf,QM,List.length_nil];exact QT (bP (by lia))
   have s3:=aj (o:=.lst ([.str kd]++(ps.map (·.2)).map V.str)) IV;have s13:=(s1.trans s2).trans s3;generalize F0:kd::ps.map (·.2)=ks at hR hbd;have ek:[V.str kd]++(ps.map (·.2)).map V.str=ks.map V.str:=by rw[<-F0];rfl
   rw[ek] at s3 s13 ⊢;have hl9:upd (upd (upd H q (.lst [.str kd])) q2 (.lst ((ps.map (·.2)).map V.str))) l8 (.lst (ks.map V.str)) l8=some (.lst (ks.map V.str)):=ah;generalize upd (upd (upd H q (.lst [.str kd])) q2 (.lst ((ps.map (·.2)).map V.str))) l8 (.lst (ks.map V.str))=H3 at s13 hl9 ⊢;refine⟨l8,rfl,⟨_,ak.of hl9⟩,?_⟩;refine fc (K:=K0) (a:=l8) (xs:=ks.map V.str) (λi σ' H'=>cc H3 H'/\bD H' AA.c_NameLook o dx d2 F (bh fs (bQ tt r (ks.take i)))/\∃x3,σ'=[some (.ref o),some (.int 1),some (.ref t0),x3]) ⟨cc.refl _,hk.same s13,_,rfl⟩ (λi σ' H' _ h=>ak.of (h.1.ls.2 _ _ hl9)) ?_ ?_
   ·rintro i x σ' H4 hx ⟨l4,E5,x3,rfl⟩ D1 hN;obtain⟨hi4,ex⟩:=j0 hx;subst ex;have hgl:=C2 hbd i;rw[vk hi4,i9] at hN;generalize ks[i]=y at hN ⊢;generalize bh fs (bQ tt r (ks.take i))=gs at E5 hN hgl;have l04:=(d9 s13).trans l4;obtain⟨d1,hi,_⟩:=E5.ins;refine⟨_,rfl,AA.q_PLAIN_KINDS,[.str "num",.str "truth"],rfl,.inr (T.Q_PLAIN_KINDS H4),rfl,rfl,_,rfl,?_⟩;unfold eS at hN;by_cases hy:y∈jd
    ·refine cN (by show(!fD (V.str y) (jd.map V.str))=false;rw[lW,Qv hy];rfl) ?_;rw[if_pos hy] at hN;exact hN _ _ ⟨l4,E5,_,rfl⟩
    ·refine dW (by show(!fD (V.str y) (jd.map V.str))=true;rw[lW,Qi hy];rfl) ?_;rw[if_neg hy] at hN;refine⟨_,rfl,o,dx,_,rfl,hi,rfl,_,rfl,_,rfl,o,dx,_,rfl,hi,rfl,_,rfl,o,dx,d2,F,_,tt,"kind",y,rfl,E5,hF.kept l04.ls,λh H5 s5 hh=>⟨1,h,rfl,?_⟩⟩;rw[hh];refine az 1 rfl (s5 _ _ (l04.ls.1 _ _ Hl)) rfl ⟨_,rfl,o,dx,d2,F,_,_,r,"nokind",y,rfl,E5.same s5,hgl,by split<;>decide,λH6 l6 hk6=>hN _ _ ⟨(l4.trans (d9 s5)).trans l6,?_,_,rfl⟩⟩;rw[C6] at hk6;exact hk6
   ·rintro σ' H4 ⟨l4,E5,x3,rfl⟩;rw[Qf,QV] at E5;exact hR _ _ ⟨(d9 s13).trans l4,E5,_,rfl⟩
 rintro σ' H1 ⟨l1,E6,x3,rfl⟩;have ht1:=l1.ls.1 _ _ Hl;have Jb:=l1.ls.1 _ _ IM;obtain⟨d1',Gq,_⟩:=E6.ins;refine⟨_,rfl,o,dx,_,rfl,Gq,rfl,az 5 rfl ht1 rfl ?_⟩;refine az 4 rfl ht1 rfl ⟨tp,rfl,⟨_,aq.of Jb⟩,?_⟩
 refine vj (K:=K0) (a:=tp) (xs:=us.map V.ref) (λi ys H'=>Same H1 H'/\∃ts:List Addr,ys=ts.map V.ref/\ts.length=(ps.take i).length/\∀(j:Nat) (t:Addr) (q:Str×Str),ts[j]?=some t->(ps.take i)[j]?=some q->H' t=some (.tup [.str q.1,.int 1]))
  ⟨Same.refl _,[],rfl,rfl,λj t p h=>by simp at h⟩ (λi ys H' _ h=>aq.of (h.1 _ _ Jb)) ?_ ?_
 ·rintro i x ys H2 hx ⟨s2,ts,rfl,htl,hat⟩;obtain⟨FS,ex⟩:=j0 hx;subst ex;have Il:i<ps.length:=by lia
  have hu2:=s2 _ _ (l1.ls.1 _ _ (huat i us[i] ps[i] (Qa FS) (Qa Il)));intro os FO;obtain⟨o1,o2,rfl⟩:=iW FO;refine⟨us[i],_,rfl,aq.of hu2,rfl,_,_,rfl,_,_,rfl,rfl,⟨[_,_],rfl,rfl⟩,?_⟩;refine eD ?_;rw[if_pos rfl];refine⟨_,rfl,_,rfl,bZ,λq3 Ij=>?_⟩;have s5:=aj (o:=.tup [.str ps[i].1,.int 1]) Ij;have htl2:=htl;rw[Qx] at htl2;refine⟨by rw[Qf];exact bP (by lia),s2.trans s5,ts++[q3],by simp,?_,λj t q h1 h2=>?_⟩
  ·rw[Qm Il,Qr,Qr,htl];rfl
  rw[Qm Il] at h2;rcases Nat.lt_or_ge j ts.length with hj|hj
  ·rw[Ql hj] at h1;rw[Ql (by lia)] at h2;exact s5 _ _ (hat j t q h1 h2)
  ·rw[Qs hj] at h1;rw[Qs (by lia),<-htl] at h2;have e0:j-ts.length=0:=by have:=(Qc h1).1;rw[List.length_singleton] at this;lia
   rw[e0] at h1 h2;cases h1;cases h2;exact ah
 ·rintro ys H2 ⟨s2,ts,rfl,htl,hat⟩ q hq;have etk:ps.take (us.map V.ref).length=ps:=by rw[Qf,G5,QV]
  rw[etk] at htl hat;have sq:=aj (o:=.lst (ts.map V.ref)) hq;refine⟨q,ts,ps.map λq=>(.inr q.1,.int 1),rfl,ah,by rw[Qf];lia,λj t p h1 h2=>?_,λd3 Hq=>?_⟩
  ·rw[Qj] at h2;obtain⟨q,hq,rfl⟩:=Option.map_eq_some_iff.mp h2;exact sq _ _ (hat j t q h1 hq)
  have s3:=(s2.trans sq).trans (aj (o:=.dK (gw (ps.map λq=>((.inr q.1:af),V.int 1)))) Hq);have lk3:=d9 s3;have G3:H1 d3=none:=Same.free (s2.trans sq) Hq;refine⟨o,dx,d2,d3,lb,F,tt,zs,b,(ps.map (λq:Str×Str=>q.1),bh fs (bQ tt r (kd::ps.map (·.2)))),rfl,lk3.ls.2 _ _ (l1.ls.2 _ _ hlb),(hLb.kept l1.ls).kept lk3.ls,hd,ha.2.2,E6.same s3,(hF.kept l1.ls).kept lk3.ls,⟨_,ah,by have:=m4 (ps.map λq=>((.inr q.1:af),V.int 1));rw[Qf] at this ⊢;exact this,vt ps [] [] λz=>rfl⟩,hB,λH4 l4 E5 _=>kq _ (l1.trans ⟨lk3.ls.trans l4.ls,λa kv h=>l4.dk _ _ (λz=>by rw[z,G3] at h;cases h) (lk3.dk _ _ h)⟩) E5⟩
noncomputable abbrev C8:List Str:=["self","statements","given","mask","one","block"]
theorem o0:be C8 ["self","statements","given"] (aM oE):=⟨rfl,rfl,rfl,by decide +kernel,rfl,by decide +kernel,by decide +kernel⟩
theorem C9(T:All P w K mg AA DD)(k:Nat)(GY:aI P w K mg base aK (2*k+13) AA.Zb DD.Zb ["self","statements","given"] (ig AA.c_NameLook k)) :
  aI P w K mg base aK (2*(k+1)+13) AA.Zb DD.Zb ["self","statements","given"] (ig AA.c_NameLook (k+1)):=by
 have GE:=u6 (base:=base) T 8;have GX:=Cv (base:=base) T;have GK:=Cw (base:=base) T;have GD:=oR (base:=base) T;have GLD:=C7 (base:=base) T k GY;refine T.z_Zb.F.ok o0 (λvs H Q E h=>by cases h;subst_vars;rfl) λE2 A outer s H vs Q E hr h=>?_;obtain⟨o,dx,d2,g,l,F,tt,xs,ts,q,rfl,hl,hL,hd,ha,hk,hF,hg,hB,kq⟩:=h;have nd:=o0.nd;have hrL:aB (2*k+14) _:=hr;have hrB:aB (2*k+13) _:=hrL.mono (by lia);have FH:aB 12 _:=hrB.mono (by lia);have Fd:aB 1 _:=hrB.mono (by lia);refine⟨_,(am (db PassesOwn.never rfl (c7 (pv 1)) (dF rfl (bv (ba (i:=3) nd rfl (Or.inl rfl)) (bv (ba (i:=4) nd rfl (Or.inl rfl)) dz))) (am (aS (aH aV (au (pv 4)) al (aL _)) (am (bV (dC (pv 0) T.cl_NameLook T.M_Zd GLD hrL T.z_Zd.b .nil c6 (ae (pv 3) (ae (pv 4) ag))) (by rfl))) (am (aS (aH fT (au (pv 4)) al (aL _)) (ar (bV (dC (pv 0) T.cl_NameLook T.M_Zc GE FH T.z_Zc.b .nil c6 (ae (pv 3) (ae (aG GX Fd rfl T.z_ZK (ae (pv 4) ag)) (ae (au (pv 4)) (ae (pv 2) ag))))) (by rfl)) (ar (aS (aH aV (au (pv 4)) al (aL _)) (am (bV (aG GD Fd rfl T.z_ZO (ae (pv 2) (ae (au (pv 4)) (ae (pv 3) ag)))) (by rfl))) a9) (am (db PassesOwn.never rfl (c7 (aG GK Fd rfl T.z_Zy (ae (pv 4) ag))) (ba (i:=5) nd rfl (Or.inl rfl)) (am (bV (dC (pv 0) T.cl_NameLook T.M_Zb GY hrB T.z_Zb.b .nil c6 (ae (pv 5) (ae (pv 2) ag))) (by rfl))) (by intro _;rfl))))) a9)))) (by intro _;rfl))),?_⟩;dsimp only[cZ];refine⟨_,rfl,l,rfl,⟨_,ak.of hl⟩,?_⟩;have Ih:=hL.length;refine fc (K:=K0) (a:=l) (xs:=xs) (λi σ' H'=>dM g H H'/\(∃x3 x4 x5,σ'=[some (.ref o),some (.ref l),some (.ref g),x3,x4,x5])/\bD H' AA.c_NameLook o dx d2 F (lbTs tt (ts.take i) q).2/\eL H' g (lbTs tt (ts.take i) q).1) ⟨dM.refl _ _,⟨_,_,_,rfl⟩,by simpa [lbTs] using hk,by simpa [lbTs] using hg⟩ (λi σ' H' _ h=>ak.of (h.1.ls.2 _ _ hl)) ?_ ?_
 ·rintro i x σ' H1 hx ⟨l1,⟨x3,x4,x5,rfl⟩,E6,hg1⟩ D1 hN;obtain⟨t,ht,hO⟩:=hL.get hx;have hO1:=hO.kept l1.ls;have hF1:=hF.kept l1.ls;have hm:t∈ts:=Qk ht;have hta:=lr ha hm;have hdm:=lq hm;obtain⟨hB1,e1⟩:=hB.at ht;rw[e1] at hN;generalize lbTs tt (ts.take i) q=q1 at E6 hg1 hB1 hN
  cases hO1 with
  |plain e _=>cases e
  | @shared p y _ _ hp hS =>
  have hS0:=hS
  cases hS with
  | @mk t0 vs _ Hl F1 =>
  obtain⟨vr,rfl⟩:=oT F1;obtain⟨d1,hi,_⟩:=E6.ins;refine⟨p,_,rfl,aq.of hp,rfl,_,_,rfl,_,_,rfl,rfl,?_⟩;refine az 0 rfl Hl rfl ⟨rfl,_,rfl,?_⟩
  cases Hy:t.ex with
  |none =>
   cases t with
   |df r z kd ps b =>
    refine dW (Qv rfl) ?_;have hb:deeps b<=(Tr.df r z kd ps b).deep:=ln (by simp[Tr.parts]);rw[bE] at hN;exact⟨_,rfl,o,dx,_,rfl,hi,rfl,_,rfl,_,rfl,o,dx,d2,F,tt,.ref t0,r,z,kd,ps,b,_,rfl,hS0,hta,by lia,E6,hF1,hB1.df hta.1,λH2 l2 E1=>hN _ _ ⟨l1.trans l2.g,⟨_,_,_,rfl⟩,E1,hg1.kept l2⟩⟩
   |kd r z ps =>
    refine cN (Qi (by intro q;injection q with q;exact absurd q (by simp only[Tr.kw];decide +kernel))) ?_;refine az 0 rfl Hl rfl ⟨rfl,_,rfl,?_⟩
    refine cN (by
     show(!decide (V.str "kind"=V.str "kind"))=false
     rw[Qv rfl];rfl) ?_
    rw[bE] at hN;exact hN _ _ ⟨l1,⟨_,_,_,rfl⟩,E6,hg1⟩
   |_=>cases Hy
  |some ee =>
  refine cN (Qi λz=>(uy Hy).1 (by injection z)) ?_;refine az 0 rfl Hl rfl ⟨rfl,_,rfl,?_⟩
  refine dW (by
   show(!decide (V.str t.kw=V.str "kind"))=true
   rw[Qi λz=>(uy Hy).2 (by injection z)];rfl) ?_
  have hfit:=C5 hta Hy;obtain⟨b1,b2,b3⟩:=hB1.row Hy;rw[(vm tt Hy q1).1] at hN;refine⟨_,rfl,o,dx,_,rfl,hi,rfl,_,rfl,_,rfl,.ref t0,t,ee,rfl,hS0,Hy,λx hx=>?_⟩;refine az 1 rfl Hl rfl ⟨_,rfl,o,dx,d2,g,F,tt,_,_,x,ee,t.row,rfl,hx,hfit.1,hfit.2,E6,hF1,hg1,b1,λH2 l2 E1=>?_⟩;have hg2:=hg1.kept l2;have Fz:=l2.ls.1 _ _ Hl;dsimp only;refine dY (λσ' H'=>(∃x5,σ'=[some (.ref o),some (.ref l),some (.ref g),some (.int 1),some (.ref t0),x5])/\dM g H2 H'/\bD H' AA.c_NameLook o dx d2 F (dX tt t ee q1).2/\eL H' g (dX tt t ee q1).1) (λR hR=>?_) ?_
  ·refine az 0 rfl Fz rfl ⟨rfl,_,rfl,?_⟩;by_cases hset:∃r z e,t=.set r z e
   ·obtain⟨r,z,e',rfl⟩:=hset;refine dW (Qv rfl) ?_;obtain⟨t0',ve,e1,ht0',_⟩:=tR hS0;cases e1;obtain⟨og,ob,g1,g2,g3,g4,g5,kv',g6⟩:=hg2.add (by lia) z;exact⟨_,rfl,az 2 rfl (l2.ls.1 _ _ ht0') rfl ⟨_,rfl,g,.str z,1,rfl,.inl ⟨_,.inl g6⟩,.inr ⟨rfl,og,_,g1,g2,g3,hR _ _ ⟨⟨_,rfl⟩,g5,E1.upd g6,g4⟩⟩⟩⟩
   ·obtain ⟨hns,hnm⟩:t.kw≠"set"/\dN t=[]:=by
     cases t with
     |set r z e'=>exact absurd ⟨_,_,_,rfl⟩ hset
     |_=>exact⟨by simp only[Tr.kw];decide +kernel,rfl⟩
    refine cN (Qi λz=>hns (by injection z)) ?_;exact hR _ _ ⟨⟨_,rfl⟩,dM.refl _ _,E1,by unfold dX;rw[hnm,Qy];exact hg2⟩
  ·rintro σ' H3 ⟨⟨x5',rfl⟩,l3,EU,hg3⟩;have l13:=(l1.trans l2.g).trans l3;refine⟨_,rfl,.ref t0,t,rfl,hS0.kept (l2.ls.trans l3.ls),λpb ys H4 s4 hpb EY=>⟨pb,rfl,⟨_,ak.of hpb⟩,?_⟩⟩;have E5:=EU.same s4;have hg4:=hg3.kept (d9 s4);have l4:=l13.trans (d9 s4).g;have hF4:=hF.kept l4.ls;have FF:=EY.length;rw[Qf] at FF;generalize dX tt t ee q1=q2 at E5 hg4 hN b3;refine fc (K:=K0) (a:=pb) (xs:=ys) (λj σ' H'=>dM g H4 H'/\(∃x5,σ'=[some (.ref o),some (.ref l),some (.ref g),some (.int 1),some (.ref t0),x5])/\bD H' AA.c_NameLook o dx d2 F (lbTs tt (t.blocks.take j).flatten q2).2/\eL H' g (lbTs tt (t.blocks.take j).flatten q2).1) ⟨dM.refl _ _,⟨_,rfl⟩,by simpa [lbTs] using E5,by simpa [lbTs] using hg4⟩ (λj σ' H' _ h=>ak.of (h.1.ls.2 _ _ hpb)) ?_ ?_
   ·rintro j v σ' H5 hv ⟨l5,⟨x6',rfl⟩,HP,hg5⟩ D2 hM;obtain⟨pp,hpp,hPP⟩:=EY.get hv;rw[Qj] at hpp;obtain⟨bs,IX,rfl⟩:=Option.map_eq_some_iff.mp hpp;have hPP:=hPP.kept l5.ls;obtain⟨b4,e4⟩:=b3.blk IX;rw[e4] at hM
    cases hPP with
    | @b lb zs _ hlb hLb =>
    obtain⟨d1,hi5,_⟩:=HP.ins;have Gk:=C4 (Qk IX);have hdb:=ln Gk;exact⟨_,rfl,o,dx,_,rfl,hi5,rfl,_,rfl,_,rfl,o,dx,d2,g,lb,F,tt,zs,bs,_,rfl,hlb,hLb,by lia,(jZ hta Gk).2,HP,hF4.kept l5.ls,hg5,b4,λH' ls G1 hg'=>hM _ _ ⟨l5.trans ls,⟨_,rfl⟩,G1,hg'⟩⟩
   ·rintro σ' H5 ⟨l5,⟨x6',rfl⟩,HP,hg5⟩;rw[QD (by lia)] at HP hg5;exact hN _ _ ⟨l4.trans l5,⟨_,_,_,rfl⟩,HP,hg5⟩
 ·rintro σ' H1 ⟨l1,⟨x3,x4,x5,rfl⟩,E6,hg1⟩;rw[QD (by lia)] at E6 hg1;exact kq _ l1 E6 hg1
theorem Da(T:All P w K mg AA DD):aI P w K mg base aK (2*0+13) AA.Zb DD.Zb ["self","statements","given"] (ig AA.c_NameLook 0):=by
 have no:∀vs H Q E,¬ig AA.c_NameLook 0 vs H Q E:=λvs H Q E h=>by obtain⟨o,dx,d2,g,l,F,tt,xs,ts,q,_,_,_,z,_⟩:=h;lia
 exact T.z_Zb.F.ok o0 (λvs H Q E h=>(no _ _ _ _ h).elim) (λE2 A outer s H vs Q E hr h=>(no _ _ _ _ h).elim)
theorem vx(T:All P w K mg AA DD):∀k:Nat,aI P w K mg base aK (2*k+13) AA.Zb DD.Zb ["self","statements","given"] (ig AA.c_NameLook k)
 |0=>Da T
 |k+1=>C9 T k (vx T k)
theorem gB{H:Hp}:aY H [] []:=⟨rfl,λi x d hx=>by simp at hx⟩
theorem jg{H:Hp}{xs ys:List V}{ds es:List (List af)}(h:aY H xs ds)(g:aY H ys es):aY H (xs++ys) (ds++es):=by
 refine⟨by rw[Qr,Qr,h.1,g.1],λi x d hx hd=>?_⟩;by_cases hi:i<xs.length
 ·rw[Ql hi] at hx;rw[Ql (by rw[<-h.1];exact hi)] at hd;exact h.2 i x d hx hd
 ·rw[Qs (by lia)] at hx;rw[Qs (by rw[<-h.1];lia),<-h.1] at hd;exact g.2 _ x d hx hd
theorem cG{H H':Hp}{xs:List V}{ds:List (List af)}(h:aY H xs ds)(s:cL H H'):aY H' xs ds:=⟨h.1,λi x d hx hd=>by obtain⟨t,a,b⟩:=h.2 i x d hx hd;exact⟨t,a,s _ _ b⟩⟩
theorem o3{H:Hp}{t:Addr}{d:List af}(h:H t=some (.tup (d.map kV))):aY H [.ref t] [d]:=⟨rfl,λi x k h1 h2=>by
 cases i with
 |succ i=>simp at h1
 |zero=>cases h1;cases h2;exact⟨t,rfl,h⟩⟩
def fO(k:List af):Prop:=∃r a z,k=k3 r a z
theorem vz{fs:List (List af)}{k:List af}(h:k∈c9 fs):k∈fs:=by obtain⟨j,hj,e⟩:=QI h;rw[<-e,Qg,Qa (tQ j hj)];exact QQ _
theorem vA(fs:List (List af)):(c9 fs).length=fs.length:=by unfold c9;rw[Qf,AV]
inductive vB (vs:List V) (H:Hp) (Q:VK) (E:XK):Prop
 |mk:∀(d:Addr) (fs:List (List af)),vs=[.ref d]->H d=some (.dT (cJ fs))->fs.length<900000->(∀k∈fs,fO k)->(∀p ys H',Same H H'->H' p=some (.lst ys)->aY H' ys ((c9 fs).map λk=>.inl 1::k)->Q (.ref p) H')->vB vs H Q E
noncomputable abbrev vC:List Str:=["found"]
theorem vD:be vC ["found"] (aM lJ):=⟨rfl,rfl,rfl,by decide +kernel,rfl,by decide +kernel,by decide +kernel⟩
theorem Db(T:All P w K mg AA DD):aI P w K mg base aK 1 AA.Zs DD.Zs ["found"] vB:=by
 refine T.z_Zs.F.ok vD (λvs H Q E h=>by cases h;subst_vars;rfl) λE2 A outer s H vs Q E hr h=>?_;obtain⟨d,fs,rfl,hd,hf,FC,kq⟩:=h;have nd:=vD.nd;have hu:=Qz (Nat.add_le_add_left (show 1<=64 by decide) _) hr.units;refine⟨_,(am (aP (fX (aM lJ) vC ["found"] [0] rfl (by exact⟨rfl,rfl,by decide +kernel,rfl,by decide +kernel,by decide +kernel,by decide +kernel,rfl,by decide +kernel⟩) rfl rfl (c7 (ci (A6 rfl) rfl T.n_sorted r9 (ae (pv 0) ag))) (λ_ _ _ _=>eE) (λ_ _ _ _=>(aD Be (aX (ae (dr hu (pv 1) (pv 0) (λ_ _=>rfl)) ag)) (pv 0)))))),?_⟩;have hmp:(cJ fs).map (·.1)=fs:=by unfold cJ;rw[QX];exact List.map_id fs
 refine⟨_,rfl,d,cJ fs,[true,false,false],rfl,hd,(by unfold cJ;rw[Qf];lia),λkv hkv=>?_,by simp,λp xs hp hT=>?_⟩
 ·unfold cJ at hkv;obtain⟨k,hk,rfl⟩:=QI hkv;obtain⟨r,a,z,rfl⟩:=FC k hk;rfl
 rw[hmp] at hT ⊢;have s1:=aj (o:=.lst (cb fs xs)) hp;have hS:=B0 hT;have hsl:=vA fs;refine⟨p,rfl,⟨_,ak.of ah⟩,?_⟩;refine qP (K:=K0) (a:=p) (xs:=cb fs xs) (λi ys H'=>Same (upd H p (.lst (cb fs xs))) H'/\aY H' ys (((c9 fs).take i).map λk=>.inl 1::k)) ⟨Same.refl _,gB⟩ (λi ys H' _ h=>ak.of (h.1 _ _ ah)) ?_ ?_
 ·rintro i x ys H1 hx ⟨sm,EY⟩;have Im:i<(c9 fs).length:=by rw[<-hS.1];exact(Qc hx).1
  obtain⟨t,rfl,ht⟩:=hS.2 i x (c9 fs)[i] hx (Qa Im);have FF:=EY.1;rw[Qf,Qx] at FF;have Fc:=vz (QQ Im);have ht1:=sm _ _ (s1 _ _ ht);have G3:=sm _ _ (s1 _ _ hd);rw[Qm Im,QL];generalize (c9 fs)[i]=k at ht1 Fc ⊢;have G9:bo (cJ fs) k=some (.int 1):=by rw[uj,if_pos (List.any_eq_true.mpr ⟨k,Fc,Qv rfl⟩)]
  obtain⟨r,a,z,rfl⟩:=FC k Fc;refine eD ?_;rw[if_pos rfl];refine⟨_,rfl,_,rfl,d,.int 1,rfl,by rw[<-G9];exact bK.t G3 ht1,eM,λq hq=>?_⟩;have s2:=aj (o:=.tup [.int 1]) hq;refine⟨_,rfl,q,t,[.int 1],_,rfl,rfl,aq.of ah,aq.of (s2 _ _ ht1),by simp,(by show 1+3<=sizeLine;decide),λz=>absurd z (by simp[k3]),λ_ q2 Fq=>?_⟩;have s3:=s2.trans (aj (o:=.tup ([.int 1]++(k3 r a z).map kV)) Fq);exact⟨oV (by lia),sm.trans s3,jg (cG EY s3.tups) (o3 ah)⟩
 ·rintro ys H1 ⟨sm,EY⟩ q hq;have s2:=aj (o:=.lst ys) hq;rw[QD (by rw[hS.1];exact Qh _)] at EY;exact kq q ys _ ((s1.trans sm).trans s2) ah (cG EY s2.tups)
noncomputable def FN(ts:List Tr):List (List af):=(lbTs ts ts ([],bh [] (cf [] ts))).2
def o4(ts:List Tr):Prop:=deeps ts<5/\ts.length<=40/\ascs ts/\cnts ts<400
def f8(fs:List (List af)):Prop:=fs.Nodup/\∀k∈fs,fO k
theorem o5{fs ks:List (List af)}(h:f8 fs)(g:∀k∈ks,fO k):f8 (bh fs ks):=⟨uS h.1,λk hk=>(kg.mp hk).elim (h.2 k) (g k)⟩
theorem Dc{tt:List Tr}{r:Nat}{a FI z:Str}{n:Nat}{k:List af}(h:k∈cF tt r a FI z n):fO k:=by
 unfold cF at h;split at h
 ·exact⟨_,_,_,by simpa using h⟩
 ·split at h
  ·simp at h
  ·exact⟨_,_,_,by simpa using h⟩
mutual
theorem jh{tt:List Tr}{kn:List Str}{r:Nat}{k:List af}:∀{e:Ex},k∈aN tt kn r e->fO k
 |.many w z es,h=>by
  rw[aN] at h;rcases Qq h with h|h
  ·exact Dc h
  ·exact exs_k3 h
 |.name z,h=>by
  rw[aN] at h;split at h
  ·simp at h
  ·exact⟨_,_,_,by simpa using h⟩
 |.not e,h=>by rw[aN] at h;exact jh h
 |.op _ a b,h=>by
  rw[aN] at h;rcases Qq h with h|h
  ·exact jh h
  ·exact jh h
 |.of _ e,h=>by rw[aN] at h;exact jh h
 |.num _,h=>by simp[aN] at h
 |.truth _,h=>by simp[aN] at h
theorem exs_k3{tt:List Tr}{kn:List Str}{r:Nat}{k:List af}:∀{es:List Ex},k∈exKs tt kn r es->fO k
 | [],h=>by simp[exKs] at h
 |e::es,h=>by
  rw[exKs] at h;rcases Qq h with h|h
  ·exact jh h
  ·exact exs_k3 h
end
theorem Dd{tt:List Tr}{r:Nat}{zs:List Str}{k:List af}(h:k∈bQ tt r zs):fO k:=by
 obtain⟨z,_,h⟩:=List.mem_flatMap.mp h;unfold eS at h;split at h
 ·simp at h
 ·split at h
  ·simp at h
  ·exact⟨_,_,_,by simpa using h⟩
theorem kh{tt:List Tr}{t:Tr}{e:Ex}{q:St}(hq:f8 q.2):f8 (dX tt t e q).2:=o5 hq λ_ h=>jh h
mutual
theorem De{tt:List Tr}:∀(t:Tr) (q:St),f8 q.2->f8 (bE tt t q).2
 |.set r n e,q,hq=>by rw[bE];exact kh hq
 |.tell r e,q,hq=>by rw[bE];exact kh hq
 |.give r e,q,hq=>by rw[bE];exact kh hq
 |.iff r e b o,q,hq=>by rw[bE];exact lbs_k3 o _ (lbs_k3 b _ (kh hq))
 |.whl r e b,q,hq=>by rw[bE];exact lbs_k3 b _ (kh hq)
 |.df r n kd ps b,q,hq=>by rw[bE];exact lbs_k3 b _ (o5 hq λ_ h=>Dd h)
 |.kd r n ps,q,hq=>by rw[bE];exact hq
theorem lbs_k3{tt:List Tr}:∀(ts:List Tr) (q:St),f8 q.2->f8 (lbTs tt ts q).2
 | [],q,hq=>by rw[lbTs];exact hq
 |t::ts,q,hq=>by rw[lbTs];exact lbs_k3 ts _ (De t q hq)
end
theorem vE{k:List af}:∀{ts:List Tr} {ab:List Str},k∈cf ab ts->fO k
 | [],_,h=>by simp[cf] at h
 |t::ts,ab,h=>by
  rw[cf] at h;rcases Qq h with h|h
  ·unfold cq at h;split at h
   ·simp at h
   ·split at h
    ·exact⟨_,_,_,by simpa using h⟩
    ·simp at h
  ·exact vE h
theorem ki(ts:List Tr):f8 (FN ts):=lbs_k3 ts _ (o5 ⟨.nil,λk h=>by simp at h⟩ λ_ h=>vE h)
inductive vF (vs:List V) (H:Hp) (Q:VK) (E:XK):Prop
 |mk:∀(l:Addr) (xs:List V) (ts:List Tr),vs=[.ref l,.int 1]->H l=some (.lst xs)->LAt H true xs ts->o4 ts->(FN ts).length<900000->(∀p ys H',ca H H'->H' p=some (.lst ys)->aY H' ys ((c9 (FN ts)).map λk=>.inl 1::k)->Q (.ref p) H')->vF vs H Q E
noncomputable abbrev Df:List Str:=["tree","mask","kept","look"]
theorem vG:be Df ["tree","mask"] (aM n8):=⟨rfl,rfl,rfl,by decide +kernel,rfl,by decide +kernel,by decide +kernel⟩
theorem Dh(T:All P w K mg AA DD):aI P w K mg base aK 24 AA.Zl DD.Zl ["tree","mask"] vF:=by have GF:=ue (base:=base) T 5;have GC:=C1 (base:=base) T;have GT:=CZ (base:=base) T;have GY:=vx (base:=base) T 5;have GW:=Db (base:=base) T;refine T.z_Zl.F.ok vG (λvs H Q E h=>by cases h;subst_vars;rfl) λE2 A outer s H vs Q E hr h=>?_;obtain⟨l,xs,us,rfl,hl,hL,⟨hd,h40,ha,hcn⟩,IH,kq⟩:=h;have nd:=vG.nd;have hrB:aB (2*5+13) _:=hr;have hrF:aB 15 _:=hrB.mono (by lia);have hr4:aB 4 _:=hrF.mono (by lia);have FD:aB 3 _:=hrF.mono (by lia);have Fd:aB 1 _:=hrF.mono (by lia);refine⟨_,(ar (aU (i:=2) nd rfl (Or.inl rfl) (aG GF hrF rfl T.z_Zw (ae (pv 0) (ae (pv 1) ag)))) (ar (aU (i:=3) nd rfl (Or.inl rfl) (yN T.M_NameLook GC hr4 rfl T.m_NameLook T.z_Zi.b .nil c6 (ae (pv 2) ag))) (ar (bV (dC (pv 3) T.cl_NameLook T.M_Za GT FD T.z_Za.b .nil c6 (ae (pv 2) ag)) (by rfl)) (ar (bV (dC (pv 3) T.cl_NameLook T.M_Zb GY hrB T.z_Zb.b .nil c6 (ae (pv 2) (ae rm ag))) (by rfl)) (am (aP (aG GW Fd rfl T.z_Zs (ae (kL (pv 3) rfl) ag)))))))),?_⟩;dsimp only[cZ];refine⟨_,rfl,_,rfl,l,xs,us,rfl,hl,hL,hd,h40,ha,λp ys H1 s1 hp EY=>?_⟩;dsimp only[aR];refine⟨_,rfl,λo dx ho hdx ne=>?_⟩;have s2:Same H1 (upd (upd H1 dx (.own o)) o (.ins AA.c_NameLook dx [])):=(aj (o:=.own o) hdx).trans (aj (by rw[aE (Ne.symm ne)];exact ho));refine⟨o,dx,p,ys,us,rfl,ah,s2 _ _ hp,EY.kept s2.ls,by lia,λd2 F H3 l3 EU hF3=>⟨rfl,?_⟩⟩;have ID:=l3.2 _ _ (s2 _ _ hp);have hL3:=(EY.kept s2.ls).kept l3;obtain⟨d1,hi3,_⟩:=EU.ins;dsimp only[aR];refine⟨_,rfl,o,dx,_,rfl,hi3,rfl,_,rfl,o,dx,d2,p,F,ys,us,rfl,ID,hL3,by lia,EU,λH4 l4 E5=>?_⟩;obtain⟨d1',hi4,_⟩:=E5.ins;refine⟨_,rfl,o,dx,_,rfl,hi4,rfl,_,rfl,λg hg'=>?_⟩;have s5:=aj (o:=.dK []) hg';refine⟨o,dx,d2,g,p,F,us,ys,us,([],bh [] (cf [] us)),rfl,s5 _ _ (l4.ls.2 _ _ ID),(hL3.kept l4.ls).kept s5.ls,hd,ha,E5.same s5,(hF3.kept l4.ls).kept s5.ls,⟨[],ah,Qh _,λz=>rfl⟩,⟨by lia,by show 0+cnts us<800;lia,IH⟩,λH6 l6 hk6 _=>?_⟩;obtain⟨d1',hi6,_⟩:=hk6.ins;exact⟨_,rfl,o,AA.c_NameLook,dx,_,_,rfl,hi6,T.cl_NameLook,T.na_NameLook_faults,rfl,d2,FN us,rfl,hk6.flt,IH,(ki us).2,λq zs H7 s7 hq hT=>kq q zs H7 ((((((s1.trans s2).ls.trans l3).trans l4.ls).trans s5.ls).trans l6.ls).trans s7.ls) hq hT⟩
theorem Di{fs:List (List af)}(hj:∀j,j<fs.length->j∈cw fs){k:List af}(h:k∈fs):k∈c9 fs:=by obtain⟨j,hl,e⟩:=List.getElem_of_mem h;unfold c9;refine List.mem_map.mpr ⟨j,hj j hl,?_⟩;rw[Qg,Qa hl];exact e
theorem Dj(ts:List Tr):(c9 (FN ts)).Pairwise (λx y=>bT x y=true)/\∀k,k∈c9 (FN ts)↔k∈FN ts:=by obtain⟨h1,h2⟩:=ki ts;obtain⟨u1,u2,u3⟩:=sf (ds:=FN ts) (sh:=[true,false,false]) (λd hd=>by obtain⟨r,a,z,rfl⟩:=h2 d hd;rfl) h1;exact⟨u1,λk=>⟨vz,Di u3⟩⟩
inductive vH (vs:List V) (H:Hp) (Q:VK) (E:XK):Prop
 |mk:∀(l:Addr) (xs:List V) (ts:List Tr),vs=[.ref l]->H l=some (.lst xs)->LAt H false xs ts->o4 ts->(FN ts).length<900000->(∀p ys ks H',ca H H'->H' p=some (.lst ys)->aY H' ys ks->ks.Pairwise (λx y=>bT x y=true)->(∀k,k∈ks↔k∈FN ts)->Q (.ref p) H')->vH vs H Q E
noncomputable abbrev vI:List Str:=["tree"]
theorem vJ:be vI ["tree"] (aM lP):=⟨rfl,rfl,rfl,by decide +kernel,rfl,by decide +kernel,by decide +kernel⟩
theorem Dk(T:All P w K mg AA DD):aI P w K mg base aK 25 AA.Zo DD.Zo ["tree"] vH:=by
 have GF:=tW (base:=base) T 5;have GS:=Dh (base:=base) T;refine T.z_Zo.F.ok vJ (λvs H Q E h=>by cases h;subst_vars;rfl) λE2 A outer s H vs Q E hr h=>?_;obtain⟨l,xs,ts,rfl,hl,hL,hok,IH,kq⟩:=h;have nd:=vJ.nd;have hrS:aB 24 _:=hr;have hrF:aB 11 _:=hrS.mono (by lia);refine⟨_,(am (aP (jM (xs:=["mask","at","what","name"]) (aM lP) vI [] [] rfl (by exact⟨rfl,rfl,by decide +kernel,by decide +kernel,by decide +kernel,by decide +kernel,by decide +kernel,rfl,by decide +kernel⟩) rfl rfl (c7 (aG GS hrS rfl T.z_Zl (ae (aG GF hrF rfl T.z_Zx (ae (pv 0) ag)) (ae ap ag)))) (λ_ _ _ _=>(dF (n:=4) rfl (bv (ba (i:=0) (show(["mask","at","what","name"]:List Str).Nodup by decide +kernel) rfl (Or.inl rfl)) (bv (ba (i:=1) (show(["mask","at","what","name"]:List Str).Nodup by decide +kernel) rfl (Or.inl rfl)) (bv (ba (i:=2) (show(["mask","at","what","name"]:List Str).Nodup by decide +kernel) rfl (Or.inl rfl)) (bv (ba (i:=3) (show(["mask","at","what","name"]:List Str).Nodup by decide +kernel) rfl (Or.inl rfl)) dz)))))) (λ_ _ _ _=>eE) (λ_ _ _ _=>(aX (ae (pv 1) (ae (pv 2) (ae (pv 3) ag)))))))),?_⟩;refine⟨_,rfl,l,xs,ts,rfl,hl,hL,hok.1,hok.2.1,hok.2.2.1,λp ys H1 s1 hp EY=>?_⟩;refine⟨p,ys,ts,rfl,hp,EY,hok,IH,λq zs H2 l2 hq hT=>?_⟩;obtain⟨f1,f2⟩:=Dj ts;have FC:∀k∈c9 (FN ts),fO k:=λk hk=>(ki ts).2 k ((f2 k).mp hk);have hll:=vA (FN ts);generalize c9 (FN ts)=ks at hT f1 f2 FC hll;refine⟨q,rfl,⟨_,ak.of hq⟩,?_⟩;have hzl:=hT.1;rw[Qf] at hzl;refine kY (K:=K0) (a:=q) (xs:=zs) (λi ys H'=>Same H2 H'/\aY H' ys (ks.take i)) ⟨Same.refl _,gB⟩ (λi ys H' _ h=>ak.of (h.1 _ _ hq)) ?_ ?_
 ·rintro i x us H3 hx ⟨sm,hus⟩;have Im:i<ks.length:=by rw[<-hzl];exact(Qc hx).1
  obtain⟨t,rfl,ht⟩:=hT.2 i x (.inl 1::ks[i]) hx (by rw[Qj,Qa Im];rfl);have G5:=hus.1;rw[Qx] at G5;have ek:=FC _ (QQ Im);rw[Qm Im];generalize ks[i]=k at ht ek ⊢;obtain⟨r,a,z,rfl⟩:=ek;intro os FO;obtain⟨a1,b1,c1,d1,rfl⟩:=A9 FO;refine⟨t,_,rfl,aq.of (sm _ _ ht),rfl,_,_,rfl,_,_,rfl,_,_,rfl,_,_,rfl,rfl,⟨[_,_,_,_],rfl,rfl⟩,?_⟩;refine eD ?_;rw[if_pos rfl];refine⟨_,rfl,_,rfl,_,rfl,cQ,λq2 Fq=>?_⟩;have s3:=aj (o:=.tup ((k3 r a z).map kV)) Fq;exact⟨oV (by lia),sm.trans s3,jg (cG hus s3.tups) (o3 ah)⟩
 ·rintro us H3 ⟨sm,hus⟩ q3 Ij;have s3:=aj (o:=.lst us) Ij;rw[QD (by lia)] at hus;exact kq q3 us ks _ (((s1.ls.trans l2).trans sm.ls).trans s3.ls) ah (cG hus s3.tups) f1 f2
mutual
def ji:Tr->Prop
 |.iff _ _ x o=>noHB x/\noHB o
 |.whl _ _ x=>noHB x
 |.df _ _ _ _ _=>False
 |.kd _ _ _=>False
 |.set _ _ _=>True
 |.tell _ _=>True
 |.give _ _=>True
def noHB:List Tr->Prop
 | []=>True
 |t::ts=>ji t/\noHB ts
end
noncomputable def bn(P:List (Tr×Bd))(b:Bd):List Str:=b.2++(P.filter λq=>decide (q.2.1=b.1)).flatMap λq=>dN q.1
noncomputable def f9(tt:List Tr)(P:List (Tr×Bd))(x:Tr×Bd):List (List af):=match x.1 with
 |.df r _ k ps _=>bQ tt r (k::ps.map (·.2))
 |t=>match t.ex with
  |some e=>aN tt (bn P x.2) t.row e
  |none=>[]
noncomputable def cH(tt:List Tr):List (Tr×Bd)->List (Tr×Bd)->List (List af)
 |_,[]=>[]
 |P,x::r=>f9 tt P x++cH tt (P++[x]) r
theorem vK(tt:List Tr):∀(a c P:List (Tr×Bd)),cH tt P (a++c)=cH tt P a++cH tt (P++a) c
 | [],c,P=>by simp[cH]
 |x::a,c,P=>by simp[cH,vK tt a c (P++[x])]
mutual
theorem jj{tt:List Tr}{k1 k2:List Str}{r:Nat}(h:∀z,z∈k1↔z∈k2):∀e:Ex,aN tt k1 r e=aN tt k2 r e
 |.many w z es=>by rw[aN,aN,exKs_same h es]
 |.name z=>by
  rw[aN,aN];by_cases hz:z∈k1
  ·rw[if_pos hz,if_pos ((h z).mp hz)]
  ·rw[if_neg hz,if_neg λg=>hz ((h z).mpr g)]
 |.not e=>by rw[aN,aN,jj h e]
 |.op _ a b=>by rw[aN,aN,jj h a,jj h b]
 |.of _ e=>by rw[aN,aN,jj h e]
 |.num _=>by rw[aN,aN]
 |.truth _=>by rw[aN,aN]
theorem exKs_same{tt:List Tr}{k1 k2:List Str}{r:Nat}(h:∀z,z∈k1↔z∈k2):∀es:List Ex,exKs tt k1 r es=exKs tt k2 r es
 | []=>by rw[exKs,exKs]
 |e::es=>by rw[exKs,exKs,jj h e,exKs_same h es]
end
theorem o6{P:List (Tr×Bd)}{t:Tr}{b:Bd}:bn (P++[(t,b)]) b=bn P b++dN t:=by unfold bn;rw[List.filter_append,List.flatMap_append,<-QN];simp
structure gc(tt:List Tr)(P:List (Tr×Bd))(b:Bd)(q:St)(s:List (Tr×Bd))(q':St):Prop where
 kn:∀z,z∈q'.1↔z∈bn (P++s) b
 fs:∀k,k∈q'.2↔k∈q.2∨k∈cH tt P s
theorem gc.seq{tt:List Tr}{P s1 s2:List (Tr×Bd)}{b:Bd}{q q1 q2:St}(h:gc tt P b q s1 q1)(g:gc tt (P++s1) b q1 s2 q2):gc tt P b q (s1++s2) q2:=
 ⟨λz=>by rw[g.kn,QN],λk=>by rw[g.fs,h.fs,vK,List.mem_append,or_assoc]⟩
theorem kj{tt:List Tr}{P:List (Tr×Bd)}{b:Bd}{q:St}{t t':Tr}{e:Ex}(hk:∀z,z∈q.1↔z∈bn P b)(he:t'.ex=some e)(hr:t'.row=t.row)(hn:dN t'=dN t)(hh:∀r n k ps x,t'≠.df r n k ps x):gc tt P b q [(t',b)] (dX tt t e q):=by
 refine⟨λz=>?_,λk=>?_⟩
 ·rw[o6,List.mem_append,<-hk,hn];show z∈q.1++dN t↔_;rw[List.mem_append]
 ·show k∈bh q.2 (aN tt q.1 t.row e)↔_;rw[kg,jj hk e]
  have:cH tt P [(t',b)]=aN tt (bn P b) t.row e:=by
   rw[cH,cH,Qy];unfold f9
   cases t' with
   |df r n k ps x=>exact absurd rfl (hh r n k ps x)
   |_=>dsimp only at hr ⊢;rw[he];dsimp only;rw[<-hr]
  rw[this]
mutual
theorem jk{tt:List Tr}{b:Bd}:∀(t:Tr),ji t->∀(P:List (Tr×Bd)) (q:St),(∀z,z∈q.1↔z∈bn P b)->gc tt P b q (aZ b t) (bE tt t q)
 |.set r n e,h,P,q,hk=>by rw[aZ,bE];exact kj hk rfl rfl rfl (by simp)
 |.tell r e,h,P,q,hk=>by rw[aZ,bE];exact kj hk rfl rfl rfl (by simp)
 |.give r e,h,P,q,hk=>by rw[aZ,bE];exact kj hk rfl rfl rfl (by simp)
 |.iff r e x o,h,P,q,hk=>by rw[aZ,bE];have h1:=kj (tt:=tt) (t:=.iff r e x o) (t':=.iff r e [] []) hk rfl rfl rfl (by simp);have h2:=lb_noB (tt:=tt) (b:=b) x h.1 _ _ h1.kn;have h12:=h1.seq h2;have h3:=lb_noB (tt:=tt) (b:=b) o h.2 _ _ h12.kn;have:=h12.seq h3;simpa using this
 |.whl r e x,h,P,q,hk=>by rw[aZ,bE];have h1:=kj (tt:=tt) (t:=.whl r e x) (t':=.whl r e []) hk rfl rfl rfl (by simp);have h2:=lb_noB (tt:=tt) (b:=b) x h _ _ h1.kn;simpa using h1.seq h2
 |.df _ _ _ _ _,h,P,q,hk=>h.elim
 |.kd _ _ _,h,P,q,hk=>h.elim
theorem lb_noB{tt:List Tr}{b:Bd}:∀(ts:List Tr),noHB ts->∀(P:List (Tr×Bd)) (q:St),(∀z,z∈q.1↔z∈bn P b)->gc tt P b q (seqB b ts) (lbTs tt ts q)
 | [],h,P,q,hk=>by rw[seqB,lbTs];exact⟨by simpa using hk,λk=>by simp[cH]⟩
 |t::ts,h,P,q,hk=>by rw[seqB,lbTs];have h1:=jk (tt:=tt) (b:=b) t h.1 P q hk;exact h1.seq (lb_noB ts h.2 _ _ h1.kn)
end
mutual
theorem gC{b:Bd}:∀(t:Tr),ji t->∀x∈aZ b t,x.2=b/\x.1.hd=none
 |.set r n e,h,x,hx=>by rw[aZ] at hx;rw[Qp hx];exact⟨rfl,rfl⟩
 |.tell r e,h,x,hx=>by rw[aZ] at hx;rw[Qp hx];exact⟨rfl,rfl⟩
 |.give r e,h,x,hx=>by rw[aZ] at hx;rw[Qp hx];exact⟨rfl,rfl⟩
 |.iff r e y o,h,x,hx=>by
  rw[aZ] at hx;rcases Qn hx with rfl|hx
  ·exact⟨rfl,rfl⟩
  rcases Qq hx with hx|hx
  ·exact seq_noB y h.1 x hx
  ·exact seq_noB o h.2 x hx
 |.whl r e y,h,x,hx=>by
  rw[aZ] at hx;rcases Qn hx with rfl|hx
  ·exact⟨rfl,rfl⟩
  ·exact seq_noB y h x hx
 |.df _ _ _ _ _,h,x,hx=>h.elim
 |.kd _ _ _,h,x,hx=>h.elim
theorem seq_noB{b:Bd}:∀(ts:List Tr),noHB ts->∀x∈seqB b ts,x.2=b/\x.1.hd=none
 | [],h,x,hx=>by simp[seqB] at hx
 |t::ts,h,x,hx=>by
  rw[seqB] at hx;rcases Qq hx with hx|hx
  ·exact gC t h.1 x hx
  ·exact seq_noB ts h.2 x hx
end
def gf:Tr->Prop
 |.df _ _ _ _ x=>noHB x
 |.kd _ _ _=>True
 |t=>ji t
theorem Dm{P:List (Tr×Bd)}{b:Bd}(h:∀x∈P,x.2.1≠b.1):bn P b=b.2:=by unfold bn;rw[List.filter_eq_nil_iff.mpr λx hx=>by simpa using h x hx];simp
theorem Dn{P s:List (Tr×Bd)}{b:Bd}(h:∀x∈s,x.2.1≠b.1):bn (P++s) b=bn P b:=by
 have e:(s.filter λq=>decide (q.2.1=b.1))=[]:=List.filter_eq_nil_iff.mpr λx hx=>by simpa using h x hx
 unfold bn;rw[List.filter_append,e,Qy]
theorem vL{tt:List Tr}{b:Bd}(hb:b.1<0):∀(ts:List Tr),(∀t∈ts,gf t)->ts.Pairwise (λt u=>t.row<u.row)->∀(P:List (Tr×Bd)) (q:St),(∀x∈P,∀t∈ts,x.2.1<((t.row:Nat):Int))->(∀z,z∈q.1↔z∈bn P b)->gc tt P b q (seqB b ts) (lbTs tt ts q)
 | [],h,hp,P,q,hP,hk=>by rw[seqB,lbTs];exact⟨by simpa using hk,λk=>by simp[cH]⟩
 |t::ts,h,hp,P,q,hP,hk=>by
  rw[seqB,lbTs]
  have one:gc tt P b q (aZ b t) (bE tt t q)/\∀x∈aZ b t,x.2.1<0∨x.2.1=((t.row:Nat):Int):=by
   have ht:=h t (.head _)
   cases t with
   |df r n k ps x =>
    rw[aZ,bE];have hx:noHB x:=ht
    have hr:∀y∈P++[(Tr.df r n k ps [],b)],y.2.1≠((r:Nat):Int):=λy hy=>by
     rcases Qq hy with hy|hy
     ·exact Int.ne_of_lt (hP y hy _ (.head _))
     ·rw[Qp hy];show b.1≠_;lia
    have g:=lb_noB (tt:=tt) (b:=(((r:Nat):Int),ps.map (·.1))) x hx (P++[(.df r n k ps [],b)]) (ps.map (·.1),bh q.2 (bQ tt r (k::ps.map (·.2)))) (λz=>by rw[Dm hr]);have sx:=seq_noB (b:=(((r:Nat):Int),ps.map (·.1))) x hx;refine⟨⟨λz=>?_,λd=>?_⟩,λy hy=>?_⟩
    ·show z∈q.1↔_;rw[hk]
     have:bn (P++(Tr.df r n k ps [],b)::seqB (((r:Nat):Int),ps.map (·.1)) x) b=bn P b:=by
      rw[show P++(Tr.df r n k ps [],b)::seqB (((r:Nat):Int),ps.map (·.1)) x=(P++[(Tr.df r n k ps [],b)])++seqB (((r:Nat):Int),ps.map (·.1)) x by simp,Dn λy hy=>by rw[(sx y hy).1];show((r:Nat):Int)≠b.1;lia,o6];simp[dN]
     rw[this]
    ·show d∈(lbTs tt x _).2↔_;rw[g.fs,kg,cH,List.mem_append,or_assoc];rfl
    ·rcases Qn hy with rfl|hy
     ·exact .inl hb
     ·rw[(sx y hy).1];exact .inr rfl
   |kd r n ps =>
    rw[aZ,bE];refine⟨⟨λz=>by rw[o6,hk];simp[dN],λd=>by simp[cH,f9,Tr.ex]⟩,λy hy=>?_⟩;rw[Qp hy];exact .inl hb
   |set r n e=>exact⟨jk _ ht P q hk,λy hy=>by rw[(gC _ ht y hy).1];exact .inl hb⟩
   |tell r e=>exact⟨jk _ ht P q hk,λy hy=>by rw[(gC _ ht y hy).1];exact .inl hb⟩
   |give r e=>exact⟨jk _ ht P q hk,λy hy=>by rw[(gC _ ht y hy).1];exact .inl hb⟩
   |iff r e x o=>exact⟨jk _ ht P q hk,λy hy=>by rw[(gC _ ht y hy).1];exact .inl hb⟩
   |whl r e x=>exact⟨jk _ ht P q hk,λy hy=>by rw[(gC _ ht y hy).1];exact .inl hb⟩
  refine one.1.seq (vL hb ts (λu hu=>h u (.tail _ hu)) (List.pairwise_cons.mp hp).2 _ _ (λy hy u hu=>?_) one.1.kn);rcases Qq hy with hy|hy
  ·exact hP y hy u (.tail _ hu)
  ·have EX:=(List.pairwise_cons.mp hp).1 u hu;rcases one.2 y hy with g|g<;>lia
noncomputable def eA:List (Tr×Bd)->List (Tr×Bd)->List (List af)
 |_,[]=>[]
 |P,x::r=>cq (P.flatMap λq=>br q.1) x.1++eA (P++[x]) r
theorem vM:∀(a c P:List (Tr×Bd)),eA P (a++c)=eA P a++eA (P++a) c
 | [],c,P=>by simp[eA]
 |x::a,c,P=>by simp[eA,vM a c (P++[x])]
theorem vN:∀(s P:List (Tr×Bd)),(∀x∈s,x.1.hd=none)->eA P s=[]/\(s.flatMap λq=>br q.1)=[]
 | [],P,h=>⟨rfl,rfl⟩
 |x::s,P,h=>by
  obtain⟨h1,h2⟩:=vN s (P++[x]) λy hy=>h y (.tail _ hy);have hx:=h x (.head _);refine⟨?_,?_⟩
  ·rw[eA,h1];unfold cq;rw[hx];rfl
  ·rw[List.flatMap_cons,h2];unfold br;rw[hx];rfl
theorem vO{b:Bd}{t:Tr}(h:gf t):∃t' s,aZ b t=(t',b)::s/\t'.hd=t.hd/\t'.row=t.row/\t'.prs=t.prs/\∀x∈s,x.1.hd=none:=by
 cases t with
 |df r n k ps x=>exact⟨.df r n k ps [],seqB (((r:Nat):Int),ps.map (·.1)) x,by rw[aZ],rfl,rfl,rfl,λy hy=>(seq_noB x h y hy).2⟩
 |kd r n ps=>exact⟨_,[],by rw[aZ],rfl,rfl,rfl,λy hy=>by simp at hy⟩
 |iff r e x o=>exact⟨.iff r e [] [],seqB b x++seqB b o,by rw[aZ],rfl,rfl,rfl,λy hy=>(gC (b:=b) _ h y (by rw[aZ];exact .tail _ hy)).2⟩
 |whl r e x=>exact⟨.whl r e [],seqB b x,by rw[aZ],rfl,rfl,rfl,λy hy=>(gC (b:=b) _ h y (by rw[aZ];exact .tail _ hy)).2⟩
 |set r n e=>exact⟨_,[],by rw[aZ],rfl,rfl,rfl,λy hy=>by simp at hy⟩
 |tell r e=>exact⟨_,[],by rw[aZ],rfl,rfl,rfl,λy hy=>by simp at hy⟩
 |give r e=>exact⟨_,[],by rw[aZ],rfl,rfl,rfl,λy hy=>by simp at hy⟩
theorem vP{b:Bd}:∀(ts:List Tr) (P:List (Tr×Bd)),(∀t∈ts,gf t)->cf (P.flatMap λq=>br q.1) ts=eA P (seqB b ts)
 | [],P,h=>by rw[seqB];rfl
 |t::ts,P,h=>by
  obtain⟨t',s,e,h1,h2,_,h4⟩:=vO (b:=b) (h t (.head _));obtain⟨n1,n2⟩:=vN s (P++[(t',b)]) h4;rw[seqB,vM,e,eA,n1,Qy,cf];have e1:cq (P.flatMap λq=>br q.1) t=cq (P.flatMap λq=>br q.1) t':=by unfold cq;rw[h1,h2]
  have e2:(P.flatMap λq=>br q.1)++br t=(P++(t',b)::s).flatMap λq=>br q.1:=by rw[List.flatMap_append,List.flatMap_cons,n2];unfold br;rw[h1];simp
  show cq _ t++cf _ ts=cq _ t'++_;rw[e1,e2,vP ts _ λu hu=>h u (.tail _ hu)]
noncomputable def lZ(k:Str×Str)(rs:List (Tr×Bd)):Option Tr:=(rs.find? λq=>decide (q.1.hd=some k)).map (·.1)
theorem Do{k:Str×Str}{s:List (Tr×Bd)}(h:∀x∈s,x.1.hd=none):s.find? (λq=>decide (q.1.hd=some k))=none:=
 List.find?_eq_none.mpr λx hx=>by rw[h x hx];simp
theorem vQ{b:Bd}{k:Str×Str}:∀(ts:List Tr),(∀t∈ts,gf t)->(bU k ts).map Tr.prs=(lZ k (seqB b ts)).map Tr.prs
 | [],h=>by rw[seqB];rfl
 |t::ts,h=>by
  obtain⟨t',s,e,h1,h2,h3,h4⟩:=vO (b:=b) (h t (.head _));unfold bU lZ;rw[seqB,e,List.cons_append,List.find?_cons,List.find?_cons];show Option.map _ (match decide (t.hd=some k) with|true=>_|false=>_)=Option.map _ (Option.map _ (match decide (t'.hd=some k) with|true=>_|false=>_));rw[h1]
  cases decide (t.hd=some k) with
  |true=>simp[h3]
  |false =>
   have ih:=vQ (b:=b) (k:=k) ts λu hu=>h u (.tail _ hu);unfold bU lZ at ih;rw[List.find?_append,Do h4];simpa using ih
theorem Dp{b:Bd}{ts:List Tr}(hb:b.1<0)(h0:b.2=[])(h:∀t∈ts,gf t)(hp:ts.Pairwise λt u=>t.row<u.row)(d:List af):d∈FN ts↔d∈eA [] (seqB b ts)∨d∈cH ts [] (seqB b ts):=by
 have g:=vL (tt:=ts) hb ts h hp [] ([],bh [] (cf [] ts)) (λx hx=>by simp at hx) (λz=>by unfold bn;rw[h0];simp);unfold FN;rw[g.fs,kg,<-vP ts [] h];simp
def gD(a b:List Tr):Prop:=∀k,(bU k a).map Tr.prs=(bU k b).map Tr.prs
theorem Dq{a b:List Tr}(h:gD a b)(r:Nat)(w FI z:Str)(n:Nat):cF a r w FI z n=cF b r w FI z n:=by have:=h (w,z);unfold cF;cases e1:bU (w,z) a<;>cases e2:bU (w,z) b<;>rw[e1,e2] at this<;>simp at this ⊢;rw[this]
theorem Ds{a b:List Tr}(h:gD a b)(k:Str×Str):fN k a=fN k b:=by have:=h k;unfold fN;cases e1:bU k a<;>cases e2:bU k b<;>rw[e1,e2] at this<;>simp at this ⊢
mutual
theorem jl{a b:List Tr}(h:gD a b)(kn:List Str)(r:Nat):∀e:Ex,aN a kn r e=aN b kn r e
 |.many w z es=>by rw[aN,aN,Dq h,exKs_tt h kn r es]
 |.name z=>by rw[aN,aN]
 |.not e=>by rw[aN,aN,jl h kn r e]
 |.op _ x y=>by rw[aN,aN,jl h kn r x,jl h kn r y]
 |.of _ e=>by rw[aN,aN,jl h kn r e]
 |.num _=>by rw[aN,aN]
 |.truth _=>by rw[aN,aN]
theorem exKs_tt{a b:List Tr}(h:gD a b)(kn:List Str)(r:Nat):∀es:List Ex,exKs a kn r es=exKs b kn r es
 | []=>by rw[exKs,exKs]
 |e::es=>by rw[exKs,exKs,jl h kn r e,exKs_tt h kn r es]
end
theorem Dt{a b:List Tr}(h:gD a b)(r:Nat)(zs:List Str):bQ a r zs=bQ b r zs:=by unfold bQ;refine iY λz _=>?_;unfold eS;rw[Ds h]
theorem Du{a b:List Tr}(h:gD a b)(P:List (Tr×Bd))(x:Tr×Bd):f9 a P x=f9 b P x:=by
 unfold f9;split
 ·exact Dt h _ _
 ·split
  ·exact jl h _ _ _
  ·rfl
theorem vR{a b:List Tr}(h:gD a b):∀(s P:List (Tr×Bd)),cH a P s=cH b P s
 | [],P=>rfl
 |x::s,P=>by rw[cH,cH,Du h,vR h s]
theorem Dv{b:Bd}{ts:List Tr}(h:∀t∈ts,gf t):gD ts ((seqB b ts).map (·.1)):=λk=>by rw[vQ (b:=b) ts h];unfold lZ bU;rw[List.find?_map];rfl
noncomputable def fP(tt:List Tr)(P:List (Tr×Bd))(x:Tr×Bd):List (List af):=cq (P.flatMap λq=>br q.1) x.1++f9 tt P x
noncomputable def cD(tt:List Tr):List (Tr×Bd)->List (Tr×Bd)->List (List af)
 |_,[]=>[]
 |P,x::s=>fP tt P x++cD tt (P++[x]) s
theorem vS(tt:List Tr):∀(a c P:List (Tr×Bd)),cD tt P (a++c)=cD tt P a++cD tt (P++a) c
 | [],c,P=>by simp[cD]
 |x::a,c,P=>by simp[cD,vS tt a c (P++[x])]
theorem vT{tt:List Tr}{d:List af}:∀(s P:List (Tr×Bd)),d∈cD tt P s↔d∈eA P s∨d∈cH tt P s
 | [],P=>by simp[cD,eA,cH]
 |x::s,P=>by
  rw[cD,eA,cH];simp only[fP,List.mem_append,vT s];constructor
  ·rintro ((h|h)|h|h)
   ·exact .inl (.inl h)
   ·exact .inr (.inl h)
   ·exact .inl (.inr h)
   ·exact .inr (.inr h)
  ·rintro ((h|h)|h|h)
   ·exact .inl (.inl h)
   ·exact .inr (.inl h)
   ·exact .inl (.inr h)
   ·exact .inr (.inr h)
theorem Dw{b:Bd}{ts:List Tr}(hb:b.1<0)(h0:b.2=[])(h:∀t∈ts,gf t)(hp:ts.Pairwise λt u=>t.row<u.row)(d:List af):d∈FN ts↔d∈cD ((seqB b ts).map (·.1)) [] (seqB b ts):=by rw[Dp hb h0 h hp,vT,vR (Dv h)]
end
theorem vU(a b:Str):(a++b).length=a.length+b.length:=Array.size_append ..
theorem l0(c:Nat):(⟨#[c]⟩:Str).length=1:=rfl
theorem vV(z:Str):z.cps.toList.length=z.length:=by simp[Str.length]
theorem gE{a:Int}{n:Nat}(h:0<n):∃j:Nat,a%(n:Int)=(j:Int)/\j<n:=⟨(a%(n:Int)).toNat,by
 have:=Int.emod_nonneg a (show(n:Int)≠0 by lia)
 lia,by
 have:=Int.emod_nonneg a (show(n:Int)≠0 by lia);have:=Int.emod_lt_of_pos a (show(0:Int)<(n:Int) by lia)
 lia⟩
section
variable {P:Program}{w:World}{K:W.Frag}{mg:Str->Option Value}{base:Heap}{AA:oJ}{DD:oK}
inductive vW (K:W.Frag) (vs:List V) (H:Hp) (Q:VK) (E:XK):Prop
 |mk:∀(a:Addr) (ns:List Int) (j:Nat),vs=[.ref a,.int ((j:Nat):Int)]->ak K H a (ns.map V.int)->(∀c:Int,Q (.int c) H)->vW K vs H Q E
noncomputable abbrev Dx:List Str:=["_law_script","_law_k"]
theorem vX:be Dx ["_law_script","_law_k"] (aM oh):=⟨rfl,rfl,rfl,by decide +kernel,rfl,by decide +kernel,by decide +kernel⟩
theorem vY(T:All P w K mg AA DD):aI P w K mg base aK 1 AA.Zp DD.Zp ["_law_script","_law_k"] (vW K):=by
 refine T.z_Zp.F.ok vX (λvs H Q E h=>?_) (λE2 A outer s H vs Q E hr h=>?_)
 ·obtain⟨a,ns,k,rfl,_⟩:=h;rfl
 ·obtain⟨a,ns,j,rfl,hS,k⟩:=h;have nd:=vX.nd;refine⟨_,(ar (aS (aH gi (pv 1) (ci mH rfl T.n_len di (ae (pv 0) ag)) (aL _)) (am (aP (ck (qS (K:=K) rfl) (pv 0) (pv 1) (λ_ _=>rfl)))) a9) (am (aP ap))),?_⟩;refine⟨_,rfl,_,rfl,a,_,rfl,.inl hS,_,_,rfl,rfl,_,rfl,?_⟩;rw[Qf];refine bS (λh1=>?_) (λh1=>k 0);have h1:((j:Nat):Int)<(ns.length:Int):=QJ h1;exact⟨_,rfl,_,rfl,a,_,_,_,rfl,rfl,hS,bH (j:=j) (by rw[Qj,Qa (by omega)];rfl),k _⟩
inductive vZ (vs:List V) (H:Hp) (Q:VK) (E:XK):Prop
 |mk:∀c k:Int,vs=[.int c,.int k]->(∀r:Int,0<=r->r<2147483647->Q (.int r) H)->vZ vs H Q E
noncomputable abbrev Dy:List Str:=["_law_cell","_law_k","_law_number_here"]
theorem v0:be Dy ["_law_cell","_law_k"] (aM oi):=⟨rfl,rfl,rfl,by decide +kernel,rfl,by decide +kernel,by decide +kernel⟩
theorem Dz(T:All P w K mg AA DD):aI P w K mg base aK 1 AA.Zz DD.Zz ["_law_cell","_law_k"] vZ:=by
 refine T.z_Zz.F.ok v0 (λvs H Q E h=>?_) (λE2 A outer s H vs Q E hr h=>?_)
 ·obtain⟨c,k,rfl,_⟩:=h;rfl
 ·obtain⟨c,j,rfl,k⟩:=h;have nd:=v0.nd;refine⟨_,(ar (aU (i:=2) nd rfl (Or.inl rfl) (aD bw (aD jC (aD eO (aD eO (pv 0) (aD jC ap (pv 1))) ap) ap) ap)) (am (aP (aD bw (aD jC (pv 2) (aD eO (aD pZ (pv 2) ap) ap)) ap)))),?_⟩;refine⟨_,rfl,_,rfl,_,_,rfl,rfl,.inl ⟨by decide,by decide⟩,_,_,rfl,rfl,_,_,rfl,rfl,_,_,rfl,rfl,.inr ⟨by decide,by decide⟩,_,_,rfl,rfl,(by show(0:Int)<2147483647;decide),?_⟩
  try dsimp only[aR]
  have b0:=Int.emod_nonneg ((c+7919*j+1)*48271) (show(2147483647:Int)≠0 by decide);have b1:=Int.emod_lt_of_pos ((c+7919*j+1)*48271) (show(0:Int)<2147483647 by decide);generalize (c+7919*j+1)*48271%2147483647=y at b0 b1 ⊢;refine⟨_,rfl,_,rfl,_,_,rfl,rfl,⟨by decide,by decide⟩,_,_,rfl,rfl,_,_,rfl,rfl,.inl ⟨by lia,by lia⟩,_,_,rfl,rfl,(by show(0:Int)<2147483647;decide),?_⟩;exact k _ (Int.emod_nonneg _ (by decide)) (Int.emod_lt_of_pos _ (by decide))
theorem DA:bootBuiltins "abs"=some (.builtin "abs"):=by decide +kernel
noncomputable def bm(a:Addr)(w l:Int)(t:Nat)(x:Int)(k:Nat):List (af×V):=[(.inr "script",.ref a),(.inr "way",.int w),(.inr "left",.int l),(.inr "at",.int ((t:Nat):Int)),(.inr "number",.int x),(.inr "k",.int ((k:Nat):Int))]
theorem aW{a b:Str}(h:a≠b):¬((.inr a:af)=.inr b):=λz=>h (by injection z)
section
variable (a:Addr)(w l:Int)(t:Nat)(x:Int)(k:Nat)
theorem DB:bo (bm a w l t x k) (.inr "script")=some (.ref a):=dm rfl
theorem DE:bo (bm a w l t x k) (.inr "way")=some (.int w):=by unfold bm;rw[bi (aW (by decide +kernel)),dm rfl]
theorem v3:bo (bm a w l t x k) (.inr "left")=some (.int l):=by unfold bm;rw[bi (aW (by decide +kernel)),bi (aW (by decide +kernel)),dm rfl]
theorem v4:bo (bm a w l t x k) (.inr "at")=some (.int ((t:Nat):Int)):=by unfold bm;rw[bi (aW (by decide +kernel)),bi (aW (by decide +kernel)),bi (aW (by decide +kernel)),dm rfl]
theorem v5:bo (bm a w l t x k) (.inr "number")=some (.int x):=by unfold bm;rw[bi (aW (by decide +kernel)),bi (aW (by decide +kernel)),bi (aW (by decide +kernel)),bi (aW (by decide +kernel)),dm rfl]
theorem v6:bo (bm a w l t x k) (.inr "k")=some (.int ((k:Nat):Int)):=by unfold bm;rw[bi (aW (by decide +kernel)),bi (aW (by decide +kernel)),bi (aW (by decide +kernel)),bi (aW (by decide +kernel)),bi (aW (by decide +kernel)),dm rfl]
theorem l7{ES:List (af×V)}{k:af}{v:V}(h:(bo ES k).isSome=true):a8 ES k v=ES.map (λkv=>if kv.1=k then(kv.1,v) else kv):=by unfold a8;rw[gS,h,if_pos rfl]
theorem DF(l':Int):a8 (bm a w l t x k) (.inr "left") (.int l')=bm a w l' t x k:=by
 rw[l7 (by rw[v3];rfl)];unfold bm;simp only[List.map_cons,List.map_nil];rw[if_neg (aW (by decide +kernel)),if_neg (aW (by decide +kernel)),if_pos trivial,if_neg (aW (by decide +kernel)),if_neg (aW (by decide +kernel)),if_neg (aW (by decide +kernel))]
theorem DG(t':Nat):a8 (bm a w l t x k) (.inr "at") (.int ((t':Nat):Int))=bm a w l t' x k:=by
 rw[l7 (by rw[v4];rfl)];unfold bm;simp only[List.map_cons,List.map_nil];rw[if_neg (aW (by decide +kernel)),if_neg (aW (by decide +kernel)),if_neg (aW (by decide +kernel)),if_pos trivial,if_neg (aW (by decide +kernel)),if_neg (aW (by decide +kernel))]
theorem DH(x':Int):a8 (bm a w l t x k) (.inr "number") (.int x')=bm a w l t x' k:=by
 rw[l7 (by rw[v5];rfl)];unfold bm;simp only[List.map_cons,List.map_nil];rw[if_neg (aW (by decide +kernel)),if_neg (aW (by decide +kernel)),if_neg (aW (by decide +kernel)),if_neg (aW (by decide +kernel)),if_pos trivial,if_neg (aW (by decide +kernel))]
theorem DI(k':Nat):a8 (bm a w l t x k) (.inr "k") (.int ((k':Nat):Int))=bm a w l t x k':=by
 rw[l7 (by rw[v6];rfl)];unfold bm;simp only[List.map_cons,List.map_nil];rw[if_neg (aW (by decide +kernel)),if_neg (aW (by decide +kernel)),if_neg (aW (by decide +kernel)),if_neg (aW (by decide +kernel)),if_neg (aW (by decide +kernel)),if_pos trivial]
end
theorem DJ(a:Addr)(w x:Int):iI [] [(.inr "script",.ref a),(.inr "way",.int w),(.inr "left",.int 0),(.inr "at",.int 1),(.inr "number",.int x),(.inr "k",.int 0)]=bm a w 0 1 x 0:=by have p0:a8 ([]:List (af×V)) (.inr "script") (.ref a)=[(.inr "script",.ref a)]:=iG _ iE;have p1:a8 ([(.inr "script",.ref a)]:List (af×V)) (.inr "way") (.int w)=[(.inr "script",.ref a),(.inr "way",.int w)]:=iG _ (by rw[bi (aW (by decide +kernel)),iE]);have p2:a8 ([(.inr "script",.ref a),(.inr "way",.int w)]:List (af×V)) (.inr "left") (.int 0)=[(.inr "script",.ref a),(.inr "way",.int w),(.inr "left",.int 0)]:=iG _ (by rw[bi (aW (by decide +kernel)),bi (aW (by decide +kernel)),iE]);have p3:a8 ([(.inr "script",.ref a),(.inr "way",.int w),(.inr "left",.int 0)]:List (af×V)) (.inr "at") (.int 1)=[(.inr "script",.ref a),(.inr "way",.int w),(.inr "left",.int 0),(.inr "at",.int 1)]:=iG _ (by rw[bi (aW (by decide +kernel)),bi (aW (by decide +kernel)),bi (aW (by decide +kernel)),iE]);have p4:a8 ([(.inr "script",.ref a),(.inr "way",.int w),(.inr "left",.int 0),(.inr "at",.int 1)]:List (af×V)) (.inr "number") (.int x)=[(.inr "script",.ref a),(.inr "way",.int w),(.inr "left",.int 0),(.inr "at",.int 1),(.inr "number",.int x)]:=iG _ (by rw[bi (aW (by decide +kernel)),bi (aW (by decide +kernel)),bi (aW (by decide +kernel)),bi (aW (by decide +kernel)),iE]);have p5:a8 ([(.inr "script",.ref a),(.inr "way",.int w),(.inr "left",.int 0),(.inr "at",.int 1),(.inr "number",.int x)]:List (af×V)) (.inr "k") (.int 0)=[(.inr "script",.ref a),(.inr "way",.int w),(.inr "left",.int 0),(.inr "at",.int 1),(.inr "number",.int x),(.inr "k",.int 0)]:=iG _ (by rw[bi (aW (by decide +kernel)),bi (aW (by decide +kernel)),bi (aW (by decide +kernel)),bi (aW (by decide +kernel)),bi (aW (by decide +kernel)),iE]);show a8 (a8 (a8 (a8 (a8 (a8 ([]:List (af×V)) (.inr "script") (.ref a)) (.inr "way") (.int w)) (.inr "left") (.int 0)) (.inr "at") (.int 1)) (.inr "number") (.int x)) (.inr "k") (.int 0)=_;rw[p0,p1,p2,p3,p4,p5];rfl
def Dr(H:Hp)(d a:Addr):Prop:=∃(w l x:Int) (t k:Nat),0<=l/\H d=some (.dK (bm a w l t x k))
def cO(d:Addr)(H H':Hp):Prop:=∀b u,H b=some u->b≠d->H' b=some u
theorem cO.refl(d:Addr)(H:Hp):cO d H H:=λ_ _ h _=>h
theorem cO.trans{d:Addr}{H H1 H2:Hp}(a:cO d H H1)(b:cO d H1 H2):cO d H H2:=λ_ _ h n=>b _ _ (a _ _ h n) n
theorem cO.upd{d:Addr}{B H:Hp}(h:cO d B H)(x:HO):cO d B (upd H d x):=λb u e n=>by rw[aE n];exact h b u e n
theorem cO.same{d:Addr}{B H H':Hp}(h:cO d B H)(s:Same H H'):cO d B H':=λb u e n=>s _ _ (h b u e n)
theorem Dr.same{H H':Hp}{d a:Addr}(h:Dr H d a)(s:Same H H'):Dr H' d a:=by obtain⟨w,l,x,t,k,h0,e⟩:=h;exact⟨w,l,x,t,k,h0,s _ _ e⟩
theorem Dr.seq{H H':Hp}{d a c:Addr}{xs:List V}(h:Dr H d a)(b:cO d H H')(s:ak K H c xs):ak K H' c xs:=by
 obtain⟨w,l,x,t,k,h0,e⟩:=h;rcases s with (s|⟨o,s⟩)|s
 ·exact .inl (.inl (b _ _ s (by rintro rfl;rw[e] at s;cases s)))
 ·exact .inl (.inr ⟨o,b _ _ s (by rintro rfl;rw[e] at s;cases s)⟩)
 ·exact .inr s
section
variable {H:Hp}{d a:Addr}{w l x:Int}{t k:Nat}(h:H d=some (.dK (bm a w l t x k)))
include h
theorem o7:bK H d (.str "script") (some (.ref a)):=by have:=bK.k (k:=.inr "script") h;rw[DB] at this;exact this
theorem DK:bK H d (.str "way") (some (.int w)):=by have:=bK.k (k:=.inr "way") h;rw[DE] at this;exact this
theorem l9:bK H d (.str "left") (some (.int l)):=by have:=bK.k (k:=.inr "left") h;rw[v3] at this;exact this
theorem o8:bK H d (.str "at") (some (.int ((t:Nat):Int))):=by have:=bK.k (k:=.inr "at") h;rw[v4] at this;exact this
theorem v7:bK H d (.str "number") (some (.int x)):=by have:=bK.k (k:=.inr "number") h;rw[v5] at this;exact this
theorem o9:bK H d (.str "k") (some (.int ((k:Nat):Int))):=by have:=bK.k (k:=.inr "k") h;rw[v6] at this;exact this
theorem v8(l':Int):cS H d (.str "left") (.int l') (upd H d (.dK (bm a w l' t x k))):=by have:=cS.k (k:=.inr "left") (v:=.int l') h (by show 6<sizeLine;decide);rw[DF] at this;exact this
theorem DL(t':Nat):cS H d (.str "at") (.int ((t':Nat):Int)) (upd H d (.dK (bm a w l t' x k))):=by have:=cS.k (k:=.inr "at") (v:=.int ((t':Nat):Int)) h (by show 6<sizeLine;decide);rw[DG] at this;exact this
theorem DM(x':Int):cS H d (.str "number") (.int x') (upd H d (.dK (bm a w l t x' k))):=by have:=cS.k (k:=.inr "number") (v:=.int x') h (by show 6<sizeLine;decide);rw[DH] at this;exact this
theorem DN(k':Nat):cS H d (.str "k") (.int ((k':Nat):Int)) (upd H d (.dK (bm a w l t x k'))):=by have:=cS.k (k:=.inr "k") (v:=.int ((k':Nat):Int)) h (by show 6<sizeLine;decide);rw[DI] at this;exact this
end
inductive v9 (K:W.Frag) (vs:List V) (H:Hp) (Q:VK) (E:XK):Prop
 |mk:∀(a:Addr) (ns:List Int),vs=[.ref a]->ak K H a (ns.map V.int)->(∀d H',H d=none->Same H H'->Dr H' d a->Q (.ref d) H')->v9 K vs H Q E
noncomputable abbrev DO:List Str:=["_law_script","_law_first_here"]
theorem wa:be DO ["_law_script"] (aM oj):=⟨rfl,rfl,rfl,by decide +kernel,rfl,by decide +kernel,by decide +kernel⟩
theorem DP(T:All P w K mg AA DD):aI P w K mg base aK 2 AA.ZA DD.ZA ["_law_script"] (v9 K):=by
 have GE:=vY (base:=base) T;refine T.z_ZA.F.ok wa (λvs H Q E h=>?_) (λE2 A outer s H vs Q E hr h=>?_)
 ·obtain⟨a,ns,rfl,_⟩:=h;rfl
 ·obtain⟨a,ns,rfl,hS,k⟩:=h;have nd:=wa.nd;have Fd:aB 1 _:=hr;refine⟨_,(ar (aU (i:=1) nd rfl (Or.inl rfl) (aG GE Fd rfl T.z_Zp (ae (pv 0) (ae ap ag)))) (am (aP (zS (iH al (pv 0) (iH al (aD bw (pv 1) ap) (iH al ap (iH al ap (iH al (pv 1) (iH al ap zQ)))))) rfl rfl (by simp) (by decide))))),?_⟩;refine⟨_,rfl,a,ns,0,rfl,hS,λc=>?_⟩
  try dsimp only[aR]
  refine λp hp=>?_;refine⟨_,rfl,_,rfl,_,_,rfl,rfl,(by show(0:Int)<2;decide),_,rfl,ah,[(.inr "script",.ref a),(.inr "way",.int (c%2)),(.inr "left",.int 0),(.inr "at",.int 1),(.inr "number",.int c),(.inr "k",.int 0)],rfl,by show 6<=15;decide,?_⟩;rw[DJ,xD];exact k p _ hp (aj hp) ⟨_,_,_,_,_,Int.le_refl 0,ah⟩
inductive pc (K:W.Frag) (vs:List V) (H:Hp) (Q:VK) (E:XK):Prop
 |mk:∀(d a:Addr) (ns:List Int),vs=[.ref d]->Dr H d a->ak K H a (ns.map V.int)->(∀(r:Int) H',0<=r->cO d H H'->Dr H' d a->Q (.int r) H')->pc K vs H Q E
noncomputable abbrev DQ:List Str:=["_law_draws_here","_law_found","_law_number_here"]
theorem wb:be DQ ["_law_draws_here"] (aM om):=⟨rfl,rfl,rfl,by decide +kernel,rfl,by decide +kernel,by decide +kernel⟩
theorem jm(T:All P w K mg AA DD):aI P w K mg base aK 2 AA.ZG DD.ZG ["_law_draws_here"] (pc K):=by
 have GE:=vY (base:=base) T;have GX:=Dz (base:=base) T;refine T.z_ZG.F.ok wb (λvs H Q E h=>?_) (λE2 A outer s H vs Q E hr h=>?_)
 ·obtain⟨d,a,ns,rfl,_⟩:=h;rfl
 ·obtain⟨d,a,ns,rfl,hD,hS,k⟩:=h;have nd:=wb.nd;have hu:=Qz (Nat.add_le_add_left (show 1<=64 by decide) _) hr.units;have Fd:aB 1 _:=hr;refine⟨_,(ar (@xZ _ _ _ _ _ _ PassesOwn.never (PW.pt (cY (aH aV (dr hu (pv 0) al (λ_ _=>rfl)) ap (aL _)) (cY (aH aV (dr hu (pv 0) al (λ_ _=>rfl)) ap (aL _)) (dO (aH gi (dr hu (pv 0) al (λ_ _=>rfl)) (ci mH rfl T.n_len di (ae (dr hu (pv 0) al (λ_ _=>rfl)) ag)) (aL _)))))) (ar (gT hu (pv 0) al (ci yq rfl T.n_abs DA (ae (ck (qS (K:=K) rfl) (dr hu (pv 0) al (λ_ _=>rfl)) (dr hu (pv 0) al (λ_ _=>rfl)) (λ_ _=>rfl)) ag)) rfl) (am (gT hu (pv 0) al (aD eO (dr hu (pv 0) al (λ_ _=>rfl)) ap) rfl)))) (ar (aS (aH jD (dr hu (pv 0) al (λ_ _=>rfl)) ap (aL _)) (ar (aU (i:=1) nd rfl (Or.inl rfl) (aD bw (dr hu (pv 0) al (λ_ _=>rfl)) ap)) (ar (gT hu (pv 0) al (aD pZ (dr hu (pv 0) al (λ_ _=>rfl)) ap) rfl) (am (aP (pv 1))))) a9) (ar (gT hu (pv 0) al (aD eO (dr hu (pv 0) al (λ_ _=>rfl)) ap) rfl) (ar (aU (i:=2) nd rfl (Or.inl rfl) (aD eO (dr hu (pv 0) al (λ_ _=>rfl)) (aG GE Fd rfl T.z_Zp (ae (dr hu (pv 0) al (λ_ _=>rfl)) (ae (dr hu (pv 0) al (λ_ _=>rfl)) ag))))) (ar (gT hu (pv 0) al (aG GX Fd rfl T.z_Zz (ae (pv 2) (ae (dr hu (pv 0) al (λ_ _=>rfl)) ag))) rfl) (am (aP (aG GX Fd rfl T.z_Zz (ae (dr hu (pv 0) al (λ_ _=>rfl)) (ae ap ag)))))))))),?_⟩;dsimp only[cZ];refine zW (λσ' H'=>cO d H H'/\Dr H' d a/\σ'=[some (.ref d),none,none]) (λR hR=>?_) ?_
  ·refine⟨λm σ' H'=>∃(w l x:Int) (t k:Nat),0<=l/\H' d=some (.dK (bm a w l t x k))/\cO d H H'/\σ'=[some (.ref d),none,none]/\m=ns.length-t,?_,?_⟩
   ·obtain⟨w,l,x,t,k,h0,e⟩:=hD;exact⟨_,w,l,x,t,k,h0,e,cO.refl _ _,rfl,rfl⟩
   ·rintro m σ' H1 ⟨w,l,x,t,k,h0,e,hb,rfl,rfl⟩;have HF:=hD.seq hb hS;have out:R [some (.ref d),none,none] H1:=hR _ _ ⟨hb,⟨w,l,x,t,k,h0,e⟩,rfl⟩;refine⟨_,rfl,d,_,rfl,DK e,rfl,_,rfl,?_⟩;refine bS (λh1=>⟨_,rfl,d,_,rfl,l9 e,rfl,_,rfl,bS (λh2=>⟨_,rfl,d,_,rfl,o8 e,_,rfl,d,_,rfl,o7 e,a,_,rfl,.inl HF,_,_,rfl,rfl,_,rfl,bS (λh3=>?C) (λh3=>out)⟩) (λh2=>bO out)⟩) (λh1=>bO out);rw[Qf] at h3;have h3:((t:Nat):Int)<(ns.length:Int):=QJ h3;have ht:t<ns.length:=by lia
    refine⟨λσ' H'=>∃(w l x:Int) (k:Nat),0<=l/\H' d=some (.dK (bm a w l (t+1) x k))/\cO d H H'/\σ'=[some (.ref d),none,none],?_,?_⟩
    ·rintro σ2 H2 ⟨w,l,x,k,h0,e,hb,rfl⟩;exact⟨ns.length-(t+1),by lia,w,l,x,t+1,k,h0,e,hb,rfl,rfl⟩
    refine⟨_,rfl,d,_,rfl,o7 e,_,rfl,d,_,rfl,o8 e,a,_,_,_,rfl,rfl,HF,bH (j:=t) (by rw[Qj,Qa ht];rfl),_,rfl,?_⟩;refine⟨_,rfl,d,_,rfl,v8 e _,?_⟩;have e2:upd H1 d (.dK (bm a w (if ns[t]<0 then -ns[t] else ns[t]) t x k)) d=some (.dK (bm a w (if ns[t]<0 then -ns[t] else ns[t]) t x k)):=ah;refine⟨_,rfl,d,_,rfl,o8 e2,_,_,rfl,rfl,_,rfl,d,_,rfl,DL e2 (t+1),?_⟩;refine⟨w,_,x,k,?_,ah,(hb.upd _).upd _,rfl⟩;split<;>lia
  rintro σ' H1 ⟨hb,⟨w,l,x,t,j,h0,e⟩,rfl⟩;have HF:=hD.seq hb hS;refine⟨_,rfl,d,_,rfl,l9 e,_,_,rfl,rfl,_,rfl,?_⟩;refine bS (λh1=>?_) (λh1=>?_)
  ·refine⟨_,rfl,d,_,rfl,l9 e,_,_,rfl,rfl,(by show(0:Int)<1000003;decide),?_⟩
   try dsimp only[aR]
   refine⟨_,rfl,d,_,rfl,l9 e,_,_,rfl,rfl,⟨by decide,by decide⟩,_,rfl,d,_,rfl,v8 e _,?_⟩;exact⟨_,rfl,k _ _ (Int.emod_nonneg _ (by decide)) (hb.upd _) ⟨w,_,x,t,j,Int.ediv_nonneg h0 (by decide),ah⟩⟩
  ·refine⟨_,rfl,d,_,rfl,o9 e,_,_,rfl,rfl,_,rfl,d,_,rfl,DN e (j+1),?_⟩;have e2:upd H1 d (.dK (bm a w l t x (j+1))) d=some (.dK (bm a w l t x (j+1))):=ah;have HS:=hb.upd (.dK (bm a w l t x (j+1)));have HU:=hD.seq HS hS;generalize upd H1 d (.dK (bm a w l t x (j+1)))=H2 at e2 HS HU ⊢;refine⟨_,rfl,d,_,rfl,v7 e2,_,rfl,d,_,rfl,o7 e2,_,rfl,d,_,rfl,o9 e2,a,ns,j+1,rfl,HU,λc=>⟨_,_,rfl,rfl,?_⟩⟩
   try dsimp only[aR]
   refine⟨_,rfl,_,rfl,d,_,rfl,o9 e2,_,_,rfl,λr hr0 Fd=>⟨_,rfl,d,_,rfl,DM e2 r,?_⟩⟩;have e3:upd H2 d (.dK (bm a w l t r (j+1))) d=some (.dK (bm a w l t r (j+1))):=ah;refine⟨_,rfl,d,_,rfl,v7 e3,_,_,rfl,λr2 E3 _=>?_⟩;exact k _ _ E3 (HS.upd _) ⟨w,l,r,t,j+1,h0,e3⟩
def bM(K:W.Frag)(H:Hp)(d:Addr):Prop:=∃(a:Addr) (ns:List Int),Dr H d a/\ak K H a (ns.map V.int)
theorem bM.same{H H':Hp}{d:Addr}(h:bM K H d)(s:Same H H'):bM K H' d:=by obtain⟨a,ns,h1,h2⟩:=h;exact⟨a,ns,h1.same s,s.seq h2⟩
theorem bM.is{H:Hp}{d:Addr}(h:bM K H d):∃kv,H d=some (.dK kv):=by obtain⟨_,_,⟨_,_,_,_,_,_,e⟩,_⟩:=h;exact⟨_,e⟩
theorem Dr.inj{H:Hp}{d a b:Addr}(h:Dr H d a)(g:Dr H d b):a=b:=by obtain⟨w,l,x,t,k,_,e⟩:=h;obtain⟨w',l',x',t',k',_,e'⟩:=g;rw[e] at e';injection e' with e';injection e' with e';simp[bm] at e';exact e'.1
structure Bt(d:Addr)(H H':Hp):Prop where
 b:cO d H H'
 r:∀a,Dr H d a->Dr H' d a
theorem Bt.refl(d:Addr)(H:Hp):Bt d H H:=⟨cO.refl _ _,λ_ h=>h⟩
theorem Bt.trans{d:Addr}{H H1 H2:Hp}(a:Bt d H H1)(b:Bt d H1 H2):Bt d H H2:=⟨a.b.trans b.b,λx h=>b.r x (a.r x h)⟩
theorem Bt.same{d:Addr}{B H H':Hp}(h:Bt d B H)(s:Same H H'):Bt d B H':=⟨h.b.same s,λx g=>(h.r x g).same s⟩
theorem bM.bt{H H':Hp}{d:Addr}(h:bM K H d)(s:Bt d H H'):bM K H' d:=by obtain⟨a,ns,h1,h2⟩:=h;exact⟨a,ns,s.r a h1,h1.seq s.b h2⟩
theorem bM.next{H:Hp}{d:Addr}{Q:VK}{E:XK}(h:bM K H d)(k:∀(r:Int) H',0<=r->Bt d H H'->bM K H' d->Q (.int r) H'):pc K [.ref d] H Q E:=
 let ⟨a,ns,h1,h2⟩:=h
 ⟨d,a,ns,rfl,h1,h2,λr H' hr hb hd=>k r H' hr ⟨hb,λa' h'=>by rw[<-h1.inj h'];exact hd⟩ ⟨a,ns,hd,h1.seq hb h2⟩⟩
theorem Bt.at{d b:Addr}{H H':Hp}{o:HO}{kv:List (af×V)}(h:Bt d H H')(hd:H d=some (.dK kv))(e:H b=some o)(n:∀kv,o≠.dK kv):H' b=some o:=h.b _ _ e λz=>by rw[z,hd] at e;exact n kv (Qo e).symm
theorem Bt.free{d p:Addr}{H H':Hp}(h:Bt d H H')(hd:bM K H d)(e:H' p=none):H p=none:=by
 cases hp:H p with
 |none=>rfl
 |some o =>
  by_cases z:p=d
  ·obtain⟨kv',h2⟩:=(hd.bt h).is;rw[z,h2] at e;cases e
  ·rw[h.b _ _ hp z] at e;cases e
theorem Bt.tups{d:Addr}{H H':Hp}(h:Bt d H H')(hd:bM K H d):∀b xs,H b=some (.tup xs)->H' b=some (.tup xs):=λb xs e=>by obtain⟨kv,hk⟩:=hd.is;exact h.at hk e λ_ z=>by cases z
theorem Bt.lst{d b:Addr}{xs:List V}{H H':Hp}(h:Bt d H H')(hd:bM K H d)(e:H b=some (.lst xs)):H' b=some (.lst xs):=by obtain⟨kv,hk⟩:=hd.is;exact h.at hk e λ_ z=>by cases z
theorem Bt.new{d p:Addr}{H H':Hp}{o:HO}(h:Bt d H H')(hd:bM K H d)(hp:H p=none):Bt d H (L2.upd H' p o):=by
 obtain⟨kv,hk⟩:=hd.is;have hdp:d≠p:=λz=>by rw[z,hp] at hk;cases hk
 refine⟨λb u e n=>by rw[aE λz=>by rw[z,hp] at e;cases e];exact h.b b u e n,λa g=>?_⟩;obtain⟨w,l,x,t,k,h0,e⟩:=h.r a g;exact⟨w,l,x,t,k,h0,by rw[aE hdp];exact e⟩
inductive wc (K:W.Frag) (vs:List V) (H:Hp) (Q:VK) (E:XK):Prop
 |mk:∀d:Addr,vs=[.ref d]->bM K H d->(∀(r:Int) H',Bt d H H'->bM K H' d->Q (.int r) H')->wc K vs H Q E
noncomputable abbrev DR:List Str:=["_law_draws_here","_law_found"]
theorem we:be DR ["_law_draws_here"] (aM oo):=⟨rfl,rfl,rfl,by decide +kernel,rfl,by decide +kernel,by decide +kernel⟩
theorem DS(T:All P w K mg AA DD):aI P w K mg base aK 3 AA.Zu DD.Zu ["_law_draws_here"] (wc K):=by have GN:=jm (base:=base) T;refine T.z_Zu.F.ok we (λvs H Q E h=>by cases h;subst_vars;rfl) λE2 A outer s H vs Q E hr h=>?_;obtain⟨d,rfl,hD,k⟩:=h;have nd:=we.nd;have E3:aB 2 _:=hr;refine⟨_,(ar (aU (i:=1) nd rfl (Or.inl rfl) (aD eO (aD jC (aG GN E3 rfl T.z_ZG (ae (pv 0) ag)) ap) (aG GN E3 rfl T.z_ZG (ae (pv 0) ag)))) (am (aP (aD bw (aD eO (aD jC (pv 1) ap) (aG GN E3 rfl T.z_ZG (ae (pv 0) ag))) (aD yk ap ap))))),?_⟩;refine⟨_,rfl,hD.next λr1 H1 _ b1 Fk=>⟨_,_,rfl,rfl,.inr ⟨by decide,by decide⟩,_,rfl,Fk.next λr2 H2 _ b2 Fs=>⟨_,_,rfl,rfl,?_⟩⟩⟩;dsimp only[aR];refine⟨_,rfl,_,_,rfl,rfl,.inr ⟨by decide,by decide⟩,_,rfl,Fs.next λr3 H3 _ b3 Fy=>⟨_,_,rfl,rfl,_,_,rfl,rfl,⟨by decide,by decide,by decide⟩,_,_,rfl,rfl,(by show(0:Int)<10^18;decide),k _ _ ((b1.trans b2).trans b3) Fy⟩⟩
noncomputable abbrev ii:Str:="xyzuvwpqabcdefghijklmnorst"
theorem wf:ii.length=26:=by decide +kernel
noncomputable abbrev wg:Str:="gkvzbm"
inductive wj (K:W.Frag) (vs:List V) (H:Hp) (Q:VK) (E:XK):Prop
 |mk:∀d:Addr,vs=[.ref d]->bM K H d->(∀p (ws:List Str) H',H p=none->Bt d H H'->bM K H' d->H' p=some (.lst (ws.map V.str))->ws.length=6->Q (.ref p) H')->wj K vs H Q E
noncomputable abbrev pd:List Str:=["_law_draws_here","_law_some","_law_word","_law_k","_law_at"]
theorem wk:be pd ["_law_draws_here"] (aM j8):=⟨rfl,rfl,rfl,by decide +kernel,rfl,by decide +kernel,by decide +kernel⟩
theorem DT(T:All P w K mg AA DD):aI P w K mg base aK 3 AA.ZB DD.ZB ["_law_draws_here"] (wj K):=by
 have GN:=jm (base:=base) T;refine T.z_ZB.F.ok wk (λvs H Q E h=>by cases h;subst_vars;rfl) λE2 A outer s H vs Q E hr h=>?_;obtain⟨d,rfl,hD,k⟩:=h;have nd:=wk.nd;have E3:aB 2 _:=hr;have s9:∀{n:Nat},n<=100->n<=sizeLine:=λh=>QT (kM (by lia));have hsz:ii.length<=sizeLine:=by rw[wf];decide
 refine⟨_,(ar (aU (i:=1) nd rfl (Or.inl rfl) al) (ar (aU (i:=2) nd rfl (Or.inr rfl) al) (ar (db PassesOwn.never rfl (gK rfl T.n_range (ae (aD eO ap (aD bw (aG GN E3 rfl T.z_ZG (ae (pv 0) ag)) ap)) ag)) (ba (i:=3) nd rfl (Or.inl rfl)) (am (aU (i:=2) nd rfl (Or.inr rfl) (aD kJ (pv 2) (ck qE (pv 1) (aD bw (aG GN E3 rfl T.z_ZG (ae (pv 0) ag)) ap) (λ_ _=>rfl))))) (by intro _;rfl)) (ar (aU (i:=4) nd rfl (Or.inr rfl) (aD eO ap (aD bw (aG GN E3 rfl T.z_ZG (ae (pv 0) ag)) (aD gh (ci zf rfl T.n_len di (ae (pv 2) ag)) ap)))) (ar (aS (aH aV (aD bw (aG GN E3 rfl T.z_ZG (ae (pv 0) ag)) ap) ap (aL _)) (am (aP (fX (aM j8) pd ["_law_word"] [2] rfl (by exact⟨rfl,rfl,by decide +kernel,rfl,by decide +kernel,by decide +kernel,by decide +kernel,rfl,by decide +kernel⟩) rfl rfl (gK rfl T.n_range (ae ap ag)) (λ_ _ _ _=>eE) (λ_ _ _ _=>(aD kJ (gm kR (pv 1) gk (gl ap)) (gm kR al gk (gl (pv 0)))))))) a9) (am (aP (fX (aM j8) pd ["_law_word","_law_at"] [2,4] rfl (by exact⟨rfl,rfl,by decide +kernel,rfl,by decide +kernel,by decide +kernel,by decide +kernel,rfl,by decide +kernel⟩) rfl rfl (AS al) (λ_ _ _ _=>eE) (λ_ _ _ _=>(aD kJ (aD kJ (gm kR (pv 1) gk (gl (pv 2))) (pv 0)) (gm kR (pv 1) (gl (aD eO (pv 2) ap)) gk))))))))))),?_⟩;refine mY ?_
 try dsimp only[aR]
 refine mY ?_
 try dsimp only[aR]
 refine eZ (λσ' H'=>Bt d H H'/\bM K H' d/\∃(z:Str) (x3:Option V),2<=z.length/\z.length<=10/\σ'=[some (.ref d),some (.str ii),some (.str z),x3,none]) (λR hR=>?_) ?_
 ·refine⟨_,rfl,hD.next λr1 H1 h1 b1 Fk=>?_⟩;obtain⟨m,em,hm⟩:=gE (a:=r1) (n:=7) (by decide);have em:r1%7=((m:Nat):Int):=em;refine⟨_,_,rfl,rfl,(by show(0:Int)<7;decide),_,_,rfl,rfl,_,rfl,?_,?_,?_⟩
  ·rw[em];lia
  ·rw[em];lia
  rw[em,show((1:Int)+((m:Nat):Int)).toNat=1+m by lia];refine pX (D:=⟨R,_,R,R⟩) (λi σ' H'=>Bt d H H'/\bM K H' d/\∃(z:Str) (x3:Option V),z.length=i+1/\σ'=[some (.ref d),some (.str ii),some (.str z),x3,none]) ⟨b1,Fk,_,none,rfl,rfl⟩ ?_ ?_
  ·rintro i σ' H' hi ⟨b2,Fs,z,x3,hz,rfl⟩;refine⟨_,rfl,_,rfl,_,rfl,Fs.next λr3 H3 h3 b3 Fy=>?_⟩;obtain⟨q,eq,hq⟩:=gE (a:=r3) (n:=26) (by decide);have eq:r3%26=((q:Nat):Int):=eq;have hql:q<ii.cps.toList.length:=by rw[vV,wf];exact hq
   refine⟨_,_,rfl,rfl,(by show(0:Int)<26;decide),ii,_,ii.cps.toList[q],rfl,rfl,hsz,?_,_,_,rfl,rfl,?_,?_⟩
   ·rw[eq];exact bH (Qa hql)
   ·rw[l0,hz];exact s9 (by lia)
   ·exact⟨b2.trans b3,Fy,_,_,by rw[vU,l0,hz],rfl⟩
  ·rintro σ' H' ⟨b2,Fs,z,x3,hz,rfl⟩;exact hR _ _ ⟨b2,Fs,z,x3,by lia,by lia,rfl⟩
 rintro σ' H1 ⟨b1,Fk,z,x3,hz,hz2,rfl⟩;refine⟨_,rfl,Fk.next λr2 H2 h2 b2 Fs=>⟨_,rfl,z,rfl,s9 (by lia),_,_,rfl,rfl,_,_,rfl,rfl,(by show(0:Int)<(z.length:Int)-1;lia),_,_,rfl,rfl,?_⟩⟩;dsimp only[aR];refine⟨_,rfl,Fs.next λr3 H3 h3 b3 Fy=>⟨_,_,rfl,rfl,(by show(0:Int)<3;decide),rfl,_,rfl,?_⟩⟩;have cl:∀lo hi,(jL z lo hi).length<=10:=λlo hi=>QK (qU z lo hi) hz2;have HK:Bt d H H3:=(b1.trans b2).trans b3;refine bS (λ_=>?_) (λ_=>?_)
 ·refine⟨_,rfl,by decide,by decide,?_⟩;refine mP (λi ys H'=>H'=H3/\∃ws:List Str,ws.length=i/\i<=6/\ys=ws.map V.str) ⟨rfl,[],rfl,by lia,rfl⟩ ?_ ?_
  ·rintro i ys H' hi ⟨rfl,ws,hw,_,rfl⟩;have hi:i<6:=hi;rw[Int.zero_add];refine eD ?_;rw[if_pos rfl];have l2:=qU ("zzzzz":Str) none (some ((i:Nat):Int));have l3:("zzzzz":Str).length=5:=by decide +kernel
   refine⟨_,rfl,_,rfl,z,rfl,s9 (by lia),_,rfl,_,rfl,_,rfl,s9 (by lia),_,_,rfl,rfl,s9 (by have:=cl none (some 3);lia),?_⟩;exact⟨by rw[Qf,hw];exact kM (by lia),rfl,ws++[_],by simp[hw],by lia,by rw[QL];rfl⟩
  ·rintro ys H' ⟨rfl,ws,hw,_,rfl⟩ p hp;exact k p ws _ (HK.free hD hp) (HK.same (aj hp)) (Fy.same (aj hp)) ah hw
 ·refine⟨wg,rfl,by decide +kernel,?_⟩;have hgl:wg.length=6:=by decide +kernel
  rw[hgl];refine AU (λi ys H'=>H'=H3/\∃ws:List Str,ws.length=i/\i<=6/\ys=ws.map V.str) ⟨rfl,[],rfl,by lia,rfl⟩ ?_ ?_
  ·rintro i ys H' hi ⟨rfl,ws,hw,_,rfl⟩;refine eD ?_;rw[if_pos rfl];refine⟨_,rfl,_,rfl,_,rfl,z,rfl,s9 (by lia),_,rfl,_,_,rfl,rfl,s9 (by rw[l0];have:=cl none (some (1+r2%((z.length:Int)-1)));lia),_,rfl,_,rfl,_,_,rfl,rfl,_,rfl,z,rfl,s9 (by lia),_,_,rfl,rfl,s9 (by rw[vU,l0];have:=cl none (some (1+r2%((z.length:Int)-1)));have:=cl (some (1+r2%((z.length:Int)-1)+1)) none;lia),?_⟩;exact⟨by rw[Qf,hw];exact kM (by lia),rfl,ws++[_],by simp[hw],by lia,by rw[QL];rfl⟩
  ·rintro ys H' ⟨rfl,ws,hw,_,rfl⟩ p hp;exact k p ws _ (HK.free hD hp) (HK.same (aj hp)) (Fy.same (aj hp)) ah hw
theorem bx{ws:List Str}{n:Nat}(h:ws.length=n)(h0:0<n)(r:Int):∃z∈ws,fC (ws.map V.str) (r%((n:Nat):Int))=some (.str z):=by
 obtain⟨j,ej,hj⟩:=gE (a:=r) (n:=n) h0;rw[ej];have hj':j<ws.length:=by omega
 exact⟨ws[j],QQ hj',bH (by rw[Qj,Qa hj'];rfl)⟩
noncomputable def fj:Nat->Nat
 |0=>1
 |n+1=>3*fj n+1
theorem wl:∀n,1<=fj n
 |0=>Qh _
 |n+1=>by simp[fj]
structure cg(n:Nat)(e:Ex):Prop where
 g:e.good
 d:e.deep<=n
 s:e.sz<=fj n
theorem cg.leaf{n:Nat}{e:Ex}(g:e.good)(d:e.deep=0)(s:e.sz=1):cg n e:=⟨g,by lia,by rw[s];exact wl n⟩
theorem cg.not{n:Nat}{e:Ex}(h:cg n e):cg (n+1) (.not e):=⟨h.g,by have:=h.d;simp[Ex.deep];lia,by have:=h.s;simp[Ex.sz,fj];lia⟩
theorem cg.of{n:Nat}{e:Ex}(z:Str)(h:cg n e):cg (n+1) (.of z e):=⟨h.g,by have:=h.d;simp[Ex.deep];omega,by have:=h.s;simp[Ex.sz,fj];omega⟩
theorem cg.op{n:Nat}{a b:Ex}{z:Str}(hz:z∈jX)(h:cg n a)(g:cg n b):cg (n+1) (.op z a b):=⟨⟨hz,h.g,g.g⟩,by have:=h.d;have:=g.d;simp[Ex.deep];lia,by have:=h.s;have:=g.s;have:=wl n;simp[Ex.sz,fj];lia⟩
theorem cg.list{n:Nat}:∀{es:List Ex},(∀e∈es,cg n e)->jY es/\gY es<=n/\szL es<=es.length*fj n
 | [],h=>⟨trivial,QC _,QC _⟩
 |e::es,h=>by
  obtain⟨a,b,c⟩:=cg.list λx hx=>h x (.tail _ hx);have he:=h e (.head _);refine⟨⟨he.g,a⟩,?_,?_⟩
  ·have:=he.d;simp[gY];lia
  ·have:=he.s;rw[szL,QM,Nat.add_mul];lia
theorem cg.many{n:Nat}{es:List Ex}{w z:Str}(hw:w="do"∨w="new")(hl:es.length<=3)(h:∀e∈es,cg n e):cg (n+1) (.many w z es):=by obtain⟨a,b,c⟩:=cg.list h;have:es.length*fj n<=3*fj n:=Nat.mul_le_mul_right _ hl;exact⟨⟨hw,by lia,a⟩,by simp[Ex.deep];lia,by rw[Ex.sz,fj];lia⟩
theorem ij{b1 b2:Bool}{T U E:Prop}(k:(if b2=true then T else U)->E)(h:if(b1||b2)=true then T else U):if b1=true then(if true=true then T else U) else E:=by
 cases b1
 ·rw[if_neg (by simp)];exact k (by simpa using h)
 ·rw[if_pos rfl,if_pos rfl];simpa using h
inductive jn (K:W.Frag) (k:Nat) (vs:List V) (H:Hp) (Q:VK) (E:XK):Prop
 |mk:∀(d l:Addr) (ws:List Str) (n:Nat),vs=[.ref d,.ref l,.int ((n:Nat):Int)]->n<k->bM K H d->H l=some (.lst (ws.map V.str))->ws.length=6->(∀v e H',Bt d H H'->bM K H' d->bf H' v e->cg n e->Q v H')->jn K k vs H Q E
noncomputable abbrev wm:List Str:=["do","new"]
noncomputable abbrev wo:List Str:=["yes","no"]
theorem wp{H:Hp}:∀{vs:List V} {es:List Ex} {v:V} {e:Ex},ExsAt H vs es->bf H v e->ExsAt H (vs++[v]) (es++[e])
 |_,_,_,_,.nil,h=>.cons h .nil
 |_,_,_,_,.cons a b,h=>.cons a (wp b h)
noncomputable abbrev wq:List Str:=["_law_draws_here","_law_names_here","_law_deep","_law_form","_law_name","_law_parts_here","_law_word","_law_left"]
theorem pe:be wq ["_law_draws_here","_law_names_here","_law_deep"] (aM lQ):=⟨rfl,rfl,rfl,by decide +kernel,rfl,by decide +kernel,by decide +kernel⟩
theorem DU(T:All P w K mg AA DD){k:Nat}(GXE:aI P w K mg base aK (k+4) AA.ZH DD.ZH ["_law_draws_here","_law_names_here","_law_deep"] (jn K k)):aI P w K mg base aK (k+1+4) AA.ZH DD.ZH ["_law_draws_here","_law_names_here","_law_deep"] (jn K (k+1)):=by
 have GN:=jm (base:=base) T;have GNU:=DS (base:=base) T;refine T.z_ZH.F.ok pe (λvs H Q E h=>by cases h;subst_vars;rfl) λE2 A outer s H vs Q E hr h=>?_;obtain⟨d,l,ws,n,rfl,hn,hD,hl,hw,kq⟩:=h;have nd:=pe.nd;have FH:aB (k+4) _:=hr;have E3:aB 2 _:=FH.mono (by lia);have FD:aB 3 _:=FH.mono (by lia);refine⟨_,(ar (aU (i:=3) nd rfl (Or.inl rfl) (aD bw (aG GN E3 rfl T.z_ZG (ae (pv 0) ag)) ap)) (ar (aS (PW.pt (gH (aH aV (pv 2) ap (aL _)) (iu (aH gi (pv 3) ap (aL _))))) (ar (aS (aH aV (aD bw (pv 3) ap) ap (aL _)) (am (aP (aX (ae al (ae (aG GNU FD rfl T.z_Zu (ae (pv 0) ag)) ag))))) a9) (ar (aS (aH aV (aD bw (pv 3) ap) ap (aL _)) (am (aP (aX (ae al (ae (ck cW (bJ (ae al (ae al ag))) (aD bw (aG GN E3 rfl T.z_ZG (ae (pv 0) ag)) ap) (λ_ _=>rfl)) ag))))) a9) (am (aP (aX (ae al (ae (ck cW (pv 1) (aD bw (aG GN E3 rfl T.z_ZG (ae (pv 0) ag)) ap) (λ_ _=>rfl)) ag))))))) a9) (ar (aS (aH aV (pv 3) ap (aL _)) (am (aP (aX (ae al (ae (aG GXE FH rfl T.z_ZH (ae (pv 0) (ae (pv 1) (ae (aD gh (pv 2) ap) ag)))) ag))))) a9) (ar (aS (aH aV (pv 3) ap (aL _)) (ar (aU (i:=4) nd rfl (Or.inl rfl) (ck cW (pv 1) (aD bw (aG GN E3 rfl T.z_ZG (ae (pv 0) ag)) ap) (λ_ _=>rfl))) (am (aP (aX (ae al (ae (pv 4) (ae (aG GXE FH rfl T.z_ZH (ae (pv 0) (ae (pv 1) (ae (aD gh (pv 2) ap) ag)))) ag))))))) a9) (ar (aS (aH gi (pv 3) ap (aL _)) (ar (aU (i:=4) nd rfl (Or.inl rfl) (ck cW (pv 1) (aD bw (aG GN E3 rfl T.z_ZG (ae (pv 0) ag)) ap) (λ_ _=>rfl))) (ar (qX (i:=5) (aM lQ) wq ["_law_draws_here","_law_names_here","_law_deep"] [0,1,2] rfl (by exact⟨rfl,rfl,by decide +kernel,rfl,by decide +kernel,by decide +kernel,by decide +kernel,rfl,by decide +kernel⟩) rfl rfl (gK rfl T.n_range (ae (aD bw (aG GN E3 rfl T.z_ZG (ae (pv 0) ag)) ap) ag)) (λ_ _ _ _=>eE) (λ_ _ _ _=>(aG GXE FH rfl T.z_ZH (ae (pv 1) (ae (pv 2) (ae (aD gh (pv 3) ap) ag))))) nd rfl rfl rfl) (am (aP (aX (ae (ck cW (bJ (ae al (ae al ag))) (aD bw (pv 3) ap) (λ_ _=>rfl)) (ae (pv 4) (ae (fA j4 rfl T.n_tuple jP (ae (pv 5) ag)) ag)))))))) a9) (ar (aU (i:=6) nd rfl (Or.inl rfl) (ck cW (bJ (ae al (ae al (ae al (ae al (ae al (ae al (ae al ag)))))))) (aD bw (aG GN E3 rfl T.z_ZG (ae (pv 0) ag)) ap) (λ_ _=>rfl))) (ar (aU (i:=7) nd rfl (Or.inl rfl) (aG GXE FH rfl T.z_ZH (ae (pv 0) (ae (pv 1) (ae (aD gh (pv 2) ap) ag))))) (am (aP (aX (ae (pv 6) (ae (pv 7) (ae (aG GXE FH rfl T.z_ZH (ae (pv 0) (ae (pv 1) (ae (aD gh (pv 2) ap) ag)))) ag))))))))))))),?_⟩;refine⟨_,rfl,hD.next λr H1 h1 b1 Fk=>⟨_,_,rfl,rfl,(by show(0:Int)<16;decide),?_⟩⟩;dsimp only[aR];have Fe:=b1.lst hD hl
 have dq:decide (V.int ((n:Nat):Int)=V.int 0)=decide (n=0):=by
  by_cases h:n=0
  ·rw[Qv h,h];rfl
  ·rw[Qi h,Qi (λz=>h (by injection z with z;lia))]
 refine dY (λσ' H'=>H'=H1/\σ'=[some (.ref d),some (.ref l),some (.int ((n:Nat):Int)),some (.int (r%16)),none,none,none,none]/\n≠0) (λR hR=>?_) ?_
 ·refine⟨_,rfl,rfl,_,rfl,?_⟩;refine ij (b2:=decide (r%16<5)) (λh=>⟨_,rfl,_,_,rfl,rfl,_,rfl,h⟩) ?_;rw[dq];refine bS (λg1=>?_) (λg1=>?_)
  ·refine⟨_,rfl,_,_,rfl,rfl,(by show(0:Int)<5;decide),rfl,_,rfl,?_⟩;refine bS (λ_=>?_) (λ_=>?_)
   ·exact⟨_,rfl,d,rfl,Fk,λx H2 b2 Fs=>⟨bZ,λq hq=>kq _ (.num x) _ ((b1.trans b2).same (aj hq)) (Fs.same (aj hq)) (.num ah) (.leaf trivial rfl rfl)⟩⟩
   refine⟨_,rfl,_,_,rfl,rfl,(by show(0:Int)<5;decide),rfl,_,rfl,?_⟩;refine bS (λ_=>?_) (λ_=>?_)
   ·refine⟨bZ,λq0 IC=>?_⟩;have s0:=aj (o:=.lst (wo.map V.str)) IC;have hD1':=Fk.same s0;refine⟨_,rfl,hD1'.next λr2 H2 h2 b2 Fs=>?_⟩;obtain⟨z,_,hz⟩:=bx (ws:=wo) (n:=2) rfl (by decide) r2;exact⟨_,_,rfl,rfl,(by show(0:Int)<2;decide),q0,_,_,_,rfl,rfl,ak.of (b2.lst hD1' ah),hz,bZ,λq hq=>kq _ (.truth z) _ (((b1.same s0).trans b2).same (aj hq)) (Fs.same (aj hq)) (.truth ah) (.leaf trivial rfl rfl)⟩
   ·refine⟨_,rfl,_,rfl,Fk.next λr2 H2 h2 b2 Fs=>?_⟩;obtain⟨z,_,hz⟩:=bx hw (by decide) r2;exact⟨_,_,rfl,rfl,(by show(0:Int)<6;decide),l,_,_,_,rfl,rfl,ak.of (b2.lst Fk Fe),hz,bZ,λq hq=>kq _ (.name z) _ ((b1.trans b2).same (aj hq)) (Fs.same (aj hq)) (.name ah) (.leaf trivial rfl rfl)⟩
  ·exact hR _ _ ⟨rfl,rfl,λz=>g1 (by simp[z])⟩
 rintro σ' H1' ⟨rfl,rfl,hn0⟩
 obtain⟨m,rfl⟩:∃m,n=m+1:=⟨n-1,by lia⟩
 have sub:[V.ref d,.ref l,.int (((m+1:Nat):Int)-1)]=[V.ref d,.ref l,.int ((m:Nat):Int)]:=by rw[show((m+1:Nat):Int)-1=((m:Nat):Int) by lia]
 have hmk:m<k:=by lia
 refine⟨_,rfl,rfl,_,rfl,?_⟩;refine bS (λ_=>?_) (λ_=>?_)
 ·exact⟨_,rfl,_,rfl,_,rfl,_,_,rfl,rfl,d,l,ws,m,sub,hmk,Fk,Fe,hw,λv e H2 b2 Fs hv he=>⟨bZ,λq hq=>kq _ _ _ ((b1.trans b2).same (aj hq)) (Fs.same (aj hq)) (.not ah (hv.kept (aj hq).tups)) he.not⟩⟩
 refine⟨_,rfl,rfl,_,rfl,?_⟩;refine bS (λ_=>?_) (λ_=>?_)
 ·refine⟨_,rfl,_,rfl,Fk.next λr2 H2 h2 b2 Fs=>?_⟩;obtain⟨z,_,hz⟩:=bx hw (by decide) r2;refine⟨_,_,rfl,rfl,(by show(0:Int)<6;decide),l,_,_,_,rfl,rfl,ak.of (b2.lst Fk Fe),hz,?_⟩;dsimp only[aR];exact⟨_,rfl,_,rfl,_,rfl,_,rfl,_,_,rfl,rfl,d,l,ws,m,sub,hmk,Fs,b2.lst Fk Fe,hw,λv e H3 b3 Fy hv he=>⟨cQ,λq hq=>kq _ _ _ (((b1.trans b2).trans b3).same (aj hq)) (Fy.same (aj hq)) (.of ah (hv.kept (aj hq).tups)) (he.of z)⟩⟩
 refine⟨_,rfl,_,_,rfl,rfl,_,rfl,?_⟩;refine bS (λ_=>?_) (λ_=>?_)
 ·refine⟨_,rfl,_,rfl,Fk.next λr2 H2 h2 b2 Fs=>?_⟩;obtain⟨z,_,hz⟩:=bx hw (by decide) r2;have Ik:=b2.lst Fk Fe;refine⟨_,_,rfl,rfl,(by show(0:Int)<6;decide),l,_,_,_,rfl,rfl,ak.of Ik,hz,?_⟩;dsimp only[aR];refine⟨_,rfl,Fs.next λr3 H3 h3 b3 Fy=>?_⟩;have Hw:=b3.lst Fs Ik;obtain⟨c,ec,hc⟩:=gE (a:=r3) (n:=4) (by decide);have ec:r3%4=((c:Nat):Int):=ec;refine⟨_,_,rfl,rfl,(by show(0:Int)<4;decide),_,rfl,?_,?_,?_⟩
  ·show _<=r3%4;lia
  ·show r3%4<_;lia
  show gQ (eN 0 (r3%4).toNat) _ _ _ _ _ _;rw[ec,QU];refine mP (λi ys H'=>Bt d H3 H'/\bM K H' d/\i<=3/\∃es:List Ex,es.length=i/\ys.length=i/\ExsAt H' ys es/\∀e∈es,cg m e) ⟨Bt.refl _ _,Fy,by lia,[],rfl,rfl,.nil,λe he=>by simp at he⟩ ?_ ?_
  ·rintro i ys H4 hi ⟨b4,hD4,_,es,hel,FF,EY,HQ⟩;refine eD ?_;rw[if_pos rfl];refine⟨_,rfl,_,rfl,_,rfl,_,_,rfl,rfl,d,l,ws,m,sub,hmk,hD4,b4.lst Fy Hw,hw,λv e H5 b5 Gr hv he=>?_⟩;exact⟨bP (by lia),b4.trans b5,Gr,by lia,es++[e],by simp[hel],by simp[FF],wp (EY.kept (b5.tups hD4)) hv,λx hx=>(Qq hx).elim (HQ x) λz=>by rw[Qp z];exact he⟩
  ·rintro ys H4 ⟨b4,hD4,_,es,hel,FF,EY,HQ⟩ p hp;have sp:=aj (o:=.lst ys) hp;have hp1:upd H4 p (.lst ys) p=some (.lst ys):=ah;have Ja:=EY.kept sp.tups;have b5:=((b1.trans b2).trans (b3.trans b4)).same sp;have Gr:=hD4.same sp;generalize upd H4 p (.lst ys)=H5 at hp1 Ja b5 Gr;dsimp only[aR];obtain⟨g,hg0,hg⟩:=bx (ws:=wm) (n:=2) rfl (by decide) (r%16);refine⟨bZ,λq hq=>?_⟩;have s4:=aj (o:=.lst (wm.map V.str)) hq;refine⟨_,rfl,_,_,rfl,rfl,(by show(0:Int)<2;decide),q,_,_,_,rfl,rfl,ak.of ah,hg,_,rfl,?_⟩;refine⟨_,rfl,p,ys,rfl,.inl ⟨ak.of (s4 _ _ hp1),λq2 Fq=>?_⟩⟩;have s5:=aj (o:=.tup ys) Fq;refine⟨cQ,λq3 Ij=>?_⟩;have s6:=aj (o:=.tup [.str g,.str z,.ref q2]) Ij;have s456:=(s4.trans s5).trans s6;exact kq _ _ _ (b5.same s456) (Gr.same s456) (.many ah (s6 _ _ ah) (Ja.kept s456.tups)) (cg.many (by simpa using hg0) (by lia) HQ)
 ·refine⟨(by show 7<=sizeLine;decide),λq hq=>?_⟩;have s4:=aj (o:=.lst (jX.map V.str)) hq;have Fs:=Fk.same s4;refine⟨_,rfl,Fs.next λr2 H2 h2 b2 Fy=>?_⟩;obtain⟨z,hz0,hz⟩:=bx (ws:=jX) (n:=7) rfl (by decide) r2;refine⟨_,_,rfl,rfl,(by show(0:Int)<7;decide),q,_,_,_,rfl,rfl,ak.of (b2.lst Fs ah),hz,?_⟩;dsimp only[aR];have Ik:=b2.lst Fs (s4 _ _ Fe);refine⟨_,rfl,_,rfl,_,rfl,_,_,rfl,rfl,d,l,ws,m,sub,hmk,Fy,Ik,hw,λv e H3 b3 hD4 hv he=>?_⟩;dsimp only[aR];refine⟨_,rfl,_,rfl,_,rfl,_,rfl,_,rfl,_,_,rfl,rfl,d,l,ws,m,sub,hmk,hD4,b3.lst Fy Ik,hw,λv2 e2 H4 b4 Gr hv2 he2=>⟨cQ,λq3 Ij=>?_⟩⟩;have s6:=aj (o:=.tup [.str z,v,v2]) Ij;exact kq _ _ _ ((((b1.same s4).trans b2).trans (b3.trans b4)).same s6) (Gr.same s6) (.op ah ((hv.kept (b4.tups hD4)).kept s6.tups) (hv2.kept s6.tups)) (cg.op hz0 he he2)
theorem DV(T:All P w K mg AA DD):aI P w K mg base aK (0+4) AA.ZH DD.ZH ["_law_draws_here","_law_names_here","_law_deep"] (jn K 0):=by
 have no:∀vs H Q E,¬jn K 0 vs H Q E:=λvs H Q E h=>by obtain⟨d,l,ws,n,_,z,_⟩:=h;lia
 exact T.z_ZH.F.ok pe (λvs H Q E h=>(no _ _ _ _ h).elim) (λE2 A outer s H vs Q E hr h=>(no _ _ _ _ h).elim)
theorem wt(T:All P w K mg AA DD):∀k:Nat,aI P w K mg base aK (k+4) AA.ZH DD.ZH ["_law_draws_here","_law_names_here","_law_deep"] (jn K k)
 |0=>DV T
 |k+1=>DU T (wt T k)
def eT(H:Hp)(us:List Addr)(ps:List (Str×Str)):Prop:=us.length=ps.length/\∀(j:Nat) (u:Addr) (q:Str×Str),us[j]?=some u->ps[j]?=some q->H u=some (.tup [.str q.1,.str q.2])
theorem eT.kept{H H':Hp}{us:List Addr}{ps:List (Str×Str)}(h:eT H us ps)(s:∀b xs,H b=some (.tup xs)->H' b=some (.tup xs)):eT H' us ps:=⟨h.1,λj u q x y=>s _ _ (h.2 j u q x y)⟩
theorem eT.snoc{H:Hp}{us:List Addr}{ps:List (Str×Str)}{u:Addr}{q:Str×Str}(h:eT H us ps)(e:H u=some (.tup [.str q.1,.str q.2])):eT H (us++[u]) (ps++[q]):=by
 refine⟨by simp[h.1],λj v p hv hp=>?_⟩;by_cases hj:j<us.length
 ·rw[Ql hj] at hv;rw[Ql (by rw[<-h.1];exact hj)] at hp;exact h.2 j v p hv hp
 ·rw[Qs (by lia)] at hv;rw[Qs (by rw[<-h.1];lia),<-h.1] at hp
  cases hz:j-us.length with
  |zero =>
   rw[hz] at hv hp;have hv:u=v:=by simpa using hv
   have hp:q=p:=by simpa using hp
   rw[<-hv,<-hp];exact e
  |succ n=>rw[hz] at hv;simp at hv
inductive wu (K:W.Frag) (vs:List V) (H:Hp) (Q:VK) (E:XK):Prop
 |mk:∀(d l:Addr) (ws:List Str) (r:Nat),vs=[.ref d,.int ((r:Nat):Int),.ref l]->bM K H d->H l=some (.lst (ws.map V.str))->ws.length=6->(∀(a b pt:Addr) (nm kd:Str) (ps:List (Str×Str)) (us:List Addr) H',Bt d H H'->H b=none->H' b=some (.lst [])->H' a=some (.tup [.str "def",.int ((r:Nat):Int),.str nm,.str kd,.ref pt,.ref b])->H' pt=some (.tup (us.map V.ref))->eT H' us ps->ps.length<=2->Q (.ref a) H')->wu K vs H Q E
noncomputable abbrev kd2:List Str:=["num","truth"]
noncomputable abbrev DW:List Str:=["_law_draws_here","_law_at","_law_names_here","_law_kinds","_law_first_here","_law_params","_law_k"]
theorem wv:be DW ["_law_draws_here","_law_at","_law_names_here"] (aM oq):=⟨rfl,rfl,rfl,by decide +kernel,rfl,by decide +kernel,by decide +kernel⟩
theorem DX(T:All P w K mg AA DD):aI P w K mg base aK 3 AA.ZL DD.ZL ["_law_draws_here","_law_at","_law_names_here"] (wu K):=by
 have GN:=jm (base:=base) T;refine T.z_ZL.F.ok wv (λvs H Q E h=>by cases h;subst_vars;rfl) λE2 A outer s H vs Q E hr h=>?_;obtain⟨d,l,ws,r,rfl,hD,hl,hw,kq⟩:=h;have nd:=wv.nd;have E3:aB 2 _:=hr;refine⟨_,(ar (aU (i:=3) nd rfl (Or.inl rfl) (aD fW (bJ (ae al (ae al ag))) (pv 2))) (ar (aU (i:=4) nd rfl (Or.inl rfl) (aD bw (aG GN E3 rfl T.z_ZG (ae (pv 0) ag)) ap)) (ar (aU (i:=5) nd rfl (Or.inl rfl) (bJ ag)) (ar (db PassesOwn.never rfl (gK rfl T.n_range (ae (aD bw (aG GN E3 rfl T.z_ZG (ae (pv 0) ag)) ap) ag)) (ba (i:=6) nd rfl (Or.inl rfl)) (am (bV (fG (pv 5) (ae (aX (ae (ck cW (pv 2) (aD bw (aD eO (pv 4) (pv 6)) ap) (λ_ _=>rfl)) (ae (ck cW (pv 3) (aD bw (aG GN E3 rfl T.z_ZG (ae (pv 0) ag)) ap) (λ_ _=>rfl)) ag))) ag)) (by rfl))) (by intro _;rfl)) (am (aP (aX (ae al (ae (pv 1) (ae (ck cW (pv 2) (aD bw (aG GN E3 rfl T.z_ZG (ae (pv 0) ag)) ap) (λ_ _=>rfl)) (ae (ck cW (pv 3) (aD bw (aG GN E3 rfl T.z_ZG (ae (pv 0) ag)) ap) (λ_ _=>rfl)) (ae (fA j4 rfl T.n_tuple jP (ae (pv 5) ag)) (ae (bJ ag) ag))))))))))))),?_⟩;refine⟨bZ,λq hq=>?_⟩;have s1:=aj (o:=.lst [V.str "num",V.str "truth"]) hq;refine⟨_,rfl,q,l,_,_,rfl,rfl,ah,s1 _ _ hl,by rw[Qf,hw];decide,λpk hpk=>?_⟩;have s2:=aj (o:=.lst ([V.str "num",V.str "truth"]++ws.map V.str)) hpk;have hpk1:upd (upd H q (.lst [V.str "num",V.str "truth"])) pk (.lst ([V.str "num",V.str "truth"]++ws.map V.str)) pk=some (.lst ((kd2++ws).map V.str)):=ah;have b1:Bt d H _:=(Bt.refl d H).same (s1.trans s2);have Fe:=(s1.trans s2) _ _ hl;generalize upd (upd H q (.lst [V.str "num",V.str "truth"])) pk (.lst ([V.str "num",V.str "truth"]++ws.map V.str))=H1 at hpk1 b1 Fe ⊢;have Fk:=hD.bt b1;dsimp only[aR];have hk8:(kd2++ws).length=8:=by rw[Qr,hw];rfl
 refine⟨_,rfl,Fk.next λr2 H2 h2 b2 Fs=>⟨_,_,rfl,rfl,(by show(0:Int)<6;decide),?_⟩⟩;dsimp only[aR];have Ik:=b2.lst Fk Fe;have hpk2:=b2.lst Fk hpk1;refine⟨cP,λp hp=>?_⟩;have s3:=aj (o:=.lst ([]:List V)) hp;have b12:=b1.trans b2;have hpn:H p=none:=b12.free hD hp;have b3:Bt d H _:=b12.same s3;have Fy:=hD.bt b3;have Hw:=s3 _ _ Ik;have hpk3:=s3 _ _ hpk2;have ID:upd H2 p (.lst ([]:List V)) p=some (.lst []):=ah;generalize upd H2 p (.lst ([]:List V))=H3 at b3 Fy Hw hpk3 ID ⊢;dsimp only[aR];refine eZ (λσ' H'=>Bt d H H'/\H' l=some (.lst (ws.map V.str))/\H' pk=some (.lst ((kd2++ws).map V.str))/\∃(us:List Addr) (ps:List (Str×Str)) (x6:Option V),H' p=some (.lst (us.map V.ref))/\eT H' us ps/\ps.length<=2/\σ'=[some (.ref d),some (.int ((r:Nat):Int)),some (.ref l),some (.ref pk),some (.int (r2%6)),some (.ref p),x6]) (λR hR=>?_) ?_
 ·refine⟨_,rfl,Fy.next λr3 H4 h4 b4 hD4=>?_⟩;obtain⟨c,ec,hc⟩:=gE (a:=r3) (n:=3) (by decide);have ec:r3%3=((c:Nat):Int):=ec;refine⟨_,_,rfl,rfl,(by show(0:Int)<3;decide),_,rfl,?_,?_,?_⟩
  ·show _<=r3%3;lia
  ·show r3%3<_;lia
  rw[ec,show(((c:Nat):Int)).toNat=c from QU c];refine nz (D:=⟨R,_,R,R⟩) (λi σ' H'=>Bt d H H'/\H' l=some (.lst (ws.map V.str))/\H' pk=some (.lst ((kd2++ws).map V.str))/\∃(us:List Addr) (ps:List (Str×Str)) (x6:Option V),H' p=some (.lst (us.map V.ref))/\eT H' us ps/\ps.length=i/\σ'=[some (.ref d),some (.int ((r:Nat):Int)),some (.ref l),some (.ref pk),some (.int (r2%6)),some (.ref p),x6]) ⟨b3.trans b4,b4.lst Fy Hw,b4.lst Fy hpk3,[],[],none,b4.lst Fy ID,⟨rfl,λj u q h=>by simp at h⟩,rfl,rfl⟩ ?_ ?_
  ·rintro i σ' H5 hi ⟨b5,hl5,Ix,us,ps,x6,hp5,GP,Fx,rfl⟩ D1 hN;have Gr:=hD.bt b5;obtain⟨z,_,hz⟩:=bx hw (by decide) (r2%6+(0+((i:Nat):Int)));refine⟨_,rfl,.inl ⟨rfl,_,ak.of hp5⟩,_,rfl,_,rfl,_,rfl,_,_,rfl,rfl,_,_,rfl,rfl,(by show(0:Int)<6;decide),l,_,_,_,rfl,rfl,ak.of hl5,hz,_,rfl,_,rfl,Gr.next λr6 H6 h6 b6 hD6=>?_⟩;obtain⟨y,_,hy⟩:=bx hk8 (by decide) r6;refine⟨_,_,rfl,rfl,(by show(0:Int)<8;decide),pk,_,_,_,rfl,rfl,ak.of (b6.lst Gr Ix),hy,bZ,λu hu=>?_⟩;have s7:=aj (o:=.tup [.str z,.str y]) hu;have hp7:=s7 _ _ (b6.lst Gr hp5);have hl7:=s7 _ _ (b6.lst Gr hl5);have hpk7:=s7 _ _ (b6.lst Gr Ix);have b7:=(b5.trans b6).same s7;have hPs7:=(GP.kept (b6.tups Gr)).kept s7.tups;have hu7:upd H6 u (.tup [.str z,.str y]) u=some (.tup [.str z,.str y]):=ah;generalize upd H6 u (.tup [.str z,.str y])=H7 at hp7 hl7 hpk7 b7 hPs7 hu7 ⊢;have G5:=GP.1;refine⟨p,_,_,rfl,rfl,hp7,bP (by rw[Qf];lia),?_⟩;have EW:∀{x:Addr} {o:HO},H7 x=some o->(∀xs,o≠.lst xs)->x≠p:=λ{x o} e n z=>by rw[z,hp7] at e;exact n _ (Qo e).symm
   have IU:l≠p:=λz=>by rw[z,hpn] at hl;cases hl
   have F8:pk≠p:=λz=>by rw[z,hp] at hpk2;cases hpk2
   refine hN _ _ ⟨b7.new hD hpn,by rw[aE IU];exact hl7,by rw[aE F8];exact hpk7,us++[u],ps++[(z,y)],some (.int (0+((i:Nat):Int))),by rw[ah,QL];rfl,?_,by simp[Fx],rfl⟩;exact(hPs7.snoc hu7).kept λb xs e=>by rw[aE (EW e λ_ z=>by cases z)];exact e
  ·rintro σ' H5 ⟨b5,hl5,Ix,us,ps,x6,hp5,GP,Fx,rfl⟩;exact hR _ _ ⟨b5,hl5,Ix,us,ps,x6,hp5,GP,by lia,rfl⟩
 rintro σ' H5 ⟨b5,hl5,Ix,us,ps,x6,hp5,GP,Fx,rfl⟩;have Gr:=hD.bt b5;refine⟨_,rfl,_,rfl,_,rfl,Gr.next λr6 H6 h6 b6 hD6=>?_⟩;obtain⟨z,_,hz⟩:=bx hw (by decide) r6;refine⟨_,_,rfl,rfl,(by show(0:Int)<6;decide),l,_,_,_,rfl,rfl,ak.of (b6.lst Gr hl5),hz,_,rfl,_,rfl,hD6.next λr7 H7 h7 b7 hD7=>?_⟩;obtain⟨y,_,hy⟩:=bx hk8 (by decide) r7;have hp7:=b7.lst hD6 (b6.lst Gr hp5);refine⟨_,_,rfl,rfl,(by show(0:Int)<8;decide),pk,_,_,_,rfl,rfl,ak.of (b7.lst hD6 (b6.lst Gr Ix)),hy,_,rfl,p,_,rfl,.inl ⟨ak.of hp7,λpt Gk=>?_⟩⟩;have s8:=aj (o:=.tup (us.map V.ref)) Gk;have b8:=((b5.trans b6).trans b7).same s8;refine⟨cP,λb hb=>?_⟩;have s9:=aj (o:=.lst ([]:List V)) hb;refine⟨(by show 6<=sizeLine;decide),λa ha=>?_⟩;have s10:=aj (o:=.tup [.str "def",.int ((r:Nat):Int),.str z,.str y,.ref pt,.ref b]) ha;refine kq a b pt z y ps us _ ((b8.same s9).same s10) (b8.free hD hb) (s10 _ _ ah) ah (s10 _ _ (s9 _ _ ah)) ?_ Fx;exact((((GP.kept (b6.tups Gr)).kept (b7.tups hD6)).kept s8.tups).kept s9.tups).kept s10.tups
theorem eU{b1 b2:Bool}{T U E:Prop}(k:b1=true->(if b2=true then T else U)->E)(h:if(b1&&b2)=true then T else U):if b1=true then E else(if false=true then T else U):=by
 cases b1
 ·rw[if_neg (by simp),if_neg (by simp)];simpa using h
 ·rw[if_pos rfl];exact k rfl (by simpa using h)
theorem km{i j:Int}:decide (V.int i=V.int j)=decide (i=j):=by
 by_cases h:i=j
 ·rw[Qv h,h];exact Qv rfl
 ·rw[Qi h];exact Qi λz=>h (by injection z)
theorem bz{a b:Str}:decide (V.str a=V.str b)=decide (a=b):=by
 by_cases h:a=b
 ·rw[Qv h,h];exact Qv rfl
 ·rw[Qi h];exact Qi λz=>h (by injection z)
structure ww(H H':Hp)(a:Addr)(t:Tr)(bs:List Addr):Prop where
 rw:cy H' a t bs
 len:bs.length=t.nb
 nd:bs.Nodup
 new:∀b∈bs,H b=none/\H' b=some (.lst [])
structure RowC(t:Tr)(r n:Nat):Prop where
 asc:t.asc
 bare:t.fill []=t
 row:t.row=r
 co:∀e,t.ex=some e->e.sz<=125
 hd:t.hd≠none->n=1
 nb:t.nb≠0->n<4
theorem cg.fit{n:Nat}{e:Ex}(h:cg n e)(hn:n<=4):e.fit/\e.sz<=121:=by
 refine⟨⟨h.g,by have:=h.d;lia⟩,QK h.s ?_⟩;have:n=0∨n=1∨n=2∨n=3∨n=4:=by lia
 rcases this with rfl|rfl|rfl|rfl|rfl<;>decide
inductive wx (K:W.Frag) (vs:List V) (H:Hp) (Q:VK) (E:XK):Prop
 |mk:∀(d l st:Addr) (ws:List Str) (f:Int) (r:Nat) (qs:List Addr) (df:Bool),vs=[.ref d,.int f,.int ((r:Nat):Int),.ref l,.ref st]->bM K H d->H l=some (.lst (ws.map V.str))->ws.length=6->H st=some (.lst (qs.map V.ref))->qs.length<=10->(∀q1,qs[1]?=some q1->∃x y wd,H q1=some (.tup [x,y,.str wd])/\df=decide (wd="def"))->(∀H',Bt d H H'->Q .non H')->(∀(a:Addr) (t:Tr) (bs:List Addr) H',Bt d H H'->ww H H' a t bs->RowC t r qs.length->Q (.ref a) H')->wx K vs H Q E
noncomputable abbrev jo:Str:="fghi"
theorem wy:jo.length=4:=by decide +kernel
noncomputable abbrev wz:List Str:=["_law_draws_here","_law_form","_law_at","_law_names_here","_law_stack","_law_name","_law_e","_law_fields"]
theorem wA:be wz ["_law_draws_here","_law_form","_law_at","_law_names_here","_law_stack"] (aM lR):=⟨rfl,rfl,rfl,by decide +kernel,rfl,by decide +kernel,by decide +kernel⟩
theorem DY(T:All P w K mg AA DD):aI P w K mg base aK 10 AA.ZM DD.ZM ["_law_draws_here","_law_form","_law_at","_law_names_here","_law_stack"] (wx K):=by
 have GN:=jm (base:=base) T;have GDF:=DX (base:=base) T;have GXE:=wt (base:=base) T 5;refine T.z_ZM.F.ok wA (λvs H Q E h=>by cases h;subst_vars;rfl) λE2 A outer s H vs Q E hr h=>?_;obtain⟨d,l,st,ws,f,r,qs,df,rfl,hD,hl,hw,hst,hql,hdf,kn,kr⟩:=h;have nd:=wA.nd;have FH:aB 9 _:=hr;have E3:aB 2 _:=FH.mono (by lia);have FD:aB 3 _:=FH.mono (by lia);refine⟨_,(ar (aS (aH gi (pv 1) ap (aL _)) (ar (aU (i:=5) nd rfl (Or.inl rfl) (ck cW (pv 3) (aD bw (aG GN E3 rfl T.z_ZG (ae (pv 0) ag)) ap) (λ_ _=>rfl))) (ar (aU (i:=6) nd rfl (Or.inl rfl) (aG GXE FH rfl T.z_ZH (ae (pv 0) (ae (pv 3) (ae (aD bw (aG GN E3 rfl T.z_ZG (ae (pv 0) ag)) ap) ag))))) (ar (aS (aH gi (pv 1) ap (aL _)) (am (aP (aX (ae al (ae (pv 2) (ae (pv 5) (ae (pv 6) ag))))))) a9) (am (aP (aX (ae al (ae (pv 2) (ae (pv 6) ag))))))))) a9) (ar (aS (PW.pt (cY (aH aV (pv 1) ap (aL _)) (dO (aH aV (ci d5 rfl T.n_len di (ae (pv 4) ag)) ap (aL _))))) (am (aP (aG GDF FD rfl T.z_ZL (ae (pv 0) (ae (pv 2) (ae (pv 3) ag)))))) a9) (ar (aS (PW.pt (cY (aH aV (pv 1) ap (aL _)) (dO (aH aV (ci d5 rfl T.n_len di (ae (pv 4) ag)) ap (aL _))))) (ar (qX (i:=7) (aM lR) wz ["_law_draws_here"] [0] rfl (by exact⟨rfl,rfl,by decide +kernel,rfl,by decide +kernel,by decide +kernel,by decide +kernel,rfl,by decide +kernel⟩) rfl rfl (gK rfl T.n_range (ae (aD bw (aG GN E3 rfl T.z_ZG (ae (pv 0) ag)) ap) ag)) (λ_ _ _ _=>eE) (λ_ _ _ _=>(aX (ae (ck qE al (pv 0) (λ_ _=>rfl)) (ae (ck cW (bJ (ae al (ae al ag))) (aD bw (aG GN E3 rfl T.z_ZG (ae (pv 1) ag)) ap) (λ_ _=>rfl)) ag)))) nd rfl rfl rfl) (am (aP (aX (ae al (ae (pv 2) (ae (ck cW (pv 3) (aD bw (aG GN E3 rfl T.z_ZG (ae (pv 0) ag)) ap) (λ_ _=>rfl)) (ae (fA j4 rfl T.n_tuple jP (ae (pv 7) ag)) ag)))))))) a9) (ar (aS (PW.pt (cY (aH aV (pv 1) ap (aL _)) (cY (aH jD (ci d5 rfl T.n_len di (ae (pv 4) ag)) ap (aL _)) (dO (aH aV (au (lv (pv 4))) al (aL _)))))) (am (aP (aX (ae al (ae (pv 2) (ae (aG GXE FH rfl T.z_ZH (ae (pv 0) (ae (pv 3) (ae (aD bw (aG GN E3 rfl T.z_ZG (ae (pv 0) ag)) ap) ag)))) ag)))))) a9) (ar (aS (PW.pt (cY (aH aV (pv 1) ap (aL _)) (dO (aH gi (ci d5 rfl T.n_len di (ae (pv 4) ag)) ap (aL _))))) (am (aP (aX (ae al (ae (pv 2) (ae (aG GXE FH rfl T.z_ZH (ae (pv 0) (ae (pv 3) (ae (aD bw (aG GN E3 rfl T.z_ZG (ae (pv 0) ag)) ap) ag)))) (ae (bJ ag) (ae (bJ ag) ag)))))))) a9) (ar (aS (PW.pt (cY (aH aV (pv 1) ap (aL _)) (dO (aH gi (ci d5 rfl T.n_len di (ae (pv 4) ag)) ap (aL _))))) (am (aP (aX (ae al (ae (pv 2) (ae (aG GXE FH rfl T.z_ZH (ae (pv 0) (ae (pv 3) (ae (aD bw (aG GN E3 rfl T.z_ZG (ae (pv 0) ag)) ap) ag)))) (ae (bJ ag) ag))))))) a9) (am (aP kD)))))))),?_⟩;have lines:∀{n:Nat},n<=500->n<sizeLine:=λh=>kM (by lia);have hln:(((qs.map V.ref).length:Nat):Int)=((qs.length:Nat):Int):=by simp
 have l1:decide (((qs.length:Nat):Int)=1)=decide (qs.length=1):=decide_eq_decide.mpr (by lia);have l2:decide (((qs.length:Nat):Int)>1)=decide (1<qs.length):=decide_eq_decide.mpr (by lia);have l4:decide (((qs.length:Nat):Int)<4)=decide (qs.length<4):=decide_eq_decide.mpr (by lia);have mod5:∀r0:Int,∃n:Nat,r0%5=((n:Nat):Int)/\n<=4:=λr0=>by obtain⟨c,ec,hc⟩:=gE (a:=r0) (n:=5) (by decide);exact⟨c,ec,by lia⟩
 refine⟨_,rfl,_,_,rfl,rfl,_,rfl,?_⟩;refine bS (λ_=>?_) (λ_=>?_)
 ·refine⟨_,rfl,_,rfl,hD.next λr1 H1 h1 b1 Fk=>?_⟩;obtain⟨z,_,hz⟩:=bx hw (by decide) r1;have Fe:=b1.lst hD hl;refine⟨_,_,rfl,rfl,(by show(0:Int)<6;decide),l,_,_,_,rfl,rfl,ak.of Fe,hz,?_⟩;dsimp only[aR];refine⟨_,rfl,_,rfl,_,rfl,Fk.next λr2 H2 h2 b2 Fs=>?_⟩;obtain⟨n,en,hn⟩:=mod5 r2;refine⟨_,_,rfl,rfl,(by show(0:Int)<5;decide),d,l,ws,n,by show [V.ref d,V.ref l,V.int (r2%5)]=_;rw[en],by lia,Fs,b2.lst Fk Fe,hw,λv e H3 b3 Fy hv he=>?_⟩;dsimp only[aR];obtain⟨ef,es⟩:=he.fit hn;have HK:=(b1.trans b2).trans b3;refine⟨_,rfl,_,_,rfl,rfl,_,rfl,?_⟩;refine bS (λ_=>?_) (λ_=>?_)
  ·refine⟨_,rfl,_,rfl,_,rfl,mh,λa ha=>kr a (.set r z e) [] _ (HK.same (aj ha)) ⟨⟨[.str "set",.int ((r:Nat):Int),.str z,v],ah,λG g=>.cons (.s _) (.cons (.i _) (.cons (.s _) (.cons (.e ((hv.kept (aj ha).tups).kept g)) .nil)))⟩,rfl,.nil,λb hb=>by simp at hb⟩ ⟨ef,rfl,rfl,λe1 z1=>by cases z1;lia,λz=>absurd rfl z,λz=>absurd rfl z⟩⟩
  ·refine⟨_,rfl,_,rfl,cQ,λa ha=>kr a (.tell r e) [] _ (HK.same (aj ha)) ⟨⟨[.str "tell",.int ((r:Nat):Int),v],ah,λG g=>.cons (.s _) (.cons (.i _) (.cons (.e ((hv.kept (aj ha).tups).kept g)) .nil))⟩,rfl,.nil,λb hb=>by simp at hb⟩ ⟨ef,rfl,rfl,λe1 z1=>by cases z1;lia,λz=>absurd rfl z,λz=>absurd rfl z⟩⟩
 refine⟨_,rfl,rfl,_,rfl,eU (b2:=decide (qs.length=1)) (λ_ h=>⟨_,rfl,st,_,rfl,.inl (ak.of hst),rfl,_,rfl,by rw[km,hln,l1];exact h⟩) ?_⟩;refine bS (λg=>?_) (λ_=>?_)
 ·have g1:qs.length=1:=QJ ((QS _ _).mp g).2;refine⟨_,rfl,_,rfl,_,rfl,d,l,ws,r,rfl,hD,hl,hw,λa b pt nm kd ps us H1 b1 hb GM ha Gk GP Fx=>?_⟩;refine kr a (.df r nm kd ps []) [b] _ b1 ⟨⟨[.str "def",.int ((r:Nat):Int),.str nm,.str kd,.ref pt],ha,λG g=>.cons (.s _) (.cons (.i _) (.cons (.s _) (.cons (.s _) (.cons (.p ⟨pt,us,rfl,g _ _ Gk,GP.1,λi u q x y=>g _ _ (GP.2 i u q x y)⟩) .nil))))⟩,rfl,by simp,λx hx=>by rw[Qp hx];exact⟨hb,GM⟩⟩ ⟨⟨by lia,by simp,trivial⟩,rfl,rfl,λe1 z1=>(nomatch z1),λ_=>g1,λ_=>by lia⟩
 refine⟨_,rfl,rfl,_,rfl,eU (b2:=decide (qs.length=1)) (λ_ h=>⟨_,rfl,st,_,rfl,.inl (ak.of hst),rfl,_,rfl,by rw[km,hln,l1];exact h⟩) ?_⟩;refine bS (λg=>?_) (λ_=>?_)
 ·have g1:qs.length=1:=QJ ((QS _ _).mp g).2;refine⟨_,rfl,hD.next λr1 H1 h1 b1 Fk=>?_⟩;obtain⟨c,ec,hc⟩:=gE (a:=r1) (n:=4) (by decide);have ec:r1%4=((c:Nat):Int):=ec;refine⟨_,_,rfl,rfl,(by show(0:Int)<4;decide),_,rfl,?_,?_,?_⟩
  ·show _<=r1%4;lia
  ·show r1%4<_;lia
  show gQ (eN 0 (r1%4).toNat) _ _ _ _ _ _;rw[ec,QU];refine mP (λi ys H'=>Bt d H H'/\i<=3/\∃(us:List Addr) (ps:List (Str×Str)),ys=us.map V.ref/\us.length=i/\eT H' us ps) ⟨b1,by lia,[],[],rfl,rfl,rfl,λj u q h=>by simp at h⟩ ?_ ?_
  ·rintro i ys H2 hi ⟨b2,_,us,ps,rfl,G5,GP⟩;have Fs:=hD.bt b2;rw[Int.zero_add];refine eD ?_;rw[if_pos rfl];have hi3:i<jo.cps.toList.length:=by rw[vV,wy];lia
   refine⟨_,rfl,jo,_,jo.cps.toList[i],rfl,rfl,(by rw[wy];decide),bH (Qa hi3),bZ,λq0 IC=>?_⟩;have s0:=aj (o:=.lst [V.str "num",V.str "truth"]) IC;have hD2':=Fs.same s0;refine⟨_,rfl,hD2'.next λr3 H3 h3 b3 Fy=>?_⟩;obtain⟨y,_,hy⟩:=bx (ws:=kd2) (n:=2) rfl (by decide) r3;refine⟨_,_,rfl,rfl,(by show(0:Int)<2;decide),q0,_,_,_,rfl,rfl,ak.of (b3.lst hD2' ah),hy,bZ,λu hu=>?_⟩;have s4:=aj (o:=.tup [V.str ⟨#[jo.cps.toList[i]]⟩,V.str y]) hu;refine⟨by rw[Qf];exact bP (by lia),((b2.same s0).trans b3).same s4,by lia,us++[u],ps++[(⟨#[jo.cps.toList[i]]⟩,y)],by simp,by simp[G5],?_⟩;exact(((GP.kept s0.tups).kept (b3.tups hD2')).kept s4.tups).snoc ah
  ·rintro ys H2 ⟨b2,_,us,ps,rfl,G5,GP⟩ p hp;have sp:=aj (o:=.lst (us.map V.ref)) hp;have b3:=b2.same sp;have hP3:=GP.kept sp.tups;have ID:upd H2 p (.lst (us.map V.ref)) p=some (.lst (us.map V.ref)):=ah;generalize upd H2 p (.lst (us.map V.ref))=H3 at b3 hP3 ID ⊢;have Fy:=hD.bt b3;dsimp only[aR];refine⟨_,rfl,_,rfl,_,rfl,Fy.next λr4 H4 h4 b4 hD4=>?_⟩;obtain⟨z,_,hz⟩:=bx hw (by decide) r4;refine⟨_,_,rfl,rfl,(by show(0:Int)<6;decide),l,_,_,_,rfl,rfl,ak.of (b4.lst Fy (b3.lst hD hl)),hz,_,rfl,p,_,rfl,.inl ⟨ak.of (b4.lst Fy ID),λpt Gk=>?_⟩⟩;have s5:=aj (o:=.tup (us.map V.ref)) Gk;refine⟨mh,λa ha=>?_⟩;have s6:=aj (o:=.tup [.str "kind",.int ((r:Nat):Int),.str z,.ref pt]) ha;have hP6:=((hP3.kept (b4.tups Fy)).kept s5.tups).kept s6.tups;have hpt6:=s6 _ _ (ah (H:=H4) (a:=pt) (o:=.tup (us.map V.ref)));refine kr a (.kd r z ps) [] _ ((b3.trans b4).same (s5.trans s6)) ⟨⟨[.str "kind",.int ((r:Nat):Int),.str z,.ref pt],ah,λG g=>.cons (.s _) (.cons (.i _) (.cons (.s _) (.cons (.p ⟨pt,us,rfl,g _ _ hpt6,hP6.1,λi u q x y=>g _ _ (hP6.2 i u q x y)⟩) .nil)))⟩,rfl,.nil,λb hb=>by simp at hb⟩ ⟨by show ps.length<=20;rw[<-hP3.1];lia,rfl,rfl,λe1 z1=>(nomatch z1),λ_=>g1,λz=>absurd rfl z⟩
 refine⟨_,rfl,rfl,_,rfl,eU (b2:=decide (1<qs.length)&&df) (λ_ h=>⟨_,rfl,st,_,rfl,.inl (ak.of hst),_,_,rfl,rfl,_,rfl,?_⟩) ?_⟩
 ·rw[hln,l2];refine eU (b2:=df) (λhb h=>?_) h;have hb:1<qs.length:=QJ hb;obtain⟨x,y,wd,hq1,G3⟩:=hdf qs[1] (Qa hb);have g1:(qs.map V.ref)[1]?=some (.ref qs[1]):=by rw[Qj,Qa hb];rfl
  exact⟨_,rfl,st,_,_,_,rfl,rfl,ak.of hst,bH (j:=1) g1,qs[1],_,_,_,rfl,rfl,aq.of hq1,bH (j:=2) rfl,rfl,_,rfl,by rw[bz,<-G3];exact h⟩
 refine bS (λ_=>?_) (λ_=>?_)
 ·refine⟨_,rfl,_,rfl,_,rfl,_,rfl,hD.next λr2 H2 h2 b2 Fs=>?_⟩;obtain⟨n,en,hn⟩:=mod5 r2;refine⟨_,_,rfl,rfl,(by show(0:Int)<5;decide),d,l,ws,n,by show [V.ref d,V.ref l,V.int (r2%5)]=_;rw[en],by lia,Fs,b2.lst hD hl,hw,λv e H3 b3 Fy hv he=>?_⟩;obtain⟨ef,es⟩:=he.fit hn;exact⟨cQ,λa ha=>kr a (.give r e) [] _ ((b2.trans b3).same (aj ha)) ⟨⟨[.str "give",.int ((r:Nat):Int),v],ah,λG g=>.cons (.s _) (.cons (.i _) (.cons (.e ((hv.kept (aj ha).tups).kept g)) .nil))⟩,rfl,.nil,λb hb=>by simp at hb⟩ ⟨ef,rfl,rfl,λe1 z1=>by cases z1;lia,λz=>absurd rfl z,λz=>absurd rfl z⟩⟩
 refine⟨_,rfl,rfl,_,rfl,eU (b2:=decide (qs.length<4)) (λ_ h=>⟨_,rfl,st,_,rfl,.inl (ak.of hst),_,_,rfl,rfl,_,rfl,by rw[hln,l4];exact h⟩) ?_⟩;refine bS (λg=>?_) (λ_=>?_)
 ·have g1:qs.length<4:=QJ ((QS _ _).mp g).2;refine⟨_,rfl,_,rfl,_,rfl,_,rfl,hD.next λr2 H2 h2 b2 Fs=>?_⟩;obtain⟨n,en,hn⟩:=mod5 r2;refine⟨_,_,rfl,rfl,(by show(0:Int)<5;decide),d,l,ws,n,by show [V.ref d,V.ref l,V.int (r2%5)]=_;rw[en],by lia,Fs,b2.lst hD hl,hw,λv e H3 b3 Fy hv he=>?_⟩;obtain⟨ef,es⟩:=he.fit hn;have b23:=b2.trans b3;refine⟨cP,λx1 hx1=>?_⟩;have s1:=aj (o:=.lst ([]:List V)) hx1;refine⟨cP,λx2 hx2=>?_⟩;have s2:=aj (o:=.lst ([]:List V)) hx2;refine⟨(by show 5<=sizeLine;decide),λa ha=>?_⟩;have s3:=aj (o:=.tup [.str "if",.int ((r:Nat):Int),v,.ref x1,.ref x2]) ha;have sx:=(s1.trans s2).trans s3;have hx12:x1≠x2:=λz=>by rw[<-z,ah] at hx2;cases hx2
  refine kr a (.iff r e [] []) [x1,x2] _ (b23.same sx) ⟨⟨[.str "if",.int ((r:Nat):Int),v],ah,λG g=>.cons (.s _) (.cons (.i _) (.cons (.e ((hv.kept sx.tups).kept g)) .nil))⟩,rfl,by simp[hx12],λb hb=>?_⟩ ⟨⟨ef,⟨by simp,trivial⟩,by simp,trivial⟩,rfl,rfl,λe1 z1=>by cases z1;lia,λz=>absurd rfl z,λ_=>g1⟩;rcases (show b=x1∨b=x2 by simpa using hb) with rfl|rfl
  ·exact⟨b23.free hD hx1,(s2.trans s3) _ _ ah⟩
  ·exact⟨(b23.same s1).free hD hx2,s3 _ _ ah⟩
 refine⟨_,rfl,rfl,_,rfl,eU (b2:=decide (qs.length<4)) (λ_ h=>⟨_,rfl,st,_,rfl,.inl (ak.of hst),_,_,rfl,rfl,_,rfl,by rw[hln,l4];exact h⟩) ?_⟩;refine bS (λg=>?_) (λ_=>?_)
 ·have g1:qs.length<4:=QJ ((QS _ _).mp g).2;refine⟨_,rfl,_,rfl,_,rfl,_,rfl,hD.next λr2 H2 h2 b2 Fs=>?_⟩;obtain⟨n,en,hn⟩:=mod5 r2;refine⟨_,_,rfl,rfl,(by show(0:Int)<5;decide),d,l,ws,n,by show [V.ref d,V.ref l,V.int (r2%5)]=_;rw[en],by lia,Fs,b2.lst hD hl,hw,λv e H3 b3 Fy hv he=>?_⟩;obtain⟨ef,es⟩:=he.fit hn;have b23:=b2.trans b3;refine⟨cP,λx1 hx1=>?_⟩;have s1:=aj (o:=.lst ([]:List V)) hx1;refine⟨mh,λa ha=>?_⟩;have s3:=aj (o:=.tup [.str "while",.int ((r:Nat):Int),v,.ref x1]) ha;have sx:=s1.trans s3;exact kr a (.whl r e []) [x1] _ (b23.same sx) ⟨⟨[.str "while",.int ((r:Nat):Int),v],ah,λG g=>.cons (.s _) (.cons (.i _) (.cons (.e ((hv.kept sx.tups).kept g)) .nil))⟩,rfl,by simp,λb hb=>by rw[Qp hb];exact⟨b23.free hD hx1,s3 _ _ ah⟩⟩ ⟨⟨ef,by simp,trivial⟩,rfl,rfl,λe1 z1=>by cases z1;lia,λz=>absurd rfl z,λ_=>g1⟩
 exact kn _ (Bt.refl _ _)
structure Fr where
 x:Nat
 w:Str
 t:Tr
 ks:List Nat
structure jp(B:List Bk)(p:Nat)(f:Fr):Prop where
 row:∃b init,B[p]?=some b/\b.rs=init++[(f.t,f.ks)]
 way:(f.w="def"/\f.ks=[f.x]/\f.t.hd≠none)∨(f.w="if"/\(∃z c,f.ks=[f.x,z]/\B[z]?=some c/\c.rs=[])/\f.t.hd=none)∨(f.w="while"/\f.ks=[f.x]/\f.t.hd=none)∨(f.w="else"/\(∃z,f.ks=[z,f.x])/\f.t.hd=none)
noncomputable def bX(r:List Fr):List Nat:=0::r.map Fr.x
structure Sk(B:List Bk)(r:List Fr):Prop where
 b0:∃b,B[0]?=some b/\b.d=0
 ok:∀(e p:Nat) (f:Fr),(bX r)[e]?=some p->r[e]?=some f->jp B p f
theorem jp.alt{B:List Bk}{p:Nat}{f:Fr}(h:jp B p f):f.ks=[f.x]∨(∃z c,f.ks=[f.x,z]/\B[z]?=some c/\c.rs=[])∨∃z,f.ks=[z,f.x]:=by
 rcases h.way with ⟨_,h,_⟩|⟨_,h,_⟩|⟨_,h,_⟩|⟨_,h,_⟩
 ·exact .inl h
 ·exact .inr (.inl h)
 ·exact .inl h
 ·exact .inr (.inr h)
theorem jp.kid{B:List Bk}{p:Nat}{f:Fr}(h:jp B p f):f.x∈f.ks:=by rcases h.alt with e|⟨z,c,e,_⟩|⟨z,e⟩<;>rw[e]<;>simp
theorem ph{r:List Fr}{e:Nat}{f:Fr}(h:r[e]?=some f):(bX r)[e+1]?=some f.x:=by show(0::r.map Fr.x)[e+1]?=_;rw[List.getElem?_cons_succ,Qj,h];rfl
theorem pz{r:List Fr}{e:Nat}{f:Fr}(h:r[e]?=some f):∃p,(bX r)[e]?=some p:=by
 have hl:=(Qc h).1;have:e<(bX r).length:=by show e<(0::r.map Fr.x).length;simp;lia
 exact⟨_,Qa this⟩
theorem pA(r:List Fr):(bX r).length=r.length+1:=by simp[bX]
theorem Sk.pt{B:List Bk}{r:List Fr}{k:Nat}(s:Sk B r)(h:PI B k):sI B (bX r)
 |0,x,hx=>by
  have:0=x:=by simpa [bX] using hx
  rw[<-this];exact s.b0
 |e+1,x,hx=>by
  have hr:(r.map Fr.x)[e]?=some x:=by simpa [bX] using hx
  rw[Qj] at hr
  cases hf:r[e]? with
  |none=>rw[hf] at hr;cases hr
  |some f =>
   rw[hf] at hr;have hr:f.x=x:=by simpa using hr
   obtain⟨p,hp⟩:=pz hf;obtain⟨b,hb,hd⟩:=Sk.pt s h e p hp;have g:=s.ok e p f hp hf;obtain⟨b',init,g1,g2⟩:=g.row;rw[hb] at g1;cases g1;obtain⟨c,hc,h2⟩:=((h.at hb).rw (f.t,f.ks) (by rw[g2];simp)).ch f.x g.kid;rw[<-hr];exact⟨c,hc,by rw[h2,hd]⟩
theorem wB{B:List Bk}:∀(L:List Nat),L≠[]->(∀x∈L,∃b,B[x]?=some b)->(∀(e x y:Nat),L[e]?=some x->L[e+1]?=some y->∃b init q,B[x]?=some b/\b.rs=init++[q]/\(q.2=[y]∨(∃z c,q.2=[y,z]/\B[z]?=some c/\c.rs=[])∨∃z,q.2=[z,y]))->hU B L
 | [],h,_,_=>absurd rfl h
 | [x],_,h,_=>h x (.head _)
 |x::y::r,_,h,g=>⟨g 0 x y rfl rfl,wB (y::r) (by simp) (λz hz=>h z (.tail _ hz)) λe a b ha hb=>g (e+1) a b (by simpa using ha) (by simpa using hb)⟩
theorem Sk.chn{B:List Bk}{r:List Fr}{k:Nat}(s:Sk B r)(h:PI B k):hU B (bX r):=by
 refine wB _ (by simp[bX]) (λx hx=>?_) λe x y hx hy=>?_
 ·obtain⟨e,he⟩:=List.mem_iff_getElem?.mp hx;obtain⟨b,hb,_⟩:=s.pt h e x he;exact⟨b,hb⟩
 ·have hr:(r.map Fr.x)[e]?=some y:=by simpa [bX] using hy
  rw[Qj] at hr
  cases hf:r[e]? with
  |none=>rw[hf] at hr;cases hr
  |some f =>
   rw[hf] at hr;have hr:f.x=y:=by simpa using hr
   have g:=s.ok e x f hx hf;obtain⟨b,init,g1,g2⟩:=g.row;exact⟨b,init,(f.t,f.ks),g1,g2,by rw[<-hr];exact g.alt⟩
noncomputable def bY(r:List Fr):Nat:=(bX r).getLastD 0
theorem ik(r:List Fr):(bX r)[r.length]?=some (bY r):=by have h:(bX r).length=r.length+1:=pA r;unfold bY;rw[List.getLastD_eq_getLast?,List.getLast?_eq_getElem?,h,Nat.add_sub_cancel,Qa (by lia)];rfl
theorem Sk.step{B:List Bk}{r N:List Fr}{k:Nat}{b:Bk}{t:Tr}(s:Sk B r)(h:PI B k)(hb:B[bY r]?=some b)
  (hN:N=[]∨∃w,N=[⟨B.length,w,t,List.range' B.length t.nb⟩]/\t.nb≠0/\((w="def"/\t.nb=1/\t.hd≠none)∨(w="if"/\t.nb=2/\t.hd=none)∨(w="while"/\t.nb=1/\t.hd=none))):Sk (bA B (bY r) [t]) (r++N):=by
 have hP:=s.pt h;have hl:=ik r;obtain⟨b',HB,hd⟩:=hP _ _ hl;rw[hb] at HB;cases HB;have old:∀{x:Nat} {c:Bk},B[x]?=some c->x≠bY r->(bA B (bY r) [t])[x]?=some c:=λ{x c} hc EW=>by rw[f6 hb (Qc hc).1,if_neg (Ne.symm EW)];exact hc
 have keep:∀(e p:Nat) (f:Fr),(bX r)[e]?=some p->r[e]?=some f->jp (bA B (bY r) [t]) p f:=λe p f hp hf=>by
  have g:=s.ok e p f hp hf;obtain⟨c,hc,Hz⟩:=hP e p hp;have he:=(Qc hf).1;have EW:p≠bY r:=λz=>by rw[z,hb] at hc;cases hc;omega
  obtain⟨c',init,g1,g2⟩:=g.row;rw[hc] at g1;cases g1;refine⟨⟨c,init,old hc EW,g2⟩,?_⟩;rcases g.way with w|⟨w1,⟨z,cz,w2,w3,w4⟩,w5⟩|w|w
  ·exact .inl w
  ·refine .inr (.inl ⟨w1,⟨z,cz,w2,old w3 λzz=>?_,w4⟩,w5⟩);have hq:(f.t,f.ks)∈c.rs:=by rw[g2];simp
   obtain⟨d,hdz,h2⟩:=((h.at hc).rw _ hq).ch z (by show z∈f.ks;rw[w2];simp);rw[zz,hb] at hdz;cases hdz;have hx:=ph hf;rw[<-Hz,<-h2,hd,hl] at hx;have hx:bY r=f.x:=by simpa using hx
   have Hn:=h.nd c (Qk hc);unfold kids at Hn;rw[g2,List.flatMap_append,List.flatMap_cons,List.flatMap_nil,Qy] at Hn;have:=(List.nodup_append.mp Hn).2.1;rw[show(f.t,f.ks).2=f.ks from rfl,w2,zz,hx] at this;simp at this
  ·exact .inr (.inr (.inl w))
  ·exact .inr (.inr (.inr w))
 have b0:∃b,(bA B (bY r) [t])[0]?=some b/\b.d=0:=by obtain⟨b0,h0,h1⟩:=s.b0;obtain⟨c,hc,e⟩:=sG (ts:=[t]) hb h0;exact⟨c,hc,by rw[e,h1]⟩
 refine⟨b0,λe p f hp hf=>?_⟩;by_cases he:e<r.length
 ·rw[Ql he] at hf;refine keep e p f ?_ hf;rw[<-hp];unfold bX;rw[QL,<-List.cons_append,Ql (by simp;omega)]
 ·rw[Qs (by omega)] at hf
  rcases hN with rfl|⟨w,rfl,h0,hw⟩
  ·simp at hf
  ·have hz:e-r.length=0:=by
    cases hz:e-r.length with
    |zero=>rfl
    |succ n=>rw[hz] at hf;simp at hf
   rw[hz] at hf;have hf:(⟨B.length,w,t,List.range' B.length t.nb⟩:Fr)=f:=by simpa using hf
   have he:e=r.length:=by omega
   subst he
   have hp:bY r=p:=by
    have e1:(bX (r++[⟨B.length,w,t,List.range' B.length t.nb⟩]))[r.length]?=(bX r)[r.length]?:=by unfold bX;rw[QL,<-List.cons_append,Ql (by simp)]
    rw[e1,hl] at hp;simpa using hp
   subst hp;subst hf;have hB':(bA B (bY r) [t])[bY r]?=some {b with rs:=b.rs++cI B.length [t]}:=by rw[f6 hb (Qc hb).1,if_pos rfl]
   obtain⟨_,_,g⟩:=nE (ts:=[t]) hb (.inl ⟨t,rfl⟩) (q:=(t,List.range' B.length t.nb)) (by unfold cI;simp);refine⟨⟨_,b.rs,hB',rfl⟩,?_⟩
   rcases hw with ⟨rfl,hn,hh⟩|⟨rfl,hn,hh⟩|⟨rfl,hn,hh⟩
   ·exact .inl ⟨rfl,by show List.range' B.length t.nb=[B.length];rw[hn];rfl,hh⟩
   ·rw[hn] at g;obtain⟨h2,c2,IJ,_⟩:=g (B.length+1) (by simp);refine .inr (.inl ⟨rfl,⟨B.length+1,c2,by show List.range' B.length t.nb=[B.length,B.length+1];rw[hn];rfl,IJ,?_⟩,hh⟩);rw[iX hb h2] at IJ;exact(g9 IJ).1
   ·exact .inr (.inr (.inl ⟨rfl,by show List.range' B.length t.nb=[B.length];rw[hn];rfl,hh⟩))
theorem ko{r N:List Fr}{e:Nat}(h:e<=r.length):(bX (r++N))[e]?=(bX r)[e]?:=by unfold bX;rw[QL,<-List.cons_append,Ql (by simp;omega)]
theorem Sk.pop{B:List Bk}{r:List Fr}{f:Fr}(s:Sk B (r++[f])):Sk B r:=⟨s.b0,λe p g hp hg=>by
 have he:=(Qc hg).1
 exact s.ok e p g (by rw[ko (by lia)];exact hp) (by rw[Ql he];exact hg)⟩
theorem Sk.els{B:List Bk}{r:List Fr}{f:Fr}{z:Nat}(s:Sk B (r++[f]))(hw:f.w="if")(hz:f.ks=[f.x,z]):Sk B (r++[⟨z,"else",f.t,f.ks⟩]):=⟨s.b0,λe p g hp hg=>by
 by_cases he:e<r.length
 ·rw[Ql he] at hg;exact s.ok e p g (by rw[ko (by lia)];rw[ko (by lia)] at hp;exact hp) (by rw[Ql he];exact hg)
 ·rw[Qs (by lia)] at hg
  have hq:e-r.length=0:=by
   cases hq:e-r.length with
   |zero=>rfl
   |succ n=>rw[hq] at hg;simp at hg
  rw[hq] at hg;have hg:(⟨z,"else",f.t,f.ks⟩:Fr)=g:=by simpa using hg
  have he:e=r.length:=by lia
  subst he;subst hg;have k:=s.ok r.length p f (by rw[ko (Qh _)];rw[ko (Qh _)] at hp;exact hp) (by rw[Qs (Qh _)];simp);refine⟨k.row,.inr (.inr (.inr ⟨rfl,⟨f.x,hz⟩,?_⟩))⟩
  rcases k.way with ⟨w,_,_⟩|⟨_,_,w⟩|⟨_,_,w⟩|⟨_,_,w⟩
  ·rw[hw] at w;exact absurd w (by decide +kernel)
  ·exact w
  ·exact w
  ·exact w⟩
theorem _root_.Mm.PI.up{B:List Bk}{k:Nat}(h:PI B k):PI B (k+1):=
 ⟨λb hb=>let g:=h.b b hb;⟨g.d,by have:=g.len;lia,g.pw,λq hq=>let r:=g.rw q hq;⟨r.asc,r.bare,Nat.lt_succ_of_lt r.row,r.nb,r.ch⟩⟩,h.nd,h.dj⟩
def NH(B:List Bk):Prop:=∀(i:Nat) (b:Bk),B[i]?=some b->1<=b.d->∀q∈b.rs,q.1.hd=none
theorem ma{t:Tr}(h:t.hd=none)(b:Bd):cA b t=b:=by cases t<;>first|rfl|cases h
theorem DZ{B:List Bk}{x:Nat}{b:Bk}{init:List (Tr×List Nat)}{q:Tr×List Nat}(hb:B[x]?=some b)(e:b.rs=init++[q]):fI B x=q.1:=by unfold fI;rw[dU hb,e,List.getLast?_concat]
noncomputable def il(r:List Fr):Bd:=match r with
 | []=>(-1,[])
 |f::_=>cA (-1,[]) f.t
theorem Sk.bd{B:List Bk}{r:List Fr}{k:Nat}(s:Sk B r)(h:PI B k)(n:NH B):endB B (bX r) (-1,[])=il r:=by
 cases r with
 |nil=>rfl
 |cons f r =>
  show endB B (f.x::r.map Fr.x) (cA (-1,[]) (fI B 0))=cA (-1,[]) f.t;obtain⟨b,init,h1,h2⟩:=(s.ok 0 0 f rfl rfl).row;rw[DZ h1 h2];refine sK _ _ λx hx bd=>?_;have hx':x∈(f::r).map Fr.x:=hx;obtain⟨e,he⟩:=List.mem_iff_getElem?.mp hx';obtain⟨c,hc,hd⟩:=s.pt h (e+1) x (by simpa [bX] using he);unfold fI;rw[dU hc]
  cases hz:c.rs.getLast? with
  |none=>rfl
  |some q=>exact ma (n x c hc (by lia) q (List.mem_of_getLast? hz)) bd
theorem NH.add{B:List Bk}{r:List Fr}{t:Tr}{b:Bk}(n:NH B)(hb:B[bY r]?=some b)(ht:t.hd≠none->b.d=0):NH (bA B (bY r) [t]):=λi c hc hd q hq=>by
 by_cases hi:i<B.length
 ·rw[f6 hb hi] at hc;split at hc
  ·cases hc;have hd:1<=b.d:=hd;rcases Qq hq with hq|hq
   ·exact n _ b hb hd q hq
   ·have:q.1=t:=by obtain⟨t',Ii,rfl⟩:=QI hq;exact Qp Ii
    rw[this]
    cases hz:t.hd with
    |none=>rfl
    |some y=>have:=ht (by rw[hz];simp);lia
  ·exact n i c hc hd q hq
 ·rw[iX hb (by lia)] at hc;rw[(g9 hc).1] at hq;simp at hq
theorem pB{t:Tr}{bs:List (List Tr)}(h:t.hd=none)(hb:∀x∈bs,noHB x)(hn:bs.length=t.nb)(hf:t.fill []=t):ji (t.fill bs):=by
 cases t with
 |iff r e x o=>obtain⟨p,q,rfl⟩:=nB hn;exact⟨hb p (by simp),hb q (by simp)⟩
 |whl r e x=>obtain⟨p,rfl⟩:=gZ hn;exact hb p (by simp)
 |df r n k ps x=>cases h
 |kd r n ps=>cases h
 |set r n e=>trivial
 |tell r e=>trivial
 |give r e=>trivial
theorem wC:∀{ts:List Tr},(∀t∈ts,ji t)->noHB ts
 | [],_=>trivial
 |t::ts,h=>⟨h t (.head _),wC λu hu=>h u (.tail _ hu)⟩
theorem wD{B:List Bk}{k:Nat}(h:PI B k)(n:NH B):∀(m i:Nat) (b:Bk),B[i]?=some b->1<=b.d->noHB (bj B m i)
 |0,i,b,hb,hd=>trivial
 |m+1,i,b,hb,hd=>by rw[bj,dU hb];refine wC λt ht=>?_;obtain⟨q,hq,rfl⟩:=QI ht;have hr:=(h.at hb).rw q hq;refine pB (n i b hb hd q hq) (λx hx=>?_) (by rw[Qf];exact hr.nb) hr.bare;obtain⟨j,hj,rfl⟩:=QI hx;obtain⟨c,hc,h2⟩:=hr.ch j hj;exact wD h n m j c hc (by lia)
theorem D0{B:List Bk}{k m:Nat}{b:Bk}(h:PI B k)(n:NH B)(hb:B[0]?=some b)(hd:b.d=0):(∀t∈bj B (m+1) 0,gf t)/\(bj B (m+1) 0).Pairwise λt u=>t.row<u.row:=by
 rw[bj,dU hb];refine⟨λt ht=>?_,?_⟩
 ·obtain⟨q,hq,rfl⟩:=QI ht;have hr:=(h.at hb).rw q hq;have sub:∀x∈q.2.map (bj B m),noHB x:=λx hx=>by obtain⟨j,hj,rfl⟩:=QI hx;obtain⟨c,hc,h2⟩:=hr.ch j hj;exact wD h n m j c hc (by lia)
  have hl:(q.2.map (bj B m)).length=q.1.nb:=by rw[Qf];exact hr.nb
  have Jk:=hr.bare;generalize q.2.map (bj B m)=bs at sub hl;generalize q.1=t at hl Jk
  cases t with
  |df r nn kk ps x=>obtain⟨p,rfl⟩:=gZ hl;exact sub p (by simp)
  |kd r nn ps=>trivial
  |iff r e x o=>exact pB (t:=.iff r e x o) rfl sub hl Jk
  |whl r e x=>exact pB (t:=.whl r e x) rfl sub hl Jk
  |set r nn e=>trivial
  |tell r e=>trivial
  |give r e=>trivial
 ·refine List.pairwise_map.mpr ((h.at hb).pw.imp λ{p q} g=>?_);rw[lw,lw];exact g
def jq(H:Hp)(M:List Addr)(u:Addr)(x:Tr×Bd):Prop:=∃a c p bs,H u=some (.tup [.ref a,.ref c])/\cy H a x.1 bs/\H c=some (.tup [.int x.2.1,.ref p])/\H p=some (.lst (x.2.2.map V.str))/\p∉M
theorem jq.kept{H G:Hp}{M M':List Addr}{u:Addr}{x:Tr×Bd}(h:jq H M u x)(t:cL H G)(l:∀p xs,H p=some (.lst xs)->p∉M->G p=some (.lst xs))(m:∀p xs,H p=some (.lst xs)->p∉M->p∉M'):jq G M' u x:=
 let ⟨a,c,p,bs,h1,h2,h3,h4,h5⟩:=h
 ⟨a,c,p,bs,t _ _ h1,h2.kept t,t _ _ h3,l _ _ h4 h5,m _ _ h4 h5⟩
structure LI(K:W.Frag)(H0 H:Hp)(d l st ra tp:Addr)(ws:List Str)(k:Nat)(as:List Addr)(B:List Bk)(r:List Fr)(qs us:List Addr)(rs:List (Tr×Bd)):Prop where
 bt:Bt d H0 H
 hl:H l=some (.lst (ws.map V.str))
 fa:FA H as B
 pi:PI B k
 nh:NH B
 sk:Sk B r
 tp0:as[0]?=some tp
 hst:H st=some (.lst (qs.map V.ref))
 ql:qs.length=r.length+1
 q0:∀q,qs[0]?=some q->∃x,H q=some (.tup [x,.non,.str "top"])/\x=.ref tp
 qf:∀(e:Nat) (q:Addr) (f:Fr),qs[e+1]?=some q->r[e]?=some f->∃a,H q=some (.tup [.ref (as.getD f.x 0),.ref a,.str f.w])/\cy H a f.t (f.ks.map λj=>as.getD j 0)
 hra:H ra=some (.lst (us.map V.ref))
 ul:us.length=rs.length
 hus:∀(j:Nat) (u:Addr) (x:Tr×Bd),us[j]?=some u->rs[j]?=some x->jq H (st::ra::as) u x
 seq:rs=cm B 4 (-1,[]) 0
 co:∀x∈rs,∀e,x.1.ex=some e->e.sz<=125
 ne:st≠ra/\st∉as/\ra∉as/\l≠st/\l≠ra/\l∉as
 new:H0 st=none/\H0 ra=none/\∀a∈as,H0 a=none
section
variable {H0 H G:Hp}{d l st ra tp:Addr}{ws:List Str}{k:Nat}{as:List Addr}{B:List Bk}{r r':List Fr}{qs qs' us:List Addr}{rs:List (Tr×Bd)}
theorem LI.move(h:LI K H0 H d l st ra tp ws k as B r qs us rs)(t:cL H G)(m:∀p xs,H p=some (.lst xs)->p≠st->G p=some (.lst xs))(b:Bt d H0 G)(sk:Sk B r')(hst:G st=some (.lst (qs'.map V.ref)))(ql:qs'.length=r'.length+1)
  (q0:∀q,qs'[0]?=some q->∃x,G q=some (.tup [x,.non,.str "top"])/\x=.ref tp) (qf:∀(e:Nat) (q:Addr) (f:Fr),qs'[e+1]?=some q->r'[e]?=some f->∃a,G q=some (.tup [.ref (as.getD f.x 0),.ref a,.str f.w])/\cy G a f.t (f.ks.map λj=>as.getD j 0)):LI K H0 G d l st ra tp ws k as B r' qs' us rs:=
 ⟨b,m _ _ h.hl h.ne.2.2.2.1,h.fa.kept t λa ha=>by
  obtain⟨i,hi⟩:=List.mem_iff_getElem?.mp ha;have EX:i<B.length:=by rw[<-h.fa.len];exact(Qc hi).1
  obtain⟨vs,e,_⟩:=h.fa.bl i a B[i] hi (Qa EX)
  rw[e,m _ _ e λz=>h.ne.2.1 (by rw[<-z];exact ha)],h.pi,h.nh,sk,h.tp0,hst,ql,q0,qf,m _ _ h.hra (Ne.symm h.ne.1),h.ul,λj u x hu hx=>(h.hus j u x hu hx).kept t (λp xs e n=>m p xs e λz=>n (by rw[z];exact .head _)) λp xs _ n=>n,h.seq,h.co,h.ne,h.new⟩
theorem LI.keep(h:LI K H0 H d l st ra tp ws k as B r qs us rs)(hD:bM K H0 d)(s:Bt d H G):LI K H0 G d l st ra tp ws k as B r qs us rs:=by
 have Fk:=hD.bt h.bt;have t:=s.tups Fk;refine h.move t (λp xs e _=>s.lst Fk e) (h.bt.trans s) h.sk (s.lst Fk h.hst) h.ql (λq hq=>?_) λe q f hq hf=>?_
 ·obtain⟨x,h1,h2⟩:=h.q0 q hq;exact⟨x,t _ _ h1,h2⟩
 ·obtain⟨a,h1,h2⟩:=h.qf e q f hq hf;exact⟨a,t _ _ h1,h2.kept t⟩
theorem LI.up(h:LI K H0 H d l st ra tp ws k as B r qs us rs):LI K H0 H d l st ra tp ws (k+1) as B r qs us rs:={h with pi:=h.pi.up}
theorem wE{bs:List Addr}{j:Nat}(h:j<as.length):(as++bs).getD j 0=as.getD j 0:=by rw[Qg,Qg,Ql h]
theorem pE:∀(bs as:List Addr),((List.range' as.length bs.length).map λj=>(as++bs).getD j 0)=bs
 | [],as=>rfl
 |b::bs,as=>by
  rw[QM,List.range'_succ,List.map_cons];have h1:(as++b::bs).getD as.length 0=b:=by rw[Qg,Qs (Qh _)];simp
  have h2:=pE bs (as++[b]);rw[Qr,List.length_singleton] at h2;rw[h1];congr 1;have e:as++b::bs=(as++[b])++bs:=by simp
  rw[e];exact h2
theorem D3{α β:Type}{us:List α}{rs:List β}{u:α}{x:β}{R:α->β->Prop}(hl:us.length=rs.length)(h:∀(j:Nat) (a:α) (b:β),us[j]?=some a->rs[j]?=some b->R a b)(g:R u x):∀(j:Nat) (a:α) (b:β),(us++[u])[j]?=some a->(rs++[x])[j]?=some b->R a b:=λj a b ha hb=>by
 by_cases hj:j<us.length
 ·rw[Ql hj] at ha;rw[Ql (by lia)] at hb;exact h j a b ha hb
 ·rw[Qs (by lia)] at ha;rw[Qs (by lia),<-hl] at hb
  cases hz:j-us.length with
  |zero =>
   rw[hz] at ha hb;have ha:u=a:=by simpa using ha
   have hb:x=b:=by simpa using hb
   rw[<-ha,<-hb];exact g
  |succ n=>rw[hz] at ha;simp at ha
theorem LI.add{H3:Hp}{t:Tr}{bs vs:List Addr}{a u ai:Addr}(h:LI K H0 H d l st ra tp ws k as B r qs us rs)(hD:bM K H0 d)(s:Bt d H H3)(hr:cy H3 a t bs)(hl:bs.length=t.nb)(Hn:bs.Nodup)(IX:∀x∈bs,H x=none/\H3 x=some (.lst []))
  (hu:jq H3 (st::ra::(as++bs)) u (t,il r)) (c:RowC t k qs.length) (hi:as[bY r]?=some ai) (ha:H ai=some (.lst (vs.map V.ref))) (h3:r.length<=3) :
  LI K H0 (upd (upd H3 ra (.lst ((us++[u]).map V.ref))) ai (.lst ((vs++[a]).map V.ref))) d l st ra tp ws (k+1) (as++bs) (bA B (bY r) [t]) r qs (us++[u]) (rs++[(t,il r)]):=by
 have Fk:=hD.bt h.bt;obtain⟨b,hb,hd⟩:=h.sk.pt h.pi _ _ (ik r);have Gz:ai∈as:=Qk hi
 have hasl:∀x∈as,∃ys,H x=some (.lst ys):=λx hx=>by
  obtain⟨i,hx⟩:=List.mem_iff_getElem?.mp hx;have EX:i<B.length:=by rw[<-h.fa.len];exact(Qc hx).1
  obtain⟨ys,e,_⟩:=h.fa.bl i x B[i] hx (Qa EX);exact⟨_,e⟩
 have nb:∀{x y:Addr} {o:HO},H x=some o->y∈bs->x≠y:=λ{x y o} e hy z=>by rw[z,(IX y hy).1] at e;cases e
 have hra3:=s.lst Fk h.hra;have hai3:=s.lst Fk ha;have hair:ai≠ra:=λz=>h.ne.2.2.1 (by rw[<-z];exact Gz);have t34:cL H3 (upd H3 ra (.lst ((us++[u]).map V.ref))):=λx xs e=>by rw[aE λz=>by rw[z,hra3] at e;cases e];exact e
 have t4:cL (upd H3 ra (.lst ((us++[u]).map V.ref))) (upd (upd H3 ra (.lst ((us++[u]).map V.ref))) ai (.lst ((vs++[a]).map V.ref))):=λx xs e=>by
  rw[aE λz=>by rw[z,aE hair,hai3] at e;cases e];exact e
 have t3G:cL H3 (upd (upd H3 ra (.lst ((us++[u]).map V.ref))) ai (.lst ((vs++[a]).map V.ref))):=λx xs e=>t4 _ _ (t34 _ _ e);have tHG:cL H (upd (upd H3 ra (.lst ((us++[u]).map V.ref))) ai (.lst ((vs++[a]).map V.ref))):=λx xs e=>t3G _ _ (s.tups Fk _ _ e);have l3G:∀{p:Addr} {xs:List V},H3 p=some (.lst xs)->p≠ra->p≠ai->upd (upd H3 ra (.lst ((us++[u]).map V.ref))) ai (.lst ((vs++[a]).map V.ref)) p=some (.lst xs):=λ{p xs} e n1 n2=>by rw[aE n2,aE n1];exact e
 have E7:(fZ (b.d+1) [t]).length=t.nb:=by unfold fZ;simp
 have hpi:PI (bA B (bY r) [t]) (k+1):=h.pi.add hb (.inl ⟨t,rfl⟩) (by simp) (λhsl83=>by obtain⟨t',h1,h2⟩:=hsl83;rw[Qp h1] at h2;have:=c.nb h2;have:=h.ql;lia) (List.pairwise_singleton _ _) λt' h1=>by rw[Qp h1];exact⟨c.asc,c.bare,c.row⟩
 have FP:∀{x:Nat} {c:Bk},B[x]?=some c->x<as.length:=λe=>by rw[h.fa.len];exact(Qc e).1
 refine⟨((h.bt.trans s).new hD h.new.2.1).new hD (h.new.2.2 ai Gz),l3G (s.lst Fk h.hl) h.ne.2.2.2.2.1 λz=>h.ne.2.2.2.2.2 (by rw[z];exact Gz),?_,hpi,h.nh.add (r:=r) hb λz=>by have:=c.hd z;have:=h.ql;lia,?_,?_,l3G (s.lst Fk h.hst) h.ne.1 λz=>h.ne.2.1 (by rw[z];exact Gz),h.ql,λq hq=>?_,λe q f hq hf=>?_,by rw[aE (Ne.symm hair),ah],by simp[h.ul],?_,?_,λx hx=>?_,?_,?_⟩
 ·refine h.fa.add h.pi hi hb ha (λx xs e=>t34 _ _ (s.tups Fk _ _ e)) (λx hx=>?_) ?_ (λx hx=>⟨λz=>?_,?_⟩) Hn (by rw[hl,E7])
  ·obtain⟨ys,e⟩:=hasl x hx;rw[aE λz=>h.ne.2.2.1 (by rw[<-z];exact hx),s.lst Fk e,e]
  ·refine⟨rfl,λj v q hv hq=>?_⟩
   have hj:j=0:=by
    cases j with
    |zero=>rfl
    |succ n=>simp at hv
   subst hj;have hv:a=v:=by simpa using hv
   have hq:(t,List.range' B.length t.nb)=q:=by simpa [cI] using hq
   rw[<-hv,<-hq];show cy _ a t ((List.range' B.length t.nb).map _);rw[<-hl,<-h.fa.len,pE];exact hr.kept t34
  ·obtain⟨ys,e⟩:=hasl x z;exact nb e hx rfl
  ·rw[aE λz=>nb h.hra hx z.symm];exact(IX x hx).2
 ·have:=h.sk.step (N:=[]) (t:=t) h.pi hb (.inl rfl);rwa [Qy] at this
 ·rw[Ql (by have:=h.tp0;exact(Qc this).1)];exact h.tp0
 ·obtain⟨x,h1,h2⟩:=h.q0 q hq;exact⟨x,tHG _ _ h1,h2⟩
 ·obtain⟨x,h1,h2⟩:=h.qf e q f hq hf;obtain⟨p,hp⟩:=pz hf;obtain⟨cp,hcp,_⟩:=h.sk.pt h.pi e p hp;obtain⟨cx,hcx,_⟩:=h.sk.pt h.pi (e+1) f.x (ph hf);have g:=h.sk.ok e p f hp hf;obtain⟨c',init,g1,g2⟩:=g.row;rw[hcp] at g1;cases g1;refine⟨x,by rw[wE (FP hcx)];exact tHG _ _ h1,?_⟩
  have e2:(f.ks.map λj=>(as++bs).getD j 0)=f.ks.map λj=>as.getD j 0:=QZ λj hj=>by
   obtain⟨cj,hcj,_⟩:=((h.pi.at hcp).rw (f.t,f.ks) (by rw[g2];simp)).ch j hj;exact wE (FP hcj)
  rw[e2];exact h2.kept tHG
 ·refine D3 h.ul (λj v x hv hx=>?_) ?_
  ·refine(h.hus j v x hv hx).kept tHG (λp xs e n=>l3G (s.lst Fk e) (λz=>n (by rw[z];simp)) λz=>n (by rw[z];simp[Gz])) λp xs e n z=>?_
   have hp:p∈bs:=by
    rcases Qn z with z|z
    ·exact absurd (by rw[z];simp) n
    rcases Qn z with z|z
    ·exact absurd (by rw[z];simp) n
    rcases Qq z with z|z
    ·exact absurd (by simp[z]) n
    ·exact z
   exact nb e hp rfl
  ·exact hu.kept t3G (λp xs e n=>l3G e (λz=>n (by rw[z];simp)) λz=>n (by rw[z];simp[Gz])) λp xs _ n=>n
 ·have e:=sJ h.pi hb (h.sk.pt h.pi) (h.sk.chn h.pi) (t:=t) (by rw[hd];exact ik r) (by rw[pA,hd]) hpi (bX r) 0 rfl (by simp[bX]) 4 (-1,[]) (by rw[pA];lia);have e:cm (bA B (bY r) [t]) 4 (-1,[]) 0=cm B 4 (-1,[]) 0++[(t,endB B (bX r) (-1,[]))]:=e;rw[e,h.sk.bd h.pi h.nh,h.seq]
 ·rcases Qq hx with hx|hx
  ·exact h.co x hx
  ·rw[Qp hx];exact c.co
 ·refine⟨h.ne.1,λz=>?_,λz=>?_,h.ne.2.2.2.1,h.ne.2.2.2.2.1,λz=>?_⟩
  ·rcases Qq z with z|z
   ·exact h.ne.2.1 z
   ·exact nb h.hst z rfl
  ·rcases Qq z with z|z
   ·exact h.ne.2.2.1 z
   ·exact nb h.hra z rfl
  ·rcases Qq z with z|z
   ·exact h.ne.2.2.2.2.2 z
   ·exact nb h.hl z rfl
 ·refine⟨h.new.1,h.new.2.1,λx hx=>?_⟩;rcases Qq hx with hx|hx
  ·exact h.new.2.2 x hx
  ·exact h.bt.free hD (IX x hx).1
theorem LI.push{f:Fr}{q a:Addr}(h:LI K H0 H d l st ra tp ws k as B r qs us rs)(hD:bM K H0 d)(hq:H q=none)(sk:Sk B (r++[f]))(hw:cy H a f.t (f.ks.map λj=>as.getD j 0)):LI K H0 (upd (upd H q (.tup [.ref (as.getD f.x 0),.ref a,.str f.w])) st (.lst ((qs++[q]).map V.ref))) d l st ra tp ws k as B (r++[f]) (qs++[q]) us rs:=by
 have s1:=aj (o:=.tup [.ref (as.getD f.x 0),.ref a,.str f.w]) hq;have hst1:=s1 _ _ h.hst
 have t:cL (upd H q (.tup [.ref (as.getD f.x 0),.ref a,.str f.w])) (upd (upd H q (.tup [.ref (as.getD f.x 0),.ref a,.str f.w])) st (.lst ((qs++[q]).map V.ref))):=λx xs e=>by
  rw[aE λz=>by rw[z,hst1] at e;cases e];exact e
 have tH:cL H (upd (upd H q (.tup [.ref (as.getD f.x 0),.ref a,.str f.w])) st (.lst ((qs++[q]).map V.ref))):=λx xs e=>t _ _ (s1.tups _ _ e);refine h.move tH (λp xs e n=>by rw[aE n];exact s1 _ _ e) ((h.bt.same s1).new hD h.new.1) sk ah (by simp[h.ql]) (λx hx=>?_) λe x g hx hg=>?_
 ·have hl:0<qs.length:=by have:=h.ql;lia
  rw[Ql hl] at hx;obtain⟨y,h1,h2⟩:=h.q0 x hx;exact⟨y,tH _ _ h1,h2⟩
 ·by_cases he:e<r.length
  ·rw[Ql (by have:=h.ql;lia)] at hx;rw[Ql he] at hg;obtain⟨y,h1,h2⟩:=h.qf e x g hx hg;exact⟨y,tH _ _ h1,h2.kept tH⟩
  ·rw[Qs (by have:=h.ql;lia)] at hx;rw[Qs (by lia)] at hg
   have hz:e-r.length=0:=by
    cases hz:e-r.length with
    |zero=>rfl
    |succ n=>rw[hz] at hg;simp at hg
   rw[hz] at hg;rw[h.ql,show e+1-(r.length+1)=0 by lia] at hx;have hg:f=g:=by simpa using hg
   have hx:q=x:=by simpa using hx
   rw[<-hg,<-hx];exact⟨a,t _ _ ah,hw.kept tH⟩
theorem LI.pop{f:Fr}{q:Addr}(h:LI K H0 H d l st ra tp ws k as B (r++[f]) (qs++[q]) us rs)(hD:bM K H0 d):LI K H0 (upd H st (.lst (qs.map V.ref))) d l st ra tp ws k as B r qs us rs:=by
 have t:cL H (upd H st (.lst (qs.map V.ref))):=λx xs e=>by
  rw[aE λz=>by rw[z,h.hst] at e;cases e];exact e
 have hql:qs.length=r.length+1:=by have:=h.ql;simpa using this
 refine h.move t (λp xs e n=>by rw[aE n];exact e) (h.bt.new hD h.new.1) h.sk.pop ah hql (λx hx=>?_) λe x g hx hg=>?_
 ·obtain⟨y,h1,h2⟩:=h.q0 x (by rw[Ql (by lia)];exact hx);exact⟨y,t _ _ h1,h2⟩
 ·have he:=(Qc hg).1;obtain⟨y,h1,h2⟩:=h.qf e x g (by rw[Ql (by lia)];exact hx) (by rw[Ql he];exact hg);exact⟨y,t _ _ h1,h2.kept t⟩
end
def gF(H:Hp)(ra:Addr)(rs:List (Tr×Bd)):Prop:=∃us:List Addr,H ra=some (.lst (us.map V.ref))/\us.length=rs.length/\∀(j:Nat) (u:Addr) (x:Tr×Bd),us[j]?=some u->rs[j]?=some x->jq H [] u x
theorem gF.same{H H':Hp}{ra:Addr}{rs:List (Tr×Bd)}(h:gF H ra rs)(s:Same H H'):gF H' ra rs:=
 let ⟨us,h1,h2,h3⟩:=h
 ⟨us,s _ _ h1,h2,λj u x hu hx=>(h3 j u x hu hx).kept s.tups (λp xs e _=>s _ _ e) λp xs _ n=>n⟩
structure pF(H:Hp)(tp ra:Addr)(ts:List Tr)(rs:List (Tr×Bd)):Prop where
 tree:∃xs,H tp=some (.lst xs)/\LAt H false xs ts
 ok:o4 ts
 rows:gF H ra rs
 seq:rs=seqB (-1,[]) ts
 top:∀t∈ts,gf t
 asc:ts.Pairwise λt u=>t.row<u.row
 len:rs.length<=22
 co:∀x∈rs,∀e,x.1.ex=some e->e.sz<=125
theorem LI.law{H0 H G:Hp}{d l st ra tp:Addr}{ws:List Str}{as:List Addr}{B:List Bk}{r:List Fr}{qs us:List Addr}{rs:List (Tr×Bd)}(h:LI K H0 H d l st ra tp ws 22 as B r qs us rs)(hu:us.length<=22)(s:Same H G):pF G tp ra (bj B 4 0) rs:=by
 obtain⟨b,hb,hd⟩:=h.sk.b0;obtain⟨vs,h1,h2⟩:=h.fa.lat h.pi 4 0 tp b h.tp0 hb (by lia);have hl:rs.length<=22:=by rw[<-h.ul];exact hu
 have hq:rs=seqB (-1,[]) (bj B 4 0):=h.seq;have hc:=cnt_seq (-1,[]) (bj B 4 0);rw[<-hq] at hc;have ht:=D0 (m:=3) h.pi h.nh hb hd;refine⟨⟨_,s _ _ h1,h2.kept s.ls⟩,⟨by have:=sF B 4 0;lia,h.pi.len (by lia) 4 0,h.pi.ascs (by lia) 4 0,by lia⟩,⟨us,s _ _ h.hra,h.ul,λj u x hu hx=>(h.hus j u x hu hx).kept s.tups (λp xs e _=>s _ _ e) λp xs _ _=>by simp⟩,h.seq,ht.1,ht.2,hl,h.co⟩
theorem LI.upto{H0 H:Hp}{d l st ra tp:Addr}{ws:List Str}{k:Nat}{as:List Addr}{B:List Bk}{r:List Fr}{qs us:List Addr}{rs:List (Tr×Bd)}(h:LI K H0 H d l st ra tp ws k as B r qs us rs):∀n,LI K H0 H d l st ra tp ws (k+n) as B r qs us rs
 |0=>h
 |n+1=>(h.upto n).up
def D4(H:Hp)(as:List Addr)(B:List Bk)(r:List Fr)(a:Addr)(t:Tr):Prop:=(∃bs,cy H a t bs)/\(t.nb=0∨∃f:Fr,f.t=t/\Sk B (r++[f])/\cy H a t (f.ks.map λj=>as.getD j 0)/\r.length<=2/\(∃ys,f.ks=f.x::ys)/\f.w=t.kw)
theorem jr{H:Hp}{a:Addr}{t:Tr}{bs:List Addr}(h:cy H a t bs):∃vs,H a=some (.tup (vs++bs.map V.ref))/\PsAt H false vs t.pre:=by obtain⟨vs,h1,h2⟩:=h;exact⟨vs,h1,h2 H (λ_ _ e=>e)⟩
theorem D5(t:Tr):∃ps,t.pre=.s t.kw::.i t.row::ps:=by cases t<;>exact⟨_,rfl⟩
theorem md{H:Hp}{a:Addr}{r:Nat}{n k:Str}{ps:List (Str×Str)}{b:List Tr}{bs:List Addr}(h:cy H a (.df r n k ps b) bs):∃(pt:Addr) (us:List Addr),H a=some (.tup (V.str "def"::.int ((r:Nat):Int)::.str n::.str k::.ref pt::bs.map V.ref))/\H pt=some (.tup (us.map V.ref))/\eT H us ps:=by obtain⟨vs,h1,h2⟩:=jr h;obtain⟨q,e1,h2⟩:=dI h2;obtain⟨x,q1,e2,f1,h2⟩:=cB h2;obtain⟨y,q2,e3,f2,h2⟩:=cB h2;obtain⟨z,q3,e4,f3,h2⟩:=cB h2;obtain⟨t,us,e5,g1,g2⟩:=lU f3;exact⟨t,us,by rw[h1,e1,e2,e3,e4,ff f1,ff f2,e5,hZ h2];rfl,g1,g2⟩
theorem jt{H:Hp}{a:Addr}{t:Tr}{bs:List Addr}(h:cy H a t bs):∃ET,H a=some (.tup (V.str t.kw::.int ((t.row:Nat):Int)::ET)):=by obtain⟨vs,h1,h2⟩:=jr h;obtain⟨ps,e⟩:=D5 t;rw[e] at h2;obtain⟨q,e1,_⟩:=dI h2;exact⟨_,by rw[h1,e1];rfl⟩
theorem wF{H:Hp}{a b:Addr}{t:Tr}{bs:List Addr}(h:cy H a t (b::bs))(hh:t.hd=none)(hn:t.nb≠0):∃x y z,H a=some (.tup (x::y::z::.ref b::bs.map V.ref)):=by
 obtain⟨vs,h1,h2⟩:=h;have h2:=h2 H (λ_ _ e=>e);have hl:=h2.length;have hl:vs.length=3:=by cases t<;>first|exact hl|exact absurd rfl hn|cases hh
 match vs,hl,h1 with
 | [x,y,z],_,h1=>exact⟨x,y,z,h1⟩
theorem LI.last{H0 H:Hp}{d l st ra tp:Addr}{ws:List Str}{k:Nat}{as:List Addr}{B:List Bk}{r:List Fr}{qs us:List Addr}{rs:List (Tr×Bd)}(h:LI K H0 H d l st ra tp ws k as B r qs us rs):∃(IK:List Addr) (q ai:Addr) (y:V) (wd:Str) (vs:List Addr),qs=IK++[q]/\IK.length=r.length/\H q=some (.tup [.ref ai,y,.str wd])/\as[bY r]?=some ai/\H ai=some (.lst (vs.map V.ref))/\((r=[]/\wd="top")∨∃r0 f,r=r0++[f]/\wd=f.w):=by
 have EW:qs≠[]:=λz=>by have:=h.ql;rw[z] at this;simp at this
 have e:=(List.dropLast_concat_getLast EW).symm;have hl0:qs.dropLast.length=r.length:=by rw[List.length_dropLast,h.ql];lia
 have hq:qs[r.length]?=some (qs.getLast EW):=by
  rw[List.getLast_eq_getElem,Qa (by rw[h.ql];lia)];congr 2;rw[h.ql];lia
 obtain⟨b,hb,_⟩:=h.sk.pt h.pi _ _ (ik r);have EX:bY r<as.length:=by rw[h.fa.len];exact(Qc hb).1
 have Gz:as[bY r]?=some as[bY r]:=Qa EX;obtain⟨vs,hv,_⟩:=h.fa.bl _ _ b Gz hb
 rcases List.eq_nil_or_concat r with hr|⟨r0,f,hr⟩
 ·obtain⟨x,h1,h2⟩:=h.q0 _ (by rw[hr] at hq;exact hq)
  have e0:tp=as[bY r]:=by
   have:=h.tp0;have hz:bY r=0:=by rw[hr];rfl
   have:as[bY r]?=some tp:=by rw[hz];exact this
   rw[Gz] at this;exact(Qo this).symm
  rw[h2,e0] at h1;exact⟨_,_,_,_,_,vs,e,hl0,h1,Gz,hv,.inl ⟨hr,rfl⟩⟩
 ·have hr:r=r0++[f]:=by simpa using hr
  have hrl:r.length=r0.length+1:=by rw[hr];simp
  have hf:r[r0.length]?=some f:=by rw[hr];simp
  obtain⟨a,h1,_⟩:=h.qf r0.length _ f (by rw[<-hrl];exact hq) hf;have hx:bY r=f.x:=by have h1:=ik r;rw[hrl,ph hf] at h1;exact(Qo h1).symm
  have eg:as.getD f.x 0=as[bY r]:=by rw[<-hx,Qg,Gz];rfl
  rw[eg] at h1;exact⟨_,_,_,_,_,vs,e,hl0,h1,Gz,hv,.inr ⟨r0,f,hr,rfl⟩⟩
noncomputable def pG(r:List Fr):Bool:=match r with
 | []=>false
 |f::_=>decide (f.w="def")
theorem D6:PI [⟨0,[]⟩] 0:=by
 refine⟨λb hb=>?_,λb hb=>?_,λi j a b ha hb EW c hc=>?_⟩
 ·rw[Qp hb];exact⟨by simp,by simp,.nil,λq hq=>by simp at hq⟩
 ·rw[Qp hb];exact .nil
 ·have:a.rs=[]:=by rw[Qp (Qk ha)]
  unfold kids at hc;rw[this] at hc;simp at hc
inductive wG (K:W.Frag) (vs:List V) (H:Hp) (Q:VK) (E:XK):Prop
 |mk:∀d:Addr,vs=[.ref d]->bM K H d->(∀(q tp ra:Addr) (ts:List Tr) (rs:List (Tr×Bd)) H',Bt d H H'->H' q=some (.tup [.ref tp,.ref ra])->pF H' tp ra ts rs->Q (.ref q) H')->wG K vs H Q E
theorem D7{c1 c2:TT}{t1 t2 u:TS}{D:cK}{σ:L2.St}{H:Hp}(h:u D σ H->gI c1 t1 (gI c2 t2 u) D σ H)(k:u D σ H):gI c1 t1 (gI c2 t2 u) D σ H:=h k
noncomputable abbrev wH:List Str:=["_law_draws_here","_law_names_here","_law_top","_law_stack","_law_rows_here","_law_at","_law_form","_law_row_here","_law_body","_law_block","_law_opener","_law_word"]
theorem wI:be wH ["_law_draws_here"] (aM lS):=⟨rfl,rfl,rfl,by decide +kernel,rfl,by decide +kernel,by decide +kernel⟩
theorem D8(T:All P w K mg AA DD):aI P w K mg base aK 11 AA.ZI DD.ZI ["_law_draws_here"] (wG K):=by
 have GN:=jm (base:=base) T;have GNA:=DT (base:=base) T;have GRW:=DY (base:=base) T;refine T.z_ZI.F.ok wI (λvs H Q E h=>by cases h;subst_vars;rfl) λE2 A outer s H vs Q E hr h=>?_;obtain⟨d,rfl,hD,kq⟩:=h;have nd:=wI.nd;have hr10:aB 10 _:=hr;have E3:aB 2 _:=hr10.mono (by lia);have FD:aB 3 _:=hr10.mono (by lia);refine⟨_,(ar (aU (i:=1) nd rfl (Or.inl rfl) (aG GNA FD rfl T.z_ZB (ae (pv 0) ag))) (ar (aU (i:=2) nd rfl (Or.inl rfl) (bJ ag)) (ar (aU (i:=3) nd rfl (Or.inl rfl) (bJ (ae (aX (ae (pv 2) (ae kD (ae al ag)))) ag))) (ar (aU (i:=4) nd rfl (Or.inl rfl) (bJ ag)) (ar (db PassesOwn.never rfl (gK rfl T.n_range (ae (aD bw (aG GN E3 rfl T.z_ZG (ae (pv 0) ag)) ap) ag)) (ba (i:=5) nd rfl (Or.inl rfl)) (ar (aU (i:=6) nd rfl (Or.inl rfl) (aD bw (aG GN E3 rfl T.z_ZG (ae (pv 0) ag)) ap)) (ar (aU (i:=7) nd rfl (Or.inl rfl) (aG GRW hr10 rfl T.z_ZM (ae (pv 0) (ae (pv 6) (ae (pv 5) (ae (pv 1) (ae (pv 3) ag))))))) (ar (aS (iq (mn (pv 7))) (ar (aU (i:=8) nd rfl (Or.inl rfl) (aX (ae (my mB ap) (ae (bJ ag) ag)))) (ar (aS (PW.pt (cY (aH jD (ci d5 rfl T.n_len di (ae (pv 3) ag)) ap (aL _)) (dO (aH aV (au (lv (pv 3))) al (aL _))))) (am (aU (i:=8) nd rfl (Or.inl rfl) (aX (ae (au (au (lv (pv 3)))) (ae (fX (aM lS) wH [] [] rfl (by exact⟨rfl,rfl,by decide +kernel,rfl,by decide +kernel,by decide +kernel,by decide +kernel,rfl,by decide +kernel⟩) rfl rfl (gx (au (au (lv (pv 3))))) (λ_ _ _ _=>eE) (λ_ _ _ _=>(au (pv 0)))) ag))))) a9) (ar (bV (fG (pv 4) (ae (aX (ae (pv 7) (ae (pv 8) ag))) ag)) (by rfl)) (am (bV (fG (au (ck cW (pv 3) (my mB ap) (λ_ _=>rfl))) (ae (pv 7) ag)) (by rfl)))))) a9) (am (aS (PW.pt (cY (iq (mn (pv 7))) (dO (aH aV (au (pv 7)) al (aL _))))) (am (bV (fG (pv 3) (ae (aX (ae (au (pv 7)) (ae (pv 7) (ae al ag)))) ag)) (by rfl))) (am (aS (PW.pt (cY (iq (mn (pv 7))) (dO (PW.pt (gH (aH aV (au (pv 7)) al (aL _)) (iu (aH aV (au (pv 7)) al (aL _)))))))) (am (bV (fG (pv 3) (ae (aX (ae (au (pv 7)) (ae (pv 7) (ae (au (pv 7)) ag)))) ag)) (by rfl))) (am (aS (PW.pt (cY (aH aV (pv 6) ap (aL _)) (dO (aH aV (au (ck cW (pv 3) (my mB ap) (λ_ _=>rfl))) al (aL _))))) (ar (mr (sC (pv 3)) (dF rfl (bv (ba (i:=9) nd rfl (Or.inl rfl)) (bv (ba (i:=10) nd rfl (Or.inl rfl)) (bv (ba (i:=11) nd rfl (Or.inl rfl)) dz))))) (am (bV (fG (pv 3) (ae (aX (ae (au (pv 10)) (ae (pv 10) (ae al ag)))) ag)) (by rfl)))) (am (aS (PW.pt (cY (aH jD (pv 6) ap (aL _)) (dO (aH jD (ci d5 rfl T.n_len di (ae (pv 3) ag)) ap (aL _))))) (am (bV (sC (pv 3)) (by rfl))) a9))))))))))) (by intro _;rfl)) (am (aP (aX (ae (pv 2) (ae (pv 4) ag)))))))))),?_⟩;dsimp only[cZ];refine⟨_,rfl,d,rfl,hD,λl ws H1 hl0 b1 Fk Fe hw=>?_⟩;dsimp only[aR];refine⟨cP,λtp IM=>?_⟩;have s2:=aj (o:=.lst ([]:List V)) IM;dsimp only[aR];refine⟨_,rfl,cQ,λq0 IC=>?_⟩;have s3:=aj (o:=.tup [.ref tp,.non,.str "top"]) IC;refine⟨eM,λst hst=>?_⟩;have s4:=aj (o:=.lst [V.ref q0]) hst;dsimp only[aR];refine⟨cP,λra hra=>?_⟩;have s5:=aj (o:=.lst ([]:List V)) hra;dsimp only[aR];have s25:=((s2.trans s3).trans s4).trans s5;have b5:Bt d H _:=b1.same s25
 have I0:LI K H (upd (upd (upd (upd H1 tp (.lst [])) q0 (.tup [.ref tp,.non,.str "top"])) st (.lst [V.ref q0])) ra (.lst [])) d l st ra tp ws 0 [tp] [⟨0,[]⟩] [] [q0] [] []:=by
  have hltp:l≠tp:=λz=>by rw[z,IM] at Fe;cases Fe
  have hstp:st≠tp:=λz=>by rw[z,s3 _ _ ah] at hst;cases hst
  have hrtp:ra≠tp:=λz=>by rw[z,(s3.trans s4) _ _ ah] at hra;cases hra
  have hstr:st≠ra:=λz=>by rw[<-z,ah] at hra;cases hra
  refine⟨b5,s25 _ _ Fe,⟨rfl,by simp,λi a b ha hb=>?_⟩,D6,λi b hb hd q hq=>?_,⟨⟨_,rfl,rfl⟩,λe p f _ hf=>by simp at hf⟩,rfl,s5 _ _ ah,rfl,λq hq=>⟨.ref tp,?_,rfl⟩,λe q f _ hf=>by simp at hf,ah,rfl,λj u x hu=>by simp at hu,rfl,λx hx=>by simp at hx,⟨hstr,by simp[hstp],by simp[hrtp],λz=>?_,λz=>?_,by simp[hltp]⟩,⟨?_,?_,λa ha=>?_⟩⟩
  ·have hi:i=0:=by
    cases i with
    |zero=>rfl
    |succ n=>simp at ha
   subst hi;have ha:tp=a:=by simpa using ha
   have hb:(⟨0,[]⟩:Bk)=b:=by simpa using hb
   rw[<-ha,<-hb];exact⟨[],((s3.trans s4).trans s5) _ _ ah,rfl,λk u q hu=>by simp at hu⟩
  ·have:b.rs=[]:=by rw[Qp (Qk hb)]
   rw[this] at hq;simp at hq
  ·have hq:q0=q:=by simpa using hq
   rw[<-hq];exact(s4.trans s5) _ _ ah
  ·rw[<-z,(s2.trans s3) _ _ Fe] at hst;cases hst
  ·rw[<-z,((s2.trans s3).trans s4) _ _ Fe] at hra;cases hra
  ·exact(b1.same (s2.trans s3)).free hD hst
  ·exact(b1.same ((s2.trans s3).trans s4)).free hD hra
  ·rw[Qp ha];exact b1.free hD IM
 generalize upd (upd (upd (upd H1 tp (.lst [])) q0 (.tup [.ref tp,.non,.str "top"])) st (.lst [V.ref q0])) ra (.lst [])=H5 at I0 b5 s25 ⊢;clear s2 s3 s4 s5;refine eZ (λσ' H'=>∃as B r qs us rs x5 x6 x7 x8 x9 x10 x11,LI K H H' d l st ra tp ws 22 as B r qs us rs/\us.length<=22/\σ'=[some (.ref d),some (.ref l),some (.ref tp),some (.ref st),some (.ref ra),x5,x6,x7,x8,x9,x10,x11]) (λR hR=>?_) ?_
 ·have Gr:=hD.bt b5;refine⟨_,rfl,Gr.next λr1 H6 h6 b6 hD6=>?_⟩;obtain⟨c,ec,hc⟩:=gE (a:=r1) (n:=23) (by decide);have ec:r1%23=((c:Nat):Int):=ec;refine⟨_,_,rfl,rfl,(by show(0:Int)<23;decide),_,rfl,?_,?_,?_⟩
  ·show _<=r1%23;lia
  ·show r1%23<_;lia
  rw[ec,show(((c:Nat):Int)).toNat=c from QU c];refine nz (D:=⟨R,_,R,R⟩) (λi σ' H'=>∃as B r qs us rs x5 x6 x7 x8 x9 x10 x11,LI K H H' d l st ra tp ws i as B r qs us rs/\us.length<=i/\r.length<=3/\σ'=[some (.ref d),some (.ref l),some (.ref tp),some (.ref st),some (.ref ra),x5,x6,x7,x8,x9,x10,x11]) ⟨_,_,[],_,_,_,none,none,none,none,none,none,none,I0.keep hD b6,Qh _,by simp,rfl⟩ ?_ ?_
  ·rintro i σ' H7 hi ⟨as,B,r,qs,us,rs,x5,x6,x7,x8,x9,x10,x11,I,G5,hrl,rfl⟩ D1 hN;rw[Int.zero_add];have hD7:=hD.bt I.bt;refine⟨_,rfl,hD7.next λr8 H8 h8 b8 hD8=>⟨_,_,rfl,rfl,(by show(0:Int)<13;decide),?_⟩⟩;dsimp only[aR];have I8:=I.keep hD b8;have hql:=I8.ql
   have hdf:∀q1,qs[1]?=some q1->∃x y wd,H8 q1=some (.tup [x,y,.str wd])/\pG r=decide (wd="def"):=λq1 hq1=>by
    have Fe:=(Qc hq1).1
    cases r with
    |nil=>simp at hql;lia
    |cons f r =>
     obtain⟨a,h1,_⟩:=I8.qf 0 q1 f hq1 rfl;exact⟨_,_,_,h1,rfl⟩
   refine Al λN kn=>?_
   have go:∀(v:V) (H9:Hp),(v=.non/\Bt d H8 H9∨∃a t bs,v=.ref a/\Bt d H8 H9/\ww H8 H9 a t bs/\RowC t i qs.length)->N [some (.ref d),some (.ref l),some (.ref tp),some (.ref st),some (.ref ra),some (.int ((i:Nat):Int)),some (.int (r8%13)),some v,x8,x9,x10,x11] H9:=λv H9 pre=>by
    refine kn _ _ ?_;refine dY (λσ' H'=>∃as B us rs x8,LI K H H' d l st ra tp ws (i+1) as B r qs us rs/\us.length<=i+1/\(v=.non∨∃a t,v=.ref a/\D4 H' as B r a t)/\σ'=[some (.ref d),some (.ref l),some (.ref tp),some (.ref st),some (.ref ra),some (.int ((i:Nat):Int)),some (.int (r8%13)),some v,x8,x9,x10,x11]) (λR2 FK=>?_) ?_
    ·rcases pre with ⟨rfl,b9⟩|⟨a,t,bs,rfl,b9,nr,rc⟩
     ·refine⟨_,rfl,_,rfl,?_⟩;rw[if_neg (by simp)];exact FK _ _ ⟨as,B,us,rs,x8,(I8.keep hD b9).up,by lia,.inl rfl,rfl⟩
     ·refine⟨_,rfl,_,rfl,?_⟩;rw[if_pos (by simp)];have I9:=I8.keep hD b9;have hD9:=hD.bt I9.bt;have hln:(((qs.map V.ref).length:Nat):Int)=((qs.length:Nat):Int):=by simp
      have l2:decide (((qs.length:Nat):Int)>1)=decide (1<qs.length):=decide_eq_decide.mpr (by lia);refine⟨_,rfl,cP,λp0 hp0=>⟨bZ,λc0 hc0=>?_⟩⟩;have s1:=aj (o:=.lst ([]:List V)) hp0;have s2:=aj (o:=.tup [.int (-1),.ref p0]) hc0;dsimp only[aR];refine dY (λσ' H'=>∃c p,Same H9 H'/\H9 p=none/\H' c=some (.tup [.int (il r).1,.ref p])/\H' p=some (.lst ((il r).2.map V.str))/\σ'=[some (.ref d),some (.ref l),some (.ref tp),some (.ref st),some (.ref ra),some (.int ((i:Nat):Int)),some (.int (r8%13)),some (.ref a),some (.ref c),x9,x10,x11]) (λR3 hR3=>?_) ?_
      ·have FQ:=s1.trans s2;have Jc:=FQ _ _ I9.hst;have IJ:upd (upd H9 p0 (.lst [])) c0 (.tup [.int (-1),.ref p0]) c0=some (.tup [.int (-1),.ref p0]):=ah;have Hu:=s2 _ _ (ah (H:=H9) (a:=p0) (o:=.lst []));generalize upd (upd H9 p0 (.lst [])) c0 (.tup [.int (-1),.ref p0])=H10 at FQ Jc IJ Hu ⊢;refine⟨_,rfl,st,_,rfl,.inl (ak.of Jc),_,_,rfl,rfl,_,rfl,?_⟩;rw[hln,l2];refine eU (b2:=pG r) (λhb h=>?_) ?_
       ·have hb:1<qs.length:=QJ hb;obtain⟨x,y,wd,hq1,G3⟩:=hdf qs[1] (Qa hb);have g1:(qs.map V.ref)[1]?=some (.ref qs[1]):=by rw[Qj,Qa hb];rfl
        exact⟨_,rfl,st,_,_,_,rfl,rfl,ak.of Jc,bH (j:=1) g1,qs[1],_,_,_,rfl,rfl,aq.of (FQ.tups _ _ (b9.tups hD8 _ _ hq1)),bH (j:=2) rfl,rfl,_,rfl,by rw[bz,<-G3];exact h⟩
       refine bS (λg=>?_) (λg=>?_)
       ·have g:=(QS _ _).mp g;have hb:1<qs.length:=QJ g.1;have g1:(qs.map V.ref)[1]?=some (.ref qs[1]):=by rw[Qj,Qa hb];rfl
        cases r with
        |nil=>exact absurd g.2 (by decide)
        |cons f r =>
         have hw1:f.w="def":=QJ g.2;obtain⟨ao,h1,h2⟩:=I9.qf 0 qs[1] f (Qa hb) rfl;have fo:=I9.sk.ok 0 0 f rfl rfl
         obtain⟨r',n',k',G4,b',et⟩:∃r n k ps b,f.t=.df r n k ps b:=by
          rcases fo.way with ⟨_,hk,hh⟩|⟨w',_⟩|⟨w',_⟩|⟨w',_⟩
          ·obtain⟨bb,init,e1,e2⟩:=fo.row;have hn:=((I9.pi.at e1).rw (f.t,f.ks) (by rw[e2];simp)).nb;have hn:f.ks.length=f.t.nb:=hn;rw[hk] at hn
           cases e:f.t with
           |df r n k ps b=>exact⟨_,_,_,_,_,rfl⟩
           |kd r n ps=>rw[e] at hn;cases hn
           |_=>rw[e] at hh;exact absurd rfl hh
          ·rw[hw1] at w';exact absurd w' (by decide +kernel)
          ·rw[hw1] at w';exact absurd w' (by decide +kernel)
          ·rw[hw1] at w';exact absurd w' (by decide +kernel)
         rw[et] at h2;obtain⟨pt,vs,g2,g3,g4⟩:=md h2;have HI:G4.length<=20:=by obtain⟨bb,init,e1,e2⟩:=fo.row;have ha:=((I9.pi.at e1).rw (f.t,f.ks) (by rw[e2];simp)).asc;have ha:f.t.asc:=ha;rw[et] at ha;exact ha.1
         have h1':=FQ.tups _ _ h1;have g2':=FQ.tups _ _ g2;have g3':=FQ.tups _ _ g3;have g4':=g4.kept FQ.tups;have eb:il (f::r)=(((r':Nat):Int),G4.map (·.1)):=by show cA _ f.t=_;rw[et];rfl
         rw[eb] at hR3;refine⟨_,rfl,st,_,_,_,rfl,rfl,ak.of Jc,bH (j:=1) g1,qs[1],_,_,_,rfl,rfl,aq.of h1',bH (j:=1) rfl,ao,_,_,_,rfl,rfl,aq.of g2',bH (j:=1) rfl,?_⟩;refine⟨_,rfl,st,_,_,_,rfl,rfl,ak.of Jc,bH (j:=1) g1,qs[1],_,_,_,rfl,rfl,aq.of h1',bH (j:=1) rfl,ao,_,_,_,rfl,rfl,aq.of g2',bH (j:=4) rfl,?_⟩;refine⟨pt,rfl,⟨_,aq.of g3'⟩,?_⟩;refine jQ (K:=K0) (xs:=vs.map V.ref) (λj ys H'=>H'=H10/\j<=vs.length/\ys=(G4.take j).map λq=>V.str q.1) ⟨rfl,QC _,rfl⟩ (λj ys H' _ h=>by rw[h.1];exact aq.of g3') ?_ ?_
         ·rintro j x ys H' hx ⟨rfl,_,rfl⟩;have hj:j<vs.length:=by simpa using(Qc hx).1
          have hjp:j<G4.length:=by rw[<-g4.1];exact hj
          rw[Qj,Qa hj] at hx;have hx:V.ref vs[j]=x:=by simpa using hx
          subst hx;refine eD ?_;rw[if_pos rfl];refine⟨_,rfl,vs[j],_,_,_,rfl,rfl,aq.of (g4'.2 j vs[j] G4[j] (Qa hj) (Qa hjp)),bH (j:=0) rfl,?_,rfl,by lia,?_⟩
          ·rw[Qf,Qx];have:=HI;exact bP (by lia)
          ·rw[Qm hjp,QL];rfl
         ·rintro ys H' ⟨rfl,_,rfl⟩ p hp;have s3:=aj (o:=.lst ((G4.take (vs.map V.ref).length).map λq=>V.str q.1)) hp;refine⟨bZ,λc hc=>?_⟩;have s4:=aj (o:=.tup [.int ((r':Nat):Int),.ref p]) hc;refine hR3 _ _ ⟨c,p,(FQ.trans s3).trans s4,FQ.free hp,ah,?_,rfl⟩;rw[s4 _ _ ah,Qf,g4.1,QV,QX];rfl
       ·have eb:il r=(-1,[]):=by
         cases r with
         |nil=>rfl
         |cons f r =>
          have hq1:1<qs.length:=by have:=I9.ql;simp at this;lia
          have Hn:f.w≠"def":=λz=>g (by rw[QS];exact⟨Qv hq1,Qv z⟩);have fo:=I9.sk.ok 0 0 f rfl rfl
          rcases fo.way with ⟨w',_⟩|⟨_,_,hh⟩|⟨_,_,hh⟩|⟨_,_,hh⟩
          ·exact absurd w' Hn
          ·exact ma hh _
          ·exact ma hh _
          ·exact ma hh _
        exact hR3 _ _ ⟨c0,p0,FQ,hp0,by rw[eb];exact IJ,by rw[eb];exact Hu,rfl⟩
      rintro σ' H10 ⟨c,p,s10,hp9,hc10,hp10,rfl⟩;obtain⟨IK,q,ai,y,wd,vs,eq,_,hq,Gz,hav,_⟩:=I8.last;refine⟨_,rfl,.inl ⟨rfl,_,ak.of (s10 _ _ I9.hra)⟩,_,rfl,_,rfl,bZ,λu hu=>?_⟩;have s11:=aj (o:=.tup [.ref a,.ref c]) hu;have Ft:=s10.trans s11;have Ib:=Ft _ _ I9.hra;have hst11:=Ft _ _ I9.hst;have hq11:=Ft.tups _ _ (b9.tups hD8 _ _ hq);have Jl:=Ft _ _ (b9.lst hD8 hav);have hc11:=s11.tups _ _ hc10;have hp11:=s11 _ _ hp10;have hu11:upd H10 u (.tup [.ref a,.ref c]) u=some (.tup [.ref a,.ref c]):=ah;generalize upd H10 u (.tup [.ref a,.ref c])=H11 at s11 Ft Ib hst11 hq11 Jl hc11 hp11 hu11 ⊢;refine⟨ra,_,_,rfl,rfl,Ib,bP (by rw[Qf];lia),?_⟩;have hair:ai≠ra:=λz=>I9.ne.2.2.1 (by rw[<-z];exact Qk Gz);have hst12:upd H11 ra (.lst (us.map V.ref++[V.ref u])) st=some (.lst (IK.map V.ref++[V.ref q])):=by rw[aE I9.ne.1,hst11,eq];simp
      have hq12:upd H11 ra (.lst (us.map V.ref++[V.ref u])) q=some (.tup [.ref ai,y,.str wd]):=by rw[aE λz=>by rw[z,Ib] at hq11;cases hq11];exact hq11
      have hai12:upd H11 ra (.lst (us.map V.ref++[V.ref u])) ai=some (.lst (vs.map V.ref)):=by rw[aE hair];exact Jl
      refine⟨_,rfl,_,rfl,st,_,_,_,rfl,rfl,ak.of hst12,qA _ _,q,_,_,_,rfl,rfl,aq.of hq12,bH (j:=0) rfl,.inl ⟨rfl,_,ak.of hai12⟩,_,rfl,ai,_,_,rfl,rfl,hai12,?_,?_⟩
      ·have hvl:vs.length<=30:=by
        obtain⟨b,hb,_⟩:=I8.sk.pt I8.pi _ _ (ik r);obtain⟨vs',e1,e2⟩:=I8.fa.bl _ _ b Gz hb;rw[hav] at e1;have e1:vs.map V.ref=vs'.map V.ref:=by injection e1 with e1;injection e1
        have e3:vs.length=vs'.length:=by have:=congrArg List.length e1;simpa using this
        have:=(I8.pi.at hb).len;rw[e3,e2.1];lia
       exact bP (by rw[Qf];lia)
      ·have hpm:∀{x:Addr} {o:HO},H9 x=some o->p≠x:=λ{x o} e z=>by rw[<-z,hp9] at e;cases e
       have tG:cL H11 (upd (upd H11 ra (.lst (us.map V.ref++[V.ref u]))) ai (.lst (vs.map V.ref++[V.ref a]))):=λx xs e=>by
        have n1:x≠ai:=λz=>by rw[z,Jl] at e;cases e
        have n2:x≠ra:=λz=>by rw[z,Ib] at e;cases e
        rw[aE n1,aE n2];exact e
       have II:=I8.add (a:=a) (u:=u) (H3:=H11) (vs:=vs) hD (b9.same Ft) (nr.rw.kept Ft.tups) nr.len nr.nd (λx hx=>⟨(nr.new x hx).1,Ft _ _ (nr.new x hx).2⟩) ⟨a,c,p,bs,hu11,nr.rw.kept Ft.tups,hc11,hp11,?_⟩ rc Gz hav hrl
       ·rw[QL,QL] at II;refine FK _ _ ⟨_,_,_,_,_,II,by simp;lia,.inr ⟨a,t,rfl,⟨bs,?_⟩,?_⟩,rfl⟩
        ·exact(nr.rw.kept Ft.tups).kept tG
        ·by_cases h0:t.nb=0
         ·exact .inl h0
         ·refine .inr ⟨⟨B.length,t.kw,t,List.range' B.length t.nb⟩,rfl,?_,?_,?_,?_,rfl⟩
          ·obtain⟨b,hb,_⟩:=I8.sk.pt I8.pi _ _ (ik r);refine I8.sk.step I8.pi hb (.inr ⟨t.kw,rfl,h0,?_⟩)
           cases t with
           |df r n k ps b=>exact .inl ⟨rfl,rfl,by simp[Tr.hd]⟩
           |iff r e x o=>exact .inr (.inl ⟨rfl,rfl,rfl⟩)
           |whl r e x=>exact .inr (.inr ⟨rfl,rfl,rfl⟩)
           |_=>exact absurd rfl h0
          ·show cy _ a t ((List.range' B.length t.nb).map _);rw[<-nr.len,<-I8.fa.len,pE];exact(nr.rw.kept Ft.tups).kept tG
          ·have:=rc.nb h0;have:=I8.ql;lia
          ·show ∃ys,List.range' B.length t.nb=B.length::ys
           obtain⟨m,hm⟩:∃m,t.nb=m+1:=⟨t.nb-1,by lia⟩
           rw[hm,List.range'_succ];exact⟨_,rfl⟩
       ·intro z;rcases Qn z with z|z
        ·exact hpm I9.hst z
        rcases Qn z with z|z
        ·exact hpm I9.hra z
        rcases Qq z with z|z
        ·obtain⟨j,hj⟩:=List.mem_iff_getElem?.mp z;have EX:j<B.length:=by rw[<-I9.fa.len];exact(Qc hj).1
         obtain⟨ys,e,_⟩:=I9.fa.bl j p B[j] hj (Qa EX);exact hpm e rfl
        ·exact hpm (nr.new p z).2 rfl
    ·rintro σ' H10 ⟨as,B,us,rs,x8,G8,Ha,hv,rfl⟩;have hql10:=G8.ql;have bnd:(qs.map V.ref).length<sizeLine:=bP (by rw[Qf];lia);refine D7 (λkk=>?_) ?_
     ·rcases hv with rfl|⟨a,t,rfl,⟨bs,IX⟩,hp⟩
      ·refine⟨_,rfl,_,rfl,?_⟩;rw[if_neg (by simp)];refine bO ⟨_,rfl,_,rfl,?_⟩;rw[if_neg (by simp)];exact bO kk
      ·obtain⟨ET,GG⟩:=jt IX;refine⟨_,rfl,_,rfl,?_⟩;rw[if_pos (by simp)];refine az 0 rfl GG rfl ⟨rfl,_,rfl,?_⟩;rw[bz];refine bS (λg=>?_) (λg=>?_)
       ·have g:t.kw="def":=QJ g
        obtain⟨r',n',k',G4,b',et⟩:∃r n k ps b,t=.df r n k ps b:=by
         cases t with
         |df r n k ps b=>exact⟨_,_,_,_,_,rfl⟩
         |_=>exact absurd g (by simp only[Tr.kw];decide +kernel)
        rcases hp with hp|⟨f,ft,sk,hw1,E3,⟨ys,Hx⟩,fw⟩
        ·rw[et] at hp;cases hp
        have hw2:=hw1;rw[et,Hx] at hw2;obtain⟨pt,us2,Fb,_⟩:=md hw2;refine⟨_,rfl,.inl ⟨rfl,_,ak.of G8.hst⟩,az 5 rfl Fb rfl ⟨_,rfl,cQ,λq hq=>⟨st,_,_,rfl,rfl,(aj hq) _ _ G8.hst,bnd,?_⟩⟩⟩;have II:=G8.push (a:=a) (f:=f) hD hq sk (by rw[ft];exact hw1);rw[fw,g,QL] at II;exact hN _ _ ⟨as,B,r++[f],qs++[q],us,rs,_,_,_,_,_,_,_,II,Ha,by simp;lia,rfl⟩
       refine⟨_,rfl,_,rfl,?_⟩;rw[if_pos (by simp)];refine az 0 rfl GG rfl ⟨rfl,_,rfl,ij (b2:=decide (t.kw="while")) (λh=>(az 0 rfl GG rfl ⟨rfl,_,rfl,by rw[bz];exact h⟩)) ?_⟩;rw[bz];refine bS (λg2=>?_) (λg2=>kk);have g2:t.kw="if"∨t.kw="while":=by simpa using g2
       have hh:t.hd=none/\t.nb≠0:=by
        cases t with
        |iff r e x o=>exact⟨rfl,by simp[Tr.nb]⟩
        |whl r e x=>exact⟨rfl,by simp[Tr.nb]⟩
        |_=>rcases g2 with g2|g2<;>exact absurd g2 (by simp only[Tr.kw];decide +kernel)
       rcases hp with hp|⟨f,ft,sk,hw1,E3,⟨ys,Hx⟩,fw⟩
       ·exact absurd hp hh.2
       have hw2:=hw1;rw[Hx] at hw2;obtain⟨y1,y2,y3,Fb⟩:=wF hw2 hh.1 hh.2;refine⟨_,rfl,.inl ⟨rfl,_,ak.of G8.hst⟩,az 3 rfl Fb rfl ⟨_,rfl,az 0 rfl GG rfl ⟨cQ,λq hq=>⟨st,_,_,rfl,rfl,(aj hq) _ _ G8.hst,bnd,?_⟩⟩⟩⟩;have II:=G8.push (a:=a) (f:=f) hD hq sk (by rw[ft];exact hw1);rw[fw,QL] at II;exact hN _ _ ⟨as,B,r++[f],qs++[q],us,rs,_,_,_,_,_,_,_,II,Ha,by simp;lia,rfl⟩
     ·obtain⟨IK,q,ai,y,wd,vs,eq,IC,hq,Gz,hav,hwd⟩:=G8.last;have Gs:H10 st=some (.lst (IK.map V.ref++[V.ref q])):=by rw[G8.hst,eq];simp
      refine⟨_,rfl,rfl,_,rfl,eU (b2:=decide (wd="if")) (λ_ h=>⟨_,rfl,_,rfl,st,_,_,_,rfl,rfl,ak.of Gs,qA _ _,q,_,_,_,rfl,rfl,aq.of hq,bH (j:=2) rfl,rfl,_,rfl,by rw[bz];exact h⟩) ?_⟩;refine bS (λg=>?_) (λ_=>?_)
      ·have g:wd="if":=QJ ((QS _ _).mp g).2
       rcases hwd with ⟨_,z⟩|⟨r0,f,er,z⟩
       ·rw[z] at g;exact absurd g (by decide +kernel)
       subst er;subst eq;have hf:(r0++[f])[r0.length]?=some f:=by simp
       have hqf:(IK++[q])[r0.length+1]?=some q:=by
        have hl:IK.length=r0.length+1:=by simpa using IC
        rw[<-hl];simp
       obtain⟨ao,h1,h2⟩:=G8.qf r0.length q f hqf hf;obtain⟨pp,hpp⟩:=pz hf;have fo:=G8.sk.ok r0.length pp f hpp hf;have hfw:f.w="if":=by rw[<-z];exact g
       obtain⟨zz,Hx,hh⟩:∃zz,f.ks=[f.x,zz]/\f.t.hd=none:=by
        rcases fo.way with ⟨w',_⟩|⟨_,⟨z',c',e',_⟩,hh⟩|⟨w',_⟩|⟨w',_⟩
        ·rw[hfw] at w';exact absurd w' (by decide +kernel)
        ·exact⟨z',e',hh⟩
        ·rw[hfw] at w';exact absurd w' (by decide +kernel)
        ·rw[hfw] at w';exact absurd w' (by decide +kernel)
       have E7:f.t.nb≠0:=by obtain⟨bb,init,e1,e2⟩:=fo.row;have hn:=((G8.pi.at e1).rw (f.t,f.ks) (by rw[e2];simp)).nb;have hn:f.ks.length=f.t.nb:=hn;rw[Hx] at hn;intro zn;rw[zn] at hn;cases hn
       have h2':=h2;rw[Hx] at h2';obtain⟨y1,y2,y3,Fb⟩:=wF (bs:=[as.getD zz 0]) h2' hh E7;have IP:=G8.pop hD;have tP:cL H10 (upd H10 st (.lst (IK.map V.ref))):=λx xs e=>by rw[aE λz=>by rw[z,G8.hst] at e;cases e];exact e
       refine⟨_,rfl,.inl ⟨rfl,_,ak.of Gs⟩,st,_,.ref q,rfl,rfl,Gs,by simp,?_⟩;rw[List.dropLast_concat];refine⟨q,_,rfl,aq.of (tP _ _ h1),rfl,_,_,rfl,_,_,rfl,_,_,rfl,rfl,?_⟩;refine⟨_,rfl,.inl ⟨rfl,_,ak.of ah⟩,az 4 rfl (tP _ _ Fb) rfl ⟨_,rfl,cQ,λq2 Fq=>⟨st,_,_,rfl,rfl,(aj Fq) _ _ ah,bP (by rw[Qf];simp at hql10;lia),?_⟩⟩⟩;have II:=IP.push (a:=ao) (f:=⟨zz,"else",f.t,f.ks⟩) hD Fq (G8.sk.els hfw Hx) (h2.kept tP);rw[QL] at II;exact hN _ _ ⟨as,B,_,_,us,rs,_,_,_,_,_,_,_,II,Ha,by simp at hrl ⊢;lia,rfl⟩
      ·have hln:(((IK.map V.ref++[V.ref q]).length:Nat):Int)=((r.length+1:Nat):Int):=by rw[Qr,Qf,IC];rfl
       have l2:decide (((r.length+1:Nat):Int)>1)=decide (1<r.length+1):=decide_eq_decide.mpr (by lia);refine⟨_,rfl,_,_,rfl,rfl,_,rfl,eU (b2:=decide (1<r.length+1)) (λ_ h=>⟨_,rfl,st,_,rfl,.inl (ak.of Gs),_,_,rfl,rfl,_,rfl,by rw[hln,l2];exact h⟩) ?_⟩;refine bS (λg=>?_) (λ_=>?_)
       ·have g:1<r.length+1:=QJ ((QS _ _).mp g).2
        rcases hwd with ⟨z,_⟩|⟨r0,f,er,z⟩
        ·rw[z] at g;simp at g
        subst er;subst eq;refine⟨_,rfl,.inl ⟨rfl,_,ak.of Gs⟩,st,_,.ref q,rfl,rfl,Gs,by simp,?_⟩;have II:=G8.pop hD;rw[List.dropLast_concat];exact hN _ _ ⟨as,B,r0,IK,us,rs,_,_,_,_,_,_,_,II,Ha,by simp at hrl;lia,rfl⟩
       ·exact hN _ _ ⟨as,B,r,qs,us,rs,_,_,_,_,_,_,_,G8,Ha,hrl,rfl⟩
   exact⟨_,rfl,_,rfl,_,rfl,_,rfl,_,rfl,d,l,st,ws,r8%13,i,qs,pG r,rfl,hD8,I8.hl,hw,I8.hst,by lia,hdf,λH9 b9=>go _ _ (.inl ⟨rfl,b9⟩),λa t bs H9 b9 nr rc=>go _ _ (.inr ⟨a,t,bs,rfl,b9,nr,rc⟩)⟩
  ·rintro σ' H7 ⟨as,B,r,qs,us,rs,x5,x6,x7,x8,x9,x10,x11,I,G5,hrl,rfl⟩;have I22:=I.upto (22-c);rw[show c+(22-c)=22 by lia] at I22;exact hR _ _ ⟨as,B,r,qs,us,rs,x5,x6,x7,x8,x9,x10,x11,I22,by lia,rfl⟩
 rintro σ' H6 ⟨as,B,r,qs,us,rs,x5,x6,x7,x8,x9,x10,x11,I,G5,rfl⟩;refine⟨_,rfl,_,rfl,bZ,λq hq=>?_⟩;have s7:=aj (o:=.tup [.ref tp,.ref ra]) hq;exact kq q tp ra _ rs _ (I.bt.same s7) ah (I.law G5 s7)
theorem D9{z:Str}:(decide (z="do")||decide (z="new"))=decide (z∈d8):=by
 by_cases h1:z="do"
 ·subst h1;decide +kernel
 ·by_cases h2:z="new"
  ·subst h2;decide +kernel
  ·rw[Qi h1,Qi h2,Qi (λh=>by simp[d8,h1,h2] at h)];rfl
theorem Ea{z:Str}:(decide (z="num")||(decide (z="truth")||decide (z="name")))=decide (z∈dL):=by
 by_cases h1:z="num"
 ·subst h1;decide +kernel
 ·by_cases h2:z="truth"
  ·subst h2;decide +kernel
  ·by_cases h3:z="name"
   ·subst h3;decide +kernel
   ·rw[Qi h1,Qi h2,Qi h3,Qi (λh=>by simp[dL,h1,h2,h3] at h)];rfl
inductive wJ (vs:List V) (H:Hp) (Q:VK) (E:XK):Prop
 |mk:∀(v:V) (e:Ex),vs=[v]->bf H v e->e.good->(∀p ys H',Same H H'->H' p=some (.lst ys)->ExsAt H' ys e.kids->Q (.ref p) H')->wJ vs H Q E
noncomputable abbrev Eb:List Str:=["_law_e"]
theorem wK:be Eb ["_law_e"] (aM ou):=⟨rfl,rfl,rfl,by decide +kernel,rfl,by decide +kernel,by decide +kernel⟩
theorem Ec(T:All P w K mg AA DD):aI P w K mg base aK 1 AA.ZC DD.ZC ["_law_e"] wJ:=by
 refine T.z_ZC.F.ok wK (λvs H Q E h=>by cases h;subst_vars;rfl) λE2 A outer s H vs Q E hr h=>?_;obtain⟨v,e,rfl,hE,Fx,k⟩:=h;have nd:=wK.nd;refine⟨_,(ar (aS (PW.pt (gH (aH aV (au (pv 0)) al (aL _)) (iu (aH aV (au (pv 0)) al (aL _))))) (am (aP (fA nA rfl T.n_list gR (ae (au (pv 0)) ag)))) a9) (ar (aS (aH aV (au (pv 0)) al (aL _)) (am (aP (bJ (ae (au (pv 0)) ag)))) a9) (ar (aS (PW.pt (gH (aH aV (au (pv 0)) al (aL _)) (gH (aH aV (au (pv 0)) al (aL _)) (iu (aH aV (au (pv 0)) al (aL _)))))) (am (aP (bJ ag))) a9) (am (aP (fA nA rfl T.n_list gR (ae (gm su (pv 0) (gl ap) gk) ag))))))),?_⟩;obtain⟨t,z,ys,rfl,ht,hc⟩:=uv hE Fx;refine az 0 rfl ht rfl ⟨rfl,_,rfl,ij (b2:=decide (z="new")) (λh=>(az 0 rfl ht rfl ⟨rfl,_,rfl,by rw[bz];exact h⟩)) ?_⟩;rw[bz,D9];refine bS (λg=>?_) (λg=>?_)
 ·have g:z∈d8:=QJ g
  rcases hc with ⟨q,_⟩|⟨_,n2,y,l,vs,rfl,hl,hvs⟩|⟨_,n2,_⟩|⟨_,n2,_⟩
  ·exact absurd q (by intro q;revert g q;simp only[d8,dL,List.mem_cons,List.not_mem_nil,or_false];rintro (rfl|rfl)<;>decide +kernel)
  ·exact az 2 rfl ht rfl ⟨l,vs,rfl,.inr (aq.of hl),λp hp=>k p vs _ (aj hp) ah (hvs.kept (aj hp).tups)⟩
  ·exact absurd g n2
  ·exact absurd g n2
 have g:z∉d8:=λh=>g (Qv h);refine az 0 rfl ht rfl ⟨rfl,_,rfl,?_⟩;rw[bz];refine bS (λg2=>?_) (λg2=>?_)
 ·have g2:z="of":=QJ g2
  rcases hc with ⟨q,_⟩|⟨_,n2,_⟩|⟨_,n2,n3,y,x,rfl,hx⟩|⟨_,n2,n3,_⟩
  ·rw[g2] at q;exact absurd q (by decide +kernel)
  ·exact absurd n2 g
  ·exact az 2 rfl ht rfl ⟨eM,λp hp=>k p _ _ (aj hp) ah (hx.kept (aj hp).tups)⟩
  ·exact absurd g2 n3
 have g2:z≠"of":=λh=>g2 (Qv h);refine az 0 rfl ht rfl ⟨rfl,_,rfl,ij (b2:=decide (z="truth")||decide (z="name")) (λh=>(az 0 rfl ht rfl ⟨rfl,_,rfl,ij (b2:=decide (z="name")) (λh=>(az 0 rfl ht rfl ⟨rfl,_,rfl,by rw[bz];exact h⟩)) (by rw[bz];exact h)⟩)) ?_⟩;rw[bz,Ea];refine bS (λg3=>?_) (λg3=>?_)
 ·have g3:z∈dL:=QJ g3
  have hk:e.kids=[]:=by
   rcases hc with ⟨_,q⟩|⟨q,_⟩|⟨q,_⟩|⟨q,_⟩
   ·exact q
   ·exact absurd g3 q
   ·exact absurd g3 q
   ·exact absurd g3 q
  exact⟨cP,λp hp=>k p _ _ (aj hp) ah (by rw[hk];exact .nil)⟩
 have g3:z∉dL:=λh=>g3 (Qv h)
 rcases hc with ⟨q,_⟩|⟨_,n2,_⟩|⟨_,n2,n3,_⟩|⟨_,n2,n3,hk,hn⟩
 ·exact absurd q g3
 ·exact absurd n2 g
 ·exact absurd n3 g2
 ·refine⟨_,rfl,_,rfl,t,_,rfl,aq.of ht,?_,λp hp=>?_⟩
  ·rintro⟨q,_⟩;simp[HT.sIx] at q
  have s1:=aj (o:=.tup ys) hp;rw[uh];exact⟨p,ys,rfl,.inr (aq.of ah),λq hq=>k q _ _ (s1.trans (aj hq)) ah ((hk.kept s1.tups).kept (aj hq).tups)⟩
mutual
noncomputable def bu:Ex->List Ex
 |.many w z es=>.many w z es::subEs es
 |.name z=>[.name z]
 |.not e=>.not e::bu e
 |.op w a b=>.op w a b::(bu a++bu b)
 |.of z e=>.of z e::bu e
 |.num n=>[.num n]
 |.truth z=>[.truth z]
noncomputable def subEs:List Ex->List Ex
 | []=>[]
 |e::es=>bu e++subEs es
end
theorem wL(e:Ex):bu e=e::subEs e.kids:=by cases e<;>simp[bu,subEs,Ex.kids]
theorem wM:∀a b:List Ex,subEs (a++b)=subEs a++subEs b
 | [],b=>rfl
 |e::a,b=>by simp[subEs,wM a b]
mutual
theorem fQ:∀e:Ex,(bu e).length=e.sz
 |.many w z es=>by simp[bu,Ex.sz,subEs_len es]
 |.name z=>rfl
 |.not e=>by simp[bu,Ex.sz,fQ e]
 |.op w a b=>by simp[bu,Ex.sz,fQ a,fQ b]
 |.of z e=>by simp[bu,Ex.sz,fQ e]
 |.num n=>rfl
 |.truth z=>rfl
theorem subEs_len:∀es:List Ex,(subEs es).length=szL es
 | []=>rfl
 |e::es=>by simp[subEs,szL,fQ e,subEs_len es]
end
mutual
theorem im{tt:List Tr}{kn:List Str}{r:Nat}:∀e:Ex,aN tt kn r e=(bu e).flatMap (cC tt kn r)
 |.many w z es=>by simp[bu,aN,cC,exKs_sub es]
 |.name z=>by simp[bu,aN,cC]
 |.not e=>by simp[bu,aN,cC,im e]
 |.op w a b=>by simp[bu,aN,cC,im a,im b]
 |.of z e=>by simp[bu,aN,cC,im e]
 |.num n=>by simp[bu,aN,cC]
 |.truth z=>by simp[bu,aN,cC]
theorem exKs_sub{tt:List Tr}{kn:List Str}{r:Nat}:∀es:List Ex,exKs tt kn r es=(subEs es).flatMap (cC tt kn r)
 | []=>by simp[subEs,exKs]
 |e::es=>by simp[subEs,exKs,im e,exKs_sub es]
end
inductive ju (k:Nat) (vs:List V) (H:Hp) (Q:VK) (E:XK):Prop
 |mk:∀(v:V) (e:Ex),vs=[v]->bf H v e->e.good->e.deep<k->e.sz<=400->(∀p ys H',Same H H'->H' p=some (.lst ys)->ExsAt H' ys (bu e)->Q (.ref p) H')->ju k vs H Q E
theorem wN{H:Hp}:∀{vs us:List V} {es fs:List Ex},ExsAt H vs es->ExsAt H us fs->ExsAt H (vs++us) (es++fs)
 |_,_,_,_,.nil,h=>h
 |_,_,_,_,.cons a b,h=>.cons a (wN b h)
theorem Ed{e x:Ex}{j:Nat}(h:e.kids[j]?=some x)(hg:e.good):x.good/\x.deep<e.deep:=by
 have hm:=Qk h
 cases e with
 |num n=>simp[Ex.kids] at hm
 |truth z=>simp[Ex.kids] at hm
 |name z=>simp[Ex.kids] at hm
 |not e=>simp[Ex.kids] at hm;subst hm;exact⟨hg,by simp[Ex.deep]⟩
 |of n e=>simp[Ex.kids] at hm;subst hm;exact⟨hg,by simp[Ex.deep]⟩
 |op w a b =>
  simp[Ex.kids] at hm;rcases hm with rfl|rfl
  ·exact⟨hg.2.1,by simp[Ex.deep];lia⟩
  ·exact⟨hg.2.2,by simp[Ex.deep];lia⟩
 |many w z es =>
  have hm:x∈es:=hm;exact⟨nw hg.2.2 hm,by have:=nv hm;simp[Ex.deep];lia⟩
noncomputable abbrev Ee:List Str:=["_law_e","_law_found","_law_part"]
theorem pH:be Ee ["_law_e"] (aM ow):=⟨rfl,rfl,rfl,by decide +kernel,rfl,by decide +kernel,by decide +kernel⟩
theorem Ef(T:All P w K mg AA DD){k:Nat}(GWI:aI P w K mg base aK (k+2) AA.Zv DD.Zv ["_law_e"] (ju k)):aI P w K mg base aK (k+1+2) AA.Zv DD.Zv ["_law_e"] (ju (k+1)):=by
 have GPA:=Ec (base:=base) T;refine T.z_Zv.F.ok pH (λvs H Q E h=>by cases h;subst_vars;rfl) λE2 A outer s H vs Q E hr h=>?_;obtain⟨v,e,rfl,hE,hg,hd,hz,kq⟩:=h;have nd:=pH.nd;have FH:aB (k+2) _:=hr;have Fd:aB 1 _:=FH.mono (by lia);refine⟨_,(ar (aU (i:=1) nd rfl (Or.inl rfl) (bJ (ae (pv 0) ag))) (ar (db PassesOwn.never rfl (c7 (aG GPA Fd rfl T.z_ZC (ae (pv 0) ag))) (ba (i:=2) nd rfl (Or.inl rfl)) (am (aU (i:=1) nd rfl (Or.inl rfl) (aD fW (pv 1) (aG GWI FH rfl T.z_Zv (ae (pv 2) ag))))) (by intro _;rfl)) (am (aP (pv 1))))),?_⟩;refine⟨_,rfl,eM,λp0 hp0=>?_⟩;have s0:=aj (o:=.lst [v]) hp0;have hE0:=hE.kept s0.tups;have hp1:upd H p0 (.lst [v]) p0=some (.lst [v]):=ah;generalize upd H p0 (.lst [v])=H0 at s0 hE0 hp1 ⊢;dsimp only[aR];refine eZ (λσ' H'=>Same H H'/\∃p ys x2,H' p=some (.lst ys)/\ExsAt H' ys (bu e)/\σ'=[some v,some (.ref p),x2]) (λR hR=>?_) ?_
 ·refine⟨_,rfl,v,e,rfl,hE0,hg,λl ks H1 s1 hl Hx=>⟨l,rfl,⟨_,ak.of hl⟩,?_⟩⟩;refine fc (K:=K0) (a:=l) (xs:=ks) (λi σ' H'=>Same H1 H'/\∃p ys x2,H' p=some (.lst ys)/\ExsAt H' ys (e::subEs (e.kids.take i))/\σ'=[some v,some (.ref p),x2]) ⟨Same.refl _,p0,[v],none,s1 _ _ hp1,by rw[List.take_zero];exact .cons (hE0.kept s1.tups) .nil,rfl⟩ (λi σ' H' _ h=>ak.of (h.1 _ _ hl)) ?_ ?_
  ·rintro i x σ' H2 hx ⟨s2,p,ys,x2,hp,EY,rfl⟩ D1 hN1;obtain⟨ei,hei,hxi⟩:=Hx.get hx;obtain⟨hgi,hdi⟩:=Ed hei hg;have hsz:=u5 hei;have hsk:=CQ e;have FF:ys.length=1+szL (e.kids.take i):=by rw[EY.len,QM,subEs_len];lia
   refine⟨_,rfl,_,rfl,x,ei,rfl,hxi.kept s2.tups,hgi,by lia,by lia,λq zs H3 s3 hq F0=>?_⟩;have hzl:zs.length=ei.sz:=by rw[F0.len,fQ]
   refine⟨p,q,ys,zs,rfl,rfl,s3 _ _ hp,hq,QT (bP (by lia)),λp2 Hu=>?_⟩;have s4:=aj (o:=.lst (ys++zs)) Hu;refine hN1 _ _ ⟨(s2.trans s3).trans s4,p2,ys++zs,some x,ah,?_,rfl⟩
   have ht:e.kids.take (i+1)=e.kids.take i++[ei]:=by
    have EX:=(Qc hei)
    rw[Qm EX.1,EX.2]
   rw[ht,wM,<-List.cons_append];refine wN ((EY.kept s3.tups).kept s4.tups) ?_;show ExsAt _ zs (bu ei++subEs []);rw[show subEs []=[] from rfl,Qy];exact F0.kept s4.tups
  ·rintro σ' H2 ⟨s2,p,ys,x2,hp,EY,rfl⟩;refine hR _ _ ⟨(s0.trans s1).trans s2,p,ys,x2,hp,?_,rfl⟩;rw[Hx.len,QV] at EY;rw[wL];exact EY
 rintro σ' H2 ⟨s2,p,ys,x2,hp,EY,rfl⟩;exact⟨_,rfl,kq p ys _ s2 hp EY⟩
theorem Eg(T:All P w K mg AA DD):aI P w K mg base aK (0+2) AA.Zv DD.Zv ["_law_e"] (ju 0):=by
 have no:∀vs H Q E,¬ju 0 vs H Q E:=λvs H Q E h=>by obtain⟨v,e,_,_,_,z,_⟩:=h;lia
 exact T.z_Zv.F.ok pH (λvs H Q E h=>(no _ _ _ _ h).elim) (λE2 A outer s H vs Q E hr h=>(no _ _ _ _ h).elim)
theorem wO(T:All P w K mg AA DD):∀k:Nat,aI P w K mg base aK (k+2) AA.Zv DD.Zv ["_law_e"] (ju k)
 |0=>Eg T
 |k+1=>Ef T (wO T k)
theorem Eh{t:Tr}{q:Str×Str}(h:t.hd=some q):∃ps,t.pre=.s t.kw::.i t.row::.s q.2::ps:=by
 cases t with
 |df r n k ps b=>cases h;exact⟨_,rfl⟩
 |kd r n ps=>cases h;exact⟨_,rfl⟩
 |_=>cases h
theorem pI{H:Hp}{a:Addr}{t:Tr}{bs:List Addr}{q:Str×Str}(h:cy H a t bs)(hh:t.hd=some q):∃ET,H a=some (.tup (V.str t.kw::.int ((t.row:Nat):Int)::.str q.2::ET)):=by obtain⟨vs,h1,h2⟩:=jr h;obtain⟨ps,e⟩:=Eh hh;rw[e] at h2;obtain⟨q,e1,h2⟩:=dI h2;obtain⟨x,q1,e2,f1,h2⟩:=cB h2;exact⟨_,by rw[h1,e1,e2,ff f1];rfl⟩
theorem Ei{t:Tr}{w n:Str}(h:t.hd=some (w,n)):t.kw=w:=by cases t<;>first|(cases h;rfl)|cases h
theorem Ej{t:Tr}(h:t.hd=none):t.kw∉gA:=by
 cases t with
 |df r n k ps b=>cases h
 |kd r n ps=>cases h
 |_=>simp only[Tr.kw];decide +kernel
theorem wP{α:Type}{p:α->Bool}:∀{l:List α} {i:Nat} {t:α},l[i]?=some t->p t=true->(∀(j:Nat) (u:α),j<i->l[j]?=some u->p u=false)->l.find? p=some t
 | [],i,t,h,_,_=>by simp at h
 |x::l,0,t,h,hp,_=>by
  have h:x=t:=by simpa using h
  rw[h,List.find?_cons,hp]
 |x::l,i+1,t,h,hp,hn=>by rw[List.find?_cons,hn 0 x (by lia) rfl];exact wP (i:=i) (by simpa using h) hp λj u hj hu=>hn (j+1) u (by lia) (by simpa using hu)
inductive wQ (vs:List V) (H:Hp) (Q:VK) (E:XK):Prop
 |mk:∀(p:Addr) (rs:List (Tr×Bd)) (wd nm:Str),vs=[.ref p,.str wd,.str nm]->gF H p rs->wd∈gA->(bU (wd,nm) (rs.map (·.1))=none->Q .non H)->(∀t,bU (wd,nm) (rs.map (·.1))=some t->∀a bs,cy H a t bs->Q (.ref a) H)->wQ vs H Q E
noncomputable abbrev Ek:List Str:=["_law_rows_here","_law_word","_law_name","_law_row_here","_law_body"]
theorem wR:be Ek ["_law_rows_here","_law_word","_law_name"] (aM ox):=⟨rfl,rfl,rfl,by decide +kernel,rfl,by decide +kernel,by decide +kernel⟩
theorem wS(T:All P w K mg AA DD):aI P w K mg base aK 1 AA.ZD DD.ZD ["_law_rows_here","_law_word","_law_name"] wQ:=by
 refine T.z_ZD.F.ok wR (λvs H Q E h=>by cases h;subst_vars;rfl) λE2 A outer s H vs Q E hr h=>?_;obtain⟨p,rs,wd,nm,rfl,⟨us,hp,G5,hus⟩,hwd,kn,ks⟩:=h;have nd:=wR.nd;refine⟨_,(ar (db PassesOwn.never rfl (c7 (pv 0)) (dF rfl (bv (ba (i:=3) nd rfl (Or.inl rfl)) (bv (ba (i:=4) nd rfl (Or.inl rfl)) dz))) (am (aS (PW.pt (cY (aH aV (au (pv 3)) (pv 1) (aL _)) (dO (aH aV (au (pv 3)) (pv 2) (aL _))))) (am (aP (pv 3))) a9)) (by intro _;rfl)) (am (aP kD))),?_⟩;dsimp only[cZ];refine eZ (λσ' H'=>H'=H/\bU (wd,nm) (rs.map (·.1))=none) (λR hR=>?_) ?_
 ·refine⟨_,rfl,p,rfl,⟨_,ak.of hp⟩,?_⟩;refine pW (K:=K0) (a:=p) (xs:=us.map V.ref) (λi σ' H'=>H'=H/\(∀(j:Nat) (x:Tr×Bd),j<i->rs[j]?=some x->x.1.hd≠some (wd,nm))/\∃x3 x4,σ'=[some (.ref p),some (.str wd),some (.str nm),x3,x4]) ⟨rfl,λj x hj=>by lia,none,none,rfl⟩ (λi σ' H' _ h=>by rw[h.1];exact ak.of hp) ?_ ?_
  ·rintro i x σ' H' hx ⟨rfl,IE,x3,x4,rfl⟩;have hi:i<us.length:=by simpa using(Qc hx).1
   have G2:i<rs.length:=by lia
   rw[Qj,Qa hi] at hx;have hx:V.ref us[i]=x:=by simpa using hx
   subst hx;obtain⟨a,c,pp,bs,h1,h2,h3,h4,_⟩:=hus i us[i] rs[i] (Qa hi) (Qa G2);refine⟨us[i],_,rfl,aq.of h1,rfl,_,_,rfl,_,_,rfl,rfl,?_⟩
   have next:rs[i].1.hd≠some (wd,nm)->∀(j:Nat) (x:Tr×Bd),j<i+1->rs[j]?=some x->x.1.hd≠some (wd,nm):=λhz j y hj hy=>by
    by_cases e:j=i
    ·rw[e,Qa G2] at hy;rw[<-Qo hy];exact hz
    ·exact IE j y (by lia) hy
   obtain⟨ET,GG⟩:=jt h2
   cases hh:rs[i].1.hd with
   |none =>
    refine az 0 rfl GG rfl ⟨_,rfl,rfl,_,rfl,?_⟩;rw[bz,Qi λz=>Ej hh (by rw[z];exact hwd)];refine bO (bO ⟨rfl,next (by rw[hh];simp),_,_,rfl⟩)
   |some wn =>
    obtain⟨w',n'⟩:=wn;obtain⟨rest',Fb⟩:=pI h2 hh;rw[Ei hh] at Fb;refine az 0 rfl Fb rfl ⟨_,rfl,rfl,_,rfl,eU (b2:=decide (n'=nm)) (λ_ h=>(az 2 rfl Fb rfl ⟨_,rfl,rfl,_,rfl,by rw[bz];exact h⟩)) ?_⟩;rw[bz];refine bS (λg=>?_) (λg=>?_)
    ·have g1:w'=wd:=QJ ((QS _ _).mp g).1;have g2:n'=nm:=QJ ((QS _ _).mp g).2;rw[g1,g2] at hh;refine⟨_,rfl,ks rs[i].1 ?_ a bs h2⟩;refine wP (i:=i) (by rw[Qj,Qa G2];rfl) (Qv hh) λj u hj hu=>?_;rw[Qj] at hu
     cases hz:rs[j]? with
     |none=>rw[hz] at hu;cases hu
     |some x =>
      rw[hz] at hu;rw[<-Qo hu];exact Qi (IE j x hj hz)
    ·refine⟨rfl,next λz=>?_,_,_,rfl⟩;rw[hh] at z;have z:=Qo z;exact g (by rw[(Prod.mk.inj z).1,(Prod.mk.inj z).2];simp)
  ·rintro σ' H' ⟨rfl,IE,x3,x4,rfl⟩;refine hR _ _ ⟨rfl,List.find?_eq_none.mpr λt ht=>?_⟩;obtain⟨x,hx,rfl⟩:=QI ht;obtain⟨j,hj⟩:=List.mem_iff_getElem?.mp hx;have hjl:=(Qc hj).1;have:=IE j x (by rw[Qf];lia) hj;simpa using this
 rintro σ' H' ⟨rfl,hn⟩;exact kn hn
theorem El{H:Hp}{v:V}{e:Ex}(h:bf H v e)(hg:e.good)(hn:∀w n es,e≠.many w n es):∃t z ET,v=.ref t/\H t=some (.tup (V.str z::ET))/\z≠"do"/\z≠"new":=by
 cases h with
 |num h=>exact⟨_,_,_,rfl,h,by decide +kernel,by decide +kernel⟩
 |truth h=>exact⟨_,_,_,rfl,h,by decide +kernel,by decide +kernel⟩
 |name h=>exact⟨_,_,_,rfl,h,by decide +kernel,by decide +kernel⟩
 |not h _=>exact⟨_,_,_,rfl,h,by decide +kernel,by decide +kernel⟩
 |of h _=>exact⟨_,_,_,rfl,h,by decide +kernel,by decide +kernel⟩
 |op h _ _ =>
  refine⟨_,_,_,rfl,h,?_,?_⟩
  ·rintro rfl;exact absurd hg.1 (by decide +kernel)
  ·rintro rfl;exact absurd hg.1 (by decide +kernel)
 |many h _ _=>exact absurd rfl (hn _ _ _)
theorem Em{H:Hp}{a:Addr}{r:Nat}{n:Str}{ps:List (Str×Str)}{bs:List Addr}(h:cy H a (.kd r n ps) bs):∃(pt:Addr) (us:List Addr) (x:V),H a=some (.tup (V.str "kind"::x::.str n::.ref pt::bs.map V.ref))/\H pt=some (.tup (us.map V.ref))/\eT H us ps:=by obtain⟨vs,h1,h2⟩:=jr h;obtain⟨q,e1,h2⟩:=dI h2;obtain⟨x,q1,e2,f1,h2⟩:=cB h2;obtain⟨z,q3,e4,f3,h2⟩:=cB h2;obtain⟨t,us,e5,g1,g2⟩:=lU f3;exact⟨t,us,_,by rw[h1,e1,e2,e4,ff f1,e5,hZ h2];rfl,g1,g2⟩
theorem me{H:Hp}{t:Addr}{r:Nat}{a z:Str}(h:H t=some (.tup [.int ((r:Nat):Int),.str a,.str z])):aY H [.ref t] [k3 r a z]:=o3 h
theorem wT{k:Str×Str}{tt:List Tr}{t:Tr}(h:bU k tt=some t):t.hd=some k:=by unfold bU at h;have:=List.find?_some h;exact QJ this
noncomputable def uO(tt:List Tr)(r:Nat):Ex->List (List af)
 |.many w z es=>cF tt r (if w="do" then "def" else "kind") (if w="do" then "nofunc" else "nokind") z es.length
 |_=>[]
inductive wU (vs:List V) (H:Hp) (Q:VK) (E:XK):Prop
 |mk:∀(p:Addr) (rs:List (Tr×Bd)) (r:Nat) (v:V) (e:Ex),vs=[.ref p,.int ((r:Nat):Int),v]->gF H p rs->bf H v e->e.good->(∀q ys H',Same H H'->H' q=some (.lst ys)->aY H' ys (uO (rs.map (·.1)) r e)->Q (.ref q) H')->wU vs H Q E
noncomputable abbrev En:List Str:=["_law_rows_here","_law_at","_law_e","_law_row_here"]
theorem wV:be En ["_law_rows_here","_law_at","_law_e"] (aM oy):=⟨rfl,rfl,rfl,by decide +kernel,rfl,by decide +kernel,by decide +kernel⟩
theorem Eo(T:All P w K mg AA DD):aI P w K mg base aK 2 AA.Zq DD.Zq ["_law_rows_here","_law_at","_law_e"] wU:=by
 have GFI:=wS (base:=base) T;refine T.z_Zq.F.ok wV (λvs H Q E h=>by cases h;subst_vars;rfl) λE2 A outer s H vs Q E hr h=>?_;obtain⟨p,rs,r,v,e,rfl,hR,hE,hg,kq⟩:=h;have nd:=wV.nd;have Fd:aB 1 _:=hr;refine⟨_,(ar (aS (aH aV (au (pv 2)) al (aL _)) (ar (aU (i:=3) nd rfl (Or.inl rfl) (aG GFI Fd rfl T.z_ZD (ae (pv 0) (ae al (ae (au (pv 2)) ag))))) (ar (aS (iq (ml (pv 3))) (am (aP (bJ (ae (aX (ae (pv 1) (ae al (ae (au (pv 2)) ag)))) ag)))) a9) (am (aS (aH fT (ci d5 rfl T.n_len di (ae (au (pv 3)) ag)) (ci d5 rfl T.n_len di (ae (au (pv 2)) ag)) (aL _)) (am (aP (bJ (ae (aX (ae (pv 1) (ae al (ae (au (pv 2)) ag)))) ag)))) a9)))) a9) (ar (aS (aH aV (au (pv 2)) al (aL _)) (ar (aU (i:=3) nd rfl (Or.inl rfl) (aG GFI Fd rfl T.z_ZD (ae (pv 0) (ae al (ae (au (pv 2)) ag))))) (ar (aS (iq (ml (pv 3))) (am (aP (bJ (ae (aX (ae (pv 1) (ae al (ae (au (pv 2)) ag)))) ag)))) a9) (am (aS (aH fT (ci d5 rfl T.n_len di (ae (au (pv 3)) ag)) (ci d5 rfl T.n_len di (ae (au (pv 2)) ag)) (aL _)) (am (aP (bJ (ae (aX (ae (pv 1) (ae al (ae (au (pv 2)) ag)))) ag)))) a9)))) a9) (am (aP (bJ ag))))),?_⟩;by_cases hm:∃w n es,e=.many w n es
 ·obtain⟨w,n,es,rfl⟩:=hm
  cases hE with
  |many h1 h2 h3 =>
   rename_i t l vs;have hvl:=h3.len;have one:∀(a z:Str),uO (rs.map (·.1)) r (.many w n es)=[k3 r a z]->∀q t,H t=none->upd H t (.tup [.int ((r:Nat):Int),.str a,.str z]) q=none->Q (.ref q) (upd (upd H t (.tup [.int ((r:Nat):Int),.str a,.str z])) q (.lst [.ref t])):=λa z e q t ht hq=>by refine kq q _ _ ((aj ht).trans (aj hq)) ah ?_;rw[e];exact me ((aj hq).tups _ _ ah)
   have dn:("do":Str)≠"new":=by decide +kernel
   rcases hg.1 with rfl|rfl
   ·have hu:uO (rs.map (·.1)) r (.many "do" n es)=cF (rs.map (·.1)) r "def" "nofunc" n es.length:=by show cF _ _ _ _ _ _=_;rw[if_pos rfl,if_pos rfl]
    refine dY (λσ' H'=>H'=H/\uO (rs.map (·.1)) r (.many "do" n es)=[]/\∃x3,σ'=[some (.ref p),some (.int ((r:Nat):Int)),some (.ref t),x3]) (λR FK=>?_) ?_
    ·refine az 0 rfl h1 rfl ⟨rfl,_,rfl,?_⟩;rw[bz,if_pos (by simp)];refine⟨_,rfl,az 1 rfl h1 rfl ⟨p,rs,"def",n,rfl,hR,by decide +kernel,λhn=>?_,λt' Ii a Fh Fj=>?_⟩⟩
     ·dsimp only[aR];refine⟨_,rfl,_,rfl,?_⟩;rw[if_pos (by simp)];refine⟨_,rfl,az 1 rfl h1 rfl ⟨cQ,λt2 Fz=>⟨eM,λq hq=>one "nofunc" n ?_ q t2 Fz hq⟩⟩⟩;rw[hu];unfold cF;rw[hn]
     ·dsimp only[aR];refine⟨_,rfl,_,rfl,?_⟩;rw[if_neg (by simp)];have hh:t'.hd=some (("def":Str),n):=wT Ii
      obtain⟨r',k',G4,b',et⟩:∃r k ps b,t'=.df r n k ps b:=by
       cases t' with
       |df r nn k ps b=>have:=(Prod.mk.inj (Qo hh)).2;subst this;exact⟨_,_,_,_,rfl⟩
       |kd r nn ps=>have:=(Prod.mk.inj (Qo hh)).1;exact absurd this (by decide +kernel)
       |_=>cases hh
      have FM:t'.prs.length=G4.length:=by rw[et];rfl
      rw[et] at Fj;obtain⟨pt,Hs,Fb,Gk,GP⟩:=md Fj;refine az 4 rfl Fb rfl ⟨pt,_,rfl,.inr (aq.of Gk),az 2 rfl h1 rfl ⟨l,_,rfl,.inr (aq.of h2),rfl,_,rfl,?_⟩⟩
      have Je:cF (rs.map (·.1)) r "def" "nofunc" n es.length=if G4.length=es.length then [] else [k3 r "count" n]:=by unfold cF;rw[Ii];dsimp only;rw[FM]
      have hdec:decide (V.int (((Hs.map V.ref).length:Nat):Int)=V.int ((vs.length:Nat):Int))=decide (G4.length=es.length):=by rw[km,Qf,GP.1,hvl];exact decide_eq_decide.mpr (by lia)
      rw[hdec];by_cases hc:G4.length=es.length
      ·rw[if_neg (by simp[hc])];exact FK _ _ ⟨rfl,by rw[hu,Je,if_pos hc],_,rfl⟩
      ·rw[if_pos (by simp[hc])];refine⟨_,rfl,az 1 rfl h1 rfl ⟨cQ,λt2 Fz=>⟨eM,λq hq=>one "count" n ?_ q t2 Fz hq⟩⟩⟩;rw[hu,Je,if_neg hc]
    rintro σ' H' ⟨rfl,hu0,x3,rfl⟩;refine dY (λσ' H''=>H''=H') (λR FK=>?_) ?_
    ·refine az 0 rfl h1 rfl ⟨rfl,_,rfl,?_⟩;rw[bz,Qi dn];exact bO (FK _ _ rfl)
    rintro σ' H'' rfl;exact⟨cP,λq hq=>kq q _ _ (aj hq) ah (by rw[hu0];exact gB)⟩
   ·have hu:uO (rs.map (·.1)) r (.many "new" n es)=cF (rs.map (·.1)) r "kind" "nokind" n es.length:=by show cF _ _ _ _ _ _=_;rw[if_neg (Ne.symm dn),if_neg (Ne.symm dn)]
    refine dY (λσ' H'=>H'=H/\σ'=[some (.ref p),some (.int ((r:Nat):Int)),some (.ref t),none]) (λR FK=>?_) ?_
    ·refine az 0 rfl h1 rfl ⟨rfl,_,rfl,?_⟩;rw[bz,Qi (Ne.symm dn)];exact bO (FK _ _ ⟨rfl,rfl⟩)
    rintro σ' H' ⟨rfl,rfl⟩;refine dY (λσ' H''=>H''=H'/\uO (rs.map (·.1)) r (.many "new" n es)=[]/\∃x3,σ'=[some (.ref p),some (.int ((r:Nat):Int)),some (.ref t),x3]) (λR FK=>?_) ?_
    ·refine az 0 rfl h1 rfl ⟨rfl,_,rfl,?_⟩;rw[bz,if_pos (by simp)];refine⟨_,rfl,az 1 rfl h1 rfl ⟨p,rs,"kind",n,rfl,hR,by decide +kernel,λhn=>?_,λt' Ii a Fh Fj=>?_⟩⟩
     ·dsimp only[aR];refine⟨_,rfl,_,rfl,?_⟩;rw[if_pos (by simp)];refine⟨_,rfl,az 1 rfl h1 rfl ⟨cQ,λt2 Fz=>⟨eM,λq hq=>one "nokind" n ?_ q t2 Fz hq⟩⟩⟩;rw[hu];unfold cF;rw[hn]
     ·dsimp only[aR];refine⟨_,rfl,_,rfl,?_⟩;rw[if_neg (by simp)];have hh:t'.hd=some (("kind":Str),n):=wT Ii
      obtain⟨r',G4,et⟩:∃r ps,t'=.kd r n ps:=by
       cases t' with
       |kd r nn ps=>have:=(Prod.mk.inj (Qo hh)).2;subst this;exact⟨_,_,rfl⟩
       |df r nn k ps b=>have:=(Prod.mk.inj (Qo hh)).1;exact absurd this (by decide +kernel)
       |_=>cases hh
      have FM:t'.prs.length=G4.length:=by rw[et];rfl
      rw[et] at Fj;obtain⟨pt,Hs,xk,Fb,Gk,GP⟩:=Em Fj;refine az 3 rfl Fb rfl ⟨pt,_,rfl,.inr (aq.of Gk),az 2 rfl h1 rfl ⟨l,_,rfl,.inr (aq.of h2),rfl,_,rfl,?_⟩⟩
      have Je:cF (rs.map (·.1)) r "kind" "nokind" n es.length=if G4.length=es.length then [] else [k3 r "count" n]:=by unfold cF;rw[Ii];dsimp only;rw[FM]
      have hdec:decide (V.int (((Hs.map V.ref).length:Nat):Int)=V.int ((vs.length:Nat):Int))=decide (G4.length=es.length):=by rw[km,Qf,GP.1,hvl];exact decide_eq_decide.mpr (by lia)
      rw[hdec];by_cases hc:G4.length=es.length
      ·rw[if_neg (by simp[hc])];exact FK _ _ ⟨rfl,by rw[hu,Je,if_pos hc],_,rfl⟩
      ·rw[if_pos (by simp[hc])];refine⟨_,rfl,az 1 rfl h1 rfl ⟨cQ,λt2 Fz=>⟨eM,λq hq=>one "count" n ?_ q t2 Fz hq⟩⟩⟩;rw[hu,Je,if_neg hc]
    rintro σ' H'' ⟨rfl,hu0,x3,rfl⟩;exact⟨cP,λq hq=>kq q _ _ (aj hq) ah (by rw[hu0];exact gB)⟩
 ·obtain⟨t,z,ET,rfl,ht,n1,n2⟩:=El hE hg (λw n es z=>hm ⟨w,n,es,z⟩)
  have he:uO (rs.map (·.1)) r e=[]:=by
   cases e with
   |many w n es=>exact absurd ⟨w,n,es,rfl⟩ hm
   |_=>rfl
  refine dY (λσ' H'=>H'=H/\σ'=[some (.ref p),some (.int ((r:Nat):Int)),some (.ref t),none]) (λR FK=>?_) ?_
  ·refine az 0 rfl ht rfl ⟨rfl,_,rfl,?_⟩;rw[bz,Qi n1];exact bO (FK _ _ ⟨rfl,rfl⟩)
  rintro σ' H' ⟨rfl,rfl⟩;refine dY (λσ' H''=>H''=H'/\σ'=[some (.ref p),some (.int ((r:Nat):Int)),some (.ref t),none]) (λR FK=>?_) ?_
  ·refine az 0 rfl ht rfl ⟨rfl,_,rfl,?_⟩;rw[bz,Qi n2];exact bO (FK _ _ ⟨rfl,rfl⟩)
  rintro σ' H'' ⟨rfl,rfl⟩;exact⟨cP,λq hq=>kq q _ _ (aj hq) ah (by rw[he];exact gB)⟩
theorem wW{H:Hp}{a:Addr}{r:Nat}{n:Str}{e:Ex}{bs:List Addr}(h:cy H a (.set r n e) bs):∃x v ET,H a=some (.tup (V.str "set"::x::.str n::v::ET))/\bf H v e:=by obtain⟨vs,h1,h2⟩:=jr h;obtain⟨q,e1,h2⟩:=dI h2;obtain⟨x,q1,e2,f1,h2⟩:=cB h2;obtain⟨v,e4,hx⟩:=kc h2;exact⟨_,v,_,by rw[h1,e1,e2,e4,ff f1];rfl,hx⟩
theorem wX{t:Tr}(h:t.kw="set"):∃r n e,t=.set r n e:=by
 cases t with
 |set r n e=>exact⟨_,_,_,rfl⟩
 |_=>exact absurd h (by simp only[Tr.kw];decide +kernel)
theorem Ep{t:Tr}(h:t.kw≠"set"):dN t=[]:=by
 cases t with
 |set r n e=>exact absurd rfl h
 |_=>rfl
noncomputable def jv(kn:List Str)(r:Nat):Ex->List (List af)
 |.name z=>if z∈kn then [] else [k3 r "unset" z]
 |_=>[]
theorem pJ(tt:List Tr)(kn:List Str)(r:Nat)(e:Ex):cC tt kn r e=jv kn r e++uO tt r e:=by cases e<;>simp[cC,jv,uO]
theorem pL(kn:List Str)(r:Nat)(e:Ex):(jv kn r e).length<=1:=by
 cases e with
 |name z =>
  show(if z∈kn then [] else [k3 r "unset" z]).length<=1;by_cases h:z∈kn
  ·rw[if_pos h];exact QC _
  ·rw[if_neg h];exact Qh _
 |_=>simp[jv]
theorem Er(tt:List Tr)(r:Nat)(a b z:Str)(n:Nat):(cF tt r a b z n).length<=1:=by
 unfold cF
 cases bU (a,z) tt with
 |none=>exact Qh _
 |some t =>
  show(if t.prs.length=n then [] else [k3 r "count" z]).length<=1;by_cases h:t.prs.length=n
  ·rw[if_pos h];exact QC _
  ·rw[if_neg h];exact Qh _
theorem pM(tt:List Tr)(r:Nat)(e:Ex):(uO tt r e).length<=1:=by
 cases e with
 |many w z es=>exact Er _ _ _ _ _ _
 |_=>simp[uO]
theorem wY(xs:List V)(d:Nat):fB xs none (some ((d:Nat):Int))=xs.take d:=by
 unfold fB;rw[HT.sIx_nat,HT.sIx_none,List.drop_zero,Nat.sub_zero];by_cases h:d<=xs.length
 ·rw[Nat.min_eq_left h]
 ·rw[Nat.min_eq_right (by omega),QV,QD (by omega)]
theorem Es(t:Tr):(dN t).length<=1:=by cases t<;>simp[dN]
theorem gG{α β:Type}{f:α->List β}{c:Nat}(h:∀a,(f a).length<=c):∀l:List α,(l.flatMap f).length<=c*l.length
 | []=>by simp
 |a::l=>by have h1:=h a;have h2:=gG h l;rw[List.flatMap_cons,Qr,QM,Nat.mul_add];omega
theorem Et(P:List (Tr×Bd))(b:Bd):(bn P b).length<=b.2.length+P.length:=by unfold bn;rw[Qr];have h1:=gG (f:=λq:Tr×Bd=>dN q.1) (c:=1) (λq=>Es q.1) (P.filter λq=>decide (q.2.1=b.1));have h2:=List.length_filter_le (λq:Tr×Bd=>decide (q.2.1=b.1)) P;lia
theorem Eu{rs:List (Tr×Bd)}{i:Nat}(h:i<rs.length)(b:Bd):bn (rs.take (i+1)) b=bn (rs.take i) b++if rs[i].2.1=b.1 then dN rs[i].1 else []:=by rw[Qm h];unfold bn;rw[List.filter_append,List.flatMap_append,<-QN];by_cases e:rs[i].2.1=b.1<;>simp[e]
theorem wZ(tt:List Tr)(kn:List Str)(r:Nat)(e:Ex):(cC tt kn r e).length<=2:=by rw[pJ,Qr];have:=pL kn r e;have:=pM tt r e;lia
theorem Ew{H:Hp}{v:V}{e:Ex}(h:bf H v e)(hg:e.good)(hn:∀z,e≠.name z):∃t z ET,v=.ref t/\H t=some (.tup (V.str z::ET))/\z≠"name":=by
 cases h with
 |num h=>exact⟨_,_,_,rfl,h,by decide +kernel⟩
 |truth h=>exact⟨_,_,_,rfl,h,by decide +kernel⟩
 |name h=>exact absurd rfl (hn _)
 |not h _=>exact⟨_,_,_,rfl,h,by decide +kernel⟩
 |of h _=>exact⟨_,_,_,rfl,h,by decide +kernel⟩
 |op h _ _ =>
  refine⟨_,_,_,rfl,h,?_⟩;rintro rfl;exact absurd hg.1 (by decide +kernel)
 |many h _ _ =>
  refine⟨_,_,_,rfl,h,?_⟩;rintro rfl;rcases hg.1 with z|z<;>exact absurd z (by decide +kernel)
theorem Ey{kn:List Str}{r:Nat}{e:Ex}(hn:∀z,e≠.name z):jv kn r e=[]:=by
 cases e with
 |name z=>exact absurd rfl (hn z)
 |_=>rfl
theorem Ez{z:Str}{zs:List Str}{b:Bool}(h:decide (z∈zs)=b):(if true=true then !fD (V.str z) (zs.map V.str) else fD (V.str z) (zs.map V.str))=!b:=by rw[if_pos rfl,lW,h]
theorem w6(zs:List Str):(zs.map V.str).all fV=true:=List.all_eq_true.mpr λv hv=>by obtain⟨z,_,rfl⟩:=QI hv;rfl
mutual
theorem jw{x:Ex}:∀(e:Ex),e.good->x∈bu e->x.good
 |.num n,h,m=>by rw[bu] at m;rw[Qp m];exact h
 |.truth z,h,m=>by rw[bu] at m;rw[Qp m];exact h
 |.name z,h,m=>by rw[bu] at m;rw[Qp m];exact h
 |.not e,h,m=>by
  rw[bu] at m;rcases Qn m with e|m
  ·rw[e];exact h
  ·exact jw e h m
 |.of z e,h,m=>by
  rw[bu] at m;rcases Qn m with e|m
  ·rw[e];exact h
  ·exact jw e h m
 |.op w a b,h,m=>by
  rw[bu] at m;rcases Qn m with e|m
  ·rw[e];exact h
  rcases Qq m with m|m
  ·exact jw a h.2.1 m
  ·exact jw b h.2.2 m
 |.many w z es,h,m=>by
  rw[bu] at m;rcases Qn m with e|m
  ·rw[e];exact h
  ·exact w9 es h.2.2 m
theorem w9{x:Ex}:∀(es:List Ex),jY es->x∈subEs es->x.good
 | [],h,m=>by simp[subEs] at m
 |e::es,h,m=>by
  rw[subEs] at m;rcases Qq m with m|m
  ·exact jw e h.1 m
  ·exact w9 es h.2 m
end
inductive xa (vs:List V) (H:Hp) (Q:VK) (E:XK):Prop
 |mk:∀(p:Addr) (rs:List (Tr×Bd)) (k:Nat) (x:Tr×Bd) (v:V) (e:Ex),vs=[.ref p,.int ((k:Nat):Int),v]->gF H p rs->rs.length<=22->rs[k]?=some x->x.2.2.length<=20->bf H v e->e.good->e.deep<8->e.sz<=125->(∀q ys H',Same H H'->H' q=some (.lst ys)->aY H' ys (aN (rs.map (·.1)) (bn (rs.take k) x.2) x.1.row e)->Q (.ref q) H')->xa vs H Q E
noncomputable abbrev EA:List Str:=["_law_rows_here","_law_k","_law_e","_law_row_here","_law_body","_law_known","_law_other","_law_its","_law_due","_law_part"]
theorem xf:be EA ["_law_rows_here","_law_k","_law_e"] (aM oz):=⟨rfl,rfl,rfl,by decide +kernel,rfl,by decide +kernel,by decide +kernel⟩
theorem EB(T:All P w K mg AA DD):aI P w K mg base aK 12 AA.Zm DD.Zm ["_law_rows_here","_law_k","_law_e"] xa:=by
 have GUD:=Eo (base:=base) T;have GWI:=wO (base:=base) T 8;refine T.z_Zm.F.ok xf (λvs H Q E h=>by cases h;subst_vars;rfl) λE2 A outer s H vs Q E hr h=>?_;obtain⟨p,rs,k,x,v,e,rfl,hR,hrl,hk,Ih,hE,hg,hd,hz,kq⟩:=h;have nd:=xf.nd;have FH:aB 11 _:=hr;have E3:aB 2 _:=FH.mono (by lia);have FH:aB 10 _:=FH.mono (by lia);obtain⟨us,hp,G5,hus⟩:=id hR;have FP:=(Qc hk).1;have hku:k<us.length:=by lia
 refine⟨_,(ar (mr (ck cW (pv 0) (pv 1) (λ_ _=>rfl)) (dF rfl (bv (ba (i:=3) nd rfl (Or.inl rfl)) (bv (ba (i:=4) nd rfl (Or.inl rfl)) dz)))) (ar (aU (i:=5) nd rfl (Or.inl rfl) (fA nA rfl T.n_list gR (ae (au (pv 4)) ag))) (ar (db PassesOwn.never rfl (c7 (gm ss (pv 0) gk (gl (pv 1)))) (dF rfl (bv (ba (i:=6) nd rfl (Or.inl rfl)) (bv (ba (i:=7) nd rfl (Or.inl rfl)) dz))) (am (aS (PW.pt (cY (aH aV (au (pv 6)) al (aL _)) (dO (aH aV (au (pv 7)) (au (pv 4)) (aL _))))) (am (bV (fG (pv 5) (ae (au (pv 6)) ag)) (by rfl))) a9)) (by intro _;rfl)) (ar (aU (i:=8) nd rfl (Or.inl rfl) (bJ ag)) (ar (db PassesOwn.never rfl (c7 (aG GWI FH rfl T.z_Zv (ae (pv 2) ag))) (ba (i:=9) nd rfl (Or.inl rfl)) (ar (aS (PW.pt (cY (aH aV (au (pv 9)) al (aL _)) (dO (aH Bc (au (pv 9)) (pv 5) rfl)))) (am (bV (fG (pv 8) (ae (aX (ae (au (pv 3)) (ae al (ae (au (pv 9)) ag)))) ag)) (by rfl))) a9) (am (aU (i:=8) nd rfl (Or.inl rfl) (aD fW (pv 8) (aG GUD E3 rfl T.z_Zq (ae (pv 0) (ae (au (pv 3)) (ae (pv 9) ag)))))))) (by intro _;rfl)) (am (aP (pv 8)))))))),?_⟩;dsimp only[cZ];obtain⟨a,c,pl,bs,h1,h2,h3,h4,_⟩:=hus k us[k] x (Qa hku) hk;refine⟨_,rfl,_,rfl,p,_,_,_,rfl,rfl,ak.of hp,bH (j:=k) (by rw[Qj,Qa hku];rfl),us[k],_,rfl,aq.of h1,rfl,_,_,rfl,_,_,rfl,rfl,?_⟩;refine az 1 rfl h3 rfl ⟨pl,_,rfl,.inl (ak.of h4),λkn hkn=>?_⟩;dsimp only[aR];have s1:=aj (o:=.lst (x.2.2.map V.str)) hkn;have E6:upd H kn (.lst (x.2.2.map V.str)) kn=some (.lst (x.2.2.map V.str)):=ah;generalize upd H kn (.lst (x.2.2.map V.str))=H1 at s1 E6 ⊢;have kept:∀{H':Hp} {o:HO},Same H H'->Same H (upd H' kn o):=λ{H' o} s b u e=>by rw[aE λz=>by rw[z,hkn] at e;cases e];exact s _ _ e
 refine eZ (λσ' H'=>Same H H'/\H' kn=some (.lst ((bn (rs.take k) x.2).map V.str))/\∃x6 x7,σ'=[some (.ref p),some (.int ((k:Nat):Int)),some v,some (.ref a),some (.ref c),some (.ref kn),x6,x7,none,none]) (λR FK=>?_) ?_
 ·refine⟨_,rfl,_,rfl,_,rfl,p,_,rfl,ak.of (s1 _ _ hp),λps F1=>⟨ps,rfl,⟨_,ak.of ah⟩,?_⟩⟩;rw[wY];have s2:=aj (o:=.lst ((us.map V.ref).take k)) F1;have HI:upd H1 ps (.lst ((us.map V.ref).take k)) ps=some (.lst ((us.map V.ref).take k)):=ah;have E1:=s2 _ _ E6;have EW:ps≠kn:=λz=>by rw[z,E6] at F1;cases F1
  have FQ:=s1.trans s2;generalize upd H1 ps (.lst ((us.map V.ref).take k))=H2 at FQ HI E1 ⊢;refine fc (K:=K0) (a:=ps) (xs:=(us.map V.ref).take k) (λi σ' H'=>Same H H'/\H' ps=some (.lst ((us.map V.ref).take k))/\H' kn=some (.lst ((bn (rs.take i) x.2).map V.str))/\∃x6 x7,σ'=[some (.ref p),some (.int ((k:Nat):Int)),some v,some (.ref a),some (.ref c),some (.ref kn),x6,x7,none,none]) ⟨FQ,HI,by rw[List.take_zero];unfold bn;simpa using E1,none,none,rfl⟩ (λi σ' H' _ h=>ak.of h.2.1) ?_ ?_
  ·rintro i y σ' H3 hy ⟨s3,hps3,EU,x6,x7,rfl⟩ E hN;have Fm:=(Qc hy).1;rw[Qx,Qf] at Fm;have hiu:i<us.length:=by lia
   have G2:i<rs.length:=by lia
   rw[List.getElem?_take_of_lt (by lia),Qj,Qa hiu] at hy;have hy:V.ref us[i]=y:=Qo hy;subst hy;obtain⟨a',c',pl',Fh,g1,g2,g3,g4,_⟩:=hus i us[i] rs[i] (Qa hiu) (Qa G2);refine⟨us[i],_,rfl,aq.of (s3 _ _ g1),rfl,_,_,rfl,_,_,rfl,rfl,?_⟩;have hka:=Eu G2 x.2;by_cases hs:rs[i].1.kw="set"
   ·obtain⟨r,n,e',et⟩:=wX hs;obtain⟨z,_,ET,Fb,_⟩:=wW (by rw[<-et];exact g2);have Fb:=s3 _ _ Fb;refine az 0 rfl Fb rfl ⟨rfl,_,rfl,eU (b2:=decide (rs[i].2.1=x.2.1)) (λ_ h=>(az 0 rfl (s3 _ _ g3) rfl (az 0 rfl (s3 _ _ h3) rfl ⟨rfl,_,rfl,by rw[km];exact h⟩))) ?_⟩;rw[bz,Qv rfl,Bool.true_and];refine bS (λg=>?_) (λg=>?_)
    ·have FP:=Et (rs.take i) x.2;rw[Qx] at FP;refine⟨_,rfl,.inl ⟨rfl,_,ak.of EU⟩,az 2 rfl Fb rfl ⟨kn,_,_,rfl,rfl,EU,bP (by rw[Qf];lia),?_⟩⟩;refine hN _ _ ⟨kept s3,by rw[aE EW];exact hps3,?_,_,_,rfl⟩;rw[ah,hka,if_pos (QJ g),et,QL];rfl
    ·refine hN _ _ ⟨s3,hps3,?_,_,_,rfl⟩;rw[hka,if_neg λz=>g (Qv z),Qy];exact EU
   ·obtain⟨ET,GG⟩:=jt g2;refine az 0 rfl (s3 _ _ GG) rfl ⟨rfl,_,rfl,?_⟩;rw[bz,Qi hs];refine bO (bO (hN _ _ ⟨s3,hps3,?_,_,_,rfl⟩));rw[hka,Ep hs,ite_self,Qy];exact EU
  ·rintro σ' H3 ⟨s3,hps3,EU,x6,x7,rfl⟩;refine FK _ _ ⟨s3,?_,x6,x7,rfl⟩;rw[Qx,Qf,Nat.min_eq_left (by lia)] at EU;exact EU
 rintro σ' H3 ⟨s3,EU,x6,x7,rfl⟩;refine⟨cP,λdu hdu=>?_⟩;have s4:=aj (o:=.lst ([]:List V)) hdu;have E5:=s4 _ _ EU;have hd4:upd H3 du (.lst ([]:List V)) du=some (.lst []):=ah
 have hdn:H du=none:=by
  cases hz:H du with
  |none=>rfl
  |some u=>rw[s3 _ _ hz] at hdu;cases hdu
 have hkd:kn≠du:=λz=>by rw[z,hdu] at EU;cases EU
 have IA:=s3.trans s4;generalize upd H3 du (.lst ([]:List V))=H4 at IA E5 hd4 ⊢;dsimp only[aR];obtain⟨rowr,Fb⟩:=jt h2;refine eZ (λσ' H'=>Same H H'/\∃q ys x9,H' q=some (.lst ys)/\aY H' ys (aN (rs.map (·.1)) (bn (rs.take k) x.2) x.1.row e)/\σ'=[some (.ref p),some (.int ((k:Nat):Int)),some v,some (.ref a),some (.ref c),some (.ref kn),x6,x7,some (.ref q),x9]) (λR FK=>?_) ?_
 ·refine⟨_,rfl,v,e,rfl,hE.kept IA.tups,hg,hd,by lia,λl ks H5 s5 hl Hx=>⟨l,rfl,⟨_,ak.of hl⟩,?_⟩⟩;have hd5:=s5 _ _ hd4;have HP:=s5 _ _ E5;have s35:=IA.trans s5;have hld:l≠du:=λz=>by rw[z,hd5] at hl;cases hl;have:=Hx.len;rw[wL] at this;simp at this
  have toH:∀{H':Hp},(∀b u,b≠du->H5 b=some u->H' b=some u)->Same H H':=λ{H'} f b u z=>f b u (λy=>by rw[y,hdn] at z;cases z) (s35 _ _ z);have toT:∀{H':Hp},(∀b u,b≠du->H5 b=some u->H' b=some u)->cL H5 H':=λ{H'} f b u z=>f b _ (λy=>by rw[y,hd5] at z;cases z) z;refine fc (K:=K0) (a:=l) (xs:=ks) (λi σ' H'=>(∀b u,b≠du->H5 b=some u->H' b=some u)/\∃q ys x9,(q=du∨H5 q=none)/\H' q=some (.lst ys)/\aY H' ys (((bu e).take i).flatMap (cC (rs.map (·.1)) (bn (rs.take k) x.2) x.1.row))/\σ'=[some (.ref p),some (.int ((k:Nat):Int)),some v,some (.ref a),some (.ref c),some (.ref kn),x6,x7,some (.ref q),x9]) ⟨λb u _ z=>z,du,[],none,.inl rfl,hd5,by rw[List.take_zero];exact gB,rfl⟩ (λi σ' H' _ h=>ak.of (h.1 _ _ hld hl)) ?_ ?_
  ·rintro i y σ' H6 hy ⟨s6,q,ys,x9,hqn,hq,EY,rfl⟩ E hN;obtain⟨ei,hei,hyi⟩:=Hx.get hy;have hgi:=jw e hg (Qk hei);have Fm:=(Qc hei).1;rw[fQ] at Fm;have FF:ys.length<=2*i:=by have h1:=gG (wZ (rs.map (·.1)) (bn (rs.take k) x.2) x.1.row) ((bu e).take i);rw[Qx,fQ] at h1;rw[EY.1];lia
   have hyi6:=hyi.kept (toT s6);refine dY (λσ' H'=>(∀b u,b≠du->H5 b=some u->H' b=some u)/\σ'=[some (.ref p),some (.int ((k:Nat):Int)),some v,some (.ref a),some (.ref c),some (.ref kn),x6,x7,some (.ref q),some y]/\∃zs,H' q=some (.lst zs)/\aY H' zs (((bu e).take i).flatMap (cC (rs.map (·.1)) (bn (rs.take k) x.2) x.1.row)++jv (bn (rs.take k) x.2) x.1.row ei)) (λR hR3=>?_) ?_
   ·by_cases hn:∃z,ei=.name z
    ·obtain⟨z,rfl⟩:=hn
     cases hyi6 with
     |name ht =>
      rename_i t;refine az 0 rfl ht rfl ⟨rfl,_,rfl,eU (b2:=!decide (z∈bn (rs.take k) x.2)) (λ_ h=>(az 1 rfl ht rfl ⟨_,rfl,kn,_,rfl,.inl (ak.of (s6 _ _ hkd HP)),rfl,w6 _,_,rfl,by rw[Ez rfl];exact h⟩)) ?_⟩;rw[bz,Qv rfl,Bool.true_and];by_cases hz:z∈bn (rs.take k) x.2
      ·rw[Qv hz];refine bO (hR3 _ _ ⟨s6,rfl,ys,hq,?_⟩);show aY _ _ (_++if z∈bn (rs.take k) x.2 then [] else [k3 x.1.row "unset" z]);rw[if_pos hz,Qy];exact EY
      ·rw[Qi hz,Bool.not_false,if_pos rfl];refine⟨_,rfl,.inl ⟨rfl,_,ak.of hq⟩,az 1 rfl (toH s6 _ _ Fb) rfl (az 1 rfl ht rfl ⟨cQ,λu hu=>?_⟩)⟩;have s7:=aj (o:=.tup [.int ((x.1.row:Nat):Int),.str "unset",.str z]) hu;have hq7:=s7 _ _ hq;have hu7:upd H6 u (.tup [.int ((x.1.row:Nat):Int),.str "unset",.str z]) u=some (.tup [.int ((x.1.row:Nat):Int),.str "unset",.str z]):=ah;generalize upd H6 u (.tup [.int ((x.1.row:Nat):Int),.str "unset",.str z])=H7 at s7 hq7 hu7 ⊢;have tq:cL H7 (upd H7 q (.lst (ys++[.ref u]))):=λb xs e=>by rw[aE λz=>by rw[z,hq7] at e;cases e];exact e
       refine⟨q,_,_,rfl,rfl,hq7,bP (by lia),hR3 _ _ ⟨λb w hb z=>?_,rfl,_,ah,?_⟩⟩
       ·rw[aE λy=>hqn.elim (λg=>hb (y.trans g)) λg=>by rw[y,g] at z;cases z];exact s7 _ _ (s6 _ _ hb z)
       ·show aY _ _ (_++if z∈bn (rs.take k) x.2 then [] else [k3 x.1.row "unset" z]);rw[if_neg hz];exact jg (cG (cG EY s7.tups) tq) (me (tq _ _ hu7))
    ·have hn:∀z,ei≠.name z:=λz g=>hn ⟨z,g⟩;obtain⟨t,z,ET,rfl,ht,hz⟩:=Ew hyi6 hgi hn;refine az 0 rfl ht rfl ⟨rfl,_,rfl,?_⟩;rw[bz,Qi hz];refine bO (bO (hR3 _ _ ⟨s6,rfl,ys,hq,?_⟩));rw[Ey hn,Qy];exact EY
   rintro σ' H7 ⟨s7,rfl,zs,hq7,F0⟩;have hzl:zs.length<=2*i+1:=by have h1:=gG (wZ (rs.map (·.1)) (bn (rs.take k) x.2) x.1.row) ((bu e).take i);have h2:=pL (bn (rs.take k) x.2) x.1.row ei;rw[Qx,fQ] at h1;rw[F0.1,Qr];lia
   refine⟨_,rfl,_,rfl,az 1 rfl (toH s7 _ _ Fb) rfl ⟨_,rfl,p,rs,x.1.row,y,ei,rfl,hR.same (toH s7),hyi.kept (toT s7),hgi,λr2 ws H8 s8 hr8 hws=>?_⟩⟩;have hwl:=hws.1;have huL:=pM (rs.map (·.1)) x.1.row ei;refine⟨q,r2,zs,ws,rfl,rfl,s8 _ _ hq7,hr8,QT (bP (by lia)),λp2 Hu=>?_⟩;have s9:=aj (o:=.lst (zs++ws)) Hu;have hb9:∀b u,b≠du->H5 b=some u->upd H8 p2 (.lst (zs++ws)) b=some u:=λb u hb z=>s9 _ _ (s8 _ _ (s7 _ _ hb z));refine hN _ _ ⟨hb9,p2,zs++ws,some y,?_,ah,?_,rfl⟩
   ·by_cases hpd:p2=du
    ·exact .inl hpd
    ·refine .inr ?_
     cases hz:H5 p2 with
     |none=>rfl
     |some u=>rw[s8 _ _ (s7 _ _ hpd hz)] at Hu;cases Hu
   ·have EX:=Qc hei;rw[Qm EX.1,EX.2,List.flatMap_append,List.flatMap_singleton,pJ,<-QN];exact jg (cG (cG F0 s8.tups) s9.tups) (cG hws s9.tups)
  ·rintro σ' H6 ⟨s6,q,ys,x9,hqn,hq,EY,rfl⟩;refine FK _ _ ⟨toH s6,q,ys,x9,hq,?_,rfl⟩;rw[Hx.len,QV,<-im] at EY;exact EY
 rintro σ' H6 ⟨s6,q,ys,x9,hq,EY,rfl⟩;exact⟨_,rfl,kq q ys _ s6 hq EY⟩
theorem EC(t:Tr):(br t).length<=1:=by unfold br;split<;>simp
theorem xg{t:Tr}:(decide (t.kw="def")||decide (t.kw="kind"))=t.hd.isSome:=by cases t<;>rfl
theorem xh{rs:List (Tr×Bd)}{i:Nat}(h:i<rs.length):((rs.take (i+1)).flatMap λq=>br q.1)=((rs.take i).flatMap λq=>br q.1)++br rs[i].1:=by rw[Qm h,List.flatMap_append];simp
theorem xi(tt:List Tr)(r:Nat)(z:Str):(eS tt r z).length<=1:=by
 unfold eS;split
 ·simp
 ·split<;>simp
inductive xj (vs:List V) (H:Hp) (Q:VK) (E:XK):Prop
 |mk:∀(p:Addr) (rs:List (Tr×Bd)) (k:Nat) (x:Tr×Bd) (hq:Str×Str),vs=[.ref p,.int ((k:Nat):Int)]->gF H p rs->rs.length<=22->rs[k]?=some x->x.1.hd=some hq->x.1.prs.length<=20->(∀q ys H',Same H H'->H' q=some (.lst ys)->aY H' ys (fP (rs.map (·.1)) (rs.take k) x)->Q (.ref q) H')->xj vs H Q E
noncomputable abbrev pN:List Str:=["_law_rows_here","_law_k","_law_row_here","_law_due","_law_kind"]
theorem xl:be pN ["_law_rows_here","_law_k"] (aM j9):=⟨rfl,rfl,rfl,by decide +kernel,rfl,by decide +kernel,by decide +kernel⟩
theorem ED(T:All P w K mg AA DD):aI P w K mg base aK 3 AA.Zn DD.Zn ["_law_rows_here","_law_k"] xj:=by
 have GFI:=wS (base:=base) T;refine T.z_Zn.F.ok xl (λvs H Q E h=>by cases h;subst_vars;rfl) λE2 A outer s H vs Q E hr h=>?_;obtain⟨p,rs,k,x,hq,rfl,hR,hrl,hk,hhd,Fx,kq⟩:=h;have nd:=xl.nd;have E3:aB 2 _:=hr;have Fd:aB 1 _:=E3.mono (by lia);obtain⟨us,hp,G5,hus⟩:=id hR;have FP:=(Qc hk).1;have hku:k<us.length:=by lia
 refine⟨_,(ar (aU (i:=2) nd rfl (Or.inl rfl) (au (ck cW (pv 0) (pv 1) (λ_ _=>rfl)))) (ar (aU (i:=3) nd rfl (Or.inl rfl) (bJ ag)) (ar (aS (aH j3 (au (pv 2)) (jM (xs:=["_law_other","_law_its"]) (aM j9) pN [] [] rfl (by exact⟨rfl,rfl,by decide +kernel,by decide +kernel,by decide +kernel,by decide +kernel,by decide +kernel,rfl,by decide +kernel⟩) rfl rfl (c7 (gm ss (pv 0) gk (gl (pv 1)))) (λ_ _ _ _=>(dF (n:=2) rfl (bv (ba (i:=0) (show(["_law_other","_law_its"]:List Str).Nodup by decide +kernel) rfl (Or.inl rfl)) (bv (ba (i:=1) (show(["_law_other","_law_its"]:List Str).Nodup by decide +kernel) rfl (Or.inl rfl)) dz)))) (λ_ _ _ _=>kO (PW.pt (gH (aH aV (au (pv 0)) al (aL _)) (iu (aH aV (au (pv 0)) al (aL _)))))) (λ_ _ _ _=>(au (pv 0)))) rfl) (am (bV (fG (pv 3) (ae (aX (ae (au (pv 2)) (ae al (ae (au (pv 2)) ag)))) ag)) (by rfl))) a9) (ar (aS (aH aV (au (pv 2)) al (aL _)) (am (db PassesOwn.never rfl (c7 (aD fW (bJ (ae (au (pv 2)) ag)) (fX (aM j9) pN [] [] rfl (by exact⟨rfl,rfl,by decide +kernel,rfl,by decide +kernel,by decide +kernel,by decide +kernel,rfl,by decide +kernel⟩) rfl rfl (gx (au (pv 2))) (λ_ _ _ _=>eE) (λ_ _ _ _=>(au (pv 0)))))) (ba (i:=4) nd rfl (Or.inl rfl)) (am (aS (PW.pt (cY (aH fT (pv 4) al (aL _)) (cY (aH fT (pv 4) al (aL _)) (dO (iq (ml (aG GFI Fd rfl T.z_ZD (ae (pv 0) (ae al (ae (pv 4) ag)))))))))) (am (bV (fG (pv 3) (ae (aX (ae (au (pv 2)) (ae al (ae (pv 4) ag)))) ag)) (by rfl))) a9)) (by intro _;rfl))) a9) (am (aP (pv 3))))))),?_⟩;obtain⟨a,c,pl,bs,h1,h2,h3,h4,_⟩:=hus k us[k] x (Qa hku) hk;obtain⟨rowr,Fb⟩:=pI h2 hhd;refine⟨_,rfl,_,rfl,p,_,_,_,rfl,rfl,ak.of hp,bH (j:=k) (by rw[Qj,Qa hku];rfl),us[k],_,_,_,rfl,rfl,aq.of h1,bH (j:=0) rfl,?_⟩;dsimp only[aR];refine⟨cP,λdu hdu=>?_⟩;have s1:=aj (o:=.lst ([]:List V)) hdu;have G3:upd H du (.lst ([]:List V)) du=some (.lst []):=ah;generalize upd H du (.lst ([]:List V))=H1 at s1 G3 ⊢;dsimp only[aR];have kept:∀{H':Hp} {o:HO},Same H H'->Same H (upd H' du o):=λ{H' o} s b u e=>by rw[aE λz=>by rw[z,hdu] at e;cases e];exact s _ _ e
 refine dY (λσ' H'=>Same H H'/\σ'=[some (.ref p),some (.int ((k:Nat):Int)),some (.ref a),some (.ref du),none]/\∃ys,H' du=some (.lst ys)/\aY H' ys (cq ((rs.take k).flatMap λq=>br q.1) x.1)) (λR FK=>?_) ?_
 ·refine az 2 rfl (s1 _ _ Fb) rfl ⟨_,rfl,_,rfl,_,rfl,p,_,rfl,ak.of (s1 _ _ hp),λps F1=>⟨ps,rfl,⟨_,ak.of ah⟩,?_⟩⟩;rw[wY];have s2:=aj (o:=.lst ((us.map V.ref).take k)) F1;have HI:upd H1 ps (.lst ((us.map V.ref).take k)) ps=some (.lst ((us.map V.ref).take k)):=ah;have GJ:=s2 _ _ G3;have FQ:=s1.trans s2;generalize upd H1 ps (.lst ((us.map V.ref).take k))=H2 at FQ HI GJ ⊢;refine kY (K:=K0) (a:=ps) (xs:=(us.map V.ref).take k) (λi ys H'=>H'=H2/\i<=22/\ys=((rs.take i).flatMap λq=>br q.1).map V.str) ⟨rfl,QC _,rfl⟩ (λi ys H' _ h=>by rw[h.1];exact ak.of HI) ?_ ?_
  ·rintro i y ys H' hy ⟨rfl,hi22,rfl⟩;have Fm:=(Qc hy).1;rw[Qx,Qf] at Fm;have hiu:i<us.length:=by lia
   have G2:i<rs.length:=by lia
   rw[List.getElem?_take_of_lt (by lia),Qj,Qa hiu] at hy;have hy:V.ref us[i]=y:=Qo hy;subst hy;obtain⟨a',c',pl',Fh,g1,g2,g3,g4,_⟩:=hus i us[i] rs[i] (Qa hiu) (Qa G2);intro os FO;obtain⟨o1,o2,rfl⟩:=iW FO;refine⟨us[i],_,rfl,aq.of (FQ _ _ g1),rfl,_,_,rfl,_,_,rfl,rfl,⟨[_,_],rfl,rfl⟩,?_⟩;obtain⟨ET,GG⟩:=jt g2;have GG:=FQ _ _ GG;refine az 0 rfl GG rfl ⟨rfl,_,rfl,ij (b2:=decide (rs[i].1.kw="kind")) (λh=>(az 0 rfl GG rfl ⟨rfl,_,rfl,by rw[bz];exact h⟩)) ?_⟩;rw[bz,xg]
   cases hh:rs[i].1.hd with
   |none =>
    refine bO ⟨rfl,by lia,?_⟩;have hn:br rs[i].1=[]:=by unfold br;rw[hh]
    rw[xh G2,hn,Qy]
   |some q' =>
    obtain⟨rest',hrw⟩:=pI g2 hh;have hn:br rs[i].1=[q'.2]:=by unfold br;rw[hh]
    have hfl:=gG (f:=λq:Tr×Bd=>br q.1) (c:=1) (λq=>EC q.1) (rs.take i);rw[Qx] at hfl;refine dh (az 2 rfl (FQ _ _ hrw) rfl ⟨bP (by rw[Qf];lia),rfl,by lia,?_⟩);rw[xh G2,hn,QL];rfl
  ·rintro ys H' ⟨rfl,_,rfl⟩ q2 Fq;rw[Qx,Qf,Nat.min_eq_left (by lia)];generalize F0:((rs.take k).flatMap λq=>br q.1)=zs at FK ⊢;have s3:=aj (o:=.lst (zs.map V.str)) Fq;have Ij:upd H' q2 (.lst (zs.map V.str)) q2=some (.lst (zs.map V.str)):=ah;have Hq:=s3 _ _ GJ;have s13:=FQ.trans s3;generalize upd H' q2 (.lst (zs.map V.str))=H3 at s13 Ij Hq ⊢;refine⟨q2,_,rfl,.inl (ak.of Ij),rfl,w6 _,_,rfl,?_⟩;rw[fM rfl]
   have et:cq zs x.1=if hq.2∈zs then [k3 x.1.row "twice" hq.2] else []:=by unfold cq;rw[hhd]
   rw[et] at FK;by_cases hz:hq.2∈zs
   ·rw[Qv hz];rw[if_pos hz] at FK;have hrow3:=s13 _ _ Fb;refine dh ⟨_,rfl,.inl ⟨rfl,_,ak.of Hq⟩,az 1 rfl hrow3 rfl (az 2 rfl hrow3 rfl ⟨cQ,λu hu=>?_⟩)⟩;have s4:=aj (o:=.tup [.int ((x.1.row:Nat):Int),.str "twice",.str hq.2]) hu;have hu4:upd H3 u (.tup [.int ((x.1.row:Nat):Int),.str "twice",.str hq.2]) u=some (.tup [.int ((x.1.row:Nat):Int),.str "twice",.str hq.2]):=ah;have hd4:=s4 _ _ Hq;have s14:=s13.trans s4;generalize upd H3 u (.tup [.int ((x.1.row:Nat):Int),.str "twice",.str hq.2])=H4 at s14 hu4 hd4 ⊢;exact⟨du,_,_,rfl,rfl,hd4,bP (by decide),FK _ _ ⟨kept s14,rfl,_,ah,me (by rw[aE λz=>by rw[z,hd4] at hu4;cases hu4];exact hu4)⟩⟩
   ·rw[Qi hz];rw[if_neg hz] at FK;exact bO (FK _ _ ⟨s13,rfl,[],Hq,gB⟩)
 rintro σ' H2 ⟨s2,rfl,ys,GJ,EY⟩;refine dY (λσ' H'=>Same H H'/\(∃x4,σ'=[some (.ref p),some (.int ((k:Nat):Int)),some (.ref a),some (.ref du),x4])/\∃ys,H' du=some (.lst ys)/\aY H' ys (fP (rs.map (·.1)) (rs.take k) x)) (λR FK=>?_) ?_
 ·refine az 0 rfl (s2 _ _ Fb) rfl ⟨rfl,_,rfl,?_⟩;rw[bz];obtain⟨t,b⟩:=x;have FF:ys.length<=1:=by rw[EY.1];unfold cq;rw[show t.hd=some hq from hhd];dsimp only;split<;>simp
  cases t with
  |kd r n ps =>
   refine cN (Qi (by show("kind":Str)≠"def";decide +kernel)) (FK _ _ ⟨s2,⟨_,rfl⟩,ys,GJ,?_⟩);show aY _ _ (_++[]);rw[Qy];exact EY
  |df r n kd ps bd =>
   obtain⟨pt,Hs,Jh,Gk,hPl,GP⟩:=md h2;have Fx:ps.length<=20:=Fx;refine dh (az 3 rfl (s2 _ _ Jh) rfl ⟨eM,λq hq=>?_⟩);have s3:=aj (o:=.lst [.str kd]) hq;have Ij:upd H2 q (.lst [.str kd]) q=some (.lst [.str kd]):=ah;have Hq:=s3 _ _ GJ;have hys3:=cG EY s3.tups;have s23:=s2.trans s3;generalize upd H2 q (.lst [.str kd])=H3 at s23 Ij Hq hys3 ⊢;refine az 4 rfl (s23 _ _ Jh) rfl ⟨pt,rfl,⟨_,aq.of (s23 _ _ Gk)⟩,?_⟩;refine jQ (K:=K0) (a:=pt) (xs:=Hs.map V.ref) (λi ys H'=>H'=H3/\i<=Hs.length/\ys=((ps.take i).map (·.2)).map V.str) ⟨rfl,QC _,rfl⟩ (λi ys H' _ h=>by rw[h.1];exact aq.of (s23 _ _ Gk)) ?_ ?_
   ·rintro i y Gn H' hy ⟨rfl,hi2,rfl⟩;obtain⟨FS,ey⟩:=j0 hy;subst ey;have Il:i<ps.length:=by lia
    have hu2:=s23 _ _ (GP i Hs[i] ps[i] (Qa FS) (Qa Il));refine eD (dh ⟨_,rfl,Hs[i],_,_,_,rfl,rfl,aq.of hu2,bH (j:=1) rfl,bP (by rw[Qf,Qf,Qx];lia),rfl,by lia,?_⟩);rw[Qm Il,QL,QL];rfl
   ·rintro Gn H' ⟨rfl,_,rfl⟩ q2 Fq;have etk:ps.take (Hs.map V.ref).length=ps:=by rw[Qf,hPl,QV]
    rw[etk];have s4:=aj (o:=.lst ((ps.map (·.2)).map V.str)) Fq;refine⟨q,q2,[.str kd],(ps.map (·.2)).map V.str,rfl,rfl,s4 _ _ Ij,ah,?_,λl8 IV=>?_⟩
    ·simp only[Qr,Qf,QM,List.length_nil];exact QT (bP (by lia))
    have s5:=aj (o:=.lst ([.str kd]++(ps.map (·.2)).map V.str)) IV;have hd5:=s5 _ _ (s4 _ _ Hq);have Iw:=cG (cG hys3 s4.tups) s5.tups;have s25:=(s23.trans s4).trans s5;generalize F0:kd::ps.map (·.2)=ks;have ek:[V.str kd]++(ps.map (·.2)).map V.str=ks.map V.str:=by rw[<-F0];rfl
    have Hx:ks.length<=21:=by rw[<-F0,QM,Qf];lia
    rw[ek] at s25 hd5 Iw ⊢;have hl9:upd (upd H' q2 (.lst ((ps.map (·.2)).map V.str))) l8 (.lst (ks.map V.str)) l8=some (.lst (ks.map V.str)):=ah;generalize upd (upd H' q2 (.lst ((ps.map (·.2)).map V.str))) l8 (.lst (ks.map V.str))=H5 at s25 hd5 Iw hl9 ⊢;have hld:l8≠du:=λz=>by rw[z,s4 _ _ Hq] at IV;cases IV
    refine⟨l8,rfl,⟨_,ak.of hl9⟩,?_⟩;refine fc (K:=K0) (a:=l8) (xs:=ks.map V.str) (λi σ' H'=>Same H H'/\H' l8=some (.lst (ks.map V.str))/\(∃x4,σ'=[some (.ref p),some (.int ((k:Nat):Int)),some (.ref a),some (.ref du),x4])/\∃zs,H' du=some (.lst zs)/\aY H' zs (cq ((rs.take k).flatMap λq=>br q.1) (.df r n kd ps bd)++bQ (rs.map (·.1)) r (ks.take i))) ⟨s25,hl9,⟨_,rfl⟩,ys,hd5,by rw[List.take_zero];unfold bQ;simpa using Iw⟩ (λi σ' H' _ h=>ak.of h.2.1) ?_ ?_
    ·rintro i y σ' H6 hy ⟨s6,hl6,⟨x4,rfl⟩,zs,hd6,HG⟩ D1 hN;obtain⟨hi,ey⟩:=j0 hy;subst ey;have hkt:=vk (tt:=rs.map (·.1)) (r:=r) hi;have none:eS (rs.map (·.1)) r ks[i]=[]->aY H6 zs (cq ((rs.take k).flatMap λq=>br q.1) (.df r n kd ps bd)++bQ (rs.map (·.1)) r (ks.take (i+1))):=λe=>by rw[hkt,e,Qy];exact HG
     dsimp only[aR];by_cases e1:ks[i]="num"
     ·refine⟨_,rfl,rfl,_,rfl,?_⟩;rw[bz,Qv e1];exact bO (bO (hN _ _ ⟨s6,hl6,⟨_,rfl⟩,zs,hd6,none (if_pos (by rw[e1];decide +kernel))⟩))
     refine⟨_,rfl,rfl,_,rfl,?_⟩;rw[bz,Qi e1,Bool.not_false];by_cases e2:ks[i]="truth"
     ·refine dh ⟨_,rfl,rfl,_,rfl,?_⟩;rw[bz,Qv e2];exact bO (bO (hN _ _ ⟨s6,hl6,⟨_,rfl⟩,zs,hd6,none (if_pos (by rw[e2];decide +kernel))⟩))
     refine dh ⟨_,rfl,rfl,_,rfl,?_⟩;rw[bz,Qi e2,Bool.not_false];have hnp:ks[i]∉jd:=λz=>by simp[jd,e1,e2] at z
     refine dh ⟨_,rfl,_,rfl,p,rs,"kind",ks[i],rfl,hR.same s6,by decide +kernel,λhn=>?_,λt' Ii a' Fh Fj=>?_⟩
     ·have E6:eS (rs.map (·.1)) r ks[i]=[k3 r "nokind" ks[i]]:=by unfold eS fN;rw[if_neg hnp,hn];rfl
      have hrow6:=s6 _ _ Jh;refine⟨_,rfl,dh ⟨_,rfl,.inl ⟨rfl,_,ak.of hd6⟩,az 1 rfl hrow6 rfl ⟨_,rfl,cQ,λu hu=>?_⟩⟩⟩;have s7:=aj (o:=.tup [.int ((r:Nat):Int),.str "nokind",.str ks[i]]) hu;have hu7:upd H6 u (.tup [.int ((r:Nat):Int),.str "nokind",.str ks[i]]) u=some (.tup [.int ((r:Nat):Int),.str "nokind",.str ks[i]]):=ah;have hd7:=s7 _ _ hd6;have hl7:=s7 _ _ hl6;have s67:=s6.trans s7;generalize upd H6 u (.tup [.int ((r:Nat):Int),.str "nokind",.str ks[i]])=H7 at s7 s67 hu7 hd7 hl7 ⊢;have tq:cL H7 (upd H7 du (.lst (zs++[.ref u]))):=λb xs e=>by rw[aE λz=>by rw[z,hd7] at e;cases e];exact e
      have hzl:zs.length<=22:=by have h1:=gG (f:=eS (rs.map (·.1)) r) (c:=1) (xi _ r) (ks.take i);rw[Qx] at h1;rw[HG.1,Qr,<-EY.1];unfold bQ;lia
      refine⟨du,_,_,rfl,rfl,hd7,bP (by lia),hN _ _ ⟨kept s67,by rw[aE hld];exact hl7,⟨_,rfl⟩,_,ah,?_⟩⟩;rw[hkt,E6,<-QN];exact jg (cG (cG HG s7.tups) tq) (me (tq _ _ hu7))
     ·refine⟨_,rfl,bO (hN _ _ ⟨s6,hl6,⟨_,rfl⟩,zs,hd6,none ?_⟩)⟩;unfold eS fN;rw[if_neg hnp,Ii];rfl
    ·rintro σ' H6 ⟨s6,hl6,⟨x4,rfl⟩,zs,hd6,HG⟩;rw[Qf,QV] at HG;refine FK _ _ ⟨s6,⟨_,rfl⟩,zs,hd6,?_⟩;rw[<-F0] at HG;exact HG
  |_=>cases hhd
 rintro σ' H3 ⟨s3,⟨x4,rfl⟩,zs,Hq,F0⟩;exact⟨_,rfl,kq du zs _ s3 Hq F0⟩
def ku(x:Tr×Bd):Prop:=(∀e,x.1.ex=some e->e.fit)/\x.1.prs.length<=20/\x.2.2.length<=20
mutual
theorem EE:∀(t:Tr) (b:Bd),b.2.length<=20->t.asc->∀x∈aZ b t,ku x
 |.set r n e,b,hb,h,x,hx=>by rw[aZ] at hx;rw[Qp hx];exact⟨λe' z=>by cases z;exact h,QC _,hb⟩
 |.tell r e,b,hb,h,x,hx=>by rw[aZ] at hx;rw[Qp hx];exact⟨λe' z=>by cases z;exact h,QC _,hb⟩
 |.give r e,b,hb,h,x,hx=>by rw[aZ] at hx;rw[Qp hx];exact⟨λe' z=>by cases z;exact h,QC _,hb⟩
 |.kd r n ps,b,hb,h,x,hx=>by rw[aZ] at hx;rw[Qp hx];exact⟨λe' z=>(nomatch z),h,hb⟩
 |.iff r e y o,b,hb,h,x,hx=>by
  rw[aZ] at hx;rcases Qn hx with z|hx
  ·rw[z];exact⟨λe' z=>by cases z;exact h.1,QC _,hb⟩
  rcases Qq hx with hx|hx
  ·exact seqB_ok y b hb h.2.1.2 x hx
  ·exact seqB_ok o b hb h.2.2.2 x hx
 |.whl r e y,b,hb,h,x,hx=>by
  rw[aZ] at hx;rcases Qn hx with z|hx
  ·rw[z];exact⟨λe' z=>by cases z;exact h.1,QC _,hb⟩
  ·exact seqB_ok y b hb h.2.2 x hx
 |.df r n k ps y,b,hb,h,x,hx=>by
  rw[aZ] at hx;rcases Qn hx with z|hx
  ·rw[z];exact⟨λe' z=>(nomatch z),h.1,hb⟩
  ·exact seqB_ok y _ (by rw[Qf];exact h.1) h.2.2 x hx
theorem seqB_ok:∀(ts:List Tr) (b:Bd),b.2.length<=20->ascs ts->∀x∈seqB b ts,ku x
 | [],b,hb,h,x,hx=>by simp[seqB] at hx
 |t::ts,b,hb,h,x,hx=>by
  rw[seqB] at hx;rcases Qq hx with hx|hx
  ·exact EE t b hb h.1 x hx
  ·exact seqB_ok ts b hb h.2.2 x hx
end
theorem EF{t:Tr}{e:Ex}(he:t.ex=some e)(h:t.kw≠"set"):t.pre=[.s t.kw,.i t.row,.e e]:=by
 cases t with
 |set r n e'=>exact absurd rfl h
 |df r n k ps b=>cases he
 |kd r n ps=>cases he
 |_=>cases he;rfl
theorem EG{H:Hp}{a:Addr}{t:Tr}{bs:List Addr}{e:Ex}(h:cy H a t bs)(he:t.ex=some e):(t.kw="set"/\∃x y z v ET,H a=some (.tup (x::y::z::v::ET))/\bf H v e)∨(t.kw≠"set"/\∃x y v ET,H a=some (.tup (x::y::v::ET))/\bf H v e):=by
 by_cases hk:t.kw="set"
 ·obtain⟨r,n,e',rfl⟩:=wX hk;cases he;obtain⟨x,v,ET,h1,h2⟩:=wW h;exact .inl ⟨rfl,_,_,_,_,_,h1,h2⟩
 ·obtain⟨vs,h1,h2⟩:=jr h;rw[EF he hk] at h2;obtain⟨q,e1,h2⟩:=dI h2;obtain⟨v,e4,hx⟩:=kc h2;exact .inr ⟨hk,_,_,v,_,by rw[h1,e1,e4];rfl,hx⟩
theorem xm(t:Tr):(∃q,t.hd=some q)∨(t.hd=none/\∃e,t.ex=some e):=by
 cases t with
 |df r n k ps b=>exact .inl ⟨_,rfl⟩
 |kd r n ps=>exact .inl ⟨_,rfl⟩
 |_=>exact .inr ⟨rfl,_,rfl⟩
theorem xn{tt:List Tr}{P:List (Tr×Bd)}{x:Tr×Bd}{e:Ex}(hh:x.1.hd=none)(he:x.1.ex=some e):fP tt P x=aN tt (bn P x.2) x.1.row e:=by
 obtain⟨t,b⟩:=x;unfold fP cq f9
 cases t with
 |df r n k ps b=>cases hh
 |kd r n ps=>cases hh
 |_=>cases he;rfl
theorem xq{tt:List Tr}{rs:List (Tr×Bd)}{i:Nat}(h:i<rs.length):cD tt [] (rs.take (i+1))=cD tt [] (rs.take i)++fP tt (rs.take i) rs[i]:=by rw[Qm h,vS,List.nil_append,cD,cD,Qy]
theorem EH(tt:List Tr)(kn:List Str)(r:Nat)(e:Ex):(cC tt kn r e).length<=1:=by
 rw[pJ]
 cases e with
 |name z=>rw[show uO tt r (.name z)=[] from rfl,Qy];exact pL _ _ _
 |many w z es=>exact pM tt r (.many w z es)
 |_=>exact QC _
theorem EI{tt:List Tr}{P:List (Tr×Bd)}{x:Tr×Bd}(h:ku x)(hc:∀e,x.1.ex=some e->e.sz<=125):(fP tt P x).length<=125:=by
 obtain⟨t,b⟩:=x
 rcases xm t with ⟨q,hq⟩|⟨hn,e,he⟩
 ·have h1:(cq (P.flatMap λq=>br q.1) t).length<=1:=by unfold cq;rw[hq];dsimp only;split<;>simp
  have h2:=h.2.1;unfold fP f9;rw[Qr];dsimp only
  cases t with
  |df r n k ps b =>
   have h3:=gG (xi tt r) (k::ps.map (·.2));rw[QM,Qf] at h3;have h2:ps.length<=20:=h2;show _+(bQ tt r (k::ps.map (·.2))).length<=_;unfold bQ;lia
  |kd r n ps=>show _+0<=_;lia
  |_=>cases hq
 ·rw[xn hn he,im];have h3:=gG (EH tt (bn P b) t.row) (bu e);have h4:=hc e he;rw[fQ] at h3;exact QK h3 (by lia)
theorem xr{tt:List Tr}:∀(s P:List (Tr×Bd)),(∀x∈s,ku x/\∀e,x.1.ex=some e->e.sz<=125)->(cD tt P s).length<=125*s.length
 | [],P,h=>by simp[cD]
 |x::s,P,h=>by have h1:=EI (tt:=tt) (P:=P) (h x (.head _)).1 (h x (.head _)).2;have h2:=xr (tt:=tt) s (P++[x]) λy hy=>h y (.tail _ hy);rw[cD,Qr,QM];lia
theorem pO{H:Hp}{tp ra:Addr}{ts:List Tr}{rs:List (Tr×Bd)}(h:pF H tp ra ts rs)(d:List af):d∈FN ts↔d∈cD (rs.map (·.1)) [] rs:=by rw[h.seq];exact Dw (by decide) rfl h.top h.asc d
theorem xu:∀{xs:List V},(∀x∈xs,∃a,x=V.ref a)->∃bs:List Addr,xs=bs.map V.ref
 | [],_=>⟨[],rfl⟩
 |x::xs,h=>by obtain⟨a,rfl⟩:=h x (.head _);obtain⟨bs,rfl⟩:=xu λy hy=>h y (.tail _ hy);exact⟨a::bs,rfl⟩
theorem EJ{H:Hp}{xs:List V}{ks:List (List af)}(h:aY H xs ks):∃bs:List Addr,xs=bs.map V.ref:=xu λx hx=>by obtain⟨i,hi⟩:=List.mem_iff_getElem?.mp hx;have hl:=(Qc hi).1;obtain⟨t,e,_⟩:=h.2 i x _ hi (Qa (by rw[<-h.1];exact hl));exact⟨t,e⟩
theorem EK:bootBuiltins "set"=some (.type "set"):=by decide +kernel
inductive ky (K:W.Frag) (vs:List V) (H:Hp) (Q:VK) (E:XK):Prop
 |mk:∀(a:Addr) (ns:List Int),vs=[.ref a]->ak K H a (ns.map V.int)->ns.length<=63->(∀H',Q (.bl true) H')->ky K vs H Q E
noncomputable abbrev EL:List Str:=["_law_script","_law_tree","_law_rows_here","_law_due","_law_k","_law_row_here","_law_found"]
theorem xv:be EL ["_law_script"] (aM oI):=⟨rfl,rfl,rfl,by decide +kernel,rfl,by decide +kernel,by decide +kernel⟩
theorem EM(T:All P w K mg AA DD){f:Addr}{fd:FuncData}(F:jJ K "law" "law" oI f fd):aI P w K mg base aK 40 f fd ["_law_script"] (ky K):=by
 have GD0:=DP (base:=base) T;have GRS:=D8 (base:=base) T;have GHE:=ED (base:=base) T;have GED:=EB (base:=base) T;have GPN:=Dk (base:=base) T;refine F.ok xv (λvs H Q E h=>by cases h;subst_vars;rfl) λE2 A outer s H vs Q E hr h=>?_;obtain⟨a,is,rfl,hS,_,kq⟩:=h;have nd:=xv.nd;have hu:=hr.units;have hrP:aB 25 _:=hr.mono (by decide);have E3:aB 2 _:=hr.mono (by decide);have FD:aB 3 _:=hr.mono (by decide);have hr12:aB 12 _:=hr.mono (by decide);have hr11:aB 11 _:=hr.mono (by decide);have hu3:=Qz (Nat.add_le_add_left (show 3<=64 by decide) _) hr.units;refine⟨_,(ar (mr (aG GRS hr11 rfl T.z_ZI (ae (aG GD0 E3 rfl T.z_ZA (ae (pv 0) ag)) ag)) (dF rfl (bv (ba (i:=1) nd rfl (Or.inl rfl)) (bv (ba (i:=2) nd rfl (Or.inl rfl)) dz)))) (ar (aU (i:=3) nd rfl (Or.inl rfl) (bJ ag)) (ar (db PassesOwn.never rfl (gK rfl T.n_range (ae (ci d5 rfl T.n_len di (ae (pv 2) ag)) ag)) (ba (i:=4) nd rfl (Or.inl rfl)) (ar (aU (i:=5) nd rfl (Or.inl rfl) (au (ck cW (pv 2) (pv 4) (λ_ _=>rfl)))) (am (aS (PW.pt (gH (aH aV (au (pv 5)) al (aL _)) (iu (aH aV (au (pv 5)) al (aL _))))) (am (aU (i:=3) nd rfl (Or.inl rfl) (aD fW (pv 3) (aG GHE FD rfl T.z_Zn (ae (pv 2) (ae (pv 4) ag)))))) (am (aS (aH aV (au (pv 5)) al (aL _)) (am (aU (i:=3) nd rfl (Or.inl rfl) (aD fW (pv 3) (aG GED hr12 rfl T.z_Zm (ae (pv 2) (ae (pv 4) (ae (au (pv 5)) ag))))))) (am (aU (i:=3) nd rfl (Or.inl rfl) (aD fW (pv 3) (aG GED hr12 rfl T.z_Zm (ae (pv 2) (ae (pv 4) (ae (au (pv 5)) ag)))))))))))) (by intro _;rfl)) (ar (aU (i:=6) nd rfl (Or.inl rfl) (aG GPN hrP rfl T.z_Zo (ae (pv 1) ag))) (am (aP (xR (ci (lu (K:=K) (n:="list") rfl) rfl T.n_isinstance kP (ae (pv 6) (ae (kF (v:=.ty "list") rfl T.n_list gR rfl) ag))) (xQ (@yo _ _ _ _ _ _ _ _ (BZ hu) (pv 6) (ci (BX rfl) rfl T.n_sorted r9 (ae (fA (BW (K:=K) rfl rfl hu3) rfl T.n_set EK (ae (pv 3) ag)) ag)) (aL _)))))))))),?_⟩;dsimp only[cZ];refine⟨_,rfl,a,is,rfl,hS,λd H1 hd s1 hD=>⟨d,rfl,⟨a,is,hD,s1.seq hS⟩,λq tp ra ts rs H2 b2 hq hT=>⟨q,_,rfl,aq.of hq,rfl,_,_,rfl,_,_,rfl,rfl,?_⟩⟩⟩;refine⟨cP,λdu hdu=>?_⟩;have s3:=aj (o:=.lst ([]:List V)) hdu;have Hq:upd H2 du (.lst ([]:List V)) du=some (.lst []):=ah;have hRs:=hT.rows.same s3;obtain⟨xs,hxs,hL⟩:=hT.tree;have hxs:=s3 _ _ hxs;have hL:=hL.kept s3.ls;generalize upd H2 du (.lst ([]:List V))=H3 at hRs Hq hxs hL ⊢;dsimp only[aR];have EZ:=hT.len
 have hok:∀x∈rs,ku x/\∀e,x.1.ex=some e->e.sz<=125:=λx hx=>⟨seqB_ok ts _ (QC _) hT.ok.2.2.1 x (by rw[<-hT.seq];exact hx),hT.co x hx⟩
 have hll:∀i,(cD (rs.map (·.1)) [] (rs.take i)).length<=2750:=λi=>by have:=xr (tt:=rs.map (·.1)) (rs.take i) [] λx hx=>hok x (List.mem_of_mem_take hx);rw[Qx] at this;lia
 obtain⟨us,hra,G5,hus⟩:=id hRs;refine eZ (λσ' H'=>Same H3 H'/\∃q ys x4 x5,H' q=some (.lst ys)/\aY H' ys (cD (rs.map (·.1)) [] rs)/\σ'=[some (.ref a),some (.ref tp),some (.ref ra),some (.ref q),x4,x5,none]) (λR hR=>?_) ?_
 ·refine⟨_,rfl,ra,_,rfl,.inl (ak.of hra),_,rfl,?_,?_,?_⟩
  ·show _<=(((us.map V.ref).length:Nat):Int);lia
  ·show(((us.map V.ref).length:Nat):Int)<_;rw[Qf];lia
  rw[QU];refine nz (D:=⟨R,_,R,R⟩) (λi σ' H'=>Same H3 H'/\∃q ys x4 x5,H' q=some (.lst ys)/\aY H' ys (cD (rs.map (·.1)) [] (rs.take i))/\σ'=[some (.ref a),some (.ref tp),some (.ref ra),some (.ref q),x4,x5,none]) ⟨Same.refl _,du,[],none,none,Hq,gB,rfl⟩ ?_ ?_
  ·rintro i σ' H4 hi ⟨s4,q,ys,x4,x5,hq4,EY,rfl⟩ D1 hN;rw[Qf] at hi;have G2:i<rs.length:=by lia
   rw[Int.zero_add];obtain⟨a',c',pl',Fh,g1,g2,g3,g4,_⟩:=hus i us[i] rs[i] (Qa hi) (Qa G2);refine⟨_,rfl,_,rfl,ra,_,_,_,rfl,rfl,ak.of (s4 _ _ hra),bH (j:=i) (by rw[Qj,Qa hi];rfl),us[i],_,_,_,rfl,rfl,aq.of (s4 _ _ g1),bH (j:=0) rfl,?_⟩;dsimp only[aR];have FF:=EY.1;have Fe:=hll i;have Ik:=hll (i+1);rw[xq G2,Qr] at Ik;have cat:∀(q2:Addr) (zs:List V) (H5:Hp),Same H4 H5->H5 q2=some (.lst zs)->aY H5 zs (fP (rs.map (·.1)) (rs.take i) rs[i])->mL (.ref q) (.ref q2) H5 λv H6=>D1.nx [some (.ref a),some (.ref tp),some (.ref ra),some v,some (.int ((i:Nat):Int)),some (.ref a'),none] H6:=λq2 zs H5 s5 Fq F0=>by have hzl:=F0.1;refine⟨q,q2,ys,zs,rfl,rfl,s5 _ _ hq4,Fq,QT (Qz (m:=5000) (by lia) (by decide)),λp2 Hu=>?_⟩;have s6:=aj (o:=.lst (ys++zs)) Hu;refine hN _ _ ⟨(s4.trans s5).trans s6,p2,ys++zs,_,_,ah,?_,rfl⟩;rw[xq G2];exact jg (cG (cG EY s5.tups) s6.tups) (cG F0 s6.tups)
   obtain⟨ET,GG⟩:=jt g2;have GG:=s4 _ _ GG;refine az 0 rfl GG rfl ⟨rfl,_,rfl,ij (b2:=decide (rs[i].1.kw="kind")) (λh=>(az 0 rfl GG rfl ⟨rfl,_,rfl,by rw[bz];exact h⟩)) ?_⟩;rw[bz,xg];have Fc:rs[i]∈rs:=QQ G2
   rcases xm rs[i].1 with ⟨hq,hh⟩|⟨hh,e,he⟩
   ·rw[hh];refine dh ⟨_,rfl,_,rfl,_,rfl,ra,rs,i,rs[i],hq,rfl,hRs.same s4,EZ,Qa G2,hh,(hok _ Fc).1.2.1,λq2 zs H5 s5 Fq F0=>cat q2 zs H5 s5 Fq F0⟩
   ·rw[hh];have hf:=(hok _ Fc).1.1 e he;have hz:=(hok _ Fc).2 e he;have hrD:=xn (tt:=rs.map (·.1)) (P:=rs.take i) hh he;rw[hrD] at cat;refine bO ?_;refine az 0 rfl GG rfl ⟨rfl,_,rfl,?_⟩;rw[bz]
    rcases EG g2 he with ⟨k1,x,y,z,v,rst,k2,k3⟩|⟨k1,x,y,v,rst,k2,k3⟩
    ·rw[Qv k1];exact dh ⟨_,rfl,_,rfl,_,rfl,az 3 rfl (s4 _ _ k2) rfl ⟨ra,rs,i,rs[i],v,e,rfl,hRs.same s4,EZ,Qa G2,(hok _ Fc).1.2.2,k3.kept s4.tups,hf.1,hf.2,hz,λq2 zs H5 s5 Fq F0=>cat q2 zs H5 s5 Fq F0⟩⟩
    ·rw[Qi k1];exact bO ⟨_,rfl,_,rfl,_,rfl,az 2 rfl (s4 _ _ k2) rfl ⟨ra,rs,i,rs[i],v,e,rfl,hRs.same s4,EZ,Qa G2,(hok _ Fc).1.2.2,k3.kept s4.tups,hf.1,hf.2,hz,λq2 zs H5 s5 Fq F0=>cat q2 zs H5 s5 Fq F0⟩⟩
  ·rintro σ' H4 ⟨s4,q,ys,x4,x5,hq4,EY,rfl⟩;rw[Qf,G5,QV] at EY;exact hR _ _ ⟨s4,q,ys,x4,x5,hq4,EY,rfl⟩
 rintro σ' H4 ⟨s4,q,ys,x4,x5,hq4,EY,rfl⟩;have IH:(FN ts).length<900000:=by have h1:=(ki ts).1.length_le_of_subset λd hd=>(pO hT d).mp hd;have h2:=hll rs.length;rw[QV] at h2;lia
 refine⟨_,rfl,tp,xs,ts,rfl,s4 _ _ hxs,hL.kept s4.ls,hT.ok,IH,λp zs ks H5 l5 hp F0 hpw Fc=>?_⟩;dsimp only[aR];have hl:=hll rs.length;rw[QV] at hl;obtain⟨bs,rfl⟩:=EJ EY;have FF:=EY.1;rw[Qf] at FF;have hisk:∀d∈cD (rs.map (·.1)) [] rs,fO d:=λd hd=>(ki ts).2 _ ((pO hT d).mpr hd);have Iw:=cG EY l5.t;refine⟨_,rfl,.ref p,_,true,rfl,.lst hp,by rfl,_,rfl,dh ?_⟩;refine⟨_,rfl,_,rfl,q,bs,_,rfl,ak.of (l5.l _ _ hq4),Iw,λd hd=>?_,by lia,λq0 IC=>?_⟩
 ·obtain⟨r,aa,z,rfl⟩:=hisk d hd;exact⟨z,by simp[k3]⟩
 have s6:=aj (o:=lH w q0 bs (cD (rs.map (·.1)) [] rs)) IC;refine⟨q0,bs,_,[true,false,false],rfl,ah,cG Iw s6.tups,λd hd=>?_,by decide,by lia,λp3 cs es ID HQ hpw2 hm2=>?_⟩
 ·obtain⟨r,aa,z,rfl⟩:=hisk d hd;rfl
 have hke:es=ks:=se hpw2 hpw λd=>by rw[hm2,Fc,pO hT]
 have s7:=aj (o:=.lst (cs.map V.ref)) ID;refine⟨p,p3,zs,_,ks,rfl,rfl,s7 _ _ (s6 _ _ hp),ah,cG (cG F0 s6.tups) s7.tups,?_,?_⟩
 ·rw[<-hke];exact cG HQ s7.tups
 ·exact kq _
end
def FG(K:W.Frag)(n q:Str)(st:Stmt)(ps:List Str):Prop:=∃f fd,W.nsIn K mainGlobals n=some (some (.ref f))/\FB K n q st ps f fd
def MG(K:W.Frag)(c:Addr)(n q:Str)(st:Stmt)(ps:List Str):Prop:=∃f fd,W.findIn K (.ref c) n=some (some (.ref f))/\W.isFn K (.ref f)=true/\FB K n q st ps f fd
section
variable {K:W.Frag}{n q:Str}{st:Stmt}{ps:List Str}{f c:Addr}{oc kV dc pm cd ct:Value}{od an:Option Addr}{sl:Array (Option Value)}
theorem fb(l:K.lookup f=some ⟨oc,od,.func (W.fnOf n q (iD st) (gP st) (aM st) .none kV dc pm an cd ct),sl⟩)(e:W.codeIn K cd q=true)(k:W.keepIn K (.ref f)=true)
  (b:∀us:List Value,us.length=ps.length->bindArgs (W.fnOf n q (iD st) (gP st) (aM st) .none kV dc pm an cd ct) ⟨us,[]⟩=pure (ps.zip us)):FB K n q st ps f (W.fnOf n q (iD st) (gP st) (aM st) .none kV dc pm an cd ct):=
 ⟨k,zv l e k,.all b⟩
theorem fg{fd:FuncData}(a:W.nsIn K mainGlobals n=some (some (.ref f)))(b:FB K n q st ps f fd):FG K n q st ps:=⟨f,fd,a,b⟩
theorem mg{fd:FuncData}(a:W.findIn K (.ref c) n=some (some (.ref f)))(i:W.isFn K (.ref f)=true)(b:FB K n q st ps f fd):MG K c n q st ps:=⟨f,fd,a,i,b⟩
end
theorem EN{l:W.OpenLaw}{w:World}{K:W.Frag}{h:Heap}{mg:Str->Option Value}{fa c_NameLook q_PLAIN_KINDS:Addr}(X:K.In h)(G:h.Ns mainGlobals mg)(hfa:mg "law"=some (.ref fa))
  {F5 F4:Tok} {Gi:Option Addr} {Gu:Nat} {Gh:Array (Option Value)}
  (Hk:W.nsIn K mainGlobals "NameLook"=some (some (.ref c_NameLook)))
  (g_ZP:FG K "least" "least" nT ["mask"])
  (g_ZJ:FG K "without" "without" nU ["mask","other"])
  (g_ZN:FG K "all_of" "all_of" nV ["pairs"])
  (g_Zr:FG K "kept_pairs" "kept_pairs" lI ["pairs","mask"])
  (g_ZO:FG K "add_to" "add_to" nW ["found","key","mask"])
  (g_Zs:FG K "with_masks" "with_masks" lJ ["found"])
  (g_Zw:FG K "kept_tree" "kept_tree" lK ["tree","mask"])
  (g_Zg:FG K "kept_statement" "kept_statement" lL ["one","mask"])
  (g_Zh:FG K "row_and_least" "row_and_least" nX ["pair"])
  (g_Zx:FG K "shared_of" "shared_of" lM ["tree"])
  (g_Zf:FG K "shared_statement" "shared_statement" lN ["one"])
  (g_Zy:FG K "blocks_of" "blocks_of" lO ["one"])
  (g_Zt:FG K "first_rows" "first_rows" nY ["tree"])
  (g_ZE:FG K "pairs_of" "pairs_of" nZ ["one"])
  (g_ZK:FG K "expr_of" "expr_of" n0 ["one"])
  (g_ZF:FG K "exprs_in" "exprs_in" n6 ["e"])
  (g_Zl:FG K "shared_names" "shared_names" n8 ["tree","mask"])
  (g_Zo:FG K "plain_names" "plain_names" lP ["tree"])
  (g_Zp:FG K "_law_cell_at" "_law_cell_at" oh ["_law_script","_law_k"])
  (g_Zz:FG K "_law_mixed" "_law_mixed" oi ["_law_cell","_law_k"])
  (g_ZA:FG K "_law_draws" "_law_draws" oj ["_law_script"])
  (g_ZG:FG K "_law_next" "_law_next" om ["_law_draws_here"])
  (g_ZB:FG K "_law_names" "_law_names" j8 ["_law_draws_here"])
  (g_Zu:FG K "_law_number" "_law_number" oo ["_law_draws_here"])
  (g_ZH:FG K "_law_expr" "_law_expr" lQ ["_law_draws_here","_law_names_here","_law_deep"])
  (g_ZL:FG K "_law_def" "_law_def" oq ["_law_draws_here","_law_at","_law_names_here"])
  (g_ZM:FG K "_law_row" "_law_row" lR ["_law_draws_here","_law_form","_law_at","_law_names_here","_law_stack"])
  (g_ZI:FG K "_law_rows" "_law_rows" lS ["_law_draws_here"])
  (g_ZC:FG K "_law_parts" "_law_parts" ou ["_law_e"])
  (g_Zv:FG K "_law_within" "_law_within" ow ["_law_e"])
  (g_ZD:FG K "_law_first" "_law_first" ox ["_law_rows_here","_law_word","_law_name"])
  (g_Zq:FG K "_law_use_due" "_law_use_due" oy ["_law_rows_here","_law_at","_law_e"])
  (g_Zm:FG K "_law_expr_due" "_law_expr_due" oz ["_law_rows_here","_law_k","_law_e"])
  (g_Zn:FG K "_law_head_due" "_law_head_due" j9 ["_law_rows_here","_law_k"])
  (g_Zi:MG K c_NameLook "__init__" "NameLook.__init__" oA ["self","tree"])
  (g_Zj:MG K c_NameLook "note" "NameLook.note" oB ["self","mask","at","what","name"])
  (g_Za:MG K c_NameLook "look_twice" "NameLook.look_twice" oC ["self","tree"])
  (g_Zb:MG K c_NameLook "look_body" "NameLook.look_body" oE ["self","statements","given"])
  (g_Zd:MG K c_NameLook "look_def" "NameLook.look_def" ka ["self","mask","one"])
  (g_Zc:MG K c_NameLook "look_expr" "NameLook.look_expr" oF ["self","mask","e","at","given"])
  (g_Ze:MG K c_NameLook "look_use" "NameLook.look_use" oG ["self","mask","e","at","word","missing"])
  (g_Zk:MG K c_NameLook "held" "NameLook.held" oH ["self","word","name"])
  (g_law:FG K "law" "law" oI ["_law_script"])
  (FX:W.plainGet K c_NameLook Str.empty=true)
  (FY:W.hasDictIn K c_NameLook=true)
  (FW:W.plainOver K c_NameLook=true)
  (FV:W.findIn K (.ref c_NameLook) "__setattr__"=some (some (.builtin "object.__setattr__")))
  (Hi:W.makesIn K c_NameLook=true)
  (Hj:W.keepIn K (.ref c_NameLook)=true)
  (na_NameLook_faults:W.findIn K (.ref c_NameLook) "faults"=some none)
  (na_NameLook_firsts:W.findIn K (.ref c_NameLook) "firsts"=some none)
  (Hh:W.findIn K (.ref c_NameLook) "__class__"=some (some (.builtin "object.__class__")))
  (Hg:W.specialIn K (.builtin "object.__class__") "__get__"=some (some (.builtin "getset_descriptor.__get__")))
  (Hf:W.takesIn K (.builtin "object.__class__")=some true)
  (He:W.mroIn K c_NameLook (.type "object")=some true)
  (Gw:W.nsIn K mainGlobals "PLAIN_KINDS"=some (some (.ref q_PLAIN_KINDS)))
  (Gv:K.lookup q_PLAIN_KINDS=some ⟨.type "tuple",Gi,.seq #[.str "num" F5,.str "truth" F4] Gu,Gh⟩)
  (z_len:W.nsIn K mainGlobals "len"=some none)
  (z_range:W.nsIn K mainGlobals "range"=some none)
  (z_list:W.nsIn K mainGlobals "list"=some none)
  (z_dict:W.nsIn K mainGlobals "dict"=some none)
  (z_tuple:W.nsIn K mainGlobals "tuple"=some none)
  (Jm:W.nsIn K mainGlobals "sorted"=some none)
  (z_set:W.nsIn K mainGlobals "set"=some none)
  (GQ:W.nsIn K mainGlobals "isinstance"=some none)
  (z_abs:W.nsIn K mainGlobals "abs"=some none)
  :
  ∃fd:FuncData,(∀(s:Shared) (v:Value),BindsTo s fd ⟨[v],[]⟩ [("_law_script",v)])/\∀base:Heap,K.In base->base.Ns mainGlobals mg->aI l.prog w K mg base aK 40 fa fd ["_law_script"] (ky K):=by
 obtain⟨_,_,a_ZP,u_ZP⟩:=g_ZP;obtain⟨_,_,a_ZJ,u_ZJ⟩:=g_ZJ;obtain⟨_,_,a_ZN,u_ZN⟩:=g_ZN;obtain⟨_,_,a_Zr,u_Zr⟩:=g_Zr;obtain⟨_,_,a_ZO,u_ZO⟩:=g_ZO;obtain⟨_,_,a_Zs,u_Zs⟩:=g_Zs;obtain⟨_,_,a_Zw,u_Zw⟩:=g_Zw;obtain⟨_,_,a_Zg,u_Zg⟩:=g_Zg;obtain⟨_,_,a_Zh,u_Zh⟩:=g_Zh;obtain⟨_,_,a_Zx,u_Zx⟩:=g_Zx;obtain⟨_,_,a_Zf,u_Zf⟩:=g_Zf;obtain⟨_,_,a_Zy,u_Zy⟩:=g_Zy;obtain⟨_,_,a_Zt,u_Zt⟩:=g_Zt;obtain⟨_,_,a_ZE,u_ZE⟩:=g_ZE;obtain⟨_,_,a_ZK,u_ZK⟩:=g_ZK;obtain⟨_,_,a_ZF,u_ZF⟩:=g_ZF;obtain⟨_,_,a_Zl,u_Zl⟩:=g_Zl;obtain⟨_,_,a_Zo,u_Zo⟩:=g_Zo;obtain⟨_,_,a_Zp,u_Zp⟩:=g_Zp;obtain⟨_,_,a_Zz,u_Zz⟩:=g_Zz;obtain⟨_,_,a_ZA,u_ZA⟩:=g_ZA;obtain⟨_,_,a_ZG,u_ZG⟩:=g_ZG;obtain⟨_,_,a_ZB,u_ZB⟩:=g_ZB;obtain⟨_,_,a_Zu,u_Zu⟩:=g_Zu;obtain⟨_,_,a_ZH,u_ZH⟩:=g_ZH;obtain⟨_,_,a_ZL,u_ZL⟩:=g_ZL;obtain⟨_,_,a_ZM,u_ZM⟩:=g_ZM;obtain⟨_,_,a_ZI,u_ZI⟩:=g_ZI;obtain⟨_,_,a_ZC,u_ZC⟩:=g_ZC;obtain⟨_,_,a_Zv,u_Zv⟩:=g_Zv;obtain⟨_,_,a_ZD,u_ZD⟩:=g_ZD;obtain⟨_,_,a_Zq,u_Zq⟩:=g_Zq;obtain⟨_,_,a_Zm,u_Zm⟩:=g_Zm;obtain⟨_,_,a_Zn,u_Zn⟩:=g_Zn;obtain⟨_,_,a_Zi,i_Zi,u_Zi⟩:=g_Zi;obtain⟨_,_,a_Zj,i_Zj,u_Zj⟩:=g_Zj;obtain⟨_,_,a_Za,i_Za,u_Za⟩:=g_Za;obtain⟨_,_,a_Zb,i_Zb,u_Zb⟩:=g_Zb;obtain⟨_,_,a_Zd,i_Zd,u_Zd⟩:=g_Zd;obtain⟨_,_,a_Zc,i_Zc,u_Zc⟩:=g_Zc;obtain⟨_,_,a_Ze,i_Ze,u_Ze⟩:=g_Ze;obtain⟨_,_,a_Zk,i_Zk,u_Zk⟩:=g_Zk;obtain⟨_,_,a_law,u_law⟩:=g_law;have e:=hfa.symm.trans (W.mg_of X G a_law);cases e
 have T:All l.prog w K mg ⟨_,_,_,_,_,_,_,_,_,_,_,_,_,_,_,_,_,_,_,_,_,_,_,_,_,_,_,_,_,_,_,_,_,_,_,_,_,_,_,_,_,_,_,_⟩ ⟨_,_,_,_,_,_,_,_,_,_,_,_,_,_,_,_,_,_,_,_,_,_,_,_,_,_,_,_,_,_,_,_,_,_,_,_,_,_,_,_,_,_⟩:=⟨⟨u_ZP,W.mg_of X G a_ZP⟩,
  ⟨u_ZJ,W.mg_of X G a_ZJ⟩,
  ⟨u_ZN,W.mg_of X G a_ZN⟩,
  ⟨u_Zr,W.mg_of X G a_Zr⟩,
  ⟨u_ZO,W.mg_of X G a_ZO⟩,
  ⟨u_Zs,W.mg_of X G a_Zs⟩,
  ⟨u_Zw,W.mg_of X G a_Zw⟩,
  ⟨u_Zg,W.mg_of X G a_Zg⟩,
  ⟨u_Zh,W.mg_of X G a_Zh⟩,
  ⟨u_Zx,W.mg_of X G a_Zx⟩,
  ⟨u_Zf,W.mg_of X G a_Zf⟩,
  ⟨u_Zy,W.mg_of X G a_Zy⟩,
  ⟨u_Zt,W.mg_of X G a_Zt⟩,
  ⟨u_ZE,W.mg_of X G a_ZE⟩,
  ⟨u_ZK,W.mg_of X G a_ZK⟩,
  ⟨u_ZF,W.mg_of X G a_ZF⟩,
  ⟨u_Zl,W.mg_of X G a_Zl⟩,
  ⟨u_Zo,W.mg_of X G a_Zo⟩,
  ⟨u_Zp,W.mg_of X G a_Zp⟩,
  ⟨u_Zz,W.mg_of X G a_Zz⟩,
  ⟨u_ZA,W.mg_of X G a_ZA⟩,
  ⟨u_ZG,W.mg_of X G a_ZG⟩,
  ⟨u_ZB,W.mg_of X G a_ZB⟩,
  ⟨u_Zu,W.mg_of X G a_Zu⟩,
  ⟨u_ZH,W.mg_of X G a_ZH⟩,
  ⟨u_ZL,W.mg_of X G a_ZL⟩,
  ⟨u_ZM,W.mg_of X G a_ZM⟩,
  ⟨u_ZI,W.mg_of X G a_ZI⟩,
  ⟨u_ZC,W.mg_of X G a_ZC⟩,
  ⟨u_Zv,W.mg_of X G a_Zv⟩,
  ⟨u_ZD,W.mg_of X G a_ZD⟩,
  ⟨u_Zq,W.mg_of X G a_Zq⟩,
  ⟨u_Zm,W.mg_of X G a_Zm⟩,
  ⟨u_Zn,W.mg_of X G a_Zn⟩,
  ⟨Hi,a_Zi,i_Zi,Hj⟩,
  u_Zi,
  ⟨a_Zj,i_Zj,u_Zj.k⟩,
  u_Zj,
  ⟨a_Za,i_Za,u_Za.k⟩,
  u_Za,
  ⟨a_Zb,i_Zb,u_Zb.k⟩,
  u_Zb,
  ⟨a_Zd,i_Zd,u_Zd.k⟩,
  u_Zd,
  ⟨a_Zc,i_Zc,u_Zc.k⟩,
  u_Zc,
  ⟨a_Ze,i_Ze,u_Ze.k⟩,
  u_Ze,
  ⟨a_Zk,i_Zk,u_Zk.k⟩,
  u_Zk,
  W.mg_of X G Hk,
  ⟨FX,FY,FW,FV⟩,
  na_NameLook_faults,
  na_NameLook_firsts,
  λH a dx fs e=>.ins e ⟨FX,FY,FW,FV⟩ Hh Hg Hf He,
  zD _ _,
  W.mg_of X G Gw,
  λH=>.inr ⟨_,_,_,Gv,rfl,rfl,bZ,.cons ⟨_,rfl⟩ (.cons ⟨_,rfl⟩ (.nil))⟩,
  W.mg_none_of X G z_len,
  W.mg_none_of X G z_range,
  W.mg_none_of X G z_list,
  W.mg_none_of X G z_dict,
  W.mg_none_of X G z_tuple,
  W.mg_none_of X G Jm,
  W.mg_none_of X G z_set,
  W.mg_none_of X G GQ,
  W.mg_none_of X G z_abs⟩
 obtain⟨_,_,_,_,_,_,_,_,_,e,_⟩:=u_law.F.ex;exact⟨_,λs v=>by rw[e];exact .of_eq rfl,λbase _ _=>EM T u_law.F⟩
theorem EO{l:W.OpenLaw}{q:Program}{loose:List Str}{XP:(Str->Option Value)->Heap->Prop}{YP:World->Heap->Prop}{d:DefRec}{K:Params->W.Frag}(hn:l.most=some 63)(hdf:d.params.defaults=[])
  (hY:∀(w:World) (h:Heap),YP w h->(K w.params).In h)
  (F:∀(w:World) (mg:Str->Option Value) (fa:Addr) (h:Heap),(K w.params).In h->h.Ns mainGlobals mg->mg d.name=some (.ref fa) ->
   ∃fd:FuncData,(∀(s:Shared) (u:Value),BindsTo s fd ⟨[u],[]⟩ [("_law_script",u)])/\∀base:Heap,(K w.params).In base->base.Ns mainGlobals mg->aI l.prog w (K w.params) mg base aK 40 fa fd ["_law_script"] (ky (K w.params))) :
  W.WalkO q loose XP YP l.row.toRowW d [] (λf vs=>PySem.call f vs):=
 L2.zu (n:=63) (k:=40) (x:="_law_script") (CX:=λ_=>aK) (sp:=λw=>ky (K w.params)) hn (by decide) hdf ⟨rfl,by decide,by decide⟩ hY F (λ_ _ a ns hl _ hS=>⟨a,ns,rfl,hS,hl,λ_=>rfl⟩) λ_ _ _ _ _ z=>z
end K33
open PySem PySem.W PyProof.Rows
set_option maxRecDepth 100000 in
set_option maxHeartbeats 0 in
theorem PySem.Challenge.cw_manymakes_k33_whole_plain_names_holds : PySem.Challenge.rw_manymakes_k33_whole_plain_names.Holds := by
 rw[<-K33.rwe]
 w_on;o_law
 refine PySem.W.holds_open (r:=OpenLaw.row K33.rw) (q:=K33.vw) (loose:=[]) (Xt:=K33.xt) (XP:=XL K33.vw [])
  (Yf:=(kHook K33.pre.heap_1 K33.as K33.ase).obs) (Ya:=(kHook K33.pre.heap_1 K33.as K33.ase).val) (YP:=(kHook K33.pre.heap_1 K33.as K33.ase).says)
  (N:=3206) (show LeftO K33.pw _ _ _ _ _ _ from K33.pwe ▸ K33.left)
  ((kHook K33.pre.heap_1 K33.as K33.ase).of) ((kHook K33.pre.heap_1 K33.as K33.ase).keeps) (λs e=>xl_of s (Mm.both_true e).1)
  (XL.keeps) (by rfl) (by rfl) (by rfl) (λs e=>recFacts_of (Mm.both_true e).2)
  (by rfl) (by assumption) (by decide +kernel)
  ⟨rfl,rfl,rfl,rfl,rfl,by decide +kernel⟩ ?hw ?hc
 (case hw=>exact⟨[.list []],by decide +kernel,by decide +kernel⟩)
 k_fill
 refine K33.EO (l:=K33.rw) rfl rfl (λw h Y=>PySem.W.kIn_of Y) ?F
 case F =>
  intro w mg fa h KX G hmg;apply K33.EN KX G hmg
  all_goals first|(apply K33.fg;k_is;apply K33.fb;k_is;k_is;k_is;intro us hl;(rcases us with _|⟨_,_|⟨_,_|⟨_,_|⟨_,_|⟨_,_|⟨_,_|_⟩⟩⟩⟩⟩⟩)<;>first|(simp at hl;done)|rfl)|(apply K33.mg;k_is;k_is;apply K33.fb;k_is;k_is;k_is;intro us hl;(rcases us with _|⟨_,_|⟨_,_|⟨_,_|⟨_,_|⟨_,_|⟨_,_|_⟩⟩⟩⟩⟩⟩)<;>first|(simp at hl;done)|rfl)|(apply K33.dg;k_is;k_is;all_goals first|rfl|decide +kernel)|k_is
