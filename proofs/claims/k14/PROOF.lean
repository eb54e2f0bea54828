import PyProof.Rows.All
import Wide.All
import OpenK.AllK
import Wide.FinOn
import Lean
import PyProof.EqAt
import PyProof.EqKinds
import PyProof.TupleCall
import PyProof.Rows.BitMore
import KE.IntBitsLaws
import KE.KRevIter
import KE.KTryMore
import PyProof.StrLawsRepr
import KE.KIsAll
import KE.RegKIsAll
import KE.RegKTryMore
import PyProof.StrCalls2
import PyProof.StrLawsTight
import PyProof.StrLawsChain
import PyProof.Rows.StrItems
import PyProof.Rows.StrWeight2
import PyProof.EnumMake
import PyProof.EnumStmt
import PyProof.Rows.EnumRows
import PyProof.Rows.EqDataRows
import PyProof.P3Eq
import PyProof.SumWalk
import PyProof.Rows.InDataRows
import PySem.Challenge.RW_manymakes_k14_variants
-- CHANGE: your row's module here, as the last of these rows
set_option Elab.async false
set_option linter.all false
set_option maxRecDepth 100000
/-! THE HAND LAYER, for ints, bools, texts, own classes, LISTS and tuples (index, slices, in, append, pop ..), calls, loops. Paste it whole ahead of your own text; what your proof does not reach may be deleted. -/
namespace L2
open PySem PySem.Spec PyProof.Rows

/-- a key: an int or a str -/
abbrev Key := Sum Int Str
def keyIs : Key → Value → Bool
  | .inl k, v => Value.isInt k v
  | .inr x, v => Value.isStrOf x v
def keyH (w : World) : Key → Int
  | .inl k => hashInt k
  | .inr x => hashStr w x
theorem keyIs_shape : ∀ {k : Key} {v : Value}, keyIs k v = true → (∃ i t, k = Sum.inl i ∧ v = Value.int i t) ∨ (∃ x t, k = Sum.inr x ∧ v = Value.str x t)
  | .inl i, v, h => by
    obtain ⟨t, e⟩ := Value.isInt_shape (k := i) (v := v) h
    exact .inl ⟨i, t, rfl, e⟩
  | .inr x, v, h => by
    obtain ⟨t, e⟩ := Value.isStrOf_shape (x := x) (v := v) h
    exact .inr ⟨x, t, rfl, e⟩
theorem keyIs_int (i : Int) (t : Tok) : keyIs (.inl i) (.int i t) = true := by simp [keyIs, Value.isInt]
theorem keyIs_str (x : Str) (t : Tok) : keyIs (.inr x) (.str x t) = true := by simp [keyIs, Value.isStrOf]
theorem key_ll (a b : Int) : decide ((Sum.inl a : Key) = Sum.inl b) = (a == b) := by
  by_cases e : a = b
  · subst e; simp
  · have h : ¬ (Sum.inl a : Key) = Sum.inl b := fun q => e (Sum.inl.inj q)
    rw [decide_eq_false h]
    exact (beq_eq_false_iff_ne.mpr e).symm
theorem key_rr (a b : Str) : decide ((Sum.inr a : Key) = Sum.inr b) = decide (a = b) := by
  by_cases e : a = b
  · subst e; simp
  · have h : ¬ (Sum.inr a : Key) = Sum.inr b := fun q => e (Sum.inr.inj q)
    rw [decide_eq_false h, decide_eq_false e]
theorem key_lr (a : Int) (b : Str) : decide ((Sum.inl a : Key) = Sum.inr b) = false := decide_eq_false (fun q => nomatch q)
theorem key_rl (a : Str) (b : Int) : decide ((Sum.inr a : Key) = Sum.inl b) = false := decide_eq_false (fun q => nomatch q)

def mixKind (prog : Program) (w : World) : PySem.KeyKind prog w Key where
  is := keyIs
  hash := keyH w
  inj := fun v a b ha hb => by
    rcases keyIs_shape ha with ⟨i, t, rfl, rfl⟩ | ⟨x, t, rfl, rfl⟩
    · rcases keyIs_shape hb with ⟨j, u, rfl, e⟩ | ⟨y, u, rfl, e⟩
      · injection e with e1 _; rw [e1]
      · exact nomatch e
    · rcases keyIs_shape hb with ⟨j, u, rfl, e⟩ | ⟨y, u, rfl, e⟩
      · exact nomatch e
      · injection e with e1 _; rw [e1]
  byValue := fun k v h => by
    rcases keyIs_shape h with ⟨i, t, rfl, rfl⟩ | ⟨x, t, rfl, rfl⟩ <;> rfl
  pyHash := fun hv h => by
    rcases keyIs_shape hv with ⟨i, t, rfl, rfl⟩ | ⟨x, t, rfl, rfl⟩
    · exact wpAny_pyHash_int h
    · exact wpAny_pyHash_str h
  eqBool := fun hu hv h => by
    rcases keyIs_shape hu with ⟨i, t, rfl, rfl⟩ | ⟨x, t, rfl, rfl⟩
    · rcases keyIs_shape hv with ⟨j, u, rfl, rfl⟩ | ⟨y, u, rfl, rfl⟩
      · rw [key_ll] at h; exact wpAny_eqBool_int h
      · rw [key_lr] at h; exact SeqAt.EqAt.int_str i t y u _ _ _ _ h
    · rcases keyIs_shape hv with ⟨j, u, rfl, rfl⟩ | ⟨y, u, rfl, rfl⟩
      · rw [key_rl] at h; exact SeqAt.EqAt.str_int x t j u _ _ _ _ h
      · rw [key_rr] at h; exact wpAny_eqBool_str h
  «strs» := fun k x t v h => by
    rcases keyIs_shape h with ⟨i, u, rfl, e⟩ | ⟨y, u, rfl, e⟩
    · exact nomatch e
    · injection e with e1 _
      subst e1
      cases v <;> rfl

theorem mixKind_int (prog : Program) (w : World) (i : Int) (t : Tok) : (mixKind prog w).is (.inl i) (.int i t) = true := keyIs_int i t
theorem mixKind_str (prog : Program) (w : World) (x : Str) (t : Tok) : (mixKind prog w).is (.inr x) (.str x t) = true := keyIs_str x t
end L2

namespace L2
open PySem PySem.Spec PyProof.Rows

/-- a value, without the heap -/
inductive V where
  | non | bl (b : Bool) | int (i : Int) | str (x : Str) | byt (b : Array UInt8) | flt (b : UInt64) | ref (a : Addr) | ty (n : String)
  deriving DecidableEq

def RelV : V → Value → Prop
  | .non, u => u = Value.none
  | .bl b, u => u = Value.bool b
  | .int i, u => ∃ t, u = Value.int i t
  | .str x, u => ∃ t, u = Value.str x t
  | .byt b, u => ∃ t, u = Value.bytes b t
  | .flt b, u => ∃ t, u = Value.float b t
  | .ref a, u => u = Value.ref a
  | .ty n, u => u = Value.type n

abbrev Vals : List V → List Value → Prop := Paired RelV
theorem Vals.length {xs : List V} {us : List Value} (r : Vals xs us) : xs.length = us.length := Paired.length r
theorem Vals.get : ∀ {xs : List V} {us : List Value} {i : Nat} {x : V}, Vals xs us → xs[i]? = some x → ∃ u, us[i]? = some u ∧ RelV x u
  | _, _, _, _, .nil, e => by simp at e
  | _, _, 0, _, .cons r _, e => by simp at e; subst e; exact ⟨_, rfl, r⟩
  | _, _, i + 1, x, .cons _ t, e => by
    obtain ⟨u, h1, h2⟩ := Vals.get (i := i) (x := x) t (by simpa using e)
    exact ⟨u, by simpa using h1, h2⟩
theorem Vals.set {x : V} {u : Value} (r : RelV x u) : ∀ {xs : List V} {us : List Value} (i : Nat), Vals xs us → Vals (xs.set i x) (us.set i u)
  | _, _, _, .nil => .nil
  | _, _, 0, .cons _ t => .cons r t
  | _, _, i + 1, .cons q t => .cons q (Vals.set r i t)
theorem Vals.append : ∀ {xs ys : List V} {us ws : List Value}, Vals xs us → Vals ys ws → Vals (xs ++ ys) (us ++ ws)
  | _, _, _, _, .nil, s => s
  | _, _, _, _, .cons r t, s => .cons r (Vals.append t s)
theorem Vals.take : ∀ {xs : List V} {us : List Value} (n : Nat), Vals xs us → Vals (xs.take n) (us.take n)
  | _, _, 0, _ => .nil
  | _, _, _ + 1, .nil => .nil
  | _, _, n + 1, .cons r t => .cons r (Vals.take n t)
theorem Vals.drop : ∀ {xs : List V} {us : List Value} (n : Nat), Vals xs us → Vals (xs.drop n) (us.drop n)
  | _, _, 0, r => r
  | _, _, _ + 1, .nil => .nil
  | _, _, n + 1, .cons _ t => Vals.drop n t
theorem Vals.none_of : ∀ {xs : List V} {us : List Value} {i : Nat}, Vals xs us → xs[i]? = none → us[i]? = none := fun {xs us i} r e => by
  have h1 := r.length
  have h2 : xs.length ≤ i := List.getElem?_eq_none_iff.mp e
  exact List.getElem?_eq_none_iff.mpr (by omega)

def RelO : Option V → Option Value → Prop
  | some v, some u => RelV v u
  | none, none => True
  | _, _ => False
def KV {κ : Type} : List (κ × V) → List (κ × Value) → Prop := Paired fun (p : κ × V) (q : κ × Value) => p.1 = q.1 ∧ RelV p.2 q.2

/-- a key of a dict (00_mix): an int or a text -/
def kV : Key → V
  | .inl i => .int i
  | .inr x => .str x

/-- what stands at a tracked address -/
inductive HO where
  /-- a list -/
  | lst (xs : List V)
  /-- a tuple (never changes) -/
  | tup (xs : List V)
  /-- a dict whose keys are ints and texts; one whose keys are tuples of ints and texts (the empty one is both) -/
  | dK (kvs : List (Key × V)) | dT (kvs : List (List Key × V))
  /-- a set of ints: its members, its size -/
  | set (S : Int → Bool) (n : Nat)
  /-- an instance of the class at C, its dict at dx, its attributes -/
  | ins (C dx : Addr) (fs : List (Str × V))
  /-- the dict of the instance at x -/
  | own (x : Addr)
  /-- the dict of an exception -/
  | xd (fs : List (Str × V))
  /-- a bound method, f of x -/
  | met (f x : Addr)
  /-- a range object lo, lo + 1, .. below hi -/
  | rng (lo hi : Int)
  /-- a thing that is known to the object (the script; a dict while a loop walks it): read, never written while it is so -/
  | frz (o : Obj) (u : HO)
  /-- a code object's table -/
  | tbl (ps : Array Value)
  /-- any other thing, by what is true of its one object (a def of one's own: SetO a S n := HO.ext fun h => ..) -/
  | ext (φ : Heap → Prop)

abbrev Hp := Addr → Option HO
def upd (H : Hp) (a : Addr) (o : HO) : Hp := fun b => if b = a then some o else H b
theorem upd_same {H : Hp} {a : Addr} {o : HO} : upd H a o a = some o := by unfold upd; rw [if_pos rfl]
theorem upd_ne {H : Hp} {a b : Addr} {o : HO} (h : b ≠ a) : upd H a o b = H b := by unfold upd; rw [if_neg h]
theorem upd_upd {H : Hp} {a : Addr} {o u : HO} : upd (upd H a o) a u = upd H a u := by
  funext b; unfold upd; split <;> rfl
/-- two objects of different content stand apart -/
theorem ne_of {H : Hp} {a b : Addr} {o u : HO} (h : H a = some o) (h' : H b = some u) (d : o ≠ u) : a ≠ b := by
  intro e; subst e; rw [h] at h'; exact d (Option.some.inj h')
theorem ne_of_none {H : Hp} {a b : Addr} {o : HO} (h : H a = some o) (h' : H b = none) : a ≠ b := by
  intro e; subst e; rw [h] at h'; cases h'

section
variable (P : Program) (w : World)
def ObjOk (H : Hp) (h : Heap) (a : Addr) : HO → Prop
  | .lst xs => xs.length ≤ sizeLine ∧ ∃ (its : List Value) (n : Nat), Vals xs its ∧ h.get? a = some { cls := .type "list", data := .seq its.toArray n }
  | .tup xs => xs.length ≤ sizeLine ∧ ∃ its : List Value, Vals xs its ∧ IsTup h a its.toArray
  | .dK kvs => kvs.length ≤ sizeLine ∧ (a == sysModules) = false ∧ ∃ vs, KV kvs vs ∧ h.DictOf (mixKind P w) a vs
  | .dT kvs => kvs.length ≤ sizeLine ∧ (a == sysModules) = false ∧ ∃ xs : List (List Key × Addr × Value),
      Paired (fun (p : List Key × V) (q : List Key × Addr × Value) => p.1 = q.1 ∧ H q.2.1 = some (.tup (p.1.map kV)) ∧ RelV p.2 q.2.2) kvs xs ∧
      ∃ o es ep, h.get? a = some o ∧ o.ExactDict ∧ o.data = .dict es ep ∧ es.toList = xs.map (entryOfKey (tupleKind (mixKind P w))) ∧ (xs.map (·.1)).Nodup
  | .set S n => h.SetOf (intKind P w) a S n
  | .ins C dx fs => H dx = some (.own a) ∧ fs.length ≤ 1000 ∧ dx ≠ a ∧ h.get? a = some (PySem.W.instObj C dx) ∧
      ∃ mA, h.Ns1 dx mA ∧ (∀ f, RelO (fs.lookup f) (mA f)) ∧ PySem.Within mA (fs.map (·.1))
  | .own _ => ∃ o, h.get? a = some o
  | .xd fs => ∃ mA, h.Ns1 a mA ∧ ∀ f, RelO (fs.lookup f) (mA f)
  | .rng lo hi => ∃ t u v, h.get? a = some { cls := .type "range", data := .fields #[.int lo t, .int hi u, .int 1 v] }
  | .frz o u => h.get? a = some o ∧ ObjOk H h a u
  | .tbl ps => h.get? a = some { cls := .none, data := .fields ps }
  | .met f x => h.get? a = some (PySem.W.methodObj (.ref f) (.ref x))
  | .ext φ => φ h ∧ (∃ o, h.get? a = some o) ∧ ∀ h1 h2 : Heap, φ h1 → (∀ o, h1.get? a = some o → h2.get? a = some o) → φ h2
/-- the abstract heap is held -/
def HOk (H : Hp) (h : Heap) : Prop := ∀ a o, H a = some o → ObjOk P w H h a o
end

section
variable {P : Program} {w : World} {H H' : Hp} {h h' : Heap} {a : Addr} {o : HO}
theorem ObjOk.lt (x : ObjOk P w H h a o) : a < h.objs.size := by
  cases o with
  | lst xs => obtain ⟨_, _, _, _, e⟩ := x; exact Heap.lt_size e
  | tup xs => obtain ⟨_, _, _, p⟩ := x; exact p.lt
  | dK kvs => obtain ⟨_, _, _, _, o, _, _, e, _⟩ := x; exact Heap.lt_size e
  | dT kvs => obtain ⟨_, _, _, _, o, _, _, e, _⟩ := x; exact Heap.lt_size e
  | set S n => obtain ⟨o, _, _, _, e, _⟩ := x; exact Heap.lt_size e
  | ins C dx fs => obtain ⟨_, _, _, e, _⟩ := x; exact Heap.lt_size e
  | own y => obtain ⟨_, e⟩ := x; exact Heap.lt_size e
  | xd fs => obtain ⟨_, ⟨_, _, _, e, _⟩, _⟩ := x; exact Heap.lt_size e
  | rng lo hi => obtain ⟨_, _, _, e⟩ := x; exact Heap.lt_size e
  | frz ob u => obtain ⟨e, _⟩ := x; exact Heap.lt_size e
  | tbl ps => exact Heap.lt_size (show h.get? a = some _ from x)
  | met f y => exact Heap.lt_size (show h.get? a = some _ from x)
  | ext φ => obtain ⟨_, ⟨_, e⟩, _⟩ := x; exact Heap.lt_size e
theorem Paired.mapP {α β : Type} {F G : α → β → Prop} : ∀ {l₁ : List α} {l₂ : List β}, Paired F l₁ l₂ → (∀ a b, F a b → G a b) → Paired G l₁ l₂
  | _, _, .nil, _ => .nil
  | _, _, .cons r t, f => .cons (f _ _ r) (Paired.mapP t f)
/-- what an object's description leans on: its own object, its own dict, the tuples -/
theorem ObjOk.stay (x : ObjOk P w H h a o) (k : ∀ b u, (b = a ∨ H b = some (.own a)) → h.get? b = some u → h'.get? b = some u)
    (ho : ∀ b, H b = some (.own a) → H' b = some (.own a)) (ht : ∀ b xs, H b = some (.tup xs) → H' b = some (.tup xs)) : ObjOk P w H' h' a o := by
  induction o with
  | lst xs => obtain ⟨z, its, n, r, e⟩ := x; exact ⟨z, its, n, r, k _ _ (.inl rfl) e⟩
  | tup xs => obtain ⟨z, its, r, ob, e, c⟩ := x; exact ⟨z, its, r, ob, k _ _ (.inl rfl) e, c⟩
  | dK kvs => obtain ⟨z, y, vs, r, ob, es, ep, e, c⟩ := x; exact ⟨z, y, vs, r, ob, es, ep, k _ _ (.inl rfl) e, c⟩
  | dT kvs =>
    obtain ⟨z, y, xs, r, ob, es, ep, e, c⟩ := x
    exact ⟨z, y, xs, Paired.mapP r fun p q z => ⟨z.1, ht _ _ z.2.1, z.2.2⟩, ob, es, ep, k _ _ (.inl rfl) e, c⟩
  | set S n => obtain ⟨ob, es, ep, t, e, c⟩ := x; exact ⟨ob, es, ep, t, k _ _ (.inl rfl) e, c⟩
  | ins C dx fs =>
    obtain ⟨d, z, ne, e, mA, ⟨od, es, ep, e2, c⟩, r⟩ := x
    exact ⟨ho _ d, z, ne, k _ _ (.inl rfl) e, mA, ⟨od, es, ep, k _ _ (.inr d) e2, c⟩, r⟩
  | own y => obtain ⟨ob, e⟩ := x; exact ⟨ob, k _ _ (.inl rfl) e⟩
  | xd fs => obtain ⟨mA, ⟨od, es, ep, e, c⟩, r⟩ := x; exact ⟨mA, ⟨od, es, ep, k _ _ (.inl rfl) e, c⟩, r⟩
  | rng lo hi => obtain ⟨t, u, v, e⟩ := x; exact ⟨t, u, v, k _ _ (.inl rfl) e⟩
  | frz ob u ih => obtain ⟨e, q⟩ := x; exact ⟨k _ _ (.inl rfl) e, ih q⟩
  | tbl ps =>
    have e : h.get? a = some { cls := .none, data := .fields ps } := x
    show h'.get? a = some { cls := .none, data := .fields ps }
    exact k a _ (.inl rfl) e
  | met f y =>
    have e : h.get? a = some (PySem.W.methodObj (.ref f) (.ref y)) := x
    show h'.get? a = some (PySem.W.methodObj (.ref f) (.ref y))
    exact k a _ (.inl rfl) e
  | ext φ => obtain ⟨p, ⟨o, e⟩, st⟩ := x; exact ⟨st _ _ p fun o q => k _ _ (.inl rfl) q, ⟨o, k _ _ (.inl rfl) e⟩, st⟩
theorem HOk.lt (x : HOk P w H h) (e : H a = some o) : a < h.objs.size := (x a o e).lt
theorem HOk.fresh (x : HOk P w H h) (e : h.objs.size ≤ a) : H a = none := by
  cases q : H a with
  | none => rfl
  | some u => exact absurd (Nat.lt_of_lt_of_le (x.lt q) e) (Nat.lt_irrefl _)
/-- every object of the heap is kept -/
theorem HOk.kept (x : HOk P w H h) (k : ∀ b u, h.get? b = some u → h'.get? b = some u) : HOk P w H h' := fun a o e =>
  (x a o e).stay (fun b u _ q => k b u q) (fun _ q => q) fun _ _ q => q
/-- a new object is laid and tracked -/
theorem HOk.laid (x : HOk P w H h) (k : ∀ b u, h.get? b = some u → h'.get? b = some u) (hp : h.objs.size ≤ a) (new : ObjOk P w (upd H a o) h' a o) : HOk P w (upd H a o) h' := fun b u e => by
  have hn := x.fresh hp
  by_cases hb : b = a
  · subst hb; rw [upd_same] at e; cases e; exact new
  · rw [upd_ne hb] at e
    exact (x b u e).stay (fun c v _ q => k c v q) (fun c q => by rw [upd_ne (ne_of_none q hn)]; exact q) fun c xs q => by rw [upd_ne (ne_of_none q hn)]; exact q
end

/-- what may be read as u: it is u, or a known u -/
def Rd (H : Hp) (a : Addr) (u : HO) : Prop := H a = some u ∨ ∃ o, H a = some (.frz o u)
theorem Rd.of {H : Hp} {a : Addr} {u : HO} (h : H a = some u) : Rd H a u := .inl h
theorem Rd.ok {P : Program} {w : World} {H : Hp} {h : Heap} {a : Addr} {u : HO} (r : Rd H a u) (x : HOk P w H h) : ObjOk P w H h a u := by
  rcases r with r | ⟨o, r⟩
  · exact x a u r
  · obtain ⟨_, q⟩ := x a _ r
    exact q
/-- what may be written -/
def Mut : Option HO → Prop
  | some (.lst _) => True
  | some (.dK _) => True
  | some (.dT _) => True
  | some (.set _ _) => True
  | some (.ins _ _ _) => True
  | some (.ext _) => True
  | _ => False
section
variable {P : Program} {w : World} {H : Hp} {h h' : Heap} {x e : Addr} {o' : HO}
/-- the object at e is changed: x itself, or the dict of the instance x -/
theorem HOk.write (ok : HOk P w H h) (mu : Mut (H x)) (he : e = x ∨ H e = some (.own x)) (k : ∀ b u, b ≠ e → h.get? b = some u → h'.get? b = some u) (heo : ∃ u, h'.get? e = some u)
    (new : ObjOk P w (upd H x o') h' x o') : HOk P w (upd H x o') h' := fun b u q => by
  have nown : ∀ c y, H c = some (.own y) → c ≠ x := fun c y r z => by subst z; rw [r] at mu; exact mu
  have ntup : ∀ c xs, H c = some (.tup xs) → c ≠ x := fun c xs r z => by subst z; rw [r] at mu; exact mu
  by_cases hb : b = x
  · subst hb; rw [upd_same] at q; cases q; exact new
  · rw [upd_ne hb] at q
    by_cases hbe : b = e
    · have q' : H b = some (.own x) := by
        rcases he with z | z
        · exact absurd (hbe.trans z) hb
        · rw [hbe]; exact z
      rw [q] at q'; cases q'
      obtain ⟨v, hv⟩ := heo
      exact ⟨v, by rw [hbe]; exact hv⟩
    · refine (ok b u q).stay (fun c v hc r => k c v ?_ r) (fun c r => by rw [upd_ne (nown c b r)]; exact r) fun c xs r => by rw [upd_ne (ntup c xs r)]; exact r
      rcases hc with rfl | hc
      · exact hbe
      · rintro rfl
        rcases he with z | z
        · exact nown c b hc z
        · rw [hc] at z; cases z; exact hb rfl
end

/-! ### kept unless tracked; of the frames at fs (the callers') the slots may change (an exception that passes writes there); of the records at ex (iterators) nothing is said -/
structure Un (fs ex : List Addr) (H H' : Hp) (h h' : Heap) : Prop where
  keep : ∀ b o, h.get? b = some o → H b = none → b ∉ fs → b ∉ ex → h'.get? b = some o
  slot : ∀ b o, h.get? b = some o → H b = none → b ∈ fs → b ∉ ex → ∃ sl, h'.get? b = some { o with slots := sl }
  free : ∀ b o, h.get? b = some o → H b = none → b ∉ ex → H' b = none
  there : ∀ b o, h.get? b = some o → b ∉ ex → ∃ o', h'.get? b = some o'
  tups : ∀ b xs, H b = some (.tup xs) → H' b = some (.tup xs)
  frzs : ∀ b o u, H b = some (.frz o u) → H' b = some (.frz o u)
  tbls : ∀ b ps, H b = some (.tbl ps) → ∃ more, H' b = some (.tbl (ps ++ more))
section
variable {fs fs' ex ex' : List Addr} {H H1 H2 : Hp} {h h1 h2 h' : Heap} {a x e : Addr} {o : HO}
theorem Un.any (u : Un fs ex H H1 h h1) {b : Addr} {ob : Obj} (q : h.get? b = some ob) (n : H b = none) (hx : b ∉ ex) : ∃ sl, h1.get? b = some { ob with slots := sl } := by
  by_cases hb : b ∈ fs
  · exact u.slot b ob q n hb hx
  · exact ⟨ob.slots, u.keep b ob q n hb hx⟩
theorem Un.trans (a : Un fs ex H H1 h h1) (b : Un fs ex H1 H2 h1 h2) : Un fs ex H H2 h h2 where
  keep := fun c ob q n hc hx => b.keep c ob (a.keep c ob q n hc hx) (a.free c ob q n hx) hc hx
  slot := fun c ob q n hc hx => by
    obtain ⟨sl, e1⟩ := a.slot c ob q n hc hx
    obtain ⟨sl', e2⟩ := b.slot c _ e1 (a.free c ob q n hx) hc hx
    exact ⟨sl', e2⟩
  free := fun c ob q n hx => by
    obtain ⟨o', e1⟩ := a.there c ob q hx
    exact b.free c o' e1 (a.free c ob q n hx) hx
  there := fun c ob q hx => by
    obtain ⟨o', e1⟩ := a.there c ob q hx
    exact b.there c o' e1 hx
  tups := fun c xs q => b.tups c xs (a.tups c xs q)
  frzs := fun c ob xs q => b.frzs c ob xs (a.frzs c ob xs q)
  tbls := fun c ps q => by
    obtain ⟨m1, e1⟩ := a.tbls c ps q
    obtain ⟨m2, e2⟩ := b.tbls c _ e1
    exact ⟨m1 ++ m2, by rw [e2, Array.append_assoc]⟩
theorem Un.kept (k : ∀ b u, h.get? b = some u → h'.get? b = some u) : Un fs ex H H h h' :=
  ⟨fun b ob q _ _ _ => k b ob q, fun b ob q _ _ _ => ⟨ob.slots, k b ob q⟩, fun _ _ _ n _ => n, fun b ob q _ => ⟨ob, k b ob q⟩, fun _ _ q => q, fun _ _ _ q => q, fun _ ps q => ⟨#[], by rw [q]; simp⟩⟩
theorem Un.refl : Un fs ex H H h h := Un.kept fun _ _ q => q
theorem Un.laid (k : ∀ b u, h.get? b = some u → h'.get? b = some u) (hp : h.objs.size ≤ a) (hn : H a = none) : Un fs ex H (upd H a o) h h' where
  keep := fun b u q _ _ _ => k b u q
  slot := fun b u q _ _ _ => ⟨u.slots, k b u q⟩
  free := fun b u q n _ => by rw [upd_ne (Nat.ne_of_lt (Nat.lt_of_lt_of_le (Heap.lt_size q) hp))]; exact n
  there := fun b u q _ => ⟨u, k b u q⟩
  tups := fun b xs q => by rw [upd_ne (ne_of_none q hn)]; exact q
  frzs := fun b u xs q => by rw [upd_ne (ne_of_none q hn)]; exact q
  tbls := fun b ps q => ⟨#[], by rw [upd_ne (ne_of_none q hn), q]; simp⟩
theorem Un.write (mu : Mut (H x)) (he : e = x ∨ H e = some (.own x)) (k : ∀ b u, b ≠ e → h.get? b = some u → h'.get? b = some u) (heo : ∃ u, h'.get? e = some u) : Un fs ex H (upd H x o) h h' := by
  have hx : ∀ b, H b = none → b ≠ x := fun b n z => by subst z; rw [n] at mu; exact mu
  have hb : ∀ b, H b = none → b ≠ e := fun b n z => by
    subst z
    rcases he with r | r
    · exact hx b n r
    · rw [n] at r; cases r
  have hm : ∀ b u, H b = some u → ¬ Mut (some u) → b ≠ x := fun b u q nm z => by subst z; rw [q] at mu; exact nm mu
  refine ⟨fun b u q n _ _ => k b u (hb b n) q, fun b u q n _ _ => ⟨u.slots, k b u (hb b n) q⟩, fun b u q n _ => by rw [upd_ne (hx b n)]; exact n, fun b u q _ => ?_,
    fun b xs q => by rw [upd_ne (hm b _ q fun z => z)]; exact q, fun b u xs q => by rw [upd_ne (hm b _ q fun z => z)]; exact q, fun b ps q => ⟨#[], by rw [upd_ne (hm b _ q fun z => z), q]; simp⟩⟩
  by_cases hbe : b = e
  · subst hbe; exact heo
  · exact ⟨u, k b u hbe q⟩
theorem Un.mono (u : Un fs ex H H1 h h1) (hs : ∀ b ∈ fs, b ∈ fs') (hx : ∀ b ∈ ex, b ∈ ex') : Un fs' ex' H H1 h h1 :=
  ⟨fun b ob q n hb he => u.keep b ob q n (fun z => hb (hs b z)) fun z => he (hx b z), fun _ _ q n _ he => u.any q n fun z => he (hx _ z), fun b ob q n he => u.free b ob q n fun z => he (hx b z), fun b ob q he => u.there b ob q fun z => he (hx b z), u.tups, u.frzs, u.tbls⟩
end

/-! ### the heap without what is tracked -/
def trk (h : Heap) (H : Hp) : List Addr := (List.range h.objs.size).filter fun a => (H a).isSome
def hidT (h : Heap) (H : Hp) : Heap := PySem.W.hideAll h (trk h H)
theorem hidT_size (h : Heap) (H : Hp) : (hidT h H).objs.size = h.objs.size := PySem.W.hideAll_size _ _
theorem hidT_get {h : Heap} {H : Hp} {b : Addr} {o : Obj} (e : h.get? b = some o) (n : H b = none) : (hidT h H).get? b = some o :=
  PySem.W.hideAll_get _ e fun hm => by
    have q : (H b).isSome = true := (List.mem_filter.mp hm).2
    rw [n] at q; simp at q
theorem of_hidT {h : Heap} {H : Hp} {b : Addr} {o : Obj} (e : (hidT h H).get? b = some o) : h.get? b = some o ∧ H b = none := by
  have e' : h.get? b = some o := PySem.W.of_hideAll (trk h H) e
  refine ⟨e', ?_⟩
  cases q : H b with
  | none => rfl
  | some x =>
    have hm : b ∈ trk h H := List.mem_filter.mpr ⟨List.mem_range.mpr (Heap.lt_size e'), by simp [q]⟩
    have z : (hidT h H).get? b = none := PySem.W.hideAll_none (trk h H) hm
    rw [z] at e; cases e

/-! ### OpenK's ledger, filled with every new object but one -/
def allNews (g h : Heap) (L : Addr) : List (Addr × Obj) := (List.range h.objs.size).filterMap fun a => if a = L ∨ (g.get? a).isSome = true then none else (h.get? a).map fun o => (a, o)
def rest (g h : Heap) (L d : Addr) : List (Addr × Obj) := (allNews g h L).filter fun p => decide (p.1 ≠ d)
end L2

namespace L2
open PySem PySem.Spec PyProof.Rows

/-- the module's facts, over the base: the heap at the law's entry without what is tracked there -/
structure Mod (K : PySem.W.Frag) (mg : Str → Option Value) (base : Heap) : Prop where
  kin : K.In base
  glob : base.Ns mainGlobals mg
  blt : ∃ mb, base.Ns builtinsNs mb ∧ ∀ x : Str, x ≠ "__name__" → mb x = bootBuiltins x
  nolimit : base.NoLimit

/-- the context: a def's body (or a comprehension's block) running. base: fixed through the whole law; s₀, H₀: the entry; outer: the frames whose slots others may change (a def's callers); stack: all frames that run;
   ex: iterators that were made ahead of the entry and are walked here (a comprehension's); fn: the names whose cells were made at the entry (a def: all; a comprehension's block: its own); calm: not within an except suite; pn: pins that every state bears; xe: what is wanted of an exception that leaves the code -/
structure Cx where
  prog : Program
  w : World
  K : PySem.W.Frag
  mg : Str → Option Value
  base : Heap
  A : Around
  N : List Str
  s₀ : Shared
  H₀ : Hp
  env : Env
  outer : List Env
  stack : List Env
  ex : List Addr
  fn : Str → Bool
  calm : Bool
  pn : List (Addr × Obj)
  xe : Value → Shared → Prop
/-- the callers' frames -/
def frs (l : List Env) : List Addr := l.filterMap (·.frame)
abbrev Cx.fs (X : Cx) : List Addr := frs X.outer

def Vis (sc : Scope) (x : Str) : Prop := sc.names.lookup x = some .local ∨ sc.names.lookup x = some .cell ∨ sc.names.lookup x = some .free
def Loc (sc : Scope) (x : Str) : Prop := sc.names.lookup x = some .local ∨ sc.names.lookup x = some .cell
def Look (env : Env) (h : Heap) (m : Str → Option Value) (x : Str) (u : Value) : Prop :=
  (env.kindOf x = some .local ∧ m x = some u) ∨ ((env.kindOf x = some .cell ∨ env.kindOf x = some .free) ∧ ∃ c, env.cells.lookup x = some c ∧ h.IsCell c (some u))

structure Cx.Ok (X : Cx) : Prop where
  mod : Mod X.K X.mg X.base
  kind : X.env.scope.kind = .function
  glob : X.env.globals = mainGlobals
  blt : X.env.builtins = builtinsNs
  above : X.s₀.heap.objs.size ≤ X.env.locals
  inj : ∀ x y c, X.env.cells.lookup x = some c → X.env.cells.lookup y = some c → x = y
  has : ∀ x, (X.env.kindOf x = some .cell ∨ X.env.kindOf x = some .free) → ∃ c, X.env.cells.lookup x = some c
  cab : ∀ x c, X.fn x = true → X.env.cells.lookup x = some c → X.s₀.heap.objs.size ≤ c
  hd : X.calm = true → X.A.handled = none
  frames : X.A.frames = some X.stack
  stk : X.stack = X.outer ∨ (X.stack = X.env :: X.outer ∧ X.env.frame = some X.env.locals)
  exf : ∀ b ∈ X.ex, b ≠ X.env.locals ∧ ∀ x c, X.env.cells.lookup x = some c → c ≠ b
  bs : ∀ b o, X.base.get? b = some o → X.s₀.heap.get? b = some o ∧ X.H₀ b = none
  bsz : X.base.objs.size ≤ X.s₀.heap.objs.size
  noex : ∀ b o, X.base.get? b = some o → b ∉ X.ex
  exfs : ∀ b ∈ X.ex, b ∉ X.fs
  funs : X.s₀.heap.FunFrames X.base X.outer
  frf : ∀ b ∈ X.fs, X.H₀ b = none

structure Inv (X : Cx) (pins : List (Addr × Obj)) (σ : List (Option V)) (H : Hp) (s : Shared) : Prop where
  ok : X.Ok
  os : s.os = X.s₀.os
  bare : AllBare s.gens
  base : Un X.fs X.ex X.H₀ H X.s₀.heap s.heap
  loc : ∃ m, s.heap.Ns X.env.locals m ∧ ∀ (i : Nat) (x : Str) (v : V), X.N[i]? = some x → σ[i]? = some (some v) → Vis X.env.scope x → ∃ u, RelV v u ∧ Look X.env s.heap m x u
  cell : ∀ x c, X.env.cells.lookup x = some c → ∃ v, s.heap.IsCell c v
  free : H X.env.locals = none
  freeC : ∀ x c, X.env.cells.lookup x = some c → H c = none
  pin : ∀ p ∈ X.pn ++ pins, s.heap.get? p.1 = some p.2 ∧ H p.1 = none ∧ p.1 ≠ X.env.locals ∧ p.1 ∉ X.fs ∧ ∀ v, p.2.data ≠ .cell v
  hok : HOk X.prog X.w H s.heap
  len : σ.length = X.N.length

section
variable {X : Cx} {pins : List (Addr × Obj)} {σ : List (Option V)} {H H' : Hp} {s : Shared} {h' : Heap}

theorem Cx.Ok.nofr (ok : X.Ok) {b : Addr} {o : Obj} (e : X.base.get? b = some o) : b ∉ X.fs := fun hb => by
  have := (ok.funs.mem hb).1
  rw [e] at this; cases this
theorem Inv.bs (I : Inv X pins σ H s) : ∀ b o, X.base.get? b = some o → s.heap.get? b = some o ∧ H b = none := fun b o e =>
  ⟨I.base.keep b o (I.ok.bs b o e).1 (I.ok.bs b o e).2 (I.ok.nofr e) (I.ok.noex b o e), I.base.free b o (I.ok.bs b o e).1 (I.ok.bs b o e).2 (I.ok.noex b o e)⟩
theorem Inv.bk (I : Inv X pins σ H s) : ∀ b o, X.base.get? b = some o → s.heap.get? b = some o := fun b o e => (I.bs b o e).1
theorem Inv.mod (I : Inv X pins σ H s) : Mod X.K X.mg X.base := I.ok.mod
theorem Inv.kIn (I : Inv X pins σ H s) : X.K.In s.heap := I.ok.mod.kin.keeps I.bk
theorem Inv.nolimit (I : Inv X pins σ H s) : s.heap.NoLimit := I.ok.mod.nolimit.keeps I.bk
/-- the frame over the base: for OpenK's rules (K.In X.base is I.mod.kin) -/
theorem Inv.fr (I : Inv X pins σ H s) : ∃ m, Fr X.base X.env.locals s.heap m :=
  let ⟨m, hn, _⟩ := I.loc
  ⟨m, hn, I.bk, Nat.le_trans I.ok.bsz I.ok.above⟩
theorem Inv.lt (I : Inv X pins σ H s) : X.env.locals < s.heap.objs.size := let ⟨_, hn, _⟩ := I.loc; hn.lt
theorem Inv.sz (I : Inv X pins σ H s) : X.s₀.heap.objs.size ≤ s.heap.objs.size := Nat.le_trans I.ok.above (Nat.le_of_lt I.lt)
theorem Inv.nofs (I : Inv X pins σ H s) {a : Addr} (h : s.heap.objs.size ≤ a) : a ∉ X.fs := fun hb => by
  obtain ⟨_, o, ho, _⟩ := I.ok.funs.mem hb
  exact absurd (Nat.lt_of_lt_of_le (Heap.lt_size ho) (Nat.le_trans I.sz h)) (Nat.lt_irrefl _)
theorem Inv.cne (I : Inv X pins σ H s) : ∀ x c, X.env.cells.lookup x = some c → c ≠ X.env.locals := fun x c e z => by
  obtain ⟨v, o, ho, hd⟩ := I.cell x c e
  obtain ⟨m, ⟨o', es, ep, ho', hd', _⟩, _⟩ := I.loc
  rw [z, ho'] at ho; cases ho; rw [hd'] at hd; cases hd
theorem Inv.funs (I : Inv X pins σ H s) : s.heap.FunFrames X.base X.outer := by
  have all : ∀ (l : List Env), (∀ b ∈ frs l, b ∈ X.fs) → X.s₀.heap.FunFrames X.base l → s.heap.FunFrames X.base l := by
    intro l
    induction l with
    | nil => intro _ _; trivial
    | cons env r ih =>
      intro hs hl
      obtain ⟨hk, ⟨L, o, hf, hn, ho, hd⟩, hr⟩ := hl
      have hL : L ∈ X.fs := hs L (by unfold frs; rw [List.filterMap_cons, hf]; exact List.mem_cons_self)
      obtain ⟨sl, e⟩ := I.base.slot L o ho (I.ok.frf L hL) hL fun z => I.ok.exfs L z hL
      exact ⟨hk, ⟨L, _, hf, hn, e, hd⟩, ih (fun b hb => hs b (by unfold frs; rw [List.filterMap_cons, hf]; exact List.mem_cons_of_mem _ hb)) hr⟩
  exact all X.outer (fun _ hb => hb) I.ok.funs

/-- the frames that run, for a call -/
theorem Inv.stack (I : Inv X pins σ H s) : s.heap.FunFrames X.base X.stack := by
  rcases I.ok.stk with e | ⟨e, hf⟩
  · rw [e]; exact I.funs
  · rw [e]
    obtain ⟨m, hn, _⟩ := I.loc
    refine .cons (by rw [I.ok.kind]; decide) hf hn ?_ I.funs
    exact Heap.get?_none_of_le (Nat.le_trans I.ok.bsz I.ok.above)
theorem Inv.stkSub (I : Inv X pins σ H s) : ∀ b ∈ frs X.stack, b ∈ X.env.locals :: X.fs := fun b hb => by
  rcases I.ok.stk with e | ⟨e, hf⟩
  · rw [e] at hb; exact List.mem_cons_of_mem _ hb
  · rw [e] at hb
    unfold frs at hb
    rw [List.filterMap_cons, hf] at hb
    exact hb
theorem Inv.stkFree (I : Inv X pins σ H s) : ∀ b ∈ frs X.stack, H b = none := fun b hb => by
  rcases List.mem_cons.mp (I.stkSub b hb) with e | hb
  · rw [e]; exact I.free
  · obtain ⟨_, o, ho, _⟩ := I.ok.funs.mem hb
    exact I.base.free b o ho (I.ok.frf b hb) fun z => I.ok.exfs b z hb

/-- THE STEP: the untracked objects but the frame and the records at ch are kept (the callers' frames up to slots), the frame's map is kept, the new abstract heap is held -/
theorem Inv.step {g' : Array GenState} {t' : Nat} {d' : Drawn} {ch : List Addr} (I : Inv X pins σ H s)
    (hch : ∀ b ∈ ch, (b ∈ X.ex ∨ X.s₀.heap.objs.size ≤ b) ∧ b ≠ X.env.locals ∧ (∀ x c, X.env.cells.lookup x = some c → c ≠ b) ∧ ∀ p ∈ X.pn ++ pins, p.1 ≠ b)
    (keep : ∀ b o, b ≠ X.env.locals → b ∉ X.fs → b ∉ ch → s.heap.get? b = some o → H b = none → h'.get? b = some o)
    (slot : ∀ b o, b ≠ X.env.locals → b ∈ X.fs → b ∉ ch → s.heap.get? b = some o → H b = none → ∃ sl, h'.get? b = some { o with slots := sl }) (free : ∀ b o, b ∉ ch → s.heap.get? b = some o → H b = none → H' b = none)
    (there : ∀ b o, b ∉ ch → s.heap.get? b = some o → ∃ o', h'.get? b = some o')
    (tups : ∀ b xs, H b = some (.tup xs) → H' b = some (.tup xs)) (frzs : ∀ b o u, H b = some (.frz o u) → H' b = some (.frz o u)) (tbls : ∀ b ps, H b = some (.tbl ps) → ∃ more, H' b = some (.tbl (ps ++ more)))
    (ns : ∀ m, s.heap.Ns X.env.locals m → h'.Ns X.env.locals m) (hok : HOk X.prog X.w H' h') (hg : AllBare g') :
    Inv X pins σ H' { s with heap := h', gens := g', drawn := d', toks := t' } := by
  have neL : ∀ b o, X.s₀.heap.get? b = some o → b ≠ X.env.locals := fun b o e => Nat.ne_of_lt (Nat.lt_of_lt_of_le (Heap.lt_size e) I.ok.above)
  have neC : ∀ b o, X.s₀.heap.get? b = some o → b ∉ X.ex → b ∉ ch := fun b o e hx hb => by
    rcases (hch b hb).1 with z | z
    · exact hx z
    · exact absurd (Nat.lt_of_lt_of_le (Heap.lt_size e) z) (Nat.lt_irrefl _)
  have cellK : ∀ x c, X.env.cells.lookup x = some c → ∀ v, s.heap.IsCell c v → h'.IsCell c v := fun x c e v ⟨o, ho, hd⟩ => by
    have nch : c ∉ ch := fun z => (hch c z).2.2.1 x c e rfl
    by_cases hc : c ∈ X.fs
    · obtain ⟨sl, q⟩ := slot c o (I.cne x c e) hc nch ho (I.freeC x c e)
      exact ⟨_, q, hd⟩
    · exact ⟨o, keep c o (I.cne x c e) hc nch ho (I.freeC x c e), hd⟩
  refine ⟨I.ok, I.os, hg, ⟨fun b o e n hb hx => ?_, fun b o e n hb hx => ?_, fun b o e n hx => ?_, fun b o e hx => ?_, fun b xs e => tups b xs (I.base.tups b xs e), fun b o xs e => frzs b o xs (I.base.frzs b o xs e), fun b ps e => ?_⟩, ?_, fun x c e => ?_, ?_, fun x c e => ?_, fun p hp => ?_, hok, I.len⟩
  · exact keep b o (neL b o e) hb (neC b o e hx) (I.base.keep b o e n hb hx) (I.base.free b o e n hx)
  · obtain ⟨sl, e1⟩ := I.base.slot b o e n hb hx
    obtain ⟨sl', e2⟩ := slot b _ (neL b o e) hb (neC b o e hx) e1 (I.base.free b o e n hx)
    exact ⟨sl', e2⟩
  · obtain ⟨o', e1⟩ := I.base.there b o e hx
    exact free b o' (neC b o e hx) e1 (I.base.free b o e n hx)
  · obtain ⟨o', e1⟩ := I.base.there b o e hx
    exact there b o' (neC b o e hx) e1
  · obtain ⟨m1, e1⟩ := I.base.tbls b ps e
    obtain ⟨m2, e2⟩ := tbls b _ e1
    exact ⟨m1 ++ m2, by rw [e2, Array.append_assoc]⟩
  · obtain ⟨m, hn, hl⟩ := I.loc
    refine ⟨m, ns m hn, fun i x v e1 e2 e3 => ?_⟩
    obtain ⟨u, r, l⟩ := hl i x v e1 e2 e3
    refine ⟨u, r, ?_⟩
    rcases l with l | ⟨k, c, e, z⟩
    · exact .inl l
    · exact .inr ⟨k, c, e, cellK x c e _ z⟩
  · obtain ⟨v, z⟩ := I.cell x c e
    exact ⟨v, cellK x c e v z⟩
  · obtain ⟨m, ⟨o, _, _, ho, _⟩, _⟩ := I.loc
    exact free _ o (fun z => (hch _ z).2.1 rfl) ho I.free
  · obtain ⟨v, o, ho, hd⟩ := I.cell x c e
    exact free c o (fun z => (hch c z).2.2.1 x c e rfl) ho (I.freeC x c e)
  · obtain ⟨e, n, ne, nf, d⟩ := I.pin p hp
    have nch : p.1 ∉ ch := fun z => (hch p.1 z).2.2.2 p hp rfl
    exact ⟨keep p.1 p.2 ne nf nch e n, free p.1 p.2 nch e n, ne, nf, d⟩
/-- .. where the frame's own object is kept too -/
theorem Inv.un {t' : Nat} (I : Inv X pins σ H s) (u : Un X.fs [] H H' s.heap h') (hok : HOk X.prog X.w H' h') : Inv X pins σ H' { s with heap := h', toks := t' } := by
  obtain ⟨m, ⟨o, es, ep, ho, r⟩, _⟩ := id I.loc
  obtain ⟨sl, hL⟩ := u.any ho I.free (by simp)
  exact I.step (g' := s.gens) (d' := s.drawn) (ch := []) (fun _ z => nomatch z) (fun b o _ hb _ e n => u.keep b o e n hb (by simp)) (fun b o _ hb _ e n => u.slot b o e n hb (by simp)) (fun b o _ e n => u.free b o e n (by simp)) (fun b o _ e => u.there b o e (by simp)) u.tups u.frzs u.tbls (fun m' hm => by
    obtain ⟨o', es', ep', ho', r'⟩ := hm
    rw [ho] at ho'; cases ho'
    exact ⟨_, es', ep', hL, r'⟩) hok I.bare
/-- behind a call (or a comprehension's block): the slots of this frame may have changed too, the records at ch may have turned -/
theorem Inv.call {g' : Array GenState} {t' : Nat} {d' : Drawn} {ch : List Addr} (I : Inv X pins σ H s) (u : Un (frs X.stack) ch H H' s.heap h') (hok : HOk X.prog X.w H' h') (hg : AllBare g')
    (hch : ∀ b ∈ ch, (b ∈ X.ex ∨ X.s₀.heap.objs.size ≤ b) ∧ b ≠ X.env.locals ∧ (∀ x c, X.env.cells.lookup x = some c → c ≠ b) ∧ ∀ p ∈ X.pn ++ pins, p.1 ≠ b) :
    Inv X pins σ H' { s with heap := h', gens := g', drawn := d', toks := t' } := by
  obtain ⟨m, ⟨o, es, ep, ho, r⟩, _⟩ := id I.loc
  obtain ⟨sl, hL⟩ := u.any ho I.free fun z => (hch _ z).2.1 rfl
  exact I.step (ch := ch) hch (fun b o hL hb hc e n => u.keep b o e n (fun z => (List.mem_cons.mp (I.stkSub b z)).elim hL hb) hc) (fun b o _ _ hc e n => u.any e n hc) (fun b o hc e n => u.free b o e n hc) (fun b o hc e => u.there b o e hc) u.tups u.frzs u.tbls (fun m' hm => by
    obtain ⟨o', es', ep', ho', r'⟩ := hm
    rw [ho] at ho'; cases ho'
    exact ⟨_, es', ep', hL, r'⟩) hok hg
/-- an untracked record of ours (an iterator) has turned -/
theorem Inv.turned {t' : Nat} {it : Addr} (I : Inv X pins σ H s) (k : ∀ b o, b ≠ it → s.heap.get? b = some o → h'.get? b = some o) (hn : H it = none) (hL : it ≠ X.env.locals)
    (h1 : it ∈ X.ex ∨ X.s₀.heap.objs.size ≤ it) (h2 : ∀ x c, X.env.cells.lookup x = some c → c ≠ it) (h3 : ∀ p ∈ X.pn ++ pins, p.1 ≠ it) : Inv X pins σ H { s with heap := h', toks := t' } := by
  have nit : ∀ b u, H b = some u → b ≠ it := fun b u e z => by rw [z, hn] at e; cases e
  refine I.step (g' := s.gens) (d' := s.drawn) (ch := [it]) (fun b hb => ?_) (fun b o _ _ hc e _ => k b o (fun z => hc (by simp [z])) e) (fun b o _ _ hc e _ => ⟨o.slots, k b o (fun z => hc (by simp [z])) e⟩) (fun _ _ _ _ n => n)
    (fun b o hc e => ⟨o, k b o (fun z => hc (by simp [z])) e⟩) (fun _ _ e => e) (fun _ _ _ e => e) (fun b ps e => ⟨#[], by rw [e]; simp⟩) (fun m hm => ?_) (fun b u e => ?_) I.bare
  · have e : b = it := by simpa using hb
    subst e
    exact ⟨h1, hL, h2, h3⟩
  · obtain ⟨o, es, ep, ho, r⟩ := hm
    exact ⟨o, es, ep, k _ o (Ne.symm hL) ho, r⟩
  · refine (I.hok b u e).stay (fun c v hc q => k c v ?_ q) (fun _ q => q) fun _ _ q => q
    rcases hc with z | z
    · rw [z]; exact nit b u e
    · exact nit c _ z
theorem Inv.tok (I : Inv X pins σ H s) (t : Nat) : Inv X pins σ H { s with toks := t } := I.un (h' := s.heap) (t' := t) Un.refl I.hok
/-- all objects kept -/
theorem Inv.kept {t' : Nat} (I : Inv X pins σ H s) (k : ∀ b u, s.heap.get? b = some u → h'.get? b = some u) : Inv X pins σ H { s with heap := h', toks := t' } := I.un (Un.kept k) (I.hok.kept k)
/-- a new object laid and tracked -/
theorem Inv.laid {a : Addr} {o : HO} {t' : Nat} (I : Inv X pins σ H s) (k : ∀ b u, s.heap.get? b = some u → h'.get? b = some u) (hp : s.heap.objs.size ≤ a) (new : ObjOk X.prog X.w (upd H a o) h' a o) :
    Inv X pins σ (upd H a o) { s with heap := h', toks := t' } := I.un (Un.laid k hp (I.hok.fresh hp)) (I.hok.laid k hp new)
/-- an object written -/
theorem Inv.write {x e : Addr} {o : HO} {t' : Nat} (I : Inv X pins σ H s) (mu : Mut (H x)) (he : e = x ∨ H e = some (.own x)) (k : ∀ b u, b ≠ e → s.heap.get? b = some u → h'.get? b = some u) (heo : ∃ u, h'.get? e = some u)
    (new : ObjOk X.prog X.w (upd H x o) h' x o) : Inv X pins σ (upd H x o) { s with heap := h', toks := t' } := I.un (Un.write mu he k heo) (I.hok.write mu he k heo new)
theorem Inv.pins_of {pins' : List (Addr × Obj)} (I : Inv X pins σ H s) (h : ∀ p ∈ pins', s.heap.get? p.1 = some p.2 ∧ H p.1 = none ∧ p.1 ≠ X.env.locals ∧ p.1 ∉ X.fs ∧ ∀ v, p.2.data ≠ .cell v) : Inv X pins' σ H s :=
  ⟨I.ok, I.os, I.bare, I.base, I.loc, I.cell, I.free, I.freeC, fun p hp => (List.mem_append.mp hp).elim (fun z => I.pin p (List.mem_append_left _ z)) (h p), I.hok, I.len⟩

theorem nodup_ix {N : List Str} (hN : N.Nodup) {i j : Nat} {x : Str} (a : N[i]? = some x) (b : N[j]? = some x) : i = j := by
  obtain ⟨h1, e1⟩ := List.getElem?_eq_some_iff.mp a
  obtain ⟨h2, e2⟩ := List.getElem?_eq_some_iff.mp b
  exact (List.getElem_inj hN).mp (e1.trans e2.symm)

/-- a name is stored; what changed -/
theorem store_ok2 {M : Model} {A : Around} {E : Value → Shared → Prop} {i : Nat} {x : Str} {v : V} {u : Value} {Q : Unit → Shared → Prop} (I : Inv X pins σ H s) (hN : X.N.Nodup) (hi : X.N[i]? = some x) (hx : Loc X.env.scope x) (r : RelV v u)
    (h : ∀ s', Inv X pins (σ.set i (some v)) H s' → (∃ a, Heap.SameBut a s.heap s'.heap ∧ (a = X.env.locals ∨ X.env.cells.lookup x = some a)) → Q () s') (hf : X.fn x = true ∨ X.env.scope.names.lookup x = some .local := by first | exact .inl rfl | exact .inr rfl | assumption) : wpAny M A (storeName X.env x u) Q E s := by
  obtain ⟨m, hn, hl⟩ := id I.loc
  have hcls : (X.env.scope.kind == .class || (X.env.scope.kind == .module && X.env.locals != X.env.globals)) = false := by rw [I.ok.kind]; rfl
  have hiσ : i < σ.length := by rw [I.len]; exact (List.getElem?_eq_some_iff.mp hi).1
  have cne := I.cne
  have tracked : ∀ {a : Addr} {h' : Heap}, (∃ o, s.heap.get? a = some o ∧ H a = none) → Heap.SameBut a s.heap h' → HOk X.prog X.w H h' := fun {a h'} ha hs b ob e => by
    obtain ⟨_, _, hfree⟩ := ha
    refine (I.hok b ob e).stay (fun c w' hc q => (hs.2 c ?_).trans q) (fun _ q => q) fun _ _ q => q
    rintro rfl
    rcases hc with rfl | hc
    · rw [hfree] at e; cases e
    · rw [hfree] at hc; cases hc
  rcases hx with hk | hk
  · refine wpAny_storeName_local hk hn (fun h' hn' hs => ?_) hcls
    obtain ⟨oL, _, _, hoL, _⟩ := id hn
    refine h _ ⟨I.ok, I.os, I.bare, ⟨fun b o e n hb hx => ?_, fun b o e n hb hx => ?_, I.base.free, fun b o e hx => ?_, I.base.tups, I.base.frzs, I.base.tbls⟩, ⟨_, hn', fun j y v' e1 e2 e3 => ?_⟩, fun y c e => ?_, I.free, I.freeC, fun p hp => ?_, tracked ⟨oL, hoL, I.free⟩ hs, by simpa using I.len⟩ ⟨_, hs, .inl rfl⟩
    · exact (hs.2 b (Nat.ne_of_lt (Nat.lt_of_lt_of_le (Heap.lt_size e) I.ok.above))).trans (I.base.keep b o e n hb hx)
    · obtain ⟨sl, e1⟩ := I.base.slot b o e n hb hx
      exact ⟨sl, (hs.2 b (Nat.ne_of_lt (Nat.lt_of_lt_of_le (Heap.lt_size e) I.ok.above))).trans e1⟩
    · obtain ⟨o', e1⟩ := I.base.there b o e hx
      exact ⟨o', (hs.2 b (Nat.ne_of_lt (Nat.lt_of_lt_of_le (Heap.lt_size e) I.ok.above))).trans e1⟩
    · by_cases hj : j = i
      · subst hj
        rw [hi] at e1; cases e1
        rw [List.getElem?_set_self hiσ] at e2
        cases e2
        exact ⟨u, r, .inl ⟨hk, by simp⟩⟩
      · rw [List.getElem?_set_ne (Ne.symm hj)] at e2
        obtain ⟨u', r', q⟩ := hl j y v' e1 e2 e3
        refine ⟨u', r', ?_⟩
        rcases q with ⟨k, e⟩ | ⟨k, c, e, z⟩
        · refine .inl ⟨k, ?_⟩
          have : y ≠ x := fun e => hj (nodup_ix hN e1 (e ▸ hi))
          simp [this, e]
        · exact .inr ⟨k, c, e, z.sameBut hs (cne y c e)⟩
    · obtain ⟨w', z⟩ := I.cell y c e
      exact ⟨w', z.sameBut hs (cne y c e)⟩
    · obtain ⟨e, n, ne, nf, d⟩ := I.pin p hp
      exact ⟨(hs.2 p.1 ne).trans e, n, ne, nf, d⟩
  · have hfn : X.fn x = true := by
      rcases hf with z | z
      · exact z
      · rw [z] at hk; cases hk
    obtain ⟨c, hc⟩ := I.ok.has x (.inl hk)
    obtain ⟨w', z⟩ := I.cell x c hc
    refine wpAny_storeName_cell I.ok.kind hk hc z (fun h' hc' hs => ?_)
    obtain ⟨oc, hoc, hocd⟩ := id z
    refine h { s with heap := h' } ⟨I.ok, I.os, I.bare, ⟨fun b o e n hb hx => ?_, fun b o e n hb hx => ?_, I.base.free, fun b o e hx => ?_, I.base.tups, I.base.frzs, I.base.tbls⟩, ⟨m, hn.sameBut hs (Ne.symm (cne x c hc)), fun j y v' e1 e2 e3 => ?_⟩, fun y c' e => ?_, I.free, I.freeC, fun p hp => ?_, tracked ⟨oc, hoc, I.freeC x c hc⟩ hs, by simpa using I.len⟩ ⟨c, hs, .inr hc⟩
    · exact (hs.2 b (Nat.ne_of_lt (Nat.lt_of_lt_of_le (Heap.lt_size e) (I.ok.cab x c hfn hc)))).trans (I.base.keep b o e n hb hx)
    · obtain ⟨sl, e1⟩ := I.base.slot b o e n hb hx
      exact ⟨sl, (hs.2 b (Nat.ne_of_lt (Nat.lt_of_lt_of_le (Heap.lt_size e) (I.ok.cab x c hfn hc)))).trans e1⟩
    · obtain ⟨o', e1⟩ := I.base.there b o e hx
      exact ⟨o', (hs.2 b (Nat.ne_of_lt (Nat.lt_of_lt_of_le (Heap.lt_size e) (I.ok.cab x c hfn hc)))).trans e1⟩
    · by_cases hj : j = i
      · subst hj
        rw [hi] at e1; cases e1
        rw [List.getElem?_set_self hiσ] at e2
        cases e2
        exact ⟨u, r, .inr ⟨.inl hk, c, hc, hc'⟩⟩
      · rw [List.getElem?_set_ne (Ne.symm hj)] at e2
        obtain ⟨u', r', q⟩ := hl j y v' e1 e2 e3
        refine ⟨u', r', ?_⟩
        rcases q with q | ⟨k, c', e, z'⟩
        · exact .inl q
        · refine .inr ⟨k, c', e, z'.sameBut hs ?_⟩
          rintro rfl
          exact hj (nodup_ix hN e1 (I.ok.inj _ _ _ e hc ▸ hi))
    · by_cases hcc : c' = c
      · subst hcc; exact ⟨_, hc'⟩
      · obtain ⟨w2, z2⟩ := I.cell y c' e
        exact ⟨w2, z2.sameBut hs hcc⟩
    · obtain ⟨e, n, ne, nf, d⟩ := I.pin p hp
      refine ⟨(hs.2 p.1 ?_).trans e, n, ne, nf, d⟩
      intro q
      rw [q, hoc] at e
      have q' : oc = p.2 := Option.some.inj e
      exact d w' (by rw [← q']; exact hocd)
theorem store_ok {M : Model} {A : Around} {E : Value → Shared → Prop} {i : Nat} {x : Str} {v : V} {u : Value} {Q : Unit → Shared → Prop} (I : Inv X pins σ H s) (hN : X.N.Nodup) (hi : X.N[i]? = some x) (hx : Loc X.env.scope x) (r : RelV v u)
    (h : ∀ s', Inv X pins (σ.set i (some v)) H s' → Q () s') (hf : X.fn x = true ∨ X.env.scope.names.lookup x = some .local := by first | exact .inl rfl | exact .inr rfl | assumption) : wpAny M A (storeName X.env x u) Q E s :=
  store_ok2 I hN hi hx r (fun s' I' _ => h s' I') hf
/-- behind a call or a block, the state as it is -/
theorem Inv.call' {s' : Shared} {ch : List Addr} (I : Inv X pins σ H s) (ho : s'.os = s.os) (u : Un (frs X.stack) ch H H' s.heap s'.heap) (hok : HOk X.prog X.w H' s'.heap) (hg : AllBare s'.gens)
    (hch : ∀ b ∈ ch, (b ∈ X.ex ∨ X.s₀.heap.objs.size ≤ b) ∧ b ≠ X.env.locals ∧ (∀ x c, X.env.cells.lookup x = some c → c ≠ b) ∧ ∀ p ∈ X.pn ++ pins, p.1 ≠ b) : Inv X pins σ H' s' := by
  obtain ⟨h', g', d', t', o'⟩ := s'
  have e : o' = s.os := ho
  subst e
  exact I.call (g' := g') (t' := t') (d' := d') u hok hg hch
end

/-! ### the judgements -/
/-- an exception: its class, its own dict's address (where it has one), the abstract heap behind it -/
abbrev XK := Value → Option Addr → Hp → Prop
abbrev St := List (Option V)
abbrev VK := V → Hp → Prop
/-- an expression's reading; a test's; an argument list's -/
abbrev TE := St → Hp → VK → Prop
abbrev TT := St → Hp → (Bool → Hp → Prop) → Prop
abbrev TA := St → Hp → (List V → Hp → Prop) → Prop
/-- what is wanted behind a statement -/
structure Ends where
  nx : St → Hp → Prop
  rt : VK
  bk : St → Hp → Prop := fun _ _ => False
  ct : St → Hp → Prop := fun _ _ => False
abbrev TS := Ends → St → Hp → Prop

def EP (X : Cx) (pins : List (Addr × Obj)) (σ : St) (Q : VK) (u : Value) (s' : Shared) : Prop := ∃ v H', Inv X pins σ H' s' ∧ RelV v u ∧ Q v H'
def TP (X : Cx) (pins : List (Addr × Obj)) (σ : St) (Q : Bool → Hp → Prop) (b : Bool) (s' : Shared) : Prop := ∃ H', Inv X pins σ H' s' ∧ Q b H'
def AP (X : Cx) (pins : List (Addr × Obj)) (σ : St) (Q : List V → Hp → Prop) (us : List Value) (s' : Shared) : Prop := ∃ vs H', Inv X pins σ H' s' ∧ Vals vs us ∧ Q vs H'
def SP (X : Cx) (pins : List (Addr × Obj)) (D : Ends) (f : Flow) (s' : Shared) : Prop :=
  match f with
  | .next => ∃ σ' H', Inv X pins σ' H' s' ∧ D.nx σ' H'
  | .brk => ∃ σ' H', Inv X pins σ' H' s' ∧ D.bk σ' H'
  | .cont => ∃ σ' H', Inv X pins σ' H' s' ∧ D.ct σ' H'
  | .ret u => ∃ v σ' H', Inv X pins σ' H' s' ∧ RelV v u ∧ D.rt v H'

def PE (X : Cx) (e : Expr) (t : TE) : Prop :=
  ∀ (pins : List (Addr × Obj)) (s : Shared) (σ : St) (H : Hp) (Q : VK), Inv X pins σ H s → t σ H Q → wpAny (model X.prog X.w) X.A (eval e X.env) (EP X pins σ Q) X.xe s
def PT (X : Cx) (e : Expr) (t : TT) : Prop :=
  ∀ (pins : List (Addr × Obj)) (s : Shared) (σ : St) (H : Hp) (Q : Bool → Hp → Prop), Inv X pins σ H s → t σ H Q → wpAny (model X.prog X.w) X.A (isTrue e X.env (eval e X.env)) (TP X pins σ Q) X.xe s
/-- a test whatever its 'whole' is (and, or) -/
def PW (X : Cx) (e : Expr) (t : TT) : Prop :=
  ∀ (whole : Sem Value) (pins : List (Addr × Obj)) (s : Shared) (σ : St) (H : Hp) (Q : Bool → Hp → Prop), Inv X pins σ H s → t σ H Q → wpAny (model X.prog X.w) X.A (isTrue e X.env whole) (TP X pins σ Q) X.xe s
theorem PW.pt {X : Cx} {e : Expr} {t : TT} (h : PW X e t) : PT X e t := h _
/-- an argument list (no star), from the left -/
def PA (X : Cx) (es : List Expr) (t : TA) : Prop :=
  ∀ (pos : Pos) (pins : List (Addr × Obj)) (s : Shared) (σ : St) (H : Hp) (Q : List V → Hp → Prop), Inv X pins σ H s → t σ H Q → wpAny (model X.prog X.w) X.A (spliced (backTo pos (starEach es X.env))) (AP X pins σ Q) X.xe s
def PS (X : Cx) (st : Stmt) (t : TS) : Prop :=
  ∀ (pins : List (Addr × Obj)) (s : Shared) (σ : St) (H : Hp) (D : Ends), Inv X pins σ H s → t D σ H → wpAny (model X.prog X.w) X.A (exec st X.env) (SP X pins D) X.xe s
def PSs (X : Cx) (st : List Stmt) (t : TS) : Prop :=
  ∀ (pins : List (Addr × Obj)) (s : Shared) (σ : St) (H : Hp) (D : Ends), Inv X pins σ H s → t D σ H → wpAny (model X.prog X.w) X.A (execs st X.env) (SP X pins D) X.xe s
/-- weaken the end -/
theorem thn {α : Type} {t : Sem α} {Q Q' : α → Shared → Prop} {M : Model} {A : Around} {E : Value → Shared → Prop} {s : Shared} (h : wpAny M A t Q E s) (hQ : ∀ a s, Q a s → Q' a s) : wpAny M A t Q' E s := wpAny_mono h hQ fun _ _ x => x
end L2

namespace L2
open PySem PySem.Spec PyProof.Rows
section
variable {X : Cx}

/-! ### names and constants -/
def tVar (i : Nat) : TE := fun σ H Q => ∃ v, σ[i]? = some (some v) ∧ Q v H
def tC (v : V) : TE := fun _ H Q => Q v H
theorem pe_var {i : Nat} {x : Str} {pos : Pos} (hN : X.N[i]? = some x) (hv : Vis X.env.scope x) (hd : (x == ("__debug__" : Str)) = false := by decide) (hcd : (x == ("__classdict__" : Str)) = false := by decide) : PE X (.Name x pos) (tVar i) := by
  intro pins s σ H Q I h
  obtain ⟨v, e, h⟩ := h
  obtain ⟨m, hn, hl⟩ := I.loc
  obtain ⟨u, r, l⟩ := hl i x v hN e hv
  have fin : EP X pins σ Q u s := ⟨v, H, I, r, h⟩
  rcases l with ⟨hk, hm⟩ | ⟨hk, c, hc, hcell⟩
  · exact wpAny_Name (wpAny_loadName_local I.ok.kind hk hn hm fin) hd
  · rcases hk with hk | hk
    · exact wpAny_Name (wpAny_loadName_cell I.ok.kind hk hc hcell fin) hd
    · exact wpAny_Name (wpAny_loadName_free I.ok.kind hk hc hcell fin hcd) hd
theorem pe_int {i j pos} : PE X (.Constant (.int i) j pos) (tC (.int i)) := fun _ _ _ H _ I h => wpAny_Constant_int ⟨.int i, H, I.tok _, ⟨_, rfl⟩, h⟩
theorem pe_bl {b j pos} : PE X (.Constant (.bool b) j pos) (tC (.bl b)) := fun _ _ _ H _ I h => Constant_bool ⟨.bl b, H, I, rfl, h⟩
theorem pe_non {j pos} : PE X (.Constant .none j pos) (tC .non) := fun _ _ _ H _ I h => Constant_none ⟨.non, H, I, rfl, h⟩
theorem pe_str {x j pos} : PE X (.Constant (.str x) j pos) (tC (.str x)) := fun _ _ _ H _ I h => Calls.Constant_str ⟨.str x, H, I.tok _, ⟨_, rfl⟩, h⟩

/-- a global name of the def -/
def Gl (X : Cx) (x : Str) : Prop := X.env.kindOf x = some .globalImplicit
theorem ld_glob {E : Value → Shared → Prop} {pins : List (Addr × Obj)} {s : Shared} {σ : St} {H : Hp} {x : Str} {u : Value} {pos : Pos} {Q : Value → Shared → Prop} (I : Inv X pins σ H s) (hg : Gl X x) (hm : X.mg x = some u) (h : Q u s)
    (hd : (x == ("__debug__" : Str)) = false := by decide) : wpAny (model X.prog X.w) X.A (eval (.Name x pos) X.env) Q E s :=
  Calls.Name_function_global I.ok.kind hg (Calls.loadGlobal_global (by rw [I.ok.glob]; exact I.mod.glob.keeps I.bk) hm h) hd
theorem ld_blt {E : Value → Shared → Prop} {pins : List (Addr × Obj)} {s : Shared} {σ : St} {H : Hp} {x : Str} {u : Value} {pos : Pos} {Q : Value → Shared → Prop} (I : Inv X pins σ H s) (hg : Gl X x) (hm : X.mg x = none) (hv : bootBuiltins x = some u) (h : Q u s)
    (hn : x ≠ "__name__" := by decide) (hd : (x == ("__debug__" : Str)) = false := by decide) : wpAny (model X.prog X.w) X.A (eval (.Name x pos) X.env) Q E s := by
  obtain ⟨mb, h1, h2⟩ := I.mod.blt
  exact Calls.Name_function_global I.ok.kind hg (Calls.loadGlobal_builtin (by rw [I.ok.glob]; exact I.mod.glob.keeps I.bk) hm (by rw [I.ok.blt]; exact h1.keeps I.bk) ((h2 x hn).trans hv) h) hd
/-- a module's constant, a class, a function, as a value -/
theorem pe_glob {x : Str} {v : V} {u : Value} {pos : Pos} (hg : Gl X x) (hm : X.mg x = some u) (r : RelV v u) (hd : (x == ("__debug__" : Str)) = false := by decide) : PE X (.Name x pos) (tC v) :=
  fun _ _ _ H _ I h => ld_glob I hg hm ⟨v, H, I, r, h⟩ hd
theorem pe_bltn {x : Str} {v : V} {u : Value} {pos : Pos} (hg : Gl X x) (hm : X.mg x = none) (hv : bootBuiltins x = some u) (r : RelV v u) (hn : x ≠ "__name__" := by decide) (hd : (x == ("__debug__" : Str)) = false := by decide) : PE X (.Name x pos) (tC v) :=
  fun _ _ _ H _ I h => ld_blt I hg hm hv ⟨v, H, I, r, h⟩ hn hd

/-! ### arithmetic -/
variable {a b : Expr} {ta tb : TE} {pos : Pos}
/-! ### comparisons -/
/-- a comparison as a value, as a test -/
def tB (t : TE) : TT := fun σ H Q => t σ H fun x H1 => ∃ c, x = .bl c ∧ Q c H1
/-- an expression whose value is a bool, as a test -/
theorem pt_val {e : Expr} {t : TE} (h : PE X e t) (he : ∀ whole, isTrue e X.env whole = (do let v ← whole; standAt e.pos; holding [v] (truthy v)) := by intro _; rfl) : PT X e (tB t) := by
  intro pins s σ H Q I hw
  refine isTrue_plain (thn (h pins s σ H _ I hw) fun v s1 ⟨x, H1, I1, r1, q1⟩ => ?_) (he _)
  obtain ⟨d, rfl, q⟩ := q1
  cases r1
  exact wpAny_truthy_bool ⟨H1, I1, q⟩

/-! ### and, or, not -/
variable {tA tB' : TT} {rest : List Expr}
def tAnd (t u : TT) : TT := fun σ H Q => t σ H fun c H1 => if c = true then u σ H1 Q else Q false H1
def tOr (t u : TT) : TT := fun σ H Q => t σ H fun c H1 => if c = true then Q true H1 else u σ H1 Q
def tNot (t : TT) : TT := fun σ H Q => t σ H fun c H1 => Q (!c) H1
theorem pw_and1 (ha : PT X a tA) : PW X (.BoolOp .And [a] pos) tA := by
  intro wh pins s σ H Q I h
  refine isTrue_and (thn (ha pins s σ H Q I h) fun c s1 e => ?_)
  cases c with
  | true => exact isTrue_and_nil e
  | false => exact e
theorem pw_or1 (ha : PT X a tA) : PW X (.BoolOp .Or [a] pos) tA := by
  intro wh pins s σ H Q I h
  refine isTrue_or (thn (ha pins s σ H Q I h) fun c s1 e => ?_)
  cases c with
  | false => exact isTrue_or_nil e
  | true => exact e
theorem pw_and (ha : PT X a tA) (hb : PW X (.BoolOp .And (b :: rest) pos) tB') : PW X (.BoolOp .And (a :: b :: rest) pos) (tAnd tA tB') := by
  intro wh pins s σ H Q I h
  refine isTrue_and (thn (ha pins s σ H _ I h) fun c s1 ⟨H1, I1, q1⟩ => ?_)
  cases c with
  | true => exact hb wh pins s1 σ H1 Q I1 q1
  | false => exact ⟨H1, I1, q1⟩
theorem pw_or (ha : PT X a tA) (hb : PW X (.BoolOp .Or (b :: rest) pos) tB') : PW X (.BoolOp .Or (a :: b :: rest) pos) (tOr tA tB') := by
  intro wh pins s σ H Q I h
  refine isTrue_or (thn (ha pins s σ H _ I h) fun c s1 ⟨H1, I1, q1⟩ => ?_)
  cases c with
  | true => exact ⟨H1, I1, q1⟩
  | false => exact hb wh pins s1 σ H1 Q I1 q1
theorem pt_not (ha : PT X a tA) : PT X (.UnaryOp .Not a pos) (tNot tA) := by
  intro pins s σ H Q I h
  exact isTrue_not (ha pins s σ H (fun c H1 => Q (!c) H1) I h)
/-- .. as values (bools) -/
def tAndV (ta tb : TE) : TE := fun σ H Q => ta σ H fun x H1 => ∃ c, x = .bl c ∧ if c = true then tb σ H1 Q else Q (.bl false) H1
theorem pe_one {op} {t : TE} (h : PE X a t) : PE X (.BoolOp op [a] pos) t := fun pins s σ H Q I hw => BoolOp_one (h pins s σ H Q I hw)
theorem pe_and (ha : PE X a ta) (hb : PE X (.BoolOp .And (b :: rest) pos) tb) : PE X (.BoolOp .And (a :: b :: rest) pos) (tAndV ta tb) := by
  intro pins s σ H Q I h
  refine BoolOp_and (thn (ha pins s σ H _ I h) fun v s1 ⟨x, H1, I1, r1, q1⟩ => ?_)
  obtain ⟨c, rfl, q1⟩ := q1
  cases r1
  refine wpAny_truthy_bool ?_
  cases c with
  | true => exact hb pins s1 σ H1 Q I1 q1
  | false => exact ⟨.bl false, H1, I1, rfl, q1⟩
end
end L2

namespace L2
open PySem PySem.Spec PyProof.Rows

/-! ### a list, a tuple that is read: tracked, frozen, or an object of the module -/
def SqL (K : PySem.W.Frag) (H : Hp) (a : Addr) (xs : List V) : Prop :=
  Rd H a (.lst xs) ∨
    ∃ (o : Obj) (its : Array Value) (n : Nat), K.lookup a = some o ∧ o.cls = .type "list" ∧ o.dict = none ∧ o.data = .seq its n ∧ its.size ≤ sizeLine ∧ Vals xs its.toList
def SqT (K : PySem.W.Frag) (H : Hp) (a : Addr) (xs : List V) : Prop :=
  Rd H a (.tup xs) ∨
    ∃ (o : Obj) (its : Array Value) (n : Nat), K.lookup a = some o ∧ o.cls = .type "tuple" ∧ o.data = .seq its n ∧ its.size ≤ sizeLine ∧ Vals xs its.toList
def absV : Value → Option V
  | .none => some .non
  | .bool b => some (.bl b)
  | .int i _ => some (.int i)
  | .str x _ => some (.str x)
  | .bytes b _ => some (.byt b)
  | .float b _ => some (.flt b)
  | .ref a => some (.ref a)
  | .type n => some (.ty n)
  | _ => none
theorem RelV.abs {x : V} {u : Value} (r : RelV x u) : absV u = some x := by
  cases x with
  | non => cases r; rfl
  | bl _ => cases r; rfl
  | int _ => obtain ⟨t, rfl⟩ := r; rfl
  | str _ => obtain ⟨t, rfl⟩ := r; rfl
  | byt _ => obtain ⟨t, rfl⟩ := r; rfl
  | flt _ => obtain ⟨t, rfl⟩ := r; rfl
  | ref _ => cases r; rfl
  | ty _ => cases r; rfl
theorem RelV.inj {x y : V} {u : Value} (r : RelV x u) (q : RelV y u) : x = y := Option.some.inj (r.abs.symm.trans q.abs)
theorem Vals.inj : ∀ {xs ys : List V} {us : List Value}, Vals xs us → Vals ys us → xs = ys
  | _, _, _, .nil, .nil => rfl
  | _, _, _, .cons r t, .cons r' t' => by rw [r.inj r', Vals.inj t t']
section
variable {X : Cx} {pins : List (Addr × Obj)} {σ : St} {H : Hp} {s : Shared} {a : Addr} {xs ys : List V}
theorem SqL.of {K : PySem.W.Frag} (h : H a = some (.lst xs)) : SqL K H a xs := .inl (.inl h)
theorem SqT.of {K : PySem.W.Frag} (h : H a = some (.tup xs)) : SqT K H a xs := .inl (.inl h)
theorem Inv.list (I : Inv X pins σ H s) (h : SqL X.K H a xs) : ∃ its : List Value, Vals xs its ∧ PlainL s.heap a its.toArray ∧ xs.length ≤ sizeLine := by
  rcases h with h | ⟨o, its, n, hk, hc, hd, hs, hz, r⟩
  · obtain ⟨z, its, n, r, e⟩ := h.ok I.hok
    exact ⟨its, r, ⟨_, n, e, rfl, rfl, rfl⟩, z⟩
  · refine ⟨its.toList, r, ⟨o, n, I.kIn a o hk, hc, hd, by simpa using hs⟩, ?_⟩
    have e := r.length
    simp only [Array.length_toList] at e
    omega
theorem Inv.tuple (I : Inv X pins σ H s) (h : SqT X.K H a xs) : ∃ its : List Value, Vals xs its ∧ IsTup s.heap a its.toArray ∧ xs.length ≤ sizeLine := by
  rcases h with h | ⟨o, its, n, hk, hc, hs, hz, r⟩
  · obtain ⟨z, its, r, p⟩ := h.ok I.hok
    exact ⟨its, r, p, z⟩
  · refine ⟨its.toList, r, ⟨o, I.kIn a o hk, hc, n, by simpa using hs⟩, ?_⟩
    have e := r.length
    simp only [Array.length_toList] at e
    omega
theorem Inv.list_inj (I : Inv X pins σ H s) (h : SqL X.K H a xs) (h' : SqL X.K H a ys) : xs = ys := by
  obtain ⟨its, r, ⟨o, n, e, _, _, d⟩, _⟩ := I.list h
  obtain ⟨its', r', ⟨o', n', e', _, _, d'⟩, _⟩ := I.list h'
  rw [e] at e'; cases e'
  rw [d] at d'
  injection d' with d1 _
  have : its = its' := by simpa using congrArg Array.toList d1
  subst this
  exact r.inj r'
end

/-! ### another wish about exceptions -/
abbrev Cx.wish (X : Cx) (E : Value → Shared → Prop) : Cx := { X with xe := E }
/-- no exception leaves -/
abbrev Cx.nox (X : Cx) : Cx := X.wish fun _ _ => False
theorem Cx.Ok.wish {X : Cx} (ok : X.Ok) (E : Value → Shared → Prop) : (X.wish E).Ok :=
  ⟨ok.mod, ok.kind, ok.glob, ok.blt, ok.above, ok.inj, ok.has, ok.cab, ok.hd, ok.frames, ok.stk, ok.exf, ok.bs, ok.bsz, ok.noex, ok.exfs, ok.funs, ok.frf⟩
theorem Cx.Ok.unwish {X : Cx} {E : Value → Shared → Prop} (ok : (X.wish E).Ok) : X.Ok :=
  ⟨ok.mod, ok.kind, ok.glob, ok.blt, ok.above, ok.inj, ok.has, ok.cab, ok.hd, ok.frames, ok.stk, ok.exf, ok.bs, ok.bsz, ok.noex, ok.exfs, ok.funs, ok.frf⟩
section
variable {X : Cx} {pins : List (Addr × Obj)} {σ : St} {H : Hp} {s : Shared} {E : Value → Shared → Prop}
theorem Inv.wish (I : Inv X pins σ H s) (E : Value → Shared → Prop) : Inv (X.wish E) pins σ H s := ⟨I.ok.wish E, I.os, I.bare, I.base, I.loc, I.cell, I.free, I.freeC, I.pin, I.hok, I.len⟩
theorem Inv.unwish (I : Inv (X.wish E) pins σ H s) : Inv X pins σ H s := ⟨I.ok.unwish, I.os, I.bare, I.base, I.loc, I.cell, I.free, I.freeC, I.pin, I.hok, I.len⟩
theorem SP.unwish {D : Ends} {f : Flow} {s' : Shared} (h : SP (X.wish E) pins D f s') : SP X pins D f s' := by
  cases f with
  | next => obtain ⟨σ', H', I, q⟩ := h; exact ⟨σ', H', I.unwish, q⟩
  | brk => obtain ⟨σ', H', I, q⟩ := h; exact ⟨σ', H', I.unwish, q⟩
  | cont => obtain ⟨σ', H', I, q⟩ := h; exact ⟨σ', H', I.unwish, q⟩
  | ret u => obtain ⟨v, σ', H', I, r, q⟩ := h; exact ⟨v, σ', H', I.unwish, r, q⟩
theorem PE.nox {e : Expr} {t : TE} (h : PE X.nox e t) : PE X e t := fun pins s σ H Q I hw =>
  wpAny_mono (h pins s σ H Q (I.wish _) hw) (fun _ _ ⟨v, H', I', r, q⟩ => ⟨v, H', I'.unwish, r, q⟩) fun _ _ z => False.elim z
theorem PT.nox {e : Expr} {t : TT} (h : PT X.nox e t) : PT X e t := fun pins s σ H Q I hw =>
  wpAny_mono (h pins s σ H Q (I.wish _) hw) (fun _ _ ⟨H', I', q⟩ => ⟨H', I'.unwish, q⟩) fun _ _ z => False.elim z
theorem PSs.nox {st : List Stmt} {t : TS} (h : PSs X.nox st t) : PSs X st t := fun pins s σ H D I hw =>
  wpAny_mono (h pins s σ H D (I.wish _) hw) (fun _ _ q => q.unwish) fun _ _ z => False.elim z
end

/-! ### blocks and small statements -/
section
variable {X : Cx} {st : Stmt} {rest : List Stmt} {t u : TS} {e : Expr} {te : TE} {pos : Pos}
def tNext : TS := fun D σ H => D.nx σ H
def tSeq (t u : TS) : TS := fun D σ H => t { D with nx := u D } σ H
theorem pss_nil : PSs X [] tNext := fun _ _ σ H _ I h => wpAny_execs_nil ⟨σ, H, I, h⟩
theorem pss_cons (h1 : PS X st t) (h2 : PSs X rest u) : PSs X (st :: rest) (tSeq t u) := by
  intro pins s σ H D I h
  refine wpAny_execs_cons (thn (h1 pins s σ H { D with nx := u D } I h) fun f s1 q => ?_)
  cases f with
  | next =>
    obtain ⟨σ', H', I', q⟩ := q
    exact h2 pins s1 σ' H' D I' q
  | ret v => exact q
  | brk => exact q
  | cont => exact q
theorem pss_one (h1 : PS X st t) : PSs X [st] t := by
  intro pins s σ H D I h
  refine wpAny_execs_cons (thn (h1 pins s σ H D I h) fun f s1 q => ?_)
  cases f with
  | next => exact wpAny_execs_nil q
  | ret v => exact q
  | brk => exact q
  | cont => exact q
/-- in a def's body nothing is shown -/
theorem Inv.quiet {pins : List (Addr × Obj)} {σ : St} {H : Hp} {s : Shared} (I : Inv X pins σ H s) : interactive X.env = false := by simp [interactive, I.ok.kind]
/-- an expression whose value is dropped -/
def tDrop (te : TE) : TS := fun D σ H => te σ H fun _ H1 => D.nx σ H1
theorem ps_expr (he : PE X e te) (hs : swapsWith e none pos.line X.env = pure false := by rfl) : PS X (.Expr e pos) (tDrop te) := by
  intro pins s σ H D I h
  exact wpAny_Expr_any (thn (he pins s σ H _ I h) fun v s1 ⟨x, H1, I1, r1, q1⟩ => ⟨σ, H1, I1, q1⟩) I.quiet hs
def tRet (te : TE) : TS := fun D σ H => te σ H D.rt
theorem ps_ret (he : PE X e te) : PS X (.Return (some e) pos) (tRet te) := by
  intro pins s σ H D I h
  exact wpAny_Return_some (thn (he pins s σ H _ I h) fun v s1 ⟨x, H1, I1, r1, q1⟩ => ⟨x, σ, H1, I1, r1, q1⟩)
def tIfS (c : TT) (t u : TS) : TS := fun D σ H => c σ H fun b H1 => if b = true then t D σ H1 else u D σ H1
theorem ps_if {c : Expr} {a b : List Stmt} {tc : TT} (hc : PT X c tc) (ha : PSs X a t) (hb : PSs X b u) : PS X (.If c a b pos) (tIfS tc t u) := by
  intro pins s σ H D I h
  refine wpAny_If (thn (hc pins s σ H _ I h) fun d s1 ⟨H1, I1, q1⟩ => ?_)
  cases d with
  | true => exact ha pins s1 σ H1 D I1 q1
  | false => exact hb pins s1 σ H1 D I1 q1
end

/-! ### targets -/
abbrev TG := V → St → Hp → (St → Hp → Prop) → Prop
abbrev TGs := List V → St → Hp → (St → Hp → Prop) → Prop
def PG (X : Cx) (target : Expr) (t : TG) : Prop :=
  ∀ (pins : List (Addr × Obj)) (s : Shared) (σ : St) (H : Hp) (v : V) (u : Value) (Q : St → Hp → Prop), Inv X pins σ H s → RelV v u → t v σ H Q →
    wpAny (model X.prog X.w) X.A (assign target X.env u) (fun _ s' => ∃ σ' H', Inv X pins σ' H' s' ∧ Q σ' H') X.xe s
/-- several targets, one after another -/
def PGs (X : Cx) (ts : List Expr) (t : TGs) : Prop :=
  ∀ (pins : List (Addr × Obj)) (s : Shared) (σ : St) (H : Hp) (vs : List V) (us : List Value) (Q : St → Hp → Prop), Inv X pins σ H s → Vals vs us → t vs σ H Q →
    wpAny (model X.prog X.w) X.A (assignInOrder ((assignEach ts X.env).map (·.2)) us) (fun _ s' => ∃ σ' H', Inv X pins σ' H' s' ∧ Q σ' H') X.xe s
section
variable {X : Cx} {pos : Pos}
def gName (i : Nat) : TG := fun v σ H Q => Q (σ.set i (some v)) H
theorem pg_name {i : Nat} {x : Str} (hN : X.N.Nodup) (hi : X.N[i]? = some x) (hx : Loc X.env.scope x) (hf : X.fn x = true ∨ X.env.scope.names.lookup x = some .local := by first | exact .inl rfl | exact .inr rfl | assumption) : PG X (.Name x pos) (gName i) := by
  intro pins s σ H v u Q I r h
  exact wpAny_assign_Name (store_ok I hN hi hx r (fun s' I' => ⟨_, H, I', h⟩) hf)
def gNil : TGs := fun vs σ H Q => vs = [] ∧ Q σ H
def gCons (t : TG) (u : TGs) : TGs := fun vs σ H Q => ∃ v r, vs = v :: r ∧ t v σ H fun σ' H' => u r σ' H' Q
theorem pgs_nil : PGs X [] gNil := by
  intro pins s σ H vs us Q I r h
  obtain ⟨e, h⟩ := h
  subst e
  cases r
  exact assignInOrder_nil ⟨σ, H, I, h⟩
theorem pgs_cons {e : Expr} {es : List Expr} {t : TG} {u : TGs} (h1 : PG X e t) (h2 : PGs X es u)
    (hs : (assignEach (e :: es) X.env).map (·.2) = assign e X.env :: (assignEach es X.env).map (·.2) := by rfl) : PGs X (e :: es) (gCons t u) := by
  intro pins s σ H vs us Q I r h
  obtain ⟨v, vr, e1, h⟩ := h
  subst e1
  cases r with
  | cons r rr =>
    rw [hs]
    refine assignInOrder_cons (thn (h1 pins s σ H _ _ _ I r h) fun _ s1 ⟨σ1, H1, I1, q1⟩ => ?_)
    exact h2 pins s1 σ1 H1 _ _ Q I1 rr q1
/-- (a, b, ..) = a tuple of that length -/
def gTup (K : PySem.W.Frag) (n : Nat) (t : TGs) : TG := fun v σ H Q => ∃ a xs, v = .ref a ∧ SqT K H a xs ∧ xs.length = n ∧ t xs σ H Q
theorem pg_tup {es : List Expr} {k : Nat} {t : TGs} {n : Nat} (hc : X.calm = true) (h : PGs X es t)
    (hn : (assignEach es X.env).length = n := by rfl) (hst : (assignEach es X.env).findIdx? (·.1) = none := by rfl) : PG X (.Tuple es k pos) (gTup X.K n t) := by
  intro pins s σ H v u Q I r hw
  obtain ⟨a, xs, e1, hq, hl, hw⟩ := hw
  subst e1
  cases r
  obtain ⟨its, rv, ht, hz⟩ := I.tuple hq
  refine assign_Tuple_tuple (I.ok.hd hc) ht (by simp [hn, ← hl, rv.length]) hst fun h' hx => ?_
  have I1 : Inv X pins σ H { s with heap := h' } := I.kept (t' := s.toks) fun b o e => hx b o (Nat.ne_of_lt (Heap.lt_size e)) e
  exact h pins _ σ H xs _ Q I1 (by simpa using rv) hw
/-- target = value -/
def tAsg (te : TE) (g : TG) : TS := fun D σ H => te σ H fun x H1 => g x σ H1 D.nx
/-- name = value -/
theorem ps_set {i : Nat} {x : Str} {e : Expr} {te : TE} {pos' : Pos} (hN : X.N.Nodup) (hi : X.N[i]? = some x) (hx : Loc X.env.scope x) (he : PE X e te) (hs : swapsWith e (some (.Name x pos')) pos.line X.env = pure false := by rfl) (hf : X.fn x = true ∨ X.env.scope.names.lookup x = some .local := by first | exact .inl rfl | exact .inr rfl | assumption) :
    PS X (.Assign [.Name x pos'] e pos) (tAsg te (gName i)) := by
  intro pins s σ H D I h
  refine wpAny_Assign_Name (thn (he pins s σ H _ I h) fun v s1 ⟨y, H1, I1, r1, q1⟩ => ?_) hs
  exact store_ok I1 hN hi hx r1 (fun s2 I2 => ⟨_, H1, I2, q1⟩) hf
end

/-! ### while -/
section
variable {X : Cx} {pos : Pos}
/-- the invariant W with its measure -/
def tWhile (c : TT) (tb : TS) : TS := fun D σ H => ∃ W : Nat → St → Hp → Prop, (∃ m, W m σ H) ∧ ∀ m σ H, W m σ H →
  c σ H fun b H1 => if b = true then ∃ N : St → Hp → Prop, (∀ σ' H', N σ' H' → ∃ m', m' < m ∧ W m' σ' H') ∧ tb { D with nx := N, ct := N, bk := D.nx } σ H1 else D.nx σ H1
theorem ps_while {c : Expr} {body : List Stmt} {tc : TT} {tb : TS} (hp : PassesOwn (model X.prog X.w) X.A X.env X.xe) (hc : PT X c tc) (hb : PSs X body tb) : PS X (.While c body [] pos) (tWhile tc tb) := by
  intro pins s σ H D I h
  obtain ⟨W, ⟨m0, w0⟩, turn⟩ := h
  refine wpAny_While (codeAny_whileLoop (fun n s' => ∃ σ' H', Inv X pins σ' H' s' ∧ W n σ' H') ?_ m0 ⟨σ, H, I, w0⟩)
  rintro n s1 ⟨σ1, H1, I1, w1⟩
  refine wpAny_passesOwn hp (thn (hc pins s1 σ1 H1 _ I1 (turn n σ1 H1 w1)) fun b s2 ⟨H2, I2, q2⟩ => ?_)
  cases b with
  | true =>
    obtain ⟨N, hN, q2⟩ := q2
    rw [if_pos rfl]
    refine wpAny_passesOwn hp (thn (hb pins s2 σ1 H2 _ I2 q2) fun f s3 q3 => ?_)
    cases f with
    | next =>
      obtain ⟨σ3, H3, I3, n3⟩ := q3
      obtain ⟨m', hm, w3⟩ := hN σ3 H3 n3
      exact ⟨m', hm, σ3, H3, I3, w3⟩
    | cont =>
      obtain ⟨σ3, H3, I3, n3⟩ := q3
      obtain ⟨m', hm, w3⟩ := hN σ3 H3 n3
      exact ⟨m', hm, σ3, H3, I3, w3⟩
    | brk => exact q3
    | ret v => exact q3
  | false =>
    rw [if_neg Bool.false_ne_true]
    exact wpAny_execs_nil ⟨σ1, H2, I2, q2⟩
end

/-! ### what a loop or a comprehension walks -/
/-- at turn i: it yields x (the heap may grow), or it stops -/
structure It where
  go : Nat → Hp → Prop
  yld : Nat → Hp → V → Hp → Prop
  stop : Nat → Hp → Prop
/-- the iterator's own objects may turn: they are not the frame's, not pinned, younger than the entry (or a comprehension's own) -/
def FpOk (X : Cx) (pins : List (Addr × Obj)) (H : Hp) (b : Addr) : Prop :=
  H b = none ∧ b ≠ X.env.locals ∧ b ∉ X.fs ∧ (b ∈ X.ex ∨ X.s₀.heap.objs.size ≤ b) ∧ (∀ x c, X.env.cells.lookup x = some c → c ≠ b) ∧ ∀ p ∈ X.pn ++ pins, p.1 ≠ b
theorem Inv.fpOk {X : Cx} {pins : List (Addr × Obj)} {σ : St} {H H' : Hp} {s : Shared} {b : Addr} (I : Inv X pins σ H s) (hb : s.heap.objs.size ≤ b) (hn : H' b = none) : FpOk X pins H' b := by
  refine ⟨hn, Nat.ne_of_gt (Nat.lt_of_lt_of_le I.lt hb), I.nofs hb, .inr (Nat.le_trans I.sz hb), fun x c e z => ?_, fun p hp z => ?_⟩
  · obtain ⟨v, q⟩ := I.cell x c e
    exact absurd (Nat.lt_of_lt_of_le q.lt (by rw [z]; exact hb)) (Nat.lt_irrefl _)
  · exact absurd (Nat.lt_of_lt_of_le (Heap.lt_size (I.pin p hp).1) (by rw [z]; exact hb)) (Nat.lt_irrefl _)
structure Turn (P : Program) (w : World) (K : PySem.W.Frag) (tg : Expr) (J : It) (fp : List Addr) (it : Addr) (tn : Nat → Heap → Prop) : Prop where
  mem : it ∈ fp
  obj : ∀ i h, tn i h → ∀ b ∈ fp, ∃ o, h.get? b = some o ∧ ∀ v, o.data ≠ .cell v
  keep : ∀ i h h', tn i h → (∀ b ∈ fp, ∀ o, h.get? b = some o → h'.get? b = some o) → tn i h'
  item : ∀ (X : Cx), X.prog = P → X.w = w → X.K = K → X.calm = true → ∀ (i : Nat) (pins : List (Addr × Obj)) (s : Shared) (σ : St) (H : Hp) (E : Value → Shared → Prop), Inv X pins σ H s → (∀ b ∈ fp, FpOk X pins H b) → tn i s.heap → J.go i H →
    wpAny (model P w) X.A (pyNext (.ref it)) (fun r s1 => ∃ u, r = some u ∧
      wpAny (model P w) X.A (letOwnedTupleGo tg (.ref it) u) (fun _ s2 => ∃ x H', Inv X pins σ H' s2 ∧ RelV x u ∧ J.yld i H x H' ∧ tn (i + 1) s2.heap ∧ ∀ b ∈ fp, H' b = none) E s1) E s
  done : ∀ (X : Cx), X.prog = P → X.w = w → X.K = K → X.calm = true → ∀ (i : Nat) (pins : List (Addr × Obj)) (s : Shared) (σ : St) (H : Hp) (E : Value → Shared → Prop), Inv X pins σ H s → (∀ b ∈ fp, FpOk X pins H b) → tn i s.heap → J.stop i H →
    wpAny (model P w) X.A (pyNext (.ref it)) (fun r s1 => r = none ∧ Inv X pins σ H s1) E s
  self : ∀ (A : Around) (i : Nat) (s : Shared) (Q : Value → Shared → Prop) (E : Value → Shared → Prop), tn i s.heap → Q (.ref it) s → wpAny (model P w) A (pyIter (.ref it)) Q E s
abbrev TI := St → Hp → (It → Hp → Prop) → Prop
/-- an iterator has come -/
def PIE (X : Cx) (pins : List (Addr × Obj)) (σ : St) (tg : Expr) (R : It → Hp → Prop) (itv : Value) (s2 : Shared) : Prop :=
  ∃ (it : Addr) (fp : List Addr) (tn : Nat → Heap → Prop) (J : It) (H' : Hp), itv = .ref it ∧ Inv X pins σ H' s2 ∧ Turn X.prog X.w X.K tg J fp it tn ∧ tn 0 s2.heap ∧ (∀ b ∈ fp, FpOk X pins H' b) ∧ R J H'
def PI (X : Cx) (tg iter : Expr) (wi : TI) : Prop :=
  ∀ (pins : List (Addr × Obj)) (s : Shared) (σ : St) (H : Hp) (R : It → Hp → Prop), Inv X pins σ H s → wi σ H R →
    wpAny (model X.prog X.w) X.A (eval iter X.env) (fun v s1 => wpAny (model X.prog X.w) X.A (pyIter v) (PIE X pins σ tg R) X.xe s1) X.xe s

/-- the step ahead of the store is nothing for an iterator that keeps no tuple -/
theorem go_of {M : Model} {A : Around} {E : Value → Shared → Prop} {s : Shared} {tg : Expr} {it : Addr} {u : Value} {o : Obj} {n : String} {vs : Array Value} {Q : Unit → Shared → Prop} (ho : s.heap.get? it = some o) (hc : o.cls = .type n) (hd : o.data = .fields vs)
    (hn : ["enumerate", "zip", "dict_itemiterator", "dict_reverseitemiterator", "odict_iterator", "itertools.zip_longest", "itertools.pairwise"].contains n = false) (hQ : Q () s) : wpAny M A (letOwnedTupleGo tg (.ref it) u) Q E s := by
  unfold letOwnedTupleGo
  cases tg <;> first
    | exact wpAny_pure hQ
    | (cases u <;> first
        | exact wpAny_pure hQ
        | (refine wpAny_bind (wpAny_load ho ?_)
           rw [hc, hd]
           show wpAny M A (if (["enumerate", "zip", "dict_itemiterator", "dict_reverseitemiterator", "odict_iterator", "itertools.zip_longest", "itertools.pairwise"].contains n && vs[0]? == some (rawInt _)) = true then _ else _) Q E s
           rw [if_neg (by intro h; rw [hn, Bool.false_and] at h; cases h)]
           exact wpAny_pure hQ))

/-- the list at a, as it stands at each turn (a loop may append to it) -/
def Itl (K : PySem.W.Frag) (a : Addr) : It :=
  ⟨fun i H => ∃ xs x, SqL K H a xs ∧ xs[i]? = some x, fun i H x H' => H' = H ∧ ∀ xs, SqL K H a xs → xs[i]? = some x, fun i H => ∃ xs, SqL K H a xs ∧ xs.length ≤ i⟩
/-- lo, lo + 1, .. (n of them) -/
def Itr (lo : Int) (n : Nat) : It := ⟨fun i _ => i < n, fun i H x H' => H' = H ∧ x = .int (lo + i), fun i _ => n ≤ i⟩
theorem turn_list {P : Program} {w : World} {K : PySem.W.Frag} {tg : Expr} (a it : Addr) : Turn P w K tg (Itl K a) [it] it (fun i h => h.IsListIter it a i) where
  mem := by simp
  obj := fun i h st b hb => by
    have e : b = it := by simpa using hb
    subst e
    obtain ⟨o, e, c, d⟩ := st
    exact ⟨o, e, fun v z => by rw [d] at z; cases z⟩
  keep := fun i h h' st k => st.at fun o e => k it (by simp) o e
  item := by
    intro X hP hw hK hc i pins s σ H E I hf st hg
    subst hP hw hK
    obtain ⟨xs, x, hq, hx⟩ := hg
    obtain ⟨its, rv, p, hz⟩ := I.list hq
    obtain ⟨u, hu, ru⟩ := rv.get hx
    obtain ⟨f0, f1, f2, f3, f4, f5⟩ := hf it (by simp)
    refine wpAny_pyNext_list_item st p.isList (x := u) (by simpa using hu) fun h' st' sb => ?_
    have I1 : Inv X pins σ H { s with heap := h' } := I.turned (t' := s.toks) (fun b o hb e => (sb.2 b hb).trans e) f0 f1 f3 f4 f5
    obtain ⟨o, e, c, d⟩ := id st'
    exact ⟨u, rfl, go_of (s := { s with heap := h' }) e c d (by decide) ⟨x, H, I1, ru, ⟨rfl, fun ys hy => by rw [I.list_inj hy hq]; exact hx⟩, st', fun b hb => (hf b hb).1⟩⟩
  done := by
    intro X hP hw hK hc i pins s σ H E I hf st hg
    subst hP hw hK
    obtain ⟨xs, hq, hx⟩ := hg
    obtain ⟨its, rv, p, hz⟩ := I.list hq
    obtain ⟨f0, f1, f2, f3, f4, f5⟩ := hf it (by simp)
    have hl := rv.length
    exact wpAny_pyNext_list_end (I.ok.hd hc) st p.isList (by simp; omega) fun h' eb => ⟨rfl, I.turned (t' := s.toks) (fun b o hb e => eb b o hb e) f0 f1 f3 f4 f5⟩
  self := fun _ _ _ _ _ st h => wpAny_pyIter_listiter st h
theorem turn_range {P : Program} {w : World} {K : PySem.W.Frag} {tg : Expr} (it : Addr) (lo : Int) (n : Nat) : Turn P w K tg (Itr lo n) [it] it (fun i h => IsRangeIter h it (lo + (i : Nat) * 1) ((n : Int) - (i : Nat)) 1) where
  mem := by simp
  obj := fun i h st b hb => by
    have e : b = it := by simpa using hb
    subst e
    exact ⟨_, st, fun v z => by
      have z' : Data.fields _ = Data.cell v := z
      cases z'⟩
  keep := fun i h h' st k => k it (by simp) _ st
  item := by
    intro X hP hw hK hc i pins s σ H E I hf st hg
    subst hP hw hK
    obtain ⟨f0, f1, f2, f3, f4, f5⟩ := hf it (by simp)
    have W := Walks.range (prog := X.prog) (w := X.w) (I.ok.hd hc) it lo 1 n
    refine W.item i s _ _ hg st fun v h' tk hv st' kk => ?_
    obtain ⟨t, rfl⟩ := hv
    have I1 : Inv X pins σ H { s with heap := h', toks := tk } := I.turned (fun b o hb e => kk b o (by simpa using hb) e) f0 f1 f3 f4 f5
    refine ⟨_, rfl, go_of (s := { s with heap := h', toks := tk }) (n := "range_iterator") st' rfl rfl (by decide) ⟨.int (lo + i), H, I1, ⟨t, ?_⟩, ⟨rfl, rfl⟩, st', fun b hb => (hf b hb).1⟩⟩
    rw [Int.mul_one]
  done := by
    intro X hP hw hK hc i pins s σ H E I hf st hg
    subst hP hw hK
    obtain ⟨f0, f1, f2, f3, f4, f5⟩ := hf it (by simp)
    exact wpAny_pyNext_range_end (I.ok.hd hc) st (by have : n ≤ i := hg; omega) fun h' eb => ⟨rfl, I.turned (t' := s.toks) (fun b o hb e => eb b o hb e) f0 f1 f3 f4 f5⟩
  self := fun _ _ _ _ _ st h => wpAny_pyIter_rangeiter st h
end L2

namespace L2
open PySem PySem.Spec PyProof.Rows
section
variable {X : Cx} {tg : Expr}
def iList (K : PySem.W.Frag) (tl : TE) : TI := fun σ H R => tl σ H fun x H1 => ∃ a, x = .ref a ∧ (∃ xs, SqL K H1 a xs) ∧ R (Itl K a) H1
theorem pi_list {l : Expr} {tl : TE} (hl : PE X l tl) : PI X tg l (iList X.K tl) := by
  intro pins s σ H R I h
  refine thn (hl pins s σ H _ I h) fun v s1 ⟨x, H1, I1, r1, q1⟩ => ?_
  obtain ⟨a, e, ⟨xs, hq⟩, q⟩ := q1
  subst e
  cases r1
  obtain ⟨its, rv, p, hz⟩ := I1.list hq
  refine wpAny_pyIter_list p.isList ?_
  refine ⟨s1.heap.objs.size, [s1.heap.objs.size], _, _, H1, rfl, I1.kept (t' := s1.toks) fun b o e => Heap.get?_push_of_some _ e, turn_list a _, ⟨_, Heap.get?_push_size _ rfl, rfl, rfl⟩, fun b hb => ?_, q⟩
  have e : b = s1.heap.objs.size := by simpa using hb
  subst e
  exact I1.fpOk (Nat.le_refl _) (I1.hok.fresh (Nat.le_refl _))
/-- a range object just made, walked -/
theorem range_it {pins : List (Addr × Obj)} {σ : St} {H : Hp} {s : Shared} {R : It → Hp → Prop} {E : Value → Shared → Prop} {lo hi : Int} {t u v : Tok} {tk : Nat} (I : Inv X pins σ H s) (h1 : -(2 ^ 62) ≤ lo) (h2 : lo < 2 ^ 62) (h3 : -(2 ^ 62) ≤ hi) (h4 : hi < 2 ^ 62)
    (q : R (Itr lo (hi - lo).toNat) H) : wpAny (model X.prog X.w) X.A (pyIter (.ref s.heap.objs.size)) (PIE X pins σ tg R) E { s with heap := s.heap.push { cls := .type "range", data := .fields #[.int lo t, .int hi u, .int 1 v] }, toks := tk } := by
  refine wpAny_pyIter_range (IsRange.new ..) (small_one h1 h2 h3 h4) ?_
  have I1 : Inv X pins σ H { s with heap := s.heap.push { cls := .type "range", data := .fields #[.int lo t, .int hi u, .int 1 v] }, toks := tk } := I.kept fun b o e => Heap.get?_push_of_some _ e
  refine ⟨(s.heap.push { cls := .type "range", data := .fields #[.int lo t, .int hi u, .int 1 v] }).objs.size, [(s.heap.push { cls := .type "range", data := .fields #[.int lo t, .int hi u, .int 1 v] }).objs.size], _, _, H, rfl,
    I1.kept (t' := tk) fun b o e => Heap.get?_push_of_some _ e, turn_range _ lo (hi - lo).toNat, ?_, fun b hb => ?_, q⟩
  · have e1 : lo + ((0 : Nat) : Int) * 1 = lo := by simp
    have e2 : (((hi - lo).toNat : Nat) : Int) - ((0 : Nat) : Int) = Builtin.Range.rangeSize lo hi 1 := by rw [rangeSize_one]; split <;> omega
    show IsRangeIter _ _ (lo + ((0 : Nat) : Int) * 1) ((((hi - lo).toNat : Nat) : Int) - ((0 : Nat) : Int)) 1
    rw [e1, e2]
    exact Heap.get?_push_size _ rfl
  · have e : b = (s.heap.push { cls := .type "range", data := .fields #[.int lo t, .int hi u, .int 1 v] }).objs.size := by simpa using hb
    subst e
    exact I1.fpOk (Nat.le_refl _) (I1.hok.fresh (Nat.le_refl _))
def iRng1 (ta : TA) : TI := fun σ H R => ta σ H fun vs H1 => ∃ j : Int, vs = [.int j] ∧ -(2 ^ 62) ≤ j ∧ j < 2 ^ 62 ∧ R (Itr 0 j.toNat) H1
theorem pi_range1 {a : Expr} {ta : TA} {p pos : Pos} (hg : Gl X "range") (hm : X.mg "range" = none) (ha : PA X [a] ta) (hs : starEach [a] X.env = [(false, eval a X.env)] := by rfl) : PI X tg (.Call (.Name "range" p) [a] [] pos) (iRng1 ta) := by
  intro pins s σ H R I h
  refine Call_ (ld_blt I hg hm boot_range (PyProof.Rows.callWith_type1 (thn (ha pos pins s σ H _ I h) fun us s1 ⟨vs, H1, I1, r1, q1⟩ => ?_) hs rfl))
  obtain ⟨j, e, q1, q2, q⟩ := q1
  subst e
  cases r1 with
  | cons r rr =>
    cases rr
    obtain ⟨t, rfl⟩ := r
    exact call_range_1 (range_it I1 (by omega) (by omega) q1 q2 (by simpa using q))
/-! ### for -/
/-- W: the invariant by the turn and a measure; N: what the body is to reach -/
def tFor (wi : TI) (g : TG) (tb : TS) : TS := fun D σ H => wi σ H fun J H1 => ∃ W : Nat → Nat → St → Hp → Prop, (∃ m, W 0 m σ H1) ∧ ∀ i m σ H, W i m σ H →
  (J.stop i H ∧ D.nx σ H) ∨ (J.go i H ∧ ∃ N : St → Hp → Prop, (∀ σ' H', N σ' H' → ∃ m', m' < m ∧ W (i + 1) m' σ' H') ∧ ∀ x H', J.yld i H x H' → g x σ H' fun σ2 H2 => tb { D with nx := N, ct := N, bk := D.nx } σ2 H2)
/-- the records at fp as they stand -/
def pinsAt (fp : List Addr) (h : Heap) : List (Addr × Obj) := fp.filterMap fun b => (h.get? b).map fun o => (b, o)
theorem mem_pinsAt {fp : List Addr} {h : Heap} {b : Addr} {o : Obj} (hb : b ∈ fp) (e : h.get? b = some o) : (b, o) ∈ pinsAt fp h := List.mem_filterMap.mpr ⟨b, hb, by rw [e]; rfl⟩
theorem of_pinsAt {fp : List Addr} {h : Heap} {p : Addr × Obj} (hp : p ∈ pinsAt fp h) : p.1 ∈ fp ∧ h.get? p.1 = some p.2 := by
  obtain ⟨b, hb, e⟩ := List.mem_filterMap.mp hp
  cases q : h.get? b with
  | none => rw [q] at e; cases e
  | some o =>
    rw [q] at e
    have e' : (b, o) = p := Option.some.inj e
    subst e'
    exact ⟨hb, q⟩
theorem Inv.pinned {pins : List (Addr × Obj)} {σ : St} {H : Hp} {s : Shared} {fp : List Addr} (I : Inv X pins σ H s) (hf : ∀ b ∈ fp, FpOk X pins H b) (ho : ∀ b ∈ fp, ∃ o, s.heap.get? b = some o ∧ ∀ v, o.data ≠ .cell v) : Inv X (pins ++ pinsAt fp s.heap) σ H s :=
  I.pins_of fun p hp => (List.mem_append.mp hp).elim (fun z => I.pin p (List.mem_append_right _ z)) fun z => by
    obtain ⟨hb, e⟩ := of_pinsAt z
    obtain ⟨f0, f1, f2, _⟩ := hf p.1 hb
    obtain ⟨o, e', d⟩ := ho p.1 hb
    rw [e] at e'; cases e'
    exact ⟨e, f0, f1, f2, d⟩
theorem Inv.unpinned {pins pl : List (Addr × Obj)} {σ : St} {H : Hp} {s : Shared} (I : Inv X (pins ++ pl) σ H s) : Inv X pins σ H s := I.pins_of fun p hp => I.pin p (List.mem_append_right _ (List.mem_append_left _ hp))
theorem ps_for {iter : Expr} {body : List Stmt} {wi : TI} {g : TG} {tb : TS} {pos : Pos} (hp : PassesOwn (model X.prog X.w) X.A X.env X.xe) (hc : X.calm = true) (hi : PI X tg iter wi) (hg : PG X tg g) (hb : PSs X body tb)
    (hs : ∀ x, foldedSetIterable iter X.env x = pure x := by intro _; rfl) : PS X (.For tg iter body [] pos) (tFor wi g tb) := by
  intro pins s σ H D I h
  refine wpAny_For (thn (hi pins s σ H _ I h) fun v s1 h1 => thn h1 fun itv s2 h2 => ?_) hs
  obtain ⟨it, fp, tn, J, H2, e, I2, T, st2, f2, W, ⟨m0, w0⟩, turn⟩ := h2
  subst e
  -- what stays true of the iterator's objects through the loop
  have stat : ∀ {H' : Hp}, (∀ b ∈ fp, H' b = none) → ∀ b ∈ fp, FpOk X pins H' b := fun hn b hb => ⟨hn b hb, (f2 b hb).2⟩
  refine codeAny_forLoop_any (fun n s' => ∃ i σ' H', Inv X pins σ' H' s' ∧ tn i s'.heap ∧ (∀ b ∈ fp, H' b = none) ∧ W i n σ' H') ?_ m0 ⟨0, σ, H2, I2, st2, fun b hb => (f2 b hb).1, w0⟩
  rintro n s3 ⟨i, σ3, H3, I3, st3, fr3, w3⟩
  rcases turn i n σ3 H3 w3 with ⟨stop, qn⟩ | ⟨go, N, hN, step⟩
  · refine wpAny_passesOwn hp (thn (T.done X rfl rfl rfl hc i pins s3 σ3 H3 X.xe I3 (stat fr3) st3 stop) fun r s4 ⟨hr, I4⟩ => ?_)
    subst hr
    exact wpAny_execs_nil ⟨σ3, H3, I4, qn⟩
  · refine wpAny_passesOwn hp (thn (T.item X rfl rfl rfl hc i pins s3 σ3 H3 X.xe I3 (stat fr3) st3 go) fun r s4 ⟨u, hr, h4⟩ => ?_)
    subst hr
    refine wpAny_passesOwn hp (thn h4 fun _ s5 ⟨x, H5, I5, r5, y5, st5, fr5⟩ => ?_)
    have I5' := I5.pinned (stat fr5) (T.obj _ _ st5)
    refine wpAny_passesOwn hp (thn (hg _ s5 σ3 H5 x u _ I5' r5 (step x H5 y5)) fun _ s6 ⟨σ6, H6, I6, q6⟩ => ?_)
    refine wpAny_passesOwn hp (thn (hb _ s6 σ6 H6 _ I6 q6) fun f s7 q7 => ?_)
    have again : ∀ {σ7 : St} {H7 : Hp}, Inv X (pins ++ pinsAt fp s5.heap) σ7 H7 s7 → N σ7 H7 → ∃ m, m < n ∧ ∃ i σ' H', Inv X pins σ' H' s7 ∧ tn i s7.heap ∧ (∀ b ∈ fp, H' b = none) ∧ W i m σ' H' := fun {σ7 H7} I7 n7 => by
      obtain ⟨m', hm, w7⟩ := hN σ7 H7 n7
      refine ⟨m', hm, i + 1, σ7, H7, I7.unpinned, T.keep _ _ _ st5 fun b hb o e => (I7.pin (b, o) (List.mem_append_right _ (List.mem_append_right _ (mem_pinsAt hb e)))).1, fun b hb => ?_, w7⟩
      obtain ⟨o, e, d⟩ := T.obj _ _ st5 b hb
      exact (I7.pin (b, o) (List.mem_append_right _ (List.mem_append_right _ (mem_pinsAt hb e)))).2.1
    cases f with
    | next => obtain ⟨σ7, H7, I7, n7⟩ := q7; exact again I7 n7
    | cont => obtain ⟨σ7, H7, I7, n7⟩ := q7; exact again I7 n7
    | brk => obtain ⟨σ7, H7, I7, q7⟩ := q7; exact ⟨σ7, H7, I7.unpinned, q7⟩
    | ret v => obtain ⟨x7, σ7, H7, I7, r7, q7⟩ := q7; exact ⟨x7, σ7, H7, I7.unpinned, r7, q7⟩
end

/-! ### the forms one uses -/
/-- over a list that the body leaves as it is -/
theorem for_list {K : PySem.W.Frag} {a : Addr} {xs : List V} {g : TG} {tb : TS} {D : Ends} {σ : St} {H : Hp} (Pv : Nat → St → Hp → Prop) (h0 : Pv 0 σ H) (hl : ∀ i σ H, i ≤ xs.length → Pv i σ H → SqL K H a xs)
    (hs : ∀ i x σ H, xs[i]? = some x → Pv i σ H → g x σ H fun σ2 H2 => tb { D with nx := Pv (i + 1), ct := Pv (i + 1), bk := D.nx } σ2 H2) (hd : ∀ σ H, Pv xs.length σ H → D.nx σ H) :
    ∃ W : Nat → Nat → St → Hp → Prop, (∃ m, W 0 m σ H) ∧ ∀ i m σ H, W i m σ H →
      ((Itl K a).stop i H ∧ D.nx σ H) ∨ ((Itl K a).go i H ∧ ∃ N : St → Hp → Prop, (∀ σ' H', N σ' H' → ∃ m', m' < m ∧ W (i + 1) m' σ' H') ∧ ∀ x H', (Itl K a).yld i H x H' → g x σ H' fun σ2 H2 => tb { D with nx := N, ct := N, bk := D.nx } σ2 H2) := by
  refine ⟨fun i m σ H => m = xs.length - i ∧ i ≤ xs.length ∧ Pv i σ H, ⟨xs.length, by simp, Nat.zero_le _, h0⟩, ?_⟩
  rintro i m σ H ⟨rfl, hi, p⟩
  have q := hl i σ H hi p
  by_cases hlt : i < xs.length
  · refine .inr ⟨⟨xs, xs[i], q, by simp [hlt]⟩, Pv (i + 1), fun σ' H' p' => ⟨xs.length - (i + 1), by omega, rfl, hlt, p'⟩, fun x H' y => ?_⟩
    obtain ⟨e, y⟩ := y
    subst e
    exact hs i x σ _ (y xs q) p
  · have e : i = xs.length := by omega
    subst e
    exact .inl ⟨⟨xs, q, Nat.le_refl _⟩, hd σ H p⟩
theorem for_range {lo : Int} {n : Nat} {g : TG} {tb : TS} {D : Ends} {σ : St} {H : Hp} (Pv : Nat → St → Hp → Prop) (h0 : Pv 0 σ H)
    (hs : ∀ i σ H, i < n → Pv i σ H → g (.int (lo + i)) σ H fun σ2 H2 => tb { D with nx := Pv (i + 1), ct := Pv (i + 1), bk := D.nx } σ2 H2) (hd : ∀ σ H, Pv n σ H → D.nx σ H) :
    ∃ W : Nat → Nat → St → Hp → Prop, (∃ m, W 0 m σ H) ∧ ∀ i m σ H, W i m σ H →
      ((Itr lo n).stop i H ∧ D.nx σ H) ∨ ((Itr lo n).go i H ∧ ∃ N : St → Hp → Prop, (∀ σ' H', N σ' H' → ∃ m', m' < m ∧ W (i + 1) m' σ' H') ∧ ∀ x H', (Itr lo n).yld i H x H' → g x σ H' fun σ2 H2 => tb { D with nx := N, ct := N, bk := D.nx } σ2 H2) := by
  refine ⟨fun i m σ H => m = n - i ∧ i ≤ n ∧ Pv i σ H, ⟨n, by simp, Nat.zero_le _, h0⟩, ?_⟩
  rintro i m σ H ⟨rfl, hi, p⟩
  by_cases hlt : i < n
  · refine .inr ⟨hlt, Pv (i + 1), fun σ' H' p' => ⟨n - (i + 1), by omega, rfl, hlt, p'⟩, fun x H' y => ?_⟩
    obtain ⟨e, y⟩ := y
    subst e y
    exact hs i σ _ hlt p
  · have e : i = n := by omega
    subst e
    exact .inl ⟨Nat.le_refl _, hd σ H p⟩
/-- while, by a word and a measure of the state -/
theorem while_by {c : TT} {tb : TS} {D : Ends} {σ : St} {H : Hp} (Pv : St → Hp → Prop) (μ : St → Hp → Nat) (h0 : Pv σ H)
    (hs : ∀ σ H, Pv σ H → c σ H fun b H1 => if b = true then tb { D with nx := fun σ' H' => Pv σ' H' ∧ μ σ' H' < μ σ H, ct := fun σ' H' => Pv σ' H' ∧ μ σ' H' < μ σ H, bk := D.nx } σ H1 else D.nx σ H1)
    (mono : ∀ σ H Q Q', (∀ b H1, Q b H1 → Q' b H1) → c σ H Q → c σ H Q') : tWhile c tb D σ H := by
  refine ⟨fun m σ H => m = μ σ H ∧ Pv σ H, ⟨_, rfl, h0⟩, ?_⟩
  rintro m σ H ⟨rfl, p⟩
  refine mono σ H _ _ (fun b H1 q => ?_) (hs σ H p)
  cases b with
  | true => exact ⟨_, fun σ' H' ⟨p', l⟩ => ⟨_, l, rfl, p'⟩, q⟩
  | false => exact q
end L2

namespace L2
open PySem PySem.Spec PyProof.Rows

abbrev R2 := V → V → Hp → VK → Prop
/-- a two-place operation on values: f is binaryOp op, inplaceOp op or compareOp op -/
def OpR (X : Cx) (f : Value → Value → Sem Value) (r : R2) : Prop :=
  ∀ (pins : List (Addr × Obj)) (s : Shared) (σ : St) (H : Hp) (x y : V) (v u : Value) (Q : VK), Inv X pins σ H s → RelV x v → RelV y u → r x y H Q →
    wpAny (model X.prog X.w) X.A (f v u) (EP X pins σ Q) X.xe s
/-- a one-place operation -/
def UnR (X : Cx) (f : Value → Sem Value) (r : V → Hp → VK → Prop) : Prop :=
  ∀ (pins : List (Addr × Obj)) (s : Shared) (σ : St) (H : Hp) (x : V) (v : Value) (Q : VK), Inv X pins σ H s → RelV x v → r x H Q →
    wpAny (model X.prog X.w) X.A (f v) (EP X pins σ Q) X.xe s
/-- a call of a value that is known (a builtin, a type) with values -/
def CallR (X : Cx) (f : Value) (r : List V → Hp → VK → Prop) : Prop :=
  ∀ (pins : List (Addr × Obj)) (s : Shared) (σ : St) (H : Hp) (xs : List V) (us : List Value) (Q : VK), Inv X pins σ H s → Vals xs us → r xs H Q →
    wpAny (model X.prog X.w) X.A (call f us) (EP X pins σ Q) X.xe s
def tOp (r : R2) (ta tb : TE) : TE := fun σ H Q => ta σ H fun x H1 => tb σ H1 fun y H2 => r x y H2 Q
def tUn (r : V → Hp → VK → Prop) (ta : TE) : TE := fun σ H Q => ta σ H fun x H1 => r x H1 Q
/-- ints in, under C, and a value out -/
def rI (C : Int → Int → Prop) (g : Int → Int → V) : R2 := fun x y H Q => ∃ i j, x = .int i ∧ y = .int j ∧ C i j ∧ Q (g i j) H
def rI0 (g : Int → Int → V) : R2 := fun x y H Q => ∃ i j, x = .int i ∧ y = .int j ∧ Q (g i j) H
def rU (g : Int → V) : V → Hp → VK → Prop := fun x H Q => ∃ i, x = .int i ∧ Q (g i) H

section
variable {X : Cx} {a b c : Expr} {ta tb tc : TE} {pos : Pos}

theorem binT (ha : PE X a ta) (hb : PE X b tb) {pins : List (Addr × Obj)} {s : Shared} {σ : St} {H : Hp} {R : V → V → Hp → Prop} (I : Inv X pins σ H s)
    (h : ta σ H fun x H1 => tb σ H1 fun y H2 => R x y H2) {Q : Value → Shared → Prop} {f : Value → Value → Sem Value}
    (hf : ∀ v u s2 x y H2, Inv X pins σ H2 s2 → RelV x v → RelV y u → R x y H2 → wpAny (model X.prog X.w) X.A (f v u) Q X.xe s2) :
    wpAny (model X.prog X.w) X.A (eval a X.env) (fun v s₁ => wpAny (model X.prog X.w) X.A (eval b X.env) (fun u s₂ => wpAny (model X.prog X.w) X.A (f v u) Q X.xe s₂) X.xe s₁) X.xe s := by
  refine thn (ha pins s σ H _ I h) fun v s1 ⟨x, H1, I1, r1, q1⟩ => ?_
  refine thn (hb pins s1 σ H1 _ I1 q1) fun u s2 ⟨y, H2, I2, r2, q2⟩ => ?_
  exact hf v u s2 x y H2 I2 r1 r2 q2

theorem pe_op {op : Operator} {r : R2} (ho : OpR X (binaryOp op) r) (ha : PE X a ta) (hb : PE X b tb) : PE X (.BinOp a op b pos) (tOp r ta tb) := by
  intro pins s σ H Q I h
  exact wpAny_BinOp (binT ha hb I h fun v u s2 x y H2 I2 rx ry q => ho pins s2 σ H2 x y v u Q I2 rx ry q)
theorem pe_un {op : UnaryOp} {r : V → Hp → VK → Prop} (ho : UnR X (unaryOp op) r) (ha : PE X a ta) : PE X (.UnaryOp op a pos) (tUn r ta) := by
  intro pins s σ H Q I h
  exact UnaryOp_ (thn (ha pins s σ H _ I h) fun v s1 ⟨x, H1, I1, r1, q1⟩ => ho pins s1 σ H1 x v Q I1 r1 q1)
/-! ### ints -/
theorem opI {f : Value → Value → Sem Value} {C : Int → Int → Prop} {g : Int → Int → Int}
    (rule : ∀ (i j : Int) (t u : Tok) (s : Shared) (Q : Value → Shared → Prop) (E : Value → Shared → Prop), C i j → Q (.int (g i j) s.toks) { s with toks := s.toks + 1 } → wpAny (model X.prog X.w) X.A (f (.int i t) (.int j u)) Q E s) :
    OpR X f (rI C fun i j => .int (g i j)) := by
  intro pins s σ H x y v u Q I rx ry h
  obtain ⟨i, j, rfl, rfl, hc, q⟩ := h
  obtain ⟨t, rfl⟩ := rx
  obtain ⟨t', rfl⟩ := ry
  exact rule i j t t' s _ _ hc ⟨.int (g i j), H, I.tok _, ⟨_, rfl⟩, q⟩
theorem opI0 {f : Value → Value → Sem Value} {g : Int → Int → Int}
    (rule : ∀ (i j : Int) (t u : Tok) (s : Shared) (Q : Value → Shared → Prop) (E : Value → Shared → Prop), Q (.int (g i j) s.toks) { s with toks := s.toks + 1 } → wpAny (model X.prog X.w) X.A (f (.int i t) (.int j u)) Q E s) :
    OpR X f (rI0 fun i j => .int (g i j)) := by
  intro pins s σ H x y v u Q I rx ry h
  obtain ⟨i, j, rfl, rfl, q⟩ := h
  obtain ⟨t, rfl⟩ := rx
  obtain ⟨t', rfl⟩ := ry
  exact rule i j t t' s _ _ ⟨.int (g i j), H, I.tok _, ⟨_, rfl⟩, q⟩
theorem opB0 {f : Value → Value → Sem Value} {g : Int → Int → Bool}
    (rule : ∀ (i j : Int) (t u : Tok) (s : Shared) (Q : Value → Shared → Prop) (E : Value → Shared → Prop), Q (.bool (g i j)) s → wpAny (model X.prog X.w) X.A (f (.int i t) (.int j u)) Q E s) :
    OpR X f (rI0 fun i j => .bl (g i j)) := by
  intro pins s σ H x y v u Q I rx ry h
  obtain ⟨i, j, rfl, rfl, q⟩ := h
  obtain ⟨t, rfl⟩ := rx
  obtain ⟨t', rfl⟩ := ry
  exact rule i j t t' s _ _ ⟨.bl (g i j), H, I, rfl, q⟩

def CDiv (i j : Int) : Prop := 0 < j ∧ j < 1073741824
def CMul (i j : Int) : Prop := (-(2 ^ 64) < i ∧ i < 2 ^ 64) ∨ (-(2 ^ 64) < j ∧ j < 2 ^ 64)
theorem CMul.ok {i j : Int} (h : CMul i j) : IntMulOk i j := by
  rcases h with ⟨h1, h2⟩ | ⟨h1, h2⟩
  · exact .of_left (intBits_le_64 h1 h2)
  · exact .of_right (intBits_le_64 h1 h2)
theorem two_pow_nn (k : Nat) : (0 : Int) ≤ 2 ^ k := by
  rw [two_pow_cast]
  exact Int.natCast_nonneg _

theorem op_add : OpR X (binaryOp .Add) (rI0 fun i j => .int (i + j)) := opI0 fun _ _ _ _ _ _ _ q => add_int q
theorem op_sub : OpR X (binaryOp .Sub) (rI0 fun i j => .int (i - j)) := opI0 fun _ _ _ _ _ _ _ q => sub_int q
theorem op_mul : OpR X (binaryOp .Mult) (rI CMul fun i j => .int (i * j)) := opI fun _ _ _ _ _ _ _ hc q => mul_int q hc.ok
/-- // by a positive divisor -/
theorem op_fdiv : OpR X (binaryOp .FloorDiv) (rI CDiv fun i j => .int (i / j)) := opI fun i j _ _ _ _ _ hc q => by
  have h1 : (0 : Int) < j := hc.1
  have h2 : j < 1073741824 := hc.2
  exact floordiv_int (by omega) (by rw [Int.fdiv_eq_ediv_of_nonneg i (by omega)]; exact q) (.inl (PyProof.noPylong_small (by omega)))
/-- % by a positive divisor of any size -/
theorem op_mod : OpR X (binaryOp .Mod) (rI (fun _ j => 0 < j) fun i j => .int (i % j)) := opI fun i j _ _ _ _ _ hc q => by
  have h1 : (0 : Int) < j := hc
  exact mod_int' (by omega) (by rw [Int.fmod_eq_emod_of_nonneg i (by omega)]; exact q)
theorem op_shr : OpR X (binaryOp .RShift) (rI (fun _ j => 0 ≤ j) fun i j => .int (i / 2 ^ j.toNat)) := opI fun i j _ _ _ _ _ hc q =>
  rshift_int hc (by rw [Int.fdiv_eq_ediv_of_nonneg i (two_pow_nn _)]; exact q)
theorem op_and : OpR X (binaryOp .BitAnd) (rI0 fun i j => .int (Builtin.bitAnd i j)) := opI0 fun _ _ _ _ _ _ _ q => and_int q
theorem op_or : OpR X (binaryOp .BitOr) (rI0 fun i j => .int (Builtin.bitOr i j)) := opI0 fun _ _ _ _ _ _ _ q => or_int q
theorem op_xor : OpR X (binaryOp .BitXor) (rI0 fun i j => .int (Builtin.bitXor i j)) := opI0 fun _ _ _ _ _ _ _ q => xor_int q

theorem unI {f : Value → Sem Value} {g : Int → Int}
    (rule : ∀ (i : Int) (t : Tok) (s : Shared) (Q : Value → Shared → Prop) (E : Value → Shared → Prop), Q (.int (g i) s.toks) { s with toks := s.toks + 1 } → wpAny (model X.prog X.w) X.A (f (.int i t)) Q E s) :
    UnR X f (rU fun i => .int (g i)) := by
  intro pins s σ H x v Q I rx h
  obtain ⟨i, rfl, q⟩ := h
  obtain ⟨t, rfl⟩ := rx
  exact rule i t s _ _ ⟨.int (g i), H, I.tok _, ⟨_, rfl⟩, q⟩
theorem un_neg : UnR X (unaryOp .USub) (rU fun i => .int (-i)) := unI fun _ _ _ _ _ q => neg_int q
/-! ### bools among ints: n += (a < b) -/
end

/-! ### comparisons -/
/-- the scalars that == tells apart as data does -/
def scal : V → V → Bool
  | .non, .non => true | .non, .int _ => true | .int _, .non => true | .non, .bl _ => true | .bl _, .non => true | .non, .str _ => true | .str _, .non => true
  | .int _, .int _ => true | .bl _, .bl _ => true | .str _, .str _ => true | .byt _, .byt _ => true
  | .int _, .str _ => true | .str _, .int _ => true | .bl _, .str _ => true | .str _, .bl _ => true
  | _, _ => false
def rEq : R2 := fun x y H Q => scal x y = true ∧ Q (.bl (decide (x = y))) H
def rNe : R2 := fun x y H Q => scal x y = true ∧ Q (.bl (!decide (x = y))) H

theorem dec_int {i j : Int} : decide (V.int i = V.int j) = (i == j) := by
  rw [Bool.eq_iff_iff]
  simp
theorem dec_bl {i j : Bool} : decide (V.bl i = V.bl j) = (i == j) := by
  rw [Bool.eq_iff_iff]
  simp
theorem dec_str {i j : Str} : decide (V.str i = V.str j) = (i == j) := by
  rw [Bool.eq_iff_iff]
  simp
theorem dec_byt {i j : Array UInt8} : decide (V.byt i = V.byt j) = (i.toList == j.toList) := by
  rw [Bool.eq_iff_iff]
  cases i
  cases j
  simp

section
variable {X : Cx} {a b c : Expr} {ta tb tc : TE} {pos : Pos}
theorem fin_bl {pins : List (Addr × Obj)} {σ : St} {H : Hp} {s : Shared} {Q : VK} {k k' : Bool} (I : Inv X pins σ H s) (q : Q (.bl k) H) (e : k = k') : EP X pins σ Q (.bool k') s := by
  subst e
  exact ⟨.bl k, H, I, rfl, q⟩
theorem op_eq : OpR X (compareOp .Eq) rEq := by
  intro pins s σ H x y v u Q I rx ry h
  obtain ⟨hs, q⟩ := h
  cases x with
  | non =>
    cases rx
    cases y with
    | non => cases ry; exact PySem.EqNone.eq_none_none (fin_bl I q (by simp))
    | bl j => cases ry; exact PySem.EqNone.eq_none_bool (fin_bl I q (by simp))
    | int j => obtain ⟨t', rfl⟩ := ry; exact PySem.EqNone.eq_none_int (fin_bl I q (by simp))
    | str j => obtain ⟨t', rfl⟩ := ry; exact PySem.EqNone.eq_none_str (fin_bl I q (by simp))
    | _ => exact absurd (show false = true from hs) Bool.false_ne_true
  | bl i =>
    cases rx
    cases y with
    | non => cases ry; exact PySem.EqNone.eq_bool_none (fin_bl I q (by simp))
    | bl j => cases ry; exact eq_bool (fin_bl I q dec_bl)
    | str j => obtain ⟨t', rfl⟩ := ry; exact PySem.EqMixed.eq_bool_str (fin_bl I q (by simp))
    | _ => exact absurd (show false = true from hs) Bool.false_ne_true
  | int i =>
    obtain ⟨t, rfl⟩ := rx
    cases y with
    | non => cases ry; exact PySem.EqNone.eq_int_none (fin_bl I q (by simp))
    | int j => obtain ⟨t', rfl⟩ := ry; exact eq_int (fin_bl I q dec_int)
    | str j => obtain ⟨t', rfl⟩ := ry; exact PySem.EqMixed.eq_int_str (fin_bl I q (by simp))
    | _ => exact absurd (show false = true from hs) Bool.false_ne_true
  | str i =>
    obtain ⟨t, rfl⟩ := rx
    cases y with
    | non => cases ry; exact PySem.EqNone.eq_str_none (fin_bl I q (by simp))
    | bl j => cases ry; exact PySem.EqMixed.eq_str_bool (fin_bl I q (by simp))
    | int j => obtain ⟨t', rfl⟩ := ry; exact PySem.EqMixed.eq_str_int (fin_bl I q (by simp))
    | str j => obtain ⟨t', rfl⟩ := ry; exact eq_str (fin_bl I q dec_str)
    | _ => exact absurd (show false = true from hs) Bool.false_ne_true
  | byt i =>
    obtain ⟨t, rfl⟩ := rx
    cases y with
    | byt j => obtain ⟨t', rfl⟩ := ry; exact PySem.W.eq_bytes (fin_bl I q dec_byt)
    | _ => exact absurd (show false = true from hs) Bool.false_ne_true
  | _ => cases y <;> exact absurd (show false = true from hs) Bool.false_ne_true
theorem op_ne : OpR X (compareOp .NotEq) rNe := by
  intro pins s σ H x y v u Q I rx ry h
  obtain ⟨hs, q⟩ := h
  cases x with
  | non =>
    cases rx
    cases y with
    | non => cases ry; exact PySem.EqNone.ne_none_none (fin_bl I q (by simp))
    | bl j => cases ry; exact PySem.EqNone.ne_none_bool (fin_bl I q (by simp))
    | int j => obtain ⟨t', rfl⟩ := ry; exact PySem.EqNone.ne_none_int (fin_bl I q (by simp))
    | str j => obtain ⟨t', rfl⟩ := ry; exact PySem.EqNone.ne_none_str (fin_bl I q (by simp))
    | _ => exact absurd (show false = true from hs) Bool.false_ne_true
  | bl i =>
    cases rx
    cases y with
    | non => cases ry; exact PySem.EqNone.ne_bool_none (fin_bl I q (by simp))
    | bl j => cases ry; exact ne_bool (fin_bl I q (congrArg not dec_bl))
    | str j => obtain ⟨t', rfl⟩ := ry; exact PySem.EqMixed.ne_bool_str (fin_bl I q (by simp))
    | _ => exact absurd (show false = true from hs) Bool.false_ne_true
  | int i =>
    obtain ⟨t, rfl⟩ := rx
    cases y with
    | non => cases ry; exact PySem.EqNone.ne_int_none (fin_bl I q (by simp))
    | int j => obtain ⟨t', rfl⟩ := ry; exact ne_int (fin_bl I q (congrArg not dec_int))
    | str j => obtain ⟨t', rfl⟩ := ry; exact PySem.EqMixed.ne_int_str (fin_bl I q (by simp))
    | _ => exact absurd (show false = true from hs) Bool.false_ne_true
  | str i =>
    obtain ⟨t, rfl⟩ := rx
    cases y with
    | non => cases ry; exact PySem.EqNone.ne_str_none (fin_bl I q (by simp))
    | bl j => cases ry; exact PySem.EqMixed.ne_str_bool (fin_bl I q (by simp))
    | int j => obtain ⟨t', rfl⟩ := ry; exact PySem.EqMixed.ne_str_int (fin_bl I q (by simp))
    | str j => obtain ⟨t', rfl⟩ := ry; exact ne_str (fin_bl I q (congrArg not dec_str))
    | _ => exact absurd (show false = true from hs) Bool.false_ne_true
  | byt i =>
    obtain ⟨t, rfl⟩ := rx
    cases y with
    | byt j => obtain ⟨t', rfl⟩ := ry; exact PySem.W.ne_bytes (fin_bl I q (congrArg not dec_byt))
    | _ => exact absurd (show false = true from hs) Bool.false_ne_true
  | _ => cases y <;> exact absurd (show false = true from hs) Bool.false_ne_true

theorem op_lt : OpR X (compareOp .Lt) (rI0 fun i j => .bl (decide (i < j))) := opB0 fun _ _ _ _ _ _ _ q => lt_int q
theorem op_le : OpR X (compareOp .LtE) (rI0 fun i j => .bl (decide (i ≤ j))) := opB0 fun _ _ _ _ _ _ _ q => le_int q
theorem op_gt : OpR X (compareOp .Gt) (rI0 fun i j => .bl (decide (j < i))) := opB0 fun _ _ _ _ _ _ _ q => gt_int q
/-- is, is not of two objects that are tracked lists or instances -/
def isObj : HO → Bool
  | .lst _ => true
  | .ins _ _ _ => true
  | _ => false
/-- two rules for one operation: by cases -/
theorem OpR.or {f : Value → Value → Sem Value} {r r' : R2} (h : OpR X f r) (h' : OpR X f r') : OpR X f (fun x y H Q => r x y H Q ∨ r' x y H Q) := by
  intro pins s σ H x y v u Q I rx ry q
  rcases q with q | q
  · exact h pins s σ H x y v u Q I rx ry q
  · exact h' pins s σ H x y v u Q I rx ry q

theorem nomark (b : Expr) {op : CmpOp} (h : op ≠ .In := by decide) (h2 : op ≠ .NotIn := by decide) : behindInMarks op b = false := by
  have e1 : (op == CmpOp.In) = false := by cases op <;> first | rfl | exact absurd rfl h
  have e2 : (op == CmpOp.NotIn) = false := by cases op <;> first | rfl | exact absurd rfl h2
  cases b <;> simp [behindInMarks, e1, e2]
/-- a comparison as a value; hm: nomark b, or (for in, not in) by with_unfolding_all rfl -/
theorem pe_cmpR {op : CmpOp} {r : R2} (ho : OpR X (compareOp op) r) (ha : PE X a ta) (hb : PE X b tb) (hm : behindInMarks op b = false) : PE X (.Compare a [op] [b] pos) (tOp r ta tb) := by
  intro pins s σ H Q I h
  exact wpAny_Compare1 (binT ha hb I h fun v u s2 x y H2 I2 rx ry q => ho pins s2 σ H2 x y v u Q I2 rx ry q) hm
/-- a reading of a value as a test -/
def tTest (t : TE) : TT := fun σ H Q => t σ H fun x H' => ∃ k, x = .bl k ∧ Q k H'
theorem pt_cmpR {op : CmpOp} {r : R2} (ho : OpR X (compareOp op) r) (ha : PE X a ta) (hb : PE X b tb) (hm : behindInMarks op b = false) : PT X (.Compare a [op] [b] pos) (tTest (tOp r ta tb)) := by
  intro pins s σ H Q I h
  refine wpAny_isTrue_Compare1 (thn (ha pins s σ H _ I h) fun v s1 ⟨x, H1, I1, r1, q1⟩ => thn (hb pins s1 σ H1 _ I1 q1) fun u s2 ⟨y, H2, I2, r2, q2⟩ =>
    thn (ho pins s2 σ H2 x y v u _ I2 r1 r2 q2) fun c s3 ⟨z, H3, I3, r3, k, e, q3⟩ => ?_) hm
  subst e
  cases r3
  exact wpAny_truthy_bool ⟨H3, I3, q3⟩
/-! ### truth -/
theorem line63 : (sizeLine : Nat) < 2 ^ 63 := by rw [sizeLine_eq]; decide
/-! ### strs and bytes -/
/-! ### scalar builtins, by CallR -/
theorem vals1 {x : V} {us : List Value} (r : Vals [x] us) : ∃ u, us = [u] ∧ RelV x u := by
  cases r with
  | cons r1 r2 => cases r2; exact ⟨_, rfl, r1⟩
theorem vals2 {x y : V} {us : List Value} (r : Vals [x, y] us) : ∃ u w', us = [u, w'] ∧ RelV x u ∧ RelV y w' := by
  cases r with
  | cons r1 r2 =>
    cases r2 with
    | cons r3 r4 => cases r4; exact ⟨_, _, rfl, r1, r3⟩
end
end L2

namespace L2
open PySem PySem.Spec PyProof.Rows

/-! ### an instance, its attributes a map -/
structure ObjM (h : Heap) (x dx C : Addr) (mA : Str → Option Value) : Prop where
  obj : h.get? x = some (PySem.W.instObj C dx)
  ns : h.Ns1 dx mA
  ne : dx ≠ x

theorem lookIn_ns {h : Heap} {dx : Addr} {mA : Str → Option Value} (n : h.Ns1 dx mA) : ∃ od, h.get? dx = some od ∧ ∀ name, PySem.W.lookIn name od = some (mA name) := by
  obtain ⟨o, es, ep, ho, hd, hk, _, hm⟩ := n
  refine ⟨o, ho, fun name => ?_⟩
  have e := hm name
  unfold nsFind findBy at e
  rw [← Array.find?_toList] at e
  unfold PySem.W.lookIn
  rw [hd]
  dsimp only
  split
  · rename_i y q
    rw [q] at e
    exact congrArg some e
  · rename_i q
    rw [q] at e
    have a : es.toList.any (·.refKey) = false := by
      rw [List.any_eq_false]
      intro y hy
      obtain ⟨z, t, hkey⟩ := hk y (Array.mem_toList_iff.mp hy)
      simp [DictEntry.refKey, hkey]
    have a' : ¬ es.toList.any (·.refKey) = true := by rw [a]; exact Bool.false_ne_true
    rw [if_neg a']
    exact congrArg some e

theorem ObjM.look {h : Heap} {x dx C : Addr} {mA : Str → Option Value} (I : ObjM h x dx C mA) : ∃ od, PySem.W.InstAt h x (PySem.W.instObj C dx) C (some od) ∧ ∀ name, PySem.W.lookIn name od = some (mA name) :=
  let ⟨od, ho, hl⟩ := lookIn_ns I.ns
  ⟨od, ⟨I.obj, rfl, rfl, ho⟩, hl⟩

section
variable {prog : Program} {w : World} {A : Around} {E : Value → Shared → Prop} {s : Shared} {K : PySem.W.Frag} {x dx C f : Addr} {mA : Str → Option Value} {name : Str} {v : Value}

theorem get_meth {pl : Sem Bool} {Q : Value × List Value → Shared → Prop} (X : K.In s.heap) (I : ObjM s.heap x dx C mA) (hg : PySem.W.plainGet K C name = true)
    (hf : PySem.W.findIn K (.ref C) name = some (some (.ref f))) (ht : PySem.W.isFn K (.ref f) = true) (hv : mA name = none) (h : Q (.ref f, [.ref x]) s) :
    wpAny (model prog w) A (getMethod (.ref x) name pl) Q E s := by
  obtain ⟨od, J, hl⟩ := I.look
  exact PySem.W.method_fn X J (PySem.W.plainGet_of hg).1 (PySem.W.plainGet_of hg).2 hf (beq_iff_eq.mp ht) (by show (PySem.W.lookIn name od).map (·.isSome) = some false; rw [hl, hv]; rfl) h

/-- C(..): the dict at the heap's end, the instance behind it; then its __init__ -/
theorem make_map {R : Result → Shared → Prop} {vs : List Value} {kw : List (Str × Value)} (X : K.In s.heap) (hm : PySem.W.makesIn K C = true)
    (hi : PySem.W.findIn K (.ref C) "__init__" = some (some (.ref f))) (hf : PySem.W.typeIn K (.ref f) = some (.type "function"))
    (h : codeAny (model prog w) (A.under (.builtin "type.__call__" ⟨.ref C :: vs, kw⟩)) (.call (.ref f) ⟨.ref (s.heap.objs.size + 1) :: vs, kw⟩) (PySem.W.InitBack (s.heap.objs.size + 1) R)
      { s with heap := (s.heap.push PySem.W.emptyDict).push (PySem.W.instObj C s.heap.objs.size) }) :
    codeAny (model prog w) A (.call (.ref C) ⟨vs, kw⟩) R s := by
  obtain ⟨hh, g, d, t, os⟩ := s
  exact PySem.W.make_core (PySem.W.makes_of X hm) (PySem.W.looks_findIn X hi) (fun self => PySem.W.bind_fn X self hf) (.inl rfl) h
end

/-! ### the attributes as a list of pairs -/
def putF (f : Str) (v : V) : List (Str × V) → List (Str × V)
  | [] => [(f, v)]
  | (g, x) :: r => if g = f then (g, v) :: r else (g, x) :: putF f v r
theorem lookup_putF (f g : Str) (v : V) : ∀ fs : List (Str × V), (putF f v fs).lookup g = if g = f then some v else fs.lookup g
  | [] => by
    show List.lookup g [(f, v)] = _
    by_cases h : g = f
    · have hb : (g == f) = true := beq_iff_eq.mpr h
      simp only [List.lookup, hb, if_pos h]
    · have hb : (g == f) = false := beq_eq_false_iff_ne.mpr h
      simp only [List.lookup, hb, if_neg h]
  | (k, x) :: r => by
    have ih := lookup_putF f g v r
    rw [show putF f v ((k, x) :: r) = (if k = f then (k, v) :: r else (k, x) :: putF f v r) from rfl]
    by_cases hk : k = f
    · rw [if_pos hk]
      by_cases h : g = k
      · have hb : (g == k) = true := beq_iff_eq.mpr h
        simp only [List.lookup, hb, if_pos (h.trans hk)]
      · have hb : (g == k) = false := beq_eq_false_iff_ne.mpr h
        simp only [List.lookup, hb, if_neg (fun e : g = f => h (e.trans hk.symm))]
    · rw [if_neg hk]
      by_cases h : g = k
      · have hb : (g == k) = true := beq_iff_eq.mpr h
        simp only [List.lookup, hb, if_neg (fun e : g = f => hk (h.symm.trans e))]
      · have hb : (g == k) = false := beq_eq_false_iff_ne.mpr h
        simp only [List.lookup, hb]
        exact ih
theorem RelO.some_of {v : V} {o : Option Value} (r : RelO (some v) o) : ∃ u, o = some u ∧ RelV v u := by
  cases o with
  | none => exact (show False from r).elim
  | some u => exact ⟨u, rfl, r⟩
theorem RelO.none_of {o : Option Value} (r : RelO none o) : o = none := by
  cases o with
  | none => rfl
  | some u => exact (show False from r).elim
theorem handed_of {v : V} {u : Value} (r : RelV v u) : PySem.W.handedIn u = true := by
  cases v with
  | non => cases (show u = Value.none from r); rfl
  | bl b => cases (show u = Value.bool b from r); rfl
  | int i => obtain ⟨t, e⟩ := (show ∃ t, u = Value.int i t from r); cases e; rfl
  | str x => obtain ⟨t, e⟩ := (show ∃ t, u = Value.str x t from r); cases e; rfl
  | byt b => obtain ⟨t, e⟩ := (show ∃ t, u = Value.bytes b t from r); cases e; rfl
  | flt b => obtain ⟨t, e⟩ := (show ∃ t, u = Value.float b t from r); cases e; rfl
  | ref a => cases (show u = Value.ref a from r); rfl
  | ty n => cases (show u = Value.type n from r); rfl

section
variable {P : Program} {w : World} {H H' : Hp} {h h' : Heap} {a C dx : Addr} {fs fs' : List (Str × V)}
theorem ins_get (hok : HOk P w H h) (e : H a = some (.ins C dx fs)) : ∃ mA, ObjM h a dx C mA ∧ (∀ f, RelO (fs.lookup f) (mA f)) ∧ PySem.Within mA (fs.map (·.1)) ∧ fs.length ≤ 1000 ∧ H dx = some (.own a) := by
  obtain ⟨d, z, ne, ob, mA, n, r, q⟩ := (show ObjOk P w H h a (.ins C dx fs) from hok a _ e)
  exact ⟨mA, ⟨ob, n, ne⟩, r, q, z, d⟩
end

/-! ### what of the text a class must have -/
structure Cls (K : PySem.W.Frag) (C : Addr) : Prop where
  pg : PySem.W.plainGet K C Str.empty = true
  hd : PySem.W.hasDictIn K C = true
  po : PySem.W.plainOver K C = true
  sa : PySem.W.findIn K (.ref C) "__setattr__" = some (some (.builtin "object.__setattr__"))
theorem Cls.get {K : PySem.W.Frag} {C : Addr} (c : Cls K C) (f : Str) : PySem.W.plainGet K C f = true := c.pg
/-- no class of it has the name -/
def NoAttr (K : PySem.W.Frag) (C : Addr) (f : Str) : Prop := PySem.W.findIn K (.ref C) f = some none
theorem NoAttr.taker {K : PySem.W.Frag} {C : Addr} {f : Str} (n : NoAttr K C f) : PySem.W.takerIn K C f = some none := by
  unfold PySem.W.takerIn
  rw [show PySem.W.findIn K (.ref C) f = some none from n]
  rfl
/-- a constant of the class -/
structure Con (K : PySem.W.Frag) (C : Addr) (f : Str) (v : V) (u : Value) : Prop where
  at_ : PySem.W.findIn K (.ref C) f = some (some u)
  rel : RelV v u
  get : PySem.W.specialIn K u "__get__" = some none
  cp : PySem.W.copiedNames.contains f = false
/-- a method: a plain def of the class or of one above it -/
structure Meth (K : PySem.W.Frag) (C : Addr) (m : Str) (f : Addr) : Prop where
  at_ : PySem.W.findIn K (.ref C) m = some (some (.ref f))
  fn : PySem.W.isFn K (.ref f) = true
  kp : PySem.W.keepIn K (.ref f) = true

section
variable {X : Cx} {pins : List (Addr × Obj)} {σ : St} {H : Hp} {s : Shared} {a C dx : Addr} {fs : List (Str × V)} {f : Str} {v : V} {A : Around} {E : Value → Shared → Prop}

theorem getmeth_ok {m : Str} {g : Addr} {pl : Sem Bool} {Q : Value × List Value → Shared → Prop} (I : Inv X pins σ H s) (e : H a = some (.ins C dx fs)) (c : Cls X.K C) (k : Meth X.K C m g) (l : fs.lookup m = none)
    (h : Q (.ref g, [.ref a]) s) : wpAny (model X.prog X.w) A (getMethod (.ref a) m pl) Q E s := by
  obtain ⟨mA, O, r, _, _, _⟩ := ins_get I.hok e
  have hn : mA m = none := RelO.none_of (by rw [← l]; exact r m)
  exact get_meth I.kIn O (c.get m) k.at_ k.fn hn h

/-- a new instance, tracked, without attributes -/
theorem Inv.made (I : Inv X pins σ H s) : Inv X pins σ (upd (upd H s.heap.objs.size (.own (s.heap.objs.size + 1))) (s.heap.objs.size + 1) (.ins C s.heap.objs.size []))
    { s with heap := (s.heap.push PySem.W.emptyDict).push (PySem.W.instObj C s.heap.objs.size) } := by
  have e1 : (s.heap.push PySem.W.emptyDict).get? s.heap.objs.size = some PySem.W.emptyDict := Heap.get?_push_size s.heap rfl
  have e2 : ((s.heap.push PySem.W.emptyDict).push (PySem.W.instObj C s.heap.objs.size)).get? (s.heap.objs.size + 1) = some (PySem.W.instObj C s.heap.objs.size) := by
    have := Heap.get?_push_size (s.heap.push PySem.W.emptyDict) (o := PySem.W.instObj C s.heap.objs.size) rfl
    rwa [Heap.size_push] at this
  have e3 : (s.heap.push PySem.W.emptyDict).Ns s.heap.objs.size (fun _ => none) := ⟨PySem.W.emptyDict, #[], _, e1, rfl, (fun e he => absurd he (by simp)), fun _ => rfl⟩
  have I1 := I.laid (a := s.heap.objs.size) (o := .own (s.heap.objs.size + 1)) (h' := s.heap.push PySem.W.emptyDict) (t' := s.toks) (fun b u q => Heap.get?_push_of_some _ q) (Nat.le_refl _) ⟨_, e1⟩
  refine I1.laid (a := s.heap.objs.size + 1) (o := .ins C s.heap.objs.size []) (t' := s.toks) (fun b u q => Heap.get?_push_of_some _ q) (Nat.le_of_eq (Heap.size_push _ _)) ?_
  have ne : s.heap.objs.size ≠ s.heap.objs.size + 1 := Nat.ne_of_lt (Nat.lt_succ_self _)
  refine ⟨by rw [upd_ne ne, upd_same], Nat.zero_le _, ne, e2, fun _ => none, (Heap.Ns1.of_empty e3).at fun o q => Heap.get?_push_of_some _ q, fun _ => True.intro, fun y hy => absurd rfl hy⟩

/-- e.f where nothing but the object is asked: through attributeBase (super) and the last hold -/
theorem attr_of {prog : Program} {w : World} {env : Env} {e : Expr} {f : Str} {pos : Pos} {s : Shared} {Q : Value → Shared → Prop} (hb : attributeBase e f env (eval e env) = eval e env)
    (h : wpAny (model prog w) A (eval e env) (fun o s₁ => wpAny (model prog w) A (getAttr o f true) Q E s₁) E s) : wpAny (model prog w) A (eval (.Attribute e f pos) env) Q E s :=
  Attribute_any_ h (by rw [arm_eval_Attribute, hb])
end

/-! ### readings and rules -/
/-- e.f, an attribute of the instance -/
def tFld (K : PySem.W.Frag) (ta : TE) (f : Str) : TE := fun σ H Q => ta σ H fun x H1 => ∃ a C dx fs v, x = .ref a ∧ H1 a = some (.ins C dx fs) ∧ Cls K C ∧ NoAttr K C f ∧ fs.lookup f = some v ∧ Q v H1
section
variable {X : Cx} {o e value : Expr} {f : Str} {pos pos' tpos : Pos} {ta tv : TE}
/-- what is between an instance and its method: the tree of a method call -/
theorem methcall_of {pl : Sem Bool} {m : Str} {apos : Pos} {args : List Expr} {pins : List (Addr × Obj)} {s : Shared} {σ : St} {H : Hp} {Q : Value → Shared → Prop} {te : TE} (he : PE X e te) (I : Inv X pins σ H s)
    (h : te σ H fun x H1 => ∃ a C dx fs g, x = .ref a ∧ H1 a = some (.ins C dx fs) ∧ Cls X.K C ∧ Meth X.K C m g ∧ fs.lookup m = none ∧
      ∀ s1, Inv X pins σ H1 s1 → wpAny (model X.prog X.w) X.A (callWith pos (.ref g) [.ref a] (backTo pos (starEach args X.env)) (backToKw pos (keywordEach [] X.env))) Q X.xe s1)
    (ht : eval (.Call (.Attribute e m apos) args [] pos) X.env = (do
      let ov ← eval e X.env
      standAt apos.atName
      let (f, first) ← holding [ov] (getMethod ov m pl)
      callWith pos f first (backTo pos (starEach args X.env)) (backToKw pos (keywordEach [] X.env)))) :
    wpAny (model X.prog X.w) X.A (eval (.Call (.Attribute e m apos) args [] pos) X.env) Q X.xe s := by
  refine PySem.W.methodCall_KW (pl := pl) (thn (he pins s σ H _ I h) fun u s1 ⟨x, H1, I1, rx, a, C, dx, fs, g, ex, ea, c, k, l, q⟩ => ?_) ht
  subst ex
  obtain rfl : u = Value.ref a := rx
  exact getmeth_ok I1 ea c k l (q s1 I1)
end

/-! ### isinstance -/
section
variable {X : Cx} {pins : List (Addr × Obj)} {σ : St} {H : Hp} {s : Shared} {A : Around} {E : Value → Shared → Prop} {Q : Value → Shared → Prop} {c : Value} {b : Bool}
/-- the type of a value, as the fragment's deciders take it; for an instance its class -/
inductive TyOf (K : PySem.W.Frag) (H : Hp) : V → Value → Prop where
  | non : TyOf K H .non (.type "NoneType")
  | bl (x : Bool) : TyOf K H (.bl x) (.type "bool")
  | int (i : Int) : TyOf K H (.int i) (.type "int")
  | str (x : Str) : TyOf K H (.str x) (.type "str")
  | flt (x : UInt64) : TyOf K H (.flt x) (.type "float")
  | lst {a : Addr} {xs : List V} (e : H a = some (.lst xs)) : TyOf K H (.ref a) (.type "list")
  | frz {a : Addr} {o : Obj} {xs : List V} (e : H a = some (.frz o (.lst xs))) : TyOf K H (.ref a) (.type "list")
  | tup {a : Addr} {xs : List V} (e : H a = some (.tup xs)) : TyOf K H (.ref a) (.type "tuple")
  | dK {a : Addr} {kvs : List (Key × V)} (e : H a = some (.dK kvs)) : TyOf K H (.ref a) (.type "dict")
  | dT {a : Addr} {kvs : List (List Key × V)} (e : H a = some (.dT kvs)) : TyOf K H (.ref a) (.type "dict")
  | ins {a C dx : Addr} {fs : List (Str × V)} (e : H a = some (.ins C dx fs)) (cl : Cls K C) (ha : PySem.W.findIn K (.ref C) "__class__" = some (some (.builtin "object.__class__")))
      (hn : PySem.W.specialIn K (.builtin "object.__class__") "__get__" = some (some (.builtin "getset_descriptor.__get__"))) (htk : PySem.W.takesIn K (.builtin "object.__class__") = some true)
      (hm : PySem.W.mroIn K C (.type "object") = some true) : TyOf K H (.ref a) (.ref C)
/-- isinstance(x, c) for one class c, a built-in or an own one: kitOne's answer -/
theorem isinst_ok {x : V} {u t : Value} (I : Inv X pins σ H s) (rx : RelV x u) (ty : TyOf X.K H x t) (e : PySem.W.kitOne X.K t c = some b) (h : ∀ tk, Q (.bool b) { s with toks := tk }) :
    wpAny (model X.prog X.w) A (call (.builtin "isinstance") [u, c]) Q E s := by
  cases ty with
  | non => cases (show u = Value.none from rx); exact PySem.W.kia_one PySem.W.kitx_none I.kIn True.intro e (fun z => nomatch z) h
  | bl y => cases (show u = Value.bool y from rx); exact PySem.W.kia_one PySem.W.kitx_bool I.kIn True.intro e (fun z => nomatch z) h
  | int i => obtain ⟨t, q⟩ := (show ∃ t, u = Value.int i t from rx); cases q; exact PySem.W.kia_one PySem.W.kitx_int I.kIn True.intro e (fun z => nomatch z) h
  | str y => obtain ⟨t, q⟩ := (show ∃ t, u = Value.str y t from rx); cases q; exact PySem.W.kia_one PySem.W.kitx_str I.kIn True.intro e (fun z => nomatch z) h
  | flt y => obtain ⟨t, q⟩ := (show ∃ t, u = Value.float y t from rx); cases q; exact PySem.W.kia_one PySem.W.kitx_float I.kIn True.intro e (fun z => nomatch z) h
  | @lst a xs ea =>
    cases (show u = Value.ref a from rx)
    obtain ⟨_, _, n, _, h1⟩ := (show ObjOk X.prog X.w H s.heap a (.lst xs) from I.hok a _ ea)
    exact PySem.W.kia_one PySem.W.kitx_list I.kIn ⟨_, h1, rfl⟩ e (fun z => nomatch z) h
  | @frz a ob xs ea =>
    cases (show u = Value.ref a from rx)
    obtain ⟨_, _, _, n, _, h1⟩ := (show ObjOk X.prog X.w H s.heap a (.frz ob (.lst xs)) from I.hok a _ ea)
    exact PySem.W.kia_one PySem.W.kitx_list I.kIn ⟨_, h1, rfl⟩ e (fun z => nomatch z) h
  | @tup a xs ea =>
    cases (show u = Value.ref a from rx)
    obtain ⟨_, _, _, p⟩ := (show ObjOk X.prog X.w H s.heap a (.tup xs) from I.hok a _ ea)
    obtain ⟨o, h1, h2, _⟩ := p
    exact PySem.W.kia_one PySem.W.kitx_tuple I.kIn ⟨o, h1, h2⟩ e (fun z => nomatch z) h
  | @dK a kvs ea =>
    cases (show u = Value.ref a from rx)
    obtain ⟨_, _, vs, _, p⟩ := (show ObjOk X.prog X.w H s.heap a (.dK kvs) from I.hok a _ ea)
    obtain ⟨o, es, ep, h1, h2, _⟩ := p
    exact PySem.W.kia_one PySem.W.kitx_dict I.kIn ⟨o, h1, h2.1⟩ e (fun z => nomatch z) h
  | @dT a kvs ea =>
    cases (show u = Value.ref a from rx)
    obtain ⟨_, _, xs, _, o, es, ep, h1, h2, _⟩ := (show ObjOk X.prog X.w H s.heap a (.dT kvs) from I.hok a _ ea)
    exact PySem.W.kia_one PySem.W.kitx_dict I.kIn ⟨o, h1, h2.1⟩ e (fun z => nomatch z) h
  | @ins a C dx fs ea cl ha hn htk hm =>
    cases (show u = Value.ref a from rx)
    obtain ⟨mA, O, _⟩ := ins_get I.hok ea
    obtain ⟨od, J, _⟩ := O.look
    exact PySem.W.kia_one (PySem.W.kitx_own (cl.get _) cl.hd ha hn htk hm) I.kIn J e (fun z => nomatch z) h
end
end L2

namespace L2
open PySem PySem.Spec PyProof.Rows

/-! ### room -/
structure Room (k : Nat) (A : Around) : Prop where
  hd : A.handled = none
  dp : A.depth + 3 * k + 5 < recursionLimit
  un : A.units + 16 * k + 200 < cLine
theorem Room.mono {j k : Nat} {A : Around} (r : Room k A) (h : j ≤ k) : Room j A := ⟨r.hd, by have := r.dp; omega, by have := r.un; omega⟩
theorem Room.deeper {k : Nat} {A : Around} (r : Room (k + 1) A) (env : Env) : Room k (A.deeper env) :=
  ⟨r.hd, by have := r.dp; show A.depth + 1 + 3 * k + 5 < _; omega, by have := r.un; show A.units + 3 + 16 * k + 200 < _; omega⟩
theorem Room.in1 {k : Nat} {A : Around} (r : Room (k + 1) A) : Room k A.in1 :=
  ⟨r.hd, by have := r.dp; show A.depth + 3 * k + 5 < _; omega, by have := r.un; show A.units + 1 + 16 * k + 200 < _; omega⟩
theorem make_depth {A : Around} {C : Addr} {us : List Value} {kw : List (Str × Value)} : (A.under (.builtin "type.__call__" ⟨.ref C :: us, kw⟩)).depth = A.depth + 1 := by
  first | rfl | simp [Around.under, Code.weight, Code.isCreation, Code.isGuard, Code.isCaller, Code.frames, Code.isFrame, guardIds]
theorem make_units {A : Around} {C : Addr} {us : List Value} {kw : List (Str × Value)} : (A.under (.builtin "type.__call__" ⟨.ref C :: us, kw⟩)).units = A.units + 1 := by
  first | rfl | simp [Around.under, Code.cUnits, Code.frames, Code.isFrame]
theorem Room.make {k : Nat} {A : Around} (r : Room (k + 1) A) (C : Addr) (us : List Value) (kw : List (Str × Value)) : Room k (A.under (.builtin "type.__call__" ⟨.ref C :: us, kw⟩)) :=
  ⟨r.hd, by have := r.dp; rw [make_depth]; omega, by have := r.un; rw [make_units]; omega⟩
theorem Room.depth {k : Nat} {A : Around} (r : Room k A) : A.depth < recursionLimit := by have := r.dp; omega
theorem Room.units {k : Nat} {A : Around} (r : Room k A) : A.units + 64 < cLine := by have := r.un; omega
/-! ### argument lists and displays -/
def tNil : TA := fun _ H Q => Q [] H
def tCons (ta : TE) (tr : TA) : TA := fun σ H Q => ta σ H fun x H1 => tr σ H1 fun xs H2 => Q (x :: xs) H2
section
variable {X : Cx} {e : Expr} {es : List Expr} {te : TE} {t : TA} {pos : Pos}
theorem pa_nil : PA X [] tNil := fun _ _ _ _ H Q I h => Calls.spliced_nil ⟨[], H, I, .nil, h⟩
theorem pa_cons (ha : PE X e te) (hr : PA X es t) (hs : starEach (e :: es) X.env = (false, eval e X.env) :: starEach es X.env := by rfl) : PA X (e :: es) (tCons te t) := by
  intro pos pins s σ H Q I h
  rw [hs]
  show wpAny _ _ (spliced ((false, eval e X.env) :: backTo pos (starEach es X.env))) _ _ s
  refine Calls.spliced_cons (thn (ha pins s σ H _ I h) fun u s1 ⟨x, H1, I1, r1, q1⟩ => ?_)
  exact thn (hr pos pins s1 σ H1 _ I1 q1) fun us s2 ⟨xs, H2, I2, r2, q2⟩ => ⟨x :: xs, H2, I2, .cons r1 r2, q2⟩

/-- a tuple, a list of written items -/
def tTup (t : TA) : TE := fun σ H Q => t σ H fun xs H1 => xs.length ≤ sizeLine ∧ ∀ p, H1 p = none → Q (.ref p) (upd H1 p (.tup xs))
def tLst (t : TA) : TE := fun σ H Q => t σ H fun xs H1 => xs.length ≤ sizeLine ∧ ∀ p, H1 p = none → Q (.ref p) (upd H1 p (.lst xs))
theorem pe_tup {x1} (h : PA X es t) : PE X (.Tuple es x1 pos) (tTup t) := by
  intro pins s σ H Q I hq
  refine wpAny_Tuple_spliced (thn (h pos pins s σ H _ I hq) fun us s1 ⟨xs, H1, I1, r, z, q⟩ => ⟨by rw [← r.length]; exact z, ?_⟩)
  have hf : H1 s1.heap.objs.size = none := I1.hok.fresh (Nat.le_refl _)
  refine ⟨.ref s1.heap.objs.size, upd H1 s1.heap.objs.size (.tup xs), I1.laid (t' := s1.toks) (fun b u e => Heap.get?_push_of_some _ e) (Nat.le_refl _) ?_, rfl, q _ hf⟩
  exact ⟨z, us, r, ⟨_, Heap.get?_push_size _ rfl, rfl, _, rfl⟩⟩
theorem pe_lst (h : PA X es t) : PE X (.List es pos) (tLst t) := by
  intro pins s σ H Q I hq
  refine wpAny_List_spliced (thn (h pos pins s σ H _ I hq) fun us s1 ⟨xs, H1, I1, r, z, q⟩ => ⟨by rw [← r.length]; exact z, ?_⟩)
  have hf : H1 s1.heap.objs.size = none := I1.hok.fresh (Nat.le_refl _)
  refine ⟨.ref s1.heap.objs.size, upd H1 s1.heap.objs.size (.lst xs), I1.laid (t' := s1.toks) (fun b u e => Heap.get?_push_of_some _ e) (Nat.le_refl _) ?_, rfl, q _ hf⟩
  exact ⟨z, us, 0, r, Heap.get?_push_size _ rfl⟩
end

/-! ### what a def promises -/
/-- a def's promise: the bound arguments in the parameters' order, the heap, the wanted end, the wanted exception -/
abbrev Sp := List V → Hp → VK → XK → Prop
/-- how an exception lies behind a call (file 08 gives it): the callers' frames, abstract heap and state ahead of the call, the wish, the exception, the state -/
abbrev CXT := List Env → Hp → Shared → XK → Value → Shared → Prop

/-- the state at a call -/
structure Env0 (P : Program) (w : World) (K : PySem.W.Frag) (mg : Str → Option Value) (base : Heap) (A : Around) (outer : List Env) (s : Shared) (H : Hp) : Prop where
  frames : A.frames = some outer
  mod : Mod K mg base
  bs : ∀ b o, base.get? b = some o → s.heap.get? b = some o ∧ H b = none
  bsz : base.objs.size ≤ s.heap.objs.size
  funs : s.heap.FunFrames base outer
  frf : ∀ b ∈ frs outer, H b = none
  hok : HOk P w H s.heap
  bare : AllBare s.gens
/-- a call's end -/
def CE (outer : List Env) (P : Program) (w : World) (H : Hp) (s : Shared) (Q : VK) (u : Value) (s' : Shared) : Prop :=
  ∃ v H', s'.os = s.os ∧ AllBare s'.gens ∧ Un (frs outer) [] H H' s.heap s'.heap ∧ HOk P w H' s'.heap ∧ RelV v u ∧ Q v H'
def CR (CX : CXT) (outer : List Env) (P : Program) (w : World) (H : Hp) (s : Shared) (Q : VK) (E : XK) (r : Result) (s' : Shared) : Prop :=
  match r with
  | .ok (.ret u) => CE outer P w H s Q u s'
  | .ok _ => False
  | .error e => CX outer H s E e s'
structure FnOk (P : Program) (w : World) (K : PySem.W.Frag) (mg : Str → Option Value) (base : Heap) (CX : CXT) (k : Nat) (f : Addr) (fd : FuncData) (ps : List Str) (sp : Sp) : Prop where
  len : ∀ vs H Q E, sp vs H Q E → vs.length = ps.length
  run : ∀ (A : Around) (outer : List Env) (s : Shared) (H : Hp) (args : Args) (us : List Value) (vs : List V) (Q : VK) (E : XK), Room k A → Env0 P w K mg base A outer s H → BindsTo s fd args (ps.zip us) → Vals vs us → sp vs H Q E →
    codeAny (model P w) A (.call (.ref f) args) (CR CX outer P w H s Q E) s
theorem FnOk.mono {P : Program} {w : World} {K : PySem.W.Frag} {mg : Str → Option Value} {base : Heap} {CX : CXT} {j k : Nat} {f : Addr} {fd : FuncData} {ps : List Str} {sp : Sp} (F : FnOk P w K mg base CX j f fd ps sp) (h : j ≤ k) :
    FnOk P w K mg base CX k f fd ps sp := ⟨F.len, fun A outer s H args us vs Q E hr => F.run A outer s H args us vs Q E (hr.mono h)⟩
theorem Env0.make {P : Program} {w : World} {K : PySem.W.Frag} {mg : Str → Option Value} {base : Heap} {A : Around} {outer : List Env} {s : Shared} {H : Hp} (e : Env0 P w K mg base A outer s H) (C : Addr) (us : List Value) (kw : List (Str × Value)) :
    Env0 P w K mg base (A.under (.builtin "type.__call__" ⟨.ref C :: us, kw⟩)) outer s H := ⟨by first | exact e.frames | (simpa [Around.under, Code.envs, Code.isFrame, pushEnvs] using e.frames), e.mod, e.bs, e.bsz, e.funs, e.frf, e.hok, e.bare⟩
theorem Env0.in1 {P : Program} {w : World} {K : PySem.W.Frag} {mg : Str → Option Value} {base : Heap} {A : Around} {outer : List Env} {s : Shared} {H : Hp} (e : Env0 P w K mg base A outer s H) :
    Env0 P w K mg base A.in1 outer s H := ⟨e.frames, e.mod, e.bs, e.bsz, e.funs, e.frf, e.hok, e.bare⟩

section
variable {X : Cx} {pins : List (Addr × Obj)} {σ : St} {H : Hp} {s s' : Shared}
/-- from a body: what a callee wants -/
theorem Inv.env0 (I : Inv X pins σ H s) : Env0 X.prog X.w X.K X.mg X.base X.A X.stack s H :=
  ⟨I.ok.frames, I.ok.mod, I.bs, Nat.le_trans I.ok.bsz I.sz, I.stack, I.stkFree, I.hok, I.bare⟩
/-- behind a call -/
theorem Inv.after {Q : VK} {u : Value} (I : Inv X pins σ H s) (h : CE X.stack X.prog X.w H s Q u s') : EP X pins σ Q u s' := by
  obtain ⟨v, H', os, bare, un, hok, r, q⟩ := h
  obtain ⟨hh, g, d, t, os'⟩ := s'
  obtain rfl : os' = s.os := os
  exact ⟨v, H', I.call (h' := hh) (g' := g) (d' := d) (t' := t) (ch := []) un hok bare (fun b z => absurd z (by simp)), r, q⟩
end

/-! ### calls -/
/-- f(..): the written arguments, then the defaults dvs; E: what is wanted of an exception -/
def tCall (sp : Sp) (dvs : List V) (E : XK) (t : TA) : TE := fun σ H Q => t σ H fun vs H1 => sp (vs ++ dvs) H1 Q E
/-- o.m(..) of an instance of the class at C -/
def tMeth (C : Addr) (m : Str) (sp : Sp) (dvs : List V) (E : XK) (ta : TE) (t : TA) : TE := fun σ H Q => ta σ H fun x H1 => ∃ a dx fs, x = .ref a ∧ H1 a = some (.ins C dx fs) ∧ fs.lookup m = none ∧
  t σ H1 fun vs H2 => sp (x :: (vs ++ dvs)) H2 Q E
/-- C(..): a new instance and its dict, then __init__ -/
def tMake (C : Addr) (sp : Sp) (dvs : List V) (E : XK) (t : TA) : TE := fun σ H Q => t σ H fun vs H1 => ∀ x dx, H1 x = none → H1 dx = none → dx ≠ x →
  sp (.ref x :: (vs ++ dvs)) (upd (upd H1 dx (.own x)) x (.ins C dx [])) (fun v H2 => v = .non ∧ Q (.ref x) H2) E

/-- how the parameters are bound: us the positional arguments, kw the keywords' values by name, ds the defaults that fill up -/
def Binds (K : PySem.W.Frag) (fd : FuncData) (ps : List Str) (ds : List Value) : Prop :=
  ∀ (s : Shared) (us : List Value), K.In s.heap → (us ++ ds).length = ps.length → BindsTo s fd ⟨us, []⟩ (ps.zip (us ++ ds))
/-- every parameter is given -/
theorem Binds.all {K : PySem.W.Frag} {fd : FuncData} {ps : List Str} (h : ∀ us : List Value, us.length = ps.length → bindArgs fd ⟨us, []⟩ = pure (ps.zip us)) : Binds K fd ps [] := fun s us _ hl => by
  rw [List.append_nil] at hl ⊢
  exact .of_eq (h us hl)

/-- an exception of a callee reaches what this body wants of exceptions -/
def Passes (CX : CXT) (X : Cx) (E : XK) : Prop := ∀ (pins : List (Addr × Obj)) (σ : St) (H : Hp) (s : Shared) (e : Value) (s' : Shared), Inv X pins σ H s → CX X.stack H s E e s' → X.xe e s'

section
variable {X : Cx} {CX : CXT} {k : Nat} {f C : Addr} {fd : FuncData} {ps : List Str} {sp : Sp} {dvs : List V} {ds : List Value} {E : XK} {x m : Str} {p pos apos : Pos} {e o : Expr} {es : List Expr} {ta : TE} {t : TA}

/-- the callee runs -/
theorem run_fn {pins : List (Addr × Obj)} {σ : St} {H : Hp} {s : Shared} {Q : VK} {us : List Value} {vs : List V} (F : FnOk X.prog X.w X.K X.mg X.base CX k f fd ps sp) (hr : Room k X.A) (hb : Binds X.K fd ps ds) (hd : Vals dvs ds) (hx : Passes CX X E)
    (I : Inv X pins σ H s) (r : Vals vs us) (h : sp (vs ++ dvs) H Q E) : wpAny (model X.prog X.w) X.A (call (.ref f) us) (EP X pins σ Q) X.xe s := by
  have r2 : Vals (vs ++ dvs) (us ++ ds) := r.append hd
  have hl : (us ++ ds).length = ps.length := by rw [← r2.length]; exact F.len _ _ _ _ h
  refine wpAny_call (codeAny_mono (F.run X.A X.stack s H ⟨us, []⟩ (us ++ ds) (vs ++ dvs) Q E hr I.env0 (hb s us I.kIn hl) r2 h) fun r s' hq => ?_)
  cases r with
  | error e => exact hx pins σ H s e s' I hq
  | ok fl =>
    cases fl with
    | ret u => exact I.after hq
    | next => exact False.elim hq
    | brk => exact False.elim hq
    | cont => exact False.elim hq

theorem pe_call (F : FnOk X.prog X.w X.K X.mg X.base CX k f fd ps sp) (hr : Room k X.A) (hg : Gl X x) (hm : X.mg x = some (.ref f)) (hk : PySem.W.keepIn X.K (.ref f) = true) (hb : Binds X.K fd ps ds) (hd : Vals dvs ds) (hx : Passes CX X E)
    (ha : PA X (e :: es) t) (hdb : (x == ("__debug__" : Str)) = false := by decide) (he : starEach (e :: es) X.env = (false, eval e X.env) :: starEach es X.env := by rfl) (hpl : (backTo pos (starEach es X.env)).any (·.1) = false := by rfl) :
    PE X (.Call (.Name x p) (e :: es) [] pos) (tCall sp dvs E t) := by
  intro pins s σ H Q I h
  refine wpAny_Call_Name_kw (ld_glob I hg hm ?_ hdb)
  refine PySem.W.callWith_K (h₀ := X.base) I.ok.mod.kin hk (thn (ha pos pins s σ H _ I h) fun us s1 ⟨vs, H1, I1, r, q⟩ => ⟨I1.kIn, ?_⟩) he hpl
  exact run_fn F hr hb hd hx I1 r q
/-- what a class must have to be made -/
structure Mk (K : PySem.W.Frag) (C f : Addr) : Prop where
  makes : PySem.W.makesIn K C = true
  init : PySem.W.findIn K (.ref C) "__init__" = some (some (.ref f))
  fn : PySem.W.isFn K (.ref f) = true
  kp : PySem.W.keepIn K (.ref C) = true

end

/-! ### keywords -/
section
variable {X : Cx} {CX : CXT} {k : Nat} {f C : Addr} {fd : FuncData} {ps ks : List Str} {sp : Sp} {E : XK} {x m : Str} {p pos apos kpos : Pos} {e o : Expr} {es : List Expr} {kws : List Keyword} {te ta : TE} {t tk : TA} {nm : Option Str}
/-- how a call with keywords binds: g puts the positional values us and the keywords' values ws (names ks) in the parameters' order, defaults among them -/
structure KBinds (K : PySem.W.Frag) (fd : FuncData) (ps ks : List Str) (g : List Value → List Value → List Value) (gV : List V → List V → List V) : Prop where
  to : ∀ (s : Shared) (us ws : List Value), K.In s.heap → (g us ws).length = ps.length → BindsTo s fd ⟨us, ks.zip ws⟩ (ps.zip (g us ws))
  rel : ∀ {vs : List V} {us : List Value} {zs : List V} {ws : List Value}, Vals vs us → Vals zs ws → Vals (gV vs zs) (g us ws)
variable {g : List Value → List Value → List Value} {gV : List V → List V → List V}
end

/-! ### a def's body keeps its promise -/
/-- names: the parameters first -/
structure FnScope (N P : List Str) (sc : Scope) : Prop where
  kind : sc.kind = .function
  co : sc.isCoroutine = false
  gen : sc.isGenerator = false
  nd : N.Nodup
  pre : N.take P.length = P
  par : ∀ x ∈ P, sc.names.lookup x = some .local ∨ sc.names.lookup x = some .cell
  nofree : ∀ y ∈ sc.names, y.2 ≠ .free

theorem bindL_out {kindOf : Str → Option NameKind} {x : Str} : ∀ {binds : List (Str × Value)} {m : Str → Option Value}, (∀ v, (x, v) ∉ binds) → bindL kindOf binds m x = m x
  | [], _, _ => rfl
  | (n, v) :: r, m, h => by
    unfold bindL
    rw [bindL_out fun w hw => h w (List.mem_cons_of_mem _ hw)]
    split
    · have : x ≠ n := by rintro rfl; exact h v List.mem_cons_self
      simp [this]
    · rfl
theorem bindC_out {kindOf : Str → Option NameKind} {x : Str} : ∀ {binds : List (Str × Value)} {m : Str → Option Value}, (∀ v, (x, v) ∉ binds) → bindC kindOf binds m x = m x
  | [], _, _ => rfl
  | (n, v) :: r, m, h => by
    unfold bindC
    rw [bindC_out fun w hw => h w (List.mem_cons_of_mem _ hw)]
    split
    · rfl
    · have : x ≠ n := by rintro rfl; exact h v List.mem_cons_self
      simp [this]
theorem bindL_get {kindOf : Str → Option NameKind} {x : Str} {v : Value} : ∀ {P : List Str} {vs : List Value} {i : Nat} {m : Str → Option Value}, P.Nodup → P[i]? = some x → vs[i]? = some v → kindOf x = some .local →
    bindL kindOf (P.zip vs) m x = some v
  | [], _, _, _, _, h, _, _ => by simp at h
  | _ :: _, [], _, _, _, _, h, _ => by simp at h
  | p :: P, w :: vs, 0, m, nd, h1, h2, hk => by
    simp at h1 h2; subst h1; subst h2
    show bindL kindOf ((p, w) :: P.zip vs) m p = _
    unfold bindL
    rw [bindL_out fun v hv => (List.nodup_cons.mp nd).1 (List.of_mem_zip hv).1, if_pos hk]
    simp
  | p :: P, w :: vs, i + 1, m, nd, h1, h2, hk => by
    show bindL kindOf ((p, w) :: P.zip vs) m x = _
    unfold bindL
    exact bindL_get (i := i) (List.nodup_cons.mp nd).2 (by simpa using h1) (by simpa using h2) hk
theorem bindC_get {kindOf : Str → Option NameKind} {x : Str} {v : Value} : ∀ {P : List Str} {vs : List Value} {i : Nat} {m : Str → Option Value}, P.Nodup → P[i]? = some x → vs[i]? = some v → kindOf x ≠ some .local →
    bindC kindOf (P.zip vs) m x = some v
  | [], _, _, _, _, h, _, _ => by simp at h
  | _ :: _, [], _, _, _, _, h, _ => by simp at h
  | p :: P, w :: vs, 0, m, nd, h1, h2, hk => by
    simp at h1 h2; subst h1; subst h2
    show bindC kindOf ((p, w) :: P.zip vs) m p = _
    unfold bindC
    rw [bindC_out fun v hv => (List.nodup_cons.mp nd).1 (List.of_mem_zip hv).1, if_neg hk]
    simp
  | p :: P, w :: vs, i + 1, m, nd, h1, h2, hk => by
    show bindC kindOf ((p, w) :: P.zip vs) m x = _
    unfold bindC
    exact bindC_get (i := i) (List.nodup_cons.mp nd).2 (by simpa using h1) (by simpa using h2) hk

/-- the names' values at the entry -/
def start (N : List Str) (vs : List V) : St := vs.map some ++ List.replicate (N.length - vs.length) none

/-- the context of a def's body, at its entry; an exception leaves the frame, then lies as CX says -/
def cxOf (CX : CXT) (P : Program) (w : World) (K : PySem.W.Frag) (mg : Str → Option Value) (base : Heap) (N : List Str) (qual : Str) (scope : Scope) (f : Addr) (cd : Value) (A : Around) (outer : List Env) (s : Shared) (H : Hp) (E : XK) : Cx where
  prog := P
  w := w
  K := K
  mg := mg
  base := base
  A := A.deeper (envOfC qual scope s.heap.objs.size f cd)
  N := N
  s₀ := s
  H₀ := H
  env := envOfC qual scope s.heap.objs.size f cd
  outer := outer
  stack := envOfC qual scope s.heap.objs.size f cd :: outer
  ex := []
  calm := true
  fn := fun _ => true
  pn := []
  xe := fun e s' => wpAny (model P w) (A.deeper (envOfC qual scope s.heap.objs.size f cd)) (leaving (envOfC qual scope s.heap.objs.size f cd) e) (fun _ s'' => CX outer H s E e s'') (fun e' s'' => CX outer H s E e' s'') s'

theorem cell_has {sc : Scope} {n : Nat} {x : Str} (h : sc.names.lookup x = some .cell) : ∃ c, (cellsFrom n sc.names []).lookup x = some c := by
  have q := PySem.W.cellsFrom_some sc.names n [] (.inl h)
  exact Option.isSome_iff_exists.mp q

theorem inv_start {CX : CXT} {P : Program} {w : World} {K : PySem.W.Frag} {mg : Str → Option Value} {base : Heap} {N ps : List Str} {qual : Str} {scope : Scope} {f : Addr} {cd : Value} {A : Around} {outer : List Env} {s s1 : Shared} {H : Hp} {E : XK} {us : List Value} {vs : List V}
    (S : FnScope N ps scope) (hd : A.handled = none) (e0 : Env0 P w K mg base A outer s H) (hl : vs.length = ps.length) (r : Vals vs us)
    (x : InCallC s s.heap.objs.size (bindL (envOfC qual scope s.heap.objs.size f cd).kindOf (ps.zip us) fun _ => none) (cellsFrom (s.heap.objs.size + 1) scope.names []) (bindC (envOfC qual scope s.heap.objs.size f cd).kindOf (ps.zip us) fun _ => none) s1) :
    Inv (cxOf CX P w K mg base N qual scope f cd A outer s H E) [] (start N vs) H s1 := by
  have hpl : ps.length ≤ N.length := by have := congrArg List.length S.pre; rw [List.length_take] at this; omega
  obtain ⟨h1, tk, rfl, hk⟩ := x.done
  have noA : ∀ b : Addr, b ∉ (cxOf CX P w K mg base N qual scope f cd A outer s H E).ex := fun b z => absurd (show b ∈ ([] : List Addr) from z) (by simp)
  refine ⟨⟨e0.mod, S.kind, rfl, rfl, Nat.le_refl _, fun y z c h1 h2 => ?_, fun y hy => ?_, fun y c _ h => ?_, fun _ => hd, Around.frames_deeper e0.frames, .inr ⟨rfl, rfl⟩, fun b z => absurd z (noA b), e0.bs, e0.bsz, fun b _ _ => noA b, fun b z => absurd z (noA b), e0.funs, e0.frf⟩,
    rfl, e0.bare, Un.kept hk, ⟨_, x.toInCall.ns, fun i y v h1 h2 h3 => ?_⟩, fun y c h => ⟨_, x.cell y c h⟩, e0.hok.fresh (Nat.le_refl _), fun y c h => ?_, fun p hp => absurd (show p ∈ ([] : List (Addr × Obj)) from hp) (by simp), e0.hok.kept hk, ?_⟩
  · exact name_of_addr x.apart (PySem.mem_of_lookup h1) (PySem.mem_of_lookup h2)
  · have hy : scope.names.lookup y = some .cell ∨ scope.names.lookup y = some .free := hy
    rcases hy with hy | hy
    · exact cell_has hy
    · exact absurd rfl (S.nofree _ (PySem.mem_of_lookup hy))
  · exact Nat.le_of_lt (x.above y c (PySem.mem_of_lookup h))
  · have hi : i < vs.length := by
      unfold start at h2
      by_cases hi : i < vs.length
      · exact hi
      · rw [List.getElem?_append_right (by simpa using hi)] at h2
        rw [List.getElem?_replicate] at h2
        split at h2 <;> cases h2
    have ha : vs[i]? = some v := by
      unfold start at h2
      rw [List.getElem?_append_left (by simpa using hi), List.getElem?_map] at h2
      cases e : vs[i]? with
      | none => rw [e] at h2; cases h2
      | some a => rw [e] at h2; cases h2; rfl
    obtain ⟨u, hu, rv⟩ := r.get ha
    have hp : ps[i]? = some y := by
      rw [← S.pre, List.getElem?_take_of_lt (by omega)]; exact h1
    have ndP : ps.Nodup := by rw [← S.pre]; exact S.nd.sublist (List.take_sublist _ _)
    refine ⟨u, rv, ?_⟩
    rcases S.par y (List.mem_of_getElem? hp) with k | k
    · exact .inl ⟨k, bindL_get ndP hp hu k⟩
    · obtain ⟨c, e⟩ := cell_has (n := s.heap.objs.size + 1) k
      refine .inr ⟨.inl k, c, e, ?_⟩
      have q := x.cell y c e
      rw [bindC_get ndP hp hu (by show scope.names.lookup y ≠ _; rw [k]; decide)] at q
      exact q
  · exact e0.hok.fresh (Nat.le_of_lt (x.above y c (PySem.mem_of_lookup h)))
  · unfold start
    show _ = N.length
    rw [List.length_append, List.length_map, List.length_replicate]
    omega

/-- THE RULE: a def (or a method) of the text, by its body. The body's reading t is chosen for each entry; it is run at the parameters' values -/
theorem fn_of {CX : CXT} {P : Program} {w : World} {K : PySem.W.Frag} {mg : Str → Option Value} {base : Heap} {k : Nat} {f : Addr} {name qual : Str} {params : Arguments} {body : List Stmt} {scope : Scope} {dV kV doc pm cdv ct oc : Value} {an od : Option Addr}
    {osl : Array (Option Value)} {N ps : List Str} {sp : Sp} (lk : K.lookup f = some ⟨oc, od, .func (PySem.W.fnOf name qual params body scope dV kV doc pm an cdv ct), osl⟩) (hcd : PySem.W.codeIn K cdv qual = true) (S : FnScope N ps scope)
    (len : ∀ vs H Q E, sp vs H Q E → vs.length = ps.length)
    (hbody : ∀ (A : Around) (outer : List Env) (s : Shared) (H : Hp) (vs : List V) (Q : VK) (E : XK), Room k (A.deeper (envOfC qual scope s.heap.objs.size f cdv)) → sp vs H Q E →
      ∃ t, PSs (cxOf CX P w K mg base N qual scope f cdv A outer s H E) body t ∧ t { nx := fun _ H' => Q .non H', rt := Q } (start N vs) H) :
    FnOk P w K mg base CX (k + 1) f (PySem.W.fnOf name qual params body scope dV kV doc pm an cdv ct) ps sp := by
  refine ⟨len, fun A outer s H args us vs Q E hr e0 hb r hsp => ?_⟩
  have hl := len _ _ _ _ hsp
  have KX : K.In s.heap := e0.mod.kin.keeps fun b o e => (e0.bs b o e).1
  have lim : s.heap.NoLimit := e0.mod.nolimit.keeps fun b o e => (e0.bs b o e).1
  have hkind : ∀ y ∈ ps.zip us, scope.names.lookup y.1 = some .local ∨ (scope.names.lookup y.1 = some .cell ∧ ((cellsFrom (s.heap.objs.size + 1) scope.names []).lookup y.1).isSome = true) := fun ⟨n, v⟩ hy => by
    rcases S.par n (List.of_mem_zip hy).1 with q | q
    · exact .inl q
    · exact .inr ⟨q, PySem.W.cellsFrom_some _ _ _ (.inl q)⟩
  refine codeAny_call_function hr.depth (KX _ _ lk) rfl S.co S.gen rfl (PySem.W.codeRec_of KX hcd) (hb _ _ _ _ ?_)
  refine wpAny_newFunctionEnv_cells S.kind hkind fun env he s1 x => ?_
  subst he
  refine ⟨lim.keeps x.toInCall.keep, codeAny_func ?_⟩
  obtain ⟨t, ht, hq⟩ := hbody A outer s H vs Q E (hr.deeper _) hsp
  have I : Inv (cxOf CX P w K mg base N qual scope f cdv A outer s H E) [] (start N vs) H s1 := inv_start S hr.hd e0 hl r x
  refine wpAny_mono (ht [] s1 (start N vs) H _ I hq) (fun fl s' hs => ?_) fun e s' hs => hs
  have fin : ∀ {σ' : St} {H' : Hp} {v : V} {u : Value}, Inv (cxOf CX P w K mg base N qual scope f cdv A outer s H E) [] σ' H' s' → RelV v u → Q v H' → CE outer P w H s Q u s' :=
    fun {σ' H' v u} J rv q => ⟨v, H', J.os, J.bare, J.base, J.hok, rv, q⟩
  cases fl with
  | ret u =>
    obtain ⟨v, σ', H', J, rv, q⟩ := hs
    exact fin J rv q
  | next =>
    obtain ⟨σ', H', J, q⟩ := hs
    exact fin (v := V.non) (u := Value.none) J rfl q
  | brk =>
    obtain ⟨_, _, _, q⟩ := hs
    exact False.elim q
  | cont =>
    obtain ⟨_, _, _, q⟩ := hs
    exact False.elim q
end L2

namespace L2
open PySem PySem.Spec PyProof.Rows
section
variable {X : Cx} {x : Str} {p pos : Pos} {e : Expr} {es : List Expr} {t : TA} {id T : String} {r : List V → Hp → VK → Prop}

def tCB (r : List V → Hp → VK → Prop) (t : TA) : TE := fun σ H Q => t σ H fun vs H1 => r vs H1 Q
/-- f(e, ..), f a built-in function -/
theorem pe_callB (hc : CallR X (.builtin id) r) (hg : Gl X x) (hm : X.mg x = none) (hv : bootBuiltins x = some (.builtin id)) (ha : PA X (e :: es) t) (hn : x ≠ "__name__" := by decide) (hdb : (x == ("__debug__" : Str)) = false := by decide)
    (he : starEach (e :: es) X.env = (false, eval e X.env) :: starEach es X.env := by rfl) (hpl : (backTo pos (starEach es X.env)).any (·.1) = false := by rfl) : PE X (.Call (.Name x p) (e :: es) [] pos) (tCB r t) := by
  intro pins s σ H Q I h
  refine wpAny_Call_Name_kw (ld_blt I hg hm hv ?_ hn hdb)
  exact PyProof.Rows.callWith_builtin1 (thn (ha pos pins s σ H _ I h) fun us s1 ⟨vs, H1, I1, r1, q1⟩ => hc pins s1 σ H1 vs us Q I1 r1 q1) he hpl
/-- T(e, ..), T a built-in type -/
theorem pe_callTy (hc : CallR X (.type T) r) (hg : Gl X x) (hm : X.mg x = none) (hv : bootBuiltins x = some (.type T)) (ha : PA X (e :: es) t) (hn : x ≠ "__name__" := by decide) (hdb : (x == ("__debug__" : Str)) = false := by decide)
    (he : starEach (e :: es) X.env = (false, eval e X.env) :: starEach es X.env := by rfl) (hpl : (backTo pos (starEach es X.env)).any (·.1) = false := by rfl) : PE X (.Call (.Name x p) (e :: es) [] pos) (tCB r t) := by
  intro pins s σ H Q I h
  refine wpAny_Call_Name_kw (ld_blt I hg hm hv ?_ hn hdb)
  exact PyProof.Rows.callWith_type1 (thn (ha pos pins s σ H _ I h) fun us s1 ⟨vs, H1, I1, r1, q1⟩ => hc pins s1 σ H1 vs us Q I1 r1 q1) he hpl
end
end L2

namespace HT
open PySem PyProof.Rows

section
open PySem.SeqAt
open PySem.AutoSeq1 (wpAny_loadPart')
open PySem.MeetsSeq PySem.MeetsSeq2 PySem.MeetsSeq3

end

section
variable {prog : Program} {w : World} {A : Around} {E : Value → Shared → Prop} {s : Shared}

/-! ### t[a:b], not the whole -/
/-- a slice's bound as a place among n (d where it is left out) -/
def sIx (n d : Nat) : Option Int → Nat
  | none => d
  | some v => if v < 0 then (v + (n : Int)).toNat else min v.toNat n
theorem sIx_nat (n d k : Nat) : sIx n d (some (k : Int)) = min k n := by
  show (if (k : Int) < 0 then ((k : Int) + (n : Int)).toNat else min (k : Int).toNat n) = min k n
  rw [if_neg (by omega), Int.toNat_natCast]
end
end HT

namespace L2
open PySem PySem.Spec PyProof.Rows

/-! ### the parts of a slice -/
abbrev TO := St → Hp → (Option Int → Hp → Prop) → Prop
/-- a slice's part (left out, or an int) -/
def PO (X : Cx) (e : Option Expr) (t : TO) : Prop :=
  ∀ (pins : List (Addr × Obj)) (s : Shared) (σ : St) (H : Hp) (Q : Option Int → Hp → Prop), Inv X pins σ H s → t σ H Q →
    wpAny (model X.prog X.w) X.A (evalPart e X.env) (fun u s' => ∃ o H', Inv X pins σ H' s' ∧ IsPart u o ∧ Q o H') X.xe s
def tNoPart : TO := fun _ H Q => Q none H
def tPart (t : TE) : TO := fun σ H Q => t σ H fun x H1 => ∃ i, x = .int i ∧ Q (some i) H1

section
variable {X : Cx} {e : Expr} {te : TE} {lo hi : Option Expr} {tl th : TO} {pos p2 : Pos}

theorem po_none : PO X none tNoPart := by
  intro pins s σ H Q I h
  rw [evalPart_none]
  exact wpAny_pure ⟨none, H, I, .none, h⟩
theorem po_some (h : PE X e te) : PO X (some e) (tPart te) := by
  intro pins s σ H Q I hw
  rw [evalPart_some]
  refine thn (h pins s σ H _ I hw) fun u s1 ⟨x, H1, I1, r1, q1⟩ => ?_
  obtain ⟨i, rfl, q⟩ := q1
  obtain ⟨t, rfl⟩ := r1
  exact ⟨some i, H1, I1, .int i t, q⟩

/-- what a slice of a value is, by values: the slice object stands at sl -/
def SlR (X : Cx) (r : V → Option Int → Option Int → Hp → VK → Prop) : Prop :=
  ∀ (pins : List (Addr × Obj)) (s : Shared) (σ : St) (H : Hp) (x : V) (v vl vu : Value) (lo hi : Option Int) (sl : Addr) (Q : VK), Inv X pins σ H s → RelV x v → s.heap.IsSliceOf sl vl vu .none → IsPart vl lo → IsPart vu hi → r x lo hi H Q →
    ∃ T id, typeLookup (.type T) "__getitem__" = pure (some (.builtin id)) ∧ s.TypeIs v T ∧ wpAny (model X.prog X.w) X.A (getItem v (.ref sl)) (EP X pins σ Q) X.xe s
theorem SlR.or {r r' : V → Option Int → Option Int → Hp → VK → Prop} (h : SlR X r) (h' : SlR X r') : SlR X (fun x lo hi H Q => r x lo hi H Q ∨ r' x lo hi H Q) := by
  intro pins s σ H x v vl vu lo hi sl Q I rx hs pl pu q
  rcases q with q | q
  · exact h pins s σ H x v vl vu lo hi sl Q I rx hs pl pu q
  · exact h' pins s σ H x v vl vu lo hi sl Q I rx hs pl pu q
def tSl (r : V → Option Int → Option Int → Hp → VK → Prop) (te : TE) (tl th : TO) : TE := fun σ H Q => te σ H fun x H1 => tl σ H1 fun l H2 => th σ H2 fun u H3 => r x l u H3 Q
/-- a[lo:hi], any a -/
theorem pe_slice {r : V → Option Int → Option Int → Hp → VK → Prop} (hr : SlR X r) (he : PE X e te) (hl : PO X lo tl) (hu : PO X hi th) : PE X (.Subscript e (.Slice lo hi none p2) pos) (tSl r te tl th) := by
  intro pins s σ H Q I h
  refine Subscript_ (thn (he pins s σ H _ I h) fun v s1 ⟨x, H1, I1, r1, q1⟩ => ?_)
  refine wpAny_Slice (thn (hl pins s1 σ H1 _ I1 q1) fun vl s2 ⟨l, H2, I2, pl, q2⟩ => thn (hu pins s2 σ H2 _ I2 q2) fun vu s3 ⟨u, H3, I3, pu, q3⟩ => ?_)
  rw [evalPart_none]
  refine wpAny_pure ?_
  have I4 : Inv X pins σ H3 { s3 with heap := s3.heap.push { cls := .type "slice", data := .fields #[vl, vu, .none] } } := I3.kept (t' := s3.toks) fun b ob q => Heap.get?_push_of_some _ q
  obtain ⟨T, id, hT, ht, hg⟩ := hr pins { s3 with heap := s3.heap.push { cls := .type "slice", data := .fields #[vl, vu, .none] } } σ H3 x v vl vu l u s3.heap.objs.size Q I4 r1 (Heap.IsSliceOf.new ..) pl pu q3
  show wpAny (model X.prog X.w) X.A (subscriptTail e (.Slice lo hi none p2) v (.ref s3.heap.objs.size)) (EP X pins σ Q) X.xe { s3 with heap := s3.heap.push { cls := .type "slice", data := .fields #[vl, vu, .none] } }
  exact tail_any (ops := [.ref s3.heap.objs.size, v]) ht hT hg (by with_unfolding_all rfl)

/-- the items of xs[lo:hi] -/
def cutV (xs : List V) (lo hi : Option Int) : List V := (xs.drop (HT.sIx xs.length 0 lo)).take (HT.sIx xs.length xs.length hi - HT.sIx xs.length 0 lo)
theorem cutV_length (xs : List V) (lo hi : Option Int) : (cutV xs lo hi).length ≤ xs.length := by
  unfold cutV
  rw [List.length_take, List.length_drop]
  omega
/-! ### t < u, t + u -/
end
end L2

namespace L2
open PySem PySem.Spec PyProof.Rows

/-! ### places -/
/-- the place that an index of any sign means -/
def ixN (n : Nat) (i : Int) : Option Nat := if 0 ≤ i then (if i < n then some i.toNat else none) else if -(n : Int) ≤ i then some (i + n).toNat else none
def atI {α : Type} (xs : List α) (i : Int) : Option α := (ixN xs.length i).bind fun j => xs[j]?
theorem ixN_seq {n : Nat} {i : Int} {j : Nat} (h : ixN n i = some j) : seqIndex? i n = some j ∧ j < n ∧ -(n : Int) ≤ i ∧ i < n := by
  unfold ixN at h
  by_cases h0 : 0 ≤ i
  · rw [if_pos h0] at h
    by_cases h1 : i < n
    · rw [if_pos h1] at h
      have e : i.toNat = j := Option.some.inj h
      exact ⟨by rw [seqIndex_of h0 h1, e], by omega, by omega, h1⟩
    · rw [if_neg h1] at h; cases h
  · rw [if_neg h0] at h
    by_cases h1 : -(n : Int) ≤ i
    · rw [if_pos h1] at h
      have e : (i + n).toNat = j := Option.some.inj h
      exact ⟨by rw [seqIndex_neg (by omega) h1, e], by omega, h1, by omega⟩
    · rw [if_neg h1] at h; cases h
theorem atI_get {α : Type} {xs : List α} {i : Int} {v : α} (h : atI xs i = some v) : ∃ j, seqIndex? i xs.length = some j ∧ xs[j]? = some v ∧ j < xs.length ∧ -(xs.length : Int) ≤ i ∧ i < xs.length := by
  unfold atI at h
  cases e : ixN xs.length i with
  | none => rw [e] at h; cases h
  | some j =>
    rw [e] at h
    obtain ⟨h1, h2, h3, h4⟩ := ixN_seq e
    exact ⟨j, h1, h, h2, h3, h4⟩
theorem atI_nat {α : Type} {xs : List α} {j : Nat} {v : α} (h : xs[j]? = some v) : atI xs (j : Int) = some v := by
  have hj : j < xs.length := (List.getElem?_eq_some_iff.mp h).1
  have e : ixN xs.length (j : Int) = some j := by
    unfold ixN
    rw [if_pos (by omega), if_pos (by omega)]; simp
  unfold atI; rw [e]; exact h
/-! ### what may be subscripted -/
/-- what stands as an index of a plain subscript -/
def PlainIx (b : Expr) : Prop := ∀ o i, subscripted b false o i = operate [o, i] (getItem o i)
/-- a subscript by values -/
def IxR (X : Cx) (r : R2) : Prop :=
  ∀ (value slice : Expr) (pins : List (Addr × Obj)) (s : Shared) (σ : St) (H : Hp) (x y : V) (v u : Value) (Q : VK), Inv X pins σ H s → RelV x v → RelV y u → r x y H Q →
    subscripted slice false v u = operate [v, u] (getItem v u) → wpAny (model X.prog X.w) X.A (subscriptTail value slice v u) (EP X pins σ Q) X.xe s
/-- a call of a builtin's method by values: the receiver, the arguments -/
def MtR (X : Cx) (id : String) (r : V → List V → Hp → VK → Prop) : Prop :=
  ∀ (pins : List (Addr × Obj)) (s : Shared) (σ : St) (H : Hp) (x : V) (xs : List V) (v : Value) (us : List Value) (Q : VK), Inv X pins σ H s → RelV x v → Vals xs us → r x xs H Q →
    wpAny (model X.prog X.w) X.A (call (.builtin id) (v :: us)) (EP X pins σ Q) X.xe s
section
variable {X : Cx} {a b : Expr} {ta tb : TE} {pos : Pos}
theorem IxR.or {r r' : R2} (h : IxR X r) (h' : IxR X r') : IxR X (fun x y H Q => r x y H Q ∨ r' x y H Q) := by
  intro value slice pins s σ H x y v u Q I rx ry q hs
  rcases q with q | q
  · exact h value slice pins s σ H x y v u Q I rx ry q hs
  · exact h' value slice pins s σ H x y v u Q I rx ry q hs
theorem MtR.or {id : String} {r r' : V → List V → Hp → VK → Prop} (h : MtR X id r) (h' : MtR X id r') : MtR X id (fun x xs H Q => r x xs H Q ∨ r' x xs H Q) := by
  intro pins s σ H x xs v us Q I rx rs q
  rcases q with q | q
  · exact h pins s σ H x xs v us Q I rx rs q
  · exact h' pins s σ H x xs v us Q I rx rs q
/-- a[b] -/
theorem pe_ix {r : R2} (hr : IxR X r) (ha : PE X a ta) (hb : PE X b tb) (hs : PlainIx b) : PE X (.Subscript a b pos) (tOp r ta tb) := by
  intro pins s σ H Q I h
  exact Subscript_ (binT ha hb I h fun v u s2 x y H2 I2 rx ry q => hr a b pins s2 σ H2 x y v u Q I2 rx ry q (hs _ _))

def rIxL (K : PySem.W.Frag) : R2 := fun x y H Q => ∃ p xs i v, x = .ref p ∧ y = .int i ∧ SqL K H p xs ∧ atI xs i = some v ∧ Q v H
def rIxT (K : PySem.W.Frag) : R2 := fun x y H Q => ∃ p xs i v, x = .ref p ∧ y = .int i ∧ SqT K H p xs ∧ atI xs i = some v ∧ Q v H
def rIxS : R2 := fun x y H Q => ∃ z i c, x = .str z ∧ y = .int i ∧ z.length ≤ sizeLine ∧ atI z.cps.toList i = some c ∧ Q (.str ⟨#[c]⟩) H
theorem ix_list : IxR X (rIxL X.K) := by
  intro value slice pins s σ H x y v u Q I rx ry h hs
  obtain ⟨p, xs, i, z, rfl, rfl, hq, he, q⟩ := h
  cases rx
  obtain ⟨t, rfl⟩ := ry
  obtain ⟨its, r, pl, hz⟩ := I.list hq
  obtain ⟨j, h1, h2, h3, h4, h5⟩ := atI_get he
  obtain ⟨w, ew, rw'⟩ := r.get h2
  have hl := r.length
  have hn := line63
  have fin : EP X pins σ Q w s := ⟨z, H, I, rw', q⟩
  by_cases h0 : 0 ≤ i
  · have hj : i.toNat = j := by
      rw [seqIndex_of h0 h5] at h1
      exact Option.some.inj h1
    exact item_listR pl.isList h0 (by omega) (by rw [hj]; simpa using ew) fin hs
  · have hj : (i + (its.toArray.size : Int)).toNat = j := by
      rw [seqIndex_neg (by omega) h4] at h1
      rw [List.size_toArray, ← hl]
      exact Option.some.inj h1
    exact subscriptTail_builtinR (x := w) pl.isList.typeIs slot_list_getitem.lookup
      (wpAny_getItem_list_neg (Q := fun r s' => r = w ∧ EP X pins σ Q r s') pl.isList (by omega) (by rw [List.size_toArray] <;> omega) (by omega) (by rw [hj]; simpa using ew) ⟨rfl, fin⟩) hs
theorem ix_tup : IxR X (rIxT X.K) := by
  intro value slice pins s σ H x y v u Q I rx ry h hs
  obtain ⟨p, xs, i, z, rfl, rfl, hq, he, q⟩ := h
  cases rx
  obtain ⟨t, rfl⟩ := ry
  obtain ⟨its, r, pl, hz⟩ := I.tuple hq
  obtain ⟨j, h1, h2, h3, h4, h5⟩ := atI_get he
  obtain ⟨w, ew, rw'⟩ := r.get h2
  have hl := r.length
  have hn := line63
  have fin : EP X pins σ Q w s := ⟨z, H, I, rw', q⟩
  exact subscriptTail_builtinR (x := w) pl.typeIs slot_tuple_getitem.lookup
    (getItem_tuple (j := j) (Q := fun r s' => r = w ∧ EP X pins σ Q r s') pl (by omega) (by omega) (by rw [List.size_toArray, ← hl]; exact h1) (by simpa using ew) ⟨rfl, fin⟩) hs
theorem ix_str : IxR X rIxS := by
  intro value slice pins s σ H x y v u Q I rx ry h hs
  obtain ⟨z, i, c, rfl, rfl, hz, he, q⟩ := h
  obtain ⟨t, rfl⟩ := rx
  obtain ⟨t', rfl⟩ := ry
  obtain ⟨j, h1, h2, h3, h4, h5⟩ := atI_get he
  have hl : z.cps.toList.length = z.length := by simp [Str.length]
  rw [hl] at h1 h4 h5
  have hn := line63
  exact tail_any (typeIs_str s z t) slot_str_getitem.lookup (getItem_str (c := c) (by
    have e1 : decide (i < -(2 ^ 63 : Int)) = false := decide_eq_false (by omega)
    have e2 : decide (i ≥ 2 ^ 63) = false := decide_eq_false (by omega)
    rw [e1, e2, Bool.or_false]) (by rw [h1]; simpa using h2) ⟨.str ⟨#[c]⟩, H, I.tok _, ⟨_, rfl⟩, q⟩) hs
/-! ### xs[i] = v, any sign -/
theorem Inv.lst {pins : List (Addr × Obj)} {σ : St} {H : Hp} {s : Shared} {p : Addr} {xs : List V} (I : Inv X pins σ H s) (h : H p = some (.lst xs)) :
    ∃ (its : List Value) (n : Nat), Vals xs its ∧ s.heap.get? p = some { cls := .type "list", data := .seq its.toArray n } ∧ xs.length ≤ sizeLine := by
  obtain ⟨z, its, n, r, e⟩ := I.hok p _ h
  exact ⟨its, n, r, e, z⟩
/-! ### slices -/
theorem slice_bounds (lo hi : Option Int) (n : Nat) : (sliceBounds lo hi none n).1 = ((HT.sIx n 0 lo : Nat) : Int) ∧ (sliceBounds lo hi none n).2.1 = ((HT.sIx n n hi : Nat) : Int) ∧ (sliceBounds lo hi none n).2.2 = 1 := by
  refine ⟨?_, ?_, rfl⟩
  · cases lo with
    | none => simp [sliceBounds, HT.sIx]
    | some i =>
      simp only [sliceBounds, HT.sIx, Option.getD_none, show (1 : Int) > 0 by decide, if_true]
      by_cases h : i < 0
      · simp only [h, if_true] <;> omega
      · simp only [h, if_false] <;> omega
  · cases hi with
    | none => simp [sliceBounds, HT.sIx]
    | some i =>
      simp only [sliceBounds, HT.sIx, Option.getD_none, show (1 : Int) > 0 by decide, if_true]
      by_cases h : i < 0
      · simp only [h, if_true] <;> omega
      · simp only [h, if_false] <;> omega
theorem slicePick_cut (its : List Value) (lo hi : Option Int) : slicePick its.toArray lo hi none = ((its.drop (HT.sIx its.length 0 lo)).take (HT.sIx its.length its.length hi - HT.sIx its.length 0 lo)).toArray := by
  obtain ⟨h1, h2, h3⟩ := slice_bounds lo hi its.toArray.size
  unfold slicePick
  rw [h1, h2, h3]
  simp only [sliceRange_one, pick_run, List.size_toArray] <;> rfl
/-- xs[lo:hi] of a list: a new list -/
def rSlL (K : PySem.W.Frag) : V → Option Int → Option Int → Hp → VK → Prop := fun x lo hi H Q => ∃ a xs, x = .ref a ∧ SqL K H a xs ∧ ∀ p, H p = none → Q (.ref p) (upd H p (.lst (cutV xs lo hi)))
theorem sl_list : SlR X (rSlL X.K) := by
  intro pins s σ H x v vl vu lo hi sl Q I rx hs pl pu h
  obtain ⟨a, xs, rfl, hx, q⟩ := h
  cases rx
  obtain ⟨its, r, ht, hz⟩ := I.list hx
  have hlen := r.length
  refine ⟨"list", _, slot_list_getitem.lookup, ht.isList.typeIs, ?_⟩
  refine wpAny_getItem_list_slice ht.isList hs pl pu .none (by simp) ?_ (by rw [List.size_toArray] <;> omega)
  rw [slicePick_cut, ← hlen]
  refine ⟨.ref s.heap.objs.size, _, I.laid (t' := s.toks) (o := .lst (cutV xs lo hi)) (fun b ob q => Heap.get?_push_of_some _ q) (Nat.le_refl _) ?_, rfl, q _ (I.hok.fresh (Nat.le_refl _))⟩
  exact ⟨Nat.le_trans (cutV_length xs lo hi) hz, _, 0, (r.drop (HT.sIx xs.length 0 lo)).take (HT.sIx xs.length xs.length hi - HT.sIx xs.length 0 lo), Heap.get?_push_size _ rfl⟩

/-! ### in, not in: flat items -/
/-! ### len, list(x), tuple(x) of any list or tuple that is read -/
theorem call_len_seq : CallR X (.builtin "len") (fun xs H Q => ∃ p ys, xs = [.ref p] ∧ (SqL X.K H p ys ∨ SqT X.K H p ys) ∧ Q (.int ys.length) H) := by
  intro pins s σ H xs us Q I r h
  obtain ⟨p, ys, rfl, hq, q⟩ := h
  obtain ⟨u, rfl, rx⟩ := vals1 r
  cases rx
  have hn := line63
  rcases hq with hq | hq
  · obtain ⟨its, r', pl, hz⟩ := I.list hq
    have hlen := r'.length
    exact Calls.call_len_list pl.isList (by simp only [List.size_toArray] <;> omega) ⟨.int ys.length, H, I.tok _, ⟨s.toks + 1, by rw [List.size_toArray, hlen]⟩, q⟩
  · obtain ⟨its, r', pl, hz⟩ := I.tuple hq
    have hlen := r'.length
    exact len_tuple pl (by simp only [List.size_toArray] <;> omega) ⟨.int ys.length, H, I.tok _, ⟨s.toks + 1, by rw [List.size_toArray, hlen]⟩, q⟩
theorem CallR.or {f : Value} {r r' : List V → Hp → VK → Prop} (h : CallR X f r) (h' : CallR X f r') : CallR X f (fun xs H Q => r xs H Q ∨ r' xs H Q) := by
  intro pins s σ H xs us Q I rs q
  rcases q with q | q
  · exact h pins s σ H xs us Q I rs q
  · exact h' pins s σ H xs us Q I rs q
theorem call_list_of : CallR X (.type "list") (fun xs H Q => ∃ p ys, xs = [.ref p] ∧ (SqL X.K H p ys ∨ SqT X.K H p ys) ∧ ∀ l, H l = none → Q (.ref l) (upd H l (.lst ys))) := by
  intro pins s σ H xs us Q I r h
  obtain ⟨p, ys, rfl, hq, q⟩ := h
  obtain ⟨u, rfl, rx⟩ := vals1 r
  cases rx
  have fin : ∀ (its : List Value), Vals ys its → ys.length ≤ sizeLine → ∀ (h' : Heap) (c' : Nat), (∀ b o', s.heap.get? b = some o' → h'.get? b = some o') →
      h'.get? s.heap.objs.size = some { cls := .type "list", dict := none, data := .seq its.toArray c', slots := #[] } → EP X pins σ Q (.ref s.heap.objs.size) { s with heap := h' } := fun its r' hz h' c' kp e =>
    ⟨.ref s.heap.objs.size, _, I.laid (t' := s.toks) kp (Nat.le_refl _) (show ObjOk X.prog X.w _ h' _ (.lst ys) from ⟨hz, its, c', r', e⟩), rfl, q _ (I.hok.fresh (Nat.le_refl _))⟩
  rcases hq with hq | hq
  · obtain ⟨its, r', pl, hz⟩ := I.list hq
    have hlen := r'.length
    obtain ⟨o, ho, hc, n, hd⟩ := pl.isList
    exact call_list_seq p (.inl rfl) ho hc hd (fun h' c' kp e => fin its r' hz h' c' kp e) (by simp only [List.size_toArray] <;> omega)
  · obtain ⟨its, r', pl, hz⟩ := I.tuple hq
    have hlen := r'.length
    obtain ⟨o, ho, hc, n, hd⟩ := pl
    exact call_list_seq p (.inr rfl) ho hc hd (fun h' c' kp e => fin its r' hz h' c' kp e) (by simp only [List.size_toArray] <;> omega)
theorem call_tuple_of : CallR X (.type "tuple") (fun xs H Q => ∃ p ys, xs = [.ref p] ∧ ((SqL X.K H p ys ∧ ∀ l, H l = none → Q (.ref l) (upd H l (.tup ys))) ∨ (SqT X.K H p ys ∧ Q (.ref p) H))) := by
  intro pins s σ H xs us Q I r h
  obtain ⟨p, ys, rfl, h⟩ := h
  obtain ⟨u, rfl, rx⟩ := vals1 r
  cases rx
  rcases h with ⟨hq, q⟩ | ⟨hq, q⟩
  · obtain ⟨its, r', pl, hz⟩ := I.list hq
    have hlen := r'.length
    refine call_tuple_list pl.isList (fun h' kp => ?_) (by simp only [List.size_toArray] <;> omega)
    have I1 : Inv X pins σ H { s with heap := h' } := I.kept (t' := s.toks) kp
    have I2 : Inv X pins σ (upd H h'.objs.size (.tup ys)) { s with heap := h'.push { cls := .type "tuple", data := .seq its.toArray } } :=
      I1.laid (t' := s.toks) (fun b o e => Heap.get?_push_of_some _ e) (Nat.le_refl _) (show ObjOk X.prog X.w _ _ _ (.tup ys) from ⟨hz, its, r', IsTup.new _ _⟩)
    exact ⟨.ref h'.objs.size, _, I2, rfl, q _ (I1.hok.fresh (Nat.le_refl _))⟩
  · obtain ⟨its, r', pl, hz⟩ := I.tuple hq
    exact call_tuple_same pl ⟨.ref p, H, I, rfl, q⟩

/-! ### the call of a builtin's method: o.m(..) -/
/-- the value is of that builtin type -/
def tyV (K : PySem.W.Frag) (T : String) (x : V) (H : Hp) : Prop := match x with
  | .str _ => T = "str"
  | .int _ => T = "int"
  | .ref p => (T = "list" ∧ ∃ xs, SqL K H p xs) ∨ (T = "tuple" ∧ ∃ o, K.lookup p = some o ∧ o.cls = .type "tuple" ∧ o.dict = none) ∨
      (T = "dict" ∧ ((∃ kvs, H p = some (.dK kvs)) ∨ ∃ kvs, H p = some (.dT kvs))) ∨ (T = "set" ∧ ∃ S n, H p = some (.set S n))
  | _ => False
theorem tyV_is {pins : List (Addr × Obj)} {σ : St} {H : Hp} {s : Shared} {T : String} {x : V} {v : Value} (I : Inv X pins σ H s) (r : RelV x v) (ty : tyV X.K T x H) :
    s.TypeIs v T ∧ ∀ a, v = .ref a → ∃ ob, s.heap.get? a = some ob ∧ ob.dict = none := by
  cases x with
  | str z =>
    obtain ⟨t, rfl⟩ := r
    cases (show T = "str" from ty)
    exact ⟨typeIs_str s z t, fun _ e => nomatch e⟩
  | int i =>
    obtain ⟨t, rfl⟩ := r
    cases (show T = "int" from ty)
    exact ⟨typeIs_int s i t, fun _ e => nomatch e⟩
  | ref p =>
    cases r
    rcases ty with ⟨rfl, xs, hq⟩ | ⟨rfl, o, hk, hc, hd⟩ | ⟨rfl, hk⟩ | ⟨rfl, S, n, hk⟩
    · obtain ⟨its, _, pl, _⟩ := I.list hq
      refine ⟨pl.isList.typeIs, fun a e => ?_⟩
      cases e
      obtain ⟨o, n, e, c, hd, _⟩ := pl
      exact ⟨o, e, hd⟩
    · refine ⟨⟨o, I.kIn p o hk, hc⟩, fun a e => ?_⟩
      cases e
      exact ⟨o, I.kIn _ o hk, hd⟩
    · have z : ∃ o, s.heap.get? p = some o ∧ o.ExactDict := by
        rcases hk with ⟨kvs, hk⟩ | ⟨kvs, hk⟩
        · obtain ⟨_, _, _, _, o, _, _, e, ex, _⟩ := I.hok p _ hk
          exact ⟨o, e, ex⟩
        · obtain ⟨_, _, _, _, o, _, _, e, ex, _⟩ := I.hok p _ hk
          exact ⟨o, e, ex⟩
      obtain ⟨o, e, ex⟩ := z
      refine ⟨⟨o, e, ex.1⟩, fun a e2 => ?_⟩
      cases e2
      exact ⟨o, e, ex.2.1⟩
    · obtain ⟨o, _, _, _, e, ex, _⟩ := I.hok p _ hk
      refine ⟨⟨o, e, ex.1⟩, fun a e2 => ?_⟩
      cases e2
      exact ⟨o, e, ex.2.1⟩
  | _ => exact False.elim ty
def tBM0 (K : PySem.W.Frag) (T : String) (r : V → List V → Hp → VK → Prop) (to : TE) : TE := fun σ H Q => to σ H fun x H1 => tyV K T x H1 ∧ r x [] H1 Q
def tBM (K : PySem.W.Frag) (T : String) (r : V → List V → Hp → VK → Prop) (to : TE) (t : TA) : TE := fun σ H Q => to σ H fun x H1 => tyV K T x H1 ∧ t σ H1 fun xs H2 => r x xs H2 Q
variable {o e : Expr} {es : List Expr} {to : TE} {t : TA} {name : Str} {apos cpos : Pos} {T id : String} {r : V → List V → Hp → VK → Prop}
theorem pe_bm0 (pa : PlainAttrs T) (slot : Slot T name id) (hty : typeOf (.builtin id) = pure (.type "method_descriptor")) (hm : MtR X id r) (ho : PE X o to)
    (hbase : attributeBase o name X.env (eval o X.env) = eval o X.env := by rfl) (hline : (apos.endLine == cpos.line) = true := by rfl) : PE X (.Call (.Attribute o name apos) [] [] cpos) (tBM0 X.K T r to) := by
  intro pins s σ H Q I h
  refine wpAny_Call_method0_late hbase hline (thn (ho pins s σ H _ I h) fun v s1 ⟨x, H1, I1, r1, ty, q1⟩ => ?_)
  obtain ⟨h1, h2⟩ := tyV_is I1 r1 ty
  exact ⟨T, id, pa, slot, hty, h1, h2, Calls.callWith_builtin rfl (PySem.evalArgs_none (hm pins s1 σ H1 x [] v [] Q I1 r1 .nil q1))⟩
theorem pe_bm (pa : PlainAttrs T) (slot : Slot T name id) (hty : typeOf (.builtin id) = pure (.type "method_descriptor")) (hm : MtR X id r) (ho : PE X o to) (ha : PA X (e :: es) t)
    (hbase : attributeBase o name X.env (eval o X.env) = eval o X.env := by rfl)
    (hfew : ((backTo cpos (starEach (e :: es) X.env)).all (fun x => !x.1) && (backToKw cpos (keywordEach [] X.env)).all (fun x => x.1.isSome)
      && decide ((e :: es).length + ([] : List Keyword).length + (if ([] : List Keyword).isEmpty then 0 else 1) < 30)) = true := by rfl)
    (hline : (apos.endLine == cpos.line) = true := by rfl) (hs : starEach (e :: es) X.env = (false, eval e X.env) :: starEach es X.env := by rfl) (hplain : (backTo cpos (starEach es X.env)).any (·.1) = false := by rfl) :
    PE X (.Call (.Attribute o name apos) (e :: es) [] cpos) (tBM X.K T r to t) := by
  intro pins s σ H Q I h
  refine wpAny_Call_method_late hbase hfew hline rfl (thn (ho pins s σ H _ I h) fun v s1 ⟨x, H1, I1, r1, ty, q1⟩ => ?_)
  obtain ⟨h1, h2⟩ := tyV_is I1 r1 ty
  refine ⟨T, id, pa, slot, hty, h1, h2, ?_⟩
  have hA := ha cpos pins s1 σ H1 _ I1 q1
  rw [hs] at hA ⊢
  refine Calls.callWith_builtin (by show (false || (backTo cpos (starEach es X.env)).any (·.1)) = false; rw [hplain] <;> rfl) (Calls.evalArgs_plain ?_)
  exact thn hA fun us s2 ⟨vs, H2, I2, r2, q2⟩ => hm pins s2 σ H2 x vs v us Q I2 r1 r2 q2
/- xs.append(e), list.index on a module's tuple .. are MtR facts of 06m -/
end
end L2

namespace L2
open PySem PySem.Spec PyProof.Rows

def MtM (X : Cx) (id : String) (r : V → List V → Hp → VK → Prop) : Prop :=
  ∀ (pins : List (Addr × Obj)) (s : Shared) (σ : St) (H : Hp) (x : V) (xs : List V) (v : Value) (us : List Value) (Q : VK), Inv X pins σ H s → RelV x v → Vals xs us → r x xs H Q →
    wpAny (model X.prog X.w) X.A (call (.builtin id) (v :: us)) (EP X pins σ Q) X.xe s

/-! ### lists of values -/
theorem Vals.one : ∀ {x : V} {us : List Value}, Vals [x] us → ∃ u, us = [u] ∧ RelV x u
  | _, _, .cons r .nil => ⟨_, rfl, r⟩
theorem Vals.two : ∀ {x y : V} {us : List Value}, Vals [x, y] us → ∃ u v, us = [u, v] ∧ RelV x u ∧ RelV y v
  | _, _, _, .cons r (.cons q .nil) => ⟨_, _, rfl, r, q⟩
theorem Vals.zero : ∀ {us : List Value}, Vals [] us → us = []
  | _, .nil => rfl
theorem Vals.dropLast {xs : List V} {us : List Value} (h : Vals xs us) : Vals xs.dropLast us.dropLast := by
  induction h with
  | nil => exact .nil
  | cons r t ih =>
    cases t with
    | nil => exact .nil
    | cons q t' => exact .cons r ih
section
variable {X : Cx} {pins : List (Addr × Obj)} {σ : St} {H : Hp} {s : Shared} {l b : Addr} {xs ys zs : List V}

/-! ### the two steps: a tracked list is rewritten, a new list is laid -/
theorem Inv.lset {its its' : List Value} {n : Nat} {f : Array Value → Array Value} {t' : Nat} (I : Inv X pins σ H s) (hH : H l = some (.lst xs))
    (e : s.heap.get? l = some { cls := .type "list", data := .seq its.toArray n }) (hf : f its.toArray = its'.toArray) (hv : Vals ys its') (hz : ys.length ≤ sizeLine) :
    Inv X pins σ (upd H l (.lst ys)) { s with heap := s.heap.update l (Obj.mapSeq f), toks := t' } := by
  have q := PySem.IsL.update e f
  rw [hf] at q
  refine I.write (x := l) (e := l) (by rw [hH]; exact trivial) (.inl rfl) (fun b' u hb hu => (Heap.get?_update_other s.heap (Obj.mapSeq f) (Ne.symm hb)).trans hu) ⟨_, q⟩ ?_
  exact ⟨hz, its', _, hv, q⟩
theorem Inv.fresh (I : Inv X pins σ H s) : H s.heap.objs.size = none := I.hok.fresh (Nat.le_refl _)
theorem Inv.lstM (I : Inv X pins σ H s) (hH : H l = some (.lst xs)) : xs.length ≤ sizeLine ∧ ∃ (its : List Value) (n : Nat), Vals xs its ∧ xs.length = its.length ∧ s.heap.get? l = some { cls := .type "list", data := .seq its.toArray n } := by
  obtain ⟨z, its, n, r, e⟩ := I.hok l _ hH
  exact ⟨z, its, n, r, r.length, e⟩

end

section
variable {X : Cx}

/-! ### methods -/
def rAppend : V → List V → Hp → VK → Prop := fun x vs H Q => ∃ l xs y, x = .ref l ∧ vs = [y] ∧ H l = some (.lst xs) ∧ xs.length < sizeLine ∧ Q .non (upd H l (.lst (xs ++ [y])))
theorem mt_append : MtM X "list.append" rAppend := by
  intro pins s σ H x vs v us Q I rx rv h
  obtain ⟨l, xs, y, rfl, rfl, hH, hz, q⟩ := h
  cases rx
  obtain ⟨u, rfl, ru⟩ := rv.one
  obtain ⟨z, its, n, r, hl, e⟩ := I.lstM hH
  refine call_meets F.slot_list_append ⟨_, e, rfl⟩ F.entry_list_append (F.args_list_append_2 _ _) (PySem.list_append l its.toArray n u (by rw [List.size_toArray]; omega)) ⟨e, ?_⟩
  refine ⟨.non, _, I.lset (its' := its ++ [u]) hH e (by simp) (r.append (.cons ru .nil)) ?_, rfl, q⟩
  rw [List.length_append, List.length_singleton]
  omega

/-! ### list + list, list += list, list * int -/
/-! ### del xs[i] -/
end

/-! ### xs[a:b] = ys -/
section
variable {prog : Program} {w : World} {A : Around} {E : Value → Shared → Prop} {s : Shared}
end

section
variable {X : Cx}
end
end L2

namespace Att
open PySem PySem.W PySem.Calls PyProof.Rows

/-! ### the script -/
theorem ints_of_wellAll {P : Params} {h : Heap} : ∀ (ns : List Int) (vs : List Value), WellAll P h vs (ns.map WData.int) → IntsAre vs ns := by
  intro ns
  induction ns with
  | nil =>
    intro vs w
    rw [List.map_nil] at w
    cases w
    exact .nil
  | cons n ns ih =>
    intro vs w
    rw [List.map_cons] at w
    cases w with
    | cons a b =>
      cases a
      exact .cons _ _ (ih _ b)

theorem script_of {l : OpenLaw} {n : Nat} (hn : l.most = some n) {P : Params} {h : Heap} {args : List WData} {vals : List Value}
    (hpre : l.row.toRowW.claim.pre args = true) (hwl : WellAll P h vals args) :
    ∃ a vs ns, vals = [Value.ref a] ∧ args = [WData.list (ns.map WData.int)] ∧ h.get? a = some { cls := .type "list", data := .seq vs.toArray } ∧ IntsAre vs ns ∧ ns.length ≤ n := by
  have hsh : WShape.hasAll [] args [.list .int] = true := (pre_splitW hpre).1
  have hc : l.pre.holds [] { args := args } = true := (pre_splitW hpre).2
  obtain ⟨d, r, rfl, h1, h2⟩ := hasAllW_cons hsh
  obtain rfl := hasAllW_nil h2
  obtain ⟨xs, rfl, h3⟩ := hasW_list h1
  obtain ⟨ns, rfl⟩ := items_int h3
  have hlen : ns.length ≤ n := by
    unfold OpenLaw.pre at hc
    have h4 : (WTm.not (.lt (.lit (.int (n : Int))) (.len (.arg 0)))).holds [] { args := [.list (ns.map .int)] } = true := by
      have h4 := (holds_andW hc).1
      rw [hn] at h4
      exact h4
    have h5 := condW_of h4 (w_not (w_lt w_lit (w_len_list (w_arg rfl))))
    rw [List.length_map] at h5
    refine Nat.le_of_not_lt fun q => ?_
    have q' : (n : Int) < ((ns.length : Nat) : Int) := by omega
    first
      | (rw [decide_eq_true q'] at h5; exact absurd h5 (by decide))
      | (simp at h5; omega)
  cases hwl with
  | cons w1 w2 =>
    cases w2
    cases w1 with
    | list ho hall => exact ⟨_, _, ns, rfl, rfl, ho, ints_of_wellAll ns _ hall, hlen⟩

theorem post_true (l : OpenLaw) (args : List WData) : l.row.toRowW.claim.post args (.bool true) args = true :=
  postW_of (r := l.row.toRowW) (X := (true == true))
    (show WShape.has [] (.bool true) .bool = true by first | rfl | decide | simp [WShape.has, WShape.arms, WShape.armsAll])
    (show (WTm.eq .res (.lit (.bool true))).value [] { args := args, res := some (.bool true), after := args } = some (.bool (true == true)) from w_eq_bool (w_res rfl) w_lit) rfl

/-! ### the attachment: holds_open's last premise (the goal 'hc' behind k_head) from a wpAny of the law's body -/
/-- the same from a codeAny of the CALL (for a layer whose function contracts speak of calls) -/
theorem attach_call {l : OpenLaw} {n : Nat} {q : Program} {loose : List Str} {XP : (Str → Option Value) → Heap → Prop} {YP : World → Heap → Prop} {d : DefRec}
    (hn : l.most = some n) (hdf : d.params.defaults = [])
    (call : ∀ (w : World) (s₀ s₁ : Shared) (mg mb : Str → Option Value) (fa : Addr) (o : Obj) (pm cd doc : Value) (a : Addr) (vs : List Value) (ns : List Int),
      Ground q loose [] XP w s₀ mg mb s₁.heap → YP w s₁.heap →
      s₁.heap.get? fa = some o → o.data = .func (docDef d.name d.params d.body d.scope pm cd doc) → s₁.heap.CodeRec cd d.name → mg d.name = some (.ref fa) →
      s₁.heap.get? a = some { cls := .type "list", data := .seq vs.toArray } → IntsAre vs ns → ns.length ≤ n → s₁.gens = #[] →
      codeAny (model l.prog w) callerA (.call (.ref fa) ⟨[.ref a], []⟩) (fun r s' => r = .ok (.ret (.bool true)) ∧ OldK s₁.heap s'.heap ∧ s'.os = s₁.os ∧ AllBare s'.gens) s₁) :
    WalkO q loose XP YP l.row.toRowW d [] (fun f vs => PySem.call f vs) := by
  intro w s₀ s₁ mg mb G Y fa o pm cd doc dV kV ho hd hcd hD hmg hg args vals as hpre hlay hrd hwl hlo
  obtain rfl : dV = .none := Dflts.none hD hdf
  obtain rfl : kV = .none := Dflts.noKw hD
  obtain ⟨a, vs, ns, rfl, rfl, hobj, hints, hlen⟩ := script_of hn hpre hwl
  refine enter_call (codeAny_mono (call w s₀ s₁ mg mb fa o pm cd doc a vs ns G Y ho (fd_plain hd) hcd hmg hobj hints hlen hg) fun r s' hq => ?_)
  obtain ⟨rfl, h2, h3, h4⟩ := hq
  exact ⟨.inl ⟨.bool true, .bool true, [], rfl, fun _ => rfl, .bool true, post_true l _, fun _ => ⟨List.Pairwise.nil, fun _ hm => (nomatch hm)⟩⟩, h2, h3, h4⟩

/-! ### rules over ANY heap (no ledger) from facts about the written part K: the library's own take a ledger (News) for what they write -/
section
variable {prog : Program} {w : World} {A : Around} {E : Value → Shared → Prop} {s : Shared} {K : Frag}

/-- C(..): dict at size, instance at size + 1, then __init__ -/
theorem make_obj {R : Result → Shared → Prop} {C fI : Addr} {rest : List Value} {kw : List (Str × Value)}
    (X : K.In s.heap) (hm : makesIn K C = true) (hi : findIn K (.ref C) "__init__" = some (some (.ref fI))) (hf : isFn K (.ref fI) = true)
    (h : codeAny (model prog w) (A.under (.builtin "type.__call__" ⟨.ref C :: rest, kw⟩)) (.call (.ref fI) ⟨.ref (s.heap.objs.size + 1) :: rest, kw⟩) (InitBack (s.heap.objs.size + 1) R)
      { s with heap := (s.heap.push emptyDict).push (instObj C s.heap.objs.size) }) : codeAny (model prog w) A (.call (.ref C) ⟨rest, kw⟩) R s := by
  obtain ⟨hh, g, d, t, os⟩ := s
  exact make_core (makes_of X hm) (looks_findIn X hi) (fun self => bind_fn X self (beq_iff_eq.mp hf)) (.inl rfl) h

/-- x.name where the instance's dict holds the name and the class does not -/
theorem get_field {x C : Addr} {ox : Obj} {es : List DictEntry} {n : Nat} {name : Str} {expr : Bool} {v : Value} {Q : Value → Shared → Prop}
    (X : K.In s.heap) (I : PySem.W.InstAt s.heap x ox C (some (dictOf es n))) (hg : plainGet K C name = true) (hh : hasDictIn K C = true) (ha : findIn K (.ref C) name = some none)
    (hl : getL name es = some (some v)) (hv : handedIn v = true) (h : Q v { s with toks := s.toks + 1 }) : wpAny (model prog w) A (getAttr (.ref x) name expr) Q E s :=
  get_value X I (plainGet_of hg).1 (findObj_own hh ha rfl hl) hv h

/-! the whole heap as the ledger: makes every rule that writes through a ledger a rule over any heap -/
def ledger (h : Heap) (L d : Addr) : List (Addr × Obj) := (List.range h.objs.size).filterMap fun a => if a = L ∨ a = d then none else (h.get? a).map fun o => (a, o)
end
end Att

namespace L2
open PySem PySem.Spec PyProof.Rows

theorem vals_ints : ∀ {vs : List Value} {ns : List Int}, IntsAre vs ns → Vals (ns.map V.int) vs
  | _, _, .nil => .nil
  | _, _, .cons n t h => .cons ⟨t, rfl⟩ (vals_ints h)

/-- nothing is tracked but the script, known to the object (or it is an object of the module) -/
def Only (H : Hp) : Prop := ∀ b, H b = none ∨ ∃ o xs, H b = some (.frz o (.lst xs))

/-- THE HEAD: the law's promise, at the heap behind the top. F, the promise of the law's def, may use that base is part of the heap (so K.In base, base.Ns mainGlobals mg stand in Mod) -/
theorem law_call {P : Program} {w : World} {K : PySem.W.Frag} {mg mb : Str → Option Value} {CX : CXT} {k : Nat} {fa a : Addr} {fd : FuncData} {x : Str} {sp : Sp} {s₁ : Shared} {vs : List Value} {ns : List Int}
    (KX : K.In s₁.heap) (hns : s₁.heap.Ns mainGlobals mg) (hb : s₁.heap.Ns builtinsNs mb) (hbb : ∀ x : Str, x ≠ "__name__" → mb x = bootBuiltins x) (hlim : s₁.heap.NoLimit) (hg : s₁.gens = #[])
    (ha : s₁.heap.get? a = some { cls := .type "list", data := .seq vs.toArray }) (hi : IntsAre vs ns) (hl : ns.length ≤ sizeLine) (hr : Room k callerA)
    (F : ∀ base : Heap, K.In base → base.Ns mainGlobals mg → FnOk P w K mg base CX k fa fd [x] sp) (hbind : ∀ (s : Shared) (u : Value), BindsTo s fd ⟨[u], []⟩ [(x, u)])
    (hsp : ∀ H : Hp, Only H → SqL K H a (ns.map V.int) → sp [.ref a] H (fun v _ => v = .bl true) fun _ _ _ => False)
    (hCX : ∀ H e s', CX [] H s₁ (fun _ _ _ => False) e s' → False) :
    codeAny (model P w) callerA (.call (.ref fa) ⟨[.ref a], []⟩) (fun r s' => r = .ok (.ret (.bool true)) ∧ OldK s₁.heap s'.heap ∧ s'.os = s₁.os ∧ AllBare s'.gens) s₁ := by
  have rv := vals_ints hi
  have lenV := hi.length
  -- from an abstract heap in which nothing but the script may be tracked
  have core : ∀ H : Hp, Only H → SqL K H a (ns.map V.int) → HOk P w H s₁.heap → (∀ b, H b ≠ none → b = a) → (H a ≠ none → K.lookup a = none) →
      codeAny (model P w) callerA (.call (.ref fa) ⟨[.ref a], []⟩) (fun r s' => r = .ok (.ret (.bool true)) ∧ OldK s₁.heap s'.heap ∧ s'.os = s₁.os ∧ AllBare s'.gens) s₁ := by
    intro H hO hS hok hA hK
    have base_of : ∀ {b : Addr} {o : Obj}, s₁.heap.get? b = some o → H b = none → (hidT s₁.heap H).get? b = some o := fun e n => hidT_get e n
    have noA : ∀ {b : Addr} {o : Obj} {es : Array DictEntry} {ep : Nat}, s₁.heap.get? b = some o → o.data = .dict es ep → H b = none := fun {b o es ep} e d => by
      cases q : H b with
      | none => rfl
      | some u =>
        have e' : b = a := hA b (by rw [q]; simp)
        subst e'
        rw [ha] at e; cases e
        have d' : Data.seq vs.toArray _ = Data.dict es ep := d
        cases d'
    have nsK : ∀ {b : Addr} {m : Str → Option Value}, s₁.heap.Ns b m → (hidT s₁.heap H).Ns b m := fun {b m} ⟨o, es, ep, e, d, r⟩ => ⟨o, es, ep, base_of e (noA e d), d, r⟩
    have hKb : K.In (hidT s₁.heap H) := fun b o e => base_of (KX b o e) (by
      cases q : H b with
      | none => rfl
      | some u =>
        have e' : b = a := hA b (by rw [q]; simp)
        subst e'
        rw [hK (by rw [q]; simp)] at e; cases e)
    have hM : Mod K mg (hidT s₁.heap H) := ⟨hKb, nsK hns, ⟨mb, nsK hb, hbb⟩, let ⟨mc, h1, h2⟩ := hlim; ⟨mc, nsK h1, h2⟩⟩
    have e0 : Env0 P w K mg (hidT s₁.heap H) callerA [] s₁ H := ⟨rfl, hM, fun b o e => of_hidT e, Nat.le_of_eq (hidT_size _ _), trivial, fun b hb => absurd (show b ∈ ([] : List Addr) from hb) (by simp), hok, .of_eq hg⟩
    refine codeAny_mono ((F _ hKb (nsK hns)).run callerA [] s₁ H ⟨[.ref a], []⟩ [.ref a] [.ref a] _ _ hr e0 (hbind s₁ (.ref a)) (.cons rfl .nil) (hsp H hO hS)) fun r s' h => ?_
    cases r with
    | error e => exact (hCX H e s' h).elim
    | ok fl =>
      cases fl with
      | next => exact False.elim h
      | brk => exact False.elim h
      | cont => exact False.elim h
      | ret u =>
        obtain ⟨v, H', os, bare, un, hok', r', q⟩ := h
        have q' : v = .bl true := q
        subst q'
        obtain rfl : u = Value.bool true := r'
        refine ⟨rfl, OldK.of_keep fun b o e => ?_, os, bare⟩
        cases q : H b with
        | none => exact un.keep b o e q (by intro z; exact absurd (show b ∈ ([] : List Addr) from z) (by simp)) (by simp)
        | some u =>
          rcases hO b with z | ⟨ob, xs, z⟩
          · rw [q] at z; cases z
          · have z2 := un.frzs b ob _ z
            obtain ⟨e1, _⟩ := hok b _ z
            obtain ⟨e2, _⟩ := hok' b _ z2
            rw [e] at e1; cases e1
            exact e2
  cases hk : K.lookup a with
  | some o =>
    -- the script is one of the module's own objects
    have e := KX a o hk
    rw [ha] at e
    cases e
    refine core (fun _ => none) (fun _ => .inl rfl) (.inr ⟨_, vs.toArray, _, hk, rfl, rfl, rfl, by rw [List.size_toArray, lenV]; exact hl, by simpa using rv⟩) (fun b u z => by have z' : (none : Option HO) = some u := z; cases z') (fun b z => absurd rfl z) fun z => absurd rfl z
  | none =>
    refine core (fun b => if b = a then some (.frz { cls := .type "list", data := .seq vs.toArray } (.lst (ns.map V.int))) else none) (fun b => ?_) (.inl (.inr ⟨{ cls := .type "list", data := .seq vs.toArray }, if_pos rfl⟩)) (fun b u z => ?_) (fun b z => ?_) fun _ => hk
    · by_cases hb : b = a
      · exact .inr ⟨_, _, if_pos hb⟩
      · exact .inl (if_neg hb)
    · by_cases hb : b = a
      · have z' := (if_pos hb).symm.trans z
        cases z'
        subst hb
        exact ⟨ha, by rw [List.length_map]; exact hl, vs, _, rv, ha⟩
      · have z' := (if_neg hb).symm.trans z
        cases z'
    · by_cases hb : b = a
      · exact hb
      · exact absurd (if_neg hb) z
end L2

namespace L2
open PySem PySem.Spec PyProof.Rows

abbrev KOf {K : PySem.W.Frag} {h : Heap} (_ : K.In h) : PySem.W.Frag := K

/-- the goal that k_head leaves (case hc), from the law's promise. F gives the function object fd (K's own) once, then the promise over every base -/
theorem walk_of {l : PySem.W.OpenLaw} {n k : Nat} {q : Program} {loose : List Str} {XP : (Str → Option Value) → Heap → Prop} {YP : World → Heap → Prop} {d : DefRec} {K : Params → PySem.W.Frag} {CX : World → CXT} {sp : World → Sp} {x : Str}
    (hn : l.most = some n) (hn2 : n ≤ sizeLine) (hdf : d.params.defaults = []) (hr : Room k callerA)
    (hY : ∀ (w : World) (h : Heap), YP w h → (K w.params).In h)
    (F : ∀ (w : World) (mg : Str → Option Value) (fa : Addr) (h : Heap), (K w.params).In h → h.Ns mainGlobals mg → mg d.name = some (.ref fa) →
      ∃ fd : FuncData, (∀ (s : Shared) (u : Value), BindsTo s fd ⟨[u], []⟩ [(x, u)]) ∧
        ∀ base : Heap, (K w.params).In base → base.Ns mainGlobals mg → FnOk l.prog w (K w.params) mg base (CX w) k fa fd [x] (sp w))
    (hsp : ∀ (w : World) (H : Hp) (a : Addr) (ns : List Int), ns.length ≤ n → Only H → SqL (K w.params) H a (ns.map V.int) → sp w [.ref a] H (fun v _ => v = .bl true) fun _ _ _ => False)
    (hCX : ∀ (w : World) (H : Hp) (s : Shared) (e : Value) (s' : Shared), CX w [] H s (fun _ _ _ => False) e s' → False) :
    PySem.W.WalkO q loose XP YP l.row.toRowW d [] (fun f vs => PySem.call f vs) := by
  refine Att.attach_call hn hdf fun w s₀ s₁ mg mb fa o pm cd doc a vs ns G Y ho hd hcd hmg hobj hints hlen hg => ?_
  have KX := hY w _ Y
  obtain ⟨fd, hb, hF⟩ := F w mg fa _ KX G.T.g hmg
  exact law_call KX G.T.g G.T.b G.T.builtins G.T.nolimit hg hobj hints (Nat.le_trans hlen hn2) hr hF hb (fun H hO hS => hsp w H a ns hlen hO hS) fun H e s' => hCX w H s₁ e s'
end L2

/- THE LAST THEOREM (shape; LID, My.* are yours):
   My.Adr: a structure of the addresses that your layer names (classes, functions); My.Txt K t: a structure (Prop) of the equations over K;
   My.txt_mk : {K} {implicit addresses ..} (e1 : nsIn K mainGlobals "law" = some (some (.ref f))) (e2 : K.lookup f = some ⟨oc, od, .func (fnOf "law" "law" params body scope dV kV doc pm an cdv ct), sl⟩) (e3 : codeIn K cdv "law" = true) .. : ∃ t, My.Txt K t

set_option maxRecDepth 100000 in
set_option maxHeartbeats 0 in
theorem PySem.Challenge.cw_LID_holds : PySem.Challenge.rw_LID.Holds := by
  w_on; o_law; k_head; (case hw => w_witness2)
  k_fill
  refine L2.walk_of (l := PySem.Challenge.rw_LID) (n := 63) (k := 40) (x := "script") (CX := fun w => ..) (sp := fun _ => My.sp_law) rfl (by decide) rfl ⟨rfl, by decide, by decide⟩ (fun w h Y => PySem.W.kIn_of Y) ?F ?S ?C
  case F =>
    intro w mg fa h KX G hmg
    have T : ∃ t, My.Txt (L2.KOf KX) t := by
      dsimp only [L2.KOf]                          -- K must stand as «<heap const> w.params» for k_is
      refine' My.txt_mk ?e1 ?e2 ?e3 ..
      (case e1 => PySem.W.k_is)                    -- in the order: a name -> its address -> its object -> its parts
      (case e2 => PySem.W.k_is)
      ..
    obtain ⟨t, T⟩ := T
    have e0 := hmg.symm.trans (PySem.W.mg_of KX G T.law)
    cases e0                                       -- fa is the law's own address
    exact ⟨_, fun s u => .of_eq rfl, fun base kb nb => My.law_fn T kb nb⟩     -- if «.of_eq rfl» comes too early: refine' ⟨_, ?b, fun base kb nb => My.law_fn T kb nb⟩; exact fun s u => .of_eq rfl
  case S => exact fun w H a ns hl hO hS => ..
  case C => exact ..
(the tactic k_is has no namespace: write k_is) -/

/-! SHORT WORDS over the layer: a def of the text, its body, what a loop and a test want. -/
namespace L2
open PySem PySem.Spec PyProof.Rows

/-! ### the text by places -/
/-- the j-th statement of a class's body -/
def inClass (s : Stmt) (j : Nat) : Stmt := match s with
  | .ClassDef _ _ _ body _ _ _ _ _ _ _ => body.getD j (.Pass ⟨0, 0, 0, 0⟩)
  | _ => .Pass ⟨0, 0, 0, 0⟩
def defArgs (s : Stmt) : Arguments := match s with
  | .FunctionDef _ a _ _ _ _ _ _ _ _ => a
  | _ => { posonlyargs := [], args := [], vararg := none, kwonlyargs := [], kw_defaults := [], kwarg := none, defaults := [] }
def defBody (s : Stmt) : List Stmt := match s with
  | .FunctionDef _ _ b _ _ _ _ _ _ _ => b
  | _ => []
def defScope (s : Stmt) : Scope := match s with
  | .FunctionDef _ _ _ _ _ _ sc _ _ _ => sc
  | _ => { kind := .function, names := [], isGenerator := false, isCoroutine := false }

/-! ### no exception leaves a def -/
abbrev CX0 : CXT := fun _ _ _ _ _ _ => False
abbrev E0 : XK := fun _ _ _ => False
theorem pass0 {X : Cx} : Passes CX0 X E0 := fun _ _ _ _ _ _ _ h => h.elim

/-! ### a def (or method) of the text as it stands behind the top -/
structure Fun (K : PySem.W.Frag) (x qual : Str) (st : Stmt) (f : Addr) (fd : FuncData) : Prop where
  ex : ∃ (oc : Value) (od : Option Addr) (kV doc pm : Value) (an : Option Addr) (cdv ct : Value) (osl : Array (Option Value)),
    fd = PySem.W.fnOf x qual (defArgs st) (defBody st) (defScope st) .none kV doc pm an cdv ct ∧ K.lookup f = some ⟨oc, od, .func fd, osl⟩ ∧ PySem.W.codeIn K cdv qual = true
  kp : PySem.W.keepIn K (.ref f) = true
section
variable {P : Program} {w : World} {K : PySem.W.Frag} {mg : Str → Option Value} {base : Heap}
/-- THE RULE for a def: its body as a term of rules, and the reading of that term -/
theorem Fun.ok {x qual : Str} {st : Stmt} {f : Addr} {fd : FuncData} {N ps : List Str} {k : Nat} {sp : Sp} (F : Fun K x qual st f fd) (S : FnScope N ps (defScope st)) (len : ∀ vs H Q E, sp vs H Q E → vs.length = ps.length)
    (hbody : ∀ (cdv : Value) (A : Around) (outer : List Env) (s : Shared) (H : Hp) (vs : List V) (Q : VK) (E : XK), Room k (A.deeper (envOfC qual (defScope st) s.heap.objs.size f cdv)) → sp vs H Q E →
      ∃ t, PSs (cxOf CX0 P w K mg base N qual (defScope st) f cdv A outer s H E).nox (defBody st) t ∧ t { nx := fun _ H' => Q .non H', rt := Q } (start N vs) H) : FnOk P w K mg base CX0 (k + 1) f fd ps sp := by
  obtain ⟨oc, od, kV, doc, pm, an, cdv, ct, osl, rfl, lk, hcd⟩ := F.ex
  refine fn_of lk hcd S len fun A outer s H vs Q E hr hsp => ?_
  obtain ⟨t, h, q⟩ := hbody cdv A outer s H vs Q E hr hsp
  exact ⟨t, h.nox, q⟩
/-- how its arguments bind (no defaults): h is «fun _ _ _ _ _ _ us hl => match us, hl with | [_, _], _ => rfl», one _ a parameter -/
theorem Fun.binds {x qual : Str} {st : Stmt} {f : Addr} {fd : FuncData} {ps : List Str} (F : Fun K x qual st f fd)
    (h : ∀ (kV doc pm : Value) (an : Option Addr) (cdv ct : Value) (us : List Value), us.length = ps.length → bindArgs (PySem.W.fnOf x qual (defArgs st) (defBody st) (defScope st) .none kV doc pm an cdv ct) ⟨us, []⟩ = pure (ps.zip us)) : Binds K fd ps [] := by
  obtain ⟨oc, od, kV, doc, pm, an, cdv, ct, osl, rfl, lk, hcd⟩ := F.ex
  exact .all (h kV doc pm an cdv ct)
theorem fun_mk {x qual : Str} {st : Stmt} {f : Addr} {oc : Value} {od an : Option Addr} {osl : Array (Option Value)} {kV doc pm cdv ct : Value} (l : K.lookup f = some ⟨oc, od, .func (PySem.W.fnOf x qual (defArgs st) (defBody st) (defScope st) .none kV doc pm an cdv ct), osl⟩)
    (c : PySem.W.codeIn K cdv qual = true) (k : PySem.W.keepIn K (.ref f) = true) : Fun K x qual st f (PySem.W.fnOf x qual (defArgs st) (defBody st) (defScope st) .none kV doc pm an cdv ct) := ⟨⟨oc, od, kV, doc, pm, an, cdv, ct, osl, rfl, l, c⟩, k⟩
end
theorem hu_of {A : Around} {k : Nat} (hr : Room k A) : A.units + 1 < cLine := Nat.lt_of_le_of_lt (Nat.add_le_add_left (by decide : 1 ≤ 64) _) hr.units
theorem small1000 {n : Nat} (h : n ≤ 1000) : n < sizeLine := Nat.lt_of_le_of_lt h (by decide)

/-! ### expressions in short: the name that stands in the i-th slot -/
section
variable {X : Cx}
theorem pv (i : Nat) {x : Str} {pos : Pos} (hN : X.N[i]? = some x := by rfl) (hv : Vis X.env.scope x := by first | exact Or.inl rfl | exact Or.inr (Or.inl rfl) | exact Or.inr (Or.inr rfl)) (hd : (x == ("__debug__" : Str)) = false := by decide)
    (hcd : (x == ("__classdict__" : Str)) = false := by decide) : PE X (.Name x pos) (tVar i) := pe_var hN hv hd hcd
end

/-! ### tests -/
theorem iteF {A B : Prop} (h : B) : if false = true then A else B := by
  rw [if_neg Bool.false_ne_true]
  exact h
theorem iteT {A B : Prop} (h : A) : if true = true then A else B := by
  rw [if_pos rfl]
  exact h
theorem ite2 {c A B : Prop} [Decidable c] (h1 : c → A) (h2 : ¬ c → B) : if c then A else B := by
  by_cases h : c
  · rw [if_pos h]
    exact h1 h
  · rw [if_neg h]
    exact h2 h
/-! ### heaps -/
/-- all that was tracked is as it was -/
def Same (H H' : Hp) : Prop := ∀ b o, H b = some o → H' b = some o
theorem Same.refl (H : Hp) : Same H H := fun _ _ h => h
theorem Same.trans {H H1 H2 : Hp} (a : Same H H1) (b : Same H1 H2) : Same H H2 := fun c o h => b c o (a c o h)
theorem Same.free {H H' : Hp} (e : Same H H') {l : Addr} (h : H' l = Option.none) : H l = Option.none := by
  cases q : H l with
  | none => rfl
  | some o =>
    rw [e l o q] at h
    cases h
theorem Same.seq {K : PySem.W.Frag} {H H' : Hp} {a : Addr} {xs : List V} (e : Same H H') (h : SqL K H a xs) : SqL K H' a xs := by
  rcases h with (h | ⟨o, h⟩) | h
  · exact .inl (.inl (e _ _ h))
  · exact .inl (.inr ⟨o, e _ _ h⟩)
  · exact .inr h

end L2

set_option Elab.async false
set_option linter.all false
set_option maxRecDepth 100000
set_option maxHeartbeats 4000000
namespace L2
open PySem PySem.Spec PyProof.Rows

/-! ### comprehensions: [elt for x in iter if c] over the layer -/
abbrev cmpTests (ifs : List Expr) (env : Env) : Sem Bool :=
  forIn ifs true fun c r => if r = true then do let ok ← isTrue c env (eval c env); pure (ForInStep.yield ok) else pure (ForInStep.yield r)

theorem cmp_loop {prog : Program} {w : World} {A : Around} {R : Result → Shared → Prop} {s : Shared} {elt iter : Expr} {x : Str} {px : Pos} {ifs : List Expr} {sc : Scope} {pos : Pos} {it acc : Value} {env : Env} (J : Nat → Shared → Prop)
    (one : ∀ k st, J k st → wpAny (model prog w) A (pyNext it) (fun r s₁ => match r with
      | none => R (.ok .next) s₁
      | some v => wpAny (model prog w) A (letOwnedTupleGo (.Name x px) it v) (fun _ sg => wpAny (model prog w) A (assign (.Name x px) env v) (fun _ s₂ =>
          wpAny (model prog w) A (cmpTests ifs env) (fun ok s₃ =>
            if ok = true then wpAny (model prog w) A (eval elt env) (fun y s₄ => wpAny (model prog w) A (call (.builtin "list.append") [acc, y]) (fun _ s₅ => ∃ m, m < k ∧ J m s₅) (fun _ _ => False) s₄) (fun _ _ => False) s₃
            else ∃ m, m < k ∧ J m s₃) (fun _ _ => False) s₂) (fun _ _ => False) sg) (fun _ _ => False) s₁) (fun _ _ => False) st)
    (k0 : Nat) (h0 : J k0 s) : codeAny (model prog w) A (.compLoop (.ListComp elt [⟨.Name x px, iter, ifs, 0⟩] sc pos) 0 it acc env) R s := by
  refine codeAny_loop rfl J (fun k st hk => ?_) k0 h0
  show wpAny _ A ((compTurn (.ListComp elt [⟨.Name x px, iter, ifs, 0⟩] sc pos) 0 it acc env).onRaise (fun y => do noteFrame y env; theTreesLotGoes y)) _ _ st
  refine wpAny_noted ?_
  rw [compTurn_list]
  refine wpAny_bind (wpAny_standAt (wpAny_bind (wpAny_mono (one k st hk) (fun r s₁ h₁ => ?_) fun _ _ z => z.elim)))
  cases r with
  | none => exact wpAny_pure h₁
  | some v =>
    refine wpAny_bind (wpAny_mono h₁ (fun _ sg hg => ?_) fun _ _ z => z.elim)
    refine wpAny_bind (wpAny_mono hg (fun _ s₂ h₂ => ?_) fun _ _ z => z.elim)
    refine wpAny_bind (wpAny_mono h₂ (fun ok s₃ h₃ => ?_) fun _ _ z => z.elim)
    cases ok with
    | false => exact wpAny_pure ⟨rfl, h₃⟩
    | true =>
      refine wpAny_bind (wpAny_bind (wpAny_mono h₃ (fun y s₄ h₄ => ?_) fun _ _ z => z.elim))
      exact wpAny_bind (wpAny_mono h₄ (fun _ s₅ h₅ => wpAny_pure (wpAny_pure ⟨rfl, h₅⟩)) fun _ _ z => z.elim)

/-! the closure of a comprehension's block -/
def clOf (cells : List (Str × Addr)) : List (Str × NameKind) → List (Str × Addr) → List (Str × Addr)
  | [], acc => acc
  | (n, k) :: r, acc => clOf cells r (if k == .free then (n, (cells.lookup n).getD 0) :: acc else acc)
theorem clOf_eq {env : Env} : ∀ (ns : List (Str × NameKind)) (acc : List (Str × Addr)), (∀ y ∈ ns, y.2 = .free → ∃ c, env.cells.lookup y.1 = some c) →
    (forIn ns acc fun (p : Str × NameKind) (cs : List (Str × Addr)) => (if p.2 == .free then (do let c ← cellOf env p.1; pure (ForInStep.yield ((p.1, c) :: cs))) else pure (ForInStep.yield cs) : Sem (ForInStep (List (Str × Addr))))) = (pure (clOf env.cells ns acc) : Sem (List (Str × Addr)))
  | [], acc, _ => rfl
  | (n, k) :: r, acc, h => by
    rw [List.forIn_cons]
    by_cases hk : k = .free
    · subst hk
      obtain ⟨c, hc⟩ := h (n, .free) List.mem_cons_self rfl
      have e1 : cellOf env n = pure c := by unfold cellOf; rw [show env.cells.lookup n = some c from hc]
      simp only [beq_self_eq_true, if_true, e1, clOf, hc, Option.getD_some]
      exact clOf_eq r ((n, c) :: acc) fun y hy => h y (List.mem_cons_of_mem _ hy)
    · have hb : (k == NameKind.free) = false := by simpa using hk
      simp only [hb, Bool.false_eq_true, if_false, clOf]
      exact clOf_eq r acc fun y hy => h y (List.mem_cons_of_mem _ hy)
theorem closure_eq {env : Env} {sc : Scope} (h : ∀ y ∈ sc.names, y.2 = .free → ∃ c, env.cells.lookup y.1 = some c) : closureFor sc env = pure (clOf env.cells sc.names []) := by
  unfold closureFor
  have q := clOf_eq (env := env) sc.names [] h
  have e : (forIn sc.names [] fun (p : Str × NameKind) (cs : List (Str × Addr)) => (match p with | (name, kind) => if kind == .free then (do let c ← cellOf env name; pure (ForInStep.yield ((name, c) :: cs))) else pure (ForInStep.yield cs) : Sem (ForInStep (List (Str × Addr))))) = (pure (clOf env.cells sc.names []) : Sem (List (Str × Addr))) := q
  simp only [e]
  rfl
theorem clOf_look {cells : List (Str × Addr)} : ∀ (ns : List (Str × NameKind)) (acc : List (Str × Addr)), (∀ y ∈ ns, y.2 = .free → ∃ c, cells.lookup y.1 = some c) → (∀ y c, acc.lookup y = some c → cells.lookup y = some c) →
    (∀ y c, (clOf cells ns acc).lookup y = some c → cells.lookup y = some c) ∧ (∀ y, (acc.lookup y).isSome = true → ((clOf cells ns acc).lookup y).isSome = true) ∧ (∀ y, (y, NameKind.free) ∈ ns → ((clOf cells ns acc).lookup y).isSome = true)
  | [], acc, _, h2 => ⟨h2, fun _ h => h, fun _ h => nomatch h⟩
  | (n, k) :: r, acc, h1, h2 => by
    have h1' : ∀ y ∈ r, y.2 = .free → ∃ c, cells.lookup y.1 = some c := fun y hy => h1 y (List.mem_cons_of_mem _ hy)
    by_cases hk : k = .free
    · subst hk
      obtain ⟨c, hc⟩ := h1 (n, .free) List.mem_cons_self rfl
      have hc' : cells.lookup n = some c := hc
      have e : clOf cells ((n, .free) :: r) acc = clOf cells r ((n, c) :: acc) := by simp only [clOf, beq_self_eq_true, if_true, hc', Option.getD_some]
      have ih := clOf_look (cells := cells) r ((n, c) :: acc) h1' (fun y d hy => by
        rw [List.lookup_cons] at hy
        cases q : y == n with
        | true => rw [q] at hy; cases hy; rw [eq_of_beq q]; exact hc'
        | false => rw [q] at hy; exact h2 y d hy)
      rw [e]
      refine ⟨ih.1, fun y hy => ih.2.1 y ?_, fun y hy => ?_⟩
      · rw [List.lookup_cons]; split
        · rfl
        · exact hy
      · rcases List.mem_cons.mp hy with z | z
        · cases z; exact ih.2.1 n (by rw [List.lookup_cons]; simp)
        · exact ih.2.2 y z
    · have hb : (k == NameKind.free) = false := by simpa using hk
      have e : clOf cells ((n, k) :: r) acc = clOf cells r acc := by simp only [clOf, hb, Bool.false_eq_true, if_false]
      have ih := clOf_look (cells := cells) r acc h1' h2
      rw [e]
      refine ⟨ih.1, ih.2.1, fun y hy => ?_⟩
      rcases List.mem_cons.mp hy with z | z
      · cases z; exact absurd rfl hk
      · exact ih.2.2 y z

/-! names of the block -/
structure CompSc (scX sc : Scope) (NX : List Str) (x : Str) (fv : List Str) (js : List Nat) : Prop where
  kind : sc.kind = .function
  kindX : scX.kind = .function
  cell : ∀ y ∈ sc.names, y.2 ≠ .cell
  own : sc.names.lookup x = some .local
  names : ∀ y ∈ sc.names, y.2 = .local → sc.names.lookup y.1 = some .local
  free : ∀ y ∈ sc.names, y.2 = .free → scX.names.lookup y.1 = some .cell
  nd : (x :: fv).Nodup
  at' : js.map (fun j => NX[j]?) = fv.map some
  fr : ∀ y ∈ fv, sc.names.lookup y = some .free

theorem relabel_free {env : Env} (hk : env.scope.kind = .function) : ∀ {ns : List (Str × NameKind)} {y : Str}, ns.lookup y = some .free → env.kindOf y = some .cell →
    (ns.map fun (n, k) => if (k == NameKind.free && env.scope.kind == .function && env.kindOf n == some .cell) then (n, NameKind.cell) else (n, k)).lookup y = some .cell
  | [], _, h, _ => by simp at h
  | (n, k) :: r, y, h, hc => by
    have ih := @relabel_free env hk r y
    show List.lookup y ((if (k == NameKind.free && env.scope.kind == .function && env.kindOf n == some .cell) = true then (n, NameKind.cell) else (n, k)) :: _) = _
    cases hx : y == n with
    | true =>
      simp only [List.lookup_cons, hx] at h
      cases h
      have e : y = n := eq_of_beq hx
      subst e
      simp [List.lookup_cons, hc, hk]
    | false =>
      simp only [List.lookup_cons, hx] at h
      split <;> (simp only [List.lookup_cons, hx]; exact ih h hc)
theorem relabel_back {env : Env} : ∀ {ns : List (Str × NameKind)} {y : Str}, (∀ z ∈ ns, z.2 ≠ .cell) →
    ((ns.map fun (n, k) => if (k == NameKind.free && env.scope.kind == .function && env.kindOf n == some .cell) then (n, NameKind.cell) else (n, k)).lookup y = some .cell ∨
     (ns.map fun (n, k) => if (k == NameKind.free && env.scope.kind == .function && env.kindOf n == some .cell) then (n, NameKind.cell) else (n, k)).lookup y = some .free) → (y, NameKind.free) ∈ ns
  | [], _, _, h => by simp at h
  | (n, k) :: r, y, hz, h => by
    have ih := @relabel_back env r y fun z hm => hz z (List.mem_cons_of_mem _ hm)
    have hk : k ≠ .cell := hz (n, k) List.mem_cons_self
    rw [List.map_cons] at h
    by_cases hc : (k == NameKind.free && env.scope.kind == .function && env.kindOf n == some .cell) = true
    · have hf : k = .free := by
        rw [Bool.and_eq_true, Bool.and_eq_true] at hc
        exact eq_of_beq hc.1.1
      simp only [hc, if_true, List.lookup_cons] at h
      cases hx : y == n with
      | true => rw [eq_of_beq hx, hf]; exact List.mem_cons_self
      | false => rw [hx] at h; exact List.mem_cons_of_mem _ (ih h)
    · rw [Bool.not_eq_true] at hc
      simp only [hc, Bool.false_eq_true, if_false, List.lookup_cons] at h
      cases hx : y == n with
      | true =>
        rw [hx] at h
        rcases h with h | h
        · exact absurd (Option.some.inj h) hk
        · have : k = .free := Option.some.inj h
          rw [eq_of_beq hx, this]; exact List.mem_cons_self
      | false => rw [hx] at h; exact List.mem_cons_of_mem _ (ih h)

/-- the slots of the free names -/
def pick (js : List Nat) (σ : St) : St := js.map fun j => (σ[j]?).getD none

/-- the block's context -/
abbrev xc (X : Cx) (sc : Scope) (x : Str) (fv : List Str) (C : Addr) (s0 : Shared) (H0 : Hp) (ex : List Addr) : Cx :=
  { X with N := x :: fv, s₀ := s0, H₀ := H0, env := compEnvC sc (clOf X.env.cells sc.names []) C X.env, outer := X.stack, ex := ex, fn := fun _ => false, pn := [], xe := fun _ _ => False }

/-- the clause's tests -/
def PIf (X : Cx) (ifs : List Expr) (t : TT) : Prop :=
  ∀ (pins : List (Addr × Obj)) (s : Shared) (σ : St) (H : Hp) (Q : Bool → Hp → Prop), Inv X pins σ H s → t σ H Q → wpAny (model X.prog X.w) X.A (cmpTests ifs X.env) (TP X pins σ Q) X.xe s
def tYes : TT := fun _ H Q => Q true H
theorem tYes_ok {σ : St} {H : Hp} {Q : Bool → Hp → Prop} (h : Q true H) : tYes σ H Q := h
theorem pif_nil {X : Cx} : PIf X [] tYes := fun _ _ _ H _ I h => wpAny_tests_nil ⟨H, I, h⟩
theorem pif_one {X : Cx} {c : Expr} {t : TT} (hc : PT X c t) : PIf X [c] t := fun pins s σ H Q I h => wpAny_tests_one (hc pins s σ H Q I h)

/-- the reading of a comprehension -/
def tCompB (J : It) (js : List Nat) (tt : TT) (te : TE) : TE := fun σ H1 Q => ∃ W : Nat → Nat → List V → Hp → Prop, (∃ m, W 0 m [] H1) ∧ ∀ i m ys H, W i m ys H →
  (J.stop i H ∧ ∀ p, H p = none → Q (.ref p) (upd H p (.lst ys))) ∨
  (J.go i H ∧ ∃ N : List V → Hp → Prop, (∀ ys' H', N ys' H' → ∃ m', m' < m ∧ W (i + 1) m' ys' H') ∧
    ∀ x H', J.yld i H x H' → tt (some x :: pick js σ) H' fun b H2 => if b = true then te (some x :: pick js σ) H2 fun y H3 => ys.length < sizeLine ∧ N (ys ++ [y]) H3 else N ys H2)
def tComp (wi : TI) (js : List Nat) (tt : TT) (te : TE) : TE := fun σ H Q => wi σ H fun J H1 => tCompB J js tt te σ H1 Q

section
variable {X : Cx} {pins : List (Addr × Obj)} {σ : St} {H2 : Hp} {s2 : Shared} {elt iter : Expr} {x : Str} {px : Pos} {ifs : List Expr} {sc scX : Scope} {pos : Pos} {fv : List Str} {js : List Nat} {tt : TT} {te : TE}

theorem comp_core (S : CompSc scX sc X.N x fv js) (hsx : X.env.scope = scX) (hcalm : X.calm = true)
    (ht : ∀ C s0 H0 ex, PIf (xc X sc x fv C s0 H0 ex) ifs tt) (he : ∀ C s0 H0 ex, PE (xc X sc x fv C s0 H0 ex) elt te)
    {it : Addr} {fp : List Addr} {tn : Nat → Heap → Prop} {J : It} (I2 : Inv X pins σ H2 s2) (T : Turn X.prog X.w X.K (.Name x px) J fp it tn) (st2 : tn 0 s2.heap) (f2 : ∀ b ∈ fp, FpOk X pins H2 b)
    {Q : VK} {W : Nat → Nat → List V → Hp → Prop} (w0 : ∃ m, W 0 m [] H2)
    (step : ∀ i m ys H, W i m ys H → (J.stop i H ∧ ∀ p, H p = none → Q (.ref p) (upd H p (.lst ys))) ∨
      (J.go i H ∧ ∃ N : List V → Hp → Prop, (∀ ys' H', N ys' H' → ∃ m', m' < m ∧ W (i + 1) m' ys' H') ∧
        ∀ x H', J.yld i H x H' → tt (some x :: pick js σ) H' fun b H2 => if b = true then te (some x :: pick js σ) H2 fun y H3 => ys.length < sizeLine ∧ N (ys ++ [y]) H3 else N ys H2))
    {RR : Value → Addr → Result → Shared → Prop} {E : Value → Shared → Prop}
    (fin : ∀ (D C : Addr) (s' : Shared) (H' : Hp), Inv X pins σ H' s' → Q (.ref D) H' → (∃ m, s'.heap.Ns C m) → FpOk X pins H' C → RR (.ref D) C (.ok .next) s') :
    wpAny (model X.prog X.w) X.A (newList []) (fun acc s₃ => wpAny (model X.prog X.w) X.A (newFunctionEnv sc X.env.globals (clOf X.env.cells sc.names []) [] X.env.qual none .none (some X.env)) (fun cenv s₄ =>
      codeAny (model X.prog X.w) X.A (.compStart (.ListComp elt [⟨.Name x px, iter, ifs, 0⟩] sc pos) 0 (.ref it) acc { cenv with scope := relabel sc X.env }) (RR acc cenv.locals) s₄) E s₃) E s2 := by
  have hfree : ∀ y ∈ sc.names, y.2 = .free → ∃ c, X.env.cells.lookup y.1 = some c := fun y hy hf => I2.ok.has y.1 (.inl (by show X.env.scope.names.lookup y.1 = _; rw [hsx]; exact S.free y hy hf))
  obtain ⟨cl1, _, cl3⟩ := clOf_look (cells := X.env.cells) sc.names [] hfree (fun y c h => by simp at h)
  refine wpAny_newObj_type (wpAny_newFunctionEnv S.cell (by intro y hy; simp at hy) (fun h₁ hns₁ hsb₁ => ?_) S.kind)
  dsimp only at hns₁ hsb₁ ⊢
  generalize hG : s2.heap.push { cls := .type "list", dict := none, data := .seq ([] : List Value).toArray } = G at hns₁ hsb₁ ⊢
  have hGz : G.objs.size = s2.heap.objs.size + 1 := by rw [← hG, Heap.size_push]
  have upG : ∀ b o, s2.heap.get? b = some o → G.get? b = some o := fun b o e => hG ▸ Heap.get?_push_of_some _ e
  have upH : ∀ b o, G.get? b = some o → h₁.get? b = some o := fun b o e => hsb₁.extBut b o (Nat.ne_of_lt (Heap.lt_size e)) (Heap.get?_push_of_some _ e)
  have ltD : ∀ b o, s2.heap.get? b = some o → b ≠ s2.heap.objs.size := fun b o e => Nat.ne_of_lt (Heap.lt_size e)
  have fpo : ∀ b ∈ fp, ∃ o, s2.heap.get? b = some o := fun b hb => let ⟨o, e, _⟩ := T.obj 0 _ st2 b hb; ⟨o, e⟩
  have fpD : ∀ b ∈ fp, b ≠ s2.heap.objs.size := fun b hb => let ⟨o, e⟩ := fpo b hb; ltD b o e
  have fpC : ∀ b ∈ fp, b ≠ G.objs.size := fun b hb => let ⟨o, e⟩ := fpo b hb; Nat.ne_of_lt (Heap.lt_size (upG b o e))
  have cellO : ∀ y c, (clOf X.env.cells sc.names []).lookup y = some c → ∃ v, s2.heap.IsCell c v := fun y c e => I2.cell y c (cl1 y c e)
  have cellD : ∀ y c, (clOf X.env.cells sc.names []).lookup y = some c → c ≠ s2.heap.objs.size := fun y c e => let ⟨v, q⟩ := cellO y c e; Nat.ne_of_lt q.lt
  have Dfs : s2.heap.objs.size ∉ frs X.stack := fun hb => by
    rcases List.mem_cons.mp (I2.stkSub _ hb) with z | z
    · exact absurd I2.lt (by rw [← z]; exact Nat.lt_irrefl _)
    · exact I2.nofs (Nat.le_refl _) z
  have fpfs : ∀ b ∈ fp, b ∉ frs X.stack := fun b hb hz => by
    obtain ⟨_, f1, f2', _⟩ := f2 b hb
    rcases List.mem_cons.mp (I2.stkSub _ hz) with z | z
    · exact f1 z
    · exact f2' z
  have HD : H2 s2.heap.objs.size = none := I2.hok.fresh (Nat.le_refl _)
  have HC : H2 G.objs.size = none := I2.hok.fresh (by rw [hGz]; exact Nat.le_succ _)
  have DC : s2.heap.objs.size ≠ G.objs.size := by rw [hGz]; exact Nat.ne_of_lt (Nat.lt_succ_self _)
  -- the block's context is right
  have okC : Cx.Ok (xc X sc x fv G.objs.size { s2 with heap := G } H2 (s2.heap.objs.size :: fp)) := by
    refine ⟨I2.ok.mod, S.kind, I2.ok.glob, I2.ok.blt, Nat.le_refl _, fun y z c h1 h2 => I2.ok.inj y z c (cl1 _ _ h1) (cl1 _ _ h2), fun y hy => ?_, fun y c hfn _ => (by cases hfn), I2.ok.hd, I2.ok.frames, .inl rfl, fun b hb => ?_, fun b o e => ?_, ?_, fun b o e hb => ?_, fun b hb => ?_, ?_, I2.stkFree⟩
    · exact Option.isSome_iff_exists.mp (cl3 y (relabel_back S.cell hy))
    · rcases List.mem_cons.mp hb with z | z
      · subst z; exact ⟨DC, cellD⟩
      · refine ⟨fpC b z, fun y c e => ?_⟩
        obtain ⟨_, _, _, _, f4, _⟩ := f2 b z
        exact f4 y c (cl1 y c e)
    · exact ⟨upG b o (I2.bs b o e).1, (I2.bs b o e).2⟩
    · show X.base.objs.size ≤ G.objs.size
      rw [hGz]; exact Nat.le_succ_of_le (Nat.le_trans I2.ok.bsz I2.sz)
    · rcases List.mem_cons.mp hb with z | z
      · exact ltD b o (I2.bk b o e) z
      · obtain ⟨_, _, _, f3, _⟩ := f2 b z
        rcases f3 with q | q
        · exact I2.ok.noex b o e q
        · exact absurd (Nat.lt_of_lt_of_le (Heap.lt_size e) (Nat.le_trans I2.ok.bsz q)) (Nat.lt_irrefl _)
    · rcases List.mem_cons.mp hb with z | z
      · subst z; exact Dfs
      · exact fpfs b z
    · exact (I2.stack).of_keeps fun b o e _ => ⟨o, upG b o e, rfl⟩
  have lenC : ∀ v : Option V, (v :: pick js σ).length = (x :: fv).length := fun v => by
    have := congrArg List.length S.at'
    simp only [List.length_map] at this
    simp [pick, this]
  have hacc : h₁.get? s2.heap.objs.size = some { cls := .type "list", dict := none, data := .seq ([] : List Value).toArray } := upH _ _ (hG ▸ Heap.get?_push_size _ rfl)
  have I4 : Inv (xc X sc x fv G.objs.size { s2 with heap := G } H2 (s2.heap.objs.size :: fp)) [(s2.heap.objs.size, { cls := .type "list", dict := none, data := .seq ([] : List Value).toArray })] (none :: pick js σ) H2 { s2 with heap := h₁, toks := s2.toks + ([] : List (Str × Value)).length } := by
    refine ⟨okC, rfl, I2.bare, Un.kept upH, ⟨_, hns₁, fun i y v e1 e2 e3 => ?_⟩, fun y c e => ?_, HC, fun y c e => I2.freeC y c (cl1 y c e), fun p hp => ?_, I2.hok.kept fun b u e => upH b u (upG b u e), lenC none⟩
    · cases i with
      | zero => cases e2
      | succ i =>
        have e1' : fv[i]? = some y := e1
        have e2' : (pick js σ)[i]? = some (some v) := e2
        have q := congrArg (fun l => l[i]?) S.at'
        simp only [List.getElem?_map, e1', Option.map_some] at q
        cases hj : js[i]? with
        | none => rw [hj] at q; cases q
        | some j =>
          rw [hj] at q
          have hj' : X.N[j]? = some y := Option.some.inj q
          unfold pick at e2'
          rw [List.getElem?_map, hj] at e2'
          have e2'' : (σ[j]?).getD none = some v := Option.some.inj e2'
          have e2b : σ[j]? = some (some v) := by
            cases hh : σ[j]? with
            | none => rw [hh] at e2''; cases e2''
            | some o => rw [hh] at e2''; exact congrArg some e2''
          have hm : y ∈ fv := List.mem_of_getElem? e1'
          have hcX : scX.names.lookup y = some .cell := S.free (y, .free) (PySem.mem_of_lookup (S.fr y hm)) rfl
          have kX : X.env.kindOf y = some .cell := by show X.env.scope.names.lookup y = _; rw [hsx]; exact hcX
          obtain ⟨m, hn, hl⟩ := I2.loc
          obtain ⟨u, r, lk⟩ := hl j y v hj' e2b (.inr (.inl kX))
          refine ⟨u, r, ?_⟩
          rcases lk with ⟨k, _⟩ | ⟨_, c, ec, z⟩
          · rw [kX] at k; cases k
          · refine .inr ⟨.inl (relabel_free (by rw [hsx]; exact S.kindX) (S.fr y hm) kX), c, ?_, ?_⟩
            · obtain ⟨c', ec'⟩ := Option.isSome_iff_exists.mp (cl3 y (PySem.mem_of_lookup (S.fr y hm)))
              have := cl1 y c' ec'
              rw [ec] at this; cases this
              exact ec'
            · obtain ⟨o, ho, hd⟩ := z
              exact ⟨o, upH c o (upG c o ho), hd⟩
    · obtain ⟨v, o, ho, hd⟩ := cellO y c e
      exact ⟨v, o, upH c o (upG c o ho), hd⟩
    · have hp' : p = (s2.heap.objs.size, { cls := .type "list", dict := none, data := .seq ([] : List Value).toArray }) := by simpa using hp
      subst hp'
      exact ⟨hacc, HD, DC, Dfs, fun v z => by cases z⟩
  have loop : codeAny (model X.prog X.w) X.A (.compLoop (.ListComp elt [⟨.Name x px, iter, ifs, 0⟩] sc pos) 0 (.ref it) (.ref s2.heap.objs.size) (compEnvC sc (clOf X.env.cells sc.names []) G.objs.size X.env)) (RR (.ref s2.heap.objs.size) G.objs.size) { s2 with heap := h₁, toks := s2.toks + ([] : List (Str × Value)).length } := by
    obtain ⟨m0, w0⟩ := w0
    have fok : ∀ {H' : Hp} {o : Obj}, (∀ b ∈ fp, H' b = none) → ∀ b ∈ fp, FpOk (xc X sc x fv G.objs.size { s2 with heap := G } H2 (s2.heap.objs.size :: fp)) [(s2.heap.objs.size, o)] H' b := fun {H' o} hn b hb => by
      refine ⟨hn b hb, fpC b hb, fpfs b hb, .inl (List.mem_cons_of_mem _ hb), fun y c e => ?_, fun p hp => ?_⟩
      · obtain ⟨_, _, _, _, f4, _⟩ := f2 b hb
        exact f4 y c (cl1 y c e)
      · have hp' : p = (s2.heap.objs.size, o) := by simpa using hp
        subst hp'
        exact (fpD b hb).symm
    refine cmp_loop (fun k st => ∃ (i : Nat) (ys : List V) (its : List Value) (n : Nat) (xv : Option V) (H' : Hp), Inv (xc X sc x fv G.objs.size { s2 with heap := G } H2 (s2.heap.objs.size :: fp)) [(s2.heap.objs.size, { cls := .type "list", data := .seq its.toArray n })] (xv :: pick js σ) H' st ∧
      Vals ys its ∧ ys.length ≤ sizeLine ∧ tn i st.heap ∧ (∀ b ∈ fp, H' b = none) ∧ W i k ys H') ?_ m0
      ⟨0, [], [], _, none, H2, I4, .nil, Nat.zero_le _, T.keep _ _ _ st2 fun b _ o e => upH b o (upG b o e), fun b hb => (f2 b hb).1, w0⟩
    rintro k s3 ⟨i, ys, its, n, xv, H3, I3, rv, hz, st3, fr3, w3⟩
    rcases step i k ys H3 w3 with ⟨stop, q⟩ | ⟨go, N, hN, hgo⟩
    · refine thn (T.done (xc X sc x fv G.objs.size { s2 with heap := G } H2 (s2.heap.objs.size :: fp)) rfl rfl rfl hcalm i _ s3 _ H3 _ I3 (fok fr3) st3 stop) fun r s4 ⟨hr, I4⟩ => ?_
      subst hr
      obtain ⟨pD, pn, _, _, _⟩ := I4.pin _ (List.mem_append_right _ List.mem_cons_self)
      have B := I4.base
      have nD : ∀ b o, s2.heap.get? b = some o → b ∉ fp → b ∉ s2.heap.objs.size :: fp := fun b o e hx hm => (List.mem_cons.mp hm).elim (ltD b o e) hx
      have neH : ∀ b u, H2 b = some u → b ≠ s2.heap.objs.size := fun b u e z => by rw [z, HD] at e; cases e
      have JX : Inv X pins σ (upd H3 s2.heap.objs.size (.lst ys)) s4 := by
        refine I2.call' (ch := fp) I4.os ⟨fun b o e hn hb hx => B.keep b o (upG b o e) hn hb (nD b o e hx), fun b o e hn hb hx => B.slot b o (upG b o e) hn hb (nD b o e hx), fun b o e hn hx => ?_, fun b o e hx => B.there b o (upG b o e) (nD b o e hx), fun b xs e => ?_, fun b o u e => ?_, fun b ps e => ?_⟩ (fun b u e => ?_) I4.bare fun b hb => ?_
        · rw [upd_ne (ltD b o e)]; exact B.free b o (upG b o e) hn (nD b o e hx)
        · rw [upd_ne (neH b _ e)]; exact B.tups b xs e
        · rw [upd_ne (neH b _ e)]; exact B.frzs b o u e
        · rw [upd_ne (neH b _ e)]; exact B.tbls b ps e
        · by_cases hb : b = s2.heap.objs.size
          · subst hb
            rw [upd_same] at e; cases e
            exact ⟨hz, its, n, rv, pD⟩
          · rw [upd_ne hb] at e
            exact (I4.hok b u e).stay (fun _ _ _ z => z) (fun c z => by rw [upd_ne (ne_of_none z pn)]; exact z) fun c xs z => by rw [upd_ne (ne_of_none z pn)]; exact z
        · obtain ⟨_, f1, _, f3, f4, f5⟩ := f2 b hb
          exact ⟨f3, f1, f4, f5⟩
      refine fin _ _ s4 _ JX (q _ pn) (let ⟨m, hm, _⟩ := I4.loc; ⟨m, hm⟩) (I2.fpOk (by rw [hGz]; exact Nat.le_succ _) ?_)
      rw [upd_ne DC.symm]; exact I4.free
    · refine thn (T.item (xc X sc x fv G.objs.size { s2 with heap := G } H2 (s2.heap.objs.size :: fp)) rfl rfl rfl hcalm i _ s3 _ H3 _ I3 (fok fr3) st3 go) fun r s4 ⟨u, hr, h4⟩ => ?_
      subst hr
      refine thn h4 fun _ s5 ⟨y, H5, I5, r5, y5, st5, fr5⟩ => ?_
      have I5' := I5.pinned (fok fr5) (T.obj _ _ st5)
      have gx : PG (xc X sc x fv G.objs.size { s2 with heap := G } H2 (s2.heap.objs.size :: fp)) (.Name x px) (gName 0) := pg_name S.nd rfl (.inl (lookup_relabel_local S.own)) (.inr (lookup_relabel_local S.own))
      refine thn (gx _ s5 _ H5 y u (fun σ6 H6 => σ6 = some y :: pick js σ ∧ H6 = H5) I5' r5 ⟨rfl, rfl⟩) fun _ s6 ⟨σ6, H6, I6, eσ, eH⟩ => ?_
      subst eσ eH
      refine thn (ht _ _ _ _ _ s6 _ _ _ I6 (hgo y _ y5)) fun b s7 ⟨H7, I7, q7⟩ => ?_
      cases b with
      | false =>
        rw [if_neg Bool.false_ne_true] at q7 ⊢
        obtain ⟨m', hm, w7⟩ := hN ys H7 q7
        exact ⟨m', hm, i + 1, ys, its, n, _, H7, I7.unpinned, rv, hz, T.keep _ _ _ st5 fun b hb o e => (I7.pin (b, o) (List.mem_append_right _ (List.mem_append_right _ (mem_pinsAt hb e)))).1, fun b hb => by
          obtain ⟨o, e, d⟩ := T.obj _ _ st5 b hb
          exact (I7.pin (b, o) (List.mem_append_right _ (List.mem_append_right _ (mem_pinsAt hb e)))).2.1, w7⟩
      | true =>
        rw [if_pos rfl] at q7 ⊢
        refine thn (he _ _ _ _ _ s7 _ H7 _ I7 q7) fun u8 s8 ⟨y8, H8, I8, r8, hl8, q8⟩ => ?_
        obtain ⟨m', hm, w8⟩ := hN _ H8 q8
        obtain ⟨pD, pn, pC, pf, _⟩ := I8.pin _ (List.mem_append_right _ (List.mem_append_left _ List.mem_cons_self))
        refine wpAny_list_append_plain (items := its.toArray) ⟨n, pD⟩ (fun h9 hl9 sb9 => ?_) (by rw [List.size_toArray, ← rv.length]; exact Nat.le_of_lt hl8)
        have pinF : ∀ p ∈ pinsAt fp s5.heap, p ∈ [(s2.heap.objs.size, ({ cls := .type "list", data := .seq its.toArray n } : Obj))] ++ pinsAt fp s5.heap := fun p hp => List.mem_append_right _ hp
        have I8a := I8.pins_of (pins' := pinsAt fp s5.heap) fun p hp => I8.pin p (List.mem_append_right _ (pinF p hp))
        have I9 := I8a.turned (it := s2.heap.objs.size) (h' := h9) (t' := s8.toks) (fun b o hb e => (sb9.2 b hb).trans e) pn DC (.inl List.mem_cons_self) (fun y c e => cellD y c e) fun p hp => fpD p.1 (of_pinsAt (by simpa using hp)).1
        obtain ⟨n9, e9⟩ := hl9
        have e9' : h9.get? s2.heap.objs.size = some { cls := .type "list", data := .seq (its ++ [u8]).toArray n9 } := by
          rw [e9, show (its ++ [u8]).toArray = its.toArray.push u8 by simp]
        refine ⟨m', hm, i + 1, ys ++ [y8], its ++ [u8], n9, _, H8, I9.pins_of fun p hp => ?_, rv.append (.cons r8 .nil), by rw [List.length_append]; exact hl8, T.keep _ _ _ st5 fun b hb o e => (I9.pin (b, o) (List.mem_append_right _ (mem_pinsAt hb e))).1, fun b hb => ?_, w8⟩
        · have hp' : p = (s2.heap.objs.size, { cls := .type "list", data := .seq (its ++ [u8]).toArray n9 }) := by simpa using hp
          subst hp'
          exact ⟨e9', pn, DC, pf, fun v z => by cases z⟩
        · obtain ⟨o, e, d⟩ := T.obj _ _ st5 b hb
          exact (I9.pin (b, o) (List.mem_append_right _ (mem_pinsAt hb e))).2.1
  exact codeAny_compStart_list loop (T.self _ 0 _ _ _ (T.keep _ _ _ st2 fun b _ o e => upH b o (upG b o e)) loop)

theorem pe_comp {wi : TI} (scX : Scope) (NX fv : List Str) (js : List Nat) (hNX : X.N = NX) (S : CompSc scX sc NX x fv js) (hsx : X.env.scope = scX) (hcalm : X.calm = true) (hi : PI X (.Name x px) iter wi)
    (ht : ∀ C s0 H0 ex, PIf (xc X sc x fv C s0 H0 ex) ifs tt) (he : ∀ C s0 H0 ex, PE (xc X sc x fv C s0 H0 ex) elt te)
    (hs : ∀ v, foldedSetIterable iter X.env v = pure v := by intro _; rfl) : PE X (.ListComp elt [⟨.Name x px, iter, ifs, 0⟩] sc pos) (tComp wi js tt te) := by
  intro pins s σ H Q I h
  rw [← hNX] at S
  have hfree : ∀ y ∈ sc.names, y.2 = .free → ∃ c, X.env.cells.lookup y.1 = some c := fun y hy hf => I.ok.has y.1 (.inl (by show X.env.scope.names.lookup y.1 = _; rw [hsx]; exact S.free y hy hf))
  rw [eval_ListComp]
  refine wpAny_comprehension_free (use := none) rfl hs (closure_eq hfree) S.kind S.names (thn (hi pins s σ H _ I h) fun v s1 h1 => thn h1 fun itv s2 h2 => ?_)
  obtain ⟨it, fp, tn, J, H2, e, I2, T, st2, f2, W, w0, step⟩ := h2
  subst e
  refine comp_core (RR := fun acc C => compPost (model X.prog X.w) X.A X.xe none (EP X pins σ Q) acc C) S hsx hcalm ht he I2 T st2 f2 w0 step fun D C s' H' I' q ⟨m, hm⟩ hC => ?_
  obtain ⟨f0, f1, _, f3, f4, f5⟩ := hC
  exact ⟨m, hm, fun h' sb => ⟨.ref D, H', I'.turned (t' := s'.toks) (fun b o hb e => (sb.2 b hb).trans e) f0 f1 f3 f4 f5, rfl, q⟩⟩

/-- name = [.. for ..] on one row: the store is within -/
theorem ps_setcomp {wi : TI} {i : Nat} {y : Str} {py spos : Pos} (scX : Scope) (NX fv : List Str) (js : List Nat) (hNX : X.N = NX) (S : CompSc scX sc NX x fv js) (hsx : X.env.scope = scX) (hcalm : X.calm = true) (hi : PI X (.Name x px) iter wi)
    (ht : ∀ C s0 H0 ex, PIf (xc X sc x fv C s0 H0 ex) ifs tt) (he : ∀ C s0 H0 ex, PE (xc X sc x fv C s0 H0 ex) elt te)
    (hN : X.N.Nodup) (hy : X.N[i]? = some y) (hl : X.env.scope.names.lookup y = some .local) (hsw : swapsWith (.ListComp elt [⟨.Name x px, iter, ifs, 0⟩] sc pos) (some (.Name y py)) spos.line X.env = pure true)
    (hs : ∀ v, foldedSetIterable iter X.env v = pure v := by intro _; rfl) : PS X (.Assign [.Name y py] (.ListComp elt [⟨.Name x px, iter, ifs, 0⟩] sc pos) spos) (tAsg (tComp wi js tt te) (gName i)) := by
  intro pins s σ H D I h
  rw [← hNX] at S
  have hfree : ∀ y ∈ sc.names, y.2 = .free → ∃ c, X.env.cells.lookup y.1 = some c := fun y hy hf => I.ok.has y.1 (.inl (by show X.env.scope.names.lookup y.1 = _; rw [hsx]; exact S.free y hy hf))
  rw [exec_Assign_Name_used _ _ _ _ hsw]
  refine wpAny_bind (wpAny_standAt (wpAny_bind ?_))
  show wpAny _ _ (do let _ ← comprehension (.ListComp elt [⟨.Name x px, iter, ifs, 0⟩] sc pos) sc X.env _ (newList []) false (eval iter X.env) (some (assign (.Name y py) X.env))) _ _ s
  refine wpAny_bind (wpAny_mono (wpAny_comprehension_free (use := some (assign (.Name y py) X.env)) (Q := fun _ st => SP X pins D .next st) rfl hs (closure_eq hfree) S.kind S.names
    (thn (hi pins s σ H _ I h) fun v s1 h1 => thn h1 fun itv s2 h2 => ?_)) (fun _ st hq => wpAny_pure (wpAny_pure hq)) fun _ _ e => e)
  obtain ⟨it, fp, tn, J, H2, e, I2, T, st2, f2, W, w0, step⟩ := h2
  subst e
  refine comp_core (Q := fun v H1 => gName i v σ H1 D.nx) (RR := fun acc C => compPost (model X.prog X.w) X.A X.xe (some (assign (.Name y py) X.env)) (fun _ st => SP X pins D .next st) acc C) S hsx hcalm ht he I2 T st2 f2 w0 step fun Dl C s' H' I' q ⟨m, hm⟩ hC => ?_
  obtain ⟨f0, f1, _, f3, f4, f5⟩ := hC
  refine wpAny_assign_Name (store_ok2 I' hN hy (.inl hl) (show RelV (.ref Dl) (.ref Dl) from rfl) (fun s'' I'' ⟨a, sb, ha⟩ => ?_) (.inr hl))
  have aC : C ≠ a := fun z => by
    rcases ha with ha | ha
    · exact f1 (z.trans ha)
    · exact f4 y a ha z.symm
  refine ⟨m, hm.sameBut sb aC, fun h' sb' => ?_⟩
  exact ⟨_, _, I''.turned (t' := s''.toks) (fun b o hb e => (sb'.2 b hb).trans e) f0 f1 f3 f4 f5, q⟩

/-! the forms one uses -/
theorem comp_range {lo : Int} {n : Nat} {σ : St} {H : Hp} {Q : VK} (Pv : Nat → List V → Hp → Prop) (h0 : Pv 0 [] H)
    (hs : ∀ i ys H, i < n → Pv i ys H → tt (some (.int (lo + i)) :: pick js σ) H fun b H2 => if b = true then te (some (.int (lo + i)) :: pick js σ) H2 fun y H3 => ys.length < sizeLine ∧ Pv (i + 1) (ys ++ [y]) H3 else Pv (i + 1) ys H2)
    (hd : ∀ ys H, Pv n ys H → ∀ p, H p = none → Q (.ref p) (upd H p (.lst ys))) :
    tCompB (Itr lo n) js tt te σ H Q := by
  refine ⟨fun i m ys H => m = n - i ∧ i ≤ n ∧ Pv i ys H, ⟨n, by simp, Nat.zero_le _, h0⟩, ?_⟩
  rintro i m ys H ⟨rfl, hi, p⟩
  by_cases hlt : i < n
  · refine .inr ⟨hlt, Pv (i + 1), fun ys' H' p' => ⟨n - (i + 1), by omega, rfl, hlt, p'⟩, fun x H' y => ?_⟩
    obtain ⟨e, y⟩ := y
    subst e y
    exact hs i ys _ hlt p
  · have e : i = n := by omega
    subst e
    exact .inl ⟨Nat.le_refl _, hd ys H p⟩
theorem comp_list {K : PySem.W.Frag} {a : Addr} {xs : List V} {σ : St} {H : Hp} {Q : VK} (Pv : Nat → List V → Hp → Prop) (h0 : Pv 0 [] H) (hl : ∀ i ys H, i ≤ xs.length → Pv i ys H → SqL K H a xs)
    (hs : ∀ i x ys H, xs[i]? = some x → Pv i ys H → tt (some x :: pick js σ) H fun b H2 => if b = true then te (some x :: pick js σ) H2 fun y H3 => ys.length < sizeLine ∧ Pv (i + 1) (ys ++ [y]) H3 else Pv (i + 1) ys H2)
    (hd : ∀ ys H, Pv xs.length ys H → ∀ p, H p = none → Q (.ref p) (upd H p (.lst ys))) :
    tCompB (Itl K a) js tt te σ H Q := by
  refine ⟨fun i m ys H => m = xs.length - i ∧ i ≤ xs.length ∧ Pv i ys H, ⟨xs.length, by simp, Nat.zero_le _, h0⟩, ?_⟩
  rintro i m ys H ⟨rfl, hi, p⟩
  have q := hl i ys H hi p
  by_cases hlt : i < xs.length
  · refine .inr ⟨⟨xs, xs[i], q, by simp [hlt]⟩, Pv (i + 1), fun ys' H' p' => ⟨xs.length - (i + 1), by omega, rfl, hlt, p'⟩, fun x H' y => ?_⟩
    obtain ⟨e, y⟩ := y
    subst e
    exact hs i x ys _ (y xs q) p
  · have e : i = xs.length := by omega
    subst e
    exact .inl ⟨⟨xs, q, Nat.le_refl _⟩, hd ys H p⟩
end
end L2

set_option linter.all false
namespace Mm
open PySem

/-! bits of natural numbers -/
theorem or_xor_and : ∀ (n a b : Nat), a ≤ n → (a ||| b) = (a ^^^ b) + (a &&& b)
  | 0, a, b, h => by
    have : a = 0 := by omega
    subst this
    simp
  | n + 1, a, b, h => by
    by_cases ha : a = 0
    · subst ha; simp
    · have ih := or_xor_and n (a / 2) (b / 2) (by omega)
      have e1 : (a ||| b) / 2 = a / 2 ||| b / 2 := Nat.or_div_two
      have e2 : (a ^^^ b) / 2 = a / 2 ^^^ b / 2 := Nat.xor_div_two
      have e3 : (a &&& b) / 2 = a / 2 &&& b / 2 := Nat.and_div_two
      have m1 : (a ||| b) % 2 = (a % 2 ||| b % 2) := by simpa using Nat.or_mod_two_pow (a := a) (b := b) (n := 1)
      have m2 : (a ^^^ b) % 2 = (a % 2 ^^^ b % 2) := by simpa using Nat.xor_mod_two_pow (a := a) (b := b) (n := 1)
      have m3 : (a &&& b) % 2 = (a % 2 &&& b % 2) := by simpa using Nat.and_mod_two_pow (a := a) (b := b) (n := 1)
      have d : ∀ x < 2, ∀ y < 2, (x ||| y) = (x ^^^ y) + (x &&& y) := by decide
      have dd := d (a % 2) (by omega) (b % 2) (by omega)
      omega
theorem bitAnd_nat (a b : Nat) : Builtin.bitAnd (a : Int) (b : Int) = ((a &&& b : Nat) : Int) := by
  rw [PyProof.Rows.bitAnd_pp (by omega) (by omega)]
  simp
theorem bitOr_nat (a b : Nat) : Builtin.bitOr (a : Int) (b : Int) = ((a ||| b : Nat) : Int) := by
  have ha : ¬ 0 ≤ Builtin.bitNot (a : Int) := by unfold Builtin.bitNot; omega
  have hb : ¬ 0 ≤ Builtin.bitNot (b : Int) := by unfold Builtin.bitNot; omega
  unfold Builtin.bitOr
  rw [PyProof.Rows.bitAnd_nn ha hb, PyProof.Rows.bitNot_bitNot, PyProof.Rows.bitNot_bitNot, PyProof.Rows.bitNot_bitNot]
  simp
theorem bitXor_nat (a b : Nat) : Builtin.bitXor (a : Int) (b : Int) = ((a ^^^ b : Nat) : Int) := by
  unfold Builtin.bitXor
  rw [bitOr_nat, bitAnd_nat]
  have := or_xor_and a a b (Nat.le_refl _)
  omega
theorem bits_nat {a m : Nat} (h : a < 2 ^ m) : (Builtin.Int.intBits (a : Int) : Nat) ≤ m := intBits_le_iff.mpr (by simpa using h)

/-! the number whose bits below N are p's -/
def mk (p : Nat → Bool) : Nat → Nat
  | 0 => 0
  | N + 1 => mk p N + (if p N then 2 ^ N else 0)
theorem testBit_mod (s k : Nat) : s.testBit k = decide (s / 2 ^ k % 2 = 1) := by rw [Nat.testBit_eq_decide_div_mod_eq]

/-! the mask of a switch -/
def sw (k n : Nat) : Nat := mk (fun s => s.testBit k) (2 ^ n)
end Mm

set_option Elab.async false
set_option linter.all false
set_option maxRecDepth 100000
set_option maxHeartbeats 4000000
namespace L2
open PySem PySem.Spec PyProof.Rows
section
variable {X : Cx}
/-! ### shifts of great numbers -/
def CShl (i j : Int) : Prop := 0 ≤ j ∧ ∃ m : Nat, i.natAbs < 2 ^ m ∧ (m : Int) + j ≤ 2 ^ 27
theorem op_shlB : OpR X (binaryOp .LShift) (rI CShl fun i j => .int (i * 2 ^ j.toNat)) := opI fun i j _ _ _ _ _ hc q => by
  obtain ⟨h0, m, hm, hs⟩ := hc
  have hb : (Builtin.Int.intBits i : Nat) ≤ m := intBits_le_iff.mpr hm
  exact lshift_int h0 (by omega) q
/-! ### isinstance(x, T), T a built-in type -/
theorem call_isinst {n : String} : CallR X (.builtin "isinstance") (fun xs H Q => ∃ x t b, xs = [x, .ty n] ∧ TyOf X.K H x t ∧ PySem.W.kitOne X.K t (.type n) = some b ∧ Q (.bl b) H) := by
  intro pins s σ H xs us Q I r h
  obtain ⟨x, t, b, rfl, ty, e, q⟩ := h
  obtain ⟨u, w', rfl, rx, rw'⟩ := vals2 r
  cases (show w' = Value.type n from rw')
  exact isinst_ok I rx ty e fun tk => ⟨.bl b, H, I.tok _, rfl, q⟩
end
theorem bt_len : bootBuiltins "len" = some (.builtin "len") := by decide +kernel
theorem bt_isi : bootBuiltins "isinstance" = some (.builtin "isinstance") := by decide +kernel
theorem bt_int : bootBuiltins "int" = some (.type "int") := by decide +kernel
theorem bt_bool : bootBuiltins "bool" = some (.type "bool") := by decide +kernel
theorem kit_int_bool (K : PySem.W.Frag) : PySem.W.kitOne K (.type "int") (.type "bool") = some false := by rfl
theorem ix_listK {X : Cx} {K : PySem.W.Frag} (h : X.K = K) : IxR X (rIxL K) := by subst h; exact ix_list
theorem pow2 (k : Nat) : (2 : Int) ^ k = ((2 ^ k : Nat) : Int) := by simp
theorem cshl {a n m : Nat} (h : a < 2 ^ m) (hs : m + n ≤ 2 ^ 27) : CShl (a : Int) (n : Int) := ⟨by omega, m, by rw [Int.natAbs_natCast]; exact h, by omega⟩
end L2

set_option Elab.async false
set_option linter.all false
set_option maxRecDepth 100000
set_option maxHeartbeats 4000000
namespace L2
open PySem PySem.Spec PyProof.Rows
section
variable {X : Cx}
/-! ### n.bit_length() -/
theorem mt_bitlen : MtR X "int.bit_length" (fun x xs H Q => ∃ i, x = .int i ∧ xs = [] ∧ Q (.int ((Builtin.Int.intBits i : Nat) : Int)) H) := by
  intro pins s σ H x xs v us Q I rx rs h
  obtain ⟨i, rfl, rfl, q⟩ := h
  obtain ⟨t, rfl⟩ := rx
  cases rs
  exact call_int_bit_length ⟨.int _, H, I.tok _, ⟨_, rfl⟩, q⟩
/-! ### two lists of ints, compared -/
/-! ### all([..]) of truths -/
theorem bl_at {bs : List Bool} {its : List Value} (r : Vals (bs.map V.bl) its) {i : Nat} {v : Value} (e : its[i]? = some v) : v = .bool (bs.getD i false) := by
  have hl := r.length
  have hi : i < its.length := (List.getElem?_eq_some_iff.mp e).1
  rw [List.length_map] at hl
  have hb : (bs.map V.bl)[i]? = some (V.bl (bs.getD i false)) := by
    rw [List.getElem?_map, List.getElem?_eq_getElem (by omega)]
    simp [List.getD_eq_getElem?_getD, List.getElem?_eq_getElem (show i < bs.length by omega)]
  obtain ⟨u, hu, ru⟩ := r.get hb
  rw [e] at hu
  cases hu
  exact ru
/-! ### range(lo, hi, step) -/
end
theorem kit_list_list (K : PySem.W.Frag) : PySem.W.kitOne K (.type "list") (.type "list") = some true := by rfl
theorem bt_list : bootBuiltins "list" = some (.type "list") := by decide +kernel
end L2

set_option Elab.async false
set_option linter.all false
set_option maxRecDepth 100000
set_option maxHeartbeats 4000000
namespace L2
open PySem PySem.Spec PyProof.Rows
section
variable {X : Cx}
/-! ### text[lo:hi] -/
/-! ### find, index -/
/-! ### for-loops over n things that hang on nothing -/
end
end L2

namespace PySem.F
end PySem.F

set_option Elab.async false
set_option linter.all false
set_option maxRecDepth 100000
set_option maxHeartbeats 4000000
namespace PySem
section
variable {prog : Program} {w : World} {A : Around} {E : Value → Shared → Prop} {s : Shared}
def Heap.IsRevS (h : Heap) (a : Addr) (x : Str) (t : Tok) (i : Int) : Prop := ∃ o, h.get? a = some o ∧ o.cls = .type "reversed" ∧ o.data = .fields #[.str x t, rawInt i]
theorem Heap.IsRevS.typeIs {a : Addr} {x : Str} {t : Tok} {i : Int} (y : s.heap.IsRevS a x t i) : s.TypeIs (.ref a) "reversed" := let ⟨o, ho, hc, _⟩ := y; ⟨o, ho, hc⟩
theorem Heap.IsRevS.at {h h' : Heap} {a : Addr} {x : Str} {t : Tok} {i : Int} (y : h.IsRevS a x t i) (e : ∀ o, h.get? a = some o → h'.get? a = some o) : h'.IsRevS a x t i := let ⟨o, ho, r⟩ := y; ⟨o, e _ ho, r⟩
end
end PySem

namespace L2
open PySem PySem.Spec PyProof.Rows
/-! ### for c in reversed(text) -/
section
variable {X : Cx} {tg : Expr}
end
end L2

set_option Elab.async false
set_option linter.all false
set_option maxRecDepth 100000
set_option maxHeartbeats 4000000
namespace L2
open PySem PySem.Spec PyProof.Rows
/-! ### a dict of the module: texts to ints; read alone -/
structure KDict (P : Program) (w : World) (K : PySem.W.Frag) (a : Addr) (kvs : List (Str × Int)) : Prop where
  ns : (a == sysModules) = false
  ob : ∃ (o : Obj) (vs : List (Key × Value)), K.lookup a = some o ∧ o.cls = .type "dict" ∧ o.dict = none ∧ (∀ h : Heap, h.get? a = some o → h.DictOf (mixKind P w) a vs) ∧
    ∀ k : Str, (∀ i, kvs.lookup k = some i → ∃ t, valueAt vs (Sum.inr k : Key) = some (.int i t)) ∧ (kvs.lookup k = none → valueAt vs (Sum.inr k : Key) = none)
section
variable {X : Cx} {a : Addr} {kvs : List (Str × Int)} {x : Str} {p pos apos cpos : Pos} {e f : Expr} {ty tx : TE}
theorem KDict.here {pins : List (Addr × Obj)} {σ : St} {H : Hp} {s : Shared} (D : KDict X.prog X.w X.K a kvs) (I : Inv X pins σ H s) :
    ∃ vs : List (Key × Value), s.heap.DictOf (mixKind X.prog X.w) a vs ∧ (∀ b, Value.ref a = .ref b → ∃ ob, s.heap.get? b = some ob ∧ ob.dict = none) ∧
      ∀ k : Str, (∀ i, kvs.lookup k = some i → ∃ t, valueAt vs (Sum.inr k : Key) = some (.int i t)) ∧ (kvs.lookup k = none → valueAt vs (Sum.inr k : Key) = none) := by
  obtain ⟨o, vs, hk, hc, hd, hh, hv⟩ := D.ob
  have e := I.kIn a o hk
  exact ⟨vs, hh _ e, fun b q => by cases q; exact ⟨o, e, hd⟩, hv⟩
end
end L2

set_option Elab.async false
set_option linter.all false
set_option maxRecDepth 100000
set_option maxHeartbeats 4000000
namespace L2
open PySem PySem.Spec PyProof.Rows
section
variable {X : Cx}
/-! ### range(n) as a thing, list(range(n)) -/
/-! ### isinstance(x, C), C an own class -/
theorem call_isinstC : CallR X (.builtin "isinstance") (fun xs H Q => ∃ x t C b, xs = [x, .ref C] ∧ TyOf X.K H x t ∧ PySem.W.kitOne X.K t (.ref C) = some b ∧ Q (.bl b) H) := by
  intro pins s σ H xs us Q I r h
  obtain ⟨x, t, C, b, rfl, ty, e, q⟩ := h
  obtain ⟨u, w', rfl, rx, rw'⟩ := vals2 r
  cases (show w' = Value.ref C from rw')
  exact isinst_ok I rx ty e fun tk => ⟨.bl b, H, I.tok _, rfl, q⟩
end
end L2

set_option Elab.async false
set_option linter.all false
set_option maxRecDepth 100000
set_option maxHeartbeats 4000000
namespace L2
open PySem PySem.Spec PyProof.Rows
/-! ### f'{e!r}..': some text -/
section
variable {X : Cx}
end
/-! ### an exception that leaves a def -/
/-- a def's body, not a comprehension's block -/
structure Body (X : Cx) : Prop where
  ex : X.ex = []
  stk : X.stack = X.env :: X.outer
  frm : X.env.frame = some X.env.locals
  fn : ∀ x, X.fn x = true
theorem Body.wish {X : Cx} (b : Body X) (E : Value → Shared → Prop) : Body (X.wish E) := ⟨b.ex, b.stk, b.frm, b.fn⟩
section
variable {X : Cx} {pins : List (Addr × Obj)} {σ : St} {H H' : Hp} {s s' : Shared} {B h'' : Heap}
theorem Body.frs (b : Body X) : frs X.stack = X.env.locals :: X.fs := by
  show List.filterMap _ _ = _
  rw [b.stk]
  simp [b.frm, Cx.fs, L2.frs]
theorem Body.old (b : Body X) (I : Inv X pins σ H s) {c : Addr} {o : Obj} (e : X.s₀.heap.get? c = some o) (hc : c ∉ X.fs) : c ∉ L2.frs X.stack := by
  rw [b.frs]
  intro hm
  rcases List.mem_cons.mp hm with z | z
  · exact absurd (Nat.lt_of_lt_of_le (Heap.lt_size e) I.ok.above) (by rw [z]; exact Nat.lt_irrefl _)
  · exact hc z
theorem Body.cell (b : Body X) (I : Inv X pins σ H s) {x : Str} {c : Addr} (e : X.env.cells.lookup x = some c) : c ∉ L2.frs X.stack := by
  rw [b.frs]
  intro hm
  rcases List.mem_cons.mp hm with z | z
  · exact I.cne x c e z
  · obtain ⟨o, ho, _⟩ := (I.ok.funs.mem (show c ∈ X.outer.filterMap (·.frame) from z)).2
    exact absurd (Nat.lt_of_lt_of_le (Heap.lt_size ho) (I.ok.cab x c (b.fn x) e)) (Nat.lt_irrefl _)
/-- the state behind a call that raised, whatever was noted in the frames -/
theorem lands (b : Body X) (I : Inv X pins σ H s) (un : Un (L2.frs X.stack) [] H H' s.heap s'.heap) (hok : HOk X.prog X.w H' s'.heap) (os : s'.os = s.os) (bare : AllBare s'.gens)
    (hB1 : B.StaysIn s'.heap) (hB2 : B.StaysIn h'') (up : s'.heap.UpToSlots h'') (fr : ∀ c ∈ L2.frs X.stack, ∃ o, s'.heap.get? c = some o ∧ ∀ vs, o.data ≠ .fields vs)
    (pres : ∀ c o, s.heap.get? c = some o → c ∉ L2.frs X.stack → ∃ o', B.get? c = some o') (trk : ∀ a o, H' a = some o → ∃ ob, B.get? a = some ob) : Inv X pins σ H' { s' with heap := h'' } := by
  have I' : Inv X pins σ H' s' := I.call' os un hok bare fun c hc => absurd hc (by simp)
  have same : ∀ c o, s'.heap.get? c = some o → (∃ o', B.get? c = some o') → h''.get? c = some o := fun c o e ⟨o', eb⟩ => by
    have := hB1 c o' eb
    rw [e] at this
    cases this
    exact hB2 c _ eb
  have inB : ∀ c o, X.s₀.heap.get? c = some o → c ∉ X.fs → ∃ o', B.get? c = some o' := fun c o e hc => by
    obtain ⟨o1, e1⟩ := I.base.there c o e (by rw [b.ex]; simp)
    exact pres c o1 e1 (b.old I e hc)
  have fsub : ∀ c ∈ X.fs, c ∈ L2.frs X.stack := fun c hc => by rw [b.frs]; exact List.mem_cons_of_mem _ hc
  refine ⟨I'.ok, I'.os, I'.bare, ⟨fun c o q n hb hx => same c o (I'.base.keep c o q n hb hx) (inB c o q hb), fun c o q n hb hx => ?_, I'.base.free, fun c o q hx => ?_, I'.base.tups, I'.base.frzs, I'.base.tbls⟩, ?_, fun x c e => ?_, I'.free, I'.freeC, fun p hp => ?_, fun a o e => ?_, I'.len⟩
  · obtain ⟨sl, e1⟩ := I'.base.slot c o q n hb hx
    obtain ⟨o1, e2, nd⟩ := fr c (fsub c hb)
    rw [e1] at e2
    cases e2
    obtain ⟨sl', e3⟩ := up c _ e1 nd
    exact ⟨sl', e3⟩
  · by_cases hb : c ∈ X.fs
    · obtain ⟨o1, e2, nd⟩ := fr c (fsub c hb)
      obtain ⟨sl', e3⟩ := up c _ e2 nd
      exact ⟨_, e3⟩
    · obtain ⟨o', eb⟩ := inB c o q hb
      exact ⟨o', hB2 c o' eb⟩
  · obtain ⟨m, hn, hl⟩ := I'.loc
    refine ⟨m, up.ns hn, fun i x v e1 e2 e3 => ?_⟩
    obtain ⟨u, r, lk⟩ := hl i x v e1 e2 e3
    refine ⟨u, r, ?_⟩
    rcases lk with z | ⟨k, c, ec, oc, hc, hd⟩
    · exact .inl z
    · obtain ⟨v0, o0, ho0, _⟩ := I.cell x c ec
      exact .inr ⟨k, c, ec, oc, same c oc hc (pres c o0 ho0 (b.cell I ec)), hd⟩
  · obtain ⟨v1, o1, ho1, hd1⟩ := I'.cell x c e
    obtain ⟨v0, o0, ho0, _⟩ := I.cell x c e
    exact ⟨v1, o1, same c o1 ho1 (pres c o0 ho0 (b.cell I e)), hd1⟩
  · obtain ⟨e, n, ne, nf, d⟩ := I'.pin p hp
    obtain ⟨e0, _⟩ := I.pin p hp
    refine ⟨same p.1 p.2 e (pres p.1 p.2 e0 ?_), n, ne, nf, d⟩
    rw [b.frs]
    intro hm
    rcases List.mem_cons.mp hm with z | z
    · exact ne z
    · exact nf z
  · refine (I'.hok a o e).stay (fun c u hc q => same c u q ?_) (fun _ q => q) fun _ _ q => q
    rcases hc with rfl | hc
    · exact trk _ _ e
    · exact trk _ _ hc
theorem frames_of {l : List Env} {h : Heap} (f : h.FunFrames B l) : ∀ c ∈ L2.frs l, ∃ o, h.get? c = some o ∧ ∀ vs, o.data ≠ .fields vs := fun c hc => (f.mem hc).2
end
section
variable {P : Program} {w : World} {K : PySem.W.Frag} {mg : Str → Option Value} {base : Heap} {N : List Str} {qual : Str} {scope : Scope} {f : Addr} {cd : Value} {A : Around} {outer : List Env} {s₀ : Shared} {H₀ : Hp} {E : XK}
theorem body_cx {CX : CXT} : Body (cxOf CX P w K mg base N qual scope f cd A outer s₀ H₀ E) := ⟨rfl, rfl, rfl, fun _ => rfl⟩
theorem obj_is {X : Cx} {pins : List (Addr × Obj)} {σ : St} {H : Hp} {s : Shared} {a : Addr} {o : HO} (I : Inv X pins σ H s) (e : H a = some o) : ∃ ob, s.heap.get? a = some ob := by
  have x := I.hok a o e
  cases o with
  | lst xs => obtain ⟨_, _, _, _, e⟩ := x; exact ⟨_, e⟩
  | tup xs => obtain ⟨_, _, _, o, e, _⟩ := x; exact ⟨_, e⟩
  | dK kvs => obtain ⟨_, _, _, _, o, _, _, e, _⟩ := x; exact ⟨_, e⟩
  | dT kvs => obtain ⟨_, _, _, _, o, _, _, e, _⟩ := x; exact ⟨_, e⟩
  | set S n => obtain ⟨o, _, _, _, e, _⟩ := x; exact ⟨_, e⟩
  | ins C dx fs => obtain ⟨_, _, _, e, _⟩ := x; exact ⟨_, e⟩
  | own y => exact x
  | xd fs => obtain ⟨_, ⟨_, _, _, e, _⟩, _⟩ := x; exact ⟨_, e⟩
  | rng lo hi => obtain ⟨_, _, _, e⟩ := x; exact ⟨_, e⟩
  | frz ob u => exact ⟨_, x.1⟩
  | tbl ps => exact ⟨_, show s.heap.get? a = some _ from x⟩
  | met f y => exact ⟨_, show s.heap.get? a = some _ from x⟩
  | ext φ => exact x.2.1
/-! ### a def that may raise -/
end
/-! ### raise C(..), C an own class of exceptions without an __init__ of its own -/
section
variable {X : Cx}
end
end L2

set_option Elab.async false
set_option linter.all false
set_option maxRecDepth 100000
set_option maxHeartbeats 4000000
namespace L2
open PySem PySem.Spec PyProof.Rows
/-! ### isinstance of an exception: only its class is known -/
section
variable {prog : Program} {w : World} {A : Around} {E : Value → Shared → Prop} {s : Shared} {K : PySem.W.Frag} {x D : Addr} {name : Str}
structure XCls (K : PySem.W.Frag) (D : Addr) : Prop where
  hg : PySem.W.findIn K (.ref D) "__getattribute__" = some (some (.builtin "BaseException.__getattribute__"))
  hk : PySem.W.findIn K (.ref D) "__getattr__" = some none
  hb : PySem.W.mroIn K D (.type "BaseException") = some true
  ha : PySem.W.findIn K (.ref D) "__class__" = some (some (.builtin "object.__class__"))
  hn : PySem.W.specialIn K (.builtin "object.__class__") "__get__" = some (some (.builtin "getset_descriptor.__get__"))
  ht : PySem.W.takesIn K (.builtin "object.__class__") = some true
  hm : PySem.W.mroIn K D (.type "object") = some true
theorem XCls.hc (c : XCls K D) : (PySem.W.clsIn K D).isSome = true := by
  have q := c.hm
  unfold PySem.W.mroIn at q
  cases h : PySem.W.clsIn K D with
  | none => rw [h] at q; cases q
  | some _ => rfl
def HasCls (a : Addr) (cls : Value) (h : Heap) : Prop := ∃ o, h.get? a = some o ∧ o.cls = cls
open PySem.W in
theorem HasCls.type {M : Model} {h : Heap} {cls : Value} (p : HasCls x cls h) : Looks M h (typeOf (.ref x)) cls := by
  obtain ⟨o, h1, h2⟩ := p
  exact h2 ▸ (Looks.ld h1).andThen .now
open PySem.W PySem.Calls Builtin Builtin.ObjectAttr Builtin.Getset_descriptor in
theorem xc_get {R : Result → Shared → Prop} {tp : Value} (X : K.In s.heap) (I : HasCls x (.ref D) s.heap) (hm : mroIn K D (.type "object") = some true)
    (h : R (.ok (.ret (.ref D))) s) : codeAny (model prog w) A (.call (.builtin "getset_descriptor.__get__") ⟨[.builtin "object.__class__", .ref x, tp], []⟩) R s := by
  obtain ⟨hh, g, dr, t, os⟩ := s
  have L0 := I.type (M := model prog w)
  have L1 := looks_mroIn (M := model prog w) X hm
  refine codeAny_call_builtin KF.slot_gs.plain KF.entry_gs (KF.slot_gs.check _ _ _ _ _ _ _ _ KF.type_class (KF.args_gs _ _ _) ?_)
  unfold Builtin.«getset_descriptor.__get__» descrGet
  rw [dga_obj]
  refine wpAny_bind (wpAny_pure ?_)
  unfold descrGetter descrCheckInstance descrNameAndClass isInstance
  simp only [KF.owner_class]
  repeat lk
  refine ⟨Code.quiet_builtin _ (by decide +kernel), codeAny_builtin KF.entry_class ?_⟩
  unfold Builtin.«object.__class__» shownTypeOf
  repeat lk
  exact h
open PySem.W PySem.Calls Builtin Builtin.ObjectAttr in
theorem xc_entry {tk : Tok} {Q : Fin → Shared → Prop} (c : XCls K D) (X : K.In s.heap) (I : HasCls x (.ref D) s.heap) (hq : Q (.done (.ret (.ref D))) s) :
    wpAny (model prog w) A (Builtin.«object.__getattribute__» ⟨[.ref x, .str "__class__" tk], []⟩) Q E s := by
  obtain ⟨hh, gg, d, t, os⟩ := s
  have L0 := I.type (M := model prog w)
  have L1 : Looks (model prog w) hh (find (.ref x) (.ref D) "__class__") (.bind (.builtin "getset_descriptor.__get__") (.builtin "object.__class__")) := by
    have L3 := looks_takesIn (M := model prog w) X c.ht
    exact (looks_findIn X c.ha).andThen ((show Looks (model prog w) hh (getOf (some (.builtin "object.__class__"))) (some (.builtin "getset_descriptor.__get__")) from looks_specialIn X c.hn).andThen ((show Looks (model prog w) hh (dataDescriptor? (some (.builtin "object.__class__")) (some (.builtin "getset_descriptor.__get__"))) (some (.builtin "getset_descriptor.__get__", .builtin "object.__class__")) from L3.andThen .now).andThen (Looks.tag .now)))
  refine wpAny_bind (wpAny_pure (wpAny_bind (wpAny_pure (wpAny_bind (L0.at (wpAny_bind (L1.at ?_)))))))
  show wpAny _ _ (holding [Value.builtin "object.__class__"] (call (.builtin "getset_descriptor.__get__") [.builtin "object.__class__", .ref x, .ref D]) >>= ret) _ _ _
  exact wpAny_bind (wpAny_holding (wpAny_call (xc_get (s := ⟨hh, gg, d, t, os⟩) X I c.hm (wpAny_pure hq))))
open PySem.W PySem.Calls in
theorem xc_check {M : Model} {nameV : Value} {Q : Unit → Shared → Prop} (c : XCls K D) (X : K.In s.heap) (I : HasCls x (.ref D) s.heap) (hq : Q () s) : wpAny M A (checkBuiltinCall "BaseException.__getattribute__" ⟨[.ref x, nameV], []⟩) Q E s := by
  have hk : builtinKind "BaseException.__getattribute__" = some .slot := by decide +kernel
  have hsplit : splitId "BaseException.__getattribute__" = some ("BaseException", "__getattribute__") := by decide +kernel
  have ha := F.args_bexc_ga (.ref x) nameV
  obtain ⟨hh, gg, d, t, os⟩ := s
  have L0 := I.type (M := M)
  have L1 := looks_mroIn (M := M) X c.hb
  have L2 : Looks M hh (isInstance (.ref x) (.type "BaseException")) true := L0.andThen L1
  simp only [checkBuiltinCall, hk, hsplit]
  refine wpAny_bind (L2.at ?_)
  repeat (first | exact hq | wp_step)
open PySem.W PySem.Calls in
theorem xc_class {Q : Option Value → Shared → Prop} (c : XCls K D) (X : K.In s.heap) (I : HasCls x (.ref D) s.heap) (h : Q (some (.ref D)) { s with toks := s.toks + 1 }) : wpAny (model prog w) A (getAttr? (.ref x) "__class__") Q E s := by
  obtain ⟨hh, g, d, t, os⟩ := s
  have L0 := I.type (M := model prog w)
  have L1 := looks_findIn (M := model prog w) X c.hg
  have L2 := looks_findIn (M := model prog w) X c.hk
  unfold getAttr? getAttrBy? getAttrBy
  refine wpAny_bind (wpAny_mkText (wpAny_bind (wpAny_attempt (wpAny_holding (wpAny_bind (L0.at (wpAny_bind (L1.at ?_))))))))
  show wpAny _ _ (getAttrByItsOwn _ _ _ _ _ _) _ _ _
  unfold getAttrByItsOwn
  refine wpAny_bind ((show Looks (model prog w) hh (hookBefore (.ref D)) none from L2).at ?_)
  refine wpAny_bind (wpAny_attempt (wpAny_holding ?_))
  show wpAny _ _ (boundAndCalled _ _ _) _ _ _
  unfold boundAndCalled
  rw [F.excAttr_ValueError.ga.bind]
  refine wpAny_bind (wpAny_pure ?_)
  refine wpAny_call (codeAny_call_builtin F.excAttr_ValueError.ga.plain F.entry_bexc_ga (xc_check (s := ⟨hh, g, d, t + 1, os⟩) c X I (xc_entry (s := ⟨hh, g, d, t + 1, os⟩) c X I ?_)))
  refine handed_on rfl ?_
  exact wpAny_pure h
open PySem.W in
theorem kitx_exc (c : XCls K D) : KitX K (.ref x) (.ref D) (HasCls x (.ref D)) where
  ty := fun _ _ _ I => I.type
  it := fun _ _ X _ => by
    have hcD := c.hc
    unfold clsIn at hcD
    split at hcD
    · rename_i c' d' cd' sl' ho
      intro A' Q' E' s' k q
      unfold isType loadHead
      exact wpAny_bind (wpAny_loadPart (k _ _ (X _ _ ho)) (wpAny_pure q))
    · cases hcD
  ne := fun h tp dd its n sl X htp => by
    have hcD := c.hc
    refine Bool.eq_false_iff.mpr fun q => ?_
    have e : D = tp := Value.ref.inj (beq_iff_eq.mp q)
    subst e
    unfold clsIn at hcD
    split at hcD
    · rename_i c' d' cd' sl' ho
      have z := (X _ _ ho).symm.trans htp
      cases z
    · cases hcD
  ca := fun X I k => xc_class c X I k
end
/-- a caught exception, of which the class is known -/
def excO (a : Addr) (cls : Value) : HO := .ext (HasCls a cls)
section
variable {X : Cx}
theorem exc_has {pins : List (Addr × Obj)} {σ : St} {H : Hp} {s : Shared} {a : Addr} {cls : Value} (I : Inv X pins σ H s) (e : H a = some (excO a cls)) : HasCls a cls s.heap := (show ObjOk X.prog X.w H s.heap a (.ext (HasCls a cls)) from I.hok a _ e).1
/-- isinstance(e, C): C an own class -/
theorem call_isexcC {K : PySem.W.Frag} (hK : X.K = K) : CallR X (.builtin "isinstance") (fun xs H Q => ∃ a D C b, xs = [.ref a, .ref C] ∧ H a = some (excO a (.ref D)) ∧ XCls K D ∧ PySem.W.kitOne K (.ref D) (.ref C) = some b ∧ Q (.bl b) H) := by
  subst hK
  intro pins s σ H xs us Q I r h
  obtain ⟨a, D, C, b, rfl, ha, c, e, q⟩ := h
  obtain ⟨u, w', rfl, rx, rw'⟩ := vals2 r
  cases (show w' = Value.ref C from rw')
  cases (show u = Value.ref a from rx)
  exact PySem.W.kia_one (kitx_exc c) I.kIn (exc_has I ha) e (fun z => nomatch z) fun tk => ⟨.bl b, H, I.tok _, rfl, q⟩
/-- isinstance(e, T): T a built-in type -/
theorem call_isexcT {n : String} {K : PySem.W.Frag} (hK : X.K = K) : CallR X (.builtin "isinstance") (fun xs H Q => ∃ a D b, xs = [.ref a, .ty n] ∧ H a = some (excO a (.ref D)) ∧ XCls K D ∧ PySem.W.kitOne K (.ref D) (.type n) = some b ∧ Q (.bl b) H) := by
  subst hK
  intro pins s σ H xs us Q I r h
  obtain ⟨a, D, b, rfl, ha, c, e, q⟩ := h
  obtain ⟨u, w', rfl, rx, rw'⟩ := vals2 r
  cases (show w' = Value.type n from rw')
  cases (show u = Value.ref a from rx)
  exact PySem.W.kia_one (kitx_exc c) I.kIn (exc_has I ha) e (fun z => nomatch z) fun tk => ⟨.bl b, H, I.tok _, rfl, q⟩
end
/-! ### an expression that may raise, at known local names -/
def PEX (CX : CXT) (X : Cx) (e : Expr) (t : XK → TE) : Prop :=
  ∀ (E : XK) (xe' : Value → Shared → Prop) (pins : List (Addr × Obj)) (s : Shared) (σ : St) (H : Hp) (Q : VK), (∀ H s e s', Inv X pins σ H s → CX X.stack H s E e s' → xe' e s') → Inv X pins σ H s → t E σ H Q →
    wpAny (model X.prog X.w) X.A (eval e X.env) (EP X pins σ Q) xe' s
section
variable {X : Cx} {CX : CXT} {k : Nat} {f C : Addr} {fd : FuncData} {ps : List Str} {sp : Sp} {dvs : List V} {ds : List Value} {x m : Str} {p pos apos : Pos} {e o : Expr} {es : List Expr} {ta : TE} {t : TA}
theorem run_fnX {xe' : Value → Shared → Prop} {E : XK} {pins : List (Addr × Obj)} {σ : St} {H : Hp} {s : Shared} {Q : VK} {us : List Value} {vs : List V} (F : FnOk X.prog X.w X.K X.mg X.base CX k f fd ps sp) (hr : Room k X.A) (hb : Binds X.K fd ps ds) (hd : Vals dvs ds)
    (hx : ∀ H s e s', Inv X pins σ H s → CX X.stack H s E e s' → xe' e s')
    (I : Inv X pins σ H s) (r : Vals vs us) (h : sp (vs ++ dvs) H Q E) : wpAny (model X.prog X.w) X.A (call (.ref f) us) (EP X pins σ Q) xe' s := by
  have r2 : Vals (vs ++ dvs) (us ++ ds) := r.append hd
  have hl : (us ++ ds).length = ps.length := by rw [← r2.length]; exact F.len _ _ _ _ h
  refine wpAny_call (codeAny_mono (F.run X.A X.stack s H ⟨us, []⟩ (us ++ ds) (vs ++ dvs) Q E hr I.env0 (hb s us I.kIn hl) r2 h) fun r s' hq => ?_)
  cases r with
  | error e => exact hx H s e s' I hq
  | ok fl =>
    cases fl with
    | ret u => exact I.after hq
    | next => exact False.elim hq
    | brk => exact False.elim hq
    | cont => exact False.elim hq
theorem pex_call (F : FnOk X.prog X.w X.K X.mg X.base CX k f fd ps sp) (hr : Room k X.A) (hg : Gl X x) (hm : X.mg x = some (.ref f)) (hk : PySem.W.keepIn X.K (.ref f) = true) (hb : Binds X.K fd ps ds) (hd : Vals dvs ds)
    (ha : PA X.nox (e :: es) t) (hdb : (x == ("__debug__" : Str)) = false := by decide) (he : starEach (e :: es) X.env = (false, eval e X.env) :: starEach es X.env := by rfl) (hpl : (backTo pos (starEach es X.env)).any (·.1) = false := by rfl) :
    PEX CX X (.Call (.Name x p) (e :: es) [] pos) (fun E => tCall sp dvs E t) := by
  intro E xe' pins s σ H Q hx I h
  refine wpAny_Call_Name_kw (ld_glob I hg hm ?_ hdb)
  refine PySem.W.callWith_K (h₀ := X.base) I.ok.mod.kin hk (wpAny_mono (ha pos pins s σ H _ (I.wish _) h) (fun us s1 ⟨vs, H1, I1, r, q⟩ => ⟨I1.unwish.kIn, ?_⟩) fun _ _ z => False.elim z) he hpl
  exact run_fnX F hr hb hd hx I1.unwish r q
end
/-! ### try: e except C as n: suite -/
/-- the suite of an except clause: an exception is at hand, none leaves -/
abbrev Cx.hnd (X : Cx) (ea : Addr) : Cx := { X with A := X.A.mark (some (.ref ea)), calm := false, xe := fun _ _ => False }
section
variable {X : Cx} {pins : List (Addr × Obj)} {σ : St} {H : Hp} {s : Shared}
theorem Cx.Ok.hnd (ok : X.Ok) (ea : Addr) : (X.hnd ea).Ok :=
  ⟨ok.mod, ok.kind, ok.glob, ok.blt, ok.above, ok.inj, ok.has, ok.cab, (fun z => nomatch z), ok.frames, ok.stk, ok.exf, ok.bs, ok.bsz, ok.noex, ok.exfs, ok.funs, ok.frf⟩
theorem Inv.hnd (I : Inv X pins σ H s) (ea : Addr) : Inv (X.hnd ea) pins σ H s := ⟨I.ok.hnd ea, I.os, I.bare, I.base, I.loc, I.cell, I.free, I.freeC, I.pin, I.hok, I.len⟩
theorem Inv.unhnd {ea : Addr} (ok : X.Ok) (I : Inv (X.hnd ea) pins σ H s) : Inv X pins σ H s := ⟨ok, I.os, I.bare, I.base, I.loc, I.cell, I.free, I.freeC, I.pin, I.hok, I.len⟩
/-- an object that was there all along is tracked from here on -/
theorem Inv.track (I : Inv X pins σ H s) {a : Addr} {o : HO} (hn : H a = none) (hs : X.s₀.heap.get? a = none) (hl : a ≠ X.env.locals) (hc : ∀ x c, X.env.cells.lookup x = some c → c ≠ a) (hp : ∀ p ∈ X.pn ++ pins, p.1 ≠ a)
    (new : ObjOk X.prog X.w (upd H a o) s.heap a o) : Inv X pins σ (upd H a o) s := by
  have st : ∀ b u, H b = some u → upd H a o b = some u := fun b u e => by rw [upd_ne (ne_of_none e hn)]; exact e
  refine ⟨I.ok, I.os, I.bare, ⟨I.base.keep, I.base.slot, fun b ob e n hx => ?_, I.base.there, fun b xs e => st _ _ (I.base.tups b xs e), fun b ob u e => st _ _ (I.base.frzs b ob u e), fun b ps e => ?_⟩, I.loc, I.cell, ?_, fun x c e => ?_, fun p h => ?_, fun b u e => ?_, I.len⟩
  · rw [upd_ne (fun z => by rw [z, hs] at e; cases e)]; exact I.base.free b ob e n hx
  · obtain ⟨m, e1⟩ := I.base.tbls b ps e
    exact ⟨m, st _ _ e1⟩
  · rw [upd_ne (Ne.symm hl)]; exact I.free
  · rw [upd_ne (hc x c e)]; exact I.freeC x c e
  · obtain ⟨e, n, ne, nf, d⟩ := I.pin p h
    exact ⟨e, by rw [upd_ne (hp p h)]; exact n, ne, nf, d⟩
  · by_cases hb : b = a
    · subst hb
      rw [upd_same] at e
      cases e
      exact new
    · rw [upd_ne hb] at e
      exact (I.hok b u e).stay (fun _ _ _ q => q) (fun c q => st _ _ q) fun c xs q => st _ _ q
/-- the name of an except clause goes -/
theorem goes_ok {M : Model} {A : Around} {E : Value → Shared → Prop} {i : Nat} {n : Str} {pos : Pos} {Q : Unit → Shared → Prop} (I : Inv X pins σ H s) (hN : X.N.Nodup) (hi : X.N[i]? = some n) (hk : X.env.scope.names.lookup n = some .local)
    (h : ∀ s', Inv X pins (σ.set i none) H s' → Q () s') : wpAny M A (do bindName X.env n .none; unbindBehindTheSuite X.env n pos) Q E s := by
  refine wpAny_bind (wpAny_bindName (store_ok (v := .non) I hN hi (.inl hk) rfl (fun s1 I1 => ?_) (.inr hk)))
  unfold unbindBehindTheSuite
  have hcls : (X.env.scope.kind == .class || (X.env.scope.kind == .module && X.env.locals != X.env.globals)) = false := by rw [I.ok.kind]; rfl
  have hiσ : i < σ.length := by rw [I.len]; exact (List.getElem?_eq_some_iff.mp hi).1
  obtain ⟨m, hn, hl⟩ := id I1.loc
  obtain ⟨u, _, lk⟩ := hl i n .non hi (List.getElem?_set_self hiσ) (.inl hk)
  have hm : m n = some u := by
    rcases lk with z | ⟨z | z, _⟩
    · exact z.2
    · rw [show X.env.kindOf n = X.env.scope.names.lookup n from rfl, hk] at z; cases z
    · rw [show X.env.kindOf n = X.env.scope.names.lookup n from rfl, hk] at z; cases z
  obtain ⟨oL, _, _, hoL, _⟩ := id hn
  refine wpAny_onRaise (wpAny_unbindName_local hk hn hm hcls fun h' u' hn' hs => ?_)
  have cne := I1.cne
  refine h _ ⟨I1.ok, I1.os, I1.bare, ⟨fun b o e n hb hx => ?_, fun b o e n hb hx => ?_, I1.base.free, fun b o e hx => ?_, I1.base.tups, I1.base.frzs, I1.base.tbls⟩, ⟨_, hn', fun j y v' e1 e2 e3 => ?_⟩, fun y c e => ?_, I1.free, I1.freeC, fun p hp => ?_, fun b ob e => ?_, by simpa using I.len⟩
  · exact (hs.2 b (Nat.ne_of_lt (Nat.lt_of_lt_of_le (Heap.lt_size e) I.ok.above))).trans (I1.base.keep b o e n hb hx)
  · obtain ⟨sl, e1⟩ := I1.base.slot b o e n hb hx
    exact ⟨sl, (hs.2 b (Nat.ne_of_lt (Nat.lt_of_lt_of_le (Heap.lt_size e) I.ok.above))).trans e1⟩
  · obtain ⟨o', e1⟩ := I1.base.there b o e hx
    exact ⟨o', (hs.2 b (Nat.ne_of_lt (Nat.lt_of_lt_of_le (Heap.lt_size e) I.ok.above))).trans e1⟩
  · by_cases hj : j = i
    · subst hj
      rw [List.getElem?_set_self hiσ] at e2
      cases e2
    · rw [List.getElem?_set_ne (Ne.symm hj)] at e2
      obtain ⟨u', r', q⟩ := hl j y v' e1 (by rw [List.getElem?_set_ne (Ne.symm hj)]; exact e2) e3
      refine ⟨u', r', ?_⟩
      rcases q with ⟨k, e⟩ | ⟨k, c, e, z⟩
      · refine .inl ⟨k, ?_⟩
        have : y ≠ n := fun e => hj (nodup_ix hN e1 (e ▸ hi))
        simp [this, e]
      · exact .inr ⟨k, c, e, z.sameBut hs (cne y c e)⟩
  · obtain ⟨w', z⟩ := I1.cell y c e
    exact ⟨w', z.sameBut hs (cne y c e)⟩
  · obtain ⟨e, n, ne, nf, d⟩ := I1.pin p hp
    exact ⟨(hs.2 p.1 ne).trans e, n, ne, nf, d⟩
  · refine (I1.hok b ob e).stay (fun c w' hc q => (hs.2 c ?_).trans q) (fun _ q => q) fun _ _ q => q
    rintro rfl
    rcases hc with rfl | hc
    · rw [I1.free] at e; cases e
    · rw [I1.free] at hc; cases hc
end
def Ends.unset (D : Ends) (i : Nat) : Ends := { nx := fun σ H => D.nx (σ.set i none) H, rt := D.rt, bk := fun σ H => D.bk (σ.set i none) H, ct := fun σ H => D.ct (σ.set i none) H }
section
variable {X : Cx}
end
end L2

set_option Elab.async false
set_option linter.all false
set_option maxRecDepth 100000
set_option maxHeartbeats 4000000
namespace L2
open PySem PySem.Spec PyProof.Rows
/-! ### a body that may raise while the local names stand as at its start -/
def PSX (CX : CXT) (X : Cx) (sts : List Stmt) (t : XK → TS) : Prop :=
  ∀ (E : XK) (xe' : Value → Shared → Prop) (pins : List (Addr × Obj)) (s : Shared) (σ : St) (H : Hp) (D : Ends), (∀ H s e s', Inv X pins σ H s → CX X.stack H s E e s' → xe' e s') → Inv X pins σ H s → t E D σ H →
    wpAny (model X.prog X.w) X.A (execs sts X.env) (SP X pins D) xe' s
section
variable {X : Cx} {CX : CXT} {e : Expr} {te : XK → TE} {pos : Pos}
theorem psx_expr (he : PEX CX X e te) (hs : swapsWith e none pos.line X.env = pure false := by rfl) : PSX CX X [.Expr e pos] (fun E => tDrop (te E)) := by
  intro E xe' pins s σ H D hx I h
  exact wpAny_execs_cons (wpAny_Expr_any (thn (he E xe' pins s σ H _ hx I h) fun v s1 ⟨x, H1, I1, r1, q1⟩ => wpAny_execs_nil ⟨σ, H1, I1, q1⟩) I.quiet hs)
theorem psx_if {c : Expr} {a b : List Stmt} {tc : TT} {t u : XK → TS} (hc : PT X.nox c tc) (ha : PSX CX X a t) (hb : PSX CX X b u) : PSX CX X [.If c a b pos] (fun E => tIfS tc (t E) (u E)) := by
  intro E xe' pins s σ H D hx I h
  have fin : ∀ f s1, SP X pins D f s1 → (match f with | .next => wpAny (model X.prog X.w) X.A (execs [] X.env) (SP X pins D) xe' s1 | f => SP X pins D f s1) := fun f s1 q => by
    cases f with
    | next => exact wpAny_execs_nil q
    | ret v => exact q
    | brk => exact q
    | cont => exact q
  refine wpAny_execs_cons (wpAny_If (wpAny_mono (hc pins s σ H _ (I.wish _) h) (fun d s1 ⟨H1, I1, q1⟩ => ?_) fun _ _ z => False.elim z))
  cases d with
  | true => exact thn (ha E xe' pins s1 σ H1 D hx I1.unwish q1) fin
  | false => exact thn (hb E xe' pins s1 σ H1 D hx I1.unwish q1) fin
end
/-! ### o.m(..) that may raise -/
section
variable {X : Cx} {CX : CXT} {k : Nat} {f C : Addr} {fd : FuncData} {ps : List Str} {sp : Sp} {dvs : List V} {ds : List Value} {x m : Str} {p pos apos : Pos} {e o : Expr} {es : List Expr} {ta : TE} {t : TA}
end
/-! ### try: body except C as n: suite -/
section
variable {X : Cx}
end
end L2

set_option Elab.async false
set_option linter.all false
set_option maxRecDepth 100000
set_option maxHeartbeats 4000000
namespace L2
open PySem PySem.Spec PyProof.Rows
/-! ### an exception on its way, of which the class and the own dict are known -/
theorem dict_mapFields (o : Obj) (f : Array Value → Array Value) : (o.mapFields f).dict = o.dict := by
  obtain ⟨a, b, c, d⟩ := o
  cases c <;> rfl
def TrD (h base : Heap) (e : Addr) (cls fl : Value) (dd : Option Addr) (cx : Option Value) : Prop :=
  ∃ oe vs T oT ts, h.get? e = some oe ∧ (oe.cls = cls ∧ oe.dict = dd ∧ vs[2]? = cx) ∧ oe.data = .fields vs ∧ vs[1]? = some (.ref T) ∧ base.get? T = none ∧ T ≠ e ∧ h.get? T = some oT ∧ oT.data = .fields ts ∧ ts[3]? = some fl
def FlyD (base : Heap) (l : List Env) (e : Addr) (cls : Value) (dd : Option Addr) (cx : Option Value) (h : Heap) : Prop := base.StaysIn h ∧ base.get? e = none ∧ h.FunFrames base l ∧ TrD h base e cls .none dd cx
def HeldD (base : Heap) (l : List Env) (e : Addr) (cls : Value) (dd : Option Addr) (cx : Option Value) (L : Addr) (h : Heap) : Prop := base.StaysIn h ∧ base.get? e = none ∧ h.FunFrames base l ∧ TrD h base e cls (rawInt L) dd cx
theorem FlyD.there {base h : Heap} {l : List Env} {e : Addr} {cls : Value} {dd : Option Addr} {cx : Option Value} (x : FlyD base l e cls dd cx h) : ∃ ob, h.get? e = some ob ∧ ob.cls = cls ∧ ob.dict = dd := by
  obtain ⟨_, _, _, oe, _, _, _, _, he, hc, _⟩ := x
  exact ⟨oe, he, hc.1, hc.2.1⟩
section
variable {M : Model} {A : Around} {E : Value → Shared → Prop} {s : Shared}
theorem noteEntry {base : Heap} {env : Env} {outer : List Env} {L e : Addr} {oe : Obj} {vs : Array Value} {head : Value} {hadNext : Bool} {Q : Unit → Shared → Prop}
    (hfr : A.frames = some (env :: outer)) (hl : s.heap.FunFrames base (env :: outer)) (hf : env.frame = some L)
    (he : s.heap.get? e = some oe) (hkb : base.StaysIn s.heap) (hen : base.get? e = none) (hd : oe.data = .fields vs) (hsz : 1 < vs.size)
    (h : ∀ h', base.StaysIn h' → h'.FunFrames base (env :: outer) → TrD h' base e oe.cls (rawInt L) oe.dict vs[2]? → s.heap.UpToSlots h' → Q () { s with heap := h' }) :
    wpAny M A (do let a ← frameOf env; let pl ← entryPlaceOf L hadNext; let b ← EntryCells.newEntry head a .none (rawInt L) .none pl; setField (.ref e) 1 b) Q E s := by
  have hene : e ∉ (env :: outer).filterMap (·.frame) := fun hm => by
    obtain ⟨_, o, ho, hnf⟩ := hl.mem hm
    rw [he] at ho; injection ho with ho; subst ho; exact hnf vs hd
  refine wpAny_bind (wpAny_frameOf_fun hfr hl hf fun h₁ hs₁ => wpAny_bind (wpAny_entryPlaceOf fun pl hpl => ?_))
  unfold EntryCells.newEntry newFields
  refine wpAny_bind (wpAny_newObj_type ?_ (hpl.sizeOk5 _ _ _ _ _))
  have he₁ : h₁.get? e = some oe := (hs₁.2.1 e hene).trans he
  have kb₁ : base.StaysIn h₁ := fun b o hbo => (hs₁.2.1 b fun hm => by rw [(hl.mem hm).1] at hbo; cases hbo).trans (hkb b o hbo)
  have hTe : h₁.objs.size ≠ e := Nat.ne_of_gt (Heap.lt_size he₁)
  generalize hot : ({ cls := .type "traceback", dict := none, data := .fields ([head, .ref L, .none, rawInt L, .none] ++ (if pl.isEmpty then List.replicate 6 Value.none else pl)).toArray } : Obj) = ot
  have hotd : ∃ ts, ot.data = .fields ts ∧ ts[3]? = some (rawInt L) := by
    subst hot
    exact ⟨_, rfl, by first | (simp; done) | (rcases hpl with rfl | ⟨_, _, _, _, _, _, _, rfl⟩ <;> simp)⟩
  have hofr : ot.isFreed = false := by subst hot; rfl
  have he₂ := Heap.get?_push_of_some (h := h₁) ot he₁
  refine wpAny_setField he₂ hd hsz ?_
  have hd₃ := Obj.data_mapFields hd (·.setIfInBounds 1 (Value.ref h₁.objs.size))
  have he₃ := Heap.get?_update_self (Obj.mapFields (·.setIfInBounds 1 (Value.ref h₁.objs.size))) he₂ (Obj.isFreed_of_fields hd₃)
  have hT₃ := (Heap.get?_update_other (h₁.push ot) (Obj.mapFields (·.setIfInBounds 1 (Value.ref h₁.objs.size))) (Ne.symm hTe)).trans (Heap.get?_push_size h₁ hofr)
  have keep : ∀ b o, b ≠ e → h₁.get? b = some o → ((h₁.push ot).update e (Obj.mapFields (·.setIfInBounds 1 (Value.ref h₁.objs.size)))).get? b = some o :=
    fun b o hbe hb => by rw [Heap.get?_update_other _ _ (Ne.symm hbe)]; exact Heap.get?_push_of_some _ hb
  have rec' : ∀ b o, s.heap.get? b = some o → (∀ vs, o.data ≠ .fields vs) → b ≠ e := fun b o hb hnf q => by
    rw [q, he] at hb; injection hb with hb; subst hb; exact hnf vs hd
  obtain ⟨ts, ht1, ht2⟩ := hotd
  refine h _ (fun b o hbo => keep b o (fun q => by rw [q, hen] at hbo; cases hbo) (kb₁ b o hbo)) (hl.of_keeps fun b o hb hnf => ?_) ?_ fun b o hb hnf => ?_
  · obtain ⟨sl, hs⟩ := hs₁.2.2 b o hb
    exact ⟨_, keep b _ (rec' b o hb hnf) hs, rfl⟩
  · exact ⟨_, _, h₁.objs.size, _, ts, he₃, ⟨Obj.cls_mapFields _ _, dict_mapFields _ _, by rw [Array.getElem?_setIfInBounds_ne (by decide)]⟩, hd₃, by simp [hsz], kb₁.fresh, hTe, hT₃, ht1, ht2⟩
  · obtain ⟨sl, hs⟩ := hs₁.2.2 b o hb
    exact ⟨sl, keep b _ (rec' b o hb hnf) hs⟩
theorem note_first {base : Heap} {env : Env} {outer : List Env} {L e : Addr} {oe : Obj} {vs : Array Value} {Q : Unit → Shared → Prop}
    (hfr : A.frames = some (env :: outer)) (hl : s.heap.FunFrames base (env :: outer)) (hf : env.frame = some L)
    (he : s.heap.get? e = some oe) (hkb : base.StaysIn s.heap) (hen : base.get? e = none) (hd : oe.data = .fields vs) (h1 : vs[1]? = some .none)
    (h : ∀ h', HeldD base (env :: outer) e oe.cls oe.dict vs[2]? L h' → s.heap.UpToSlots h' → Q () { s with heap := h' }) : wpAny M A (noteFrame (.ref e) env) Q E s := by
  unfold noteFrame
  simp only [hf]
  refine wpAny_bind (wpAny_field he hd h1 ?_)
  rw [if_neg (by decide)]
  exact noteEntry hfr hl hf he hkb hen hd (Array.getElem?_eq_some_iff.mp h1).1 fun h' k1 k2 k3 k4 => h h' ⟨k1, hen, k2, k3⟩ k4
theorem note_on {base : Heap} {env : Env} {outer : List Env} {L e : Addr} {cls : Value} {dd : Option Addr} {cx : Option Value} {Q : Unit → Shared → Prop}
    (hfr : A.frames = some (env :: outer)) (hf : env.frame = some L) (hfl : FlyD base (env :: outer) e cls dd cx s.heap)
    (h : ∀ h', HeldD base (env :: outer) e cls dd cx L h' → s.heap.UpToSlots h' → Q () { s with heap := h' }) : wpAny M A (noteFrame (.ref e) env) Q E s := by
  obtain ⟨hkb, hen, hl, oe, vs, T, oT, ts, he, ⟨rfl, rfl, rfl⟩, hd, h1, hnT, hTe, hT, hdT, h3⟩ := hfl
  unfold noteFrame
  simp only [hf]
  refine wpAny_bind (wpAny_field he hd h1 ?_)
  rw [if_pos (show (Value.ref T != Value.none) = true from by simp)]
  refine wpAny_bind (wpAny_field hT hdT h3 ?_)
  rw [if_neg (show ¬ ((Value.none == rawInt L) = true) from by simp [rawInt])]
  refine wpAny_bind (wpAny_setField hT hdT (Array.getElem?_eq_some_iff.mp h3).1 ?_)
  have other : ∀ b, b ≠ T → (s.heap.update T (Obj.mapFields (·.setIfInBounds 3 Value.none))).get? b = s.heap.get? b := fun b hb => Heap.get?_update_other _ _ (Ne.symm hb)
  have rec' : ∀ b o, s.heap.get? b = some o → (∀ vs, o.data ≠ .fields vs) → b ≠ T := fun b o hb hnf q => by
    rw [q, hT] at hb; injection hb with hb; subst hb; exact hnf ts hdT
  refine noteEntry (s := { s with heap := s.heap.update T (Obj.mapFields (·.setIfInBounds 3 Value.none)) }) hfr (hl.of_keeps fun b o hb hnf => ⟨o, (other b (rec' b o hb hnf)).trans hb, rfl⟩) hf ((other e (Ne.symm hTe)).trans he)
    (fun b o hbo => (other b fun q => by rw [q, hnT] at hbo; cases hbo).trans (hkb b o hbo)) hen hd (Array.getElem?_eq_some_iff.mp h1).1
    fun h' x1 x2 x3 x4 => h h' ⟨x1, hen, x2, x3⟩ fun b o hb hnf => x4 b o ((other b (rec' b o hb hnf)).trans hb) hnf
theorem set_down {base : Heap} {l : List Env} {e : Addr} {cls fl : Value} {dd : Option Addr} {cx : Option Value} {Q : Unit → Shared → Prop}
    (hkb : base.StaysIn s.heap) (hen : base.get? e = none) (hl : s.heap.FunFrames base l) (ht : TrD s.heap base e cls fl dd cx)
    (h : ∀ h', FlyD base l e cls dd cx h' → s.heap.UpToSlots h' → Q () { s with heap := h' }) : wpAny M A (setFlight (.ref e) none) Q E s := by
  obtain ⟨oe, vs, T, oT, ts, he, hcls, hd, h1, hnT, hTe, hT, hdT, h3⟩ := ht
  have hsz3 : 3 < ts.size := (Array.getElem?_eq_some_iff.mp h3).1
  have other : ∀ b, b ≠ T → (s.heap.update T (Obj.mapFields (·.setIfInBounds 3 ((none : Option Addr).elim Value.none fun f => rawInt f)))).get? b = s.heap.get? b :=
    fun b hb => Heap.get?_update_other _ _ (Ne.symm hb)
  have rec' : ∀ b o, s.heap.get? b = some o → (∀ vs, o.data ≠ .fields vs) → b ≠ T := fun b o hb hnf q => by
    rw [q, hT] at hb; injection hb with hb; subst hb; exact hnf ts hdT
  unfold setFlight
  refine wpAny_bind (wpAny_field he hd h1 ?_)
  rw [if_pos (show (Value.ref T != Value.none) = true from by simp)]
  refine wpAny_setField hT hdT hsz3 (h _ ⟨fun b o hbo => (other b fun q => by rw [q, hnT] at hbo; cases hbo).trans (hkb b o hbo), hen,
    hl.of_keeps fun b o hb hnf => ⟨o, (other b (rec' b o hb hnf)).trans hb, rfl⟩, ?_⟩ fun b o hb hnf => ⟨o.slots, (other b (rec' b o hb hnf)).trans hb⟩)
  exact ⟨oe, vs, T, _, _, (other e (Ne.symm hTe)).trans he, hcls, hd, h1, hnT, hTe, Heap.get?_update_self _ hT (Obj.isFreed_of_fields (Obj.data_mapFields hdT _)), Obj.data_mapFields hdT _, by simp [hsz3]⟩
theorem landsD {base : Heap} {l : List Env} {e L : Addr} {cls : Value} {dd : Option Addr} {cx : Option Value} {Q : Unit → Shared → Prop} (hh : HeldD base l e cls dd cx L s.heap)
    (h : ∀ h', FlyD base l e cls dd cx h' → s.heap.UpToSlots h' → Q () { s with heap := h' }) : wpAny M A (setFlight (.ref e) none) Q E s := set_down hh.1 hh.2.1 hh.2.2.1 hh.2.2.2 h
theorem lands_againD {base : Heap} {l : List Env} {e : Addr} {cls : Value} {dd : Option Addr} {cx : Option Value} {Q : Unit → Shared → Prop} (hh : FlyD base l e cls dd cx s.heap)
    (h : ∀ h', FlyD base l e cls dd cx h' → s.heap.UpToSlots h' → Q () { s with heap := h' }) : wpAny M A (setFlight (.ref e) none) Q E s := set_down hh.1 hh.2.1 hh.2.2.1 hh.2.2.2 h
theorem FlyD.out {base h : Heap} {env : Env} {outer : List Env} {e : Addr} {cls : Value} {dd : Option Addr} {cx : Option Value} (x : FlyD base (env :: outer) e cls dd cx h) : FlyD base outer e cls dd cx h := by
  obtain ⟨k1, k2, ⟨_, _, k3⟩, k4⟩ := x
  exact ⟨k1, k2, k3, k4⟩
theorem leaves_firstD {base : Heap} {env : Env} {outer : List Env} {L e : Addr} {oe : Obj} {vs : Array Value} {Q : Unit → Shared → Prop}
    (hfr : A.frames = some (env :: outer)) (hl : s.heap.FunFrames base (env :: outer)) (hf : env.frame = some L)
    (he : s.heap.get? e = some oe) (hkb : base.StaysIn s.heap) (hen : base.get? e = none) (hd : oe.data = .fields vs) (h1 : vs[1]? = some .none)
    (h : ∀ h', FlyD base outer e oe.cls oe.dict vs[2]? h' → s.heap.UpToSlots h' → Q () { s with heap := h' }) : wpAny M A (leaving env (.ref e)) Q E s := by
  unfold leaving
  refine wpAny_bind (note_first hfr hl hf he hkb hen hd h1 fun h1 hh up => ?_)
  exact landsD (s := { s with heap := h1 }) hh fun h2 f2 up2 => h h2 f2.out (up.trans up2)
end
end L2

set_option Elab.async false
set_option linter.all false
set_option maxRecDepth 100000
set_option maxHeartbeats 4000000
namespace L2
open PySem PySem.Spec PyProof.Rows
/-! ### self.f = v where self is a new exception of an own class -/
abbrev bmVE : List Value := [.type "ValueError", .type "Exception", .type "BaseException", .type "object"]
def refsThen : Nat → List Value → Bool
  | 0, l => l == bmVE
  | n + 1, .ref _ :: r => refsThen n r
  | _ + 1, _ => false
theorem refuse_exc (self : Value) : ∀ (n : Nat) (l : List Value), refsThen n l = true → refuseLoop self "__setattr__" l = pure ()
  | 0, l, e => by rw [show l = bmVE from beq_iff_eq.mp e]; exact PySem.F.store_ValueError.passes self
  | n + 1, [], e => by cases e
  | n + 1, v :: r, e => by cases v <;> first | (rw [refuseLoop_ref]; exact refuse_exc self n r e) | cases e
theorem exc_obj : ∀ (n : Nat) (l : List Value), refsThen n l = true → l.contains (.type "object") = true
  | 0, l, e => by rw [show l = bmVE from beq_iff_eq.mp e]; rfl
  | n + 1, [], e => by cases e
  | n + 1, v :: r, e => by cases v <;> first | (rw [List.contains_cons, exc_obj n r e, Bool.or_true]) | cases e
/-- what of the text an own class of exceptions must have whose __init__ sets attributes -/
structure ICls (K : PySem.W.Frag) (C : Addr) : Prop where
  po : (PySem.W.clsIn K C).any (fun cd => refsThen 2 cd.mro) = true
  sa : PySem.W.findIn K (.ref C) "__setattr__" = some (some (.builtin "object.__setattr__"))
  hd : PySem.W.hasDictIn K C = true
section
variable {prog : Program} {w : World} {A : Around} {E : Value → Shared → Prop} {s : Shared} {K : PySem.W.Frag} {x C : Addr} {name : Str} {v : Value}
open PySem.W PySem.Calls Builtin Builtin.ObjectAttr in
theorem osa_exc {R : Result → Shared → Prop} {ox : Obj} {od : Option Obj} {tk : Tok} (X : K.In s.heap) (I : PySem.W.InstAt s.heap x ox C od) (c : ICls K C) (ht : takerIn K C name = some none)
    (h : ∀ b, wpAny (model prog w) A.in1 (storeInOwnDict (.ref x) (.ref C) (.str name tk) name v b)
      (fun fin s' => match fin with | .done f => R (.ok f) s' | .again c' => c'.quiet = true ∧ codeAny (model prog w) A c' R s') (fun e s' => R (.error e) s') s) :
    codeAny (model prog w) A (.call (.builtin "object.__setattr__") ⟨[.ref x, .str name tk, v], []⟩) R s := by
  have SF := PySem.F.store_object
  obtain ⟨cd, hc, ho⟩ := any_some c.po
  have ne : cd.mro.isEmpty = false := by cases q : cd.mro with | nil => rw [q] at ho; cases ho | cons _ _ => rfl
  have sub : Looks (model prog w) s.heap (isInstance (.ref x) (.type "object")) true := I.type.andThen (looks_mroIn X (by unfold mroIn; rw [hc, Option.bind_some, if_neg (by rw [ne]; decide), exc_obj _ _ ho]))
  refine codeAny_call_builtin SF.slot.plain SF.entry (@check_slot (model prog w) _ _ s "object.__setattr__" "object" "__setattr__" (.ref x) [.str name tk, v] [] _ SF.kind SF.split sub (SF.args (.ref x) (.str name tk) v) ?_)
  obtain ⟨attr, ha, hr⟩ := Option.bind_eq_some_iff.mp ht
  have hm : Looks (model prog w) s.heap (mroOf (.ref C)) cd.mro := (looks_clsIn X hc).andThen .now
  have L3 : Looks (model prog w) s.heap (storeTaker? attr) none := by
    cases attr with
    | none => exact .now
    | some a =>
      obtain ⟨b, hb, e⟩ := Option.map_eq_some_iff.mp hr
      refine (looks_takesIn X hb).andThen ?_
      cases b
      · exact .now
      · cases e
  rw [osa_eq, refuse_eq]
  refine wpAny_bind (wpAny_bind (I.type.here (wpAny_bind (hm.here ?_))))
  rw [refuse_exc _ _ _ ho]
  refine wpAny_pure (wpAny_bind (I.type.here (wpAny_bind ((looks_findIn X ha).here (wpAny_bind (L3.here ?_))))))
  exact h _
/-- a new exception: its class, its arguments' tuple, its own dict -/
def ExcN (e C t : Addr) (dd : Option Addr) (h : Heap) : Prop := h.get? e = some { cls := .ref C, dict := dd, data := .fields #[.ref t, .none, .none, .none, .bool false, .none] }
open PySem.W PySem.Calls Builtin Builtin.ObjectAttr in
theorem set_exc1 {t : Addr} {Q : Unit → Shared → Prop} (X : K.In s.heap) (I : ExcN x C t none s.heap) (c : ICls K C) (ht : takerIn K C name = some none)
    (h : ∀ h', h'.Ns1 s.heap.objs.size (fun y => if y = name then some v else none) → ExcN x C t (some s.heap.objs.size) h' → (∀ b o, b ≠ x → s.heap.get? b = some o → h'.get? b = some o) → Q () { s with heap := h', toks := s.toks + 2 }) :
    wpAny (model prog w) A (setAttr (.ref x) name v) Q E s := by
  have J : PySem.W.InstAt s.heap x { cls := .ref C, dict := none, data := .fields #[.ref t, .none, .none, .none, .bool false, .none] } C none := ⟨I, rfl, rfl, True.intro⟩
  refine set_plain X J c.sa (osa_exc (s := { s with toks := s.toks + 1 }) X J c ht fun b => ?_)
  obtain ⟨cd, hc, hd'⟩ := any_some c.hd
  refine wpAny_bind (wpAny_pure (wpAny_bind (wpAny_bind (wpAny_loadPart (s := { s with toks := s.toks + 1 }) I (wpAny_bind (Looks.here (s := { s with toks := s.toks + 1 }) (looks_clsIn X hc) ?_))))))
  rw [hd']
  rw [if_neg (by decide)]
  dsimp only
  refine wpAny_bind (wpAny_alloc ?_)
  have hx : ({ s with toks := s.toks + 1 } : Shared).heap.get? x = some { cls := .ref C, dict := none, data := .fields #[.ref t, .none, .none, .none, .bool false, .none] } := I
  have hx₁ := Heap.get?_push_of_some { cls := .type "dict", data := .dict #[] } hx
  refine wpAny_bind (wpAny_update hx₁ (wpAny_pure ?_))
  have hxs : x ≠ s.heap.objs.size := Nat.ne_of_lt (Heap.lt_size hx)
  refine wpAny_bind (wpAny_pure (wpAny_bind ?_))
  generalize hfo : (fun o : Obj => { cls := o.cls, dict := some s.heap.objs.size, data := o.data, slots := o.slots : Obj }) = fo
  have hgd : ((s.heap.push { cls := .type "dict", data := .dict #[] }).update x fo).get? s.heap.objs.size = some { cls := .type "dict", data := .dict #[] } :=
    (Heap.get?_update_ne _ _ _ _ hxs.symm).trans (Heap.get?_push_at rfl rfl)
  have hnd : ((s.heap.push { cls := .type "dict", data := .dict #[] }).update x fo).Ns s.heap.objs.size (fun _ => none) := ⟨_, #[], _, hgd, rfl, fun e he => absurd he (by simp), fun _ => rfl⟩
  refine wpAny_nsSet1 (s := { s with heap := (s.heap.push { cls := .type "dict", data := .dict #[] }).update x fo, toks := s.toks + 1 }) (Heap.Ns1.of_empty hnd) fun h' hn' hs => ?_
  obtain ⟨oD, esD, epD, hoD, hdD, hcD⟩ := hn'.count (Within.cons name v Within.nil)
  refine wpAny_bind (wpAny_lookBehind hoD (by rw [hdD]; exact pastItsLine_dict (Nat.le_trans hcD (by rw [List.length_cons, List.length_nil, sizeLine_eq]; omega))) ?_)
  refine wpAny_pure (h h' hn' ?_ fun b o hb q => ?_)
  · refine (hs.2 x hxs).trans ((Heap.get?_update_self _ hx₁ ?_).trans ?_)
    · subst hfo; rfl
    · subst hfo; rfl
  · exact (hs.2 b (Nat.ne_of_lt (Heap.lt_size q))).trans ((Heap.get?_update_ne _ _ _ _ hb).trans (Heap.get?_push_of_some _ q))
open PySem.W PySem.Calls Builtin Builtin.ObjectAttr in
theorem set_exc2 {t dx : Addr} {mA : Str → Option Value} {ns : List Str} {Q : Unit → Shared → Prop} (X : K.In s.heap) (I : ExcN x C t (some dx) s.heap) (N : s.heap.Ns1 dx mA) (ne : dx ≠ x) (hw : PySem.Within mA ns) (hsz : ns.length ≤ 1000) (c : ICls K C) (ht : takerIn K C name = some none)
    (h : ∀ h', h'.Ns1 dx (fun y => if y = name then some v else mA y) → Heap.SameBut dx s.heap h' → Q () { s with heap := h', toks := s.toks + 2 }) :
    wpAny (model prog w) A (setAttr (.ref x) name v) Q E s := by
  obtain ⟨od, ho, _⟩ := lookIn_ns N
  have J : PySem.W.InstAt s.heap x { cls := .ref C, dict := some dx, data := .fields #[.ref t, .none, .none, .none, .bool false, .none] } C (some od) := ⟨I, rfl, rfl, ho⟩
  refine set_plain X J c.sa (osa_exc (s := { s with toks := s.toks + 1 }) X J c ht fun b => ?_)
  obtain ⟨cd, hc, hd'⟩ := any_some c.hd
  refine wpAny_bind (wpAny_pure (wpAny_bind (wpAny_bind (wpAny_loadPart (s := { s with toks := s.toks + 1 }) I (wpAny_bind (Looks.here (s := { s with toks := s.toks + 1 }) (looks_clsIn X hc) ?_))))))
  rw [hd']
  refine wpAny_pure (a := some dx) (wpAny_bind (wpAny_pure (wpAny_bind ?_)))
  refine wpAny_nsSet1 (s := { s with toks := s.toks + 1 }) N fun h' hn2 hs2 => ?_
  obtain ⟨oD, esD, epD, hoD, hdD, hcD⟩ := hn2.count (PySem.Within.cons name v hw)
  refine wpAny_bind (wpAny_lookBehind hoD (by rw [hdD]; exact pastItsLine_dict (Nat.le_trans hcD (by rw [List.length_cons, sizeLine_eq]; omega))) ?_)
  exact wpAny_pure (h _ hn2 hs2)
end

/-! ### C(..), C an own class of exceptions with an __init__ of its own -/
theorem ns_some_of {K : PySem.W.Frag} {h : Heap} {N : Addr} {mg : Str → Option Value} {n : Str} {v : Value} (X : K.In h) (G : h.Ns N mg) (e : PySem.W.nsIn K N n = some (some v)) : mg n = some v := by
  obtain ⟨o, es, ep, ho, hd, _, hf⟩ := G
  unfold PySem.W.nsIn at e
  split at e
  case h_2 => cases e
  case h_1 c d es' n' sl q =>
    have := X _ _ q
    rw [ho] at this
    cases this
    cases hd
    split at e
    case h_1 en he =>
      cases e
      rw [← hf]
      unfold nsFind findBy
      rw [← Array.find?_toList, he]
      rfl
    case h_2 => split at e <;> cases e
def excInI (K : PySem.W.Frag) (C : Addr) (bmB : List Value) (newId : String) (f : Addr) : Bool := match K.lookup C with
  | some ⟨.type "type", _, .cls cd, sl⟩ => (match cd.mro, sl.toList with
    | .ref C' :: bm, [_, _, _, _, some (.builtin n), _] => C' == C && n == newId && !cd.hasDel && PySem.W.tailIn K bmB bm && PySem.W.nsOkIn K cd.ns && PySem.W.nsIn K cd.ns "__init__" == some (some (.ref f))
    | _, _ => false)
  | _ => false
theorem own_of_KI {K : PySem.W.Frag} {h : Heap} {C f : Addr} {bmB : List Value} {newId : String} (X : K.In h) (q : excInI K C bmB newId f = true) :
    ∃ bm N nm q bs hdct sn sub ab col dd k0 k1 k2 k3 k5 mN, h.get? C = some (excClassObj nm q C N bs bm hdct sn sub ab col dd k0 k1 k2 k3 k5 newId) ∧ h.Ns N mN ∧ mN "__init__" = some (.ref f) ∧ OwnTail h bmB bm := by
  unfold excInI at q
  split at q
  case h_2 => cases q
  case h_1 dd cd sl ho =>
    split at q
    case h_2 => cases q
    case h_1 C' bm k0 k1 k2 k3 n k5 hm hs =>
      simp only [Bool.and_eq_true, beq_iff_eq, Bool.not_eq_true'] at q
      obtain ⟨⟨⟨⟨⟨e1, e2⟩, e3⟩, e4⟩, e5⟩, e6⟩ := q
      cases cd
      cases sl
      simp only at hm hs e3 e5 e6
      subst e1 e2 e3 hm hs
      have G := Heap.Ns.of_isNs (PySem.W.isNs_of_in X e5)
      exact ⟨_, _, _, _, _, _, _, _, _, _, _, _, _, _, _, _, _, X _ _ ho, G, ns_some_of X G e6, PySem.W.tail_of_in X e4⟩
section
variable {prog : Program} {w : World} {A : Around} {E : Value → Shared → Prop} {h : Heap} {g : Array GenState} {d : Drawn} {t : Nat} {os : OsState}
variable {nm q : Str} {C N : Addr} {bs bm bmB : List Value} {hdct : Bool} {sn : List Str} {sub : List Value} {ab : Bool} {col : Option Bool} {dd : Option Addr} {k0 k1 k2 k3 k5 : Option Value} {B newId initId : String}
theorem made_init (F : ExcBaseFacts B newId initId bmB) (T : OwnTail h bmB bm) {mN : Str → Option Value} {rest : List Value} {fI : Addr} {oI : Obj} {Q : Fin → Shared → Prop}
    (hC : h.get? C = some (excClassObj nm q C N bs bm hdct sn sub ab col dd k0 k1 k2 k3 k5 newId)) (hn : h.Ns N mN) (hi : mN "__init__" = some (.ref fI)) (hfI : h.get? fI = some oI) (hfc : oI.cls = .type "function")
    (hq : ∀ h' e, Heap.MadeExcOf h h' e (.ref C) rest →
      wpAny (model prog w) A (call (.ref fI) (.ref e :: rest)) (fun r s' => r = .none ∧ Q (.done (.ret (.ref e))) s') E ⟨h', g, d, t, os⟩) (hrest : rest.length ≤ sizeLine) :
    wpAny (model prog w) A (Builtin.«type.__call__» ⟨.ref C :: rest, []⟩) Q E ⟨h, g, d, t, os⟩ := by
  repeat (first | with_reducible refine wpAny_loadPart_at hC ?_ | with_reducible refine wpAny_madeBy_exc hC ?_ | wp_step)
  refine codeAny_call_builtin_code (Code.quiet_builtin _ F.quiet) (wpAny_check_new_subT F T hC ?_)
  refine codeAny_exc_new_subT F T hC ?_ hrest
  show wpAny _ _ _ _ _ _
  have kp : ∀ b o, h.get? b = some o → ((h.push { cls := .type "tuple", data := .seq rest.toArray }).push { cls := .ref C, data := .fields #[.ref h.objs.size, .none, .none, .none, .bool false, .none] }).get? b = some o :=
    fun b o e => Heap.get?_push_of_some _ (Heap.get?_push_of_some _ e)
  have hC₁ := kp _ _ hC
  have hfI₁ := kp _ _ hfI
  have hn₁ := hn.keeps kp
  have hget : ((h.push { cls := .type "tuple", data := .seq rest.toArray }).push
      { cls := .ref C, data := .fields #[.ref h.objs.size, .none, .none, .none, .bool false, .none] }).get? (h.objs.size + 1) = some
      { cls := .ref C, data := .fields #[.ref h.objs.size, .none, .none, .none, .bool false, .none] } := by heap_get
  have hcC : (Value.ref C :: bm).contains (.ref C) = true := by simp
  have T₁ := T.keeps kp
  unfold isInstance
  repeat (first | with_reducible refine wpAny_loadPart_at hget ?_ | (with_reducible refine wpAny_isSubtype_exc hC₁ ?_; rw [hcC]) | wp_step)
  show wpAny _ _ (typeLookup (.ref C) _) _ _ _
  refine wpAny_typeLookup_tail hC₁ hn₁ T₁ F.mroIs F.init.lookup ?_
  rw [hi]
  refine wpAny_holding (wpAny_bind ?_)
  unfold bindSpecial
  refine wpAny_bind (wpAny_typeOf (T := "function") ⟨_, hfI₁, hfc⟩ ?_)
  rw [if_pos (by decide)]
  refine wpAny_pure (wpAny_bind (wpAny_mono (hq _ (h.objs.size + 1) ⟨kp, Heap.get?_none_of_le (Nat.le_succ _), h.objs.size, hget, Heap.get?_none_of_le (Nat.le_refl _), ?_⟩) (fun r s' hr => ?_) fun _ _ x => x))
  · exact Heap.get?_push_of_some _ (Heap.get?_push_at rfl rfl)
  · obtain ⟨rfl, hQ⟩ := hr
    wp_walk
    exact hQ
theorem call_init (F : ExcBaseFacts B newId initId bmB) (T : OwnTail h bmB bm) {mN : Str → Option Value} {rest : List Value} {fI : Addr} {oI : Obj} {Q : Value → Shared → Prop}
    (hC : h.get? C = some (excClassObj nm q C N bs bm hdct sn sub ab col dd k0 k1 k2 k3 k5 newId)) (hn : h.Ns N mN) (hi : mN "__init__" = some (.ref fI)) (hfI : h.get? fI = some oI) (hfc : oI.cls = .type "function")
    (hq : ∀ h' e, Heap.MadeExcOf h h' e (.ref C) rest →
      wpAny (model prog w) (A.under (.builtin "type.__call__" ⟨.ref C :: rest, []⟩)) (call (.ref fI) (.ref e :: rest)) (fun r s' => r = .none ∧ Q (.ref e) s') E ⟨h', g, d, t, os⟩) (hrest : rest.length ≤ sizeLine) :
    wpAny (model prog w) A (call (.ref C) rest) Q E ⟨h, g, d, t, os⟩ := by
  have f1 := tc_lookup
  have f2 := tc_bind (.ref C)
  have hT : (⟨h, g, d, t, os⟩ : Shared).TypeIs (.ref C) "type" := ⟨_, hC, rfl⟩
  refine wpAny_call (codeAny_of_tree ?_)
  show wpAny _ _ (callAny (.ref C) _) _ _ _
  repeat (any_goals (first | assumption | with_reducible refine wpAny_loadPart_at hC ?_ | wp_step))
  refine ⟨rfl, ?_⟩
  refine codeAny_call_builtin_at (Code.quiet_builtin _ (by decide +kernel)) entry_typeCall (wpAny_check_type_call_sub hC (made_init (hrest := hrest) F T hC hn hi hfI hfc fun h' e hm => ?_))
  exact hq h' e hm
end
section
variable {M : Model} {A : Around} {E : Value → Shared → Prop} {env : Env}
variable {nm q : Str} {C N : Addr} {bs bm : List Value} {hdct : Bool} {sn : List Str} {sub : List Value} {ab : Bool} {col : Option Bool} {dd : Option Addr} {k0 k1 k2 k3 k5 : Option Value} {newId : String}
theorem raised_made {s : Shared} {x : Sem Value} {Q : Flow → Shared → Prop} (hbase : bm.contains (.type "BaseException") = true) (hh : A.handled = none)
    (h : wpAny M A x (fun v s₁ => ∃ e t ed, v = .ref e ∧ s₁.heap.get? C = some (excClassObj nm q C N bs bm hdct sn sub ab col dd k0 k1 k2 k3 k5 newId) ∧ ExcN e C t ed s₁.heap ∧ E (.ref e) s₁) E s) :
    wpAny M A (raiseStmt env (some x) none) Q E s := by
  have hcB : (Value.ref C :: bm).contains (.type "BaseException") = true := by rw [List.contains_cons, hbase, Bool.or_true]
  unfold raiseStmt
  refine wpAny_bind (wpAny_mono h (fun v s₁ h₁ => ?_) fun _ _ x => x)
  obtain ⟨e, t, ed, rfl, hC, he, hE⟩ := h₁
  obtain ⟨hp, g, d, tk, os⟩ := s₁
  unfold ExcN at he
  repeat (first | with_reducible refine wpAny_loadPart_at he ?_ | with_reducible refine wpAny_loadPart_at hC ?_ | (with_reducible refine wpAny_isSubtype_exc hC ?_; rw [hcB]) | wp_step)
  exact wpAny_raiseNew_none hh hE
end
end L2

set_option Elab.async false
set_option linter.all false
set_option maxRecDepth 100000
set_option maxHeartbeats 4000000
namespace L2
open PySem PySem.Spec PyProof.Rows
section
variable {prog : Program} {w : World} {A : Around} {E : Value → Shared → Prop} {s : Shared} {env : Env}
variable {nm q : Str} {C N : Addr} {bs bm bmB : List Value} {hdct : Bool} {sn : List Str} {sub : List Value} {ab : Bool} {col : Option Bool} {dd : Option Addr} {k0 k1 k2 k3 k5 : Option Value} {B newId initId : String}
theorem raise_init (F : ExcBaseFacts B newId initId bmB) {mN : Str → Option Value} {fI : Addr} {x : Str} {np cpos pos : Pos} {args : List Expr} {Q : Flow → Shared → Prop}
    (hbase : bm.contains (.type "BaseException") = true) (hh : A.handled = none) (hplain : (backTo cpos (starEach args env)).any (·.1) = false) (hi : mN "__init__" = some (.ref fI))
    (h : wpAny (model prog w) A (eval (.Name x np) env) (fun f s₁ => f = .ref C ∧ wpAny (model prog w) A (evalArgs (.ref C) true (backTo cpos (starEach args env)) [])
      (fun a s₂ => a.kw = [] ∧ a.pos.length ≤ sizeLine ∧ s₂.heap.get? C = some (excClassObj nm q C N bs bm hdct sn sub ab col dd k0 k1 k2 k3 k5 newId) ∧ s₂.heap.Ns N mN ∧ OwnTail s₂.heap bmB bm ∧ (∃ oI, s₂.heap.get? fI = some oI ∧ oI.cls = .type "function") ∧
        ∀ h' e, Heap.MadeExcOf s₂.heap h' e (.ref C) a.pos → wpAny (model prog w) (A.under (.builtin "type.__call__" ⟨.ref C :: a.pos, []⟩)) (call (.ref fI) (.ref e :: a.pos))
          (fun r s' => r = .none ∧ (∃ t ed, s'.heap.get? C = some (excClassObj nm q C N bs bm hdct sn sub ab col dd k0 k1 k2 k3 k5 newId) ∧ ExcN e C t ed s'.heap) ∧ E (.ref e) s') E { s₂ with heap := h' }) E s₁) E s) :
    wpAny (model prog w) A (exec (.Raise (some (.Call (.Name x np) args [] cpos)) none pos) env) Q E s := by
  rw [arm_exec_Raise]
  refine wpAny_bind (wpAny_standAt (raised_made (C := C) (nm := nm) (q := q) (N := N) (bs := bs) (bm := bm) (hdct := hdct) (sn := sn) (sub := sub) (ab := ab) (col := col) (dd := dd) (k0 := k0) (k1 := k1) (k2 := k2) (k3 := k3) (k5 := k5) (newId := newId) hbase hh (wpAny_bind (wpAny_mono (wpAny_Call_ofName (wpAny_mono h (fun f s₁ h₁ => ?_) fun _ _ x => x)) (fun v s₃ h₃ => wpAny_bind (wpAny_standAt (wpAny_pure h₃))) fun _ _ x => x))))
  obtain ⟨rfl, h₁⟩ := h₁
  unfold callWith
  refine wpAny_bind (wpAny_holding (wpAny_mono h₁ (fun a s₂ h₂ => wpAny_bind (wpAny_standAt ?_)) fun _ _ x => x))
  obtain ⟨apos, akw⟩ := a
  obtain ⟨hkw, hlen, hC, hn, T, ⟨oI, ho, hoc⟩, h₂⟩ := h₂
  obtain rfl : akw = [] := hkw
  obtain ⟨hp, g, d, tk, os⟩ := s₂
  simp only [hplain]
  refine wpAny_bind (wpAny_keeperOf_exc hC ?_)
  refine wpAny_bind (call_init (hrest := hlen) F T hC hn hi ho hoc fun h' e hm => wpAny_mono (h₂ h' e hm) (fun r s' ⟨hr, ⟨t, ed, hC', hx⟩, hE⟩ => ⟨hr, wpAny_bind (wpAny_holding (wpAny_point (wpAny_pure ?_)))⟩) fun _ _ x => x)
  exact ⟨e, t, ed, rfl, hC', hx, hE⟩
end
/-! ### how an exception leaves a def: its class, its own dict -/
def CX2 (κ : Option Value → Prop) (P : Program) (w : World) : CXT := fun outer H s E e s' => ∃ (ea : Addr) (cls : Value) (dd : Option Addr) (cx : Option Value) (B : Heap) (H' : Hp), e = .ref ea ∧ κ cx ∧ FlyD B outer ea cls dd cx s'.heap ∧
  (∀ b o, s.heap.get? b = some o → b ∉ frs outer → ∃ o', B.get? b = some o') ∧ (∀ a o, H' a = some o → ∃ ob, B.get? a = some ob) ∧ s'.os = s.os ∧ AllBare s'.gens ∧ Un (frs outer) [] H H' s.heap s'.heap ∧ HOk P w H' s'.heap ∧ E cls dd H'
section
variable {X : Cx} {pins : List (Addr × Obj)} {σ : St} {H H' : Hp} {s s' : Shared} {B h'' : Heap}
theorem lands2 (b : Body X) (I : Inv X pins σ H s) (un : Un (L2.frs X.stack) [] H H' s.heap s'.heap) (hok : HOk X.prog X.w H' s'.heap) (os : s'.os = s.os) (bare : AllBare s'.gens)
    (hB1 : B.StaysIn s'.heap) (hB2 : B.StaysIn h'') (up : s'.heap.UpToSlots h'') (fr : ∀ c ∈ L2.frs X.stack, ∃ o, s'.heap.get? c = some o ∧ ∀ vs, o.data ≠ .fields vs)
    (inB : ∀ c o, X.s₀.heap.get? c = some o → c ∉ X.fs → ∃ o', B.get? c = some o') (pres : ∀ c o, s.heap.get? c = some o → H c = none → c ∉ L2.frs X.stack → ∃ o', B.get? c = some o') (trk : ∀ a o, H' a = some o → ∃ ob, B.get? a = some ob) : Inv X pins σ H' { s' with heap := h'' } := by
  have I' : Inv X pins σ H' s' := I.call' os un hok bare fun c hc => absurd hc (by simp)
  have same : ∀ c o, s'.heap.get? c = some o → (∃ o', B.get? c = some o') → h''.get? c = some o := fun c o e ⟨o', eb⟩ => by
    have := hB1 c o' eb
    rw [e] at this
    cases this
    exact hB2 c _ eb
  have fsub : ∀ c ∈ X.fs, c ∈ L2.frs X.stack := fun c hc => by rw [b.frs]; exact List.mem_cons_of_mem _ hc
  refine ⟨I'.ok, I'.os, I'.bare, ⟨fun c o q n hb hx => same c o (I'.base.keep c o q n hb hx) (inB c o q hb), fun c o q n hb hx => ?_, I'.base.free, fun c o q hx => ?_, I'.base.tups, I'.base.frzs, I'.base.tbls⟩, ?_, fun x c e => ?_, I'.free, I'.freeC, fun p hp => ?_, fun a o e => ?_, I'.len⟩
  · obtain ⟨sl, e1⟩ := I'.base.slot c o q n hb hx
    obtain ⟨o1, e2, nd⟩ := fr c (fsub c hb)
    rw [e1] at e2
    cases e2
    obtain ⟨sl', e3⟩ := up c _ e1 nd
    exact ⟨sl', e3⟩
  · by_cases hb : c ∈ X.fs
    · obtain ⟨o1, e2, nd⟩ := fr c (fsub c hb)
      obtain ⟨sl', e3⟩ := up c _ e2 nd
      exact ⟨_, e3⟩
    · obtain ⟨o', eb⟩ := inB c o q hb
      exact ⟨o', hB2 c o' eb⟩
  · obtain ⟨m, hn, hl⟩ := I'.loc
    refine ⟨m, up.ns hn, fun i x v e1 e2 e3 => ?_⟩
    obtain ⟨u, r, lk⟩ := hl i x v e1 e2 e3
    refine ⟨u, r, ?_⟩
    rcases lk with z | ⟨k, c, ec, oc, hc, hd⟩
    · exact .inl z
    · obtain ⟨v0, o0, ho0, _⟩ := I.cell x c ec
      exact .inr ⟨k, c, ec, oc, same c oc hc (pres c o0 ho0 (I.freeC x c ec) (b.cell I ec)), hd⟩
  · obtain ⟨v1, o1, ho1, hd1⟩ := I'.cell x c e
    obtain ⟨v0, o0, ho0, _⟩ := I.cell x c e
    exact ⟨v1, o1, same c o1 ho1 (pres c o0 ho0 (I.freeC x c e) (b.cell I e)), hd1⟩
  · obtain ⟨e, n, ne, nf, d⟩ := I'.pin p hp
    obtain ⟨e0, n0, _⟩ := I.pin p hp
    refine ⟨same p.1 p.2 e (pres p.1 p.2 e0 n0 ?_), n, ne, nf, d⟩
    rw [b.frs]
    intro hm
    rcases List.mem_cons.mp hm with z | z
    · exact ne z
    · exact nf z
  · refine (I'.hok a o e).stay (fun c u hc q => same c u q ?_) (fun _ q => q) fun _ _ q => q
    rcases hc with rfl | hc
    · exact trk _ _ e
    · exact trk _ _ hc
end
def del (H : Hp) (a : Addr) : Hp := fun b => if b = a then none else H b
theorem del_ne {H : Hp} {a b : Addr} (h : b ≠ a) : del H a b = H b := if_neg h
theorem del_same {H : Hp} {a : Addr} : del H a a = none := if_pos rfl
def excN (e C t : Addr) (dd : Option Addr) : HO := .ext (ExcN e C t dd)
theorem excN_ok {P : Program} {w : World} {H : Hp} {h : Heap} {e C t : Addr} {dd : Option Addr} (p : ExcN e C t dd h) : ObjOk P w H h e (excN e C t dd) := ⟨p, ⟨_, p⟩, fun _ _ q k => k _ q⟩
def XdAt (dx : Addr) (fs : List (Str × V)) (h : Heap) : Prop := ∃ mA, h.Ns1 dx mA ∧ ∀ f, RelO (fs.lookup f) (mA f)
def xdO (dx : Addr) (fs : List (Str × V)) : HO := .ext (XdAt dx fs)
theorem XdAt.obj {dx : Addr} {fs : List (Str × V)} {h : Heap} (p : XdAt dx fs h) : ∃ o, h.get? dx = some o := let ⟨_, ⟨o, _, _, e, _⟩, _⟩ := p; ⟨o, e⟩
theorem xd_ok {P : Program} {w : World} {H : Hp} {h : Heap} {dx : Addr} {fs : List (Str × V)} (p : XdAt dx fs h) : ObjOk P w H h dx (xdO dx fs) := ⟨p, p.obj, fun _ _ ⟨mA, n, r⟩ k => ⟨mA, n.at k, r⟩⟩
section
variable {P : Program} {w : World} {K : PySem.W.Frag} {mg : Str → Option Value} {base : Heap} {N : List Str} {qual : Str} {scope : Scope} {f : Addr} {cd : Value} {A : Around} {outer : List Env} {s₀ : Shared} {H₀ : Hp} {E : XK}
/-- an exception that was made here, tracked, goes on out of the def -/
def RaiseOk2 (X : Cx) (E : XK) : Prop := ∀ (pins : List (Addr × Obj)) (σ : St) (H : Hp) (s : Shared) (ea C t : Addr) (dd : Option Addr), Inv X pins σ H s → H ea = some (excN ea C t dd) → X.s₀.heap.get? ea = none → E (.ref C) dd (del H ea) → X.xe (.ref ea) s
theorem raise2 {κ : Option Value → Prop} (h0 : κ (some .none)) : RaiseOk2 (cxOf (CX2 κ P w) P w K mg base N qual scope f cd A outer s₀ H₀ E) E := by
  intro pins σ H s ea C t dd I ha hnew q
  have bd := body_cx (CX := CX2 κ P w) (P := P) (w := w) (K := K) (mg := mg) (base := base) (N := N) (qual := qual) (scope := scope) (f := f) (cd := cd) (A := A) (outer := outer) (s₀ := s₀) (H₀ := H₀) (E := E)
  generalize hX : cxOf (CX2 κ P w) P w K mg base N qual scope f cd A outer s₀ H₀ E = X at I bd hnew
  have px : ExcN ea C t dd s.heap := (show ObjOk X.prog X.w H s.heap ea (.ext (ExcN ea C t dd)) from I.hok ea _ ha).1
  have nst : ea ∉ L2.frs X.stack := fun hm => by rw [I.stkFree ea hm] at ha; cases ha
  have hin : ∀ b o, s.heap.get? b = some o → b ≠ ea → b ∉ L2.frs X.stack → (PySem.W.hideAll s.heap (ea :: L2.frs X.stack)).get? b = some o := fun b o e n1 n2 => PySem.W.hideAll_get _ e (by intro z; rcases List.mem_cons.mp z with z | z; exact n1 z; exact n2 z)
  have hst : (PySem.W.hideAll s.heap (ea :: L2.frs X.stack)).StaysIn s.heap := fun b o e => PySem.W.of_hideAll _ e
  have ff : s.heap.FunFrames (PySem.W.hideAll s.heap (ea :: L2.frs X.stack)) X.stack := PySem.W.funFrames_hide I.stack fun env he a hf => List.mem_cons_of_mem _ (List.mem_filterMap.mpr ⟨env, he, hf⟩)
  have hno : (PySem.W.hideAll s.heap (ea :: L2.frs X.stack)).get? ea = none := PySem.W.hideAll_none _ List.mem_cons_self
  have dl : ∀ b o, H b = some o → (∀ φ, o ≠ .ext φ) → del H ea b = some o := fun b o e n => by rw [del_ne (fun z => n (ExcN ea C t dd) (by rw [z, ha] at e; exact (Option.some.inj e).symm))]; exact e
  have un : Un (L2.frs X.stack) [] H (del H ea) s.heap s.heap := by
    refine ⟨fun b o e _ _ _ => e, fun b o e _ _ _ => ⟨o.slots, e⟩, fun b o e n _ => ?_, fun b o e _ => ⟨o, e⟩, fun b xs e => dl _ _ e (fun _ z => nomatch z), fun b o u e => dl _ _ e (fun _ z => nomatch z), fun b ps e => ⟨#[], by rw [Array.append_empty]; exact dl _ _ e (fun _ z => nomatch z)⟩⟩
    unfold del
    split
    · rfl
    · exact n
  have hok : HOk X.prog X.w (del H ea) s.heap := fun b o e => by
    have hb : b ≠ ea := fun z => by rw [z, del_same] at e; cases e
    rw [del_ne hb] at e
    exact (I.hok b o e).stay (fun _ _ _ z => z) (fun c z => dl _ _ z (fun _ z => nomatch z)) fun c xs z => dl _ _ z (fun _ z => nomatch z)
  have trk : ∀ a o, del H ea a = some o → ∃ ob, (PySem.W.hideAll s.heap (ea :: L2.frs X.stack)).get? a = some ob := fun a o e => by
    have hb : a ≠ ea := fun z => by rw [z, del_same] at e; cases e
    rw [del_ne hb] at e
    obtain ⟨ob, hob⟩ := obj_is I e
    exact ⟨ob, hin a ob hob hb fun hm => by rw [I.stkFree a hm] at e; cases e⟩
  have pres : ∀ b o, X.s₀.heap.get? b = some o → b ∉ X.fs → ∃ o', (PySem.W.hideAll s.heap (ea :: L2.frs X.stack)).get? b = some o' := fun b o e hb => by
    obtain ⟨o1, e1⟩ := I.base.there b o e (by rw [bd.ex]; simp)
    exact ⟨o1, hin b o1 e1 (fun z => by rw [z, hnew] at e; cases e) (bd.old I e hb)⟩
  subst hX
  refine leaves_firstD I.ok.frames ff rfl px hst hno rfl rfl fun h'' fl up => ?_
  have J := lands2 bd I un hok rfl I.bare hst fl.1 up (frames_of ff) pres (fun b o e n hb => ⟨o, hin b o e (fun z => by rw [z, ha] at n; cases n) hb⟩) trk
  exact ⟨ea, .ref C, dd, some .none, _, del H ea, rfl, h0, fl, pres, trk, J.os, J.bare, J.base, J.hok, q⟩
end

/-! ### self.f = v in the __init__ of an exception -/
section
variable {X : Cx} {pins : List (Addr × Obj)} {σ : St} {H : Hp} {s : Shared} {a C t dx : Addr} {fs : List (Str × V)} {f : Str} {A : Around} {E : Value → Shared → Prop}
theorem setx1_ok {y : V} {u : Value} {Q : Unit → Shared → Prop} (bd : Body X) (I : Inv X pins σ H s) (e : H a = some (excN a C t none)) (c : ICls X.K C) (n : NoAttr X.K C f) (ry : RelV y u)
    (h : ∀ dx s', H dx = none → dx ≠ a → Inv X pins σ (upd (upd H a (excN a C t (some dx))) dx (xdO dx [(f, y)])) s' → Q () s') : wpAny (model X.prog X.w) A (setAttr (.ref a) f u) Q E s := by
  have p : ExcN a C t none s.heap := (show ObjOk X.prog X.w H s.heap a (.ext (ExcN a C t none)) from I.hok a _ e).1
  refine set_exc1 I.kIn p c n.taker fun h' N p' kp => ?_
  have hn : H s.heap.objs.size = none := I.hok.fresh (Nat.le_refl _)
  have lt : ∀ {b : Addr} {o : Obj}, s.heap.get? b = some o → b ≠ s.heap.objs.size := fun q => Nat.ne_of_lt (Heap.lt_size q)
  refine h s.heap.objs.size _ hn (lt p).symm ?_
  have I1 : Inv X pins σ (upd H a (excN a C t (some s.heap.objs.size))) { s with heap := h', toks := s.toks + 2 } :=
    I.write (x := a) (e := a) (by rw [e]; exact True.intro) (.inl rfl) (fun b q hb z => kp b q hb z) ⟨_, p'⟩ (excN_ok p')
  refine I1.track (by rw [upd_ne (lt p).symm]; exact hn) ?_ ?_ (fun x c ec z => ?_) (fun p hp z => ?_) (xd_ok ⟨_, N, fun g => ?_⟩)
  · cases z : X.s₀.heap.get? s.heap.objs.size with
    | none => rfl
    | some o =>
      obtain ⟨o1, e1⟩ := I.base.there _ o z (by rw [bd.ex]; simp)
      exact absurd rfl (lt e1)
  · obtain ⟨m, ⟨o, _, _, eo, _⟩, _⟩ := I.loc
    exact (lt eo).symm
  · obtain ⟨_, o0, ho0, _⟩ := I.cell x c ec
    exact lt ho0 z
  · obtain ⟨e0, _⟩ := I.pin p hp
    exact lt e0 z
  · show RelO (List.lookup g [(f, y)]) (if g = f then some u else none)
    by_cases q : g = f
    · rw [if_pos q]
      simp only [List.lookup, beq_iff_eq.mpr q]
      exact ry
    · rw [if_neg q]
      simp only [List.lookup, beq_eq_false_iff_ne.mpr q]
      exact True.intro
theorem within_of {fs : List (Str × V)} {mA : Str → Option Value} (r : ∀ f, RelO (fs.lookup f) (mA f)) : PySem.Within mA (fs.map (·.1)) := fun g hg => by
  cases q : fs.lookup g with
  | none => exact absurd (RelO.none_of (by rw [← q]; exact r g)) hg
  | some v =>
    clear r hg
    induction fs with
    | nil => cases q
    | cons p fs ih =>
      simp only [List.lookup] at q
      split at q
      · rename_i z
        rw [beq_iff_eq.mp z]; exact List.mem_cons_self
      · exact List.mem_cons_of_mem _ (ih q)
theorem setx2_ok {y : V} {u : Value} {Q : Unit → Shared → Prop} (I : Inv X pins σ H s) (e : H a = some (excN a C t (some dx))) (ed : H dx = some (xdO dx fs)) (ne : dx ≠ a) (hl : fs.length ≤ 1000) (c : ICls X.K C) (n : NoAttr X.K C f) (ry : RelV y u)
    (h : ∀ s', Inv X pins σ (upd H dx (xdO dx (putF f y fs))) s' → Q () s') : wpAny (model X.prog X.w) A (setAttr (.ref a) f u) Q E s := by
  have p : ExcN a C t (some dx) s.heap := (show ObjOk X.prog X.w H s.heap a (.ext (ExcN a C t (some dx))) from I.hok a _ e).1
  obtain ⟨mA, N, r⟩ : XdAt dx fs s.heap := (show ObjOk X.prog X.w H s.heap dx (.ext (XdAt dx fs)) from I.hok dx _ ed).1
  refine set_exc2 I.kIn p N ne (within_of r) (by rw [List.length_map]; exact hl) c n.taker fun h' N' sb => h _ ?_
  have xd' : XdAt dx (putF f y fs) h' := ⟨_, N', fun g => by
    show RelO ((putF f y fs).lookup g) (if g = f then some u else mA g)
    rw [lookup_putF]
    by_cases q : g = f
    · rw [if_pos q, if_pos q]; exact ry
    · rw [if_neg q, if_neg q]; exact r g⟩
  exact I.write (x := dx) (e := dx) (by rw [ed]; exact True.intro) (.inl rfl) (fun b q hb z => (sb.2 b hb).trans z) xd'.obj (xd_ok xd')
end
/-- self.f = v -/
def sXfld (K : PySem.W.Frag) (ta tv : TE) (f : Str) : TS := fun D σ H => tv σ H fun y H1 => ta σ H1 fun x H2 => ∃ (a C t : Addr), x = .ref a ∧ ICls K C ∧ NoAttr K C f ∧
  ((H2 a = some (excN a C t none) ∧ ∀ dx, H2 dx = none → dx ≠ a → D.nx σ (upd (upd H2 a (excN a C t (some dx))) dx (xdO dx [(f, y)]))) ∨
   ∃ (dx : Addr) (fs : List (Str × V)), H2 a = some (excN a C t (some dx)) ∧ H2 dx = some (xdO dx fs) ∧ dx ≠ a ∧ fs.length ≤ 1000 ∧ D.nx σ (upd H2 dx (xdO dx (putF f y fs))))
section
variable {X : Cx} {o e value : Expr} {f : Str} {pos pos' tpos : Pos} {ta tv : TE}
theorem ps_xfld (bd : Body X) (ha : PE X o ta) (hv : PE X value tv) (hs : swapsWith value (some (.Attribute o f pos')) pos.line X.env = pure false := by rfl) : PS X (.Assign [.Attribute o f pos'] value pos) (sXfld X.K ta tv f) := by
  intro pins s σ H D I h
  refine plainObj_wpAny_Assign_Attribute (thn (hv pins s σ H _ I h) fun u s1 ⟨y, H1, I1, ry, q⟩ => thn (ha pins s1 σ H1 _ I1 q) fun ov s2 ⟨x, H2, I2, rx, a, C, t, ex, c, n, q2⟩ => ?_) hs
  subst ex
  obtain rfl : ov = Value.ref a := rx
  rcases q2 with ⟨ea, q2⟩ | ⟨dx, fs, ea, ed, ne, hl, q2⟩
  · exact setx1_ok bd I2 ea c n ry fun dx s3 hn ne I3 => ⟨σ, _, I3, q2 dx hn ne⟩
  · exact setx2_ok I2 ea ed ne hl c n ry fun s3 I3 => ⟨σ, _, I3, q2⟩
end
/-! ### raise C(..) -/
/-- C(..) is made, its __init__ run, and it is raised -/
def tRaiseI (E : XK) (C : Addr) (sp : Sp) (t : TA) : TS := fun _ σ H => t σ H fun vs H1 => vs.length ≤ sizeLine ∧ ∀ e tt, H1 e = none → H1 tt = none → e ≠ tt →
  sp (.ref e :: vs) (upd H1 e (excN e C tt none)) (fun v H2 => v = .non ∧ ∃ dd, H2 e = some (excN e C tt dd) ∧ E (.ref C) dd (del H2 e)) E0
structure MkI (K : PySem.W.Frag) (C f : Addr) (bm : List Value) (newId : String) : Prop where
  exc : excInI K C bm newId f = true
  fn : PySem.W.isFn K (.ref f) = true
section
variable {X : Cx}
theorem ps_raiseI {E : XK} {x : Str} {C f : Addr} {fd : FuncData} {ps : List Str} {k : Nat} {sp : Sp} {bm : List Value} {newId initId B : String} {e : Expr} {es : List Expr} {t : TA} {np cpos pos : Pos} (bd : Body X) (hR : RaiseOk2 X E) (hc : X.calm = true) (hg : Gl X x) (hm : X.mg x = some (.ref C))
    (M : MkI X.K C f bm newId) (FB : ExcBaseFacts B newId initId bm) (F : FnOk X.prog X.w X.K X.mg X.base CX0 k f fd ps sp) (hr : Room (k + 1) X.A) (hb : Binds X.K fd ps []) (ha : PA X (e :: es) t) (hdb : (x == ("__debug__" : Str)) = false := by decide)
    (he : starEach (e :: es) X.env = (false, eval e X.env) :: starEach es X.env := by rfl) (hpl : (backTo cpos (starEach es X.env)).any (·.1) = false := by rfl) : PS X (.Raise (some (.Call (.Name x np) (e :: es) [] cpos)) none pos) (tRaiseI E C sp t) := by
  intro pins s σ H D I h
  obtain ⟨tl, N, nm, qn, bs, hdct, sn, sub, ab, col, dd, k0, k1, k2, k3, k5, mN, hC, hN, hni, T⟩ := own_of_KI I.ok.mod.kin M.exc
  refine raise_init (C := C) (nm := nm) (q := qn) (N := N) (bs := bs) (bm := tl) (hdct := hdct) (sn := sn) (sub := sub) (ab := ab) (col := col) (dd := dd) (k0 := k0) (k1 := k1) (k2 := k2) (k3 := k3) (k5 := k5)
    FB (mN := mN) (T.hasType FB.hasBase) (I.ok.hd hc) (by rw [he]; show (false || (backTo cpos (starEach es X.env)).any (·.1)) = false; rw [hpl]; rfl) hni (ld_glob I hg hm ⟨rfl, ?_⟩ hdb)
  have hA := ha cpos pins s σ H _ I h
  rw [he] at hA ⊢
  refine Calls.evalArgs_plain (thn hA fun us s1 ⟨vs, H1, I1, r1, hl, q1⟩ => ⟨rfl, by rw [← r1.length]; exact hl, I1.bk _ _ hC, hN.keeps I1.bk, T.keeps I1.bk, ?_, fun h' ea mx => ?_⟩)
  · have q := beq_iff_eq.mp M.fn
    obtain ⟨o, ho, hoc⟩ := Option.map_eq_some_iff.mp (show (X.K.lookup f).map (·.cls) = some (.type "function") from q)
    exact ⟨o, I1.kIn _ _ ho, hoc⟩
  · obtain ⟨tt, ht, htn, htt⟩ := mx.there
    have lt : ∀ {b : Addr} {o : Obj}, s1.heap.get? b = some o → b ≠ ea := fun q z => by rw [z, mx.new] at q; cases q
    have none_of : ∀ b, s1.heap.get? b = none → H1 b = none := fun b hb => by
      cases z : H1 b with
      | none => rfl
      | some o =>
        obtain ⟨ob, hob⟩ := obj_is I1 z
        rw [hb] at hob
        cases hob
    have net : ea ≠ tt := fun z => by
      rw [z, htt] at ht
      cases ht
    have hs0 : X.s₀.heap.get? ea = none := by
      cases z : X.s₀.heap.get? ea with
      | none => rfl
      | some o =>
        obtain ⟨o1, e1⟩ := I1.base.there _ o z (by rw [bd.ex]; simp)
        exact absurd rfl (lt e1)
    have I1' : Inv X pins σ H1 { s1 with heap := h', toks := s1.toks } := I1.kept mx.keeps
    have I2 : Inv X pins σ (upd H1 ea (excN ea C tt none)) { s1 with heap := h', toks := s1.toks } := by
      refine I1'.track (none_of _ mx.new) hs0 ?_ (fun x c ec z => ?_) (fun p hp z => ?_) (excN_ok ht)
      · obtain ⟨m, ⟨o, _, _, eo, _⟩, _⟩ := I1.loc
        exact (lt eo).symm
      · obtain ⟨_, o0, ho0, _⟩ := I1.cell x c ec
        exact lt ho0 z
      · obtain ⟨e0, _⟩ := I1.pin p hp
        exact lt e0 z
    have hq := q1 ea tt (none_of _ mx.new) (none_of _ htn) net
    have r2 : Vals (V.ref ea :: vs) (Value.ref ea :: us) := .cons rfl r1
    have hl2 : ((Value.ref ea :: us) ++ ([] : List Value)).length = ps.length := by
      rw [List.append_nil, ← r2.length]
      exact F.len _ _ _ _ hq
    have hbb := hb { s1 with heap := h', toks := s1.toks } (Value.ref ea :: us) I2.kIn hl2
    rw [List.append_nil] at hbb
    refine wpAny_call (codeAny_mono (F.run _ X.stack _ _ ⟨Value.ref ea :: us, []⟩ (Value.ref ea :: us) _ _ E0 (hr.make C us []) (I2.env0.make C us []) hbb r2 hq) fun r s' hq' => ?_)
    cases r with
    | error e => exact False.elim hq'
    | ok fl =>
      cases fl with
      | ret u =>
        obtain ⟨v, H', I3, rv, ev, dd', hx, hE⟩ := I2.after hq'
        subst ev
        have px : ExcN ea C tt dd' s'.heap := (show ObjOk X.prog X.w H' s'.heap ea (.ext (ExcN ea C tt dd')) from I3.hok ea _ hx).1
        exact ⟨rv, ⟨tt, dd', I3.bk _ _ hC, px⟩, hR pins σ H' s' ea C tt dd' I3 hx hs0 hE⟩
      | next => exact False.elim hq'
      | brk => exact False.elim hq'
      | cont => exact False.elim hq'
end
end L2

set_option Elab.async false
set_option linter.all false
set_option maxRecDepth 100000
set_option maxHeartbeats 4000000
namespace L2
open PySem PySem.Spec PyProof.Rows
section
variable {P : Program} {w : World} {K : PySem.W.Frag} {mg : Str → Option Value} {base : Heap} {N : List Str} {qual : Str} {scope : Scope} {f : Addr} {cd : Value} {A : Around} {outer : List Env} {s₀ : Shared} {H₀ : Hp} {E : XK}
theorem Fun.ok2 {κ : Option Value → Prop} {x qual : Str} {st : Stmt} {f : Addr} {fd : FuncData} {N ps : List Str} {k : Nat} {sp : Sp} (F : Fun K x qual st f fd) (S : FnScope N ps (defScope st)) (len : ∀ vs H Q E, sp vs H Q E → vs.length = ps.length)
    (hbody : ∀ (cdv : Value) (A : Around) (outer : List Env) (s : Shared) (H : Hp) (vs : List V) (Q : VK) (E : XK), Room k (A.deeper (envOfC qual (defScope st) s.heap.objs.size f cdv)) → sp vs H Q E →
      ∃ t, PSs (cxOf (CX2 κ P w) P w K mg base N qual (defScope st) f cdv A outer s H E) (defBody st) t ∧ t { nx := fun _ H' => Q .non H', rt := Q } (start N vs) H) : FnOk P w K mg base (CX2 κ P w) (k + 1) f fd ps sp := by
  obtain ⟨oc, od, kV, doc, pm, an, cdv, ct, osl, rfl, lk, hcd⟩ := F.ex
  exact fn_of lk hcd S len fun A outer s H vs Q E hr hsp => hbody cdv A outer s H vs Q E hr hsp
end
/-! ### a caught exception: its class, its own dict -/
def HasD (a : Addr) (cls : Value) (dd : Option Addr) (cx : Option Value) (h : Heap) : Prop := ∃ o vs, h.get? a = some o ∧ o.cls = cls ∧ o.dict = dd ∧ o.data = .fields vs ∧ vs[2]? = cx
def excD (a : Addr) (cls : Value) (dd : Option Addr) (cx : Option Value) : HO := .ext (HasD a cls dd cx)
theorem excD_ok {P : Program} {w : World} {H : Hp} {h : Heap} {e : Addr} {cls : Value} {dd : Option Addr} {cx : Option Value} (p : HasD e cls dd cx h) : ObjOk P w H h e (excD e cls dd cx) :=
  ⟨p, let ⟨o, _, q, _⟩ := p; ⟨o, q⟩, fun _ _ ⟨o, vs, q, r⟩ k => ⟨o, vs, k _ q, r⟩⟩
theorem HasD.cls {a : Addr} {cls : Value} {dd : Option Addr} {cx : Option Value} {h : Heap} (p : HasD a cls dd cx h) : HasCls a cls h := let ⟨o, _, q, r, _⟩ := p; ⟨o, q, r⟩
theorem FlyD.has {base h : Heap} {l : List Env} {e : Addr} {cls : Value} {dd : Option Addr} {cx : Option Value} (x : FlyD base l e cls dd cx h) : HasD e cls dd cx h := by
  obtain ⟨_, _, _, oe, vs, _, _, _, he, hc, hd, _⟩ := x
  exact ⟨oe, vs, he, hc.1, hc.2.1, hd, hc.2.2⟩
theorem FlyD.cls {base h : Heap} {l : List Env} {e : Addr} {cls : Value} {dd : Option Addr} {cx : Option Value} (x : FlyD base l e cls dd cx h) : HasCls e cls h := x.has.cls
/-- try: body; except C as n: suite -- C takes whatever may be raised -/
def tTryD (κ : Option Value → Prop) (K : PySem.W.Frag) (C : Addr) (i : Nat) (tb : XK → TS) (ts : TS) : TS := fun D σ H =>
  tb (fun cls dd H1 => PySem.W.exmOne K cls (.ref C) = some true ∧ ∀ ea cx, κ cx → H1 ea = none → ts (D.unset i) (σ.set i (some (.ref ea))) (upd H1 ea (excD ea cls dd cx))) D σ H
section
variable {X : Cx}
theorem ps_tryD {κ : Option Value → Prop} {body : List Stmt} {tb : XK → TS} {x n : Str} {C : Addr} {i : Nat} {b₀ : Stmt} {suite : List Stmt} {ts : TS} {np hpos pos : Pos} (bd : Body X) (hx : PSX (CX2 κ X.prog X.w) X body tb) (hg : Gl X x) (hm : X.mg x = some (.ref C))
    (hN : X.N.Nodup) (hi : X.N[i]? = some n) (hk : X.env.scope.names.lookup n = some .local) (hsu : ∀ ea, PSs (X.hnd ea) (b₀ :: suite) ts) (hdb : (x == ("__debug__" : Str)) = false := by decide) :
    PS X (.Try body [.ExceptHandler (some (.Name x np)) (some n) (b₀ :: suite) hpos] [] [] pos) (tTryD κ X.K C i tb ts) := by
  intro pins s σ H D I h
  refine wpAny_Try_except (thn (hx _ _ pins s σ H D ?_ I h) fun f s1 q => ?_)
  case refine_2 =>
    cases f with
    | next => exact wpAny_execs_nil q
    | ret v => exact q
    | brk => exact q
    | cont => exact q
  intro H0 s0 ev s' I0 hc
  obtain ⟨ea, cls, dd, cx, B, H', rfl, hc0, fl, pres, trk, os, bare, un, hok, hit, q⟩ := hc
  have fr : X.A.frames = some (X.env :: X.outer) := by rw [← bd.stk]; exact I0.ok.frames
  have fl0 : FlyD B (X.env :: X.outer) ea cls dd cx s'.heap := by rw [← bd.stk]; exact fl
  refine note_on fr bd.frm fl0 fun h1 held up1 => ?_
  refine landsD (s := { s' with heap := h1 }) held fun h2 fl2 up2 => ?_
  have J2 : Inv X pins σ H' { s' with heap := h2 } := lands bd I0 un hok os bare fl.1 fl2.1 (up1.trans up2) (frames_of fl.2.2.1) pres trk
  refine wpAny_handleBy_cons (codeAny_handlers_test (ld_glob (J2.hnd ea) hg hm ?_ hdb)) (by intro q; cases q)
  have LT : PySem.W.Looks (model X.prog X.w) h2 (typeOf (.ref ea)) cls := HasCls.type fl2.cls
  refine (PySem.W.exm_one (M := model X.prog X.w) J2.kIn LT hit).here ?_
  refine codeAny_handlers_suite_as ?_
  refine lands_againD (s := { s' with heap := h2 }) fl2 fun h3 fl3 up3 => ?_
  have J3 : Inv X pins σ H' { s' with heap := h3 } := lands bd I0 un hok os bare fl.1 fl3.1 ((up1.trans up2).trans up3) (frames_of fl.2.2.1) pres trk
  have hBn : B.get? ea = none := fl.2.1
  have nst : ea ∉ L2.frs X.stack := fun hm => by
    obtain ⟨o, ho, nd⟩ := frames_of fl.2.2.1 ea hm
    obtain ⟨oe, vs, _, _, _, he, _, hd, _⟩ := fl.2.2.2
    rw [ho] at he
    cases he
    exact nd _ hd
  have hn : H' ea = none := by
    cases z : H' ea with
    | none => rfl
    | some o =>
      obtain ⟨ob, hb⟩ := trk ea o z
      rw [hBn] at hb
      cases hb
  have hs0 : s0.heap.get? ea = none := by
    cases z : s0.heap.get? ea with
    | none => rfl
    | some o =>
      obtain ⟨ob, hb⟩ := pres ea o z nst
      rw [hBn] at hb
      cases hb
  have hsX : X.s₀.heap.get? ea = none := by
    cases z : X.s₀.heap.get? ea with
    | none => rfl
    | some o =>
      obtain ⟨o1, e1⟩ := I0.base.there ea o z (by rw [bd.ex]; simp)
      rw [hs0] at e1
      cases e1
  have J4 : Inv X pins σ (upd H' ea (excD ea cls dd cx)) { s' with heap := h3 } := by
    refine J3.track hn hsX (fun z => nst ?_) (fun y c e z => ?_) (fun p hp z => ?_) (excD_ok fl3.has)
    · rw [bd.frs, z]; exact List.mem_cons_self
    · obtain ⟨_, o0, ho0, _⟩ := I0.cell y c e
      rw [z, hs0] at ho0
      cases ho0
    · obtain ⟨e, _⟩ := I0.pin p hp
      rw [z, hs0] at e
      cases e
  refine store_ok (X := X.hnd ea) (v := .ref ea) (J4.hnd ea) hN hi (.inl hk) rfl (fun s5 J5 => ?_) (.inr hk)
  refine wpAny_mono (hsu ea pins s5 _ _ (D.unset i) J5 (q ea cx hc0 hn)) (fun f s6 z => ?_) fun _ _ z => False.elim z
  cases f with
  | next => obtain ⟨σ6, H6, J6, q6⟩ := z; exact goes_ok (J6.unhnd I.ok) hN hi hk fun s7 J7 => ⟨_, _, J7, q6⟩
  | brk => obtain ⟨σ6, H6, J6, q6⟩ := z; exact goes_ok (J6.unhnd I.ok) hN hi hk fun s7 J7 => ⟨_, _, J7, q6⟩
  | cont => obtain ⟨σ6, H6, J6, q6⟩ := z; exact goes_ok (J6.unhnd I.ok) hN hi hk fun s7 J7 => ⟨_, _, J7, q6⟩
  | ret u => obtain ⟨v6, σ6, H6, J6, r6, q6⟩ := z; exact goes_ok (J6.unhnd I.ok) hN hi hk fun s7 J7 => ⟨_, _, _, J7, r6, q6⟩
theorem excD_has {pins : List (Addr × Obj)} {σ : St} {H : Hp} {s : Shared} {a : Addr} {cls : Value} {dd : Option Addr} {cx : Option Value} (I : Inv X pins σ H s) (e : H a = some (excD a cls dd cx)) : HasD a cls dd cx s.heap := (show ObjOk X.prog X.w H s.heap a (.ext (HasD a cls dd cx)) from I.hok a _ e).1
/-- isinstance(e, C): C an own class -/
theorem call_isexD {K : PySem.W.Frag} (hK : X.K = K) : CallR X (.builtin "isinstance") (fun xs H Q => ∃ a D C dd cx b, xs = [.ref a, .ref C] ∧ H a = some (excD a (.ref D) dd cx) ∧ XCls K D ∧ PySem.W.kitOne K (.ref D) (.ref C) = some b ∧ Q (.bl b) H) := by
  subst hK
  intro pins s σ H xs us Q I r h
  obtain ⟨a, D, C, dd, cx, b, rfl, ha, c, e, q⟩ := h
  obtain ⟨u, w', rfl, rx, rw'⟩ := vals2 r
  cases (show w' = Value.ref C from rw')
  cases (show u = Value.ref a from rx)
  exact PySem.W.kia_one (kitx_exc c) I.kIn (excD_has I ha).cls e (fun z => nomatch z) fun tk => ⟨.bl b, H, I.tok _, rfl, q⟩
end
end L2

set_option Elab.async false
set_option linter.all false
set_option maxRecDepth 100000
set_option maxHeartbeats 4000000
namespace L2
open PySem PySem.Spec PyProof.Rows
/-! ### e.f of a caught exception -/
section
variable {prog : Program} {w : World} {A : Around} {E : Value → Shared → Prop} {s : Shared} {K : PySem.W.Frag} {x D dx : Addr} {name : Str} {v : Value} {mA : Str → Option Value}
theorem HasD.inst {dx : Addr} {cx : Option Value} {h : Heap} (p : HasD x (.ref D) (some dx) cx h) {od : Obj} (ho : h.get? dx = some od) : ∃ ox, PySem.W.InstAt h x ox D (some od) := by
  obtain ⟨o, vs, q, hc, hd, hv, _⟩ := p
  refine ⟨o, q, hc, ?_, ?_⟩
  · obtain ⟨a, b, c, d⟩ := o
    cases hv
    rfl
  · rw [hd]; exact ho
open PySem.W PySem.Calls Builtin Builtin.ObjectAttr in
theorem xc_at {expr : Bool} {cx : Option Value} {Q : Value → Shared → Prop} (c : XCls K D) (hh : PySem.W.hasDictIn K D = true) (na : NoAttr K D name) (X : K.In s.heap) (p : HasD x (.ref D) (some dx) cx s.heap) (N : s.heap.Ns1 dx mA) (hv : mA name = some v) (hv' : PySem.W.handedIn v = true)
    (h : Q v { s with toks := s.toks + 1 }) : wpAny (model prog w) A (getAttr (.ref x) name expr) Q E s := by
  obtain ⟨od, ho, hl⟩ := lookIn_ns N
  obtain ⟨ox, J⟩ := p.inst ho
  have LF := looks_find (M := model prog w) X J (findObj_own hh na rfl (by rw [hl, hv]))
  obtain ⟨hp, g, d, t, os⟩ := s
  have L0 := p.cls.type (M := model prog w)
  have L1 := looks_findIn (M := model prog w) X c.hg
  have L2 := looks_findIn (M := model prog w) X c.hk
  unfold getAttr getAttrBy
  refine wpAny_bind (wpAny_mkText (wpAny_holding (wpAny_bind (L0.at (wpAny_bind (L1.at ?_))))))
  show wpAny _ _ (getAttrByItsOwn _ _ _ _ _ _) _ _ _
  unfold getAttrByItsOwn
  refine wpAny_bind ((show Looks (model prog w) hp (hookBefore (.ref D)) none from L2).at ?_)
  refine wpAny_bind (wpAny_attempt (wpAny_holding ?_))
  unfold callGetattribute
  rw [show (expr && onTheHeap (.builtin "BaseException.__getattribute__")) = false from by cases expr <;> rfl]
  rw [if_neg (by decide)]
  unfold boundAndCalled
  rw [F.excAttr_ValueError.ga.bind]
  refine wpAny_bind (wpAny_pure ?_)
  refine wpAny_call (codeAny_call_builtin F.excAttr_ValueError.ga.plain F.entry_bexc_ga (xc_check (s := ⟨hp, g, d, t + 1, os⟩) c X p.cls ?_))
  refine wpAny_bind (wpAny_pure (wpAny_bind (wpAny_pure (wpAny_bind (L0.at (wpAny_bind (LF.at ?_)))))))
  refine wpAny_pure ?_
  show wpAny _ _ (handedOut v) _ _ _
  rw [handedOut_of hv']
  exact wpAny_pure h
end
section
variable {X : Cx}
/-- e.f -/
def tXfld (K : PySem.W.Frag) (ta : TE) (f : Str) : TE := fun σ H Q => ta σ H fun x H1 => ∃ (a D dx : Addr) (cx : Option Value) (fs : List (Str × V)) (v : V), x = .ref a ∧ H1 a = some (excD a (.ref D) (some dx) cx) ∧ H1 dx = some (xdO dx fs) ∧ XCls K D ∧ PySem.W.hasDictIn K D = true ∧ NoAttr K D f ∧ fs.lookup f = some v ∧ Q v H1
theorem pe_xfld {e : Expr} {f : Str} {pos : Pos} {ta : TE} (he : PE X e ta) (hb : attributeBase e f X.env (eval e X.env) = eval e X.env) : PE X (.Attribute e f pos) (tXfld X.K ta f) := by
  intro pins s σ H Q I h
  refine attr_of hb (thn (he pins s σ H _ I h) fun u s1 ⟨x, H1, I1, rx, a, D, dx, cx, fs, v, ex, ea, ed, c, hh, n, l, q⟩ => ?_)
  subst ex
  obtain rfl : u = Value.ref a := rx
  obtain ⟨mA, N, r⟩ : XdAt dx fs s1.heap := (show ObjOk X.prog X.w H1 s1.heap dx (.ext (XdAt dx fs)) from I1.hok dx _ ed).1
  obtain ⟨u, hu, ru⟩ := RelO.some_of (v := v) (o := mA f) (by rw [← l]; exact r f)
  exact xc_at c hh n I1.kIn (excD_has I1 ea) N hu (handed_of ru) ⟨v, H1, I1.tok _, ru, q⟩
end
end L2

set_option Elab.async false
set_option linter.all false
set_option maxRecDepth 100000
set_option maxHeartbeats 4000000
namespace L2
open PySem PySem.Spec PyProof.Rows
/-! ### a def that may be called within an except suite too (it raises nothing, and makes no use of calm) -/
structure RoomH (k : Nat) (A : Around) : Prop where
  dp : A.depth + 3 * k + 5 < recursionLimit
  un : A.units + 16 * k + 200 < cLine
theorem RoomH.make {k : Nat} {A : Around} (r : RoomH (k + 1) A) (C : Addr) (us : List Value) (kw : List (Str × Value)) : RoomH k (A.under (.builtin "type.__call__" ⟨.ref C :: us, kw⟩)) :=
  ⟨by have := r.dp; rw [make_depth]; omega, by have := r.un; rw [make_units]; omega⟩
theorem Room.mark {k : Nat} {A : Around} (r : Room k A) (v : Option Value) : RoomH k (A.mark v) := ⟨r.dp, r.un⟩
structure FnOkH (P : Program) (w : World) (K : PySem.W.Frag) (mg : Str → Option Value) (base : Heap) (k : Nat) (f : Addr) (fd : FuncData) (ps : List Str) (sp : Sp) : Prop where
  len : ∀ vs H Q E, sp vs H Q E → vs.length = ps.length
  run : ∀ (A : Around) (outer : List Env) (s : Shared) (H : Hp) (args : Args) (us : List Value) (vs : List V) (Q : VK) (E : XK), RoomH k A → Env0 P w K mg base A outer s H → BindsTo s fd args (ps.zip us) → Vals vs us → sp vs H Q E →
    codeAny (model P w) A (.call (.ref f) args) (CR CX0 outer P w H s Q E) s
section
variable {P : Program} {w : World} {K : PySem.W.Frag} {mg : Str → Option Value} {base : Heap}
end
end L2

set_option Elab.async false
set_option linter.all false
set_option maxRecDepth 100000
set_option maxHeartbeats 4000000
namespace L2
open PySem PySem.Spec PyProof.Rows
/-! ### a raise in the suite of an except clause: the caught exception, which has no context, becomes the new one's context -/
section
variable {prog : Program} {w : World} {A : Around} {E : Value → Shared → Prop} {s : Shared}
end

section
variable {M : Model} {A : Around} {E : Value → Shared → Prop} {s : Shared} {base : Heap} {l outer : List Env} {env : Env} {L e : Addr} {cls : Value} {dd : Option Addr} {cx : Option Value} {Q : Unit → Shared → Prop}
end
/-- the suite of an except clause that may raise -/
abbrev Cx.hndR (X : Cx) (ea : Addr) : Cx := { X with A := X.A.mark (some (.ref ea)), calm := false, xe := notedBy (model X.prog X.w) (X.A.mark (some (.ref ea))) X.env (cameBackBy (model X.prog X.w) X.A X.env X.xe) }
section
variable {X : Cx} {pins : List (Addr × Obj)} {σ : St} {H : Hp} {s : Shared}
theorem Cx.Ok.hndR (ok : X.Ok) (ea : Addr) : (X.hndR ea).Ok :=
  ⟨ok.mod, ok.kind, ok.glob, ok.blt, ok.above, ok.inj, ok.has, ok.cab, (fun z => nomatch z), ok.frames, ok.stk, ok.exf, ok.bs, ok.bsz, ok.noex, ok.exfs, ok.funs, ok.frf⟩
theorem Inv.hndR (I : Inv X pins σ H s) (ea : Addr) : Inv (X.hndR ea) pins σ H s := ⟨I.ok.hndR ea, I.os, I.bare, I.base, I.loc, I.cell, I.free, I.freeC, I.pin, I.hok, I.len⟩
end
section
variable {P : Program} {w : World} {K : PySem.W.Frag} {mg : Str → Option Value} {base : Heap} {N : List Str} {qual : Str} {scope : Scope} {f : Addr} {cd : Value} {A : Around} {outer : List Env} {s₀ : Shared} {H₀ : Hp} {E : XK}
end

section
variable {prog : Program} {w : World} {A : Around} {E : Value → Shared → Prop} {env : Env}
variable {nm q : Str} {C N : Addr} {bs bm bmB : List Value} {hdct : Bool} {sn : List Str} {sub : List Value} {ab : Bool} {col : Option Bool} {dd : Option Addr} {k0 k1 k2 k3 k5 : Option Value} {B newId initId : String}
end
section
variable {X : Cx}
end
end L2

set_option Elab.async false
set_option linter.all false
set_option maxRecDepth 100000
set_option maxHeartbeats 4000000
namespace L2
open PySem PySem.Spec PyProof.Rows
/-! ### comprehensions whose target is any one (a tuple of names) -/
theorem cmp_loop2 {prog : Program} {w : World} {A : Around} {R : Result → Shared → Prop} {s : Shared} {elt iter : Expr} {tg : Expr} {ifs : List Expr} {sc : Scope} {pos : Pos} {it acc : Value} {env : Env} (J : Nat → Shared → Prop)
    (one : ∀ k st, J k st → wpAny (model prog w) A (pyNext it) (fun r s₁ => match r with
      | none => R (.ok .next) s₁
      | some v => wpAny (model prog w) A (letOwnedTupleGo tg it v) (fun _ sg => wpAny (model prog w) A (assign tg env v) (fun _ s₂ =>
          wpAny (model prog w) A (cmpTests ifs env) (fun ok s₃ =>
            if ok = true then wpAny (model prog w) A (eval elt env) (fun y s₄ => wpAny (model prog w) A (call (.builtin "list.append") [acc, y]) (fun _ s₅ => ∃ m, m < k ∧ J m s₅) (fun _ _ => False) s₄) (fun _ _ => False) s₃
            else ∃ m, m < k ∧ J m s₃) (fun _ _ => False) s₂) (fun _ _ => False) sg) (fun _ _ => False) s₁) (fun _ _ => False) st)
    (k0 : Nat) (h0 : J k0 s) : codeAny (model prog w) A (.compLoop (.ListComp elt [⟨tg, iter, ifs, 0⟩] sc pos) 0 it acc env) R s := by
  refine codeAny_loop rfl J (fun k st hk => ?_) k0 h0
  show wpAny _ A ((compTurn (.ListComp elt [⟨tg, iter, ifs, 0⟩] sc pos) 0 it acc env).onRaise (fun y => do noteFrame y env; theTreesLotGoes y)) _ _ st
  refine wpAny_noted ?_
  rw [compTurn_list]
  refine wpAny_bind (wpAny_standAt (wpAny_bind (wpAny_mono (one k st hk) (fun r s₁ h₁ => ?_) fun _ _ z => z.elim)))
  cases r with
  | none => exact wpAny_pure h₁
  | some v =>
    refine wpAny_bind (wpAny_mono h₁ (fun _ sg hg => ?_) fun _ _ z => z.elim)
    refine wpAny_bind (wpAny_mono hg (fun _ s₂ h₂ => ?_) fun _ _ z => z.elim)
    refine wpAny_bind (wpAny_mono h₂ (fun ok s₃ h₃ => ?_) fun _ _ z => z.elim)
    cases ok with
    | false => exact wpAny_pure ⟨rfl, h₃⟩
    | true =>
      refine wpAny_bind (wpAny_bind (wpAny_mono h₃ (fun y s₄ h₄ => ?_) fun _ _ z => z.elim))
      exact wpAny_bind (wpAny_mono h₄ (fun _ s₅ h₅ => wpAny_pure (wpAny_pure ⟨rfl, h₅⟩)) fun _ _ z => z.elim)


structure CompSc2 (scX sc : Scope) (NX : List Str) (xs : List Str) (fv : List Str) (js : List Nat) : Prop where
  kind : sc.kind = .function
  kindX : scX.kind = .function
  cell : ∀ y ∈ sc.names, y.2 ≠ .cell
  own : ∀ x ∈ xs, sc.names.lookup x = some .local
  names : ∀ y ∈ sc.names, y.2 = .local → sc.names.lookup y.1 = some .local
  free : ∀ y ∈ sc.names, y.2 = .free → scX.names.lookup y.1 = some .cell
  nd : (xs ++ fv).Nodup
  at' : js.map (fun j => NX[j]?) = fv.map some
  fr : ∀ y ∈ fv, sc.names.lookup y = some .free
abbrev xc2 (X : Cx) (sc : Scope) (xs : List Str) (fv : List Str) (C : Addr) (s0 : Shared) (H0 : Hp) (ex : List Addr) : Cx :=
  { X with N := xs ++ fv, s₀ := s0, H₀ := H0, env := compEnvC sc (clOf X.env.cells sc.names []) C X.env, outer := X.stack, ex := ex, fn := fun _ => false, pn := [], xe := fun _ _ => False }
def tStep2 (k : Nat) (js : List Nat) (g : TG) (tt : TT) (te : TE) (σ : St) (ys : List V) (N : List V → Hp → Prop) (x : V) (H' : Hp) : Prop :=
  ∀ os : List (Option V), os.length = k → g x (os ++ pick js σ) H' fun σ6 H6 => (∃ os' : List (Option V), os'.length = k ∧ σ6 = os' ++ pick js σ) ∧
    tt σ6 H6 fun b H2 => if b = true then te σ6 H2 fun y H3 => ys.length < sizeLine ∧ N (ys ++ [y]) H3 else N ys H2
def tCompB2 (J : It) (k : Nat) (js : List Nat) (g : TG) (tt : TT) (te : TE) : TE := fun σ H1 Q => ∃ W : Nat → Nat → List V → Hp → Prop, (∃ m, W 0 m [] H1) ∧ ∀ i m ys H, W i m ys H →
  (J.stop i H ∧ ∀ p, H p = none → Q (.ref p) (upd H p (.lst ys))) ∨
  (J.go i H ∧ ∃ N : List V → Hp → Prop, (∀ ys' H', N ys' H' → ∃ m', m' < m ∧ W (i + 1) m' ys' H') ∧ ∀ x H', J.yld i H x H' → tStep2 k js g tt te σ ys N x H')
def tComp2 (wi : TI) (k : Nat) (js : List Nat) (g : TG) (tt : TT) (te : TE) : TE := fun σ H Q => wi σ H fun J H1 => tCompB2 J k js g tt te σ H1 Q
section
variable {X : Cx} {pins : List (Addr × Obj)} {σ : St} {H2 : Hp} {s2 : Shared} {elt iter tg : Expr} {xs : List Str} {ifs : List Expr} {sc scX : Scope} {pos : Pos} {fv : List Str} {js : List Nat} {g : TG} {tt : TT} {te : TE}

theorem comp_core2 (S : CompSc2 scX sc X.N xs fv js) (hsx : X.env.scope = scX) (hcalm : X.calm = true) (hgg : ∀ C s0 H0 ex, PG (xc2 X sc xs fv C s0 H0 ex) tg g)
    (ht : ∀ C s0 H0 ex, PIf (xc2 X sc xs fv C s0 H0 ex) ifs tt) (he : ∀ C s0 H0 ex, PE (xc2 X sc xs fv C s0 H0 ex) elt te)
    {it : Addr} {fp : List Addr} {tn : Nat → Heap → Prop} {J : It} (I2 : Inv X pins σ H2 s2) (T : Turn X.prog X.w X.K tg J fp it tn) (st2 : tn 0 s2.heap) (f2 : ∀ b ∈ fp, FpOk X pins H2 b)
    {Q : VK} {W : Nat → Nat → List V → Hp → Prop} (w0 : ∃ m, W 0 m [] H2)
    (step : ∀ i m ys H, W i m ys H → (J.stop i H ∧ ∀ p, H p = none → Q (.ref p) (upd H p (.lst ys))) ∨
      (J.go i H ∧ ∃ N : List V → Hp → Prop, (∀ ys' H', N ys' H' → ∃ m', m' < m ∧ W (i + 1) m' ys' H') ∧
        ∀ x H', J.yld i H x H' → tStep2 xs.length js g tt te σ ys N x H'))
    {RR : Value → Addr → Result → Shared → Prop} {E : Value → Shared → Prop}
    (fin : ∀ (D C : Addr) (s' : Shared) (H' : Hp), Inv X pins σ H' s' → Q (.ref D) H' → (∃ m, s'.heap.Ns C m) → FpOk X pins H' C → RR (.ref D) C (.ok .next) s') :
    wpAny (model X.prog X.w) X.A (newList []) (fun acc s₃ => wpAny (model X.prog X.w) X.A (newFunctionEnv sc X.env.globals (clOf X.env.cells sc.names []) [] X.env.qual none .none (some X.env)) (fun cenv s₄ =>
      codeAny (model X.prog X.w) X.A (.compStart (.ListComp elt [⟨tg, iter, ifs, 0⟩] sc pos) 0 (.ref it) acc { cenv with scope := relabel sc X.env }) (RR acc cenv.locals) s₄) E s₃) E s2 := by
  have hfree : ∀ y ∈ sc.names, y.2 = .free → ∃ c, X.env.cells.lookup y.1 = some c := fun y hy hf => I2.ok.has y.1 (.inl (by show X.env.scope.names.lookup y.1 = _; rw [hsx]; exact S.free y hy hf))
  obtain ⟨cl1, _, cl3⟩ := clOf_look (cells := X.env.cells) sc.names [] hfree (fun y c h => by simp at h)
  refine wpAny_newObj_type (wpAny_newFunctionEnv S.cell (by intro y hy; simp at hy) (fun h₁ hns₁ hsb₁ => ?_) S.kind)
  dsimp only at hns₁ hsb₁ ⊢
  generalize hG : s2.heap.push { cls := .type "list", dict := none, data := .seq ([] : List Value).toArray } = G at hns₁ hsb₁ ⊢
  have hGz : G.objs.size = s2.heap.objs.size + 1 := by rw [← hG, Heap.size_push]
  have upG : ∀ b o, s2.heap.get? b = some o → G.get? b = some o := fun b o e => hG ▸ Heap.get?_push_of_some _ e
  have upH : ∀ b o, G.get? b = some o → h₁.get? b = some o := fun b o e => hsb₁.extBut b o (Nat.ne_of_lt (Heap.lt_size e)) (Heap.get?_push_of_some _ e)
  have ltD : ∀ b o, s2.heap.get? b = some o → b ≠ s2.heap.objs.size := fun b o e => Nat.ne_of_lt (Heap.lt_size e)
  have fpo : ∀ b ∈ fp, ∃ o, s2.heap.get? b = some o := fun b hb => let ⟨o, e, _⟩ := T.obj 0 _ st2 b hb; ⟨o, e⟩
  have fpD : ∀ b ∈ fp, b ≠ s2.heap.objs.size := fun b hb => let ⟨o, e⟩ := fpo b hb; ltD b o e
  have fpC : ∀ b ∈ fp, b ≠ G.objs.size := fun b hb => let ⟨o, e⟩ := fpo b hb; Nat.ne_of_lt (Heap.lt_size (upG b o e))
  have cellO : ∀ y c, (clOf X.env.cells sc.names []).lookup y = some c → ∃ v, s2.heap.IsCell c v := fun y c e => I2.cell y c (cl1 y c e)
  have cellD : ∀ y c, (clOf X.env.cells sc.names []).lookup y = some c → c ≠ s2.heap.objs.size := fun y c e => let ⟨v, q⟩ := cellO y c e; Nat.ne_of_lt q.lt
  have Dfs : s2.heap.objs.size ∉ frs X.stack := fun hb => by
    rcases List.mem_cons.mp (I2.stkSub _ hb) with z | z
    · exact absurd I2.lt (by rw [← z]; exact Nat.lt_irrefl _)
    · exact I2.nofs (Nat.le_refl _) z
  have fpfs : ∀ b ∈ fp, b ∉ frs X.stack := fun b hb hz => by
    obtain ⟨_, f1, f2', _⟩ := f2 b hb
    rcases List.mem_cons.mp (I2.stkSub _ hz) with z | z
    · exact f1 z
    · exact f2' z
  have HD : H2 s2.heap.objs.size = none := I2.hok.fresh (Nat.le_refl _)
  have HC : H2 G.objs.size = none := I2.hok.fresh (by rw [hGz]; exact Nat.le_succ _)
  have DC : s2.heap.objs.size ≠ G.objs.size := by rw [hGz]; exact Nat.ne_of_lt (Nat.lt_succ_self _)
  -- the block's context is right
  have okC : Cx.Ok (xc2 X sc xs fv G.objs.size { s2 with heap := G } H2 (s2.heap.objs.size :: fp)) := by
    refine ⟨I2.ok.mod, S.kind, I2.ok.glob, I2.ok.blt, Nat.le_refl _, fun y z c h1 h2 => I2.ok.inj y z c (cl1 _ _ h1) (cl1 _ _ h2), fun y hy => ?_, fun y c hfn _ => (by cases hfn), I2.ok.hd, I2.ok.frames, .inl rfl, fun b hb => ?_, fun b o e => ?_, ?_, fun b o e hb => ?_, fun b hb => ?_, ?_, I2.stkFree⟩
    · exact Option.isSome_iff_exists.mp (cl3 y (relabel_back S.cell hy))
    · rcases List.mem_cons.mp hb with z | z
      · subst z; exact ⟨DC, cellD⟩
      · refine ⟨fpC b z, fun y c e => ?_⟩
        obtain ⟨_, _, _, _, f4, _⟩ := f2 b z
        exact f4 y c (cl1 y c e)
    · exact ⟨upG b o (I2.bs b o e).1, (I2.bs b o e).2⟩
    · show X.base.objs.size ≤ G.objs.size
      rw [hGz]; exact Nat.le_succ_of_le (Nat.le_trans I2.ok.bsz I2.sz)
    · rcases List.mem_cons.mp hb with z | z
      · exact ltD b o (I2.bk b o e) z
      · obtain ⟨_, _, _, f3, _⟩ := f2 b z
        rcases f3 with q | q
        · exact I2.ok.noex b o e q
        · exact absurd (Nat.lt_of_lt_of_le (Heap.lt_size e) (Nat.le_trans I2.ok.bsz q)) (Nat.lt_irrefl _)
    · rcases List.mem_cons.mp hb with z | z
      · subst z; exact Dfs
      · exact fpfs b z
    · exact (I2.stack).of_keeps fun b o e _ => ⟨o, upG b o e, rfl⟩
  have lenC : ∀ os : List (Option V), os.length = xs.length → (os ++ pick js σ).length = (xs ++ fv).length := fun os ho => by
    have := congrArg List.length S.at'
    simp only [List.length_map] at this
    simp [pick, this, ho]
  have hacc : h₁.get? s2.heap.objs.size = some { cls := .type "list", dict := none, data := .seq ([] : List Value).toArray } := upH _ _ (hG ▸ Heap.get?_push_size _ rfl)
  have I4 : Inv (xc2 X sc xs fv G.objs.size { s2 with heap := G } H2 (s2.heap.objs.size :: fp)) [(s2.heap.objs.size, { cls := .type "list", dict := none, data := .seq ([] : List Value).toArray })] (xs.map (fun _ => none) ++ pick js σ) H2 { s2 with heap := h₁, toks := s2.toks + ([] : List (Str × Value)).length } := by
    refine ⟨okC, rfl, I2.bare, Un.kept upH, ⟨_, hns₁, fun i y v e1 e2 e3 => ?_⟩, fun y c e => ?_, HC, fun y c e => I2.freeC y c (cl1 y c e), fun p hp => ?_, I2.hok.kept fun b u e => upH b u (upG b u e), lenC _ (by simp)⟩
    · by_cases hix : i < xs.length
      · have : (xs.map (fun _ => (none : Option V)) ++ pick js σ)[i]? = some none := by
          rw [List.getElem?_append_left (by simpa using hix), List.getElem?_map, List.getElem?_eq_getElem hix]; rfl
        rw [this] at e2
        cases e2
      · obtain ⟨i', rfl⟩ : ∃ i', i = xs.length + i' := ⟨i - xs.length, by omega⟩
        have e1' : fv[i']? = some y := by
          have e1a : (xs ++ fv)[xs.length + i']? = some y := e1
          rw [List.getElem?_append_right (by omega), Nat.add_sub_cancel_left] at e1a
          exact e1a
        have e2' : (pick js σ)[i']? = some (some v) := by
          have e2a := e2
          rw [List.getElem?_append_right (by simp), List.length_map, Nat.add_sub_cancel_left] at e2a
          exact e2a
        have q := congrArg (fun l => l[i']?) S.at'
        simp only [List.getElem?_map, e1', Option.map_some] at q
        cases hj : js[i']? with
        | none => rw [hj] at q; cases q
        | some j =>
          rw [hj] at q
          have hj' : X.N[j]? = some y := Option.some.inj q
          unfold pick at e2'
          rw [List.getElem?_map, hj] at e2'
          have e2'' : (σ[j]?).getD none = some v := Option.some.inj e2'
          have e2b : σ[j]? = some (some v) := by
            cases hh : σ[j]? with
            | none => rw [hh] at e2''; cases e2''
            | some o => rw [hh] at e2''; exact congrArg some e2''
          have hm : y ∈ fv := List.mem_of_getElem? e1'
          have hcX : scX.names.lookup y = some .cell := S.free (y, .free) (PySem.mem_of_lookup (S.fr y hm)) rfl
          have kX : X.env.kindOf y = some .cell := by show X.env.scope.names.lookup y = _; rw [hsx]; exact hcX
          obtain ⟨m, hn, hl⟩ := I2.loc
          obtain ⟨u, r, lk⟩ := hl j y v hj' e2b (.inr (.inl kX))
          refine ⟨u, r, ?_⟩
          rcases lk with ⟨k, _⟩ | ⟨_, c, ec, z⟩
          · rw [kX] at k; cases k
          · refine .inr ⟨.inl (relabel_free (by rw [hsx]; exact S.kindX) (S.fr y hm) kX), c, ?_, ?_⟩
            · obtain ⟨c', ec'⟩ := Option.isSome_iff_exists.mp (cl3 y (PySem.mem_of_lookup (S.fr y hm)))
              have := cl1 y c' ec'
              rw [ec] at this; cases this
              exact ec'
            · obtain ⟨o, ho, hd⟩ := z
              exact ⟨o, upH c o (upG c o ho), hd⟩
    · obtain ⟨v, o, ho, hd⟩ := cellO y c e
      exact ⟨v, o, upH c o (upG c o ho), hd⟩
    · have hp' : p = (s2.heap.objs.size, { cls := .type "list", dict := none, data := .seq ([] : List Value).toArray }) := by simpa using hp
      subst hp'
      exact ⟨hacc, HD, DC, Dfs, fun v z => by cases z⟩
  have loop : codeAny (model X.prog X.w) X.A (.compLoop (.ListComp elt [⟨tg, iter, ifs, 0⟩] sc pos) 0 (.ref it) (.ref s2.heap.objs.size) (compEnvC sc (clOf X.env.cells sc.names []) G.objs.size X.env)) (RR (.ref s2.heap.objs.size) G.objs.size) { s2 with heap := h₁, toks := s2.toks + ([] : List (Str × Value)).length } := by
    obtain ⟨m0, w0⟩ := w0
    have fok : ∀ {H' : Hp} {o : Obj}, (∀ b ∈ fp, H' b = none) → ∀ b ∈ fp, FpOk (xc2 X sc xs fv G.objs.size { s2 with heap := G } H2 (s2.heap.objs.size :: fp)) [(s2.heap.objs.size, o)] H' b := fun {H' o} hn b hb => by
      refine ⟨hn b hb, fpC b hb, fpfs b hb, .inl (List.mem_cons_of_mem _ hb), fun y c e => ?_, fun p hp => ?_⟩
      · obtain ⟨_, _, _, _, f4, _⟩ := f2 b hb
        exact f4 y c (cl1 y c e)
      · have hp' : p = (s2.heap.objs.size, o) := by simpa using hp
        subst hp'
        exact (fpD b hb).symm
    refine cmp_loop2 (fun k st => ∃ (i : Nat) (ys : List V) (its : List Value) (n : Nat) (os : List (Option V)) (H' : Hp), os.length = xs.length ∧ Inv (xc2 X sc xs fv G.objs.size { s2 with heap := G } H2 (s2.heap.objs.size :: fp)) [(s2.heap.objs.size, { cls := .type "list", data := .seq its.toArray n })] (os ++ pick js σ) H' st ∧
      Vals ys its ∧ ys.length ≤ sizeLine ∧ tn i st.heap ∧ (∀ b ∈ fp, H' b = none) ∧ W i k ys H') ?_ m0
      ⟨0, [], [], _, xs.map (fun _ => none), H2, by simp, I4, .nil, Nat.zero_le _, T.keep _ _ _ st2 fun b _ o e => upH b o (upG b o e), fun b hb => (f2 b hb).1, w0⟩
    rintro k s3 ⟨i, ys, its, n, os, H3, hos, I3, rv, hz, st3, fr3, w3⟩
    rcases step i k ys H3 w3 with ⟨stop, q⟩ | ⟨go, N, hN, hgo⟩
    · refine thn (T.done (xc2 X sc xs fv G.objs.size { s2 with heap := G } H2 (s2.heap.objs.size :: fp)) rfl rfl rfl hcalm i _ s3 _ H3 _ I3 (fok fr3) st3 stop) fun r s4 ⟨hr, I4⟩ => ?_
      subst hr
      obtain ⟨pD, pn, _, _, _⟩ := I4.pin _ (List.mem_append_right _ List.mem_cons_self)
      have B := I4.base
      have nD : ∀ b o, s2.heap.get? b = some o → b ∉ fp → b ∉ s2.heap.objs.size :: fp := fun b o e hx hm => (List.mem_cons.mp hm).elim (ltD b o e) hx
      have neH : ∀ b u, H2 b = some u → b ≠ s2.heap.objs.size := fun b u e z => by rw [z, HD] at e; cases e
      have JX : Inv X pins σ (upd H3 s2.heap.objs.size (.lst ys)) s4 := by
        refine I2.call' (ch := fp) I4.os ⟨fun b o e hn hb hx => B.keep b o (upG b o e) hn hb (nD b o e hx), fun b o e hn hb hx => B.slot b o (upG b o e) hn hb (nD b o e hx), fun b o e hn hx => ?_, fun b o e hx => B.there b o (upG b o e) (nD b o e hx), fun b xs e => ?_, fun b o u e => ?_, fun b ps e => ?_⟩ (fun b u e => ?_) I4.bare fun b hb => ?_
        · rw [upd_ne (ltD b o e)]; exact B.free b o (upG b o e) hn (nD b o e hx)
        · rw [upd_ne (neH b _ e)]; exact B.tups b xs e
        · rw [upd_ne (neH b _ e)]; exact B.frzs b o u e
        · rw [upd_ne (neH b _ e)]; exact B.tbls b ps e
        · by_cases hb : b = s2.heap.objs.size
          · subst hb
            rw [upd_same] at e; cases e
            exact ⟨hz, its, n, rv, pD⟩
          · rw [upd_ne hb] at e
            exact (I4.hok b u e).stay (fun _ _ _ z => z) (fun c z => by rw [upd_ne (ne_of_none z pn)]; exact z) fun c xs z => by rw [upd_ne (ne_of_none z pn)]; exact z
        · obtain ⟨_, f1, _, f3, f4, f5⟩ := f2 b hb
          exact ⟨f3, f1, f4, f5⟩
      refine fin _ _ s4 _ JX (q _ pn) (let ⟨m, hm, _⟩ := I4.loc; ⟨m, hm⟩) (I2.fpOk (by rw [hGz]; exact Nat.le_succ _) ?_)
      rw [upd_ne DC.symm]; exact I4.free
    · refine thn (T.item (xc2 X sc xs fv G.objs.size { s2 with heap := G } H2 (s2.heap.objs.size :: fp)) rfl rfl rfl hcalm i _ s3 _ H3 _ I3 (fok fr3) st3 go) fun r s4 ⟨u, hr, h4⟩ => ?_
      subst hr
      refine thn h4 fun _ s5 ⟨y, H5, I5, r5, y5, st5, fr5⟩ => ?_
      have I5' := I5.pinned (fok fr5) (T.obj _ _ st5)
      refine thn (hgg _ _ _ _ _ s5 _ H5 y u _ I5' r5 (hgo y _ y5 os hos)) fun _ s6 ⟨σ6, H6, I6, ⟨os', hos', eσ⟩, q6⟩ => ?_
      subst eσ
      refine thn (ht _ _ _ _ _ s6 _ _ _ I6 q6) fun b s7 ⟨H7, I7, q7⟩ => ?_
      cases b with
      | false =>
        rw [if_neg Bool.false_ne_true] at q7 ⊢
        obtain ⟨m', hm, w7⟩ := hN ys H7 q7
        exact ⟨m', hm, i + 1, ys, its, n, os', H7, hos', I7.unpinned, rv, hz, T.keep _ _ _ st5 fun b hb o e => (I7.pin (b, o) (List.mem_append_right _ (List.mem_append_right _ (mem_pinsAt hb e)))).1, fun b hb => by
          obtain ⟨o, e, d⟩ := T.obj _ _ st5 b hb
          exact (I7.pin (b, o) (List.mem_append_right _ (List.mem_append_right _ (mem_pinsAt hb e)))).2.1, w7⟩
      | true =>
        rw [if_pos rfl] at q7 ⊢
        refine thn (he _ _ _ _ _ s7 _ H7 _ I7 q7) fun u8 s8 ⟨y8, H8, I8, r8, hl8, q8⟩ => ?_
        obtain ⟨m', hm, w8⟩ := hN _ H8 q8
        obtain ⟨pD, pn, pC, pf, _⟩ := I8.pin _ (List.mem_append_right _ (List.mem_append_left _ List.mem_cons_self))
        refine wpAny_list_append_plain (items := its.toArray) ⟨n, pD⟩ (fun h9 hl9 sb9 => ?_) (by rw [List.size_toArray, ← rv.length]; exact Nat.le_of_lt hl8)
        have pinF : ∀ p ∈ pinsAt fp s5.heap, p ∈ [(s2.heap.objs.size, ({ cls := .type "list", data := .seq its.toArray n } : Obj))] ++ pinsAt fp s5.heap := fun p hp => List.mem_append_right _ hp
        have I8a := I8.pins_of (pins' := pinsAt fp s5.heap) fun p hp => I8.pin p (List.mem_append_right _ (pinF p hp))
        have I9 := I8a.turned (it := s2.heap.objs.size) (h' := h9) (t' := s8.toks) (fun b o hb e => (sb9.2 b hb).trans e) pn DC (.inl List.mem_cons_self) (fun y c e => cellD y c e) fun p hp => fpD p.1 (of_pinsAt (by simpa using hp)).1
        obtain ⟨n9, e9⟩ := hl9
        have e9' : h9.get? s2.heap.objs.size = some { cls := .type "list", data := .seq (its ++ [u8]).toArray n9 } := by
          rw [e9, show (its ++ [u8]).toArray = its.toArray.push u8 by simp]
        refine ⟨m', hm, i + 1, ys ++ [y8], its ++ [u8], n9, os', H8, hos', I9.pins_of fun p hp => ?_, rv.append (.cons r8 .nil), by rw [List.length_append]; exact hl8, T.keep _ _ _ st5 fun b hb o e => (I9.pin (b, o) (List.mem_append_right _ (mem_pinsAt hb e))).1, fun b hb => ?_, w8⟩
        · have hp' : p = (s2.heap.objs.size, { cls := .type "list", data := .seq (its ++ [u8]).toArray n9 }) := by simpa using hp
          subst hp'
          exact ⟨e9', pn, DC, pf, fun v z => by cases z⟩
        · obtain ⟨o, e, d⟩ := T.obj _ _ st5 b hb
          exact (I9.pin (b, o) (List.mem_append_right _ (mem_pinsAt hb e))).2.1
  exact codeAny_compStart_list loop (T.self _ 0 _ _ _ (T.keep _ _ _ st2 fun b _ o e => upH b o (upG b o e)) loop)

theorem pe_comp2 {wi : TI} (scX : Scope) (NX fv : List Str) (js : List Nat) (hNX : X.N = NX) (S : CompSc2 scX sc NX xs fv js) (hsx : X.env.scope = scX) (hcalm : X.calm = true) (hi : PI X tg iter wi) (hgg : ∀ C s0 H0 ex, PG (xc2 X sc xs fv C s0 H0 ex) tg g)
    (ht : ∀ C s0 H0 ex, PIf (xc2 X sc xs fv C s0 H0 ex) ifs tt) (he : ∀ C s0 H0 ex, PE (xc2 X sc xs fv C s0 H0 ex) elt te)
    (hs : ∀ v, foldedSetIterable iter X.env v = pure v := by intro _; rfl) : PE X (.ListComp elt [⟨tg, iter, ifs, 0⟩] sc pos) (tComp2 wi xs.length js g tt te) := by
  intro pins s σ H Q I h
  rw [← hNX] at S
  have hfree : ∀ y ∈ sc.names, y.2 = .free → ∃ c, X.env.cells.lookup y.1 = some c := fun y hy hf => I.ok.has y.1 (.inl (by show X.env.scope.names.lookup y.1 = _; rw [hsx]; exact S.free y hy hf))
  rw [eval_ListComp]
  refine wpAny_comprehension_free (use := none) rfl hs (closure_eq hfree) S.kind S.names (thn (hi pins s σ H _ I h) fun v s1 h1 => thn h1 fun itv s2 h2 => ?_)
  obtain ⟨it, fp, tn, J, H2, e, I2, T, st2, f2, W, w0, step⟩ := h2
  subst e
  refine comp_core2 (RR := fun acc C => compPost (model X.prog X.w) X.A X.xe none (EP X pins σ Q) acc C) S hsx hcalm hgg ht he I2 T st2 f2 w0 step fun D C s' H' I' q ⟨m, hm⟩ hC => ?_
  obtain ⟨f0, f1, _, f3, f4, f5⟩ := hC
  exact ⟨m, hm, fun h' sb => ⟨.ref D, H', I'.turned (t' := s'.toks) (fun b o hb e => (sb.2 b hb).trans e) f0 f1 f3 f4 f5, rfl, q⟩⟩

end
end L2

set_option Elab.async false
set_option linter.all false
set_option maxRecDepth 100000
namespace L2
open PySem PySem.Spec PyProof.Rows
/-! ### lists of pairs as tables -/
section
variable {κ : Type} [DecidableEq κ]
def valV (kvs : List (κ × V)) (k : κ) : Option V := (kvs.find? fun kv => decide (kv.1 = k)).map (·.2)
/-- in its place, or at the end -/
def putK (kvs : List (κ × V)) (k : κ) (v : V) : List (κ × V) :=
  if (kvs.any fun kv => decide (kv.1 = k)) = true then kvs.map (fun kv => if kv.1 = k then (kv.1, v) else kv) else kvs ++ [(k, v)]
def dropK (kvs : List (κ × V)) (k : κ) : List (κ × V) := kvs.filter fun kv => decide (kv.1 ≠ k)

theorem valV_pos {p : κ × V} {r : List (κ × V)} {k : κ} (e : p.1 = k) : valV (p :: r) k = some p.2 := by simp [valV, List.find?_cons, e]
theorem valV_neg {p : κ × V} {r : List (κ × V)} {k : κ} (e : ¬ p.1 = k) : valV (p :: r) k = valV r k := by simp [valV, List.find?_cons, e]
theorem valV_any (k : κ) : ∀ kvs : List (κ × V), (kvs.any fun kv => decide (kv.1 = k)) = (valV kvs k).isSome
  | [] => rfl
  | p :: r => by
    rw [List.any_cons]
    by_cases e : p.1 = k
    · simp only [valV_pos e, decide_eq_true e, Bool.true_or, Option.isSome_some]
    · rw [valV_neg e, decide_eq_false e, Bool.false_or]; exact valV_any k r
theorem length_putK (kvs : List (κ × V)) (k : κ) (v : V) : (putK kvs k v).length ≤ kvs.length + 1 := by
  unfold putK
  split
  · rw [List.length_map]; omega
  · rw [List.length_append, List.length_cons, List.length_nil]; omega
theorem RelO.isSome_eq {o : Option V} {u : Option Value} (r : RelO o u) : o.isSome = u.isSome := by
  cases o with
  | none => cases u with
    | none => rfl
    | some _ => exact (show False from r).elim
  | some _ => cases u with
    | none => exact (show False from r).elim
    | some _ => rfl
theorem RelO.getD {o : Option V} {u : Option Value} {d : V} {d' : Value} (r : RelO o u) (rd : RelV d d') : RelV (o.getD d) (u.getD d') := by
  cases o with
  | none => cases u with
    | none => exact rd
    | some _ => exact (show False from r).elim
  | some _ => cases u with
    | none => exact (show False from r).elim
    | some _ => exact r

/-- raw tables of the same keys -/
theorem KV.val {kvs : List (κ × V)} {vs : List (κ × Value)} (r : KV kvs vs) (k : κ) : RelO (valV kvs k) (valueAt vs k) := by
  unfold KV at r
  induction r with
  | nil => exact True.intro
  | @cons p q ps qs h t ih =>
    obtain ⟨h1, h2⟩ := h
    by_cases e : p.1 = k
    · have e' : q.1 = k := h1.symm.trans e
      have b : valueAt (q :: qs) k = some q.2 := by simp [valueAt, List.find?_cons, e']
      rw [valV_pos e, b]; exact h2
    · have e' : ¬ q.1 = k := fun z => e (h1.trans z)
      have b : valueAt (q :: qs) k = valueAt qs k := by simp [valueAt, List.find?_cons, e']
      rw [valV_neg e, b]; exact ih
theorem KV.any {kvs : List (κ × V)} {vs : List (κ × Value)} (r : KV kvs vs) (k : κ) : (kvs.any fun kv => decide (kv.1 = k)) = vs.any fun kv => decide (kv.1 = k) := by
  unfold KV at r
  induction r with
  | nil => rfl
  | cons h t ih => rw [List.any_cons, List.any_cons, ih, h.1]
theorem KV.repl {kvs : List (κ × V)} {vs : List (κ × Value)} (r : KV kvs vs) (k : κ) {y : V} {u : Value} (ry : RelV y u) :
    KV (kvs.map fun kv => if kv.1 = k then (kv.1, y) else kv) (vs.map fun kv => if kv.1 = k then (kv.1, u) else kv) := by
  unfold KV at r ⊢
  induction r with
  | nil => exact .nil
  | @cons p q ps qs h t ih =>
    rw [List.map_cons, List.map_cons]
    refine .cons ?_ ih
    obtain ⟨h1, h2⟩ := h
    by_cases e : p.1 = k
    · rw [if_pos e, if_pos (h1.symm.trans e)]; exact ⟨h1, ry⟩
    · rw [if_neg e, if_neg (fun z => e (h1.trans z))]; exact ⟨h1, h2⟩
theorem KV.put {kvs : List (κ × V)} {vs : List (κ × Value)} (r : KV kvs vs) (k : κ) {y : V} {u : Value} (ry : RelV y u) : KV (putK kvs k y) (stored vs k u) := by
  unfold putK stored
  rw [r.any k]
  by_cases e : (vs.any fun kv => decide (kv.1 = k)) = true
  · rw [if_pos e, if_pos e]; exact r.repl k ry
  · rw [if_neg e, if_neg e]; exact Paired.snoc r ⟨rfl, ry⟩
theorem KV.drop {kvs : List (κ × V)} {vs : List (κ × Value)} (r : KV kvs vs) (k : κ) : KV (dropK kvs k) (without vs k) := by
  unfold KV at r ⊢
  unfold dropK without
  induction r with
  | nil => exact .nil
  | @cons p q ps qs h t ih =>
    obtain ⟨h1, h2⟩ := h
    rw [List.filter_cons, List.filter_cons]
    by_cases e : p.1 = k
    · have a : ¬ decide (p.1 ≠ k) = true := by simp [e]
      have b : ¬ decide (q.1 ≠ k) = true := by simp [h1.symm.trans e]
      rw [if_neg a, if_neg b]; exact ih
    · have e' : ¬ q.1 = k := fun z => e (h1.trans z)
      have a : decide (p.1 ≠ k) = true := by simp [e]
      have b : decide (q.1 ≠ k) = true := by simp [e']
      rw [if_pos a, if_pos b]; exact .cons ⟨h1, h2⟩ ih
theorem KV.keys {kvs : List (κ × V)} {vs : List (κ × Value)} (r : KV kvs vs) : kvs.map (·.1) = vs.map (·.1) := by
  unfold KV at r
  induction r with
  | nil => rfl
  | cons h t ih => rw [List.map_cons, List.map_cons, ih, h.1]
theorem KV.length {kvs : List (κ × V)} {vs : List (κ × Value)} (r : KV kvs vs) : kvs.length = vs.length := Paired.length r
end


/-! ### a tracked dict, its keys ints and texts or tuples of these -/
theorem kV_is {P : Program} {w : World} {k : Key} {u : Value} (r : RelV (kV k) u) : (mixKind P w).is k u = true := by
  cases k with
  | inl i => obtain ⟨t, e⟩ := (show ∃ t, u = Value.int i t from r); subst e; exact mixKind_int P w i t
  | inr x => obtain ⟨t, e⟩ := (show ∃ t, u = Value.str x t from r); subst e; exact mixKind_str P w x t
theorem items_are {P : Program} {w : World} : ∀ {ks : List Key} {us : List Value}, Vals (ks.map kV) us → ItemsAre (mixKind P w) ks us
  | [], _, r => by rw [List.map_nil] at r; cases r; exact .nil
  | k :: ks, _, r => by
    rw [List.map_cons] at r
    cases r with
    | cons h t => exact .cons (kV_is h) (items_are t)

/-- raw entries of a dict with tuple keys -/
abbrev KT (H : Hp) : List (List Key × V) → List (List Key × Addr × Value) → Prop := Paired fun p q => p.1 = q.1 ∧ H q.2.1 = some (.tup (p.1.map kV)) ∧ RelV p.2 q.2.2
theorem KT.val {H : Hp} {kvs : List (List Key × V)} {xs : List (List Key × Addr × Value)} (r : KT H kvs xs) (k : List Key) : RelO (valV kvs k) ((atKey xs k).map (·.2)) := by
  induction r with
  | nil => exact True.intro
  | @cons p q ps qs h t ih =>
    obtain ⟨h1, _, h2⟩ := h
    by_cases e : p.1 = k
    · have e' : q.1 = k := h1.symm.trans e
      have b : atKey (q :: qs) k = some q.2 := by simp [atKey, List.find?_cons, e']
      rw [valV_pos e, b]; exact h2
    · have e' : ¬ q.1 = k := fun z => e (h1.trans z)
      have b : atKey (q :: qs) k = atKey qs k := by simp [atKey, List.find?_cons, e']
      rw [valV_neg e, b]; exact ih
theorem KT.repl {H : Hp} {kvs : List (List Key × V)} {xs : List (List Key × Addr × Value)} (r : KT H kvs xs) (k : List Key) {y : V} {u : Value} (ry : RelV y u) :
    KT H (kvs.map fun kv => if kv.1 = k then (kv.1, y) else kv) (xs.map (putAt k u)) := by
  induction r with
  | nil => exact .nil
  | @cons p q ps qs h t ih =>
    rw [List.map_cons, List.map_cons]
    refine .cons ?_ ih
    obtain ⟨h1, h2, h3⟩ := h
    unfold putAt
    by_cases e : p.1 = k
    · rw [if_pos e, if_pos (h1.symm.trans e)]; exact ⟨h1, h2, ry⟩
    · rw [if_neg e, if_neg (fun z => e (h1.trans z))]; exact ⟨h1, h2, h3⟩
theorem KT.put {H : Hp} {kvs : List (List Key × V)} {xs : List (List Key × Addr × Value)} (r : KT H kvs xs) (k : List Key) {b : Addr} {y : V} {u : Value} (hb : H b = some (.tup (k.map kV))) (ry : RelV y u) :
    KT H (putK kvs k y) (storedH xs k b u) := by
  have e : (kvs.any fun kv => decide (kv.1 = k)) = (atKey xs k).isSome := by
    rw [valV_any, (r.val k).isSome_eq, Option.isSome_map]
  unfold putK storedH
  rw [e]
  by_cases q : (atKey xs k).isSome = true
  · rw [if_pos q, if_pos q]; exact r.repl k ry
  · rw [if_neg q, if_neg q]; exact Paired.snoc r ⟨rfl, hb, ry⟩
theorem KT.keeps {H H' : Hp} {kvs : List (List Key × V)} {xs : List (List Key × Addr × Value)} (r : KT H kvs xs) (ht : ∀ b ys, H b = some (.tup ys) → H' b = some (.tup ys)) : KT H' kvs xs :=
  Paired.mapP r fun _ _ z => ⟨z.1, ht _ _ z.2.1, z.2.2⟩

section
variable {P : Program} {w : World} {H : Hp} {h : Heap} {a : Addr}
theorem rd_of {u : HO} (ok : HOk P w H h) (e : Rd H a u) : ObjOk P w H h a u := e.ok ok
theorem dk_rd {kvs : List (Key × V)} (ok : HOk P w H h) (e : Rd H a (.dK kvs)) : kvs.length ≤ sizeLine ∧ (a == sysModules) = false ∧ ∃ vs, KV kvs vs ∧ h.DictOf (mixKind P w) a vs :=
  show ObjOk P w H h a (.dK kvs) from rd_of ok e
theorem dk_of {kvs : List (Key × V)} (ok : HOk P w H h) (e : H a = some (.dK kvs)) : kvs.length ≤ sizeLine ∧ (a == sysModules) = false ∧ ∃ vs, KV kvs vs ∧ h.DictOf (mixKind P w) a vs := dk_rd ok (.inl e)
/-- a tracked tuple of ints and texts is a key -/
theorem key_of {ks : List Key} (ok : HOk P w H h) (e : H a = some (.tup (ks.map kV))) : (tupleKind (mixKind P w)).is h ks a := by
  obtain ⟨_, its, r, o, h1, h2, n, h3⟩ := (show ObjOk P w H h a (.tup (ks.map kV)) from ok a _ e)
  exact ⟨o, its.toArray, n, h1, h2, h3, by simpa using items_are r⟩
theorem dt_rd {kvs : List (List Key × V)} (ok : HOk P w H h) (e : Rd H a (.dT kvs)) : kvs.length ≤ sizeLine ∧ (a == sysModules) = false ∧
    ∃ xs, KT H kvs xs ∧ h.DictOfH (tupleKind (mixKind P w)) a xs := by
  obtain ⟨z, y, xs, r, o, es, ep, h1, h2, h3, h4, h5⟩ := (show ObjOk P w H h a (.dT kvs) from rd_of ok e)
  refine ⟨z, y, xs, r, o, es, ep, h1, h2, h3, h4, fun x hx => ?_, h5⟩
  have all : ∀ {l : List (List Key × V)} {m : List (List Key × Addr × Value)}, KT H l m → ∀ x ∈ m, (tupleKind (mixKind P w)).is h x.1 x.2.1 := by
    intro l m q
    induction q with
    | nil => intro x hx; exact nomatch hx
    | @cons p q ps qs hq t ih =>
      intro x hx
      rcases List.mem_cons.mp hx with e | hx
      · subst e
        exact key_of ok (by rw [← hq.1]; exact hq.2.1)
      · exact ih x hx
  exact all r x hx
theorem dt_of {kvs : List (List Key × V)} (ok : HOk P w H h) (e : H a = some (.dT kvs)) : kvs.length ≤ sizeLine ∧ (a == sysModules) = false ∧
    ∃ xs, KT H kvs xs ∧ h.DictOfH (tupleKind (mixKind P w)) a xs := dt_rd ok (.inl e)
end

/-- what the dict at a holds at the key y -/
def DGet (H : Hp) (a : Addr) (y : V) (r : Option V) : Prop :=
  (∃ kvs k, Rd H a (.dK kvs) ∧ y = kV k ∧ r = valV kvs k) ∨ ∃ kvs k b, Rd H a (.dT kvs) ∧ y = .ref b ∧ H b = some (.tup (k.map kV)) ∧ r = valV kvs k
/-- the heap behind a[y] = v -/
def DPut (H : Hp) (a : Addr) (y v : V) (H' : Hp) : Prop :=
  (∃ kvs k, H a = some (.dK kvs) ∧ y = kV k ∧ kvs.length < sizeLine ∧ H' = upd H a (.dK (putK kvs k v))) ∨
  ∃ kvs k b, H a = some (.dT kvs) ∧ y = .ref b ∧ H b = some (.tup (k.map kV)) ∧ kvs.length < sizeLine ∧ H' = upd H a (.dT (putK kvs k v))
theorem DGet.k {H : Hp} {a : Addr} {kvs : List (Key × V)} {k : Key} (e : H a = some (.dK kvs)) : DGet H a (kV k) (valV kvs k) := .inl ⟨kvs, k, .inl e, rfl, rfl⟩
theorem DGet.t {H : Hp} {a b : Addr} {kvs : List (List Key × V)} {k : List Key} (e : H a = some (.dT kvs)) (eb : H b = some (.tup (k.map kV))) : DGet H a (.ref b) (valV kvs k) := .inr ⟨kvs, k, b, .inl e, rfl, eb, rfl⟩
theorem DPut.k {H : Hp} {a : Addr} {kvs : List (Key × V)} {k : Key} {v : V} (e : H a = some (.dK kvs)) (hl : kvs.length < sizeLine) : DPut H a (kV k) v (upd H a (.dK (putK kvs k v))) := .inl ⟨kvs, k, e, rfl, hl, rfl⟩
theorem DPut.t {H : Hp} {a b : Addr} {kvs : List (List Key × V)} {k : List Key} {v : V} (e : H a = some (.dT kvs)) (eb : H b = some (.tup (k.map kV))) (hl : kvs.length < sizeLine) :
    DPut H a (.ref b) v (upd H a (.dT (putK kvs k v))) := .inr ⟨kvs, k, b, e, rfl, eb, hl, rfl⟩


section
variable {X : Cx} {pins : List (Addr × Obj)} {σ : St} {H : Hp} {s : Shared} {a : Addr} {y v : V} {u r : Value} {o : Option V} {A : Around} {E : Value → Shared → Prop}

theorem Inv.big (I : Inv X pins σ H s) : sysModules < s.heap.objs.size := by
  have h : mainGlobals < s.heap.objs.size := (I.mod.glob.keeps I.bk).lt
  exact Nat.lt_trans (by decide) h

/-- d[y], there -/
theorem d_getItem {Q : Value → Shared → Prop} (hu : A.units + 1 < cLine) (I : Inv X pins σ H s) (g : DGet H a y (some v)) (ry : RelV y u) (h : ∀ w' s', Inv X pins σ H s' → RelV v w' → Q w' s') :
    wpAny (model X.prog X.w) A (getItem (.ref a) u) Q E s := by
  rcases g with ⟨kvs, k, e, ey, l⟩ | ⟨kvs, k, b, e, ey, eb, l⟩
  · subst ey
    obtain ⟨z, hd, vs, rel, dd⟩ := dk_rd I.hok e
    obtain ⟨w', hw, rw'⟩ := RelO.some_of (v := v) (o := valueAt vs k) (by rw [l]; exact rel.val k)
    exact wpAny_getItem_of (kV_is ry) dd.mapOf hw (h w' _ (I.tok _) rw')
  · subst ey
    cases (show u = Value.ref b from ry)
    obtain ⟨z, hd, xs, rel, dd⟩ := dt_rd I.hok e
    obtain ⟨w', hw, rw'⟩ := RelO.some_of (v := v) (o := (atKey xs k).map (·.2)) (by rw [l]; exact rel.val k)
    obtain ⟨p, hp, hp2⟩ := Option.map_eq_some_iff.mp hw
    refine wpAny_getItem_heap (tupleKind_room_in1 hu) (key_of I.hok eb) dd hp ?_
    rw [hp2]
    exact h w' _ (I.tok _) rw'
/-- a dict's object is replaced -/
theorem d_write {h' : Heap} {t' : Nat} {ob : HO} (I : Inv X pins σ H s) (mu : Mut (H a)) (hs : Heap.SameBut a s.heap h') (he : ∃ q, h'.get? a = some q) (new : ObjOk X.prog X.w (upd H a ob) h' a ob) :
    Inv X pins σ (upd H a ob) { s with heap := h', toks := t' } :=
  I.write (x := a) (e := a) mu (.inl rfl) (fun b q hb z => (hs.2 b hb).trans z) he new
theorem dk_new {P : Program} {w : World} {H' : Hp} {h' : Heap} {kvs : List (Key × V)} {vs : List (Key × Value)} (z : kvs.length ≤ sizeLine) (hd : (a == sysModules) = false) (rel : KV kvs vs) (dd : h'.DictOf (mixKind P w) a vs) :
    ObjOk P w H' h' a (.dK kvs) := ⟨z, hd, vs, rel, dd⟩
/-- d[y] = v -/
theorem d_setItem {H' : Hp} {Q : Unit → Shared → Prop} (hu : A.units + 1 < cLine) (I : Inv X pins σ H s) (g : DPut H a y v H') (ry : RelV y u) (rv : RelV v r) (h : ∀ s', Inv X pins σ H' s' → Q () s') :
    wpAny (model X.prog X.w) A (setItem (.ref a) u r) Q E s := by
  rcases g with ⟨kvs, k, e, ey, l, eH⟩ | ⟨kvs, k, b, e, ey, eb, l, eH⟩
  · subst ey eH
    obtain ⟨z, hd, vs, rel, dd⟩ := dk_of I.hok e
    have hz : vs.length ≤ sizeLine := by rw [← rel.length]; exact z
    have hl : (putK kvs k v).length ≤ sizeLine := by have := length_putK kvs k v; omega
    refine wpAny_setItem_pairs (hsz := hz) (kV_is ry) dd fun h' dd' hs => h _ ?_
    have he : ∃ q, h'.get? a = some q := let ⟨q, _, _, hq, _⟩ := dd'; ⟨q, hq⟩
    exact d_write I (by rw [e]; exact True.intro) hs he (dk_new hl hd (rel.put k rv) dd')
  · subst ey eH
    cases (show u = Value.ref b from ry)
    obtain ⟨z, hd, xs, rel, dd⟩ := dt_of I.hok e
    have hz : xs.length ≤ sizeLine := by rw [← Paired.length rel]; exact z
    have hl : (putK kvs k v).length ≤ sizeLine := by have := length_putK kvs k v; omega
    refine wpAny_setItem_heap (hsz := hz) (tupleKind_room_in1 hu) (key_of I.hok eb) dd fun h' dd' hs => h _ ?_
    obtain ⟨q, es, ep, hq, h2, h3, h4, _, h5⟩ := dd'
    refine d_write I (by rw [e]; exact True.intro) hs ⟨q, hq⟩ ⟨hl, hd, _, (rel.put k eb rv).keeps fun c ys ec => ?_, q, es, ep, hq, h2, h3, h4, h5⟩
    rw [upd_ne (ne_of ec e (fun z => nomatch z))]
    exact ec
end

section
variable {X : Cx} {pins : List (Addr × Obj)} {σ : St} {H : Hp} {s : Shared} {a : Addr} {kvs : List (Key × V)} {k : Key} {u : Value} {A : Around} {E : Value → Shared → Prop}
end


/-! ### readings and rules -/
/-- the element of a subscription, not a slice -/
def NoSl (i : Expr) : Prop := ∀ ov iv, subscripted i false ov iv = operate [ov, iv] (getItem ov iv)
theorem subD_of {prog : Program} {w : World} {A : Around} {E : Value → Shared → Prop} {s : Shared} {env : Env} {value slice : Expr} {pos : Pos} {T id : String} {Q : Value → Shared → Prop}
    (hl : typeLookup (.type T) "__getitem__" = pure (some (.builtin id))) (hs : NoSl slice)
    (h : wpAny (model prog w) A (eval value env) (fun o s₁ => wpAny (model prog w) A (eval slice env) (fun i s₂ => s₂.TypeIs o T ∧ wpAny (model prog w) A (getItem o i) Q E s₂) E s₁) E s) :
    wpAny (model prog w) A (eval (.Subscript value slice pos) env) Q E s := by
  refine Subscript_ (wpAny_mono h (fun o s₁ h₁ => wpAny_mono h₁ (fun i s₂ h₂ => ?_) fun _ _ x => x) fun _ _ x => x)
  obtain ⟨hT, h₂⟩ := h₂
  unfold subscriptTail
  refine wpAny_bind ?_
  rw [getitemInPython_of_ne hT.not_modules]
  refine wpAny_bind (wpAny_specialOf hT hl ?_)
  have fin : wpAny (model prog w) A (subscripted slice false o i) (fun r s₃ => wpAny (model prog w) A (letTemporaryGo value o r >>= fun _ => pure r) Q E s₃) E s₂ := by
    rw [hs o i]
    exact wpAny_operating (wpAny_mono h₂ (fun r s₃ h₃ => wpAny_bind (wpAny_letTemporaryGo (wpAny_pure h₃))) fun _ _ x => x)
  first
    | exact wpAny_pure (wpAny_bind fin)
    | exact wpAny_bind (wpAny_pure (wpAny_bind fin))
    | exact wpAny_bind fin

theorem dict_typeIs {X : Cx} {pins : List (Addr × Obj)} {σ : St} {H : Hp} {s : Shared} {a : Addr} {y : V} {o : Option V} (I : Inv X pins σ H s) (g : DGet H a y o) : s.TypeIs (.ref a) "dict" := by
  rcases g with ⟨kvs, k, e, _, _⟩ | ⟨kvs, k, b, e, _, _, _⟩
  · obtain ⟨_, _, vs, _, dd⟩ := dk_rd I.hok e
    exact dd.typeIs
  · obtain ⟨_, _, xs, _, dd⟩ := dt_rd I.hok e
    exact dd.typeIs
/-- d[y] -/
def tDGet (td ty : TE) : TE := fun σ H Q => td σ H fun x H1 => ty σ H1 fun y H2 => ∃ a v, x = .ref a ∧ DGet H2 a y (some v) ∧ Q v H2
/-- d[y] = v -/
def sDPut (td ty tv : TE) : TS := fun D σ H => tv σ H fun v H1 => td σ H1 fun x H2 => ty σ H2 fun y H3 => ∃ a H4, x = .ref a ∧ DPut H3 a y v H4 ∧ D.nx σ H4
section
variable {X : Cx} {o i e value : Expr} {pos pos' tpos : Pos} {td ty tv : TE}
theorem pe_dget (hu : X.A.units + 1 < cLine) (ho : PE X o td) (hi : PE X i ty) (hs : NoSl i) : PE X (.Subscript o i pos) (tDGet td ty) := by
  intro pins s σ H Q I h
  refine subD_of PySem.F.slot_dict_getitem.lookup hs (thn (ho pins s σ H _ I h) fun u s1 ⟨x, H1, I1, rx, q1⟩ => thn (hi pins s1 σ H1 _ I1 q1) fun iv s2 ⟨y, H2, I2, ry, a, v, ex, g, q2⟩ => ?_)
  subst ex
  obtain rfl : u = Value.ref a := rx
  exact ⟨dict_typeIs I2 g, d_getItem hu I2 g ry fun w' s3 I3 rw' => ⟨v, H2, I3, rw', q2⟩⟩
theorem ps_dput (hu : X.A.units + 1 < cLine) (ho : PE X o td) (hi : PE X i ty) (hv : PE X value tv) (hs : swapsWith value (some (.Subscript o i pos')) pos.line X.env = pure false) :
    PS X (.Assign [.Subscript o i pos'] value pos) (sDPut td ty tv) := by
  intro pins s σ H D I h
  refine wpAny_Assign_Subscript (thn (hv pins s σ H _ I h) fun r s1 ⟨v, H1, I1, rv, q1⟩ => thn (ho pins s1 σ H1 _ I1 q1) fun u s2 ⟨x, H2, I2, rx, q2⟩ => thn (hi pins s2 σ H2 _ I2 q2) fun iv s3 ⟨y, H3, I3, ry, a, H4, ex, g, q3⟩ => ?_) hs
  subst ex
  obtain rfl : u = Value.ref a := rx
  exact d_setItem hu I3 g ry rv fun s4 I4 => ⟨σ, H4, I4, q3⟩
end


/-! ### displays -/
theorem dt_empty {P : Program} {w : World} {H : Hp} (h : Heap) (hb : sysModules < h.objs.size) : ObjOk P w H (h.push { cls := .type "dict", data := .dict #[] }) h.objs.size (.dT []) :=
  ⟨Nat.zero_le _, beq_eq_false_iff_ne.mpr (Ne.symm (Nat.ne_of_lt hb)), [], .nil, _, #[], 0, Heap.get?_push_size _ rfl, ⟨rfl, rfl, rfl⟩, rfl, rfl, List.nodup_nil⟩
def tDNewT : TE := fun _ H Q => ∀ p, H p = none → Q (.ref p) (upd H p (.dT []))
section
variable {X : Cx} {pos : Pos}
theorem pe_dnewT : PE X (.Dict [] [] pos) tDNewT := fun pins s σ H Q I h =>
  wpAny_Dict_empty ⟨.ref s.heap.objs.size, _, I.laid (a := s.heap.objs.size) (o := .dT []) (t' := s.toks) (fun _ _ q => Heap.get?_push_of_some _ q) (Nat.le_refl _) (dt_empty s.heap I.big), rfl, h _ (I.hok.fresh (Nat.le_refl _))⟩
end

/-! ### methods -/
/-- a method call o.m(e) of a built-in, with one argument: what must be seen of the text -/
structure M1 (X : Cx) (o : Expr) (m : Str) (apos : Pos) (e : Expr) (cpos : Pos) : Prop where
  base : attributeBase o m X.env (eval o X.env) = eval o X.env
  few : ((backTo cpos (starEach [e] X.env)).all (fun x => !x.1) && (backToKw cpos (keywordEach [] X.env)).all (fun x => x.1.isSome)
    && decide (([e] : List Expr).length + ([] : List Keyword).length + (if ([] : List Keyword).isEmpty then 0 else 1) < 30)) = true
  line : (apos.endLine == cpos.line) = true
  trees : backTo cpos (starEach [e] X.env) = [(false, eval e X.env)]
structure M2 (X : Cx) (o : Expr) (m : Str) (apos : Pos) (e f : Expr) (cpos : Pos) : Prop where
  base : attributeBase o m X.env (eval o X.env) = eval o X.env
  few : ((backTo cpos (starEach [e, f] X.env)).all (fun x => !x.1) && (backToKw cpos (keywordEach [] X.env)).all (fun x => x.1.isSome)
    && decide (([e, f] : List Expr).length + ([] : List Keyword).length + (if ([] : List Keyword).isEmpty then 0 else 1) < 30)) = true
  line : (apos.endLine == cpos.line) = true
  trees : backTo cpos (starEach [e, f] X.env) = [(false, eval e X.env), (false, eval f X.env)]

/-- a is a dict, whatever its keys -/
def IsD (H : Hp) (a : Addr) : Prop := (∃ kvs, Rd H a (.dK kvs)) ∨ ∃ kvs, Rd H a (.dT kvs)
theorem isD_at {X : Cx} {pins : List (Addr × Obj)} {σ : St} {H : Hp} {s : Shared} {a : Addr} (I : Inv X pins σ H s) (d : IsD H a) :
    s.TypeIs (.ref a) "dict" ∧ (∀ b, Value.ref a = .ref b → ∃ ob, s.heap.get? b = some ob ∧ ob.dict = none) ∧ (a == sysModules) = false := by
  rcases d with ⟨kvs, e⟩ | ⟨kvs, e⟩
  · obtain ⟨_, hd, vs, _, dd⟩ := dk_rd I.hok e
    refine ⟨dd.typeIs, fun b q => ?_, hd⟩
    cases q
    obtain ⟨ob, _, _, h1, h2, _⟩ := dd
    exact ⟨ob, h1, h2.2.1⟩
  · obtain ⟨_, hd, xs, _, dd⟩ := dt_rd I.hok e
    refine ⟨dd.typeIs, fun b q => ?_, hd⟩
    cases q
    obtain ⟨ob, _, _, h1, h2, _⟩ := dd
    exact ⟨ob, h1, h2.2.1⟩

section
variable {X : Cx} {pins : List (Addr × Obj)} {σ : St} {H : Hp} {s : Shared} {a : Addr} {y d : V} {u r : Value} {o : Option V} {A : Around} {E : Value → Shared → Prop}
/-- d.get(y, x) -/
theorem d_get2 {Q : Value → Shared → Prop} (hu : A.units + 1 < cLine) (I : Inv X pins σ H s) (g : DGet H a y o) (ry : RelV y u) (rd : RelV d r) (h : ∀ w' s', Inv X pins σ H s' → RelV (o.getD d) w' → Q w' s') :
    wpAny (model X.prog X.w) A (call (.builtin "dict.get") [.ref a, u, r]) Q E s := by
  rcases g with ⟨kvs, k, e, ey, l⟩ | ⟨kvs, k, b, e, ey, eb, l⟩
  · subst ey
    obtain ⟨z, hd, vs, rel, dd⟩ := dk_rd I.hok e
    refine call_meetsIn PySem.F.slot_dict_get dd.typeIs PySem.F.entry_dict_get (PySem.F.args_dict_get_3 _ _ _) (meets_dict_get_default (mixKind X.prog X.w) a (kV_is ry) hd r) ⟨_, dd.mapOf, h _ _ (I.tok _) ?_⟩
    rw [l]
    exact (rel.val k).getD rd
  · subst ey
    cases (show u = Value.ref b from ry)
    obtain ⟨z, hd, xs, rel, dd⟩ := dt_rd I.hok e
    refine call_meetsIn PySem.F.slot_dict_get dd.typeIs PySem.F.entry_dict_get (PySem.F.args_dict_get_3 _ _ _) (meetsH_dict_get_default (tupleKind (mixKind X.prog X.w)) a b hd r) ⟨tupleKind_room_in1 hu, k, xs, key_of I.hok eb, dd, h _ _ (I.tok _) ?_⟩
    rw [l]
    exact (rel.val k).getD rd
end

def tDGet2 (td ty tx : TE) : TE := fun σ H Q => td σ H fun x H1 => ∃ a, x = .ref a ∧ IsD H1 a ∧ ty σ H1 fun y H2 => tx σ H2 fun z H3 => ∃ o, DGet H3 a y o ∧ Q (o.getD z) H3
section
variable {X : Cx} {o e f : Expr} {apos cpos : Pos} {td ty tx : TE}
theorem pe_dget2 (hu : X.A.units + 1 < cLine) (ho : PE X o td) (he : PE X e ty) (hf : PE X f tx) (m : M2 X o "get" apos e f cpos) : PE X (.Call (.Attribute o "get" apos) [e, f] [] cpos) (tDGet2 td ty tx) := by
  intro pins s σ H Q I h
  refine wpAny_Call_method m.base m.few m.line PySem.F.plainAttrs_dict PySem.F.slot_dict_get PySem.F.type_dict_get (thn (ho pins s σ H _ I h) fun u s1 ⟨x, H1, I1, rx, a, ex, d, q1⟩ => ?_)
  subst ex
  obtain rfl : u = Value.ref a := rx
  obtain ⟨t1, t2, _⟩ := isD_at I1 d
  refine ⟨t1, t2, ?_⟩
  rw [m.trees]
  refine Calls.callWith_builtin rfl (Calls.evalArgs_plain (Calls.spliced_cons (thn (he pins s1 σ H1 _ I1 q1) fun iv s2 ⟨y, H2, I2, ry, q2⟩ =>
    Calls.spliced_cons (thn (hf pins s2 σ H2 _ I2 q2) fun fv s3 ⟨z, H3, I3, rz, ov, g, q3⟩ => Calls.spliced_nil ?_))))
  exact d_get2 hu I3 g ry rz fun w' s4 I4 rw' => ⟨_, H3, I4, rw', q3⟩
end

/-! ### dict(d): a copy -/
section
variable {X : Cx} {pins : List (Addr × Obj)} {σ : St} {H : Hp} {s : Shared} {a : Addr} {kvs : List (Key × V)} {A : Around} {E : Value → Shared → Prop}
end


section
variable {X : Cx} {pins : List (Addr × Obj)} {σ : St} {H : Hp} {s : Shared} {a : Addr} {y : V} {u : Value} {A : Around} {E : Value → Shared → Prop}
end
end L2
namespace L2
open PySem PySem.Spec PyProof.Rows
section
variable {X : Cx}
end
/-! ### a dict's pairs: keys that differ -/
section
variable {κ : Type} [DecidableEq κ]
end
end L2

set_option linter.all false
namespace Mm
open PySem
/-! the settings of a mask -/
def setsOf (m N : Nat) : List Nat := (List.range N).filter fun s => m.testBit s
theorem high_bit {m B s : Nat} (h : m < 2 ^ B) (hs : B ≤ s) : m.testBit s = false := Nat.testBit_lt_two_pow (Nat.lt_of_lt_of_le h (Nat.pow_le_pow_right (by decide) hs))
theorem sets_ext {m B N : Nat} (h : m < 2 ^ B) (hB : B ≤ N) : setsOf m B = setsOf m N := by
  obtain ⟨d, rfl⟩ : ∃ d, N = B + d := ⟨N - B, by omega⟩
  unfold setsOf
  rw [List.range_add, List.filter_append]
  have : ((List.range d).map (B + ·)).filter (fun s => m.testBit s) = [] := by
    rw [List.filter_eq_nil_iff]
    intro a ha
    obtain ⟨b, _, rfl⟩ := List.mem_map.mp ha
    rw [high_bit h (by omega)]
    simp
  rw [this, List.append_nil]
theorem sets_lt {m N s : Nat} (h : s ∈ setsOf m N) : s < N := by
  have := (List.mem_filter.mp h).1
  simpa using this
theorem sets_len (m N : Nat) : (setsOf m N).length ≤ N := by
  have := List.length_filter_le (fun s => m.testBit s) (List.range N)
  simpa [setsOf] using this
theorem bits_self (m : Nat) : m < 2 ^ Builtin.Int.intBits (m : Int) := by
  have := (intBits_le_iff (m := Builtin.Int.intBits (m : Int)) (x := (m : Int))).mp (Nat.le_refl _)
  simpa using this
end Mm

set_option Elab.async false
set_option linter.all false
set_option maxRecDepth 100000
namespace Mm
open PySem L2
/-! a wood's masks and numbers -/
def insM (M : List Nat) (m : Nat) : List Nat := if m ∈ M then M else M ++ [m]
def wkf (M : List Nat) (k : Nat) : List (Key × V) := (M.zipIdx k).map fun p => (Sum.inl (p.1 : Int), V.int ((p.2 : Nat) : Int))
def wkv (M : List Nat) : List (Key × V) := wkf M 0
theorem insM_mem {M : List Nat} {m : Nat} (h : m ∈ M) : insM M m = M := if_pos h
theorem insM_new {M : List Nat} {m : Nat} (h : m ∉ M) : insM M m = M ++ [m] := if_neg h
theorem insM_nd {M : List Nat} {m : Nat} (nd : M.Nodup) : (insM M m).Nodup := by
  by_cases h : m ∈ M
  · rw [insM_mem h]; exact nd
  · rw [insM_new h]
    exact List.nodup_append.mpr ⟨nd, by simp, fun a ha b hb => by
      have : b = m := by simpa using hb
      subst this
      exact fun e => h (e ▸ ha)⟩
theorem insM_keep {M : List Nat} {m i k : Nat} (h : M[i]? = some k) : (insM M m)[i]? = some k := by
  unfold insM
  split
  · exact h
  · rw [List.getElem?_append_left (List.getElem?_eq_some_iff.mp h).1]; exact h
theorem insM_all {M : List Nat} {m : Nat} {p : Nat → Prop} (h : ∀ x ∈ M, p x) (hm : p m) : ∀ x ∈ insM M m, p x := fun x hx => by
  unfold insM at hx
  split at hx
  · exact h x hx
  · rcases List.mem_append.mp hx with e | e
    · exact h x e
    · have : x = m := by simpa using e
      rw [this]; exact hm
/-- what a wood's masks are -/
structure Gd (n : Nat) (M : List Nat) : Prop where
  nd : M.Nodup
  lt : ∀ m ∈ M, m < 2 ^ 2 ^ n
  z : M[0]? = some 0
  f : M[1]? = some (2 ^ 2 ^ n - 1)
theorem Gd.ins {n : Nat} {M : List Nat} {m : Nat} (g : Gd n M) (h : m < 2 ^ 2 ^ n) : Gd n (insM M m) := ⟨insM_nd g.nd, insM_all g.lt h, insM_keep g.z, insM_keep g.f⟩
theorem full_pos (n : Nat) : 0 < 2 ^ 2 ^ n - 1 := by
  have h1 : 0 < 2 ^ n := Nat.two_pow_pos n
  have h2 : 2 ^ 1 ≤ 2 ^ 2 ^ n := Nat.pow_le_pow_right (by decide) h1
  omega
theorem Gd.new (n : Nat) : Gd n [0, 2 ^ 2 ^ n - 1] := ⟨by
  have := full_pos n
  rw [List.nodup_cons]
  exact ⟨fun h => by
    have : 0 = 2 ^ 2 ^ n - 1 := by simpa using h
    omega, by simp⟩, fun m hm => by
  have := full_pos n
  have : m = 0 ∨ m = 2 ^ 2 ^ n - 1 := by simpa using hm
  omega, rfl, rfl⟩
theorem Gd.get {n : Nat} {M : List Nat} {m i : Nat} (g : Gd n M) (h : M[i]? = some m) : m < 2 ^ 2 ^ n := g.lt m (List.mem_of_getElem? h)
def wfl (n : Nat) (l d : Addr) : List (Str × V) := [("n", .int (n : Nat)), ("masks", .ref l), ("numbers", .ref d)]
/-- the wood at o -/
structure Wd (C : Addr) (H : Hp) (o dx l d : Addr) (n : Nat) (M : List Nat) : Prop where
  ins : H o = some (.ins C dx (wfl n l d))
  lst : H l = some (.lst (M.map fun x => V.int ((x : Nat) : Int)))
  dic : H d = some (.dK (wkv M))
  gd : Gd n M
theorem Wd.od {C : Addr} {H : Hp} {o dx l d : Addr} {n : Nat} {M : List Nat} (W : Wd C H o dx l d n M) : o ≠ l ∧ o ≠ d ∧ l ≠ d := ⟨ne_of W.ins W.lst (by intro z; cases z), ne_of W.ins W.dic (by intro z; cases z), ne_of W.lst W.dic (by intro z; cases z)⟩
/-- all but two addresses stay -/
def But (l d : Addr) (H H' : Hp) : Prop := ∀ b u, H b = some u → b ≠ l → b ≠ d → H' b = some u
theorem But.refl (l d : Addr) (H : Hp) : But l d H H := fun _ _ h _ _ => h
theorem But.of {l d : Addr} {H H' : Hp} (h : Same H H') : But l d H H' := fun b u e _ _ => h b u e
theorem But.trans {l d : Addr} {H H1 H2 : Hp} (a : But l d H H1) (b : But l d H1 H2) : But l d H H2 := fun c u h h1 h2 => b c u (a c u h h1 h2) h1 h2
theorem Wd.stay {C : Addr} {H H' : Hp} {o dx l d : Addr} {n : Nat} {M : List Nat} (W : Wd C H o dx l d n M) (h : Same H H') : Wd C H' o dx l d n M := ⟨h _ _ W.ins, h _ _ W.lst, h _ _ W.dic, W.gd⟩
theorem Wd.but {C : Addr} {H H' : Hp} {o dx l d l2 d2 : Addr} {n : Nat} {M : List Nat} (W : Wd C H o dx l d n M) (h : But l2 d2 H H') (h1 : o ≠ l2 ∧ o ≠ d2) (h2 : l ≠ l2 ∧ l ≠ d2) (h3 : d ≠ l2 ∧ d ≠ d2) : Wd C H' o dx l d n M :=
  ⟨h _ _ W.ins h1.1 h1.2, h _ _ W.lst h2.1 h2.2, h _ _ W.dic h3.1 h3.2, W.gd⟩
/-! counting -/
theorem ix_tupK {X : Cx} {K : PySem.W.Frag} (h : X.K = K) : IxR X (rIxT K) := by subst h; exact ix_tup
theorem bt_tuple : bootBuiltins "tuple" = some (.type "tuple") := by decide +kernel
theorem call_list_ofK {X : Cx} {K : PySem.W.Frag} (hK : X.K = K) : CallR X (.type "list") (fun xs H Q => ∃ p ys, xs = [.ref p] ∧ (SqL K H p ys ∨ SqT K H p ys) ∧ ∀ l, H l = none → Q (.ref l) (upd H l (.lst ys))) := by subst hK; exact call_list_of
/-! one statement, then the rest: what stands between -/
theorem seq_c {v : V} {i : Nat} {b : TS} {D : Ends} {σ : St} {H : Hp} (h : b D (σ.set i (some v)) H) : tSeq (tAsg (tC v) (gName i)) b D σ H := h
theorem cut_if {c : TT} {t u b : TS} {D : Ends} {σ : St} {H : Hp} (P : St → Hp → Prop) (h1 : ∀ R : St → Hp → Prop, (∀ σ' H', P σ' H' → R σ' H') → tIfS c t u { D with nx := R } σ H) (h2 : ∀ σ' H', P σ' H' → b D σ' H') : tSeq (tIfS c t u) b D σ H := h1 (b D) h2
theorem cut_for {wi : TI} {g : TG} {tb b : TS} {D : Ends} {σ : St} {H : Hp} (P : St → Hp → Prop) (h1 : ∀ R : St → Hp → Prop, (∀ σ' H', P σ' H' → R σ' H') → tFor wi g tb { D with nx := R } σ H) (h2 : ∀ σ' H', P σ' H' → b D σ' H') : tSeq (tFor wi g tb) b D σ H := h1 (b D) h2
end Mm

set_option Elab.async false
set_option linter.all false
set_option maxRecDepth 100000
set_option maxHeartbeats 4000000
namespace L2
open PySem PySem.Spec PyProof.Rows
section
variable {X : Cx}
end
end L2

set_option Elab.async false
set_option linter.all false
set_option maxRecDepth 100000
set_option maxHeartbeats 4000000
namespace L2
open PySem PySem.Spec PyProof.Rows
section
variable {X : Cx}
end
theorem pg_tupK {X : Cx} {K : PySem.W.Frag} {es : List Expr} {k : Nat} {pos : Pos} {t : TGs} {n : Nat} (hK : X.K = K) (hc : X.calm = true) (h : PGs X es t)
    (hn : (assignEach es X.env).length = n := by rfl) (hst : (assignEach es X.env).findIdx? (·.1) = none := by rfl) : PG X (.Tuple es k pos) (gTup K n t) := by
  subst hK
  exact pg_tup hc h hn hst
/-! the forms one uses -/
section
variable {k : Nat} {js : List Nat} {g : TG} {tt : TT} {te : TE}
theorem comp2_list {K : PySem.W.Frag} {a : Addr} {xs : List V} {σ : St} {H : Hp} {Q : VK} (Pv : Nat → List V → Hp → Prop) (h0 : Pv 0 [] H) (hl : ∀ i ys H, i ≤ xs.length → Pv i ys H → SqL K H a xs)
    (hs : ∀ i x ys H, xs[i]? = some x → Pv i ys H → tStep2 k js g tt te σ ys (Pv (i + 1)) x H)
    (hd : ∀ ys H, Pv xs.length ys H → ∀ p, H p = none → Q (.ref p) (upd H p (.lst ys))) : tCompB2 (Itl K a) k js g tt te σ H Q := by
  refine ⟨fun i m ys H => m = xs.length - i ∧ i ≤ xs.length ∧ Pv i ys H, ⟨xs.length, by simp, Nat.zero_le _, h0⟩, ?_⟩
  rintro i m ys H ⟨rfl, hi, p⟩
  have q := hl i ys H hi p
  by_cases hlt : i < xs.length
  · refine .inr ⟨⟨xs, xs[i], q, by simp [hlt]⟩, Pv (i + 1), fun ys' H' p' => ⟨xs.length - (i + 1), by omega, rfl, hlt, p'⟩, fun x H' y => ?_⟩
    obtain ⟨e, y⟩ := y
    subst e
    exact hs i x ys _ (y xs q) p
  · have e : i = xs.length := by omega
    subst e
    exact .inl ⟨⟨xs, q, Nat.le_refl _⟩, hd ys H p⟩
end
end L2

set_option Elab.async false
set_option linter.all false
set_option maxRecDepth 100000
set_option maxHeartbeats 4000000
namespace L2
open PySem PySem.Spec PyProof.Rows
/-! ### an exception that leaves a comprehension -/
section
variable {M : Model} {A : Around} {E : Value → Shared → Prop} {s : Shared}
end
section
variable {X : Cx} {pins : List (Addr × Obj)} {σ : St} {H H' : Hp} {s s' : Shared} {B h'' : Heap}
end
section
variable {P : Program} {w : World} {K : PySem.W.Frag} {mg : Str → Option Value} {base : Heap} {N : List Str} {qual : Str} {scope : Scope} {f : Addr} {cd : Value} {A : Around} {outer : List Env} {s₀ : Shared} {H₀ : Hp} {E : XK}
end
/-! ### the loop of a comprehension whose element may raise -/
section
variable {X : Cx} {pins : List (Addr × Obj)} {σ : St} {H2 : Hp} {s2 : Shared} {elt iter tg : Expr} {xs : List Str} {ifs : List Expr} {sc scX : Scope} {pos : Pos} {fv : List Str} {js : List Nat} {g : TG} {tt : TT}
end
end L2

set_option Elab.async false
set_option linter.all false
set_option maxRecDepth 100000
set_option maxHeartbeats 4000000
namespace L2
open PySem PySem.Spec PyProof.Rows
theorem vals_refs : ∀ {Cs : List Addr} {us : List Value}, Vals (Cs.map V.ref) us → us = Cs.map Value.ref
  | [], _, r => by cases r; rfl
  | c :: cs, _, r => by
    cases r with
    | cons r1 r2 =>
      cases (show _ = Value.ref c from r1)
      rw [vals_refs r2]
      rfl
section
variable {X : Cx}
/-- isinstance(e, (C1, C2, ..)) -/
theorem call_isexDT {K : PySem.W.Frag} (hK : X.K = K) : CallR X (.builtin "isinstance") (fun xs H Q => ∃ (a t D : Addr) (Cs : List Addr) (dd : Option Addr) (cx : Option Value) (b : Bool), xs = [.ref a, .ref t] ∧ H t = some (.tup (Cs.map V.ref)) ∧ H a = some (excD a (.ref D) dd cx) ∧ XCls K D ∧ PySem.W.kitAny K (.ref D) (Cs.map Value.ref) = some b ∧ Q (.bl b) H) := by
  subst hK
  intro pins s σ H xs us Q I r h
  obtain ⟨a, t, D, Cs, dd, cx, b, rfl, ht, ha, c, e, q⟩ := h
  obtain ⟨u, w', rfl, rx, rw'⟩ := vals2 r
  cases (show w' = Value.ref t from rw')
  cases (show u = Value.ref a from rx)
  obtain ⟨_, its, rv, ⟨oc, od, oda, osl⟩, ho, hc, n, hd⟩ := I.hok t _ ht
  have hc : oc = .type "tuple" := hc
  have hd : oda = .seq its.toArray n := hd
  subst hc hd
  rw [← vals_refs rv] at e
  exact PySem.W.kia_tup (kitx_exc c) I.kIn (excD_has I ha).cls ho e (fun z => nomatch z) fun tk => ⟨.bl b, H, I.tok _, rfl, q⟩
end
theorem pe_xfldK {X : Cx} {K : PySem.W.Frag} {e : Expr} {f : Str} {pos : Pos} {ta : TE} (hK : X.K = K) (he : PE X e ta) (hb : attributeBase e f X.env (eval e X.env) = eval e X.env) : PE X (.Attribute e f pos) (tXfld K ta f) := by
  subst hK
  exact pe_xfld he hb
/-- an exception with the field at -/
def ErrAt (E : XK) (C : Addr) (x : V) (H : Hp) : Prop := ∀ dx H', Same H H' → H' dx = some (xdO dx [("at", x)]) → E (.ref C) (some dx) H'
theorem ErrAt.same {E : XK} {C : Addr} {x : V} {H H1 : Hp} (h : ErrAt E C x H) (s : Same H H1) : ErrAt E C x H1 := fun dx H' s' e => h dx H' (s.trans s') e
end L2

set_option Elab.async false
set_option linter.all false
set_option maxRecDepth 100000
set_option maxHeartbeats 4000000
namespace L2
open PySem PySem.Spec PyProof.Rows
/-! ### values as data, for == of lists and tuples -/
mutual
inductive Rdv (K : PySem.W.Frag) (H : Hp) : V → PyData → Prop
  | non : Rdv K H .non .none
  | bl (b : Bool) : Rdv K H (.bl b) (.bool b)
  | int (i : Int) : Rdv K H (.int i) (.int i)
  | str (x : Str) : Rdv K H (.str x) (.str x)
  | lst {a : Addr} {xs : List V} {ds : List PyData} : SqL K H a xs → RdvA K H xs ds → Rdv K H (.ref a) (.list ds)
  | tup {a : Addr} {xs : List V} {ds : List PyData} : SqT K H a xs → RdvA K H xs ds → Rdv K H (.ref a) (.tuple ds)
inductive RdvA (K : PySem.W.Frag) (H : Hp) : List V → List PyData → Prop
  | nil : RdvA K H [] []
  | cons {x : V} {d : PyData} {xs : List V} {ds : List PyData} : Rdv K H x d → RdvA K H xs ds → RdvA K H (x :: xs) (d :: ds)
end
section
variable {X : Cx} {pins : List (Addr × Obj)} {σ : St} {H : Hp} {s : Shared}
mutual
theorem Rdv.reads (I : Inv X pins σ H s) : ∀ {x : V} {d : PyData} {u : Value}, Rdv X.K H x d → RelV x u → ∃ as, Reads s.heap u d as
  | _, _, _, .non, r => by cases r; exact ⟨_, .none⟩
  | _, _, _, .bl b, r => by cases r; exact ⟨_, .bool b⟩
  | _, _, _, .int i, r => by obtain ⟨t, rfl⟩ := r; exact ⟨_, .int i t⟩
  | _, _, _, .str x, r => by obtain ⟨t, rfl⟩ := r; exact ⟨_, .str x t⟩
  | _, _, _, .lst hq ha, r => by
    cases r
    obtain ⟨its, rv, p, _⟩ := I.list hq
    obtain ⟨as, ra⟩ := RdvA.reads I ha rv
    obtain ⟨o, ho, hc, n, hd⟩ := p.isList
    exact ⟨_, .list ho hc hd (by simpa using ra)⟩
  | _, _, _, .tup hq ha, r => by
    cases r
    obtain ⟨its, rv, p, _⟩ := I.tuple hq
    obtain ⟨as, ra⟩ := RdvA.reads I ha rv
    obtain ⟨o, ho, hc, n, hd⟩ := p
    exact ⟨_, .tuple ho hc hd (by simpa using ra)⟩
theorem RdvA.reads (I : Inv X pins σ H s) : ∀ {xs : List V} {ds : List PyData} {us : List Value}, RdvA X.K H xs ds → Vals xs us → ∃ as, ReadsAll s.heap us ds as
  | _, _, _, .nil, r => by cases r; exact ⟨_, .nil⟩
  | _, _, _, .cons h t, r => by
    cases r with
    | cons r1 r2 =>
      obtain ⟨as, ra⟩ := Rdv.reads I h r1
      obtain ⟨bs, rb⟩ := RdvA.reads I t r2
      exact ⟨_, .cons ra rb⟩
end
end
section
variable {X : Cx}
theorem op_eqD {K : PySem.W.Frag} (hK : X.K = K) (hu : X.A.units + 64 < cLine) : OpR X (compareOp .Eq) (fun x y H Q => ∃ d e, Rdv K H x d ∧ Rdv K H y e ∧ SeqAt.shaped d = true ∧ SeqAt.shaped e = true ∧ Q (.bl (PyData.eqv d e)) H) := by
  intro pins s σ H x y v u Q I rx ry h
  subst hK
  obtain ⟨d, e, h1, h2, s1, s2, q⟩ := h
  obtain ⟨as, ra⟩ := h1.reads I rx
  obtain ⟨bs, rb⟩ := h2.reads I ry
  exact eq_dataH ra rb s1 s2 hu ⟨.bl _, H, I, rfl, q⟩
theorem op_neD {K : PySem.W.Frag} (hK : X.K = K) (hu : X.A.units + 64 < cLine) : OpR X (compareOp .NotEq) (fun x y H Q => ∃ d e, Rdv K H x d ∧ Rdv K H y e ∧ SeqAt.shaped d = true ∧ SeqAt.shaped e = true ∧ Q (.bl (!PyData.eqv d e)) H) := by
  intro pins s σ H x y v u Q I rx ry h
  subst hK
  obtain ⟨d, e, h1, h2, s1, s2, q⟩ := h
  obtain ⟨as, ra⟩ := h1.reads I rx
  obtain ⟨bs, rb⟩ := h2.reads I ry
  exact ne_dataH ra rb s1 s2 hu ⟨.bl _, H, I, rfl, q⟩
end
theorem any_getD (bs : List Bool) : ((List.range bs.length).any fun i => bs.getD i false) = bs.any id := by
  have : (List.range bs.length).map (fun i => bs.getD i false) = bs := by
    apply List.ext_getElem
    · simp
    · intro i h1 h2
      simp at h1
      simp [h1]
  calc ((List.range bs.length).any fun i => bs.getD i false) = ((List.range bs.length).map fun i => bs.getD i false).any id := by rw [List.any_map]; rfl
    _ = bs.any id := by rw [this]
section
variable {X : Cx}
theorem call_anyB (hc : X.calm = true) : CallR X (.builtin "any") (fun xs H Q => ∃ (p : Addr) (bs : List Bool), xs = [.ref p] ∧ SqL X.K H p (bs.map V.bl) ∧ Q (.bl (bs.any id)) H) := by
  intro pins s σ H xs us Q I r h
  obtain ⟨p, bs, rfl, hq, q⟩ := h
  obtain ⟨u, rfl, ru⟩ := vals1 r
  cases (show u = Value.ref p from ru)
  obtain ⟨its, rv, pl, hz⟩ := I.list hq
  have hlen : its.length = bs.length := by rw [← rv.length, List.length_map]
  have hlt : p < s.heap.objs.size := by obtain ⟨o, n, e, _⟩ := pl; exact Heap.lt_size e
  refine call_any_walk (wpAny_pyIter_list pl.isList ?_)
  refine ⟨s.heap.objs.size, _, _, _, _, _, fun i => bs.getD i false, rfl, Walks.list (A := X.A.in1) (show X.A.in1.handled = none from I.ok.hd hc) _ p (Nat.ne_of_lt hlt) its.toArray, ⟨⟨_, Heap.get?_push_size _ rfl, rfl, rfl⟩, Heap.IsList.at pl.isList fun o e => Heap.get?_push_of_some _ e⟩, ?_, fun h' tk hk => ?_⟩
  · intro i v s' Q' E' hv hq'
    have e : its[i]? = some v := by simpa using hv
    rw [bl_at rv e]
    exact wpAny_truthy_bool hq'
  · refine ⟨.bl _, H, I.kept fun b o e => hk b o ?_ (Heap.get?_push_of_some _ e), rfl, ?_⟩
    · intro z
      have z' : b = s.heap.objs.size := by simpa using z
      exact Nat.lt_irrefl _ (z' ▸ Heap.lt_size e)
    · have e : its.toArray.size = bs.length := by rw [List.size_toArray]; exact hlen
      rw [e, any_getD]
      exact q
end
theorem bt_any : bootBuiltins "any" = some (.builtin "any") := by decide +kernel
/-! shapes -/
def Shd (n : Nat) (d : PyData) : Prop := d.canLay0 = true ∧ d.depth ≤ n
theorem Shd.int (i : Int) : Shd 0 (.int i) := ⟨rfl, Nat.le_refl _⟩
theorem Shd.bl (i : Bool) : Shd 0 (.bool i) := ⟨rfl, Nat.le_refl _⟩
theorem Shd.str {z : Str} (h : ∀ c ∈ z.cps.toList, c < 128) : Shd 0 (.str z) := ⟨by
  show PyData.strOk z = true
  unfold PyData.strOk
  rw [Array.all_eq_true]
  intro i hi
  have := h z.cps[i] (by simp)
  simp only [decide_eq_true_eq]
  omega, Nat.le_refl _⟩
theorem shd_all {n : Nat} : ∀ {ds : List PyData}, (∀ d ∈ ds, Shd n d) → PyData.canLayAll0 ds = true ∧ PyData.depthAll ds ≤ n
  | [], _ => ⟨rfl, Nat.zero_le _⟩
  | d :: r, h => by
    obtain ⟨a, b⟩ := h d List.mem_cons_self
    obtain ⟨c, e⟩ := shd_all (ds := r) fun x hx => h x (List.mem_cons_of_mem _ hx)
    exact ⟨by simp only [PyData.canLayAll0]; rw [a, c]; rfl, by simp only [PyData.depthAll]; omega⟩
theorem Shd.list {n : Nat} {ds : List PyData} (h : ∀ d ∈ ds, Shd n d) : Shd (n + 1) (.list ds) := ⟨by simp only [PyData.canLay0]; exact (shd_all h).1, by simp only [PyData.depth]; have := (shd_all h).2; omega⟩
theorem Shd.tuple {n : Nat} {ds : List PyData} (h : ∀ d ∈ ds, Shd n d) : Shd (n + 1) (.tuple ds) := ⟨by simp only [PyData.canLay0]; exact (shd_all h).1, by simp only [PyData.depth]; have := (shd_all h).2; omega⟩
theorem Shd.up {n m : Nat} {d : PyData} (h : Shd n d) (hm : n ≤ m) : Shd m d := ⟨h.1, Nat.le_trans h.2 hm⟩
theorem Shd.ok {n : Nat} {d : PyData} (h : Shd n d) (hn : n ≤ 64) : SeqAt.shaped d = true := by
  show (d.canLay0 && decide (d.depth ≤ 64)) = true
  rw [h.1, decide_eq_true (Nat.le_trans h.2 hn)]; rfl
theorem Shd.refl {n : Nat} {d : PyData} (h : Shd n d) : PyData.eqv d d = true := SeqAt.eqv_refl d h.1
theorem RdvA.map {α : Type} {K : PySem.W.Frag} {H : Hp} {f : α → V} {g : α → PyData} : ∀ {l : List α}, (∀ x ∈ l, Rdv K H (f x) (g x)) → RdvA K H (l.map f) (l.map g)
  | [], _ => .nil
  | x :: r, h => .cons (h x List.mem_cons_self) (RdvA.map fun y hy => h y (List.mem_cons_of_mem _ hy))
theorem Rdv.strs {K : PySem.W.Frag} {H : Hp} {a : Addr} {zs : List Str} (h : SqL K H a (zs.map V.str)) : Rdv K H (.ref a) (.list (zs.map PyData.str)) := .lst h (RdvA.map fun x _ => .str x)
end L2

set_option Elab.async false
set_option linter.all false
set_option maxRecDepth 100000
set_option maxHeartbeats 4000000
namespace L2
open PySem PySem.Spec PyProof.Rows
/-! ### a def with defaults -/
structure FunD (K : PySem.W.Frag) (x qual : Str) (st : Stmt) (f T : Addr) (items : List Value) (fd : FuncData) : Prop where
  ex : ∃ (oc : Value) (od : Option Addr) (kV doc pm : Value) (an : Option Addr) (cdv ct : Value) (osl : Array (Option Value)),
    fd = PySem.W.fnOf x qual (defArgs st) (defBody st) (defScope st) (.ref T) kV doc pm an cdv ct ∧ K.lookup f = some ⟨oc, od, .func fd, osl⟩ ∧ PySem.W.codeIn K cdv qual = true
  df : ∃ (o : Obj) (n : Nat), K.lookup T = some o ∧ o.data = .seq items.toArray n
section
variable {P : Program} {w : World} {K : PySem.W.Frag} {mg : Str → Option Value} {base : Heap}
theorem FunD.ok2 {κ : Option Value → Prop} {x qual : Str} {st : Stmt} {f T : Addr} {items : List Value} {fd : FuncData} {N ps : List Str} {k : Nat} {sp : Sp} (F : FunD K x qual st f T items fd) (S : FnScope N ps (defScope st)) (len : ∀ vs H Q E, sp vs H Q E → vs.length = ps.length)
    (hbody : ∀ (cdv : Value) (A : Around) (outer : List Env) (s : Shared) (H : Hp) (vs : List V) (Q : VK) (E : XK), Room k (A.deeper (envOfC qual (defScope st) s.heap.objs.size f cdv)) → sp vs H Q E →
      ∃ t, PSs (cxOf (CX2 κ P w) P w K mg base N qual (defScope st) f cdv A outer s H E) (defBody st) t ∧ t { nx := fun _ H' => Q .non H', rt := Q } (start N vs) H) : FnOk P w K mg base (CX2 κ P w) (k + 1) f fd ps sp := by
  obtain ⟨oc, od, kV, doc, pm, an, cdv, ct, osl, rfl, lk, hcd⟩ := F.ex
  exact fn_of lk hcd S len fun A outer s H vs Q E hr hsp => hbody cdv A outer s H vs Q E hr hsp
theorem FunD.binds {x qual : Str} {st : Stmt} {f T : Addr} {items ds : List Value} {fd : FuncData} {ps : List Str} (F : FunD K x qual st f T items fd)
    (h : ∀ (kV doc pm : Value) (an : Option Addr) (cdv ct : Value) (us : List Value), (us ++ ds).length = ps.length →
      ∃ k, bindArgs (PySem.W.fnOf x qual (defArgs st) (defBody st) (defScope st) (.ref T) kV doc pm an cdv ct) ⟨us, []⟩ = seqItems? (.ref T) >>= k ∧ k (some items.toArray) = pure (ps.zip (us ++ ds))) : Binds K fd ps ds := by
  obtain ⟨oc, od, kV, doc, pm, an, cdv, ct, osl, rfl, lk, hcd⟩ := F.ex
  obtain ⟨o, n, hT, hd⟩ := F.df
  intro s us KX hl
  obtain ⟨k, h1, h2⟩ := h kV doc pm an cdv ct us hl
  exact .of_defaults (T := T) rfl (KX _ _ hT) hd h1 h2
theorem funD_mk {x qual : Str} {st : Stmt} {f T : Addr} {items : List Value} {oc : Value} {od an : Option Addr} {osl : Array (Option Value)} {kV doc pm cdv ct : Value} {o : Obj} {n : Nat} (l : K.lookup f = some ⟨oc, od, .func (PySem.W.fnOf x qual (defArgs st) (defBody st) (defScope st) (.ref T) kV doc pm an cdv ct), osl⟩)
    (c : PySem.W.codeIn K cdv qual = true) (hT : K.lookup T = some o) (hd : o.data = .seq items.toArray n) : FunD K x qual st f T items (PySem.W.fnOf x qual (defArgs st) (defBody st) (defScope st) (.ref T) kV doc pm an cdv ct) := ⟨⟨oc, od, kV, doc, pm, an, cdv, ct, osl, rfl, l, c⟩, ⟨o, n, hT, hd⟩⟩
end
/-! ### x in a list of data -/
section
variable {X : Cx}
theorem op_inD {K : PySem.W.Frag} (hK : X.K = K) (hu : X.A.units + 65 < cLine) : OpR X (compareOp .In) (fun x y H Q => ∃ d ds, Rdv K H x d ∧ Rdv K H y (.list ds) ∧ SeqAt.shaped d = true ∧ SeqAt.shaped (.list ds) = true ∧ Q (.bl (ds.any fun e => PyData.eqv e d)) H) := by
  intro pins s σ H x y v u Q I rx ry h
  subst hK
  obtain ⟨d, ds, h1, h2, s1, s2, q⟩ := h
  obtain ⟨as, ra⟩ := h1.reads I rx
  obtain ⟨bs, rb⟩ := h2.reads I ry
  exact SeqAt.in_list_reads rb ra (SeqAt.canLay_of_shaped s2) (SeqAt.canLay_of_shaped s1) (room_in_shaped s1 hu) ⟨.bl _, H, I, rfl, q⟩
theorem op_notInD {K : PySem.W.Frag} (hK : X.K = K) (hu : X.A.units + 65 < cLine) : OpR X (compareOp .NotIn) (fun x y H Q => ∃ d ds, Rdv K H x d ∧ Rdv K H y (.list ds) ∧ SeqAt.shaped d = true ∧ SeqAt.shaped (.list ds) = true ∧ Q (.bl (!(ds.any fun e => PyData.eqv e d))) H) := by
  intro pins s σ H x y v u Q I rx ry h
  subst hK
  obtain ⟨d, ds, h1, h2, s1, s2, q⟩ := h
  obtain ⟨as, ra⟩ := h1.reads I rx
  obtain ⟨bs, rb⟩ := h2.reads I ry
  exact SeqAt.notIn_list_reads rb ra (SeqAt.canLay_of_shaped s2) (SeqAt.canLay_of_shaped s1) (room_in_shaped s1 hu) ⟨.bl _, H, I, rfl, q⟩
end
/-! ### sum of a list of ints -/
theorem int_at {is : List Int} {its : List Value} (rv : Vals (is.map V.int) its) {i : Nat} {v : Value} (e : its[i]? = some v) : ∃ t, v = .int (is.getD i 0) t := by
  have hi : i < its.length := (List.getElem?_eq_some_iff.mp e).1
  have hl := rv.length
  rw [List.length_map] at hl
  have hx : (is.map V.int)[i]? = some (.int (is.getD i 0)) := by rw [List.getElem?_map, List.getD_eq_getElem?_getD, List.getElem?_eq_getElem (by omega)]; rfl
  obtain ⟨u, hu, ru⟩ := rv.get hx
  rw [e] at hu
  cases hu
  exact ru
theorem preSum_take (is : List Int) : ∀ n, n ≤ is.length → preSum (fun i => is.getD i 0) n = (is.take n).sum
  | 0, _ => rfl
  | n + 1, h => by
    rw [List.take_succ_eq_append_getElem (by omega), List.sum_append, ← preSum_take is n (by omega)]
    show preSum _ n + is.getD n 0 = _
    rw [List.getD_eq_getElem?_getD, List.getElem?_eq_getElem (by omega)]
    simp
section
variable {X : Cx}
theorem call_sumI {K : PySem.W.Frag} (hK : X.K = K) (hc : X.calm = true) : CallR X (.builtin "sum") (fun xs H Q => ∃ (p : Addr) (is : List Int), xs = [.ref p] ∧ SqL K H p (is.map V.int) ∧ (∀ j, j < is.length → InLong (is.getD j 0) ∧ InLong (is.take (j + 1)).sum) ∧ Q (.int is.sum) H) := by
  subst hK
  intro pins s σ H xs us Q I r h
  obtain ⟨p, is, rfl, hq, hb, q⟩ := h
  obtain ⟨u, rfl, ru⟩ := vals1 r
  cases (show u = Value.ref p from ru)
  obtain ⟨its, rv, pl, hz⟩ := I.list hq
  have hlen : its.length = is.length := by rw [← rv.length, List.length_map]
  have hlt : p < s.heap.objs.size := by obtain ⟨o, n, e, _⟩ := pl; exact Heap.lt_size e
  refine call_sum_walk (wpAny_pyIter_list pl.isList ?_)
  refine ⟨s.heap.objs.size, _, _, _, _, _, fun i => is.getD i 0, rfl, Walks.list (A := X.A.in1) (show X.A.in1.handled = none from I.ok.hd hc) _ p (Nat.ne_of_lt hlt) its.toArray, ⟨⟨_, Heap.get?_push_size _ rfl, rfl, rfl⟩, Heap.IsList.at pl.isList fun o e => Heap.get?_push_of_some _ e⟩, ?_, ?_, ?_, fun h' tk t' hk => ?_⟩
  · intro b hb'
    rw [Heap.size_push]
    rcases (show b = s.heap.objs.size ∨ b = p by simpa using hb') with z | z
    · rw [z]; exact Nat.lt_succ_self _
    · rw [z]; exact Nat.lt_succ_of_lt hlt
  · intro i v hv
    exact int_at rv (by simpa using hv)
  · intro j hj
    have hj' : j < is.length := by rw [List.size_toArray] at hj; omega
    rw [preSum_take is (j + 1) (by omega)]
    exact hb j hj'
  · refine ⟨.int _, H, I.kept fun b o e => hk b o ?_ (Heap.get?_push_of_some _ e), ⟨t', rfl⟩, ?_⟩
    · intro z
      have z' : b = s.heap.objs.size := by simpa using z
      exact Nat.lt_irrefl _ (z' ▸ Heap.lt_size e)
    · have e : its.toArray.size = is.length := by rw [List.size_toArray]; exact hlen
      rw [e, preSum_take is _ (Nat.le_refl _), List.take_length]
      exact q
end
theorem bt_sum : bootBuiltins "sum" = some (.builtin "sum") := by decide +kernel
end L2

set_option Elab.async false
set_option linter.all false
set_option maxRecDepth 100000
set_option maxHeartbeats 4000000
namespace L2
open PySem PySem.Spec PyProof.Rows
/-! ### len of a dict whose keys are tuples -/
section
variable {prog : Program} {w : World} {K : Type} [DecidableEq K] {knd : HeapKind prog w K} {A : Around} {E : Value → Shared → Prop} {s : Shared} {d : Addr} {xs : List (K × Addr × Value)}
theorem meets_lenH (knd : HeapKind prog w K) (d : Addr) (hd : (d == sysModules) = false) :
    MeetsIn prog w (Builtin.«dict.__len__» ⟨[.ref d], []⟩) (fun _ R s => ∃ xs, s.heap.DictOfH knd d xs ∧ R (.ok (.ret (.int xs.length s.toks))) { s with toks := s.toks + 1 }) :=
  .of_wp fun A R s ⟨xs, hm, h⟩ => by
    obtain ⟨o, es, ep, ho, hc, hdat, he, _⟩ := hm
    show wpAny _ _ (dictSize d >>= _) _ _ s
    unfold dictSize
    refine wpAny_bind (wpAny_bind (wpAny_dictEntries ho hdat (wpAny_pure ?_)))
    show wpAny _ _ (Builtin.Dict.pendingCount d >>= _) _ _ s
    refine wpAny_bind (wpAny_pendingCount_other hd ?_)
    refine wpAny_ret_mkInt ?_
    rw [Nat.add_zero, size_of_entries he]; exact h
theorem len_bodyH {Q : Value → Shared → Prop} (hd : (d == sysModules) = false) (hm : s.heap.DictOfH knd d xs) (hfit : (xs.length : Int) < 2 ^ 63)
    (h : Q (.int xs.length (s.toks + 1)) { s with toks := s.toks + 1 + 1 }) : wpAny (model prog w) A (Builtin.«len» ⟨[.ref d], []⟩) (fun fin s' => ∃ r, fin = .done (.ret r) ∧ Q r s') E s := by
  unfold Builtin.«len»
  refine wpAny_bind (wpAny_pure ?_)
  refine wpAny_bind (m := callSpecial? (.ref d) (Str.ofString "__len__")) (wpAny_callSpecial?_slot (name := Str.ofString "__len__") hm.typeIs F.slot_dict_len
    (call_meetsIn F.slot_dict_len hm.typeIs F.entry_dict_len (F.args_dict_len_1 _) (meets_lenH knd d hd) ⟨xs, hm, ?_⟩))
  show wpAny _ _ _ _ _ { s with toks := s.toks + 1 }
  refine wpAny_bind (wpAny_holding (wpAny_pure ?_))
  refine wpAny_bind (wpAny_letGo ?_)
  show wpAny _ _ (if ((xs.length : Nat) : Int) < 0 then _ else _) _ _ _
  rw [if_neg (by omega)]
  show wpAny _ _ (if ((xs.length : Nat) : Int) ≥ 2 ^ 63 then _ else _) _ _ _
  rw [if_neg (by omega)]
  exact wpAny_bind (wpAny_mkInt (wpAny_pure ⟨_, rfl, h⟩))
end
section
variable {X : Cx}
theorem call_lenT : CallR X (.builtin "len") (fun xs H Q => ∃ a kvs, xs = [V.ref a] ∧ H a = some (.dT kvs) ∧ Q (.int kvs.length) H) := by
  intro pins s σ H xs us Q I r h
  obtain ⟨a, kvs, rfl, ha, q⟩ := h
  obtain ⟨u, rfl, ru⟩ := vals1 r
  cases ru
  obtain ⟨z, hd, xs, rel, dd⟩ := dt_of I.hok ha
  have e : kvs.length = xs.length := Paired.length rel
  refine Calls.call_function_entry kind_len plain_len entry_len (args_len1 _) (len_bodyH hd dd (by rw [← e]; rw [sizeLine_eq] at z; omega) ?_)
  exact ⟨.int kvs.length, H, (I.tok _), ⟨_, by rw [e]⟩, q⟩
end
end L2

set_option Elab.async false
set_option linter.all false
set_option maxRecDepth 100000
set_option maxHeartbeats 4000000
namespace L2
open PySem PySem.Spec PyProof.Rows
/-! ### the keys of a dict, one by one, whatever they are -/
section
variable {prog : Program} {w : World} {A : Around} {E : Value → Shared → Prop} {s : Shared} {it d : Addr} {i ep : Nat} {es : Array DictEntry} {od : Obj}
theorem dkey_next {Q : Option Value → Shared → Prop} (hit : s.heap.IsKeyIter it d i es.size ep) (hod : s.heap.get? d = some od) (hdd : od.data = .dict es ep) (hlt : i < es.size)
    (hQ : ∀ h', h'.IsKeyIter it d (i + 1) es.size ep → Heap.SameBut it s.heap h' → Q (some es[i].key) { s with heap := h' }) : wpAny (model prog w) A (pyNext (.ref it)) Q E s := by
  have hT := hit.typeIs
  obtain ⟨o, ho, hc, hd⟩ := hit
  unfold pyNext
  refine wpAny_bind (wpAny_attempt (wpAny_callSpecial?_slot (name := Str.ofString "__next__") hT F.slot_dict_keyiterator_next (wpAny_call_entry F.slot_dict_keyiterator_next hT F.entry_dict_keyiterator_next ?_ (F.args_dict_keyiterator_next_1 _))))
  refine wpAny_bind (wpAny_pure (wpAny_bind (wpAny_bind ?_)))
  first | refine wpAny_bind (wpAny_typeNameOfWhole_keyiter hT (wpAny_pure (wpAny_bind (wpAny_fieldsOf ho hd ?_)))) | refine wpAny_bind (wpAny_typeNameOf_keyiter hT (wpAny_pure (wpAny_bind (wpAny_fieldsOf ho hd ?_))))
  simp only [show Builtin.Dict_items.ownsTuple "dict_keyiterator" = false by decide, Bool.false_eq_true, if_false]
  show wpAny _ _ (if (Value.ref d == Value.none) = true then _ else _) _ _ _
  rw [if_neg (show ¬ (Value.ref d == Value.none) = true from fun z => by cases z)]
  refine wpAny_bind (wpAny_pure (wpAny_bind (wpAny_dictEntries hod hdd ?_)))
  rw [if_neg (by simp)]
  refine wpAny_bind (wpAny_pure (wpAny_bind (wpAny_dictEpoch hod hdd ?_)))
  rw [if_neg (by simp)]
  refine wpAny_pure ?_
  simp only [show ¬ ((i : Int) < 0) by omega, if_false, Int.toNat_natCast, Array.getElem?_eq_getElem hlt]
  refine wpAny_bind ?_
  first | refine wpAny_bind (wpAny_typeNameOfWhole_keyiter hT (wpAny_pure (wpAny_bind (wpAny_isOneOf_keyiter hT ?_)))) | refine wpAny_bind (wpAny_typeNameOf_keyiter hT (wpAny_pure (wpAny_bind (wpAny_isOneOf_keyiter hT ?_))))
  show wpAny _ _ (setField (.ref it) 1 (rawInt ((i : Int) + 1)) >>= _) _ _ _
  refine wpAny_bind (wpAny_setField ho hd (by simp) (wpAny_bind (wpAny_holding ?_)))
  have hi2 : (s.heap.update it (Obj.mapFields (·.setIfInBounds 1 (rawInt ((i : Int) + 1))))).IsKeyIter it d (i + 1) es.size ep := by
    refine ⟨_, Heap.get?_update_self _ ho (Obj.isFreed_of_fields (Obj.data_mapFields hd _)), (Obj.cls_mapFields ..).trans hc, ?_⟩
    rw [Obj.data_mapFields hd]
    simp [rawInt]
  refine wpAny_bind (wpAny_isOneOf_keyiter (s := { s with heap := s.heap.update it (Obj.mapFields (·.setIfInBounds 1 (rawInt ((i : Int) + 1)))) }) hi2.typeIs ?_)
  show wpAny _ _ (pure es[i].key) _ _ _
  exact wpAny_pure (wpAny_pure ⟨_, rfl, wpAny_pure (hQ _ hi2 (Heap.SameBut.update ..))⟩)
theorem dkey_end {Q : Option Value → Shared → Prop} (hh : A.handled = none) (hit : s.heap.IsKeyIter it d i es.size ep) (hod : s.heap.get? d = some od) (hdd : od.data = .dict es ep) (hge : es.size ≤ i)
    (hQ : ∀ h', Heap.ExtBut it s.heap h' → Q none { s with heap := h' }) : wpAny (model prog w) A (pyNext (.ref it)) Q E s := by
  have hT := hit.typeIs
  obtain ⟨o, ho, hc, hd⟩ := hit
  unfold pyNext
  refine wpAny_bind (wpAny_attempt (wpAny_callSpecial?_slot (name := Str.ofString "__next__") hT F.slot_dict_keyiterator_next (wpAny_call_entry F.slot_dict_keyiterator_next hT F.entry_dict_keyiterator_next ?_ (F.args_dict_keyiterator_next_1 _))))
  refine wpAny_bind (wpAny_pure (wpAny_bind (wpAny_bind ?_)))
  first | refine wpAny_bind (wpAny_typeNameOfWhole_keyiter hT (wpAny_pure (wpAny_bind (wpAny_fieldsOf ho hd ?_)))) | refine wpAny_bind (wpAny_typeNameOf_keyiter hT (wpAny_pure (wpAny_bind (wpAny_fieldsOf ho hd ?_))))
  simp only [show Builtin.Dict_items.ownsTuple "dict_keyiterator" = false by decide, Bool.false_eq_true, if_false]
  show wpAny _ _ (if (Value.ref d == Value.none) = true then _ else _) _ _ _
  rw [if_neg (show ¬ (Value.ref d == Value.none) = true from fun z => by cases z)]
  refine wpAny_bind (wpAny_pure (wpAny_bind (wpAny_dictEntries hod hdd ?_)))
  rw [if_neg (by simp)]
  refine wpAny_bind (wpAny_pure (wpAny_bind (wpAny_dictEpoch hod hdd ?_)))
  rw [if_neg (by simp)]
  refine wpAny_pure ?_
  simp only [show ¬ ((i : Int) < 0) by omega, if_false, Int.toNat_natCast, Array.getElem?_eq_none hge]
  refine wpAny_bind ?_
  first | refine wpAny_bind (wpAny_typeNameOfWhole_keyiter hT (wpAny_pure ?_)) | refine wpAny_bind (wpAny_typeNameOf_keyiter hT (wpAny_pure ?_))
  show wpAny _ _ (setField (.ref it) 0 .none >>= _) _ _ _
  refine wpAny_bind (wpAny_setField ho hd (by simp) ?_)
  show wpAny _ _ (newExc (.type "StopIteration") [] >>= _) _ _ _
  refine wpAny_bind ?_
  simp only [newExc, newTuple]
  refine wpAny_bind (wpAny_newObj_type (wpAny_bind (m := firstArgMember _ _) (wpAny_of_eq (a := Value.none) (by first | rfl | (simp only [firstArgMember]; rfl)) (wpAny_newObj_type ?_ (by size_fits)))) (by size_fits))
  simp only [raiseNew]
  refine wpAny_bind (wpAny_handled ?_)
  rw [show A.in1.handled = none from hh]
  refine (wpAny_bind (wpAny_pure (wpAny_throw ?_)))
  refine (wpAny_bind (wpAny_isInstance (T := "StopIteration") (b := true) ⟨_, Heap.get?_push_size _ rfl, rfl⟩ isSubtype_stop (wpAny_pure (hQ _ ?_))))
  exact ((Heap.SameBut.update ..).extBut.push _).push _
theorem dkey_iter {Q : Value → Shared → Prop} (hT : s.TypeIs (.ref d) "dict") (hd : (d == sysModules) = false) (hod : s.heap.get? d = some od) (hdd : od.data = .dict es ep)
    (hQ : Q (.ref s.heap.objs.size) { s with heap := s.heap.push { cls := .type "dict_keyiterator", data := .fields #[.ref d, .int 0 0, .int es.size 0, .int ep 0] } }) : wpAny (model prog w) A (pyIter (.ref d)) Q E s := by
  refine wpAny_pyIter_slot hT F.slot_dict_iter (wpAny_call_entry F.slot_dict_iter hT F.entry_dict_iter ?_ (F.args_dict_iter_1 _))
  unfold Builtin.«dict.__iter__» Builtin.Dict.dictSlotNone
  refine wpAny_bind (wpAny_bind (wpAny_notOrdered_dict hT ?_))
  show wpAny _ _ (pure (Value.ref d)) _ _ _
  refine wpAny_pure ?_
  show wpAny _ _ (Builtin.Dict.showsAll d >>= _) _ _ _
  unfold Builtin.Dict.showsAll
  rw [if_neg (show ¬ (d == sysModules) = true by rw [hd]; decide)]
  refine wpAny_bind (wpAny_pure (wpAny_bind (wpAny_dictEntries hod hdd (wpAny_bind (wpAny_dictEpoch hod hdd ?_)))))
  refine wpAny_bind (wpAny_newObj_type (wpAny_pure ⟨_, rfl, "dict_keyiterator", _, ⟨_, Heap.get?_push_size _ rfl, rfl⟩, F.slot_dict_keyiterator_next.lookup, ?_⟩))
  simpa [rawInt] using hQ
end
/-- the keys of the dict at d, whose object stands as od -/
def Itk (d : Addr) (od : Obj) : It := ⟨fun i H => ∃ kvs kv, H d = some (.frz od (.dT kvs)) ∧ kvs[i]? = some kv,
  fun i H x H' => H' = H ∧ ∃ b, x = .ref b ∧ ∀ kvs kv, H d = some (.frz od (.dT kvs)) → kvs[i]? = some kv → H b = some (.tup (kv.1.map kV)), fun i H => ∃ kvs, H d = some (.frz od (.dT kvs)) ∧ kvs.length ≤ i⟩
theorem dt_frz {P : Program} {w : World} {H : Hp} {h : Heap} {d : Addr} {od : Obj} {kvs : List (List Key × V)} {es : Array DictEntry} {ep : Nat} (ok : HOk P w H h) (e : H d = some (.frz od (.dT kvs))) (hdd : od.data = .dict es ep) :
    h.get? d = some od ∧ es.size = kvs.length ∧ ∀ (i : Nat) (hi : i < es.size) kv, kvs[i]? = some kv → ∃ b, es[i].key = .ref b ∧ H b = some (.tup (kv.1.map kV)) := by
  obtain ⟨hod, _, _, xs, r, o, es', ep', h1, _, h3, h4, _⟩ := (show ObjOk P w H h d (.frz od (.dT kvs)) from ok d _ e)
  rw [hod] at h1
  cases h1
  rw [hdd] at h3
  cases h3
  have hl : es.size = xs.length := by rw [← Array.length_toList, h4, List.length_map]
  refine ⟨hod, by rw [hl]; exact (Paired.length r).symm, fun i hi kv hk => ?_⟩
  have hix : i < xs.length := by omega
  have ek : es[i] = entryOfKey (tupleKind (mixKind P w)) xs[i] := by
    have := congrArg (fun l => l[i]?) h4
    simp only [List.getElem?_map, List.getElem?_eq_getElem hix] at this
    rw [Array.getElem?_toList, Array.getElem?_eq_getElem hi] at this
    exact Option.some.inj this
  have pr : ∀ {l : List (List Key × V)} {m : List (List Key × Addr × Value)}, Paired (fun (p : List Key × V) (q : List Key × Addr × Value) => p.1 = q.1 ∧ H q.2.1 = some (.tup (p.1.map kV)) ∧ RelV p.2 q.2.2) l m → ∀ (i : Nat) p q, l[i]? = some p → m[i]? = some q → H q.2.1 = some (.tup (p.1.map kV)) := by
    intro l m pq
    induction pq with
    | nil => intro i p q h; simp at h
    | cons hq _ ih =>
      intro i p q h1 h2
      cases i with
      | zero =>
        simp only [List.getElem?_cons_zero, Option.some.injEq] at h1 h2
        subst h1 h2
        exact hq.2.1
      | succ j =>
        simp only [List.getElem?_cons_succ] at h1 h2
        exact ih j p q h1 h2
  exact ⟨xs[i].2.1, by rw [ek]; rfl, pr r i kv xs[i] hk (List.getElem?_eq_getElem hix)⟩
theorem turn_dkey {P : Program} {w : World} {K : PySem.W.Frag} {tg : Expr} (d it : Addr) {od : Obj} {es : Array DictEntry} {ep : Nat} (hdd : od.data = .dict es ep) : Turn P w K tg (Itk d od) [it] it (fun i h => h.IsKeyIter it d i es.size ep) where
  mem := by simp
  obj := fun i h st b hb => by
    have e : b = it := by simpa using hb
    subst e
    obtain ⟨o, e, c, dd⟩ := st
    exact ⟨o, e, fun v z => by rw [dd] at z; cases z⟩
  keep := fun i h h' st k => st.at fun o e => k it (by simp) o e
  item := by
    intro X hP hw hK hc i pins s σ H E I hf st hg
    subst hP hw hK
    obtain ⟨kvs, kv, he, hk⟩ := hg
    obtain ⟨hod, hsz, hat⟩ := dt_frz I.hok he hdd
    have hlt : i < es.size := by rw [hsz]; exact (List.getElem?_eq_some_iff.mp hk).1
    obtain ⟨b, eb, hb⟩ := hat i hlt kv hk
    obtain ⟨f0, f1, f2, f3, f4, f5⟩ := hf it (by simp)
    refine dkey_next st hod hdd hlt fun h' st' sb => ?_
    have I1 : Inv X pins σ H { s with heap := h' } := I.turned (t' := s.toks) (fun b o hb e => (sb.2 b hb).trans e) f0 f1 f3 f4 f5
    obtain ⟨o, e, c, dd⟩ := id st'
    rw [eb]
    exact ⟨_, rfl, go_of (s := { s with heap := h' }) e c dd (by decide) ⟨.ref b, H, I1, rfl, ⟨rfl, b, rfl, fun kvs' kv' h1 h2 => by rw [he] at h1; cases h1; rw [hk] at h2; cases h2; exact hb⟩, st', fun b hb => (hf b hb).1⟩⟩
  done := by
    intro X hP hw hK hc i pins s σ H E I hf st hg
    subst hP hw hK
    obtain ⟨kvs, he, hx⟩ := hg
    obtain ⟨hod, hsz, _⟩ := dt_frz I.hok he hdd
    obtain ⟨f0, f1, f2, f3, f4, f5⟩ := hf it (by simp)
    exact dkey_end (I.ok.hd hc) st hod hdd (by omega) fun h' eb => ⟨rfl, I.turned (t' := s.toks) (fun b o hb e => eb b o hb e) f0 f1 f3 f4 f5⟩
  self := fun _ _ _ _ _ st h => wpAny_pyIter_keyiter st h
/-- for k in d: the dict stands still from here on -/
def iDKey (tl : TE) : TI := fun σ H R => tl σ H fun x H1 => ∃ d kvs, x = .ref d ∧ H1 d = some (.dT kvs) ∧ ∀ od, R (Itk d od) (upd H1 d (.frz od (.dT kvs)))
section
variable {X : Cx} {tg : Expr}
theorem Inv.freeze {pins : List (Addr × Obj)} {σ : St} {H : Hp} {s : Shared} {d : Addr} {kvs : List (List Key × V)} {od : Obj} (I : Inv X pins σ H s) (e : H d = some (.dT kvs)) (ho : s.heap.get? d = some od) : Inv X pins σ (upd H d (.frz od (.dT kvs))) s := by
  have h0 : ∀ {t : Nat}, Inv X pins σ (upd H d (.frz od (.dT kvs))) { s with heap := s.heap, toks := t } := by
    intro t
    refine I.write (x := d) (e := d) (by rw [e]; trivial) (.inl rfl) (fun b q hb z => z) ⟨_, ho⟩ ⟨ho, ?_⟩
    have q := I.hok d _ e
    exact q.stay (fun _ _ _ z => z) (fun c z => by rw [upd_ne (fun y => by rw [y, e] at z; cases z)]; exact z) fun c xs z => by rw [upd_ne (fun y => by rw [y, e] at z; cases z)]; exact z
  exact h0 (t := s.toks)
theorem pi_dkey {l : Expr} {tl : TE} (hl : PE X l tl) : PI X tg l (iDKey tl) := by
  intro pins s σ H R I h
  refine thn (hl pins s σ H _ I h) fun v s1 ⟨x, H1, I1, r1, q1⟩ => ?_
  obtain ⟨d, kvs, e, hd, q⟩ := q1
  subst e
  cases r1
  obtain ⟨z, hs, xs, rel, dd⟩ := dt_of I1.hok hd
  have hT := dd.typeIs
  obtain ⟨od, es, ep, ho, _, hdat, _⟩ := dd
  have I2 := I1.freeze hd ho
  refine dkey_iter hT hs ho hdat ?_
  refine ⟨s1.heap.objs.size, [s1.heap.objs.size], _, _, _, rfl, I2.kept (t' := s1.toks) fun b o e => Heap.get?_push_of_some _ e, turn_dkey d _ hdat, ⟨_, Heap.get?_push_size _ rfl, rfl, rfl⟩, fun b hb => ?_, q od⟩
  have e : b = s1.heap.objs.size := by simpa using hb
  subst e
  exact I2.fpOk (Nat.le_refl _) (I2.hok.fresh (Nat.le_refl _))
end
/-- the form that one uses -/
theorem comp_dkey {js : List Nat} {tt : TT} {te : TE} {d : Addr} {od : Obj} {kvs : List (List Key × V)} {σ : St} {H : Hp} {Q : VK} (Pv : Nat → List V → Hp → Prop) (h0 : Pv 0 [] H) (hl : ∀ i ys H, i ≤ kvs.length → Pv i ys H → H d = some (.frz od (.dT kvs)))
    (hs : ∀ i kv b ys H, kvs[i]? = some kv → Pv i ys H → H b = some (.tup (kv.1.map kV)) → tt (some (.ref b) :: pick js σ) H fun c H2 => if c = true then te (some (.ref b) :: pick js σ) H2 fun y H3 => ys.length < sizeLine ∧ Pv (i + 1) (ys ++ [y]) H3 else Pv (i + 1) ys H2)
    (hd : ∀ ys H, Pv kvs.length ys H → ∀ p, H p = none → Q (.ref p) (upd H p (.lst ys))) : tCompB (Itk d od) js tt te σ H Q := by
  refine ⟨fun i m ys H => m = kvs.length - i ∧ i ≤ kvs.length ∧ Pv i ys H, ⟨kvs.length, by simp, Nat.zero_le _, h0⟩, ?_⟩
  rintro i m ys H ⟨rfl, hi, p⟩
  have q := hl i ys H hi p
  by_cases hlt : i < kvs.length
  · refine .inr ⟨⟨kvs, kvs[i], q, by simp [hlt]⟩, Pv (i + 1), fun ys' H' p' => ⟨kvs.length - (i + 1), by omega, rfl, hlt, p'⟩, fun x H' y => ?_⟩
    obtain ⟨e, b, rfl, y⟩ := y
    subst e
    exact hs i kvs[i] b ys _ (List.getElem?_eq_getElem hlt) p (y kvs kvs[i] q (List.getElem?_eq_getElem hlt))
  · have e : i = kvs.length := by omega
    subst e
    exact .inl ⟨⟨kvs, q, Nat.le_refl _⟩, hd ys H p⟩
end L2

set_option Elab.async false
set_option linter.all false
set_option maxRecDepth 100000
namespace Mm
open PySem L2
/-! unlike cuts, by their least settings -/
abbrev WK := List Str × Nat
def kOf (ws : List Str) : List Key := ws.map Sum.inr
def kvOf (m : List WK) : List (List Key × V) := m.map fun p => (kOf p.1, V.int ((p.2 : Nat) : Int))
def getM (m : List WK) (ws : List Str) : Nat := ((m.find? fun p => decide (p.1 = ws)).map (·.2)).getD 0
def putM (m : List WK) (ws : List Str) (x : Nat) : List WK := if (m.any fun p => decide (p.1 = ws)) = true then m.map (fun p => if p.1 = ws then (p.1, x) else p) else m ++ [(ws, x)]
theorem kOf_inj {a b : List Str} (h : kOf a = kOf b) : a = b := List.map_inj_right (f := Sum.inr) (fun _ _ z => Sum.inr.inj z) |>.mp h
theorem kOf_dec (a b : List Str) : decide (kOf a = kOf b) = decide (a = b) := by
  by_cases h : a = b
  · rw [h]; simp
  · rw [decide_eq_false h, decide_eq_false fun z => h (kOf_inj z)]
theorem kOf_kV (ws : List Str) : (kOf ws).map kV = ws.map V.str := by
  unfold kOf
  rw [List.map_map]
  rfl
theorem val_kv (ws : List Str) : ∀ m : List WK, valV (kvOf m) (kOf ws) = (m.find? fun p => decide (p.1 = ws)).map fun p => V.int ((p.2 : Nat) : Int)
  | [] => rfl
  | p :: r => by
    by_cases h : p.1 = ws
    · rw [show kvOf (p :: r) = (kOf p.1, V.int ((p.2 : Nat) : Int)) :: kvOf r from rfl, valV_pos (by rw [h]), List.find?_cons, decide_eq_true h]; rfl
    · rw [show kvOf (p :: r) = (kOf p.1, V.int ((p.2 : Nat) : Int)) :: kvOf r from rfl, valV_neg (fun z => h (kOf_inj z)), val_kv ws r, List.find?_cons, decide_eq_false h]
theorem get_kv (m : List WK) (ws : List Str) : (valV (kvOf m) (kOf ws)).getD (V.int 0) = V.int ((getM m ws : Nat) : Int) := by
  rw [val_kv]
  unfold getM
  cases m.find? fun p => decide (p.1 = ws) with
  | none => rfl
  | some p => rfl
theorem put_kv (m : List WK) (ws : List Str) (x : Nat) : putK (kvOf m) (kOf ws) (V.int ((x : Nat) : Int)) = kvOf (putM m ws x) := by
  unfold putK putM
  have e : ((kvOf m).any fun kv => decide (kv.1 = kOf ws)) = (m.any fun p => decide (p.1 = ws)) := by
    unfold kvOf
    rw [List.any_map]
    congr 1
    funext p
    exact kOf_dec _ _
  rw [e]
  split
  · unfold kvOf
    rw [List.map_map, List.map_map]
    refine List.map_congr_left fun p _ => ?_
    by_cases h : p.1 = ws
    · simp [h]
    · have h' : ¬ kOf p.1 = kOf ws := fun z => h (kOf_inj z)
      simp [h, h']
  · unfold kvOf
    rw [List.map_append]
    rfl
def vstep (c : Nat → List Str) (m : List WK) (s : Nat) : List WK := putM m (c s) (getM m (c s) ||| 2 ^ s)
def vrun (c : Nat → List Str) (ss : List Nat) : List WK := ss.foldl (vstep c) []
theorem vrun_snoc (c : Nat → List Str) (ss : List Nat) (s : Nat) : vrun c (ss ++ [s]) = vstep c (vrun c ss) s := by simp [vrun]
abbrev keys (m : List WK) : List (List Str) := m.map (·.1)
theorem any_keys (m : List WK) (ws : List Str) : (m.any fun p => decide (p.1 = ws)) = true ↔ ws ∈ keys m := by
  rw [List.any_eq_true]
  constructor
  · rintro ⟨p, hp, h⟩
    exact List.mem_map.mpr ⟨p, hp, of_decide_eq_true h⟩
  · intro h
    obtain ⟨p, hp, e⟩ := List.mem_map.mp h
    exact ⟨p, hp, decide_eq_true e⟩
theorem get_at : ∀ {m : List WK} {p : WK}, (keys m).Nodup → p ∈ m → getM m p.1 = p.2
  | [], _, _, h => nomatch h
  | q :: r, p, hn, h => by
    have hn : q.1 ∉ keys r ∧ (keys r).Nodup := List.nodup_cons.mp hn
    unfold getM
    rw [List.find?_cons]
    by_cases e : q.1 = p.1
    · rw [decide_eq_true e]
      rcases List.mem_cons.mp h with z | z
      · rw [z]; rfl
      · exact absurd (List.mem_map.mpr ⟨p, z, rfl⟩ : p.1 ∈ keys r) (by rw [← e]; exact hn.1)
    · rw [decide_eq_false e]
      rcases List.mem_cons.mp h with z | z
      · exact absurd (by rw [z]) e
      · exact get_at hn.2 z
theorem find_at : ∀ {m : List WK} {p : WK}, (keys m).Nodup → p ∈ m → (m.find? fun q => decide (q.1 = p.1)) = some p
  | [], _, _, h => nomatch h
  | q :: r, p, hn, h => by
    have hn : q.1 ∉ keys r ∧ (keys r).Nodup := List.nodup_cons.mp hn
    rw [List.find?_cons]
    by_cases e : q.1 = p.1
    · rw [decide_eq_true e]
      rcases List.mem_cons.mp h with z | z
      · rw [z]
      · exact absurd (List.mem_map.mpr ⟨p, z, rfl⟩ : p.1 ∈ keys r) (by rw [← e]; exact hn.1)
    · rw [decide_eq_false e]
      rcases List.mem_cons.mp h with z | z
      · exact absurd (by rw [z]) e
      · exact find_at hn.2 z
theorem get_none {m : List WK} {ws : List Str} (h : ws ∉ keys m) : getM m ws = 0 := by
  unfold getM
  rw [List.find?_eq_none.mpr]
  · rfl
  · intro p hp hd
    exact h (List.mem_map.mpr ⟨p, hp, of_decide_eq_true hd⟩)
def orB (ws : List Str) (s : Nat) (p : WK) : WK := if p.1 = ws then (p.1, p.2 ||| 2 ^ s) else p
theorem vstep_old {c : Nat → List Str} {m : List WK} {s : Nat} (hn : (keys m).Nodup) (h : c s ∈ keys m) : vstep c m s = m.map (orB (c s) s) := by
  unfold vstep putM
  rw [if_pos ((any_keys m _).mpr h)]
  refine List.map_congr_left fun p hp => ?_
  unfold orB
  by_cases e : p.1 = c s
  · rw [if_pos e, if_pos e, ← e, get_at hn hp]
  · rw [if_neg e, if_neg e]
theorem vstep_new {c : Nat → List Str} {m : List WK} {s : Nat} (h : c s ∉ keys m) : vstep c m s = m ++ [(c s, 2 ^ s)] := by
  unfold vstep putM
  rw [if_neg (fun z => h ((any_keys m _).mp z)), get_none h, Nat.zero_or]
theorem orB_fst (ws : List Str) (s : Nat) (p : WK) : (orB ws s p).1 = p.1 := by unfold orB; split <;> rfl
theorem keys_orB (ws : List Str) (s : Nat) (m : List WK) : keys (m.map (orB ws s)) = keys m := by
  unfold keys
  rw [List.map_map]
  exact List.map_congr_left fun p _ => orB_fst ws s p
structure VI (c : Nat → List Str) (ss : List Nat) (m : List WK) : Prop where
  nd : (keys m).Nodup
  bit : ∀ p ∈ m, ∀ s, p.2.testBit s = true ↔ s ∈ ss ∧ c s = p.1
  cov : ∀ s ∈ ss, c s ∈ keys m
  ex : ∀ p ∈ m, ∃ s, p.2.testBit s = true
  ord : ∀ (i j : Nat) (p q : WK), i < j → m[i]? = some p → m[j]? = some q → ∃ s, p.2.testBit s = true ∧ ∀ t, q.2.testBit t = true → s < t
theorem orB_bit (ws : List Str) (s : Nat) (p : WK) (t : Nat) : (orB ws s p).2.testBit t = true ↔ p.2.testBit t = true ∨ (p.1 = ws ∧ t = s) := by
  unfold orB
  by_cases e : p.1 = ws
  · rw [if_pos e]
    simp only [Nat.testBit_or, Bool.or_eq_true, Nat.testBit_two_pow, decide_eq_true_eq]
    constructor
    · rintro (h | h)
      · exact .inl h
      · exact .inr ⟨e, h.symm⟩
    · rintro (h | ⟨_, h⟩)
      · exact .inl h
      · exact .inr h.symm
  · rw [if_neg e]
    exact ⟨.inl, fun h => h.elim id fun z => absurd z.1 e⟩
theorem VI.step {c : Nat → List Str} {ss : List Nat} {m : List WK} {s : Nat} (h : VI c ss m) (hs : ∀ t ∈ ss, t < s) : VI c (ss ++ [s]) (vstep c m s) := by
  have mem : ∀ t, t ∈ ss ++ [s] ↔ t ∈ ss ∨ t = s := fun t => by simp
  by_cases hk : c s ∈ keys m
  · rw [vstep_old h.nd hk]
    refine ⟨by rw [keys_orB]; exact h.nd, fun p hp t => ?_, fun t ht => ?_, fun p hp => ?_, fun i j p q hij hi hj => ?_⟩
    · obtain ⟨q, hq, rfl⟩ := List.mem_map.mp hp
      rw [orB_bit, h.bit q hq, orB_fst, mem]
      constructor
      · rintro (⟨h1, h2⟩ | ⟨h1, rfl⟩)
        · exact ⟨.inl h1, h2⟩
        · exact ⟨.inr rfl, h1.symm⟩
      · rintro ⟨h1 | rfl, h2⟩
        · exact .inl ⟨h1, h2⟩
        · exact .inr ⟨h2.symm, rfl⟩
    · rw [keys_orB]
      rcases (mem t).mp ht with h1 | rfl
      · exact h.cov t h1
      · exact hk
    · obtain ⟨q, hq, rfl⟩ := List.mem_map.mp hp
      obtain ⟨t, ht⟩ := h.ex q hq
      exact ⟨t, (orB_bit ..).mpr (.inl ht)⟩
    · rw [List.getElem?_map] at hi hj
      obtain ⟨p0, hp0, rfl⟩ := Option.map_eq_some_iff.mp hi
      obtain ⟨q0, hq0, rfl⟩ := Option.map_eq_some_iff.mp hj
      obtain ⟨t, ht, hl⟩ := h.ord i j p0 q0 hij hp0 hq0
      refine ⟨t, (orB_bit ..).mpr (.inl ht), fun u hu => ?_⟩
      rcases (orB_bit ..).mp hu with z | ⟨_, rfl⟩
      · exact hl u z
      · exact hs t ((h.bit p0 (List.mem_of_getElem? hp0) t).mp ht).1
  · rw [vstep_new hk]
    refine ⟨?_, fun p hp t => ?_, fun t ht => ?_, fun p hp => ?_, fun i j p q hij hi hj => ?_⟩
    · unfold keys
      rw [List.map_append]
      refine List.nodup_append.mpr ⟨h.nd, by simp, ?_⟩
      intro a ha b hb e
      have : b = c s := by simpa using hb
      exact hk (by rw [← this, ← e]; exact ha)
    · rcases List.mem_append.mp hp with hpm | hp
      · rw [h.bit p hpm, mem]
        constructor
        · rintro ⟨h1, h2⟩
          exact ⟨.inl h1, h2⟩
        · rintro ⟨h1 | rfl, h2⟩
          · exact ⟨h1, h2⟩
          · exact absurd (by rw [h2]; exact List.mem_map.mpr ⟨p, hpm, rfl⟩) hk
      · have e : p = (c s, 2 ^ s) := by simpa using hp
        subst e
        rw [mem]
        simp only [Nat.testBit_two_pow, decide_eq_true_eq]
        constructor
        · rintro rfl
          exact ⟨.inr rfl, rfl⟩
        · rintro ⟨h1 | rfl, h2⟩
          · exact absurd (by rw [← h2]; exact h.cov t h1) hk
          · rfl
    · unfold keys
      rw [List.map_append]
      rcases (mem t).mp ht with h1 | rfl
      · exact List.mem_append_left _ (h.cov t h1)
      · exact List.mem_append_right _ (by simp)
    · rcases List.mem_append.mp hp with hp | hp
      · exact h.ex p hp
      · have e : p = (c s, 2 ^ s) := by simpa using hp
        subst e
        exact ⟨s, by simp⟩
    · have hil : i < m.length := by
        have := (List.getElem?_eq_some_iff.mp hj).1
        simp at this
        omega
      rw [List.getElem?_append_left hil] at hi
      by_cases hjl : j < m.length
      · rw [List.getElem?_append_left hjl] at hj
        exact h.ord i j p q hij hi hj
      · have ej : j = m.length := by
          have := (List.getElem?_eq_some_iff.mp hj).1
          simp at this
          omega
        subst ej
        have e : q = (c s, 2 ^ s) := by
          rw [List.getElem?_append_right (Nat.le_refl _)] at hj
          simpa using hj.symm
        subst e
        obtain ⟨t, ht⟩ := h.ex p (List.mem_of_getElem? hi)
        refine ⟨t, ht, fun u hu => ?_⟩
        have eu : s = u := by simpa [Nat.testBit_two_pow] using hu
        rw [← eu]
        exact hs t ((h.bit p (List.mem_of_getElem? hi) t).mp ht).1
theorem VI.nil (c : Nat → List Str) : VI c [] [] := ⟨by simp [keys], fun p hp => (nomatch hp), fun s hs => (nomatch hs), fun p hp => (nomatch hp), fun i j p q _ h => by simp at h⟩
theorem vi_take {c : Nat → List Str} {ss : List Nat} (hp : ss.Pairwise (· < ·)) : ∀ i, i ≤ ss.length → VI c (ss.take i) (vrun c (ss.take i))
  | 0, _ => VI.nil c
  | i + 1, hi => by
    have ih := vi_take (c := c) hp i (by omega)
    rw [List.take_succ_eq_append_getElem (by omega), vrun_snoc]
    refine ih.step fun t ht => ?_
    obtain ⟨j, hj, e⟩ := List.getElem_of_mem ht
    rw [List.length_take] at hj
    rw [List.getElem_take] at e
    rw [← e]
    exact List.pairwise_iff_getElem.mp hp j i (by omega) (by omega) (by omega)
theorem vi_all {c : Nat → List Str} {ss : List Nat} (hp : ss.Pairwise (· < ·)) : VI c ss (vrun c ss) := by
  have := vi_take (c := c) hp ss.length (Nat.le_refl _)
  rwa [List.take_length] at this
theorem vstep_le (c : Nat → List Str) (m : List WK) (s : Nat) : m.length ≤ (vstep c m s).length := by
  unfold vstep putM
  split
  · rw [List.length_map]; exact Nat.le_refl _
  · rw [List.length_append]; omega
theorem vrun_mono (c : Nat → List Str) (ss : List Nat) : ∀ i, (vrun c (ss.take i)).length ≤ (vrun c ss).length := by
  intro i
  have : ∀ (l : List Nat) (m : List WK), m.length ≤ (l.foldl (vstep c) m).length := by
    intro l
    induction l with
    | nil => intro m; exact Nat.le_refl _
    | cons a r ih => intro m; exact Nat.le_trans (vstep_le c m a) (ih _)
  have h := this (ss.drop i) (vrun c (ss.take i))
  have e : (ss.drop i).foldl (vstep c) (vrun c (ss.take i)) = vrun c ss := by
    unfold vrun
    rw [← List.foldl_append, List.take_append_drop]
  rw [e] at h
  exact h
theorem vstep_ge (c : Nat → List Str) (m : List WK) (s : Nat) : (vstep c m s).length ≤ m.length + 1 := by
  unfold vstep putM
  split
  · rw [List.length_map]; omega
  · rw [List.length_append]; simp
theorem vrun_len (c : Nat → List Str) (ss : List Nat) : (vrun c ss).length ≤ ss.length := by
  have : ∀ (l : List Nat) (m : List WK), (l.foldl (vstep c) m).length ≤ m.length + l.length := by
    intro l
    induction l with
    | nil => intro m; exact Nat.le_refl _
    | cons a r ih =>
      intro m
      have h1 := ih (vstep c m a)
      have h2 := vstep_ge c m a
      simp only [List.foldl_cons, List.length_cons]
      omega
  simpa [vrun] using this ss []
theorem keys_step (c : Nat → List Str) (m : List WK) (s : Nat) : keys (vstep c m s) = if c s ∈ keys m then keys m else keys m ++ [c s] := by
  unfold vstep putM
  by_cases h : c s ∈ keys m
  · rw [if_pos ((any_keys m _).mpr h), if_pos h]
    unfold keys
    rw [List.map_map]
    refine List.map_congr_left fun p _ => ?_
    show (if p.1 = c s then (p.1, _) else p).1 = p.1
    split <;> rfl
  · rw [if_neg (fun z => h ((any_keys m _).mp z)), if_neg h]
    unfold keys
    rw [List.map_append]
    rfl
/-! the settings of a mask -/
def insd (x : Nat) : List Nat := setsOf x (Builtin.Int.intBits (x : Int))
theorem sets_pw (m N : Nat) : (setsOf m N).Pairwise (· < ·) := List.pairwise_lt_range.filter _
theorem mem_insd (x s : Nat) : s ∈ insd x ↔ x.testBit s = true := by
  unfold insd setsOf
  rw [List.mem_filter, List.mem_range]
  refine ⟨fun h => h.2, fun h => ⟨?_, h⟩⟩
  refine Decidable.byContradiction fun z => ?_
  rw [high_bit (bits_self x) (by omega)] at h
  cases h
def lst (x : Nat) : Nat := (insd x).headD 0
theorem lst_head {x : Nat} {s : Nat} (h : x.testBit s = true) : ∃ r, insd x = lst x :: r ∧ x.testBit (lst x) = true := by
  have hm := (mem_insd x s).mpr h
  unfold lst
  cases e : insd x with
  | nil => rw [e] at hm; cases hm
  | cons a r => exact ⟨r, rfl, (mem_insd x a).mp (by rw [e]; exact List.mem_cons_self)⟩
theorem lst_le {x s : Nat} (h : x.testBit s = true) : lst x ≤ s := by
  obtain ⟨r, e, _⟩ := lst_head h
  have hm := (mem_insd x s).mpr h
  have hp := sets_pw x (Builtin.Int.intBits (x : Int))
  rw [show setsOf x (Builtin.Int.intBits (x : Int)) = insd x from rfl, e, List.pairwise_cons] at hp
  rw [e] at hm
  rcases List.mem_cons.mp hm with z | z
  · omega
  · have := hp.1 s z
    omega
def seenU (m : List WK) : Nat := m.foldl (fun a p => a ||| p.2) 0
theorem seenU_snoc (m : List WK) (p : WK) : seenU (m ++ [p]) = seenU m ||| p.2 := by simp [seenU]
theorem seenU_bit (m : List WK) (s : Nat) : (seenU m).testBit s = true ↔ ∃ p ∈ m, p.2.testBit s = true := by
  have : ∀ (l : List WK) (a : Nat), (l.foldl (fun a p => a ||| p.2) a).testBit s = true ↔ a.testBit s = true ∨ ∃ p ∈ l, p.2.testBit s = true := by
    intro l
    induction l with
    | nil => intro a; simp
    | cons q r ih =>
      intro a
      rw [List.foldl_cons, ih]
      simp only [Nat.testBit_or, Bool.or_eq_true, List.mem_cons, exists_eq_or_imp]
      rw [or_assoc]
  rw [seenU, this]
  simp
section
variable {c : Nat → List Str} {ss : List Nat} {m : List WK}
theorem VI.apart (h : VI c ss m) {i : Nat} {p : WK} (hi : m[i]? = some p) : p.2 &&& seenU (m.take i) = 0 := by
  refine Nat.eq_of_testBit_eq fun s => ?_
  rw [Nat.testBit_and, Nat.zero_testBit]
  refine Bool.eq_false_iff.mpr fun z => ?_
  obtain ⟨z1, z2⟩ := Bool.and_eq_true_iff.mp z
  obtain ⟨q, hq, hb⟩ := (seenU_bit _ s).mp z2
  obtain ⟨j, hj, e⟩ := List.getElem_of_mem hq
  rw [List.length_take] at hj
  rw [List.getElem_take] at e
  have e1 := ((h.bit p (List.mem_of_getElem? hi) s).mp z1).2
  have e2 := ((h.bit q (List.mem_of_mem_take hq) s).mp hb).2
  have hil := (List.getElem?_eq_some_iff.mp hi).1
  have k1 : (keys m)[i]? = some (c s) := by rw [List.getElem?_map, hi, e1]; rfl
  have k2 : (keys m)[j]? = some (c s) := by rw [List.getElem?_map, List.getElem?_eq_getElem (by omega), e, e2]; rfl
  have := (List.getElem?_inj (by rw [List.length_map]; exact hil) h.nd).mp (k1.trans k2.symm)
  omega
theorem VI.unlike (h : VI c ss m) {i : Nat} {p : WK} (hi : m[i]? = some p) : p.1 ∉ keys (m.take i) := fun hm => by
  obtain ⟨q, hq, e⟩ := List.mem_map.mp hm
  obtain ⟨j, hj, e'⟩ := List.getElem_of_mem hq
  rw [List.length_take] at hj
  rw [List.getElem_take] at e'
  have hil := (List.getElem?_eq_some_iff.mp hi).1
  have k1 : (keys m)[i]? = some p.1 := by rw [List.getElem?_map, hi]; rfl
  have k2 : (keys m)[j]? = some p.1 := by rw [List.getElem?_map, List.getElem?_eq_getElem (by omega), e', ← e]; rfl
  have := (List.getElem?_inj (by rw [List.length_map]; exact hil) h.nd).mp (k1.trans k2.symm)
  omega
theorem VI.rise (h : VI c ss m) {i : Nat} {p q : WK} (hi : m[i]? = some p) (hj : m[i + 1]? = some q) : lst p.2 < lst q.2 := by
  obtain ⟨s, hs, hl⟩ := h.ord i (i + 1) p q (by omega) hi hj
  obtain ⟨t, ht⟩ := h.ex q (List.mem_of_getElem? hj)
  obtain ⟨_, _, hb⟩ := lst_head ht
  exact Nat.lt_of_le_of_lt (lst_le hs) (hl _ hb)
theorem VI.whole (h : VI c ss m) {a : Nat} (ha : ∀ s, a.testBit s = true ↔ s ∈ ss) : seenU m = a := by
  refine Nat.eq_of_testBit_eq fun s => ?_
  rw [Bool.eq_iff_iff, seenU_bit, ha]
  constructor
  · rintro ⟨p, hp, hb⟩
    exact ((h.bit p hp s).mp hb).1
  · intro hs
    obtain ⟨p, hp, e⟩ := List.mem_map.mp (h.cov s hs)
    exact ⟨p, hp, (h.bit p hp s).mpr ⟨hs, e.symm⟩⟩
end
end Mm

set_option linter.all false
namespace Mm
/-! wishes, and how they are read from behind -/
inductive W where
  | c0 | c1 | sw (k : Nat) | no (a : W) | an (a b : W) | orr (a b : W) | xo (a b : W) | ch (k : Nat) (a b : W)
def W.signs : W → List Nat
  | .c0 => [48]
  | .c1 => [49]
  | .sw k => [97 + k]
  | .no a => 33 :: a.signs
  | .an a b => 38 :: (a.signs ++ b.signs)
  | .orr a b => 124 :: (a.signs ++ b.signs)
  | .xo a b => 94 :: (a.signs ++ b.signs)
  | .ch k a b => 63 :: (97 + k) :: (a.signs ++ b.signs)
def W.ok (n : Nat) : W → Prop
  | .c0 => True
  | .c1 => True
  | .sw k => k < n
  | .no a => a.ok n
  | .an a b => a.ok n ∧ b.ok n
  | .orr a b => a.ok n ∧ b.ok n
  | .xo a b => a.ok n ∧ b.ok n
  | .ch k a b => k < n ∧ a.ok n ∧ b.ok n
def flat : List W → List Nat
  | [] => []
  | w :: r => w.signs ++ flat r
def Oks (n : Nat) (ws : List W) : Prop := ∀ w ∈ ws, w.ok n
theorem Oks.cons {n : Nat} {w : W} {ws : List W} (h : w.ok n) (hs : Oks n ws) : Oks n (w :: ws) := fun x hx => by
  rcases List.mem_cons.mp hx with e | e
  · subst e; exact h
  · exact hs x e
theorem Oks.hd {n : Nat} {w : W} {ws : List W} (h : Oks n (w :: ws)) : w.ok n := h w List.mem_cons_self
theorem Oks.tl {n : Nat} {w : W} {ws : List W} (h : Oks n (w :: ws)) : Oks n ws := fun x hx => h x (List.mem_cons_of_mem _ hx)
theorem Oks.nil {n : Nat} : Oks n [] := fun x hx => nomatch hx
/-- what stands there is some wishes, one behind the other -/
def Fl (n : Nat) (l : List Nat) : Prop := ∃ ws, Oks n ws ∧ l = flat ws
theorem Fl.tail {n c : Nat} {l : List Nat} (h : Fl n (c :: l)) : Fl n l := by
  obtain ⟨ws, ho, e⟩ := h
  cases ws with
  | nil => cases e
  | cons w r =>
    have hw := ho.hd
    have hr := ho.tl
    cases w with
    | c0 => exact ⟨r, hr, (List.cons.inj e).2⟩
    | c1 => exact ⟨r, hr, (List.cons.inj e).2⟩
    | sw k => exact ⟨r, hr, (List.cons.inj e).2⟩
    | no a => exact ⟨a :: r, hr.cons hw, (List.cons.inj e).2⟩
    | an a b => exact ⟨a :: b :: r, (hr.cons hw.2).cons hw.1, by rw [(List.cons.inj e).2]; simp [flat, List.append_assoc]⟩
    | orr a b => exact ⟨a :: b :: r, (hr.cons hw.2).cons hw.1, by rw [(List.cons.inj e).2]; simp [flat, List.append_assoc]⟩
    | xo a b => exact ⟨a :: b :: r, (hr.cons hw.2).cons hw.1, by rw [(List.cons.inj e).2]; simp [flat, List.append_assoc]⟩
    | ch k a b => exact ⟨.sw k :: a :: b :: r, ((hr.cons hw.2.2).cons hw.2.1).cons hw.1, by rw [(List.cons.inj e).2]; simp [flat, W.signs, List.append_assoc]⟩
theorem Fl.drop {n : Nat} : ∀ (i : Nat) {l : List Nat}, Fl n l → Fl n (l.drop i)
  | 0, _, h => h
  | i + 1, [], h => h
  | i + 1, c :: l, h => Fl.drop i h.tail
/-! the program's way: a sign, what it needs, what it makes -/
def needs (c : Nat) : Nat := if c = 33 then 1 else if c = 38 then 2 else if c = 124 then 2 else if c = 94 then 2 else if c = 63 then 3 else 0
def W.val (sws : List Nat) (full : Nat) : W → Nat
  | .c0 => 0
  | .c1 => full
  | .sw k => sws.getD k 0
  | .no a => full ^^^ a.val sws full
  | .an a b => a.val sws full &&& b.val sws full
  | .orr a b => a.val sws full ||| b.val sws full
  | .xo a b => a.val sws full ^^^ b.val sws full
  | .ch k a b => (sws.getD k 0 &&& a.val sws full) ||| ((full ^^^ sws.getD k 0) &&& b.val sws full)
/-! where it holds -/
def W.ev (s : Nat) : W → Bool
  | .c0 => false
  | .c1 => true
  | .sw k => s.testBit k
  | .no a => !a.ev s
  | .an a b => a.ev s && b.ev s
  | .orr a b => a.ev s || b.ev s
  | .xo a b => a.ev s != b.ev s
  | .ch k a b => if s.testBit k then a.ev s else b.ev s
/-! the values stay small on the way, too -/
/-! the law's way: from behind, a chooser at once -/
/-! a text with open parts: whatever wishes follow, it is a wish -/
def Op (n : Nat) (t : List Nat) (k : Nat) : Prop := ∀ ws : List W, ws.length = k → Oks n ws → ∃ w : W, w.ok n ∧ w.signs = t ++ flat ws
theorem Op.start {n : Nat} : Op n [] 1 := fun ws hl ho => by
  match ws, hl with
  | [w], _ => exact ⟨w, ho.hd, by simp [flat]⟩
theorem Op.no {n k : Nat} {t : List Nat} (h : Op n t (k + 1)) : Op n (t ++ [33]) (k + 1) := fun ws hl ho => by
  match ws, hl with
  | a :: r, hl =>
    obtain ⟨w, hw, e⟩ := h (.no a :: r) (by simpa using hl) (ho.tl.cons ho.hd)
    exact ⟨w, hw, by rw [e]; simp [flat, W.signs]⟩
theorem Op.two {n k c : Nat} {t : List Nat} (hc : c = 38 ∨ c = 124 ∨ c = 94) (h : Op n t (k + 1)) : Op n (t ++ [c]) (k + 2) := fun ws hl ho => by
  match ws, hl with
  | a :: b :: r, hl =>
    have hl' : r.length = k := by simpa using hl
    have oa := ho.hd
    have ob := ho.tl.hd
    have hr := ho.tl.tl
    rcases hc with rfl | rfl | rfl
    · obtain ⟨w, hw, e⟩ := h (.an a b :: r) (by simp [hl']) (hr.cons ⟨oa, ob⟩)
      exact ⟨w, hw, by rw [e]; simp [flat, W.signs]⟩
    · obtain ⟨w, hw, e⟩ := h (.orr a b :: r) (by simp [hl']) (hr.cons ⟨oa, ob⟩)
      exact ⟨w, hw, by rw [e]; simp [flat, W.signs]⟩
    · obtain ⟨w, hw, e⟩ := h (.xo a b :: r) (by simp [hl']) (hr.cons ⟨oa, ob⟩)
      exact ⟨w, hw, by rw [e]; simp [flat, W.signs]⟩
theorem Op.ch {n k j : Nat} {t : List Nat} (h : Op n t (k + 1)) (hj : j < n) : Op n (t ++ [63] ++ [97 + j]) (k + 2) := fun ws hl ho => by
  match ws, hl with
  | a :: b :: r, hl =>
    have hl' : r.length = k := by simpa using hl
    obtain ⟨w, hw, e⟩ := h (.ch j a b :: r) (by simp [hl']) (ho.tl.tl.cons ⟨hj, ho.hd, ho.tl.hd⟩)
    exact ⟨w, hw, by rw [e]; simp [flat, W.signs]⟩
theorem Op.done {n : Nat} {t : List Nat} (h : Op n t 0) : ∃ w : W, w.ok n ∧ w.signs = t := by
  obtain ⟨w, hw, e⟩ := h [] rfl Oks.nil
  exact ⟨w, hw, by rw [e]; simp [flat]⟩
end Mm

set_option Elab.async false
set_option linter.all false
set_option maxRecDepth 100000
namespace Mm
open PySem L2 PyProof.Rows
/-! joined lists of signs -/
/-! a row's words, one by one -/
inductive Ev where
  | op (v : W) | cl | pl (z : Str)
structure Pl (z : Str) : Prop where
  sg : ∀ c ∈ z.cps.toList, 33 ≤ c ∧ c ≤ 126
  hd : ∃ c r, z.cps.toList = c :: r ∧ c ≠ 60
  gt : z ≠ ⟨#[62]⟩
def wd : Ev → Str
  | .op v => ⟨(60 :: v.signs).toArray⟩
  | .cl => ⟨#[62]⟩
  | .pl z => z
abbrev RSt := List (Str × List W) × List W
def stp (st : RSt) : Ev → RSt
  | .op v => (st.1, st.2 ++ [v])
  | .cl => (st.1, st.2.dropLast)
  | .pl z => (st.1 ++ [(z, st.2)], st.2)
def rn (evs : List Ev) : RSt := evs.foldl stp ([], [])
def evok (n : Nat) (ar : List W) : Ev → Prop
  | .op v => v.ok n ∧ v.signs.length ≤ 9 ∧ ar.length < 5
  | .cl => ar ≠ []
  | .pl z => Pl z ∧ z.length ≤ 5
def Gev (n : Nat) (evs : List Ev) : Prop := ∀ i e, evs[i]? = some e → evok n (rn (evs.take i)).2 e
theorem Gev.nil (n : Nat) : Gev n [] := fun i e h => by simp at h
theorem Gev.snoc {n : Nat} {evs : List Ev} {e : Ev} (g : Gev n evs) (h : evok n (rn evs).2 e) : Gev n (evs ++ [e]) := fun i e' hi => by
  by_cases hl : i < evs.length
  · rw [List.getElem?_append_left hl] at hi
    rw [List.take_append_of_le_length (by omega)]
    exact g i e' hi
  · rw [List.getElem?_append_right (by omega)] at hi
    have h0 : i - evs.length = 0 := by
      cases hh : i - evs.length with
      | zero => rfl
      | succ m => rw [hh] at hi; simp at hi
    rw [h0] at hi
    have e1 : e = e' := by simpa using hi
    have e2 : i = evs.length := by omega
    subst e1 e2
    rw [List.take_append_of_le_length (Nat.le_refl _), List.take_length]
    exact h
theorem signs_range {n : Nat} (hn : n ≤ 10) : ∀ v : W, v.ok n → ∀ c ∈ v.signs, 33 ≤ c ∧ c ≤ 126 := by
  intro v
  induction v with
  | c0 => intro _ c h; simp [W.signs] at h; omega
  | c1 => intro _ c h; simp [W.signs] at h; omega
  | sw k => intro hk c h; have hk' : k < n := hk; simp [W.signs] at h; omega
  | no a ih =>
    intro hk c h
    rcases List.mem_cons.mp h with e | e
    · omega
    · exact ih hk c e
  | an a b iha ihb =>
    intro hk c h
    rcases List.mem_cons.mp h with e | e
    · omega
    · rcases List.mem_append.mp e with e | e
      · exact iha hk.1 c e
      · exact ihb hk.2 c e
  | orr a b iha ihb =>
    intro hk c h
    rcases List.mem_cons.mp h with e | e
    · omega
    · rcases List.mem_append.mp e with e | e
      · exact iha hk.1 c e
      · exact ihb hk.2 c e
  | xo a b iha ihb =>
    intro hk c h
    rcases List.mem_cons.mp h with e | e
    · omega
    · rcases List.mem_append.mp e with e | e
      · exact iha hk.1 c e
      · exact ihb hk.2 c e
  | ch k a b iha ihb =>
    intro hk c h
    have hk' : k < n := hk.1
    rcases List.mem_cons.mp h with e | e
    · omega
    · rcases List.mem_cons.mp e with e | e
      · omega
      · rcases List.mem_append.mp e with e | e
        · exact iha hk.2.1 c e
        · exact ihb hk.2.2 c e
theorem evok_wd {n : Nat} (hn : n ≤ 10) {ar : List W} {e : Ev} (h : evok n ar e) : (∀ c ∈ (wd e).cps.toList, 33 ≤ c ∧ c ≤ 126) ∧ (wd e).cps.toList ≠ [] ∧ (wd e).length ≤ 10 := by
  cases e with
  | op v =>
    obtain ⟨h1, h2, _⟩ := h
    refine ⟨fun c hc => ?_, by simp [wd], by simp [wd, Str.length]; omega⟩
    rcases List.mem_cons.mp (show c ∈ 60 :: v.signs by simpa [wd] using hc) with z | z
    · omega
    · exact signs_range hn v h1 c z
  | cl => exact ⟨fun c hc => by have : c = 62 := by simpa [wd] using hc
                                omega, by simp [wd], by decide⟩
  | pl z =>
    obtain ⟨h1, h2⟩ := h
    obtain ⟨c, r, e, _⟩ := h1.hd
    exact ⟨h1.sg, by show z.cps.toList ≠ []; rw [e]; simp, by show z.length ≤ 10; omega⟩
theorem Gev.wd {n : Nat} (hn : n ≤ 10) {evs : List Ev} (g : Gev n evs) : ∀ z ∈ evs.map wd, (∀ c ∈ z.cps.toList, 33 ≤ c ∧ c ≤ 126) ∧ z.cps.toList ≠ [] ∧ z.length ≤ 10 := fun z hz => by
  obtain ⟨e, he, rfl⟩ := List.mem_map.mp hz
  obtain ⟨i, hi⟩ := List.mem_iff_getElem?.mp he
  exact evok_wd hn (g i e hi)
end Mm

set_option Elab.async false
set_option linter.all false
set_option maxRecDepth 100000
set_option maxHeartbeats 4000000
namespace K14
open PySem L2 Mm
/-! the text by places -/
def top (i : Nat) : Stmt := PySem.Challenge.pw_manymakes_k14_variants.main.body.getD i (.Pass ⟨0, 0, 0, 0⟩)
abbrev st_has : Stmt := top 5
abbrev st_settings : Stmt := top 6
abbrev st_cut_row : Stmt := top 9
abbrev st_variants : Stmt := top 10
abbrev st_law_drawn : Stmt := top 12
abbrev st_law_mask : Stmt := top 13
abbrev st_law_words : Stmt := top 14
abbrev st_law_walked : Stmt := top 15
abbrev st_law_refused : Stmt := top 16
abbrev st_law_switch : Stmt := top 17
abbrev st_law_edges : Stmt := top 18
abbrev st_TooMany_init : Stmt := inClass (top 3) 0
abbrev st_law : Stmt := top 19
structure Adr where
  has : Addr
  settings : Addr
  cut_row : Addr
  variants : Addr
  law_drawn : Addr
  law_mask : Addr
  law_words : Addr
  law_walked : Addr
  law_refused : Addr
  law_switch : Addr
  law_edges : Addr
  TooMany_init : Addr
  t_variants : Addr
  x_MakesError : Addr
  x_NoGroup : Addr
  x_TooMany : Addr
structure Fds where
  has : FuncData
  settings : FuncData
  cut_row : FuncData
  variants : FuncData
  law_drawn : FuncData
  law_mask : FuncData
  law_words : FuncData
  law_walked : FuncData
  law_refused : FuncData
  law_switch : FuncData
  law_edges : FuncData
  TooMany_init : FuncData
structure All (P : Program) (w : World) (K : PySem.W.Frag) (mg : Str → Option Value) (A : Adr) (D : Fds) : Prop where
  m_has : mg "has" = some (.ref A.has)
  k_has : PySem.W.keepIn K (.ref A.has) = true
  F_has : Fun K "has" "has" st_has A.has D.has
  b_has : Binds K D.has ["mask", "s"] []
  m_settings : mg "settings" = some (.ref A.settings)
  k_settings : PySem.W.keepIn K (.ref A.settings) = true
  F_settings : Fun K "settings" "settings" st_settings A.settings D.settings
  b_settings : Binds K D.settings ["mask"] []
  m_cut_row : mg "cut_row" = some (.ref A.cut_row)
  k_cut_row : PySem.W.keepIn K (.ref A.cut_row) = true
  F_cut_row : Fun K "cut_row" "cut_row" st_cut_row A.cut_row D.cut_row
  b_cut_row : Binds K D.cut_row ["row", "s"] []
  m_variants : mg "variants" = some (.ref A.variants)
  k_variants : PySem.W.keepIn K (.ref A.variants) = true
  F_variants : ∃ t, FunD K "variants" "variants" st_variants A.variants A.t_variants [.int 0 t] D.variants ∧ Binds K D.variants ["row", "mask", "at"] [] ∧ Binds K D.variants ["row", "mask", "at"] [.int 0 t]
  m_law_drawn : mg "_law_drawn" = some (.ref A.law_drawn)
  k_law_drawn : PySem.W.keepIn K (.ref A.law_drawn) = true
  F_law_drawn : Fun K "_law_drawn" "_law_drawn" st_law_drawn A.law_drawn D.law_drawn
  b_law_drawn : Binds K D.law_drawn ["_law_number", "_law_many"] []
  m_law_mask : mg "_law_mask" = some (.ref A.law_mask)
  k_law_mask : PySem.W.keepIn K (.ref A.law_mask) = true
  F_law_mask : Fun K "_law_mask" "_law_mask" st_law_mask A.law_mask D.law_mask
  b_law_mask : Binds K D.law_mask ["_law_cell", "_law_n"] []
  m_law_words : mg "_law_words" = some (.ref A.law_words)
  k_law_words : PySem.W.keepIn K (.ref A.law_words) = true
  F_law_words : Fun K "_law_words" "_law_words" st_law_words A.law_words D.law_words
  b_law_words : Binds K D.law_words ["_law_row", "_law_s"] []
  m_law_walked : mg "_law_walked" = some (.ref A.law_walked)
  k_law_walked : PySem.W.keepIn K (.ref A.law_walked) = true
  F_law_walked : Fun K "_law_walked" "_law_walked" st_law_walked A.law_walked D.law_walked
  b_law_walked : Binds K D.law_walked ["_law_found", "_law_row", "_law_asked"] []
  m_law_refused : mg "_law_refused" = some (.ref A.law_refused)
  k_law_refused : PySem.W.keepIn K (.ref A.law_refused) = true
  F_law_refused : Fun K "_law_refused" "_law_refused" st_law_refused A.law_refused D.law_refused
  b_law_refused : Binds K D.law_refused ["_law_row", "_law_mask_here", "_law_at"] []
  m_law_switch : mg "_law_switch" = some (.ref A.law_switch)
  k_law_switch : PySem.W.keepIn K (.ref A.law_switch) = true
  F_law_switch : Fun K "_law_switch" "_law_switch" st_law_switch A.law_switch D.law_switch
  b_law_switch : Binds K D.law_switch ["_law_k", "_law_n"] []
  m_law_edges : mg "_law_edges" = some (.ref A.law_edges)
  k_law_edges : PySem.W.keepIn K (.ref A.law_edges) = true
  F_law_edges : Fun K "_law_edges" "_law_edges" st_law_edges A.law_edges D.law_edges
  b_law_edges : Binds K D.law_edges ["_law_at"] []
  M_TooMany : MkI K A.x_TooMany A.TooMany_init bmVE "ValueError.__new__"
  ic_TooMany : ICls K A.x_TooMany
  na_TooMany_at : NoAttr K A.x_TooMany "at"
  k_TooMany_init : PySem.W.keepIn K (.ref A.TooMany_init) = true
  F_TooMany_init : Fun K "__init__" "TooMany.__init__" st_TooMany_init A.TooMany_init D.TooMany_init
  b_TooMany_init : Binds K D.TooMany_init ["self", "at"] []
  v_MOST_VARIANTS : ∃ t, mg "MOST_VARIANTS" = some (.int 16 t)
  m_MakesError : mg "MakesError" = some (.ref A.x_MakesError)
  xc_MakesError : XCls K A.x_MakesError
  m_NoGroup : mg "NoGroup" = some (.ref A.x_NoGroup)
  xc_NoGroup : XCls K A.x_NoGroup
  m_TooMany : mg "TooMany" = some (.ref A.x_TooMany)
  xc_TooMany : XCls K A.x_TooMany
  em_TooMany_TooMany : PySem.W.exmOne K (.ref A.x_TooMany) (.ref A.x_TooMany) = some true
  ki_TooMany_MakesError : PySem.W.kitOne K (.ref A.x_TooMany) (.ref A.x_MakesError) = some true
  ki_TooMany_NoGroup : PySem.W.kitOne K (.ref A.x_TooMany) (.ref A.x_NoGroup) = some false
  n_len : mg "len" = none
  n_range : mg "range" = none
  n_int : mg "int" = none
  n_bool : mg "bool" = none
  n_tuple : mg "tuple" = none
  n_list : mg "list" = none
  n_isinstance : mg "isinstance" = none
  n_any : mg "any" = none
  n_sum : mg "sum" = none
/-! promises -/
def iv (l : List Nat) : List V := l.map fun x => V.int ((x : Nat) : Int)
/-! facts -/
theorem two_le {n : Nat} (h : n ≤ 10) : (2 : Nat) ^ n ≤ 1024 := Nat.pow_le_pow_right (by decide) h
theorem one_shl {n : Nat} (h : n ≤ 1024) : CShl 1 (n : Int) := ⟨by omega, 1, by decide, by omega⟩
theorem same_upd {H : Hp} {p : Addr} {o : HO} (h : H p = none) : Same H (upd H p o) := fun b u e => by rw [upd_ne (ne_of_none e h)]; exact e
theorem small5k {n : Nat} (h : n ≤ 5000) : n < sizeLine := Nat.lt_of_le_of_lt h (by decide)
theorem sg {c d : Nat} {x : Str} (hx : x = ⟨#[d]⟩) : decide (V.str ⟨#[c]⟩ = V.str x) = decide (c = d) := by
  subst hx
  by_cases h : c = d
  · subst h; simp
  · have : ¬ (V.str ⟨#[c]⟩ = V.str ⟨#[d]⟩) := fun z => by
      injection z with z
      injection z with z
      exact h (by simpa using z)
    rw [decide_eq_false this, decide_eq_false h]
theorem cut_mem {xs : List V} {lo hi : Option Int} {i : Nat} {y : V} (h : (cutV xs lo hi)[i]? = some y) : y ∈ xs := by
  have := List.mem_of_getElem? h
  unfold cutV at this
  exact List.mem_of_mem_drop (List.mem_of_mem_take this)
theorem shl_n (n : Nat) : (1 : Int) * 2 ^ ((n : Int)).toNat = ((2 ^ n : Nat) : Int) := by rw [pow2, Int.toNat_natCast]; omega
section
variable {P : Program} {w : World} {K : PySem.W.Frag} {mg : Str → Option Value} {base : Heap} {AA : Adr} {DD : Fds}
def spHas : Sp := fun vs H Q _ => ∃ m s : Nat, vs = [.int m, .int s] ∧ Q (.bl (m.testBit s)) H
def bl (m : Nat) : Nat := Builtin.Int.intBits (m : Int)
def asInts (l : List Nat) : List Int := l.map fun (s : Nat) => (s : Int)
def spSettings : Sp := fun vs H Q _ => ∃ m : Nat, vs = [.int m] ∧ m < 2 ^ 1024 ∧ ∀ p, H p = none → Q (.ref p) (upd H p (.lst ((asInts (setsOf m (bl m))).map V.int)))
theorem shr_nat (m s : Nat) : (m : Int) / 2 ^ ((s : Int)).toNat = ((m / 2 ^ s : Nat) : Int) := by rw [Int.toNat_natCast, pow2]; rfl
theorem has_val (m s : Nat) : decide (V.int (Builtin.bitAnd ((m : Int) / 2 ^ ((s : Int)).toNat) 1) = V.int 1) = m.testBit s := by
  rw [dec_int, shr_nat, show (1 : Int) = ((1 : Nat) : Int) from rfl, bitAnd_nat, Nat.and_one_is_mod, testBit_mod]
  by_cases h : m / 2 ^ s % 2 = 1
  · rw [h]; rfl
  · have h0 : m / 2 ^ s % 2 = 0 := by omega
    rw [h0]; rfl
theorem sets_succ (m i : Nat) : setsOf m (i + 1) = if m.testBit i then setsOf m i ++ [i] else setsOf m i := by
  unfold setsOf
  rw [List.range_succ, List.filter_append]
  cases h : m.testBit i <;> simp [h]
theorem snocInts (l : List Nat) (i : Nat) : asInts (l ++ [i]) = asInts l ++ [(i : Int)] := by simp [asInts]
theorem bl_le {m N : Nat} (h : m < 2 ^ N) : bl m ≤ N := bits_nat h
theorem sets_bl {m N : Nat} (h : m < 2 ^ N) : setsOf m (bl m) = setsOf m N := sets_ext (bits_self m) (bl_le h)
theorem sc_has : FnScope ["mask", "s"] ["mask", "s"] (defScope st_has) := ⟨rfl, rfl, rfl, by decide +kernel, rfl, by decide +kernel, by decide +kernel⟩
theorem ok_has (T : All P w K mg AA DD) : FnOk P w K mg base CX0 1 AA.has DD.has ["mask", "s"] spHas := by
  refine T.F_has.ok sc_has (fun vs H Q E h => ?_) (fun cdv A outer s H vs Q E hr h => ?_)
  · obtain ⟨m, t, rfl, _⟩ := h
    rfl
  · obtain ⟨m, t, rfl, k⟩ := h
    refine ⟨_, pss_one (ps_ret (pe_cmpR op_eq (pe_op op_and (pe_op op_shr (pv 0) (pv 1)) pe_int) pe_int (nomark _))), ?_⟩
    refine ⟨_, rfl, _, rfl, _, _, rfl, rfl, by omega, _, _, rfl, rfl, rfl, ?_⟩
    rw [has_val]
    exact k
theorem sc_settings : FnScope ["mask"] ["mask"] (defScope st_settings) := ⟨rfl, rfl, rfl, by decide +kernel, rfl, by decide +kernel, by decide +kernel⟩
theorem ok_settings (T : All P w K mg AA DD) : FnOk P w K mg base CX0 2 AA.settings DD.settings ["mask"] spSettings := by
  have G0 := ok_has (base := base) T
  refine T.F_settings.ok sc_settings (fun vs H Q E h => ?_) (fun cdv A outer s H vs Q E hr h => ?_)
  · obtain ⟨m, rfl, _⟩ := h
    rfl
  · obtain ⟨m, rfl, hm, k⟩ := h
    refine ⟨_, pss_one (ps_ret (pe_comp (defScope st_settings) ["mask"] ["mask"] [0] rfl (by exact ⟨rfl, rfl, by decide +kernel, rfl, by decide +kernel, by decide +kernel, by decide +kernel, rfl, by decide +kernel⟩) rfl rfl
      (pi_range1 rfl T.n_range (pa_cons (pe_bm0 PySem.F.plainAttrs_int PySem.F.slot_int_bit_length PySem.F.type_int_bit_length mt_bitlen (pv 0)) pa_nil))
      (fun _ _ _ _ => pif_one (pt_val (pe_call G0 hr rfl T.m_has T.k_has T.b_has .nil pass0 (pa_cons (pv 1) (pa_cons (pv 0) pa_nil))))) (fun _ _ _ _ => pv 0))), ?_⟩
    have hb : bl m ≤ 1024 := bl_le hm
    refine ⟨_, rfl, rfl, _, rfl, rfl, _, rfl, ?_, ?_, ?_⟩
    · show -(2 ^ 62) ≤ ((bl m : Nat) : Int); omega
    · show ((bl m : Nat) : Int) < 2 ^ 62; omega
    show ∃ W : Nat → Nat → List V → Hp → Prop, _
    rw [show (((Builtin.Int.intBits (m : Int) : Nat) : Int)).toNat = bl m from Int.toNat_natCast _]
    refine comp_range (fun i ys H' => H' = H ∧ i ≤ bl m ∧ ys = (asInts (setsOf m i)).map V.int) ⟨rfl, Nat.zero_le _, rfl⟩ ?_ ?_
    · rintro i ys H' hi ⟨rfl, _, rfl⟩
      refine ⟨_, rfl, _, rfl, m, i, by simp, _, rfl, ?_⟩
      have hs := sets_succ m i
      cases hb : m.testBit i with
      | true =>
        rw [hb, if_pos rfl] at hs
        refine iteT ?_
        refine ⟨_, rfl, ?_, rfl, hi, ?_⟩
        · rw [List.length_map, asInts, List.length_map]
          have := sets_len m i
          exact small5k (by omega)
        · rw [hs, snocInts, List.map_append, Int.zero_add]; rfl
      | false =>
        rw [hb, if_neg Bool.false_ne_true] at hs
        refine iteF ?_
        exact ⟨rfl, hi, by rw [hs]⟩
    · rintro ys H' ⟨rfl, _, rfl⟩ p hp
      exact k p hp
def spDrawn : Sp := fun vs H Q _ => ∃ (x : Int) (k : Nat), vs = [.int x, .int k] ∧ k ≤ 1000 ∧ ∀ p (zs : List Int), H p = none → zs.length = k → (∀ z ∈ zs, 0 ≤ z ∧ z < 2 ^ 30) → Q (.ref p) (upd H p (.lst (zs.map V.int)))
theorem sc_drawn : FnScope ["_law_number", "_law_many", "_law_found", "_law_x", "_law_k"] ["_law_number", "_law_many"] (defScope st_law_drawn) := ⟨rfl, rfl, rfl, by decide +kernel, rfl, by decide +kernel, by decide +kernel⟩
theorem ok_drawn (T : All P w K mg AA DD) : FnOk P w K mg base CX0 1 AA.law_drawn DD.law_drawn ["_law_number", "_law_many"] spDrawn := by
  refine T.F_law_drawn.ok sc_drawn (fun vs H Q E h => ?_) (fun cdv A outer s H vs Q E hr h => ?_)
  · obtain ⟨x, k, rfl, _⟩ := h
    rfl
  · obtain ⟨x0, n, rfl, hn, k⟩ := h
    refine ⟨_, pss_cons (ps_set (i := 2) sc_drawn.nd rfl (Or.inl rfl) (pe_lst pa_nil))
      (pss_cons (ps_set (i := 3) sc_drawn.nd rfl (Or.inl rfl) (pe_op op_mod (pv 0) pe_int))
      (pss_cons (ps_for PassesOwn.never rfl (pi_range1 rfl T.n_range (pa_cons (pv 1) pa_nil)) (pg_name (i := 4) sc_drawn.nd rfl (Or.inl rfl))
        (pss_cons (ps_set (i := 3) sc_drawn.nd rfl (Or.inl rfl) (pe_op op_mod (pe_op op_add (pe_op op_add (pe_op op_add (pe_op op_mul (pv 3) (pv 3)) (pe_op op_mul pe_int (pv 3))) (pe_op op_mul pe_int (pv 4))) pe_int) pe_int))
        (pss_one (ps_expr (pe_bm PySem.F.plainAttrs_list PySem.F.slot_list_append PySem.F.type_list_append mt_append (pv 2) (pa_cons (pe_op op_fdiv (pv 3) pe_int) pa_nil))))))
      (pss_one (ps_ret (pv 2))))), ?_⟩
    refine ⟨Nat.zero_le _, fun p hp => ?_⟩
    refine ⟨_, rfl, _, _, rfl, rfl, (by show (0 : Int) < 2147483629; decide), ?_⟩
    have b0 := Int.emod_nonneg x0 (show (2147483629 : Int) ≠ 0 by decide)
    have b1 := Int.emod_lt_of_pos x0 (show (0 : Int) < 2147483629 by decide)
    refine ⟨_, rfl, _, rfl, by omega, by omega, ?_⟩
    rw [Int.toNat_natCast]
    refine for_range (fun i σ H' => ∃ (x : Int) (zs : List Int) (s4 : Option V), 0 ≤ x ∧ x < 2147483629 ∧ zs.length = i ∧ (∀ z ∈ zs, 0 ≤ z ∧ z < 2 ^ 30) ∧ H' = upd H p (.lst (zs.map V.int)) ∧ σ = [some (.int x0), some (.int (n : Nat)), some (.ref p), some (.int x), s4])
      ⟨_, [], none, b0, b1, rfl, by simp, rfl, rfl⟩ ?_ ?_
    · rintro i σ H' hi ⟨x, zs, s4, h0, h1, hl, hz, rfl, rfl⟩
      refine ⟨_, rfl, _, rfl, _, _, rfl, rfl, .inl ⟨by omega, by omega⟩, _, rfl, _, _, rfl, rfl, .inl ⟨by decide, by decide⟩, _, _, rfl, rfl, _, rfl, _, _, rfl, rfl, .inl ⟨by decide, by decide⟩, _, _, rfl, rfl, _, _, rfl, rfl, _, _, rfl, rfl, (by show (0 : Int) < 2147483629; decide), ?_⟩
      dsimp only
      generalize hy : (x * x + 40692 * x + 2 * (0 + (i : Int)) + 1) % 2147483629 = y
      have y0 : 0 ≤ y := by rw [← hy]; exact Int.emod_nonneg _ (by decide)
      have y1 : y < 2147483629 := by rw [← hy]; exact Int.emod_lt_of_pos _ (by decide)
      refine ⟨_, rfl, .inl ⟨rfl, _, SqL.of upd_same⟩, _, rfl, _, _, rfl, rfl, ⟨by decide, by decide⟩, p, _, _, rfl, rfl, upd_same, ?_, ?_⟩
      · rw [List.length_map]; exact small1000 (by omega)
      · refine ⟨y, zs ++ [y / 3], _, y0, y1, by simp [hl], fun z hz' => ?_, ?_, rfl⟩
        · rcases List.mem_append.mp hz' with q | q
          · exact hz z q
          · have : z = y / 3 := by simpa using q
            subst this
            omega
        · rw [upd_upd, List.map_append]; rfl
    · rintro σ H' ⟨x, zs, s4, h0, h1, hl, hz, rfl, rfl⟩
      exact ⟨_, rfl, k p zs hp hl hz⟩
def spMask : Sp := fun vs H Q _ => ∃ (c : Int) (n : Nat), vs = [.int c, .int n] ∧ n ≤ 10 ∧ ∀ (m : Nat) H', m < 2 ^ 2 ^ n → Same H H' → Q (.int m) H'
abbrev NM : List Str := ["_law_cell", "_law_n", "_law_size", "_law_xs", "_law_mask_here", "_law_x", "_law_part"]
theorem sc_mask : FnScope NM ["_law_cell", "_law_n"] (defScope st_law_mask) := ⟨rfl, rfl, rfl, by decide +kernel, rfl, by decide +kernel, by decide +kernel⟩
theorem ok_mask (T : All P w K mg AA DD) : FnOk P w K mg base CX0 2 AA.law_mask DD.law_mask ["_law_cell", "_law_n"] spMask := by
  have G4 := ok_drawn (base := base) T
  refine T.F_law_mask.ok sc_mask (fun vs H Q E h => ?_) (fun cdv A outer s H vs Q E hr h => ?_)
  · obtain ⟨c, n, rfl, _⟩ := h
    rfl
  · obtain ⟨c, n, rfl, hn, k⟩ := h
    have nd := sc_mask.nd
    refine ⟨_, pss_cons (ps_set (i := 2) nd rfl (Or.inl rfl) (pe_op op_shlB pe_int (pv 1)))
      (pss_cons (ps_set (i := 3) nd rfl (Or.inl rfl) (pe_call G4 hr rfl T.m_law_drawn T.k_law_drawn T.b_law_drawn .nil pass0 (pa_cons (pe_op op_fdiv (pv 0) pe_int) (pa_cons (pe_op op_add pe_int (pe_op op_fdiv (pv 2) pe_int)) pa_nil))))
      (pss_cons (ps_set (i := 4) nd rfl (Or.inl rfl) pe_int)
      (pss_cons (ps_for PassesOwn.never rfl (pi_list (pe_slice sl_list (pv 3) (po_some pe_int) po_none)) (pg_name (i := 5) nd rfl (Or.inl rfl)) (pss_one (ps_set (i := 4) nd rfl (Or.inl rfl) (pe_op op_xor (pe_op op_shlB (pv 4) pe_int) (pv 5)))))
      (pss_cons (ps_if (pt_cmpR op_eq (pe_op op_mod (pv 0) pe_int) pe_int (nomark _)) (pss_one (ps_ret (pe_ix ix_list (pe_lst (pa_cons pe_int (pa_cons (pe_op op_sub (pe_op op_shlB pe_int (pv 2)) pe_int) pa_nil))) (pe_op op_mod (pe_ix ix_list (pv 3) pe_int (fun _ _ => rfl)) pe_int) (fun _ _ => rfl)))) pss_nil)
      (pss_cons (ps_if (pt_cmpR op_eq (pe_op op_mod (pv 0) pe_int) pe_int (nomark _)) (pss_one (ps_ret (pe_op op_shlB pe_int (pe_op op_mod (pe_ix ix_list (pv 3) pe_int (fun _ _ => rfl)) (pv 2))))) pss_nil)
      (pss_cons (ps_if (pt_cmpR op_eq (pe_op op_mod (pv 0) pe_int) pe_int (nomark _)) (pss_one (ps_ret (pe_op op_xor (pe_op op_sub (pe_op op_shlB pe_int (pv 2)) pe_int) (pe_op op_shlB pe_int (pe_op op_mod (pe_ix ix_list (pv 3) pe_int (fun _ _ => rfl)) (pv 2)))))) pss_nil)
      (pss_cons (ps_if (pt_cmpR op_eq (pe_op op_mod (pv 0) pe_int) pe_int (nomark _))
        (pss_cons (ps_set (i := 6) nd rfl (Or.inl rfl) (pe_op op_shlB pe_int (pe_op op_mod (pe_ix ix_list (pv 3) pe_int (fun _ _ => rfl)) (pe_op op_add (pv 1) pe_int))))
        (pss_cons (ps_set (i := 4) nd rfl (Or.inl rfl) (pe_op op_mod (pv 4) (pe_op op_shlB pe_int (pv 6))))
        (pss_one (ps_while PassesOwn.never (pt_cmpR op_lt (pv 6) (pv 2) (nomark _))
          (pss_cons (ps_set (i := 4) nd rfl (Or.inl rfl) (pe_op op_or (pv 4) (pe_op op_shlB (pv 4) (pv 6)))) (pss_one (ps_set (i := 6) nd rfl (Or.inl rfl) (pe_op op_add (pv 6) (pv 6)))))))))
        pss_nil)
      (pss_one (ps_ret (pe_op op_mod (pv 4) (pe_op op_shlB pe_int (pv 2)))))))))))), ?_⟩
    have h2n : 2 ^ n ≤ 1024 := two_le hn
    have h2p : 0 < 2 ^ n := Nat.two_pow_pos n
    have e0 : (1 : Int) * 2 ^ ((n : Int)).toNat = ((2 ^ n : Nat) : Int) := by rw [pow2, Int.toNat_natCast]; omega
    have e00 : (1 : Int) * 2 ^ (((2 ^ n : Nat) : Int)).toNat = ((2 ^ 2 ^ n : Nat) : Int) := by rw [Int.toNat_natCast, pow2]; omega
    refine ⟨_, rfl, _, _, rfl, rfl, one_shl (by omega), ?_⟩
    dsimp only
    rw [e0]
    refine ⟨_, rfl, _, _, rfl, rfl, ⟨by decide, by decide⟩, _, rfl, _, _, rfl, rfl, ⟨by decide, by decide⟩, _, _, rfl, rfl, c / 6, 3 + 2 ^ n / 28, ?_, by omega, fun p zs hp hl hz => ?_⟩
    · dsimp only
      rw [List.append_nil, show (3 : Int) + ((2 ^ n : Nat) : Int) / 28 = ((3 + 2 ^ n / 28 : Nat) : Int) by omega]
    refine ⟨_, rfl, _, rfl, p, _, rfl, SqL.of upd_same, fun p2 hp2 => ?_⟩
    have n12 : p ≠ p2 := ne_of_none upd_same hp2
    have s12 : Same H (upd (upd H p (.lst (zs.map V.int))) p2 (.lst (cutV (zs.map V.int) (some 2) none))) := (same_upd hp).trans (same_upd hp2)
    refine ⟨p2, rfl, ⟨_, SqL.of upd_same⟩, ?_⟩
    refine for_list (K := K) (a := p2) (xs := cutV (zs.map V.int) (some 2) none) (fun i σ H' => H' = upd (upd H p (.lst (zs.map V.int))) p2 (.lst (cutV (zs.map V.int) (some 2) none)) ∧ ∃ (m : Nat) (s5 : Option V), m < 2 ^ (28 * i + 2) ∧
      σ = [some (.int c), some (.int (n : Nat)), some (.int ((2 ^ n : Nat) : Int)), some (.ref p), some (.int (m : Nat)), s5, none]) ⟨rfl, 0, none, by decide, rfl⟩ ?_ ?_ ?_
    · rintro i σ H' _ ⟨rfl, _⟩
      exact SqL.of upd_same
    · rintro i y σ H' hy ⟨rfl, m, s5, hm, rfl⟩
      obtain ⟨z, hzm, rfl⟩ := List.mem_map.mp (cut_mem hy)
      obtain ⟨z0, z1⟩ := hz z hzm
      obtain ⟨zn, rfl⟩ : ∃ zn : Nat, z = (zn : Int) := ⟨z.toNat, by omega⟩
      have hi : i < (cutV (zs.map V.int) (some 2) none).length := (List.getElem?_eq_some_iff.mp hy).1
      have hi2 := cutV_length (zs.map V.int) (some 2) none
      rw [List.length_map] at hi2
      refine ⟨_, rfl, _, _, rfl, rfl, ⟨by decide, 28 * i + 2, by rw [Int.natAbs_natCast]; exact hm, by omega⟩, _, rfl, _, _, rfl, rfl, ?_⟩
      have e : Builtin.bitXor ((m : Int) * 2 ^ ((28 : Int)).toNat) (zn : Int) = ((m * 2 ^ 28 ^^^ zn : Nat) : Int) := by
        rw [show (2 : Int) ^ ((28 : Int)).toNat = ((2 ^ 28 : Nat) : Int) from rfl, ← Int.natCast_mul, bitXor_nat]
      dsimp only
      rw [e]
      refine ⟨rfl, _, _, ?_, rfl⟩
      have ep : 2 ^ (28 * (i + 1) + 2) = 2 ^ (28 * i + 2) * 2 ^ 28 := by rw [← Nat.pow_add]; congr 1
      refine Nat.xor_lt_two_pow ?_ ?_
      · rw [ep]; exact Nat.mul_lt_mul_of_pos_right hm (by decide)
      · have : 2 ^ 30 ≤ 2 ^ (28 * (i + 1) + 2) := Nat.pow_le_pow_right (by decide) (by omega)
        omega
    · rintro σ H' ⟨rfl, m, s5, hm, rfl⟩
      have hSp : SqL K (upd (upd H p (.lst (zs.map V.int))) p2 (.lst (cutV (zs.map V.int) (some 2) none))) p (zs.map V.int) := SqL.of (by rw [upd_ne n12]; exact upd_same)
      obtain ⟨z, hz0⟩ : ∃ z, zs[0]? = some z := ⟨zs[0]'(by omega), List.getElem?_eq_getElem (by omega)⟩
      have hat : atI (zs.map V.int) 0 = some (V.int z) := atI_nat (j := 0) (by rw [List.getElem?_map, hz0]; rfl)
      obtain ⟨zp, _⟩ := hz z (List.mem_of_getElem? hz0)
      have hsz : CShl 1 (((2 ^ n : Nat)) : Int) := one_shl h2n
      have hpp := Nat.two_pow_pos (2 ^ n)
      have fin : ∀ (m : Nat) H', Same H H' → Q (.int ((m : Int) % (1 * 2 ^ (((2 ^ n : Nat) : Int)).toNat))) H' := fun m H' hs => by
        rw [e00, ← Int.natCast_emod]
        exact k _ _ (Nat.mod_lt _ hpp) hs
      have tn : ∃ t : Nat, z % ((2 ^ n : Nat) : Int) = (t : Int) ∧ t < 2 ^ n := ⟨(z % ((2 ^ n : Nat) : Int)).toNat, by
        have := Int.emod_nonneg z (show ((2 ^ n : Nat) : Int) ≠ 0 by omega)
        omega, by
        have := Int.emod_nonneg z (show ((2 ^ n : Nat) : Int) ≠ 0 by omega)
        have := Int.emod_lt_of_pos z (show (0 : Int) < ((2 ^ n : Nat) : Int) by omega)
        omega⟩
      obtain ⟨t, ht, htn⟩ := tn
      have e1 : (1 : Int) * 2 ^ ((t : Int)).toNat = ((2 ^ t : Nat) : Int) := by rw [pow2, Int.toNat_natCast]; omega
      have ht2 : 2 ^ t < 2 ^ 2 ^ n := Nat.pow_lt_pow_right (by decide) htn
      have c6 : (0 : Int) < 6 := by decide
      refine ⟨_, rfl, _, _, rfl, rfl, c6, rfl, _, rfl, ?_⟩
      refine ite2 (fun _ => ?_) (fun _ => ?_)
      · refine ⟨_, rfl, _, _, rfl, rfl, hsz, _, _, rfl, rfl, (show 2 ≤ sizeLine by decide), fun p3 hp3 => ?_⟩
        have n13 : p ≠ p3 := fun z => by rw [← z, upd_ne n12, upd_same] at hp3; cases hp3
        have s3 := s12.trans (same_upd (o := .lst [.int 0, .int (1 * 2 ^ (((2 ^ n : Nat) : Int)).toNat - 1)]) hp3)
        have hSp3 := (same_upd (o := .lst [.int 0, .int (1 * 2 ^ (((2 ^ n : Nat) : Int)).toNat - 1)]) hp3).seq hSp
        refine ⟨_, rfl, p, _, _, _, rfl, rfl, hSp3, hat, _, _, rfl, rfl, (by show (0 : Int) < 2; decide), ?_⟩
        rcases (show z % 2 = 0 ∨ z % 2 = 1 by omega) with h | h
        · refine ⟨p3, _, _, .int 0, rfl, rfl, SqL.of upd_same, by rw [h]; rfl, ?_⟩
          exact k 0 _ hpp s3
        · refine ⟨p3, _, _, .int (1 * 2 ^ (((2 ^ n : Nat) : Int)).toNat - 1), rfl, rfl, SqL.of upd_same, by rw [h]; rfl, ?_⟩
          have e : (1 : Int) * 2 ^ (((2 ^ n : Nat) : Int)).toNat - 1 = ((2 ^ 2 ^ n - 1 : Nat) : Int) := by rw [e00]; omega
          rw [e]
          exact k _ _ (by omega) s3
      · refine ⟨_, rfl, _, _, rfl, rfl, c6, rfl, _, rfl, ?_⟩
        refine ite2 (fun _ => ?_) (fun _ => ?_)
        · refine ⟨_, rfl, p, _, _, _, rfl, rfl, hSp, hat, _, rfl, _, _, rfl, rfl, (by show (0 : Int) < ((2 ^ n : Nat) : Int); omega), _, _, rfl, rfl, ?_, ?_⟩
          · rw [ht]; exact one_shl (by omega)
          · dsimp only
            rw [ht, e1]
            exact k _ _ ht2 s12
        · refine ⟨_, rfl, _, _, rfl, rfl, c6, rfl, _, rfl, ?_⟩
          refine ite2 (fun _ => ?_) (fun _ => ?_)
          · refine ⟨_, rfl, _, _, rfl, rfl, hsz, _, _, rfl, rfl, _, rfl, p, _, _, _, rfl, rfl, hSp, hat, _, rfl, _, _, rfl, rfl, (by show (0 : Int) < ((2 ^ n : Nat) : Int); omega), _, _, rfl, rfl, ?_, _, _, rfl, rfl, ?_⟩
            · rw [ht]; exact one_shl (by omega)
            · dsimp only
              rw [ht, e1, e00]
              have e : ((2 ^ 2 ^ n : Nat) : Int) - 1 = ((2 ^ 2 ^ n - 1 : Nat) : Int) := by omega
              rw [e, bitXor_nat]
              exact k _ _ (Nat.xor_lt_two_pow (by omega) ht2) s12
          · refine ⟨_, rfl, _, _, rfl, rfl, c6, rfl, _, rfl, ?_⟩
            refine ite2 (fun _ => ?_) (fun _ => ?_)
            · have tj : ∃ j : Nat, z % ((n : Int) + 1) = (j : Int) ∧ j ≤ n := ⟨(z % ((n : Int) + 1)).toNat, by
                have := Int.emod_nonneg z (show (n : Int) + 1 ≠ 0 by omega)
                omega, by
                have := Int.emod_nonneg z (show (n : Int) + 1 ≠ 0 by omega)
                have := Int.emod_lt_of_pos z (show (0 : Int) < (n : Int) + 1 by omega)
                omega⟩
              obtain ⟨j, hj, hjn⟩ := tj
              have ej : (1 : Int) * 2 ^ ((j : Int)).toNat = ((2 ^ j : Nat) : Int) := by rw [pow2, Int.toNat_natCast]; omega
              refine ⟨_, rfl, p, _, _, _, rfl, rfl, hSp, hat, _, rfl, _, _, rfl, rfl, _, _, rfl, rfl, (by show (0 : Int) < (n : Int) + 1; omega), _, _, rfl, rfl, ?_, ?_⟩
              · rw [hj]; exact one_shl (by omega)
              dsimp only
              rw [hj, ej]
              have h2j : 2 ^ j ≤ 1024 := two_le (by omega)
              have hpj := Nat.two_pow_pos (2 ^ j)
              refine ⟨_, rfl, _, rfl, _, _, rfl, rfl, one_shl h2j, _, _, rfl, rfl, ?_, ?_⟩
              · rw [Int.toNat_natCast, pow2]; omega
              have em : (m : Int) % (1 * 2 ^ (((2 ^ j : Nat) : Int)).toNat) = ((m % 2 ^ 2 ^ j : Nat) : Int) := by rw [Int.toNat_natCast, pow2, Int.one_mul, ← Int.natCast_emod]
              dsimp only
              rw [em]
              refine while_by (fun σ H' => H' = upd (upd H p (.lst (zs.map V.int))) p2 (.lst (cutV (zs.map V.int) (some 2) none)) ∧ ∃ (i m : Nat), i ≤ n ∧ m < 2 ^ 2 ^ i ∧
                σ = [some (.int c), some (.int (n : Nat)), some (.int ((2 ^ n : Nat) : Int)), some (.ref p), some (.int (m : Nat)), s5, some (.int ((2 ^ i : Nat) : Int))])
                (fun (σ : St) (_ : Hp) => match σ[6]? with | some (some (V.int q)) => 2 ^ n - q.toNat | _ => 0) ⟨rfl, j, _, hjn, Nat.mod_lt _ hpj, rfl⟩ ?_ ?_
              · rintro σ H' ⟨rfl, i, m', hi, hm', rfl⟩
                refine ⟨_, rfl, _, rfl, _, _, rfl, rfl, _, rfl, ?_⟩
                refine ite2 (fun hlt => ?_) (fun hge => ?_)
                · have hlt : ((2 ^ i : Nat) : Int) < ((2 ^ n : Nat) : Int) := of_decide_eq_true hlt
                  have hlt2 : 2 ^ i < 2 ^ n := Int.ofNat_lt.mp hlt
                  have hin : i < n := (Nat.pow_lt_pow_iff_right (by decide)).mp hlt2
                  have h2i : 2 ^ i ≤ 1024 := two_le (by omega)
                  refine ⟨_, rfl, _, rfl, _, rfl, _, _, rfl, rfl, cshl hm' (by omega), _, _, rfl, rfl, ?_⟩
                  have e : Builtin.bitOr (m' : Int) ((m' : Int) * 2 ^ (((2 ^ i : Nat) : Int)).toNat) = ((m' ||| m' * 2 ^ 2 ^ i : Nat) : Int) := by
                    rw [Int.toNat_natCast, pow2, ← Int.natCast_mul, bitOr_nat]
                  dsimp only
                  rw [e]
                  refine ⟨_, rfl, _, rfl, _, _, rfl, rfl, ?_⟩
                  have e3 : ((2 ^ i : Nat) : Int) + ((2 ^ i : Nat) : Int) = ((2 ^ (i + 1) : Nat) : Int) := by rw [Nat.pow_succ]; omega
                  dsimp only
                  rw [e3]
                  have hpi := Nat.two_pow_pos i
                  refine ⟨⟨rfl, i + 1, _, by omega, ?_, rfl⟩, ?_⟩
                  · have e4 : 2 ^ 2 ^ (i + 1) = 2 ^ 2 ^ i * 2 ^ 2 ^ i := by rw [← Nat.pow_add]; congr 1; rw [Nat.pow_succ]; omega
                    refine Nat.or_lt_two_pow ?_ ?_
                    · rw [e4]
                      exact Nat.lt_of_lt_of_le hm' (Nat.le_mul_of_pos_right _ (Nat.two_pow_pos _))
                    · rw [e4]; exact Nat.mul_lt_mul_of_pos_right hm' (Nat.two_pow_pos _)
                  · show 2 ^ n - (((2 ^ (i + 1) : Nat) : Int)).toNat < 2 ^ n - (((2 ^ i : Nat) : Int)).toNat
                    rw [Int.toNat_natCast, Int.toNat_natCast, Nat.pow_succ]
                    omega
                · refine ⟨_, rfl, _, rfl, _, _, rfl, rfl, hsz, _, _, rfl, rfl, ?_, ?_⟩
                  · rw [e00]; omega
                  · exact fin m' _ s12
              · rintro σ H' Q1 Q2 hq ⟨v, h1, u, h2, i, j, e1, e2, b, eb, qq⟩
                exact ⟨v, h1, u, h2, i, j, e1, e2, b, eb, hq _ _ qq⟩
            · refine ⟨_, rfl, _, rfl, _, _, rfl, rfl, hsz, _, _, rfl, rfl, ?_, ?_⟩
              · rw [e00]; omega
              · exact fin m _ s12
/-- tuples of a word and a mask -/
def TupL (H : Hp) (ts : List Addr) (r : List (Str × Nat)) : Prop := ts.length = r.length ∧ ∀ (i : Nat) (t : Addr) (w : Str × Nat), ts[i]? = some t → r[i]? = some w → H t = some (.tup [.str w.1, .int ((w.2 : Nat) : Int)])
theorem TupL.nil (H : Hp) : TupL H [] [] := ⟨rfl, fun i t w h => by simp at h⟩
theorem TupL.same {H H' : Hp} {ts : List Addr} {r : List (Str × Nat)} (h : TupL H ts r) (s : Same H H') : TupL H' ts r := ⟨h.1, fun i t w a b => s _ _ (h.2 i t w a b)⟩
theorem TupL.lst {H : Hp} {ts : List Addr} {r : List (Str × Nat)} {l : Addr} {xs ys : List V} (h : TupL H ts r) (hl : H l = some (.lst xs)) : TupL (upd H l (.lst ys)) ts r :=
  ⟨h.1, fun i t w a b => by rw [upd_ne (ne_of (h.2 i t w a b) hl (by intro z; cases z))]; exact h.2 i t w a b⟩
theorem TupL.snoc {H : Hp} {ts : List Addr} {r : List (Str × Nat)} {t : Addr} {w : Str × Nat} (h : TupL H ts r) (ht : H t = some (.tup [.str w.1, .int ((w.2 : Nat) : Int)])) : TupL H (ts ++ [t]) (r ++ [w]) := by
  refine ⟨by simp [h.1], fun i u q h1 h2 => ?_⟩
  have hl := h.1
  by_cases hi : i < ts.length
  · rw [List.getElem?_append_left hi] at h1
    rw [List.getElem?_append_left (by omega)] at h2
    exact h.2 i u q h1 h2
  · rw [List.getElem?_append_right (by omega)] at h1
    rw [List.getElem?_append_right (by omega)] at h2
    have hi0 : i - ts.length = 0 := by
      cases hh : i - ts.length with
      | zero => rfl
      | succ m => rw [hh] at h1; simp at h1
    rw [← hl, hi0] at h2
    rw [hi0] at h1
    have e1 : t = u := by simpa using h1
    have e2 : w = q := by simpa using h2
    subst e1; subst e2
    exact ht
def RowAt (H : Hp) (l : Addr) (r : List (Str × Nat)) : Prop := ∃ ts : List Addr, H l = some (.lst (ts.map V.ref)) ∧ TupL H ts r
theorem RowAt.same {H H' : Hp} {l : Addr} {r : List (Str × Nat)} (h : RowAt H l r) (s : Same H H') : RowAt H' l r := let ⟨ts, a, b⟩ := h; ⟨ts, s _ _ a, b.same s⟩
def cutR (s : Nat) (r : List (Str × Nat)) : List Str := (r.filter fun w => w.2.testBit s).map (·.1)
def spCutR : Sp := fun vs H Q _ => ∃ (l : Addr) (r : List (Str × Nat)) (s : Nat), vs = [.ref l, .int s] ∧ RowAt H l r ∧ r.length ≤ 1000 ∧ ∀ p, H p = none → Q (.ref p) (upd H p (.lst ((cutR s r).map V.str)))
abbrev N_cut_row : List Str := ["row", "s"]
theorem sc_cut_row : FnScope N_cut_row ["row", "s"] (defScope st_cut_row) := ⟨rfl, rfl, rfl, by decide +kernel, rfl, by decide +kernel, by decide +kernel⟩
theorem ok_cutr (T : All P w K mg AA DD) : FnOk P w K mg base CX0 2 AA.cut_row DD.cut_row ["row", "s"] spCutR := by
  have GH := ok_has (base := base) T
  refine T.F_cut_row.ok sc_cut_row (fun vs H Q E h => ?_) (fun cdv A outer s H vs Q E hr h => ?_)
  · obtain ⟨l, r, s, rfl, _⟩ := h
    rfl
  · obtain ⟨l, r, s, rfl, ⟨ts, hts, htl⟩, hrl, k⟩ := h
    have hr1 : Room 1 _ := hr.mono (by decide)
    refine ⟨_, (@pss_one _ _ _ (@ps_ret _ _ _ _ (pe_comp2 (xs := ["word", "mask"]) (defScope st_cut_row) N_cut_row ["s"] [1] rfl (by exact ⟨rfl, rfl, by decide +kernel, by decide +kernel, by decide +kernel, by decide +kernel, by decide +kernel, rfl, by decide +kernel⟩) rfl rfl (pi_list (pv 0)) (fun _ _ _ _ => (pg_tupK (K := K) (n := 2) rfl rfl (pgs_cons (pg_name (i := 0) (show (["word", "mask", "s"] : List Str).Nodup by decide +kernel) rfl (Or.inl rfl)) (pgs_cons (pg_name (i := 1) (show (["word", "mask", "s"] : List Str).Nodup by decide +kernel) rfl (Or.inl rfl)) pgs_nil)))) (fun _ _ _ _ => pif_one (pt_val (pe_call GH hr1 rfl T.m_has T.k_has T.b_has .nil pass0 (pa_cons (pv 1) (pa_cons (pv 2) pa_nil))))) (fun _ _ _ _ => (pv 0))))), ?_⟩
    have h1 := htl.1
    refine ⟨_, rfl, l, rfl, ⟨_, SqL.of hts⟩, ?_⟩
    refine comp2_list (K := K) (a := l) (xs := ts.map V.ref) (fun i ys H' => H' = H ∧ i ≤ 1000 ∧ ys = (cutR s (r.take i)).map V.str) ⟨rfl, Nat.zero_le _, rfl⟩ (fun i ys H' _ ⟨e, _⟩ => by rw [e]; exact SqL.of hts) ?_ ?_
    · rintro i x ys H1 hx ⟨rfl, _, rfl⟩
      have hi : i < ts.length := by
        have := (List.getElem?_eq_some_iff.mp hx).1
        rw [List.length_map] at this; exact this
      have hir : i < r.length := by omega
      have ex : x = V.ref ts[i] := by rw [List.getElem?_map, List.getElem?_eq_getElem hi] at hx; exact (Option.some.inj hx).symm
      subst ex
      have htu := htl.2 i ts[i] r[i] (List.getElem?_eq_getElem hi) (List.getElem?_eq_getElem hir)
      intro os hos
      obtain ⟨a, b, rfl⟩ : ∃ a b, os = [a, b] := by
        match os, hos with
        | [a, b], _ => exact ⟨a, b, rfl⟩
      refine ⟨ts[i], _, rfl, SqT.of htu, rfl, _, _, rfl, _, _, rfl, rfl, ⟨[_, _], rfl, rfl⟩, ?_⟩
      refine ⟨_, rfl, _, rfl, r[i].2, s, rfl, _, rfl, ?_⟩
      have hl : ((cutR s (r.take i)).map V.str).length < sizeLine := by
        have := List.length_filter_le (fun w : Str × Nat => w.2.testBit s) (r.take i)
        rw [List.length_take] at this
        rw [List.length_map, cutR, List.length_map]
        exact small5k (by omega)
      have et : cutR s (r.take (i + 1)) = if r[i].2.testBit s = true then cutR s (r.take i) ++ [r[i].1] else cutR s (r.take i) := by
        rw [List.take_succ_eq_append_getElem hir]
        unfold cutR
        rw [List.filter_append]
        cases hb : r[i].2.testBit s <;> simp [hb]
      cases hb : r[i].2.testBit s with
      | true =>
        refine iteT ?_
        refine ⟨_, rfl, hl, rfl, by omega, ?_⟩
        rw [et, if_pos hb, List.map_append]
        rfl
      | false =>
        refine iteF ?_
        exact ⟨rfl, by omega, by rw [et, if_neg (by simp [hb])]⟩
    · rintro ys H1 ⟨rfl, _, rfl⟩ p hp
      rw [List.length_map, h1, List.take_length]
      exact k p hp
/-! TooMany.__init__ -/
def spXInit_TooMany (C : Addr) : Sp := fun vs H Q _ => ∃ (e tt : Addr) (v : V), vs = [.ref e, v] ∧ H e = some (excN e C tt none) ∧ ∀ dx, H dx = none → dx ≠ e → Q .non (upd (upd H e (excN e C tt (some dx))) dx (xdO dx [("at", v)]))
abbrev N_TooMany_init : List Str := ["self", "at"]
theorem sc_TooMany_init : FnScope N_TooMany_init ["self", "at"] (defScope st_TooMany_init) := ⟨rfl, rfl, rfl, by decide +kernel, rfl, by decide +kernel, by decide +kernel⟩
theorem ok_TooMany_init (T : All P w K mg AA DD) : FnOk P w K mg base CX0 1 AA.TooMany_init DD.TooMany_init ["self", "at"] (spXInit_TooMany AA.x_TooMany) := by
  refine T.F_TooMany_init.ok sc_TooMany_init (fun vs H Q E h => ?_) (fun cdv A outer s H vs Q E hr h => ?_)
  · obtain ⟨e, tt, v, rfl, _⟩ := h
    rfl
  · obtain ⟨e, tt, v, rfl, he, k⟩ := h
    refine ⟨_, (@pss_one _ _ _ (ps_xfld (body_cx.wish _) (pv 0) (pv 1))), ?_⟩
    exact ⟨v, rfl, _, rfl, e, AA.x_TooMany, tt, rfl, T.ic_TooMany, T.na_TooMany_at, .inl ⟨he, k⟩⟩
/-- raise TooMany(v): what is wanted of E -/
theorem raise_TooMany {C : Addr} {E : XK} {H : Hp} {v : V} (h : ∀ dx H', Same H H' → H' dx = some (xdO dx [("at", v)]) → E (.ref C) (some dx) H') (e tt : Addr) (he : H e = none) :
    spXInit_TooMany C [.ref e, v] (upd H e (excN e C tt none)) (fun x H2 => x = .non ∧ ∃ dd, H2 e = some (excN e C tt dd) ∧ E (.ref C) dd (del H2 e)) E0 := by
  refine ⟨e, tt, v, rfl, upd_same, fun dx hd ne => ⟨rfl, some dx, by rw [upd_ne ne.symm, upd_same], h dx _ (fun b u q => ?_) (by rw [del_ne ne, upd_same])⟩⟩
  have hb : b ≠ e := ne_of_none q he
  have hbd : b ≠ dx := ne_of_none (show upd H e _ b = some u by rw [upd_ne hb]; exact q) hd
  rw [del_ne hb, upd_ne hbd, upd_ne hb, upd_ne hb]
  exact q
end
section
variable {P : Program} {w : World} {K : PySem.W.Frag} {mg : Str → Option Value} {base : Heap} {AA : Adr} {DD : Fds}
/-! variants -/
structure VarAt (H : Hp) (p : Addr) (m : List WK) : Prop where
  ex : ∃ ts : List Addr, H p = some (.lst (ts.map V.ref)) ∧ ts.length = m.length ∧ ∀ (i : Nat) (t : Addr) (q : WK), ts[i]? = some t → m[i]? = some q → ∃ b, H t = some (.tup [.int ((q.2 : Nat) : Int), .ref b]) ∧ H b = some (.tup (q.1.map V.str))
theorem VarAt.same {H H' : Hp} {p : Addr} {m : List WK} (h : VarAt H p m) (s : Same H H') : VarAt H' p m := by
  obtain ⟨ts, h1, h2, h3⟩ := h.ex
  exact ⟨ts, s _ _ h1, h2, fun i t q a b => let ⟨c, x, y⟩ := h3 i t q a b; ⟨c, s _ _ x, s _ _ y⟩⟩
def varsOf (r : List (Str × Nat)) (m : Nat) : List WK := vrun (fun s => cutR s r) (insd m)
def spVar (C : Addr) : Sp := fun vs H Q E => ∃ (l : Addr) (r : List (Str × Nat)) (m : Nat) (x : V), vs = [.ref l, .int m, x] ∧ RowAt H l r ∧ r.length ≤ 1000 ∧ m < 2 ^ 1024 ∧
  ((varsOf r m).length ≤ 16 → ∀ p H', H p = none → Same H H' → VarAt H' p (varsOf r m) → Q (.ref p) H') ∧ (16 < (varsOf r m).length → ErrAt E C x H)
abbrev N_variants : List Str := ["row", "mask", "at", "found", "s", "words"]
theorem sc_variants : FnScope N_variants ["row", "mask", "at"] (defScope st_variants) := ⟨rfl, rfl, rfl, by decide +kernel, rfl, by decide +kernel, by decide +kernel⟩
theorem ok_variants (T : All P w K mg AA DD) : FnOk P w K mg base (CX2 (fun _ => True) P w) 3 AA.variants DD.variants ["row", "mask", "at"] (spVar AA.x_TooMany) := by
  have GT := ok_settings (base := base) T
  have GC := ok_cutr (base := base) T
  have GI := ok_TooMany_init (base := base) T
  obtain ⟨t0, FD, _, _⟩ := T.F_variants
  refine FD.ok2 sc_variants (fun vs H Q E h => ?_) (fun cdv A outer s H vs Q E hr h => ?_)
  · obtain ⟨l, r, m, x, rfl, _⟩ := h
    rfl
  · obtain ⟨l, r, m, x, rfl, hR, hrl, hm, kq, kx⟩ := h
    have nd := sc_variants.nd
    have hu := hu_of hr
    have hr2 : Room 2 _ := hr
    obtain ⟨tM, hMOST_VARIANTS⟩ := T.v_MOST_VARIANTS
    refine ⟨_, (@pss_cons _ _ _ _ _ (@ps_set _ _ 3 _ _ _ _ nd rfl (Or.inr rfl) (pe_dnewT) (by rfl) (by first | exact .inl rfl | exact .inr rfl | assumption)) (@pss_cons _ _ _ _ _ (@ps_for _ _ _ _ _ _ _ _ PassesOwn.leaving rfl (pi_list (pe_call GT hr2 rfl T.m_settings T.k_settings T.b_settings .nil pass0 (@pa_cons _ _ _ _ _ (pv 1) pa_nil (by rfl)))) (pg_name (i := 4) nd rfl (Or.inl rfl)) (@pss_cons _ _ _ _ _ (@ps_set _ _ 5 _ _ _ _ nd rfl (Or.inl rfl) (pe_callTy call_tuple_of rfl T.n_tuple bt_tuple (@pa_cons _ _ _ _ _ (pe_call GC hr2 rfl T.m_cut_row T.k_cut_row T.b_cut_row .nil pass0 (@pa_cons _ _ _ _ _ (pv 0) (@pa_cons _ _ _ _ _ (pv 4) pa_nil (by rfl)) (by rfl))) pa_nil (by rfl))) (by rfl) (by first | exact .inl rfl | exact .inr rfl | assumption)) (@pss_cons _ _ _ _ _ (ps_dput hu (pv 3) (pv 5) (@pe_op _ _ _ _ _ _ _ _ op_or (pe_dget2 hu (pv 3) (pv 5) pe_int ⟨by rfl, by rfl, by rfl, by rfl⟩) (@pe_op _ _ _ _ _ _ _ _ op_shlB pe_int (pv 4))) rfl) (@pss_one _ _ _ (@ps_if _ _ _ _ _ _ _ _ (@pt_cmpR _ _ _ _ _ _ _ _ op_gt (pe_callB call_lenT rfl T.n_len bt_len (@pa_cons _ _ _ _ _ (pv 3) pa_nil (by rfl))) (pe_glob (v := .int 16) rfl hMOST_VARIANTS ⟨_, rfl⟩) (nomark _)) (@pss_one _ _ _ (ps_raiseI body_cx (raise2 trivial) rfl rfl T.m_TooMany T.M_TooMany PySem.F.excBase_ValueError GI hr2 T.b_TooMany_init (@pa_cons _ _ _ _ _ (pv 2) pa_nil (by rfl)))) pss_nil)))) (by intro _; rfl)) (@pss_one _ _ _ (@ps_ret _ _ _ _ (pe_comp (defScope st_variants) N_variants ["found"] [3] rfl (by exact ⟨rfl, rfl, by decide +kernel, rfl, by decide +kernel, by decide +kernel, by decide +kernel, rfl, by decide +kernel⟩) rfl rfl (pi_dkey (pv 3)) (fun _ _ _ _ => pif_nil) (fun _ _ _ _ => (@pe_tup _ _ _ _ _ (@pa_cons _ _ _ _ _ (pe_dget hu (pv 1) (pv 0) (fun _ _ => rfl)) (@pa_cons _ _ _ _ _ (pv 0) pa_nil (by rfl)) (by rfl))))))))), ?_⟩
    have hb : bl m ≤ 1024 := bl_le hm
    have hil : (insd m).length ≤ 1024 := Nat.le_trans (sets_len m (bl m)) hb
    have hpw : (insd m).Pairwise (· < ·) := sets_pw m (bl m)
    refine fun pf hpf => ?_
    dsimp only [gName]
    refine cut_for (fun σ' H' => Same H H' ∧ (varsOf r m).length ≤ 16 ∧ ∃ s4 s5 : Option V, H' pf = some (.dT (kvOf (varsOf r m))) ∧ σ' = [some (.ref l), some (.int (m : Nat)), some x, some (.ref pf), s4, s5]) (fun R hRR => ?_) ?_
    · refine ⟨_, rfl, m, rfl, hm, fun ps hps => ?_⟩
      rw [show setsOf m (bl m) = insd m from rfl]
      have nps : pf ≠ ps := ne_of_none upd_same hps
      refine ⟨ps, rfl, ⟨_, SqL.of upd_same⟩, ?_⟩
      refine for_list (K := K) (a := ps) (xs := (asInts (insd m)).map V.int) (fun i σ' H' => Same H H' ∧ H' ps = some (.lst ((asInts (insd m)).map V.int)) ∧ i ≤ 1024 ∧ (vrun (fun s => cutR s r) ((insd m).take i)).length ≤ 16 ∧
          ∃ s4 s5 : Option V, H' pf = some (.dT (kvOf (vrun (fun s => cutR s r) ((insd m).take i)))) ∧ σ' = [some (.ref l), some (.int (m : Nat)), some x, some (.ref pf), s4, s5])
        ⟨(same_upd hpf).trans (same_upd hps), upd_same, Nat.zero_le _, by simp [vrun], none, none, by rw [upd_ne nps, upd_same]; rfl, rfl⟩ (fun i σ' H' _ ⟨_, e, _⟩ => SqL.of e) ?_ ?_
      · rintro i y σ' H1 hy ⟨sm, hps1, _, hle, s4, s5, hF, rfl⟩
        have hi : i < (insd m).length := by
          have := (List.getElem?_eq_some_iff.mp hy).1
          simpa [asInts] using this
        have ey : y = V.int (((insd m)[i] : Nat) : Int) := by
          rw [List.getElem?_map, asInts, List.getElem?_map, List.getElem?_eq_getElem hi] at hy
          exact (Option.some.inj hy).symm
        subst ey
        have hst : (insd m)[i] < 1024 := Nat.lt_of_lt_of_le (sets_lt (List.getElem_mem hi : (insd m)[i] ∈ setsOf m (bl m))) hb
        have evs : vrun (fun s => cutR s r) ((insd m).take (i + 1)) = vstep (fun s => cutR s r) (vrun (fun s => cutR s r) ((insd m).take i)) (insd m)[i] := by rw [List.take_succ_eq_append_getElem hi, vrun_snoc]
        generalize (insd m)[i] = t at hst evs
        generalize vrun (fun s => cutR s r) ((insd m).take i) = M at hF hle evs
        refine ⟨_, rfl, _, rfl, l, r, t, rfl, hR.same sm, hrl, fun pl hpl => ?_⟩
        refine ⟨pl, _, rfl, .inl ⟨SqL.of upd_same, fun pw hpw => ?_⟩⟩
        dsimp only [gName]
        have s2 := (same_upd (o := .lst ((cutR t r).map V.str)) hpl).trans (same_upd (o := .tup ((cutR t r).map V.str)) hpw)
        have hF2 := s2 _ _ hF
        have hps2 := s2 _ _ hps1
        have hW : upd (upd H1 pl (.lst ((cutR t r).map V.str))) pw (.tup ((cutR t r).map V.str)) pw = some (.tup ((kOf (cutR t r)).map kV)) := by rw [upd_same, kOf_kV]
        have sm2 := sm.trans s2
        generalize upd (upd H1 pl (.lst ((cutR t r).map V.str))) pw (.tup ((cutR t r).map V.str)) = H2 at hF2 hps2 hW sm2 ⊢
        refine ⟨_, rfl, pf, rfl, .inr ⟨_, .inl hF2⟩, _, rfl, _, DGet.t hF2 hW, ?_⟩
        rw [get_kv]
        refine ⟨_, rfl, _, _, rfl, rfl, one_shl (by omega), _, _, rfl, rfl, ?_⟩
        dsimp only
        rw [shl_n, bitOr_nat]
        refine ⟨_, rfl, _, rfl, pf, _, rfl, DPut.t hF2 hW (by show (kvOf M).length < sizeLine; rw [show (kvOf M).length = M.length from List.length_map ..]; exact small1000 (by omega)), ?_⟩
        rw [put_kv, show putM M (cutR t r) (getM M (cutR t r) ||| 2 ^ t) = vstep (fun s => cutR s r) M t from rfl, ← evs]
        have sm3 : Same H (upd H2 pf (.dT (kvOf (vrun (fun s => cutR s r) ((insd m).take (i + 1)))))) := fun b u e => by rw [upd_ne (ne_of_none e hpf)]; exact sm2 b u e
        refine ⟨_, rfl, pf, _, rfl, upd_same, _, _, rfl, rfl, _, rfl, ?_⟩
        rw [show (kvOf (vrun (fun s => cutR s r) ((insd m).take (i + 1)))).length = (vrun (fun s => cutR s r) ((insd m).take (i + 1))).length from List.length_map ..]
        by_cases h16 : 16 < (vrun (fun s => cutR s r) ((insd m).take (i + 1))).length
        · rw [decide_eq_true (by omega)]
          refine iteT ?_
          have hx := kx (Nat.lt_of_lt_of_le h16 (vrun_mono _ _ _))
          exact ⟨_, rfl, (by show 1 ≤ sizeLine; decide), fun e tt he _ _ => raise_TooMany (hx.same sm3) e tt he⟩
        · rw [decide_eq_false (by omega)]
          refine iteF ?_
          exact ⟨sm3, by rw [upd_ne nps.symm]; exact hps2, by omega, by omega, _, _, upd_same, rfl⟩
      · rintro σ' H1 ⟨sm, _, _, hle, s4, s5, hF, rfl⟩
        rw [show ((asInts (insd m)).map V.int).length = (insd m).length by simp [asInts], List.take_length] at hle hF
        exact hRR _ _ ⟨sm, hle, s4, s5, hF, rfl⟩
    rintro σ' H1 ⟨sm, hle, s4, s5, hF, rfl⟩
    have vi : VI (fun s => cutR s r) (insd m) (varsOf r m) := vi_all hpw
    have k := kq hle
    generalize varsOf r m = M at hF hle vi k
    refine ⟨_, rfl, pf, _, rfl, hF, fun od => ?_⟩
    have sm2 : Same H (upd H1 pf (.frz od (.dT (kvOf M)))) := fun b u e => by rw [upd_ne (ne_of_none e hpf)]; exact sm b u e
    have hFz : upd H1 pf (.frz od (.dT (kvOf M))) pf = some (.frz od (.dT (kvOf M))) := upd_same
    generalize upd H1 pf (.frz od (.dT (kvOf M))) = H2 at sm2 hFz
    refine comp_dkey (d := pf) (od := od) (kvs := kvOf M) (fun i ys H' => Same H2 H' ∧ i ≤ 16 ∧ ∃ ts : List Addr, ys = ts.map V.ref ∧ ts.length = i ∧ ∀ (j : Nat) (t : Addr) (q : WK), ts[j]? = some t → M[j]? = some q → ∃ b, H' t = some (.tup [.int ((q.2 : Nat) : Int), .ref b]) ∧ H' b = some (.tup (q.1.map V.str)))
      ⟨Same.refl _, Nat.zero_le _, [], rfl, rfl, fun j t q h => by simp at h⟩ (fun i ys H' _ ⟨e, _⟩ => e _ _ hFz) ?_ ?_
    · rintro i kv b ys H3 hk ⟨s3, _, ts, rfl, htl, hts⟩ hbt
      have hi : i < M.length := by
        have := (List.getElem?_eq_some_iff.mp hk).1
        simpa [kvOf] using this
      have ekv : kv = (kOf M[i].1, V.int ((M[i].2 : Nat) : Int)) := by
        rw [kvOf, List.getElem?_map, List.getElem?_eq_getElem hi] at hk
        exact (Option.some.inj hk).symm
      subst ekv
      refine tYes_ok ?_
      rw [if_pos rfl]
      have hv : valV (kvOf M) (kOf M[i].1) = some (V.int ((M[i].2 : Nat) : Int)) := by rw [val_kv, find_at vi.nd (List.getElem_mem hi)]; rfl
      refine ⟨_, rfl, _, rfl, pf, _, rfl, .inr ⟨_, _, b, .inr ⟨od, s3 _ _ hFz⟩, rfl, hbt, hv.symm⟩, _, rfl, (by show 2 ≤ sizeLine; decide), fun t ht => ?_⟩
      have s4' := same_upd (o := .tup [.int ((M[i].2 : Nat) : Int), .ref b]) ht
      refine ⟨by rw [List.length_map]; exact small1000 (by omega), s3.trans s4', by omega, ts ++ [t], by simp, by simp [htl], fun j t' q e1 e2 => ?_⟩
      by_cases hj : j < ts.length
      · rw [List.getElem?_append_left hj] at e1
        obtain ⟨c, h1, h2⟩ := hts j t' q e1 e2
        exact ⟨c, s4' _ _ h1, s4' _ _ h2⟩
      · have hjl := (List.getElem?_eq_some_iff.mp e1).1
        rw [List.length_append, List.length_singleton] at hjl
        have ej : j = i := by omega
        subst ej
        rw [List.getElem?_append_right (by omega), htl, Nat.sub_self] at e1
        have et : t = t' := by simpa using e1
        have eq : M[j] = q := by rw [List.getElem?_eq_getElem hi] at e2; exact Option.some.inj e2
        subst et eq
        exact ⟨b, upd_same, s4' _ _ (by rw [← kOf_kV]; exact hbt)⟩
    · rintro ys H3 ⟨s3, _, ts, rfl, htl, hts⟩ p hp
      have s4' := same_upd (o := .lst (ts.map V.ref)) hp
      refine k p _ ?_ ((sm2.trans s3).trans s4') ⟨ts, upd_same, by rw [htl]; simp [kvOf], fun i t q a b => ?_⟩
      · cases e : H p with
        | none => rfl
        | some o => rw [(sm2.trans s3) _ _ e] at hp; cases hp
      · obtain ⟨c, h1, h2⟩ := hts i t q a b
        exact ⟨c, s4' _ _ h1, s4' _ _ h2⟩
end
section
variable {P : Program} {w : World} {K : PySem.W.Frag} {mg : Str → Option Value} {base : Heap} {AA : Adr} {DD : Fds}
/-! the law's own words and walk -/
theorem odd_val (m s : Nat) : decide (V.int ((m : Int) / 2 ^ ((s : Int)).toNat % 2) = V.int 1) = m.testBit s := by
  rw [dec_int, shr_nat, testBit_mod]
  by_cases h : m / 2 ^ s % 2 = 1
  · rw [show ((m / 2 ^ s : Nat) : Int) % 2 = ((m / 2 ^ s % 2 : Nat) : Int) from rfl, h]; rfl
  · have h0 : m / 2 ^ s % 2 = 0 := by omega
    rw [show ((m / 2 ^ s : Nat) : Int) % 2 = ((m / 2 ^ s % 2 : Nat) : Int) from rfl, h0]; rfl
def spLWords : Sp := fun vs H Q _ => ∃ (l : Addr) (r : List (Str × Nat)) (s : Nat), vs = [.ref l, .int s] ∧ RowAt H l r ∧ r.length ≤ 1000 ∧ ∀ p H', H p = none → Same H H' → H' p = some (.tup ((cutR s r).map V.str)) → Q (.ref p) H'
abbrev N_law_words : List Str := ["_law_row", "_law_s"]
theorem sc_law_words : FnScope N_law_words ["_law_row", "_law_s"] (defScope st_law_words) := ⟨rfl, rfl, rfl, by decide +kernel, rfl, by decide +kernel, by decide +kernel⟩
theorem ok_lwords (T : All P w K mg AA DD) : FnOk P w K mg base CX0 1 AA.law_words DD.law_words ["_law_row", "_law_s"] spLWords := by
  refine T.F_law_words.ok sc_law_words (fun vs H Q E h => ?_) (fun cdv A outer s H vs Q E hr h => ?_)
  · obtain ⟨l, r, s, rfl, _⟩ := h
    rfl
  · obtain ⟨l, r, s, rfl, ⟨ts, hts, htl⟩, hrl, k⟩ := h
    refine ⟨_, (@pss_one _ _ _ (@ps_ret _ _ _ _ (pe_callTy call_tuple_of rfl T.n_tuple bt_tuple (@pa_cons _ _ _ _ _ (pe_comp2 (xs := ["_law_word", "_law_mask_here"]) (defScope st_law_words) N_law_words ["_law_s"] [1] rfl (by exact ⟨rfl, rfl, by decide +kernel, by decide +kernel, by decide +kernel, by decide +kernel, by decide +kernel, rfl, by decide +kernel⟩) rfl rfl (pi_list (pv 0)) (fun _ _ _ _ => (pg_tupK (K := K) (n := 2) rfl rfl (pgs_cons (pg_name (i := 0) (show (["_law_word", "_law_mask_here", "_law_s"] : List Str).Nodup by decide +kernel) rfl (Or.inl rfl)) (pgs_cons (pg_name (i := 1) (show (["_law_word", "_law_mask_here", "_law_s"] : List Str).Nodup by decide +kernel) rfl (Or.inl rfl)) pgs_nil)))) (fun _ _ _ _ => pif_one (pt_cmpR op_eq (pe_op op_mod (pe_op op_shr (pv 1) (pv 2)) pe_int) pe_int (nomark _))) (fun _ _ _ _ => (pv 0))) pa_nil (by rfl))))), ?_⟩
    have h1 := htl.1
    refine ⟨_, rfl, l, rfl, ⟨_, SqL.of hts⟩, ?_⟩
    refine comp2_list (K := K) (a := l) (xs := ts.map V.ref) (fun i ys H' => H' = H ∧ i ≤ 1000 ∧ ys = (cutR s (r.take i)).map V.str) ⟨rfl, Nat.zero_le _, rfl⟩ (fun i ys H' _ ⟨e, _⟩ => by rw [e]; exact SqL.of hts) ?_ ?_
    · rintro i x ys H1 hx ⟨rfl, _, rfl⟩
      have hi : i < ts.length := by
        have := (List.getElem?_eq_some_iff.mp hx).1
        rw [List.length_map] at this; exact this
      have hir : i < r.length := by omega
      have ex : x = V.ref ts[i] := by rw [List.getElem?_map, List.getElem?_eq_getElem hi] at hx; exact (Option.some.inj hx).symm
      subst ex
      have htu := htl.2 i ts[i] r[i] (List.getElem?_eq_getElem hi) (List.getElem?_eq_getElem hir)
      intro os hos
      obtain ⟨a, b, rfl⟩ : ∃ a b, os = [a, b] := by
        match os, hos with
        | [a, b], _ => exact ⟨a, b, rfl⟩
      refine ⟨ts[i], _, rfl, SqT.of htu, rfl, _, _, rfl, _, _, rfl, rfl, ⟨[_, _], rfl, rfl⟩, ?_⟩
      refine ⟨_, rfl, _, rfl, _, _, rfl, rfl, by omega, _, _, rfl, rfl, (by show (0 : Int) < 2; decide), rfl, _, rfl, ?_⟩
      rw [odd_val]
      have hl : ((cutR s (r.take i)).map V.str).length < sizeLine := by
        have := List.length_filter_le (fun w : Str × Nat => w.2.testBit s) (r.take i)
        rw [List.length_take] at this
        rw [List.length_map, cutR, List.length_map]
        exact small5k (by omega)
      have et : cutR s (r.take (i + 1)) = if r[i].2.testBit s = true then cutR s (r.take i) ++ [r[i].1] else cutR s (r.take i) := by
        rw [List.take_succ_eq_append_getElem hir]
        unfold cutR
        rw [List.filter_append]
        cases hb : r[i].2.testBit s <;> simp [hb]
      cases hb : r[i].2.testBit s with
      | true =>
        refine iteT ?_
        refine ⟨_, rfl, hl, rfl, by omega, ?_⟩
        rw [et, if_pos hb, List.map_append]
        rfl
      | false =>
        refine iteF ?_
        exact ⟨rfl, by omega, by rw [et, if_neg (by simp [hb])]⟩
    · rintro ys H1 ⟨rfl, _, rfl⟩ p hp
      rw [List.length_map, h1, List.take_length]
      refine ⟨p, _, rfl, .inl ⟨SqL.of upd_same, fun q hq => ?_⟩⟩
      refine k q _ ?_ ((same_upd hp).trans (same_upd hq)) upd_same
      cases e : H1 q with
      | none => rfl
      | some o => rw [(same_upd hp) _ _ e] at hq; cases hq
theorem eqv_all_strs : ∀ a b : List Str, PyData.eqvAll (a.map PyData.str) (b.map PyData.str) = decide (a = b)
  | [], [] => rfl
  | [], _ :: _ => by simp [PyData.eqvAll]
  | _ :: _, [] => by simp [PyData.eqvAll]
  | x :: a, y :: b => by
    have ih := eqv_all_strs a b
    simp only [List.map_cons, PyData.eqvAll, PyData.eqv, ih]
    by_cases h1 : x = y <;> by_cases h2 : a = b <;> simp [h1, h2]
def wPD (ws : List Str) : PyData := .tuple (ws.map PyData.str)
theorem eqv_w (a b : List Str) : PyData.eqv (wPD a) (wPD b) = decide (a = b) := by
  unfold wPD
  simp only [PyData.eqv]
  exact eqv_all_strs a b
def W128 (r : List (Str × Nat)) : Prop := ∀ p ∈ r, ∀ c ∈ p.1.cps.toList, c < 128
theorem cut_128 {r : List (Str × Nat)} (h : W128 r) (s : Nat) : ∀ z ∈ cutR s r, ∀ c ∈ z.cps.toList, c < 128 := fun z hz => by
  obtain ⟨p, hp, rfl⟩ := List.mem_map.mp hz
  exact h p (List.mem_filter.mp hp).1
theorem shd_w {ws : List Str} (h : ∀ z ∈ ws, ∀ c ∈ z.cps.toList, c < 128) : Shd 1 (wPD ws) := Shd.tuple fun d hd => by
  obtain ⟨z, hz, rfl⟩ := List.mem_map.mp hd
  exact Shd.str (h z hz)
theorem rdv_w {H : Hp} {b : Addr} {ws : List Str} (h : H b = some (.tup (ws.map V.str))) : Rdv K H (.ref b) (wPD ws) := .tup (SqT.of h) (RdvA.map fun x _ => .str x)
theorem keys_128 {r : List (Str × Nat)} (h : W128 r) {ss : List Nat} {M : List WK} (vi : VI (fun s => cutR s r) ss M) : ∀ p ∈ M, ∀ z ∈ p.1, ∀ c ∈ z.cps.toList, c < 128 := fun p hp => by
  obtain ⟨s, hs⟩ := vi.ex p hp
  have e := ((vi.bit p hp s).mp hs).2
  rw [← e]
  exact cut_128 h s
theorem rdvA_of {H : Hp} : ∀ {xs : List V} {ds : List PyData}, xs.length = ds.length → (∀ (i : Nat) (x : V) (d : PyData), xs[i]? = some x → ds[i]? = some d → Rdv K H x d) → RdvA K H xs ds
  | [], [], _, _ => .nil
  | [], _ :: _, h, _ => by simp at h
  | _ :: _, [], h, _ => by simp at h
  | x :: xs, d :: ds, h, f => .cons (f 0 x d rfl rfl) (rdvA_of (by simpa using h) fun i y e h1 h2 => f (i + 1) y e h1 h2)
/-- tuples of words in a list -/
def WsAt (H : Hp) (pa : Addr) (wss : List (List Str)) : Prop := ∃ bs : List Addr, H pa = some (.lst (bs.map V.ref)) ∧ bs.length = wss.length ∧ ∀ (j : Nat) (b : Addr) (ws : List Str), bs[j]? = some b → wss[j]? = some ws → H b = some (.tup (ws.map V.str))
theorem WsAt.same {H H' : Hp} {pa : Addr} {wss : List (List Str)} (h : WsAt H pa wss) (s : Same H H') : WsAt H' pa wss := by
  obtain ⟨bs, h1, h2, h3⟩ := h
  exact ⟨bs, s _ _ h1, h2, fun j b ws a c => s _ _ (h3 j b ws a c)⟩
theorem WsAt.rdv {H : Hp} {pa : Addr} {wss : List (List Str)} (h : WsAt H pa wss) : Rdv K H (.ref pa) (.list (wss.map wPD)) := by
  obtain ⟨bs, h1, h2, h3⟩ := h
  refine .lst (SqL.of h1) (rdvA_of (by simp [h2]) fun i x d e1 e2 => ?_)
  rw [List.getElem?_map] at e1 e2
  obtain ⟨b, eb, rfl⟩ := Option.map_eq_some_iff.mp e1
  obtain ⟨ws, ew, rfl⟩ := Option.map_eq_some_iff.mp e2
  exact rdv_w (h3 i b ws eb ew)
theorem WsAt.push {H : Hp} {pa b : Addr} {wss : List (List Str)} {ws : List Str} (h : WsAt H pa wss) (hb : H b = some (.tup (ws.map V.str))) : ∃ xs, H pa = some (.lst xs) ∧ xs.length = wss.length ∧ WsAt (upd H pa (.lst (xs ++ [.ref b]))) pa (wss ++ [ws]) := by
  obtain ⟨bs, h1, h2, h3⟩ := h
  have ne : ∀ {x : Addr} {ys : List V}, H x = some (.tup ys) → x ≠ pa := fun hx z => by rw [z, h1] at hx; cases hx
  refine ⟨bs.map V.ref, h1, by simp [h2], bs ++ [b], by rw [upd_same, List.map_append]; rfl, by simp [h2], fun j b' ws' e1 e2 => ?_⟩
  by_cases hj : j < bs.length
  · rw [List.getElem?_append_left hj] at e1
    rw [List.getElem?_append_left (by omega)] at e2
    have := h3 j b' ws' e1 e2
    rw [upd_ne (ne this)]; exact this
  · have hjl := (List.getElem?_eq_some_iff.mp e1).1
    rw [List.length_append, List.length_singleton] at hjl
    have ej : j = bs.length := by omega
    subst ej
    rw [List.getElem?_append_right (Nat.le_refl _), Nat.sub_self] at e1
    rw [h2, List.getElem?_append_right (Nat.le_refl _), Nat.sub_self] at e2
    have q1 : b = b' := by simpa using e1
    have q2 : ws = ws' := by simpa using e2
    subst q1 q2
    rw [upd_ne (ne hb)]; exact hb
theorem shd_wl {wss : List (List Str)} (h : ∀ ws ∈ wss, ∀ z ∈ ws, ∀ c ∈ z.cps.toList, c < 128) : Shd 2 (.list (wss.map wPD)) := Shd.list fun d hd => by
  obtain ⟨ws, hw, rfl⟩ := List.mem_map.mp hd
  exact shd_w (h ws hw)
theorem any_w (wss : List (List Str)) (ws : List Str) : ((wss.map wPD).any fun e => PyData.eqv e (wPD ws)) = decide (ws ∈ wss) := by
  rw [List.any_map]
  by_cases h : ws ∈ wss
  · rw [decide_eq_true h, List.any_eq_true]
    exact ⟨ws, h, by show PyData.eqv (wPD ws) (wPD ws) = true; rw [eqv_w]; simp⟩
  · rw [decide_eq_false h, List.any_eq_false]
    intro x hx
    show ¬ PyData.eqv (wPD x) (wPD ws) = true
    rw [eqv_w, decide_eq_true_eq]
    intro e
    exact h (e ▸ hx)
theorem kit_tt (K : PySem.W.Frag) : PySem.W.kitOne K (.type "tuple") (.type "tuple") = some true := by rfl
theorem kit_ii (K : PySem.W.Frag) : PySem.W.kitOne K (.type "int") (.type "int") = some true := by rfl
def bef (M : List WK) : Nat → Int
  | 0 => -1
  | i + 1 => ((M[i]?).map fun q => ((lst q.2 : Nat) : Int)).getD 0
def spWalk : Sp := fun vs H Q _ => ∃ (p l : Addr) (r : List (Str × Nat)) (m : Nat), vs = [.ref p, .ref l, .int m] ∧ VarAt H p (varsOf r m) ∧ (varsOf r m).length ≤ 16 ∧ RowAt H l r ∧ r.length ≤ 1000 ∧ W128 r ∧ m < 2 ^ 1024 ∧ ∀ H', Same H H' → Q (.bl true) H'
abbrev N_law_walked : List Str := ["_law_found", "_law_row", "_law_asked", "_law_seen", "_law_before", "_law_words_ahead", "_law_part", "_law_mask_here", "_law_inside"]
theorem sc_law_walked : FnScope N_law_walked ["_law_found", "_law_row", "_law_asked"] (defScope st_law_walked) := ⟨rfl, rfl, rfl, by decide +kernel, rfl, by decide +kernel, by decide +kernel⟩
theorem ok_walk (T : All P w K mg AA DD) : FnOk P w K mg base CX0 2 AA.law_walked DD.law_walked ["_law_found", "_law_row", "_law_asked"] spWalk := by
  have GW := ok_lwords (base := base) T
  refine T.F_law_walked.ok sc_law_walked (fun vs H Q E h => ?_) (fun cdv A outer s H vs Q E hr h => ?_)
  · obtain ⟨p, l, r, m, rfl, _⟩ := h
    rfl
  · obtain ⟨p, l, r, m, rfl, hV, hle, hR, hrl, hw, hm, k⟩ := h
    have nd := sc_law_walked.nd
    have hu := hr.units
    have hu65 : _ + 65 < cLine := Nat.lt_of_le_of_lt (Nat.add_le_add_left (show 65 ≤ 16 * 1 + 200 by decide) _) (by have := hr.un; omega)
    have hr1 : Room 1 _ := hr
    refine ⟨_, (@pss_cons _ _ _ _ _ (@ps_set _ _ 3 _ _ _ _ nd rfl (Or.inl rfl) pe_int (by rfl) (by first | exact .inl rfl | exact .inr rfl | assumption)) (@pss_cons _ _ _ _ _ (@ps_set _ _ 4 _ _ _ _ nd rfl (Or.inl rfl) (pe_un un_neg pe_int) (by rfl) (by first | exact .inl rfl | exact .inr rfl | assumption)) (@pss_cons _ _ _ _ _ (@ps_set _ _ 5 _ _ _ _ nd rfl (Or.inl rfl) (@pe_lst _ _ _ _ pa_nil) (by rfl) (by first | exact .inl rfl | exact .inr rfl | assumption)) (@pss_cons _ _ _ _ _ (@ps_for _ _ _ _ _ _ _ _ PassesOwn.never rfl (pi_list (pv 0)) (pg_name (i := 6) nd rfl (Or.inr rfl)) (@pss_cons _ _ _ _ _ (@ps_if _ _ _ _ _ _ _ _ (PW.pt (pw_or (pt_not (pt_val (pe_callB (call_isinst (n := "tuple")) rfl T.n_isinstance bt_isi (@pa_cons _ _ _ _ _ (pv 6) (@pa_cons _ _ _ _ _ (pe_bltn (v := .ty "tuple") rfl T.n_tuple bt_tuple rfl) pa_nil (by rfl)) (by rfl))))) (pw_or (@pt_cmpR _ _ _ _ _ _ _ _ op_ne (pe_callB call_len_seq rfl T.n_len bt_len (@pa_cons _ _ _ _ _ (pv 6) pa_nil (by rfl))) pe_int (nomark _)) (pw_or1 (pt_not (pt_val (pe_callB (call_isinst (n := "tuple")) rfl T.n_isinstance bt_isi (@pa_cons _ _ _ _ _ (@pe_ix _ _ _ _ _ _ _ (ix_tupK (K := K) rfl) (pv 6) pe_int (fun _ _ => rfl)) (@pa_cons _ _ _ _ _ (pe_bltn (v := .ty "tuple") rfl T.n_tuple bt_tuple rfl) pa_nil (by rfl)) (by rfl))))))))) (@pss_one _ _ _ (@ps_ret _ _ _ _ pe_bl)) pss_nil) (@pss_cons _ _ _ _ _ (@ps_set _ _ 7 _ _ _ _ nd rfl (Or.inr rfl) (@pe_ix _ _ _ _ _ _ _ (ix_tupK (K := K) rfl) (pv 6) pe_int (fun _ _ => rfl)) (by rfl) (by first | exact .inl rfl | exact .inr rfl | assumption)) (@pss_cons _ _ _ _ _ (@ps_if _ _ _ _ _ _ _ _ (PW.pt (pw_or (pt_not (pt_val (pe_callB (call_isinst (n := "int")) rfl T.n_isinstance bt_isi (@pa_cons _ _ _ _ _ (pv 7) (@pa_cons _ _ _ _ _ (pe_bltn (v := .ty "int") rfl T.n_int bt_int rfl) pa_nil (by rfl)) (by rfl))))) (pw_or (pt_val (pe_callB (call_isinst (n := "bool")) rfl T.n_isinstance bt_isi (@pa_cons _ _ _ _ _ (pv 7) (@pa_cons _ _ _ _ _ (pe_bltn (v := .ty "bool") rfl T.n_bool bt_bool rfl) pa_nil (by rfl)) (by rfl)))) (pw_or (@pt_cmpR _ _ _ _ _ _ _ _ op_lt (pv 7) pe_int (nomark _)) (pw_or1 (@pt_cmpR _ _ _ _ _ _ _ _ op_ne (@pe_op _ _ _ _ _ _ _ _ op_and (pv 7) (pv 3)) pe_int (nomark _))))))) (@pss_one _ _ _ (@ps_ret _ _ _ _ pe_bl)) pss_nil) (@pss_cons _ _ _ _ _ (ps_setcomp (i := 8) (defScope st_law_walked) N_law_walked ["_law_mask_here"] [7] rfl (by exact ⟨rfl, rfl, by decide +kernel, rfl, by decide +kernel, by decide +kernel, by decide +kernel, rfl, by decide +kernel⟩) rfl rfl (pi_range1 rfl T.n_range (@pa_cons _ _ _ _ _ (pe_bm0 PySem.F.plainAttrs_int PySem.F.slot_int_bit_length PySem.F.type_int_bit_length mt_bitlen (pv 7)) pa_nil (by rfl))) (fun _ _ _ _ => pif_one (pt_cmpR op_eq (pe_op op_mod (pe_op op_shr (pv 1) (pv 0)) pe_int) pe_int (nomark _))) (fun _ _ _ _ => (pv 0)) nd rfl rfl rfl) (@pss_cons _ _ _ _ _ (@ps_if _ _ _ _ _ _ _ _ (PW.pt (pw_or (@pt_cmpR _ _ _ _ _ _ _ _ op_le (@pe_ix _ _ _ _ _ _ _ (ix_listK (K := K) rfl) (pv 8) pe_int (fun _ _ => rfl)) (pv 4) (nomark _)) (pw_or1 (@pt_cmpR _ _ _ _ _ _ _ _ (op_inD (K := K) rfl hu65) (@pe_ix _ _ _ _ _ _ _ (ix_tupK (K := K) rfl) (pv 6) pe_int (fun _ _ => rfl)) (pv 5) rfl)))) (@pss_one _ _ _ (@ps_ret _ _ _ _ pe_bl)) pss_nil) (@pss_cons _ _ _ _ _ (@ps_if _ _ _ _ _ _ _ _ (pt_val (pe_callB (call_anyB rfl) rfl T.n_any bt_any (@pa_cons _ _ _ _ _ (pe_comp (defScope st_law_walked) N_law_walked ["_law_row", "_law_part"] [1, 6] rfl (by exact ⟨rfl, rfl, by decide +kernel, rfl, by decide +kernel, by decide +kernel, by decide +kernel, rfl, by decide +kernel⟩) rfl rfl (pi_list (pv 8)) (fun _ _ _ _ => pif_nil) (fun _ _ _ _ => (@pe_cmpR _ _ _ _ _ _ _ _ (op_neD (K := K) rfl hu) (pe_call GW hr1 rfl T.m_law_words T.k_law_words T.b_law_words .nil pass0 (@pa_cons _ _ _ _ _ (pv 1) (@pa_cons _ _ _ _ _ (pv 0) pa_nil (by rfl)) (by rfl))) (@pe_ix _ _ _ _ _ _ _ (ix_tupK (K := K) rfl) (pv 2) pe_int (fun _ _ => rfl)) (nomark _)))) pa_nil (by rfl)))) (@pss_one _ _ _ (@ps_ret _ _ _ _ pe_bl)) pss_nil) (@pss_cons _ _ _ _ _ (@ps_set _ _ 4 _ _ _ _ nd rfl (Or.inl rfl) (@pe_ix _ _ _ _ _ _ _ (ix_listK (K := K) rfl) (pv 8) pe_int (fun _ _ => rfl)) (by rfl) (by first | exact .inl rfl | exact .inr rfl | assumption)) (@pss_cons _ _ _ _ _ (@ps_set _ _ 3 _ _ _ _ nd rfl (Or.inl rfl) (@pe_op _ _ _ _ _ _ _ _ op_or (pv 3) (pv 7)) (by rfl) (by first | exact .inl rfl | exact .inr rfl | assumption)) (@pss_one _ _ _ (@ps_expr _ _ _ _ (pe_bm PySem.F.plainAttrs_list PySem.F.slot_list_append PySem.F.type_list_append mt_append (pv 5) (@pa_cons _ _ _ _ _ (@pe_ix _ _ _ _ _ _ _ (ix_tupK (K := K) rfl) (pv 6) pe_int (fun _ _ => rfl)) pa_nil (by rfl))) (by rfl))))))))))) (by intro _; rfl)) (@pss_one _ _ _ (@ps_ret _ _ _ _ (@pe_cmpR _ _ _ _ _ _ _ _ op_eq (pv 3) (pv 2) (nomark _)))))))), ?_⟩
    have hpw : (insd m).Pairwise (· < ·) := sets_pw m (bl m)
    have vi : VI (fun s => cutR s r) (insd m) (varsOf r m) := vi_all hpw
    have hwh : seenU (varsOf r m) = m := vi.whole fun s => (mem_insd m s).symm
    have hbit : ∀ q ∈ varsOf r m, q.2 < 2 ^ 1024 := fun q hq => by
      refine Nat.lt_pow_two_of_testBit _ fun i hi => Bool.eq_false_iff.mpr fun z => ?_
      have := ((vi.bit q hq i).mp z).1
      have := Nat.lt_of_lt_of_le (sets_lt (this : i ∈ setsOf m (bl m))) (bl_le hm)
      omega
    have k128 := keys_128 hw vi
    generalize varsOf r m = M at hV hle vi hwh hbit k128
    obtain ⟨ts, hts, htl, hat⟩ := hV.ex
    refine ⟨_, rfl, Nat.zero_le _, fun pa hpa => ?_⟩
    dsimp only [gName]
    have spa : ∀ {H' : Hp} {o : HO}, Same H H' → Same H (upd H' pa o) := fun s b u e => by rw [upd_ne (ne_of_none e hpa)]; exact s b u e
    refine cut_for (fun σ' H' => Same H H' ∧ ∃ s4 s5 s6 s7 s8 : Option V, σ' = [some (.ref p), some (.ref l), some (.int (m : Nat)), some (.int (m : Nat)), s4, s5, s6, s7, s8]) (fun R hRR => ?_) ?_
    · refine ⟨_, rfl, p, rfl, ⟨_, SqL.of ((same_upd hpa) _ _ hts)⟩, ?_⟩
      refine for_list (K := K) (a := p) (xs := ts.map V.ref) (fun i σ' H' => Same H H' ∧ i ≤ 16 ∧ WsAt H' pa (keys (M.take i)) ∧ ∃ s6 s7 s8 : Option V, σ' = [some (.ref p), some (.ref l), some (.int (m : Nat)), some (.int ((seenU (M.take i) : Nat) : Int)), some (.int (bef M i)), some (.ref pa), s6, s7, s8])
        ⟨same_upd hpa, Nat.zero_le _, ⟨[], upd_same, rfl, fun j b ws h => by simp at h⟩, none, none, none, rfl⟩ (fun i σ' H' _ ⟨e, _⟩ => SqL.of (e _ _ hts)) ?_ ?_
      · rintro i y σ' H1 hy ⟨sm, _, hWs, s6, s7, s8, rfl⟩
        have hi : i < ts.length := by
          have := (List.getElem?_eq_some_iff.mp hy).1
          rw [List.length_map] at this; exact this
        have hiM : i < M.length := by omega
        have ey : y = V.ref ts[i] := by rw [List.getElem?_map, List.getElem?_eq_getElem hi] at hy; exact (Option.some.inj hy).symm
        subst ey
        have hMi : M[i]? = some M[i] := List.getElem?_eq_getElem hiM
        obtain ⟨b, hT, hB⟩ := hat i ts[i] M[i] (List.getElem?_eq_getElem hi) hMi
        have hqM := List.getElem_mem hiM
        have hapart := vi.apart hMi
        have hunl := vi.unlike hMi
        obtain ⟨sx, hsx⟩ := vi.ex _ hqM
        obtain ⟨rest, eins, hlb⟩ := lst_head hsx
        have hq24 := hbit _ hqM
        have hkq := k128 _ hqM
        have hrise : bef M i < ((lst M[i].2 : Nat) : Int) := by
          cases i with
          | zero => show (-1 : Int) < _; omega
          | succ i' =>
            have h1 : M[i']? = some M[i'] := List.getElem?_eq_getElem (by omega)
            have := vi.rise h1 hMi
            show ((M[i']?).map fun q => ((lst q.2 : Nat) : Int)).getD 0 < _
            rw [h1]
            show ((lst M[i'].2 : Nat) : Int) < _
            omega
        have hpos : 0 < M[i].2 := Nat.pos_of_ne_zero fun z => by rw [z] at hsx; simp at hsx
        have ekt : keys (M.take (i + 1)) = keys (M.take i) ++ [M[i].1] := by rw [List.take_succ_eq_append_getElem hiM]; unfold keys; rw [List.map_append]; rfl
        have esn : seenU (M.take (i + 1)) = seenU (M.take i) ||| M[i].2 := by rw [List.take_succ_eq_append_getElem hiM, seenU_snoc]
        have ebf : bef M (i + 1) = ((lst M[i].2 : Nat) : Int) := by show ((M[i]?).map _).getD 0 = _; rw [hMi]; rfl
        have hcut : ∀ t ∈ insd M[i].2, cutR t r = M[i].1 := fun t ht => ((vi.bit _ hqM t).mp ((mem_insd _ t).mp ht)).2
        generalize M[i] = q at *
        have hT1 := sm _ _ hT
        have hB1 := sm _ _ hB
        refine ⟨_, rfl, _, _, true, rfl, .tup hT1, kit_tt _, _, rfl, iteF ?_⟩
        refine ⟨_, rfl, ts[i], _, rfl, .inr (SqT.of hT1), rfl, _, rfl, ?_⟩
        refine iteF ?_
        refine ⟨_, rfl, ts[i], _, _, _, rfl, rfl, SqT.of hT1, rfl, _, _, true, rfl, .tup hB1, kit_tt _, _, rfl, iteF ?_⟩
        refine ⟨_, rfl, ts[i], _, _, _, rfl, rfl, SqT.of hT1, rfl, ?_⟩
        dsimp only [gName]
        refine ⟨_, rfl, _, _, true, rfl, .int _, kit_ii _, _, rfl, iteF ?_⟩
        refine ⟨_, rfl, _, _, false, rfl, .int _, kit_int_bool _, _, rfl, iteF ?_⟩
        refine ⟨_, rfl, _, _, rfl, rfl, _, rfl, ?_⟩
        rw [decide_eq_false (show ¬ ((q.2 : Nat) : Int) < 1 by omega)]
        refine iteF ?_
        refine ⟨_, rfl, _, rfl, _, _, rfl, rfl, rfl, _, rfl, ?_⟩
        have ez : (!decide ((fun i j => V.int (Builtin.bitAnd i j)) ((q.2 : Nat) : Int) ((seenU (M.take i) : Nat) : Int) = V.int 0)) = false := by
          simp [bitAnd_nat, hapart]
        rw [ez]
        refine iteF ?_
        -- inside
        have hbq : bl q.2 ≤ 1024 := bl_le hq24
        refine ⟨_, rfl, rfl, _, rfl, rfl, _, rfl, ?_, ?_, ?_⟩
        · show -(2 ^ 62) ≤ ((bl q.2 : Nat) : Int); omega
        · show ((bl q.2 : Nat) : Int) < 2 ^ 62; omega
        rw [show (((Builtin.Int.intBits ((q.2 : Nat) : Int) : Nat) : Int)).toNat = bl q.2 from Int.toNat_natCast _]
        refine comp_range (fun i ys H' => H' = H1 ∧ i ≤ bl q.2 ∧ ys = (asInts (setsOf q.2 i)).map V.int) ⟨rfl, Nat.zero_le _, rfl⟩ ?_ ?_
        · rintro j ys H' hj ⟨rfl, _, rfl⟩
          rw [Int.zero_add]
          refine ⟨_, rfl, _, rfl, _, _, rfl, rfl, by omega, _, _, rfl, rfl, (by show (0 : Int) < 2; decide), rfl, _, rfl, ?_⟩
          rw [odd_val]
          have hs := sets_succ q.2 j
          cases hb : q.2.testBit j with
          | true =>
            rw [hb, if_pos rfl] at hs
            refine iteT ?_
            refine ⟨_, rfl, ?_, rfl, hj, ?_⟩
            · rw [List.length_map, asInts, List.length_map]
              have := sets_len q.2 j
              exact small5k (by omega)
            · rw [hs, snocInts, List.map_append]; rfl
          | false =>
            rw [hb, if_neg Bool.false_ne_true] at hs
            refine iteF ?_
            exact ⟨rfl, hj, by rw [hs]⟩
        rintro ys H' ⟨rfl, _, rfl⟩ pi hpi
        rw [show setsOf q.2 (bl q.2) = insd q.2 from rfl]
        have s2 := same_upd (o := .lst ((asInts (insd q.2)).map V.int)) hpi
        have hI : upd H' pi (.lst ((asInts (insd q.2)).map V.int)) pi = some (.lst ((asInts (insd q.2)).map V.int)) := upd_same
        have hT2 := s2 _ _ hT1
        have hB2 := s2 _ _ hB1
        have hWs2 := hWs.same s2
        have sm2 := sm.trans s2
        dsimp only [gName]
        generalize upd H' pi (.lst ((asInts (insd q.2)).map V.int)) = H2 at hI hT2 hB2 hWs2 sm2 ⊢
        have hil : (insd q.2).length ≤ 1024 := Nat.le_trans (sets_len q.2 (bl q.2)) hbq
        have h0 : atI ((asInts (insd q.2)).map V.int) (0 : Int) = some (.int ((lst q.2 : Nat) : Int)) := by rw [eins]; exact atI_nat (j := 0) rfl
        refine ⟨_, rfl, pi, _, _, _, rfl, rfl, SqL.of hI, h0, _, rfl, _, _, rfl, rfl, _, rfl, ?_⟩
        rw [decide_eq_false (by omega)]
        refine iteF ?_
        have shq := shd_w hkq
        have shl : Shd 2 (.list ((keys (M.take i)).map wPD)) := shd_wl fun ws hws => by
          obtain ⟨q', hq', rfl⟩ := List.mem_map.mp hws
          exact k128 q' (List.mem_of_mem_take hq')
        refine ⟨_, rfl, ts[i], _, _, _, rfl, rfl, SqT.of hT2, rfl, _, rfl, _, _, rdv_w hB2, hWs2.rdv, shq.ok (by decide), shl.ok (by decide), _, rfl, ?_⟩
        rw [any_w, decide_eq_false hunl]
        refine iteF ?_
        -- any
        refine ⟨_, rfl, pi, rfl, ⟨_, SqL.of hI⟩, ?_⟩
        refine comp_list (K := K) (a := pi) (xs := (asInts (insd q.2)).map V.int) (fun j ys H' => Same H2 H' ∧ j ≤ 1024 ∧ ys = (List.replicate j false).map V.bl) ⟨Same.refl _, Nat.zero_le _, rfl⟩ (fun j ys H' _ ⟨e, _⟩ => SqL.of (e _ _ hI)) ?_ ?_
        · rintro j y ys H3 hy2 ⟨s3, _, rfl⟩
          have hj : j < (insd q.2).length := by
            have := (List.getElem?_eq_some_iff.mp hy2).1
            simpa [asInts] using this
          have ey2 : y = V.int (((insd q.2)[j] : Nat) : Int) := by
            rw [List.getElem?_map, asInts, List.getElem?_map, List.getElem?_eq_getElem hj] at hy2
            exact (Option.some.inj hy2).symm
          subst ey2
          have hct := hcut _ (List.getElem_mem hj)
          refine tYes_ok ?_
          rw [if_pos rfl]
          refine ⟨_, rfl, _, rfl, l, r, (insd q.2)[j], rfl, hR.same (sm2.trans s3), hrl, fun pw H4 hpw4 s4 hpw => ?_⟩
          rw [hct] at hpw
          refine ⟨_, rfl, ts[i], _, _, _, rfl, rfl, SqT.of (s4 _ _ (s3 _ _ hT2)), rfl, _, _, rdv_w hpw, rdv_w (s4 _ _ (s3 _ _ hB2)), shq.ok (by decide), shq.ok (by decide), ?_⟩
          rw [shq.refl]
          refine ⟨by rw [List.length_map, List.length_replicate]; exact small5k (by omega), s3.trans s4, by omega, ?_⟩
          rw [List.replicate_succ', List.map_append]
          rfl
        rintro ys H3 ⟨s3, _, rfl⟩ pb hpb
        refine ⟨pb, _, rfl, SqL.of upd_same, _, rfl, ?_⟩
        have ean : ∀ n : Nat, ((List.replicate n false).any id) = false := fun n => by simp
        rw [ean]
        refine iteF ?_
        have s4 := s3.trans (same_upd (o := .lst ((List.replicate ((asInts (insd q.2)).map V.int).length false).map V.bl)) hpb)
        have hI4 := s4 _ _ hI
        have hT4 := s4 _ _ hT2
        have hB4 := s4 _ _ hB2
        have hWs4 := hWs2.same s4
        have sm4 := sm2.trans s4
        generalize upd H3 pb (.lst ((List.replicate ((asInts (insd q.2)).map V.int).length false).map V.bl)) = H4 at hI4 hT4 hB4 hWs4 sm4 ⊢
        obtain ⟨xs, hxs, hxl, hpush⟩ := hWs4.push hB4
        have hkl : (keys (M.take i)).length ≤ 16 := by simp; omega
        refine ⟨_, rfl, pi, _, _, _, rfl, rfl, SqL.of hI4, h0, ?_⟩
        refine ⟨_, rfl, _, rfl, _, _, rfl, rfl, ?_⟩
        refine ⟨_, rfl, .inl ⟨rfl, _, SqL.of hxs⟩, _, rfl, ts[i], _, _, _, rfl, rfl, SqT.of hT4, rfl, pa, _, _, rfl, rfl, hxs, (by rw [hxl]; exact small1000 (by omega)), ?_⟩
        refine ⟨spa sm4, by omega, by rw [ekt]; exact hpush, some (.ref ts[i]), some (.int ((q.2 : Nat) : Int)), some (.ref pi), ?_⟩
        rw [esn, ebf, ← bitOr_nat]
        rfl
      · rintro σ' H1 ⟨sm, _, hWs, s6, s7, s8, rfl⟩
        rw [List.length_map, htl, List.take_length, hwh]
        exact hRR _ _ ⟨sm, _, _, _, _, _, rfl⟩
    rintro σ' H1 ⟨sm, s4, s5, s6, s7, s8, rfl⟩
    refine ⟨_, rfl, _, rfl, rfl, ?_⟩
    rw [decide_eq_true rfl]
    exact k _ sm
end
section
variable {P : Program} {w : World} {K : PySem.W.Frag} {mg : Str → Option Value} {base : Heap} {AA : Adr} {DD : Fds}
/-! the law's asking for a refusal, and its edges -/
theorem pass20 {κ : Option Value → Prop} {X : Cx} : Passes (CX2 κ P w) X E0 := fun _ _ _ _ _ _ _ h => by
  obtain ⟨_, _, _, _, _, _, _, _, _, _, _, _, _, _, _, q⟩ := h
  exact q.elim
def spRef : Sp := fun vs H Q _ => ∃ (l : Addr) (r : List (Str × Nat)) (m : Nat) (a : Int), vs = [.ref l, .int m, .int a] ∧ RowAt H l r ∧ r.length ≤ 1000 ∧ m < 2 ^ 1024 ∧ 16 < (varsOf r m).length ∧ ∀ H', Same H H' → Q (.bl true) H'
abbrev N_law_refused : List Str := ["_law_row", "_law_mask_here", "_law_at", "_law_found", "e"]
theorem sc_law_refused : FnScope N_law_refused ["_law_row", "_law_mask_here", "_law_at"] (defScope st_law_refused) := ⟨rfl, rfl, rfl, by decide +kernel, rfl, by decide +kernel, by decide +kernel⟩
theorem ok_refused (T : All P w K mg AA DD) : FnOk P w K mg base CX0 4 AA.law_refused DD.law_refused ["_law_row", "_law_mask_here", "_law_at"] spRef := by
  have GV := ok_variants (base := base) T
  obtain ⟨t0, FD, b1, b2⟩ := T.F_variants
  refine T.F_law_refused.ok sc_law_refused (fun vs H Q E h => ?_) (fun cdv A outer s H vs Q E hr h => ?_)
  · obtain ⟨l, r, m, a, rfl, _⟩ := h
    rfl
  · obtain ⟨l, r, m, a, rfl, hR, hrl, hm, h16, k⟩ := h
    have nd := sc_law_refused.nd
    have hu := hr.units
    have hr3 : Room 3 _ := hr
    refine ⟨_, pss_cons (ps_set (i := 3) nd rfl (Or.inl rfl) pe_non)
      (pss_cons (ps_tryD (κ := fun _ => True) (i := 4) (Body.wish body_cx _) (psx_if (pt_cmpR op_eq (pv 2) pe_int (nomark _)) (psx_expr (pex_call GV hr3 rfl T.m_variants T.k_variants b2 (.cons ⟨t0, rfl⟩ .nil : Vals [V.int 0] [Value.int 0 t0]) (pa_cons (pv 0) (pa_cons (pv 1) pa_nil)))) (psx_expr (pex_call GV hr3 rfl T.m_variants T.k_variants b1 .nil (pa_cons (pv 0) (pa_cons (pv 1) (pa_cons (pv 2) pa_nil)))))) rfl T.m_TooMany nd rfl rfl
        (fun ea => (@pss_one _ _ _ (@ps_set _ _ 3 _ _ _ _ nd rfl (Or.inl rfl) (@pe_tup _ _ _ _ _ (@pa_cons _ _ _ _ _ (pe_xfldK (K := K) rfl (pv 4) (by rfl)) (@pa_cons _ _ _ _ _ (pe_callB (call_isexD (K := K) rfl) rfl T.n_isinstance bt_isi (pa_cons (pv 4) (pa_cons (pe_glob (v := .ref AA.x_NoGroup) rfl T.m_NoGroup rfl) pa_nil)))
          (@pa_cons _ _ _ _ _ (pe_callB (call_isexD (K := K) rfl) rfl T.n_isinstance bt_isi (pa_cons (pv 4) (pa_cons (pe_glob (v := .ref AA.x_MakesError) rfl T.m_MakesError rfl) pa_nil))) pa_nil (by rfl)) (by rfl)) (by rfl))) (by rfl) (by first | exact .inl rfl | exact .inr rfl | assumption)))))
      (pss_one (ps_ret (pe_cmpR (op_eqD (K := K) rfl hu) (pv 3) (pe_tup (pa_cons (pv 2) (pa_cons pe_bl (pa_cons pe_bl pa_nil)))) (nomark _))))), ?_⟩
    refine ⟨_, rfl, rfl, _, rfl, ?_⟩
    rw [dec_int]
    have fin : ∀ (E1 : Prop → Prop), True := fun _ => trivial
    by_cases h0 : a = 0
    case' pos =>
      subst h0
      rw [show ((0 : Int) == 0) = true from rfl]
      refine iteT ⟨_, rfl, _, rfl, l, r, m, .int 0, rfl, hR, hrl, hm, (fun z => absurd h16 (by omega)), fun _ => ?_⟩
    case' neg =>
      rw [beq_eq_false_iff_ne.mpr h0]
      refine iteF ⟨_, rfl, _, rfl, _, rfl, l, r, m, .int a, rfl, hR, hrl, hm, (fun z => absurd h16 (by omega)), fun _ => ?_⟩
    all_goals
      intro dx H1 s1 hdx
      refine ⟨T.em_TooMany_TooMany, fun ea cx _ hea => ?_⟩
      have s2 := same_upd (o := excD ea (.ref AA.x_TooMany) (some dx) cx) hea
      refine ⟨_, rfl, ea, AA.x_TooMany, dx, cx, _, _, rfl, upd_same, s2 _ _ hdx, T.xc_TooMany, T.ic_TooMany.hd, T.na_TooMany_at, rfl, ?_⟩
      refine ⟨_, rfl, ea, AA.x_TooMany, AA.x_NoGroup, _, _, _, rfl, upd_same, T.xc_TooMany, T.ki_TooMany_NoGroup, ?_⟩
      refine ⟨_, rfl, ea, AA.x_TooMany, AA.x_MakesError, _, _, _, rfl, upd_same, T.xc_TooMany, T.ki_TooMany_MakesError, (by show 3 ≤ sizeLine; decide), fun pr hpr => ?_⟩
      refine ⟨_, rfl, _, rfl, (by show 3 ≤ sizeLine; decide), fun pt hpt => ?_⟩
      have s3 := fun o : HO => same_upd (o := o) hpt
      have rd : ∀ {i : Int} {H' : Hp} {t : Addr}, H' t = some (.tup [.int i, .bl false, .bl true]) → Rdv K H' (.ref t) (.tuple [.int i, .bool false, .bool true]) := fun h => .tup (SqT.of h) (.cons (.int _) (.cons (.bl _) (.cons (.bl _) .nil)))
      have sh : ∀ i : Int, Shd 1 (.tuple [.int i, .bool false, .bool true]) := fun i => Shd.tuple fun d hd => by
        rcases (show d = _ ∨ d = _ ∨ d = _ by simpa using hd) with h | h | h <;> subst h
        · exact Shd.int _
        · exact Shd.bl _
        · exact Shd.bl _
      refine ⟨_, _, rd (s3 _ _ _ upd_same), rd upd_same, (sh _).ok (by decide), (sh _).ok (by decide), ?_⟩
      rw [(sh _).refl]
      exact k _ (((s1.trans s2).trans (same_upd hpr)).trans (s3 _))
def swN (k n : Nat) : List Nat := ((List.range n).filter fun s => s.testBit k).map fun s => 2 ^ s
def swS (k n : Nat) : Nat := (swN k (2 ^ n)).sum
def swI (k N : Nat) : List Int := (swN k N).map fun x => ((x : Nat) : Int)
def chk (k n : Nat) : Bool := (List.range (swN k (2 ^ n)).length).all fun j => decide ((swN k (2 ^ n)).getD j 0 < 2 ^ 63) && decide (((swN k (2 ^ n)).take (j + 1)).sum < 2 ^ 63)
theorem chk_ok : ∀ p ∈ [(0, 4), (1, 4), (2, 4), (3, 4), (0, 5), (1, 5), (2, 5), (3, 5), (4, 5)], chk p.1 p.2 = true := by decide +kernel
theorem sum_cast (l : List Nat) : (l.map fun x => ((x : Nat) : Int)).sum = ((l.sum : Nat) : Int) := by
  induction l with
  | nil => rfl
  | cons a r ih => rw [List.map_cons, List.sum_cons, List.sum_cons, ih]; omega
theorem chk_long {k n : Nat} (h : chk k n = true) : ∀ j, j < (swI k (2 ^ n)).length → InLong ((swI k (2 ^ n)).getD j 0) ∧ InLong ((swI k (2 ^ n)).take (j + 1)).sum := by
  intro j hj
  have hj' : j < (swN k (2 ^ n)).length := by simpa [swI] using hj
  have := List.all_eq_true.mp h j (List.mem_range.mpr hj')
  obtain ⟨h1, h2⟩ := Bool.and_eq_true_iff.mp this
  have h1 := of_decide_eq_true h1
  have h2 := of_decide_eq_true h2
  have e1 : (swI k (2 ^ n)).getD j 0 = (((swN k (2 ^ n)).getD j 0 : Nat) : Int) := by
    rw [List.getD_eq_getElem?_getD, List.getD_eq_getElem?_getD, swI, List.getElem?_map, List.getElem?_eq_getElem hj']; rfl
  have e2 : ((swI k (2 ^ n)).take (j + 1)).sum = ((((swN k (2 ^ n)).take (j + 1)).sum : Nat) : Int) := by rw [swI, ← List.map_take, sum_cast]
  rw [e1, e2]
  unfold InLong
  omega
def spSw : Sp := fun vs H Q _ => ∃ (k n : Nat), vs = [.int k, .int n] ∧ n ≤ 10 ∧ chk k n = true ∧ ∀ H', Same H H' → Q (.int (swS k n : Nat)) H'
abbrev N_law_switch : List Str := ["_law_k", "_law_n"]
theorem sc_law_switch : FnScope N_law_switch ["_law_k", "_law_n"] (defScope st_law_switch) := ⟨rfl, rfl, rfl, by decide +kernel, rfl, by decide +kernel, by decide +kernel⟩
theorem ok_lswitch (T : All P w K mg AA DD) : FnOk P w K mg base CX0 1 AA.law_switch DD.law_switch ["_law_k", "_law_n"] spSw := by
  refine T.F_law_switch.ok sc_law_switch (fun vs H Q E h => ?_) (fun cdv A outer s H vs Q E hr h => ?_)
  · obtain ⟨k, n, rfl, _⟩ := h
    rfl
  · obtain ⟨k, n, rfl, hn, hc, kq⟩ := h
    refine ⟨_, (@pss_one _ _ _ (@ps_ret _ _ _ _ (pe_callB (call_sumI (K := K) rfl rfl) rfl T.n_sum bt_sum (@pa_cons _ _ _ _ _ (pe_comp (defScope st_law_switch) N_law_switch ["_law_k"] [0] rfl (by exact ⟨rfl, rfl, by decide +kernel, rfl, by decide +kernel, by decide +kernel, by decide +kernel, rfl, by decide +kernel⟩) rfl rfl (pi_range1 rfl T.n_range (@pa_cons _ _ _ _ _ (@pe_op _ _ _ _ _ _ _ _ op_shlB pe_int (pv 1)) pa_nil (by rfl))) (fun _ _ _ _ => pif_one (pt_cmpR op_eq (pe_op op_mod (pe_op op_shr (pv 0) (pv 1)) pe_int) pe_int (nomark _))) (fun _ _ _ _ => (@pe_op _ _ _ _ _ _ _ _ op_shlB pe_int (pv 0)))) pa_nil (by rfl))))), ?_⟩
    have h2n := two_le hn
    refine ⟨_, rfl, _, _, rfl, rfl, one_shl (by omega), _, rfl, ?_⟩
    dsimp only
    rw [shl_n]
    refine ⟨(by generalize 2 ^ n = N at h2n ⊢; omega), (by generalize 2 ^ n = N at h2n ⊢; omega), ?_⟩
    rw [Int.toNat_natCast]
    refine comp_range (fun i ys H' => H' = H ∧ i ≤ 1024 ∧ ys = (swI k i).map V.int) ⟨rfl, Nat.zero_le _, rfl⟩ ?_ ?_
    · rintro i ys H' hi ⟨rfl, _, rfl⟩
      rw [Int.zero_add]
      refine ⟨_, rfl, _, rfl, _, _, rfl, rfl, by omega, _, _, rfl, rfl, (by show (0 : Int) < 2; decide), rfl, _, rfl, ?_⟩
      rw [odd_val]
      have et : swN k (i + 1) = if i.testBit k = true then swN k i ++ [2 ^ i] else swN k i := by
        unfold swN
        rw [List.range_succ, List.filter_append]
        cases hb : i.testBit k <;> simp [hb]
      have hl : (swN k i).length ≤ i := by
        unfold swN
        rw [List.length_map]
        have := List.length_filter_le (fun s : Nat => s.testBit k) (List.range i)
        rw [List.length_range] at this
        exact this
      cases hb : i.testBit k with
      | true =>
        refine iteT ?_
        refine ⟨_, rfl, _, _, rfl, rfl, one_shl (by omega), ?_⟩
        dsimp only
        rw [shl_n]
        refine ⟨by rw [List.length_map, swI, List.length_map]; exact small5k (by omega), rfl, by omega, ?_⟩
        rw [show swI k (i + 1) = swI k i ++ [((2 ^ i : Nat) : Int)] by rw [swI, et, if_pos hb, List.map_append]; rfl, List.map_append]
        rfl
      | false =>
        refine iteF ?_
        exact ⟨rfl, by omega, by rw [show swI k (i + 1) = swI k i by rw [swI, et, if_neg (by simp [hb])]; rfl]⟩
    · rintro ys H' ⟨rfl, _, rfl⟩ p hp
      refine ⟨p, swI k (2 ^ n), rfl, SqL.of upd_same, chk_long hc, ?_⟩
      rw [show (swI k (2 ^ n)).sum = ((swS k n : Nat) : Int) from sum_cast _]
      exact kq _ (same_upd hp)
def rowE (n : Nat) (i : Nat) : List (Str × Nat) := (List.range i).map fun k => (⟨#[97 + k]⟩, swS k n)
theorem abcde : ∀ k : Fin 5, ("abcde" : Str).cps.toList[k.val]? = some (97 + k.val) := by decide +kernel
theorem sets_lit {m N : Nat} (h : m < 2 ^ N) : insd m = setsOf m N := sets_bl h
theorem vars_lit {r : List (Str × Nat)} {m N : Nat} (h : m < 2 ^ N) : varsOf r m = vrun (fun s => cutR s r) (setsOf m N) := by unfold varsOf; rw [sets_lit h]
theorem e4 : (varsOf (rowE 4 4) 65535).length ≤ 16 := by rw [vars_lit (N := 16) (by decide)]; decide +kernel
theorem e5a : 16 < (varsOf (rowE 5 5) 4294967295).length := by rw [vars_lit (N := 32) (by decide)]; decide +kernel
theorem e5b : 16 < (varsOf (rowE 5 5) 131071).length := by rw [vars_lit (N := 17) (by decide)]; decide +kernel
theorem e5c : (varsOf (rowE 5 5) 65535).length ≤ 16 := by rw [vars_lit (N := 16) (by decide)]; decide +kernel
theorem rowE_128 (n i : Nat) (h : i ≤ 5) : W128 (rowE n i) := fun p hp c hc => by
  obtain ⟨k, hk, rfl⟩ := List.mem_map.mp hp
  have := List.mem_range.mp hk
  have : c = 97 + k := by simpa using hc
  omega
theorem rowE_succ (n i : Nat) : rowE n (i + 1) = rowE n i ++ [(⟨#[97 + i]⟩, swS i n)] := by simp [rowE, List.range_succ]
theorem chk4 {i : Nat} (h : i < 4) : chk i 4 = true := chk_ok (i, 4) (by
  have : i = 0 ∨ i = 1 ∨ i = 2 ∨ i = 3 := by omega
  rcases this with rfl | rfl | rfl | rfl <;> simp)
theorem chk5 {i : Nat} (h : i < 5) : chk i 5 = true := chk_ok (i, 5) (by
  have : i = 0 ∨ i = 1 ∨ i = 2 ∨ i = 3 ∨ i = 4 := by omega
  rcases this with rfl | rfl | rfl | rfl | rfl <;> simp)
def spEdge : Sp := fun vs H Q _ => ∃ a : Int, vs = [.int a] ∧ ∀ H', Same H H' → Q (.bl true) H'
abbrev N_law_edges : List Str := ["_law_at", "_law_row"]
theorem sc_law_edges : FnScope N_law_edges ["_law_at"] (defScope st_law_edges) := ⟨rfl, rfl, rfl, by decide +kernel, rfl, by decide +kernel, by decide +kernel⟩
theorem ok_edges (T : All P w K mg AA DD) : FnOk P w K mg base CX0 5 AA.law_edges DD.law_edges ["_law_at"] spEdge := by
  have GV := ok_variants (base := base) T
  have GX := ok_walk (base := base) T
  have GF := ok_refused (base := base) T
  have GS := ok_lswitch (base := base) T
  obtain ⟨t0, FD, b1, b2⟩ := T.F_variants
  refine T.F_law_edges.ok sc_law_edges (fun vs H Q E h => ?_) (fun cdv A outer s H vs Q E hr h => ?_)
  · obtain ⟨a, rfl, _⟩ := h
    rfl
  · obtain ⟨a, rfl, k⟩ := h
    have nd := sc_law_edges.nd
    have hr1 : Room 1 _ := hr.mono (by decide)
    have hr2 : Room 2 _ := hr.mono (by decide)
    have hr3 : Room 3 _ := hr.mono (by decide)
    have hr4 : Room 4 _ := hr
    refine ⟨_, (@pss_cons _ _ _ _ _ (ps_setcomp (i := 1) (defScope st_law_edges) N_law_edges [] [] rfl (by exact ⟨rfl, rfl, by decide +kernel, rfl, by decide +kernel, by decide +kernel, by decide +kernel, rfl, by decide +kernel⟩) rfl rfl (pi_range1 rfl T.n_range (@pa_cons _ _ _ _ _ pe_int pa_nil (by rfl))) (fun _ _ _ _ => pif_nil) (fun _ _ _ _ => (@pe_tup _ _ _ _ _ (@pa_cons _ _ _ _ _ (@pe_ix _ _ _ _ _ _ _ ix_str pe_str (pv 0) (fun _ _ => rfl)) (@pa_cons _ _ _ _ _ (pe_call GS hr1 rfl T.m_law_switch T.k_law_switch T.b_law_switch .nil pass0 (@pa_cons _ _ _ _ _ (pv 0) (@pa_cons _ _ _ _ _ pe_int pa_nil (by rfl)) (by rfl))) pa_nil (by rfl)) (by rfl)))) nd rfl rfl rfl) (@pss_cons _ _ _ _ _ (@ps_if _ _ _ _ _ _ _ _ (pt_not (pt_val (pe_call GX hr2 rfl T.m_law_walked T.k_law_walked T.b_law_walked .nil pass0 (@pa_cons _ _ _ _ _ (pe_call GV hr3 rfl T.m_variants T.k_variants b2 (.cons ⟨t0, rfl⟩ .nil : Vals [V.int 0] [Value.int 0 t0]) pass20 (@pa_cons _ _ _ _ _ (pv 1) (@pa_cons _ _ _ _ _ (@pe_op _ _ _ _ _ _ _ _ op_sub (@pe_op _ _ _ _ _ _ _ _ op_shlB pe_int pe_int) pe_int) pa_nil (by rfl)) (by rfl))) (@pa_cons _ _ _ _ _ (pv 1) (@pa_cons _ _ _ _ _ (@pe_op _ _ _ _ _ _ _ _ op_sub (@pe_op _ _ _ _ _ _ _ _ op_shlB pe_int pe_int) pe_int) pa_nil (by rfl)) (by rfl)) (by rfl))))) (@pss_one _ _ _ (@ps_ret _ _ _ _ pe_bl)) pss_nil) (@pss_cons _ _ _ _ _ (ps_setcomp (i := 1) (defScope st_law_edges) N_law_edges [] [] rfl (by exact ⟨rfl, rfl, by decide +kernel, rfl, by decide +kernel, by decide +kernel, by decide +kernel, rfl, by decide +kernel⟩) rfl rfl (pi_range1 rfl T.n_range (@pa_cons _ _ _ _ _ pe_int pa_nil (by rfl))) (fun _ _ _ _ => pif_nil) (fun _ _ _ _ => (@pe_tup _ _ _ _ _ (@pa_cons _ _ _ _ _ (@pe_ix _ _ _ _ _ _ _ ix_str pe_str (pv 0) (fun _ _ => rfl)) (@pa_cons _ _ _ _ _ (pe_call GS hr1 rfl T.m_law_switch T.k_law_switch T.b_law_switch .nil pass0 (@pa_cons _ _ _ _ _ (pv 0) (@pa_cons _ _ _ _ _ pe_int pa_nil (by rfl)) (by rfl))) pa_nil (by rfl)) (by rfl)))) nd rfl rfl rfl) (@pss_cons _ _ _ _ _ (@ps_if _ _ _ _ _ _ _ _ (PW.pt (pw_or (pt_not (pt_val (pe_call GF hr4 rfl T.m_law_refused T.k_law_refused T.b_law_refused .nil pass0 (@pa_cons _ _ _ _ _ (pv 1) (@pa_cons _ _ _ _ _ (@pe_op _ _ _ _ _ _ _ _ op_sub (@pe_op _ _ _ _ _ _ _ _ op_shlB pe_int pe_int) pe_int) (@pa_cons _ _ _ _ _ (pv 0) pa_nil (by rfl)) (by rfl)) (by rfl))))) (pw_or1 (pt_not (pt_val (pe_call GF hr4 rfl T.m_law_refused T.k_law_refused T.b_law_refused .nil pass0 (@pa_cons _ _ _ _ _ (pv 1) (@pa_cons _ _ _ _ _ (@pe_op _ _ _ _ _ _ _ _ op_sub (@pe_op _ _ _ _ _ _ _ _ op_shlB pe_int pe_int) pe_int) (@pa_cons _ _ _ _ _ (@pe_op _ _ _ _ _ _ _ _ op_add (pv 0) pe_int) pa_nil (by rfl)) (by rfl)) (by rfl)))))))) (@pss_one _ _ _ (@ps_ret _ _ _ _ pe_bl)) pss_nil) (@pss_one _ _ _ (@ps_ret _ _ _ _ (pe_call GX hr2 rfl T.m_law_walked T.k_law_walked T.b_law_walked .nil pass0 (@pa_cons _ _ _ _ _ (pe_call GV hr3 rfl T.m_variants T.k_variants b1 .nil pass20 (@pa_cons _ _ _ _ _ (pv 1) (@pa_cons _ _ _ _ _ (@pe_op _ _ _ _ _ _ _ _ op_sub (@pe_op _ _ _ _ _ _ _ _ op_shlB pe_int pe_int) pe_int) (@pa_cons _ _ _ _ _ (pv 0) pa_nil (by rfl)) (by rfl)) (by rfl))) (@pa_cons _ _ _ _ _ (pv 1) (@pa_cons _ _ _ _ _ (@pe_op _ _ _ _ _ _ _ _ op_sub (@pe_op _ _ _ _ _ _ _ _ op_shlB pe_int pe_int) pe_int) pa_nil (by rfl)) (by rfl)) (by rfl))))))))), ?_⟩
    refine ⟨_, rfl, by decide, by decide, ?_⟩
    refine comp_range (lo := 0) (n := 4) (fun i ys H' => Same H H' ∧ i ≤ 4 ∧ ∃ ts : List Addr, ys = ts.map V.ref ∧ TupL H' ts (rowE 4 i)) ⟨Same.refl _, Nat.zero_le _, [], rfl, TupL.nil _⟩ ?_ ?_
    · rintro i ys H1 hi ⟨sm, _, ts, rfl, htl⟩
      refine tYes_ok ?_
      rw [if_pos rfl, Int.zero_add]
      refine ⟨_, rfl, _, _, _, rfl, rfl, (by decide +kernel), atI_nat (abcde ⟨i, by omega⟩), _, rfl, i, 4, rfl, by decide, chk4 hi, fun H2 s2 => ⟨(by show 2 ≤ sizeLine; decide), fun t ht => ?_⟩⟩
      have hl := htl.1
      rw [show (rowE 4 i).length = i by simp [rowE]] at hl
      have s3 := same_upd (o := .tup [.str ⟨#[97 + i]⟩, .int ((swS i 4 : Nat) : Int)]) ht
      refine ⟨by rw [List.length_map]; exact small1000 (by omega), (sm.trans s2).trans s3, by omega, ts ++ [t], by simp, ?_⟩
      rw [rowE_succ]
      exact ((htl.same s2).same s3).snoc upd_same
    rintro ys H1 ⟨sm, _, ts, rfl, htl⟩ p4 hp4
    have hR4 : RowAt (upd H1 p4 (.lst (ts.map V.ref))) p4 (rowE 4 4) := ⟨ts, upd_same, htl.same (same_upd hp4)⟩
    have sm := sm.trans (same_upd (o := .lst (ts.map V.ref)) hp4)
    dsimp only [gName]
    generalize upd H1 p4 (.lst (ts.map V.ref)) = H2 at hR4 sm ⊢
    clear htl hp4
    refine ⟨_, rfl, _, _, rfl, rfl, one_shl (n := 16) (by decide), _, _, rfl, rfl, p4, rowE 4 4, 65535, .int 0, rfl, hR4, by decide, by decide, (fun _ p H3 hp s3 hV => ?_), (fun z => absurd e4 (by omega))⟩
    refine ⟨_, rfl, _, _, rfl, rfl, one_shl (n := 16) (by decide), _, _, rfl, rfl, p, p4, rowE 4 4, 65535, rfl, hV, e4, hR4.same s3, by decide, rowE_128 4 4 (by decide), by decide, fun H4 s4 => ⟨_, rfl, iteF ?_⟩⟩
    have sm := (sm.trans s3).trans s4
    -- five switches
    refine ⟨_, rfl, by decide, by decide, ?_⟩
    refine comp_range (lo := 0) (n := 5) (fun i ys H' => Same H H' ∧ i ≤ 5 ∧ ∃ ts : List Addr, ys = ts.map V.ref ∧ TupL H' ts (rowE 5 i)) ⟨sm, Nat.zero_le _, [], rfl, TupL.nil _⟩ ?_ ?_
    · rintro i ys H1 hi ⟨sm, _, ts, rfl, htl⟩
      refine tYes_ok ?_
      rw [if_pos rfl, Int.zero_add]
      refine ⟨_, rfl, _, _, _, rfl, rfl, (by decide +kernel), atI_nat (abcde ⟨i, by omega⟩), _, rfl, i, 5, rfl, by decide, chk5 hi, fun H2 s2 => ⟨(by show 2 ≤ sizeLine; decide), fun t ht => ?_⟩⟩
      have hl := htl.1
      rw [show (rowE 5 i).length = i by simp [rowE]] at hl
      have s3 := same_upd (o := .tup [.str ⟨#[97 + i]⟩, .int ((swS i 5 : Nat) : Int)]) ht
      refine ⟨by rw [List.length_map]; exact small1000 (by omega), (sm.trans s2).trans s3, by omega, ts ++ [t], by simp, ?_⟩
      rw [rowE_succ]
      exact ((htl.same s2).same s3).snoc upd_same
    rintro ys H5 ⟨sm, _, ts, rfl, htl⟩ p5 hp5
    have hR5 : RowAt (upd H5 p5 (.lst (ts.map V.ref))) p5 (rowE 5 5) := ⟨ts, upd_same, htl.same (same_upd hp5)⟩
    have sm := sm.trans (same_upd (o := .lst (ts.map V.ref)) hp5)
    dsimp only [gName]
    generalize upd H5 p5 (.lst (ts.map V.ref)) = H6 at hR5 sm ⊢
    clear htl hp5
    refine ⟨_, rfl, _, _, rfl, rfl, one_shl (n := 32) (by decide), _, _, rfl, rfl, _, rfl, p5, rowE 5 5, 4294967295, a, rfl, hR5, by decide, by decide, e5a, fun H7 s7 => ⟨_, rfl, iteF ?_⟩⟩
    refine ⟨_, rfl, _, _, rfl, rfl, one_shl (n := 17) (by decide), _, _, rfl, rfl, _, rfl, _, _, rfl, rfl, p5, rowE 5 5, 131071, a + 1, rfl, hR5.same s7, by decide, by decide, e5b, fun H8 s8 => ⟨_, rfl, iteF ?_⟩⟩
    have hR8 := (hR5.same s7).same s8
    have sm := (sm.trans s7).trans s8
    refine ⟨_, rfl, _, _, rfl, rfl, one_shl (n := 16) (by decide), _, _, rfl, rfl, _, rfl, p5, rowE 5 5, 65535, .int a, rfl, hR8, by decide, by decide, (fun _ p H9 hp s9 hV => ?_), (fun z => absurd e5c (by omega))⟩
    refine ⟨_, rfl, _, _, rfl, rfl, one_shl (n := 16) (by decide), _, _, rfl, rfl, p, p5, rowE 5 5, 65535, rfl, hV, e5c, hR8.same s9, by decide, rowE_128 5 5 (by decide), by decide, fun H10 s10 => ?_⟩
    exact k _ ((sm.trans s9).trans s10)
end
section
variable {P : Program} {w : World} {K : PySem.W.Frag} {mg : Str → Option Value} {base : Heap} {AA : Adr} {DD : Fds}
def spLaw (K : PySem.W.Frag) : Sp := fun vs H Q _ => ∃ (a : Addr) (ns : List Int), vs = [.ref a] ∧ SqL K H a (ns.map V.int) ∧ ns.length ≤ 63 ∧ ∀ H', Q (.bl true) H'
def tupPD (w : Str × Nat) : PyData := .tuple [.str w.1, .int ((w.2 : Nat) : Int)]
def rowPD (r : List (Str × Nat)) : PyData := .list (r.map tupPD)
theorem RowAt.rdv {H : Hp} {l : Addr} {r : List (Str × Nat)} (h : RowAt H l r) : Rdv K H (.ref l) (rowPD r) := by
  obtain ⟨ts, h1, h2⟩ := h
  refine .lst (SqL.of h1) (rdvA_of (by simp [h2.1]) fun i x d e1 e2 => ?_)
  rw [List.getElem?_map] at e1 e2
  obtain ⟨t, et, rfl⟩ := Option.map_eq_some_iff.mp e1
  obtain ⟨w', ew, rfl⟩ := Option.map_eq_some_iff.mp e2
  exact .tup (SqT.of (h2.2 i t w' et ew)) (.cons (.str _) (.cons (.int _) .nil))
theorem shd_row {r : List (Str × Nat)} (h : W128 r) : Shd 2 (rowPD r) := Shd.list fun d hd => by
  obtain ⟨w', hw, rfl⟩ := List.mem_map.mp hd
  refine Shd.tuple fun e he => ?_
  rcases (show e = _ ∨ e = _ by simpa using he) with z | z <;> subst z
  · exact Shd.str (h w' hw)
  · exact Shd.int _
def varPD (m : List WK) : PyData := .list (m.map fun q => .tuple [.int ((q.2 : Nat) : Int), wPD q.1])
theorem VarAt.rdv {H : Hp} {p : Addr} {m : List WK} (h : VarAt H p m) : Rdv K H (.ref p) (varPD m) := by
  obtain ⟨ts, h1, h2, h3⟩ := h.ex
  refine .lst (SqL.of h1) (rdvA_of (by simp [h2]) fun i x d e1 e2 => ?_)
  rw [List.getElem?_map] at e1 e2
  obtain ⟨t, et, rfl⟩ := Option.map_eq_some_iff.mp e1
  obtain ⟨q, eq, rfl⟩ := Option.map_eq_some_iff.mp e2
  obtain ⟨b, hb1, hb2⟩ := h3 i t q et eq
  exact .tup (SqT.of hb1) (.cons (.int _) (.cons (rdv_w hb2) .nil))
theorem v_one : varsOf [] 1 = [([], 1)] := by rw [vars_lit (N := 1) (by decide)]; decide +kernel
theorem v_none : varsOf [("x", 1)] 0 = [] := by rw [vars_lit (N := 0) (by decide)]; decide +kernel
theorem cut_int (ns : List Int) (i j : Option Int) : ∃ cs : List Int, cutV (ns.map V.int) i j = cs.map V.int ∧ cs.length ≤ ns.length ∧ ∀ c ∈ cs, c ∈ ns := by
  unfold cutV
  refine ⟨(ns.drop _).take _, by rw [List.map_take, List.map_drop], ?_, fun c hc => List.mem_of_mem_drop (List.mem_of_mem_take hc)⟩
  rw [List.length_take, List.length_drop]; omega
theorem cut15 (ns : List Int) : ∃ cs : List Int, cutV (ns.map V.int) (some 1) (some 5) = cs.map V.int ∧ cs.length ≤ 4 := by
  unfold cutV
  rw [show (1 : Int) = ((1 : Nat) : Int) from rfl, show (5 : Int) = ((5 : Nat) : Int) from rfl, HT.sIx_nat, HT.sIx_nat]
  refine ⟨(ns.drop (min 1 (ns.map V.int).length)).take (min 5 (ns.map V.int).length - min 1 (ns.map V.int).length), by rw [List.map_take, List.map_drop], ?_⟩
  rw [List.length_take, List.length_drop, List.length_map]
  omega
def wds4 : List Str := ["x", "y", "tell", "x"]
theorem wds4_128 : ∀ z ∈ wds4, ∀ c ∈ z.cps.toList, c < 128 := by decide +kernel
theorem at_of_mod {α : Type} {l : List α} {x : Int} (hl : 0 < l.length) : ∃ v, v ∈ l ∧ atI l (x % (l.length : Int)) = some v := by
  have h1 := Int.emod_nonneg x (show (l.length : Int) ≠ 0 by omega)
  have h2 := Int.emod_lt_of_pos x (show (0 : Int) < (l.length : Int) by omega)
  obtain ⟨j, hj⟩ : ∃ j : Nat, x % (l.length : Int) = (j : Int) := ⟨(x % (l.length : Int)).toNat, by omega⟩
  rw [hj] at h2 ⊢
  have hjl : j < l.length := by omega
  exact ⟨l[j], List.getElem_mem hjl, atI_nat (List.getElem?_eq_getElem hjl)⟩
abbrev N_law : List Str := ["_law_script", "_law_n", "_law_cells", "_law_k", "_law_xs", "_law_row", "_law_mask_here", "_law_handed", "_law_unlike", "_law_s", "_law_found"]
theorem sc_law : FnScope N_law ["_law_script"] (defScope st_law) := ⟨rfl, rfl, rfl, by decide +kernel, rfl, by decide +kernel, by decide +kernel⟩
theorem ok_law (T : All P w K mg AA DD) {f : Addr} {fd : FuncData} (F : Fun K "law" "law" st_law f fd) : FnOk P w K mg base CX0 8 f fd ["_law_script"] (spLaw K) := by
  have GE := ok_edges (base := base) T
  have GD := ok_drawn (base := base) T
  have GK := ok_mask (base := base) T
  have GW := ok_lwords (base := base) T
  have GX := ok_walk (base := base) T
  have GF := ok_refused (base := base) T
  have GV := ok_variants (base := base) T
  obtain ⟨t0, FD, b1, b2⟩ := T.F_variants
  refine F.ok sc_law (fun vs H Q E h => ?_) (fun cdv A outer s H vs Q E hr h => ?_)
  · obtain ⟨a, ns, rfl, _⟩ := h
    rfl
  · obtain ⟨a, ns, rfl, hS, hlen, k⟩ := h
    have nd := sc_law.nd
    have hu := hr.units
    have hu65 : _ + 65 < cLine := Nat.lt_of_le_of_lt (Nat.add_le_add_left (show 65 ≤ 16 * 7 + 200 by decide) _) (by have := hr.un; omega)
    have hr1 : Room 1 _ := hr.mono (by decide)
    have hr2 : Room 2 _ := hr.mono (by decide)
    have hr3 : Room 3 _ := hr.mono (by decide)
    have hr4 : Room 4 _ := hr.mono (by decide)
    have hr5 : Room 5 _ := hr.mono (by decide)
    refine ⟨_, (@pss_cons _ _ _ _ _ (@ps_if _ _ _ _ _ _ _ _ (pt_not (pt_val (pe_call GE hr5 rfl T.m_law_edges T.k_law_edges T.b_law_edges .nil pass0 (@pa_cons _ _ _ _ _ (@pe_op _ _ _ _ _ _ _ _ op_add pe_int (pe_callB call_len_seq rfl T.n_len bt_len (@pa_cons _ _ _ _ _ (pv 0) pa_nil (by rfl)))) pa_nil (by rfl))))) (@pss_one _ _ _ (@ps_ret _ _ _ _ pe_bl)) pss_nil) (@pss_cons _ _ _ _ _ (@ps_set _ _ 1 _ _ _ _ nd rfl (Or.inr rfl) pe_int (by rfl) (by first | exact .inl rfl | exact .inr rfl | assumption)) (@pss_cons _ _ _ _ _ (@ps_if _ _ _ _ _ _ _ _ (@pt_cmpR _ _ _ _ _ _ _ _ op_gt (pe_callB call_len_seq rfl T.n_len bt_len (@pa_cons _ _ _ _ _ (pv 0) pa_nil (by rfl))) pe_int (nomark _)) (@pss_one _ _ _ (@ps_set _ _ 1 _ _ _ _ nd rfl (Or.inr rfl) (@pe_op _ _ _ _ _ _ _ _ op_mod (@pe_ix _ _ _ _ _ _ _ (ix_listK (K := K) rfl) (pv 0) pe_int (fun _ _ => rfl)) pe_int) (by rfl) (by first | exact .inl rfl | exact .inr rfl | assumption))) pss_nil) (@pss_cons _ _ _ _ _ (@ps_set _ _ 2 _ _ _ _ nd rfl (Or.inl rfl) (pe_slice sl_list (pv 0) (po_some pe_int) (po_some pe_int)) (by rfl) (by first | exact .inl rfl | exact .inr rfl | assumption)) (@pss_cons _ _ _ _ _ (@ps_for _ _ _ _ _ _ _ _ PassesOwn.never rfl (pi_range1 rfl T.n_range (@pa_cons _ _ _ _ _ (pe_callB call_len_seq rfl T.n_len bt_len (@pa_cons _ _ _ _ _ (pv 2) pa_nil (by rfl))) pa_nil (by rfl))) (pg_name (i := 3) nd rfl (Or.inl rfl)) (@pss_cons _ _ _ _ _ (@ps_set _ _ 4 _ _ _ _ nd rfl (Or.inl rfl) (pe_call GD hr1 rfl T.m_law_drawn T.k_law_drawn T.b_law_drawn .nil pass0 (@pa_cons _ _ _ _ _ (@pe_op _ _ _ _ _ _ _ _ op_add (@pe_ix _ _ _ _ _ _ _ (ix_listK (K := K) rfl) (pv 2) (pv 3) (fun _ _ => rfl)) (@pe_op _ _ _ _ _ _ _ _ op_mul pe_int (pv 3))) (@pa_cons _ _ _ _ _ pe_int pa_nil (by rfl)) (by rfl))) (by rfl) (by first | exact .inl rfl | exact .inr rfl | assumption)) (@pss_cons _ _ _ _ _ (ps_setcomp (i := 5) (defScope st_law) N_law ["_law_n"] [1] rfl (by exact ⟨rfl, rfl, by decide +kernel, rfl, by decide +kernel, by decide +kernel, by decide +kernel, rfl, by decide +kernel⟩) rfl rfl (pi_list (pe_slice sl_list (pv 4) (po_some pe_int) (po_some (@pe_op _ _ _ _ _ _ _ _ op_add pe_int (@pe_op _ _ _ _ _ _ _ _ op_mod (@pe_ix _ _ _ _ _ _ _ (ix_listK (K := K) rfl) (pv 4) pe_int (fun _ _ => rfl)) pe_int))))) (fun _ _ _ _ => pif_nil) (fun _ _ _ _ => (@pe_tup _ _ _ _ _ (@pa_cons _ _ _ _ _ (@pe_ix _ _ _ _ _ _ _ (ix_listK (K := K) rfl) (@pe_lst _ _ _ _ (@pa_cons _ _ _ _ _ pe_str (@pa_cons _ _ _ _ _ pe_str (@pa_cons _ _ _ _ _ pe_str (@pa_cons _ _ _ _ _ pe_str pa_nil (by rfl)) (by rfl)) (by rfl)) (by rfl))) (@pe_op _ _ _ _ _ _ _ _ op_mod (@pe_op _ _ _ _ _ _ _ _ op_fdiv (pv 0) pe_int) pe_int) (fun _ _ => rfl)) (@pa_cons _ _ _ _ _ (pe_call GK hr2 rfl T.m_law_mask T.k_law_mask T.b_law_mask .nil pass0 (@pa_cons _ _ _ _ _ (pv 0) (@pa_cons _ _ _ _ _ (pv 1) pa_nil (by rfl)) (by rfl))) pa_nil (by rfl)) (by rfl)))) nd rfl rfl rfl) (@pss_cons _ _ _ _ _ (@ps_set _ _ 6 _ _ _ _ nd rfl (Or.inl rfl) (pe_call GK hr2 rfl T.m_law_mask T.k_law_mask T.b_law_mask .nil pass0 (@pa_cons _ _ _ _ _ (@pe_op _ _ _ _ _ _ _ _ op_fdiv (@pe_ix _ _ _ _ _ _ _ (ix_listK (K := K) rfl) (pv 2) (pv 3) (fun _ _ => rfl)) pe_int) (@pa_cons _ _ _ _ _ (pv 1) pa_nil (by rfl)) (by rfl))) (by rfl) (by first | exact .inl rfl | exact .inr rfl | assumption)) (@pss_cons _ _ _ _ _ (@ps_set _ _ 7 _ _ _ _ nd rfl (Or.inl rfl) (pe_callTy (call_list_ofK (K := K) rfl) rfl T.n_list bt_list (@pa_cons _ _ _ _ _ (pv 5) pa_nil (by rfl))) (by rfl) (by first | exact .inl rfl | exact .inr rfl | assumption)) (@pss_cons _ _ _ _ _ (@ps_set _ _ 8 _ _ _ _ nd rfl (Or.inl rfl) (@pe_lst _ _ _ _ pa_nil) (by rfl) (by first | exact .inl rfl | exact .inr rfl | assumption)) (@pss_cons _ _ _ _ _ (@ps_for _ _ _ _ _ _ _ _ PassesOwn.never rfl (pi_range1 rfl T.n_range (@pa_cons _ _ _ _ _ (@pe_op _ _ _ _ _ _ _ _ op_shlB pe_int (pv 1)) pa_nil (by rfl))) (pg_name (i := 9) nd rfl (Or.inl rfl)) (@pss_one _ _ _ (@ps_if _ _ _ _ _ _ _ _ (PW.pt (pw_and (@pt_cmpR _ _ _ _ _ _ _ _ op_eq (@pe_op _ _ _ _ _ _ _ _ op_mod (@pe_op _ _ _ _ _ _ _ _ op_shr (pv 6) (pv 9)) pe_int) pe_int (nomark _)) (pw_and1 (@pt_cmpR _ _ _ _ _ _ _ _ (op_notInD (K := K) rfl hu65) (pe_call GW hr1 rfl T.m_law_words T.k_law_words T.b_law_words .nil pass0 (@pa_cons _ _ _ _ _ (pv 5) (@pa_cons _ _ _ _ _ (pv 9) pa_nil (by rfl)) (by rfl))) (pv 8) rfl)))) (@pss_one _ _ _ (@ps_expr _ _ _ _ (pe_bm PySem.F.plainAttrs_list PySem.F.slot_list_append PySem.F.type_list_append mt_append (pv 8) (@pa_cons _ _ _ _ _ (pe_call GW hr1 rfl T.m_law_words T.k_law_words T.b_law_words .nil pass0 (@pa_cons _ _ _ _ _ (pv 5) (@pa_cons _ _ _ _ _ (pv 9) pa_nil (by rfl)) (by rfl))) pa_nil (by rfl))) (by rfl))) pss_nil)) (by intro _; rfl)) (@pss_cons _ _ _ _ _ (@ps_if _ _ _ _ _ _ _ _ (@pt_cmpR _ _ _ _ _ _ _ _ op_gt (pe_callB call_len_seq rfl T.n_len bt_len (@pa_cons _ _ _ _ _ (pv 8) pa_nil (by rfl))) pe_int (nomark _)) (@pss_one _ _ _ (@ps_if _ _ _ _ _ _ _ _ (pt_not (pt_val (pe_call GF hr4 rfl T.m_law_refused T.k_law_refused T.b_law_refused .nil pass0 (@pa_cons _ _ _ _ _ (pv 7) (@pa_cons _ _ _ _ _ (pv 6) (@pa_cons _ _ _ _ _ (@pe_op _ _ _ _ _ _ _ _ op_mul (@pe_op _ _ _ _ _ _ _ _ op_mod (@pe_ix _ _ _ _ _ _ _ (ix_listK (K := K) rfl) (pv 4) pe_int (fun _ _ => rfl)) pe_int) (@pe_ix _ _ _ _ _ _ _ (ix_listK (K := K) rfl) (pv 4) pe_int (fun _ _ => rfl))) pa_nil (by rfl)) (by rfl)) (by rfl))))) (@pss_one _ _ _ (@ps_ret _ _ _ _ pe_bl)) pss_nil)) (@pss_cons _ _ _ _ _ (@ps_set _ _ 10 _ _ _ _ nd rfl (Or.inl rfl) (pe_call GV hr3 rfl T.m_variants T.k_variants b1 .nil pass20 (@pa_cons _ _ _ _ _ (pv 7) (@pa_cons _ _ _ _ _ (pv 6) (@pa_cons _ _ _ _ _ (@pe_ix _ _ _ _ _ _ _ (ix_listK (K := K) rfl) (pv 4) pe_int (fun _ _ => rfl)) pa_nil (by rfl)) (by rfl)) (by rfl))) (by rfl) (by first | exact .inl rfl | exact .inr rfl | assumption)) (@pss_one _ _ _ (@ps_if _ _ _ _ _ _ _ _ (PW.pt (pw_or (pt_not (pt_val (pe_callB (call_isinst (n := "list")) rfl T.n_isinstance bt_isi (@pa_cons _ _ _ _ _ (pv 10) (@pa_cons _ _ _ _ _ (pe_bltn (v := .ty "list") rfl T.n_list bt_list rfl) pa_nil (by rfl)) (by rfl))))) (pw_or1 (pt_not (pt_val (pe_call GX hr2 rfl T.m_law_walked T.k_law_walked T.b_law_walked .nil pass0 (@pa_cons _ _ _ _ _ (pv 10) (@pa_cons _ _ _ _ _ (pv 5) (@pa_cons _ _ _ _ _ (pv 6) pa_nil (by rfl)) (by rfl)) (by rfl)))))))) (@pss_one _ _ _ (@ps_ret _ _ _ _ pe_bl)) pss_nil)))) (@pss_one _ _ _ (@ps_if _ _ _ _ _ _ _ _ (@pt_cmpR _ _ _ _ _ _ _ _ (op_neD (K := K) rfl hu) (pv 7) (pv 5) (nomark _)) (@pss_one _ _ _ (@ps_ret _ _ _ _ pe_bl)) pss_nil))))))))) (by intro _; rfl)) (@pss_one _ _ _ (@ps_ret _ _ _ _ (pe_and (@pe_cmpR _ _ _ _ _ _ _ _ (op_eqD (K := K) rfl hu) (pe_call GV hr3 rfl T.m_variants T.k_variants b2 (.cons ⟨t0, rfl⟩ .nil : Vals [V.int 0] [Value.int 0 t0]) pass20 (@pa_cons _ _ _ _ _ (@pe_lst _ _ _ _ pa_nil) (@pa_cons _ _ _ _ _ pe_int pa_nil (by rfl)) (by rfl))) (@pe_lst _ _ _ _ (@pa_cons _ _ _ _ _ (@pe_tup _ _ _ _ _ (@pa_cons _ _ _ _ _ pe_int (@pa_cons _ _ _ _ _ (@pe_tup _ _ _ _ _ pa_nil) pa_nil (by rfl)) (by rfl))) pa_nil (by rfl))) (nomark _)) (pe_one (@pe_cmpR _ _ _ _ _ _ _ _ (op_eqD (K := K) rfl hu) (pe_call GV hr3 rfl T.m_variants T.k_variants b2 (.cons ⟨t0, rfl⟩ .nil : Vals [V.int 0] [Value.int 0 t0]) pass20 (@pa_cons _ _ _ _ _ (@pe_lst _ _ _ _ (@pa_cons _ _ _ _ _ (@pe_tup _ _ _ _ _ (@pa_cons _ _ _ _ _ pe_str (@pa_cons _ _ _ _ _ pe_int pa_nil (by rfl)) (by rfl))) pa_nil (by rfl))) (@pa_cons _ _ _ _ _ pe_int pa_nil (by rfl)) (by rfl))) (@pe_lst _ _ _ _ pa_nil) (nomark _))))))))))), ?_⟩
    refine ⟨_, rfl, a, _, rfl, .inl hS, _, _, rfl, rfl, _, rfl, fun H0 s0 => ⟨_, rfl, iteF ?_⟩⟩
    have hS0 := s0.seq hS
    clear hS s0
    refine seq_c ?_
    dsimp only [gName]
    refine cut_if (fun σ' H' => H' = H0 ∧ ∃ n : Nat, n ≤ 6 ∧ σ' = [some (.ref a), some (.int (n : Nat)), none, none, none, none, none, none, none, none, none]) (fun R hR => ?_) ?_
    · refine ⟨_, rfl, a, _, rfl, .inl hS0, _, _, rfl, rfl, _, rfl, ?_⟩
      rw [List.length_map]
      refine ite2 (fun h1 => ?_) (fun h1 => hR _ _ ⟨rfl, 0, by decide, rfl⟩)
      have h1 : (0 : Int) < (ns.length : Int) := of_decide_eq_true h1
      have at0 : atI (ns.map V.int) (0 : Int) = some (.int (ns[0]'(by omega))) := atI_nat (j := 0) (by rw [List.getElem?_map, List.getElem?_eq_getElem (by omega)]; rfl)
      refine ⟨_, rfl, a, _, _, _, rfl, rfl, hS0, at0, _, _, rfl, rfl, (by show (0 : Int) < 7; decide), ?_⟩
      refine hR _ _ ⟨rfl, (ns[0]'(by omega) % 7).toNat, by omega, ?_⟩
      rw [show (((ns[0]'(by omega) % 7).toNat : Nat) : Int) = ns[0]'(by omega) % 7 by omega]
      rfl
    rintro σ H1 ⟨rfl, n, hn, rfl⟩
    obtain ⟨cs, ecs, hcl⟩ := cut15 ns
    refine ⟨_, rfl, _, rfl, _, rfl, a, _, rfl, hS0, fun pc hpc => ?_⟩
    rw [ecs]
    have hC : upd H1 pc (.lst (cs.map V.int)) pc = some (.lst (cs.map V.int)) := upd_same
    dsimp only [gName]
    generalize upd H1 pc (.lst (cs.map V.int)) = H2 at hC ⊢
    clear hS0 ecs hpc
    have h2n : 2 ^ n ≤ 64 := Nat.pow_le_pow_right (by decide) hn
    have h2p : 0 < 2 ^ n := Nat.two_pow_pos n
    refine cut_for (fun σ' H' => ∃ s3 s4 s5 s6 s7 s8 s9 s10 : Option V, σ' = [some (.ref a), some (.int (n : Nat)), some (.ref pc), s3, s4, s5, s6, s7, s8, s9, s10]) (fun R hR => ?_) ?_
    · refine ⟨_, rfl, pc, _, rfl, .inl (SqL.of hC), ?_⟩
      rw [List.length_map]
      refine ⟨_, rfl, by omega, by omega, ?_⟩
      rw [Int.toNat_natCast]
      refine for_range (D := ⟨R, _, R, R⟩) (fun i σ' H' => Same H2 H' ∧ ∃ s3 s4 s5 s6 s7 s8 s9 s10 : Option V, σ' = [some (.ref a), some (.int (n : Nat)), some (.ref pc), s3, s4, s5, s6, s7, s8, s9, s10]) ⟨Same.refl _, none, none, none, none, none, none, none, none, rfl⟩ ?_ (fun σ' H' ⟨_, h⟩ => hR _ _ h)
      rintro i σ' H3 hi ⟨sm, s3, s4, s5, s6, s7, s8, s9, s10, rfl⟩
      rw [Int.zero_add]
      have ac : atI (cs.map V.int) ((i : Nat) : Int) = some (.int cs[i]) := atI_nat (by rw [List.getElem?_map, List.getElem?_eq_getElem hi]; rfl)
      have hC3 := sm _ _ hC
      refine ⟨_, rfl, _, rfl, pc, _, _, _, rfl, rfl, SqL.of hC3, ac, _, rfl, _, _, rfl, rfl, .inl ⟨by decide, by decide⟩, _, _, rfl, rfl, _, 12, rfl, by decide, fun px zs hpx hzl hzb => ?_⟩
      have sx := same_upd (o := .lst (zs.map V.int)) hpx
      have hX : upd H3 px (.lst (zs.map V.int)) px = some (.lst (zs.map V.int)) := upd_same
      have sm4 := sm.trans sx
      dsimp only [gName]
      generalize upd H3 px (.lst (zs.map V.int)) = H4 at hX sm4 ⊢
      clear sx hpx
      have az : ∀ {j : Nat} (h : j < 12), atI (zs.map V.int) ((j : Nat) : Int) = some (.int (zs[j]'(by omega))) := fun {j} h => atI_nat (by rw [List.getElem?_map, List.getElem?_eq_getElem (by omega)]; rfl)
      -- the row
      refine ⟨_, rfl, _, rfl, _, rfl, px, _, _, _, rfl, rfl, SqL.of hX, az (j := 2) (by decide), _, _, rfl, rfl, (by show (0 : Int) < 10; decide), _, _, rfl, rfl, _, rfl, px, _, rfl, SqL.of hX, fun pl hpl => ?_⟩
      obtain ⟨ds, eds, hdl, hdm⟩ := cut_int zs (some 3) (some ((3 : Int) + (zs[2]'(by omega) : Int) % 10))
      rw [eds]
      have hD : upd H4 pl (.lst (ds.map V.int)) pl = some (.lst (ds.map V.int)) := upd_same
      have sl := same_upd (o := .lst (ds.map V.int)) hpl
      have sm5 := sm4.trans sl
      have hX5 := sl _ _ hX
      generalize upd H4 pl (.lst (ds.map V.int)) = H5 at hD sm5 hX5 ⊢
      clear sl hpl
      refine ⟨pl, rfl, ⟨_, SqL.of hD⟩, ?_⟩
      refine comp_list (K := K) (a := pl) (xs := ds.map V.int) (fun j ys H' => Same H5 H' ∧ j ≤ 12 ∧ ∃ (ts : List Addr) (r : List (Str × Nat)), ys = ts.map V.ref ∧ TupL H' ts r ∧ r.length = j ∧ ∀ w' ∈ r, w'.1 ∈ wds4 ∧ w'.2 < 2 ^ 2 ^ n)
        ⟨Same.refl _, Nat.zero_le _, [], [], rfl, TupL.nil _, rfl, by simp⟩ (fun j ys H' _ ⟨e, _⟩ => SqL.of (e _ _ hD)) ?_ ?_
      · rintro j y ys H6 hy ⟨s6', _, ts, r, rfl, htl, hrj, hr4'⟩
        have hj : j < ds.length := by
          have := (List.getElem?_eq_some_iff.mp hy).1
          rw [List.length_map] at this; exact this
        have ey : y = V.int ds[j] := by rw [List.getElem?_map, List.getElem?_eq_getElem hj] at hy; exact (Option.some.inj hy).symm
        subst ey
        refine tYes_ok ?_
        rw [if_pos rfl]
        refine ⟨(by show 4 ≤ sizeLine; decide), fun p4 hp4 => ?_⟩
        rw [show ([.str "x", .str "y", .str "tell", .str "x"] : List V) = wds4.map V.str from rfl]
        obtain ⟨wv, hwm, hwa⟩ := at_of_mod (l := wds4.map V.str) (x := ds[j] / 7) (by simp [wds4])
        obtain ⟨z, hz, rfl⟩ := List.mem_map.mp hwm
        rw [show ((wds4.map V.str).length : Int) = 4 from rfl] at hwa
        have s7' := same_upd (o := .lst (wds4.map V.str)) hp4
        refine ⟨_, rfl, _, _, rfl, rfl, ⟨by decide, by decide⟩, _, _, rfl, rfl, (by show (0 : Int) < 4; decide), p4, _, _, _, rfl, rfl, SqL.of upd_same, hwa, ?_⟩
        refine ⟨_, rfl, _, rfl, _, n, rfl, by omega, fun mm H7 hmm s8' => ⟨(by show 2 ≤ sizeLine; decide), fun t ht => ?_⟩⟩
        have s9' := same_upd (o := .tup [.str z, .int ((mm : Nat) : Int)]) ht
        have s69 := (s7'.trans s8').trans s9'
        have htl' := htl.1
        refine ⟨by rw [List.length_map]; exact small1000 (by omega), s6'.trans s69, by omega, ts ++ [t], r ++ [(z, mm)], by simp, (htl.same s69).snoc (by rw [upd_same]), by simp [hrj], fun w' hw' => ?_⟩
        rcases List.mem_append.mp hw' with q | q
        · exact hr4' w' q
        · have : w' = (z, mm) := by simpa using q
          subst this
          exact ⟨hz, hmm⟩
      rintro ys H6 ⟨s6', hd12, ts, r, rfl, htl, hrj, hr4'⟩ pr hpr
      have spr := same_upd (o := .lst (ts.map V.ref)) hpr
      have hRow : RowAt (upd H6 pr (.lst (ts.map V.ref))) pr r := ⟨ts, upd_same, htl.same spr⟩
      have hRts : upd H6 pr (.lst (ts.map V.ref)) pr = some (.lst (ts.map V.ref)) := upd_same
      have htl6 := htl.same spr
      have sm6 := (sm5.trans s6').trans spr
      have hX6 := spr _ _ (s6' _ _ hX5)
      dsimp only [gName]
      generalize upd H6 pr (.lst (ts.map V.ref)) = H7 at hRow hRts htl6 sm6 hX6 ⊢
      clear spr hpr htl hD hX5 hX
      have hw128 : W128 r := fun w' hw' => wds4_128 _ (hr4' w' hw').1
      have hrl : r.length ≤ 1000 := by rw [hrj]; exact Nat.le_trans hd12 (by decide)
      -- the mask
      refine ⟨_, rfl, _, rfl, pc, _, _, _, rfl, rfl, SqL.of (sm6 _ _ hC), ac, _, _, rfl, rfl, ⟨by decide, by decide⟩, _, rfl, _, n, rfl, by omega, fun mk H8 hmk s8' => ?_⟩
      have hRow := hRow.same s8'
      have hRts := s8' _ _ hRts
      have htl8 := htl6.same s8'
      have sm8 := sm6.trans s8'
      have hX8 := s8' _ _ hX6
      clear hX6 htl6
      have hmk64 : mk < 2 ^ 1024 := Nat.lt_of_lt_of_le hmk (Nat.pow_le_pow_right (by decide) (by omega))
      -- handed
      refine ⟨_, rfl, pr, _, rfl, .inl (SqL.of hRts), fun ph hph => ?_⟩
      have sph := same_upd (o := .lst (ts.map V.ref)) hph
      have hHand : RowAt (upd H8 ph (.lst (ts.map V.ref))) ph r := ⟨ts, upd_same, htl8.same sph⟩
      have hRow := hRow.same sph
      have sm9 := sm8.trans sph
      have hX9 := sph _ _ hX8
      dsimp only [gName]
      generalize upd H8 ph (.lst (ts.map V.ref)) = H9 at hHand hRow sm9 hX9 ⊢
      clear sph hph htl8 hRts hX8
      refine ⟨Nat.zero_le _, fun pu hpu => ?_⟩
      have spu : ∀ {H' : Hp} {o : HO}, Same H9 H' → Same H9 (upd H' pu o) := fun s b u e => by rw [upd_ne (ne_of_none e hpu)]; exact s b u e
      dsimp only [gName]
      refine cut_for (fun σ' H' => Same H9 H' ∧ WsAt H' pu (keys (varsOf r mk)) ∧ ∃ s9 : Option V, σ' = [some (.ref a), some (.int (n : Nat)), some (.ref pc), some (.int ((i : Nat) : Int)), some (.ref px), some (.ref pr), some (.int ((mk : Nat) : Int)), some (.ref ph), some (.ref pu), s9, s10]) (fun R2 hR2 => ?_) ?_
      · refine ⟨_, rfl, _, _, rfl, rfl, one_shl (by omega), _, rfl, ?_⟩
        dsimp only
        rw [shl_n]
        refine ⟨(by generalize 2 ^ n = N at h2n ⊢; omega), (by generalize 2 ^ n = N at h2n ⊢; omega), ?_⟩
        rw [Int.toNat_natCast]
        refine for_range (D := ⟨R2, _, R2, R2⟩) (fun j σ' H' => Same H9 H' ∧ WsAt H' pu (keys (vrun (fun s => cutR s r) (setsOf mk j))) ∧ ∃ s9 : Option V, σ' = [some (.ref a), some (.int (n : Nat)), some (.ref pc), some (.int ((i : Nat) : Int)), some (.ref px), some (.ref pr), some (.int ((mk : Nat) : Int)), some (.ref ph), some (.ref pu), s9, s10])
          ⟨spu (Same.refl _), ⟨[], upd_same, rfl, fun j b ws h => by simp at h⟩, s9, rfl⟩ ?_ ?_
        · rintro j σ' H10 hj ⟨sm10, hWs, s9, rfl⟩
          rw [Int.zero_add]
          have hj64 : j < 64 := Nat.lt_of_lt_of_le hj h2n
          have hss := sets_succ mk j
          have hpwj := sets_pw mk j
          have vi : VI (fun s => cutR s r) (setsOf mk j) (vrun (fun s => cutR s r) (setsOf mk j)) := vi_all hpwj
          have k128 := keys_128 hw128 vi
          have hvl := vrun_len (fun s => cutR s r) (setsOf mk j)
          have hsl := sets_len mk j
          have e1 : vrun (fun s => cutR s r) (setsOf mk j ++ [j]) = vstep (fun s => cutR s r) (vrun (fun s => cutR s r) (setsOf mk j)) j := vrun_snoc _ _ _
          have eks := keys_step (fun s => cutR s r) (vrun (fun s => cutR s r) (setsOf mk j)) j
          refine ⟨_, rfl, _, rfl, _, _, rfl, rfl, by omega, _, _, rfl, rfl, (by show (0 : Int) < 2; decide), rfl, _, rfl, ?_⟩
          rw [odd_val]
          cases hb : mk.testBit j with
          | false =>
            rw [hb, if_neg Bool.false_ne_true] at hss
            refine iteF (iteF ?_)
            exact ⟨sm10, by rw [hss]; exact hWs, _, rfl⟩
          | true =>
            rw [hb, if_pos rfl] at hss
            rw [hss, e1]
            generalize vrun (fun s => cutR s r) (setsOf mk j) = M at hWs vi k128 hvl eks ⊢
            refine iteT ?_
            refine ⟨_, rfl, _, rfl, pr, r, j, rfl, hRow.same sm10, hrl, fun pw H11 hpw11 s11 hpw => ?_⟩
            have shq := shd_w (cut_128 hw128 j)
            have shl : Shd 2 (.list ((keys M).map wPD)) := shd_wl fun ws hws => by
              obtain ⟨q', hq', rfl⟩ := List.mem_map.mp hws
              exact k128 q' hq'
            have hWs11 := hWs.same s11
            refine ⟨_, rfl, _, _, rdv_w hpw, hWs11.rdv, shq.ok (by decide), shl.ok (by decide), _, rfl, ?_⟩
            rw [any_w]
            by_cases hin : cutR j r ∈ keys M
            · rw [if_pos hin] at eks
              rw [decide_eq_true hin]
              refine iteF ?_
              exact ⟨sm10.trans s11, by rw [eks]; exact hWs11, _, rfl⟩
            · rw [if_neg hin] at eks
              rw [decide_eq_false hin]
              refine iteT ?_
              have hWx := hWs11
              obtain ⟨bs, hbs, hbl, _⟩ := hWx
              refine ⟨_, rfl, .inl ⟨rfl, _, SqL.of hbs⟩, _, rfl, _, rfl, pr, r, j, rfl, (hRow.same sm10).same s11, hrl, fun pw2 H12 hpw12 s12 hpw2 => ?_⟩
              obtain ⟨xs, hxs, hxl, hpush⟩ := (hWs11.same s12).push hpw2
              have hkl : (keys M).length ≤ 64 := by rw [List.length_map]; omega
              refine ⟨pu, _, _, rfl, rfl, hxs, (by rw [hxl]; exact small1000 (by omega)), ?_⟩
              exact ⟨spu ((sm10.trans s11).trans s12), by rw [eks]; exact hpush, _, rfl⟩
        · rintro σ' H10 ⟨sm10, hWs, s9, rfl⟩
          rw [← vars_lit (r := r) hmk] at hWs
          exact hR2 _ _ ⟨sm10, hWs, s9, rfl⟩
      rintro σ' H10 ⟨sm10, hWs, s9, rfl⟩
      obtain ⟨bs, hbs, hbl, _⟩ := hWs
      have hlu : (bs.map V.ref).length = (varsOf r mk).length := by rw [List.length_map, hbl, List.length_map]
      have hHand10 := hHand.same sm10
      have hRow10 := hRow.same sm10
      have hX10 := sm10 _ _ hX9
      refine cut_if (fun σ' H' => Same H9 H' ∧ ∃ s10 : Option V, σ' = [some (.ref a), some (.int (n : Nat)), some (.ref pc), some (.int ((i : Nat) : Int)), some (.ref px), some (.ref pr), some (.int ((mk : Nat) : Int)), some (.ref ph), some (.ref pu), s9, s10]) (fun R3 hR3 => ?_) ?_
      · refine ⟨_, rfl, pu, _, rfl, .inl (SqL.of hbs), _, _, rfl, rfl, _, rfl, ?_⟩
        rw [hlu]
        by_cases h16 : 16 < (varsOf r mk).length
        · rw [decide_eq_true (by omega)]
          refine iteT ?_
          refine ⟨_, rfl, _, rfl, _, rfl, px, _, _, _, rfl, rfl, SqL.of hX10, az (j := 1) (by decide), _, _, rfl, rfl, (by show (0 : Int) < 3; decide), _, rfl, px, _, _, _, rfl, rfl, SqL.of hX10, az (j := 0) (by decide), _, _, rfl, rfl, .inl ⟨by omega, by omega⟩, ?_⟩
          exact ⟨ph, r, mk, _, rfl, hHand10, hrl, hmk64, h16, fun H11 s11 => ⟨_, rfl, iteF (hR3 _ _ ⟨sm10.trans s11, _, rfl⟩)⟩⟩
        · rw [decide_eq_false (by omega)]
          refine iteF ?_
          refine ⟨_, rfl, _, rfl, _, rfl, px, _, _, _, rfl, rfl, SqL.of hX10, az (j := 1) (by decide), ph, r, mk, _, rfl, hHand10, hrl, hmk64, (fun hle p H11 hp s11 hV => ?_), fun z => absurd z h16⟩
          dsimp only [gName]
          obtain ⟨tv, htv, _⟩ := hV.ex
          refine ⟨_, rfl, _, _, true, rfl, .lst htv, kit_list_list _, _, rfl, iteF ?_⟩
          exact ⟨_, rfl, _, rfl, _, rfl, p, pr, r, mk, rfl, hV, hle, hRow10.same s11, hrl, hw128, hmk64, fun H12 s12 => ⟨_, rfl, iteF (hR3 _ _ ⟨(sm10.trans s11).trans s12, _, rfl⟩)⟩⟩
      rintro σ' H11 ⟨sm11, s10, rfl⟩
      have shr := shd_row hw128
      refine ⟨_, rfl, _, rfl, _, _, (hHand.same sm11).rdv, (hRow.same sm11).rdv, shr.ok (by decide), shr.ok (by decide), _, rfl, ?_⟩
      rw [shr.refl]
      refine iteF ?_
      exact ⟨sm9.trans sm11, _, _, _, _, _, _, _, _, rfl⟩
    rintro σ' H3 ⟨s3, s4, s5, s6, s7, s8, s9, s10, rfl⟩
    refine ⟨Nat.zero_le _, fun p0 hp0 => ?_⟩
    refine ⟨p0, [], 1, .int 0, rfl, ⟨[], upd_same, TupL.nil _⟩, by decide, Nat.one_lt_two_pow (by decide), (fun _ p H4 hp s4' hV => ?_), fun z => ?_⟩
    · rw [v_one] at hV
      refine ⟨Nat.zero_le _, fun q0 hq0 => ⟨(by show 2 ≤ sizeLine; decide), fun q1 hq1 => ⟨(by show 1 ≤ sizeLine; decide), fun q2 hq2 => ?_⟩⟩⟩
      have n01 : q0 ≠ q1 := ne_of_none upd_same hq1
      have s1' := same_upd (o := .tup []) hq0
      have s2' := same_upd (o := .tup [.int 1, .ref q0]) hq1
      have s3' := same_upd (o := .lst [.ref q1]) hq2
      have h0 : upd (upd H4 q0 (.tup [])) q1 (.tup [.int 1, .ref q0]) q0 = some (.tup []) := by rw [upd_ne n01, upd_same]
      have sh1 : Shd 3 (varPD [([], 1)]) := Shd.list fun d hd => by
        have : d = .tuple [.int 1, wPD []] := by simpa using hd
        subst this
        refine (Shd.tuple (n := 1) fun e he => ?_)
        rcases (show e = _ ∨ e = _ by simpa using he) with z | z <;> subst z
        · exact (Shd.int _).up (by decide)
        · exact shd_w (ws := []) (by simp)
      have lit : Rdv K (upd (upd (upd H4 q0 (.tup [])) q1 (.tup [.int 1, .ref q0])) q2 (.lst [.ref q1])) (.ref q2) (varPD [([], 1)]) :=
        .lst (SqL.of upd_same) (.cons (.tup (SqT.of (s3' _ _ upd_same)) (.cons (.int _) (.cons (rdv_w (ws := []) (s3' _ _ h0)) .nil))) .nil)
      refine ⟨_, _, (((hV.same s1').same s2').same s3').rdv, lit, sh1.ok (by decide), sh1.ok (by decide), _, rfl, ?_⟩
      rw [sh1.refl, if_pos rfl]
      refine ⟨(by show 2 ≤ sizeLine; decide), fun q3 hq3 => ⟨(by show 1 ≤ sizeLine; decide), fun q4 hq4 => ?_⟩⟩
      have n34 : q3 ≠ q4 := ne_of_none upd_same hq4
      refine ⟨q4, [("x", 1)], 0, .int 0, rfl, ⟨[q3], upd_same, rfl, fun i t w' e1 e2 => ?_⟩, by decide, Nat.two_pow_pos _, (fun _ p2 H6 hp2 s6' hV2 => ?_), fun z => ?_⟩
      · have ei : i = 0 := by
          have := (List.getElem?_eq_some_iff.mp e1).1
          simpa using this
        subst ei
        have et : q3 = t := by simpa using e1
        have ew : (("x" : Str), (1 : Nat)) = w' := by simpa using e2
        subst et ew
        rw [upd_ne n34, upd_same]
        rfl
      · rw [v_none] at hV2
        refine ⟨Nat.zero_le _, fun q5 hq5 => ?_⟩
        have sh2 : Shd 1 (varPD []) := Shd.list fun d hd => by simp at hd
        have lit2 : Rdv K (upd H6 q5 (.lst [])) (.ref q5) (varPD []) := .lst (SqL.of upd_same) .nil
        refine ⟨varPD [], varPD [], (hV2.same (same_upd hq5)).rdv, lit2, sh2.ok (by decide), sh2.ok (by decide), ?_⟩
        rw [sh2.refl]
        exact k _
      · rw [v_none] at z
        exact absurd z (by decide)
    · rw [v_one] at z
      exact absurd z (by decide)
end
theorem all_mk {l : PySem.W.OpenLaw} {w : World} {K : PySem.W.Frag} {h : Heap} {mg : Str → Option Value} {fa f_has f_settings f_cut_row f_variants f_law_drawn f_law_mask f_law_words f_law_walked f_law_refused f_law_switch f_law_edges f_TooMany_init f_law t_variants x_MakesError x_NoGroup x_TooMany : Addr} (X : K.In h) (G : h.Ns mainGlobals mg) (hfa : mg "law" = some (.ref fa))
    {ocT_variants : Value} {odT_variants : Option Addr} {nT_variants : Nat} {slT_variants : Array (Option Value)} {tok_variants : Tok}
    {od_has an_has od_settings an_settings od_cut_row an_cut_row od_variants an_variants od_law_drawn an_law_drawn od_law_mask an_law_mask od_law_words an_law_words od_law_walked an_law_walked od_law_refused an_law_refused od_law_switch an_law_switch od_law_edges an_law_edges od_TooMany_init an_TooMany_init od_law an_law : Option Addr} {sl_has sl_settings sl_cut_row sl_variants sl_law_drawn sl_law_mask sl_law_words sl_law_walked sl_law_refused sl_law_switch sl_law_edges sl_TooMany_init sl_law : Array (Option Value)} {oc_has kV_has dc_has pm_has cd_has ct_has oc_settings kV_settings dc_settings pm_settings cd_settings ct_settings oc_cut_row kV_cut_row dc_cut_row pm_cut_row cd_cut_row ct_cut_row oc_variants kV_variants dc_variants pm_variants cd_variants ct_variants oc_law_drawn kV_law_drawn dc_law_drawn pm_law_drawn cd_law_drawn ct_law_drawn oc_law_mask kV_law_mask dc_law_mask pm_law_mask cd_law_mask ct_law_mask oc_law_words kV_law_words dc_law_words pm_law_words cd_law_words ct_law_words oc_law_walked kV_law_walked dc_law_walked pm_law_walked cd_law_walked ct_law_walked oc_law_refused kV_law_refused dc_law_refused pm_law_refused cd_law_refused ct_law_refused oc_law_switch kV_law_switch dc_law_switch pm_law_switch cd_law_switch ct_law_switch oc_law_edges kV_law_edges dc_law_edges pm_law_edges cd_law_edges ct_law_edges oc_TooMany_init kV_TooMany_init dc_TooMany_init pm_TooMany_init cd_TooMany_init ct_TooMany_init oc_law kV_law dc_law pm_law cd_law ct_law : Value}
    {t_MOST_VARIANTS : Tok}
    (a_has : PySem.W.nsIn K mainGlobals "has" = some (some (.ref f_has)))
    (l_has : K.lookup f_has = some ⟨oc_has, od_has, .func (PySem.W.fnOf "has" "has" (defArgs st_has) (defBody st_has) (defScope st_has) .none kV_has dc_has pm_has an_has cd_has ct_has), sl_has⟩)
    (c_has' : PySem.W.codeIn K cd_has "has" = true)
    (k_has : PySem.W.keepIn K (.ref f_has) = true)
    (a_settings : PySem.W.nsIn K mainGlobals "settings" = some (some (.ref f_settings)))
    (l_settings : K.lookup f_settings = some ⟨oc_settings, od_settings, .func (PySem.W.fnOf "settings" "settings" (defArgs st_settings) (defBody st_settings) (defScope st_settings) .none kV_settings dc_settings pm_settings an_settings cd_settings ct_settings), sl_settings⟩)
    (c_settings' : PySem.W.codeIn K cd_settings "settings" = true)
    (k_settings : PySem.W.keepIn K (.ref f_settings) = true)
    (a_cut_row : PySem.W.nsIn K mainGlobals "cut_row" = some (some (.ref f_cut_row)))
    (l_cut_row : K.lookup f_cut_row = some ⟨oc_cut_row, od_cut_row, .func (PySem.W.fnOf "cut_row" "cut_row" (defArgs st_cut_row) (defBody st_cut_row) (defScope st_cut_row) .none kV_cut_row dc_cut_row pm_cut_row an_cut_row cd_cut_row ct_cut_row), sl_cut_row⟩)
    (c_cut_row' : PySem.W.codeIn K cd_cut_row "cut_row" = true)
    (k_cut_row : PySem.W.keepIn K (.ref f_cut_row) = true)
    (a_variants : PySem.W.nsIn K mainGlobals "variants" = some (some (.ref f_variants)))
    (l_variants : K.lookup f_variants = some ⟨oc_variants, od_variants, .func (PySem.W.fnOf "variants" "variants" (defArgs st_variants) (defBody st_variants) (defScope st_variants) (.ref t_variants) kV_variants dc_variants pm_variants an_variants cd_variants ct_variants), sl_variants⟩)
    (lt_variants : K.lookup t_variants = some ⟨ocT_variants, odT_variants, .seq #[.int 0 tok_variants] nT_variants, slT_variants⟩)
    (c_variants' : PySem.W.codeIn K cd_variants "variants" = true)
    (k_variants : PySem.W.keepIn K (.ref f_variants) = true)
    (a_law_drawn : PySem.W.nsIn K mainGlobals "_law_drawn" = some (some (.ref f_law_drawn)))
    (l_law_drawn : K.lookup f_law_drawn = some ⟨oc_law_drawn, od_law_drawn, .func (PySem.W.fnOf "_law_drawn" "_law_drawn" (defArgs st_law_drawn) (defBody st_law_drawn) (defScope st_law_drawn) .none kV_law_drawn dc_law_drawn pm_law_drawn an_law_drawn cd_law_drawn ct_law_drawn), sl_law_drawn⟩)
    (c_law_drawn' : PySem.W.codeIn K cd_law_drawn "_law_drawn" = true)
    (k_law_drawn : PySem.W.keepIn K (.ref f_law_drawn) = true)
    (a_law_mask : PySem.W.nsIn K mainGlobals "_law_mask" = some (some (.ref f_law_mask)))
    (l_law_mask : K.lookup f_law_mask = some ⟨oc_law_mask, od_law_mask, .func (PySem.W.fnOf "_law_mask" "_law_mask" (defArgs st_law_mask) (defBody st_law_mask) (defScope st_law_mask) .none kV_law_mask dc_law_mask pm_law_mask an_law_mask cd_law_mask ct_law_mask), sl_law_mask⟩)
    (c_law_mask' : PySem.W.codeIn K cd_law_mask "_law_mask" = true)
    (k_law_mask : PySem.W.keepIn K (.ref f_law_mask) = true)
    (a_law_words : PySem.W.nsIn K mainGlobals "_law_words" = some (some (.ref f_law_words)))
    (l_law_words : K.lookup f_law_words = some ⟨oc_law_words, od_law_words, .func (PySem.W.fnOf "_law_words" "_law_words" (defArgs st_law_words) (defBody st_law_words) (defScope st_law_words) .none kV_law_words dc_law_words pm_law_words an_law_words cd_law_words ct_law_words), sl_law_words⟩)
    (c_law_words' : PySem.W.codeIn K cd_law_words "_law_words" = true)
    (k_law_words : PySem.W.keepIn K (.ref f_law_words) = true)
    (a_law_walked : PySem.W.nsIn K mainGlobals "_law_walked" = some (some (.ref f_law_walked)))
    (l_law_walked : K.lookup f_law_walked = some ⟨oc_law_walked, od_law_walked, .func (PySem.W.fnOf "_law_walked" "_law_walked" (defArgs st_law_walked) (defBody st_law_walked) (defScope st_law_walked) .none kV_law_walked dc_law_walked pm_law_walked an_law_walked cd_law_walked ct_law_walked), sl_law_walked⟩)
    (c_law_walked' : PySem.W.codeIn K cd_law_walked "_law_walked" = true)
    (k_law_walked : PySem.W.keepIn K (.ref f_law_walked) = true)
    (a_law_refused : PySem.W.nsIn K mainGlobals "_law_refused" = some (some (.ref f_law_refused)))
    (l_law_refused : K.lookup f_law_refused = some ⟨oc_law_refused, od_law_refused, .func (PySem.W.fnOf "_law_refused" "_law_refused" (defArgs st_law_refused) (defBody st_law_refused) (defScope st_law_refused) .none kV_law_refused dc_law_refused pm_law_refused an_law_refused cd_law_refused ct_law_refused), sl_law_refused⟩)
    (c_law_refused' : PySem.W.codeIn K cd_law_refused "_law_refused" = true)
    (k_law_refused : PySem.W.keepIn K (.ref f_law_refused) = true)
    (a_law_switch : PySem.W.nsIn K mainGlobals "_law_switch" = some (some (.ref f_law_switch)))
    (l_law_switch : K.lookup f_law_switch = some ⟨oc_law_switch, od_law_switch, .func (PySem.W.fnOf "_law_switch" "_law_switch" (defArgs st_law_switch) (defBody st_law_switch) (defScope st_law_switch) .none kV_law_switch dc_law_switch pm_law_switch an_law_switch cd_law_switch ct_law_switch), sl_law_switch⟩)
    (c_law_switch' : PySem.W.codeIn K cd_law_switch "_law_switch" = true)
    (k_law_switch : PySem.W.keepIn K (.ref f_law_switch) = true)
    (a_law_edges : PySem.W.nsIn K mainGlobals "_law_edges" = some (some (.ref f_law_edges)))
    (l_law_edges : K.lookup f_law_edges = some ⟨oc_law_edges, od_law_edges, .func (PySem.W.fnOf "_law_edges" "_law_edges" (defArgs st_law_edges) (defBody st_law_edges) (defScope st_law_edges) .none kV_law_edges dc_law_edges pm_law_edges an_law_edges cd_law_edges ct_law_edges), sl_law_edges⟩)
    (c_law_edges' : PySem.W.codeIn K cd_law_edges "_law_edges" = true)
    (k_law_edges : PySem.W.keepIn K (.ref f_law_edges) = true)
    (a_law : PySem.W.nsIn K mainGlobals "law" = some (some (.ref f_law)))
    (l_law : K.lookup f_law = some ⟨oc_law, od_law, .func (PySem.W.fnOf "law" "law" (defArgs st_law) (defBody st_law) (defScope st_law) .none kV_law dc_law pm_law an_law cd_law ct_law), sl_law⟩)
    (c_law' : PySem.W.codeIn K cd_law "law" = true)
    (k_law : PySem.W.keepIn K (.ref f_law) = true)
    (v_MOST_VARIANTS : PySem.W.nsIn K mainGlobals "MOST_VARIANTS" = some (some (.int 16 t_MOST_VARIANTS)))
    (ax_MakesError : PySem.W.nsIn K mainGlobals "MakesError" = some (some (.ref x_MakesError)))
    (pg_MakesError : PySem.W.findIn K (.ref x_MakesError) "__getattribute__" = some (some (.builtin "BaseException.__getattribute__")))
    (pk_MakesError : PySem.W.findIn K (.ref x_MakesError) "__getattr__" = some none)
    (pb_MakesError : PySem.W.mroIn K x_MakesError (.type "BaseException") = some true)
    (t1_MakesError : PySem.W.findIn K (.ref x_MakesError) "__class__" = some (some (.builtin "object.__class__")))
    (t2_MakesError : PySem.W.specialIn K (.builtin "object.__class__") "__get__" = some (some (.builtin "getset_descriptor.__get__")))
    (t3_MakesError : PySem.W.takesIn K (.builtin "object.__class__") = some true)
    (t4_MakesError : PySem.W.mroIn K x_MakesError (.type "object") = some true)
    (ax_NoGroup : PySem.W.nsIn K mainGlobals "NoGroup" = some (some (.ref x_NoGroup)))
    (pg_NoGroup : PySem.W.findIn K (.ref x_NoGroup) "__getattribute__" = some (some (.builtin "BaseException.__getattribute__")))
    (pk_NoGroup : PySem.W.findIn K (.ref x_NoGroup) "__getattr__" = some none)
    (pb_NoGroup : PySem.W.mroIn K x_NoGroup (.type "BaseException") = some true)
    (t1_NoGroup : PySem.W.findIn K (.ref x_NoGroup) "__class__" = some (some (.builtin "object.__class__")))
    (t2_NoGroup : PySem.W.specialIn K (.builtin "object.__class__") "__get__" = some (some (.builtin "getset_descriptor.__get__")))
    (t3_NoGroup : PySem.W.takesIn K (.builtin "object.__class__") = some true)
    (t4_NoGroup : PySem.W.mroIn K x_NoGroup (.type "object") = some true)
    (ax_TooMany : PySem.W.nsIn K mainGlobals "TooMany" = some (some (.ref x_TooMany)))
    (pg_TooMany : PySem.W.findIn K (.ref x_TooMany) "__getattribute__" = some (some (.builtin "BaseException.__getattribute__")))
    (pk_TooMany : PySem.W.findIn K (.ref x_TooMany) "__getattr__" = some none)
    (pb_TooMany : PySem.W.mroIn K x_TooMany (.type "BaseException") = some true)
    (t1_TooMany : PySem.W.findIn K (.ref x_TooMany) "__class__" = some (some (.builtin "object.__class__")))
    (t2_TooMany : PySem.W.specialIn K (.builtin "object.__class__") "__get__" = some (some (.builtin "getset_descriptor.__get__")))
    (t3_TooMany : PySem.W.takesIn K (.builtin "object.__class__") = some true)
    (t4_TooMany : PySem.W.mroIn K x_TooMany (.type "object") = some true)
    (a_TooMany_init : PySem.W.findIn K (.ref x_TooMany) "__init__" = some (some (.ref f_TooMany_init)))
    (i_TooMany_init : PySem.W.isFn K (.ref f_TooMany_init) = true)
    (l_TooMany_init : K.lookup f_TooMany_init = some ⟨oc_TooMany_init, od_TooMany_init, .func (PySem.W.fnOf "__init__" "TooMany.__init__" (defArgs st_TooMany_init) (defBody st_TooMany_init) (defScope st_TooMany_init) .none kV_TooMany_init dc_TooMany_init pm_TooMany_init an_TooMany_init cd_TooMany_init ct_TooMany_init), sl_TooMany_init⟩)
    (c_TooMany_init' : PySem.W.codeIn K cd_TooMany_init "TooMany.__init__" = true)
    (k_TooMany_init : PySem.W.keepIn K (.ref f_TooMany_init) = true)
    (mi_TooMany : excInI K x_TooMany bmVE "ValueError.__new__" f_TooMany_init = true)
    (po_TooMany : (PySem.W.clsIn K x_TooMany).any (fun cd => refsThen 2 cd.mro) = true)
    (sa_TooMany : PySem.W.findIn K (.ref x_TooMany) "__setattr__" = some (some (.builtin "object.__setattr__")))
    (hd_TooMany : PySem.W.hasDictIn K x_TooMany = true)
    (na_TooMany_at : PySem.W.findIn K (.ref x_TooMany) "at" = some none)
    (em_TooMany_TooMany : PySem.W.exmOne K (.ref x_TooMany) (.ref x_TooMany) = some true)
    (ki_TooMany_MakesError : PySem.W.kitOne K (.ref x_TooMany) (.ref x_MakesError) = some true)
    (ki_TooMany_NoGroup : PySem.W.kitOne K (.ref x_TooMany) (.ref x_NoGroup) = some false)
    (z_len : PySem.W.nsIn K mainGlobals "len" = some none)
    (z_range : PySem.W.nsIn K mainGlobals "range" = some none)
    (z_int : PySem.W.nsIn K mainGlobals "int" = some none)
    (z_bool : PySem.W.nsIn K mainGlobals "bool" = some none)
    (z_tuple : PySem.W.nsIn K mainGlobals "tuple" = some none)
    (z_list : PySem.W.nsIn K mainGlobals "list" = some none)
    (z_isinstance : PySem.W.nsIn K mainGlobals "isinstance" = some none)
    (z_any : PySem.W.nsIn K mainGlobals "any" = some none)
    (z_sum : PySem.W.nsIn K mainGlobals "sum" = some none)
    :
    ∃ fd : FuncData, (∀ (s : Shared) (v : Value), BindsTo s fd ⟨[v], []⟩ [("_law_script", v)]) ∧ ∀ base : Heap, K.In base → base.Ns mainGlobals mg → FnOk l.prog w K mg base CX0 8 fa fd ["_law_script"] (spLaw K) := by
  have e := hfa.symm.trans (PySem.W.mg_of X G a_law)
  cases e
  have F_has := fun_mk (st := st_has) l_has c_has' k_has
  have F_settings := fun_mk (st := st_settings) l_settings c_settings' k_settings
  have F_cut_row := fun_mk (st := st_cut_row) l_cut_row c_cut_row' k_cut_row
  have F_variants := funD_mk (st := st_variants) (items := [.int 0 tok_variants]) l_variants c_variants' lt_variants rfl
  have F_law_drawn := fun_mk (st := st_law_drawn) l_law_drawn c_law_drawn' k_law_drawn
  have F_law_mask := fun_mk (st := st_law_mask) l_law_mask c_law_mask' k_law_mask
  have F_law_words := fun_mk (st := st_law_words) l_law_words c_law_words' k_law_words
  have F_law_walked := fun_mk (st := st_law_walked) l_law_walked c_law_walked' k_law_walked
  have F_law_refused := fun_mk (st := st_law_refused) l_law_refused c_law_refused' k_law_refused
  have F_law_switch := fun_mk (st := st_law_switch) l_law_switch c_law_switch' k_law_switch
  have F_law_edges := fun_mk (st := st_law_edges) l_law_edges c_law_edges' k_law_edges
  have F_TooMany_init := fun_mk (st := st_TooMany_init) l_TooMany_init c_TooMany_init' k_TooMany_init
  have F_law := fun_mk (st := st_law) l_law c_law' k_law
  have b_has := F_has.binds (ps := ["mask", "s"]) fun _ _ _ _ _ _ us hl => match us, hl with | [_, _], _ => rfl
  have b_settings := F_settings.binds (ps := ["mask"]) fun _ _ _ _ _ _ us hl => match us, hl with | [_], _ => rfl
  have b_cut_row := F_cut_row.binds (ps := ["row", "s"]) fun _ _ _ _ _ _ us hl => match us, hl with | [_, _], _ => rfl
  have b_variants := F_variants.binds (ps := ["row", "mask", "at"]) (ds := []) fun _ _ _ _ _ _ us hl => by
    match us, hl with
    | [_, _, _], _ => exact ⟨_, rfl, rfl⟩
    | [], hl => simp at hl
    | [_], hl => simp at hl
    | [_, _], hl => simp at hl
    | _ :: _ :: _ :: _ :: _, hl => simp at hl
  have b2_variants := F_variants.binds (ps := ["row", "mask", "at"]) (ds := [.int 0 tok_variants]) fun _ _ _ _ _ _ us hl => by
    match us, hl with
    | [_, _], _ => exact ⟨_, rfl, rfl⟩
    | [], hl => simp at hl
    | [_], hl => simp at hl
    | _ :: _ :: _ :: _, hl => simp at hl
  have b_law_drawn := F_law_drawn.binds (ps := ["_law_number", "_law_many"]) fun _ _ _ _ _ _ us hl => match us, hl with | [_, _], _ => rfl
  have b_law_mask := F_law_mask.binds (ps := ["_law_cell", "_law_n"]) fun _ _ _ _ _ _ us hl => match us, hl with | [_, _], _ => rfl
  have b_law_words := F_law_words.binds (ps := ["_law_row", "_law_s"]) fun _ _ _ _ _ _ us hl => match us, hl with | [_, _], _ => rfl
  have b_law_walked := F_law_walked.binds (ps := ["_law_found", "_law_row", "_law_asked"]) fun _ _ _ _ _ _ us hl => match us, hl with | [_, _, _], _ => rfl
  have b_law_refused := F_law_refused.binds (ps := ["_law_row", "_law_mask_here", "_law_at"]) fun _ _ _ _ _ _ us hl => match us, hl with | [_, _, _], _ => rfl
  have b_law_switch := F_law_switch.binds (ps := ["_law_k", "_law_n"]) fun _ _ _ _ _ _ us hl => match us, hl with | [_, _], _ => rfl
  have b_law_edges := F_law_edges.binds (ps := ["_law_at"]) fun _ _ _ _ _ _ us hl => match us, hl with | [_], _ => rfl
  have b_TooMany_init := F_TooMany_init.binds (ps := ["self", "at"]) fun _ _ _ _ _ _ us hl => match us, hl with | [_, _], _ => rfl
  have T : All l.prog w K mg ⟨f_has, f_settings, f_cut_row, f_variants, f_law_drawn, f_law_mask, f_law_words, f_law_walked, f_law_refused, f_law_switch, f_law_edges, f_TooMany_init, t_variants, x_MakesError, x_NoGroup, x_TooMany⟩ ⟨_, _, _, _, _, _, _, _, _, _, _, _⟩ := {
    m_has := PySem.W.mg_of X G a_has
    k_has := k_has
    F_has := F_has
    b_has := b_has
    m_settings := PySem.W.mg_of X G a_settings
    k_settings := k_settings
    F_settings := F_settings
    b_settings := b_settings
    m_cut_row := PySem.W.mg_of X G a_cut_row
    k_cut_row := k_cut_row
    F_cut_row := F_cut_row
    b_cut_row := b_cut_row
    m_variants := PySem.W.mg_of X G a_variants
    k_variants := k_variants
    F_variants := ⟨_, F_variants, b_variants, b2_variants⟩
    m_law_drawn := PySem.W.mg_of X G a_law_drawn
    k_law_drawn := k_law_drawn
    F_law_drawn := F_law_drawn
    b_law_drawn := b_law_drawn
    m_law_mask := PySem.W.mg_of X G a_law_mask
    k_law_mask := k_law_mask
    F_law_mask := F_law_mask
    b_law_mask := b_law_mask
    m_law_words := PySem.W.mg_of X G a_law_words
    k_law_words := k_law_words
    F_law_words := F_law_words
    b_law_words := b_law_words
    m_law_walked := PySem.W.mg_of X G a_law_walked
    k_law_walked := k_law_walked
    F_law_walked := F_law_walked
    b_law_walked := b_law_walked
    m_law_refused := PySem.W.mg_of X G a_law_refused
    k_law_refused := k_law_refused
    F_law_refused := F_law_refused
    b_law_refused := b_law_refused
    m_law_switch := PySem.W.mg_of X G a_law_switch
    k_law_switch := k_law_switch
    F_law_switch := F_law_switch
    b_law_switch := b_law_switch
    m_law_edges := PySem.W.mg_of X G a_law_edges
    k_law_edges := k_law_edges
    F_law_edges := F_law_edges
    b_law_edges := b_law_edges
    M_TooMany := ⟨mi_TooMany, i_TooMany_init⟩
    ic_TooMany := ⟨po_TooMany, sa_TooMany, hd_TooMany⟩
    na_TooMany_at := na_TooMany_at
    k_TooMany_init := k_TooMany_init
    F_TooMany_init := F_TooMany_init
    b_TooMany_init := b_TooMany_init
    v_MOST_VARIANTS := ⟨_, PySem.W.mg_of X G v_MOST_VARIANTS⟩
    m_MakesError := PySem.W.mg_of X G ax_MakesError
    xc_MakesError := ⟨pg_MakesError, pk_MakesError, pb_MakesError, t1_MakesError, t2_MakesError, t3_MakesError, t4_MakesError⟩
    m_NoGroup := PySem.W.mg_of X G ax_NoGroup
    xc_NoGroup := ⟨pg_NoGroup, pk_NoGroup, pb_NoGroup, t1_NoGroup, t2_NoGroup, t3_NoGroup, t4_NoGroup⟩
    m_TooMany := PySem.W.mg_of X G ax_TooMany
    xc_TooMany := ⟨pg_TooMany, pk_TooMany, pb_TooMany, t1_TooMany, t2_TooMany, t3_TooMany, t4_TooMany⟩
    em_TooMany_TooMany := em_TooMany_TooMany
    ki_TooMany_MakesError := ki_TooMany_MakesError
    ki_TooMany_NoGroup := ki_TooMany_NoGroup
    n_len := PySem.W.mg_none_of X G z_len
    n_range := PySem.W.mg_none_of X G z_range
    n_int := PySem.W.mg_none_of X G z_int
    n_bool := PySem.W.mg_none_of X G z_bool
    n_tuple := PySem.W.mg_none_of X G z_tuple
    n_list := PySem.W.mg_none_of X G z_list
    n_isinstance := PySem.W.mg_none_of X G z_isinstance
    n_any := PySem.W.mg_none_of X G z_any
    n_sum := PySem.W.mg_none_of X G z_sum
  }
  exact ⟨PySem.W.fnOf "law" "law" (defArgs st_law) (defBody st_law) (defScope st_law) .none kV_law dc_law pm_law an_law cd_law ct_law, fun s v => .of_eq rfl, fun base _ _ => ok_law T F_law⟩
theorem walk {l : PySem.W.OpenLaw} {q : Program} {loose : List Str} {XP : (Str → Option Value) → Heap → Prop} {YP : World → Heap → Prop} {d : DefRec} {K : Params → PySem.W.Frag} (hn : l.most = some 63) (hdf : d.params.defaults = [])
    (hY : ∀ (w : World) (h : Heap), YP w h → (K w.params).In h)
    (F : ∀ (w : World) (mg : Str → Option Value) (fa : Addr) (h : Heap), (K w.params).In h → h.Ns mainGlobals mg → mg d.name = some (.ref fa) →
      ∃ fd : FuncData, (∀ (s : Shared) (u : Value), BindsTo s fd ⟨[u], []⟩ [("_law_script", u)]) ∧ ∀ base : Heap, (K w.params).In base → base.Ns mainGlobals mg → FnOk l.prog w (K w.params) mg base CX0 8 fa fd ["_law_script"] (spLaw (K w.params))) :
    PySem.W.WalkO q loose XP YP l.row.toRowW d [] (fun f vs => PySem.call f vs) :=
  L2.walk_of (n := 63) (k := 8) (x := "_law_script") (CX := fun _ => CX0) (sp := fun w => spLaw (K w.params)) hn (by decide) hdf ⟨rfl, by decide, by decide⟩ hY F (fun _ _ a ns hl _ hS => ⟨a, ns, rfl, hS, hl, fun _ => rfl⟩) fun _ _ _ _ _ z => z
end K14
open PySem PySem.W PyProof.Rows
set_option maxRecDepth 100000 in
set_option maxHeartbeats 0 in
theorem PySem.Challenge.cw_manymakes_k14_variants_holds : PySem.Challenge.rw_manymakes_k14_variants.Holds := by
  w_on; o_law; k_head; (case hw => w_witness2)
  k_fill
  refine K14.walk (l := PySem.Challenge.rw_manymakes_k14_variants) rfl rfl (fun w h Y => PySem.W.kIn_of Y) ?F
  case F =>
    intro w mg fa h KX G hmg
    refine' K14.all_mk KX G hmg ?a_has ?l_has ?c_has' ?k_has ?a_settings ?l_settings ?c_settings' ?k_settings ?a_cut_row ?l_cut_row ?c_cut_row' ?k_cut_row ?a_variants ?l_variants ?lt_variants ?c_variants' ?k_variants ?a_law_drawn ?l_law_drawn ?c_law_drawn' ?k_law_drawn ?a_law_mask ?l_law_mask ?c_law_mask' ?k_law_mask ?a_law_words ?l_law_words ?c_law_words' ?k_law_words ?a_law_walked ?l_law_walked ?c_law_walked' ?k_law_walked ?a_law_refused ?l_law_refused ?c_law_refused' ?k_law_refused ?a_law_switch ?l_law_switch ?c_law_switch' ?k_law_switch ?a_law_edges ?l_law_edges ?c_law_edges' ?k_law_edges ?a_law ?l_law ?c_law' ?k_law ?v_MOST_VARIANTS ?ax_MakesError ?pg_MakesError ?pk_MakesError ?pb_MakesError ?t1_MakesError ?t2_MakesError ?t3_MakesError ?t4_MakesError ?ax_NoGroup ?pg_NoGroup ?pk_NoGroup ?pb_NoGroup ?t1_NoGroup ?t2_NoGroup ?t3_NoGroup ?t4_NoGroup ?ax_TooMany ?pg_TooMany ?pk_TooMany ?pb_TooMany ?t1_TooMany ?t2_TooMany ?t3_TooMany ?t4_TooMany ?a_TooMany_init ?i_TooMany_init ?l_TooMany_init ?c_TooMany_init' ?k_TooMany_init ?mi_TooMany ?po_TooMany ?sa_TooMany ?hd_TooMany ?na_TooMany_at ?em_TooMany_TooMany ?ki_TooMany_MakesError ?ki_TooMany_NoGroup ?z_len ?z_range ?z_int ?z_bool ?z_tuple ?z_list ?z_isinstance ?z_any ?z_sum
    (case a_has => k_is)
    (case l_has => k_is)
    (case c_has' => k_is)
    (case k_has => k_is)
    (case a_settings => k_is)
    (case l_settings => k_is)
    (case c_settings' => k_is)
    (case k_settings => k_is)
    (case a_cut_row => k_is)
    (case l_cut_row => k_is)
    (case c_cut_row' => k_is)
    (case k_cut_row => k_is)
    (case a_variants => k_is)
    (case l_variants => k_is)
    (case lt_variants => k_is)
    (case c_variants' => k_is)
    (case k_variants => k_is)
    (case a_law_drawn => k_is)
    (case l_law_drawn => k_is)
    (case c_law_drawn' => k_is)
    (case k_law_drawn => k_is)
    (case a_law_mask => k_is)
    (case l_law_mask => k_is)
    (case c_law_mask' => k_is)
    (case k_law_mask => k_is)
    (case a_law_words => k_is)
    (case l_law_words => k_is)
    (case c_law_words' => k_is)
    (case k_law_words => k_is)
    (case a_law_walked => k_is)
    (case l_law_walked => k_is)
    (case c_law_walked' => k_is)
    (case k_law_walked => k_is)
    (case a_law_refused => k_is)
    (case l_law_refused => k_is)
    (case c_law_refused' => k_is)
    (case k_law_refused => k_is)
    (case a_law_switch => k_is)
    (case l_law_switch => k_is)
    (case c_law_switch' => k_is)
    (case k_law_switch => k_is)
    (case a_law_edges => k_is)
    (case l_law_edges => k_is)
    (case c_law_edges' => k_is)
    (case k_law_edges => k_is)
    (case a_law => k_is)
    (case l_law => k_is)
    (case c_law' => k_is)
    (case k_law => k_is)
    (case v_MOST_VARIANTS => k_is)
    (case ax_MakesError => k_is)
    (case pg_MakesError => k_is)
    (case pk_MakesError => k_is)
    (case pb_MakesError => k_is)
    (case t1_MakesError => k_is)
    (case t2_MakesError => k_is)
    (case t3_MakesError => k_is)
    (case t4_MakesError => k_is)
    (case ax_NoGroup => k_is)
    (case pg_NoGroup => k_is)
    (case pk_NoGroup => k_is)
    (case pb_NoGroup => k_is)
    (case t1_NoGroup => k_is)
    (case t2_NoGroup => k_is)
    (case t3_NoGroup => k_is)
    (case t4_NoGroup => k_is)
    (case ax_TooMany => k_is)
    (case pg_TooMany => k_is)
    (case pk_TooMany => k_is)
    (case pb_TooMany => k_is)
    (case t1_TooMany => k_is)
    (case t2_TooMany => k_is)
    (case t3_TooMany => k_is)
    (case t4_TooMany => k_is)
    (case a_TooMany_init => k_is)
    (case i_TooMany_init => k_is)
    (case l_TooMany_init => k_is)
    (case c_TooMany_init' => k_is)
    (case k_TooMany_init => k_is)
    (case mi_TooMany => kernel_rfl)
    (case po_TooMany => kernel_rfl)
    (case sa_TooMany => k_is)
    (case hd_TooMany => k_is)
    (case na_TooMany_at => k_is)
    (case em_TooMany_TooMany => kts_exm)
    (case ki_TooMany_MakesError => kit_is)
    (case ki_TooMany_NoGroup => kit_is)
    (case z_len => k_is)
    (case z_range => k_is)
    (case z_int => k_is)
    (case z_bool => k_is)
    (case z_tuple => k_is)
    (case z_list => k_is)
    (case z_isinstance => k_is)
    (case z_any => k_is)
    (case z_sum => k_is)

