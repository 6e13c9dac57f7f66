/- A closed call is worked out by a program of its own (values, memory, and what they mean in a world): the base. -/
import Derived.Calls
import Derived.Orders
import Derived.Deep.MidRow
import Derived.Laws.AppendOwn
import Derived.Laws.MakeOwn
import Derived.LoopN
import Derived.Scope
import Derived.ControlIn
import Derived.TacticsIn
import Derived.OrdersIn
import Derived.LoopNIn
import Derived.RangeFuncIn
import Derived.RangeFuncLeaves
import Derived.Tactics
import Derived.Below
import Derived.KernelRfl
namespace Go.Ev

/-- Two-place operations on integers. -/
inductive TB | add | sub | mul | quo | rem | mn | mx
  deriving DecidableEq

/-- A term over integers: variables, numbers, operations, conversions, functions. -/
inductive Tm
  | v (i : Nat)
  | lit (k : IntKind) (n : Int)
  | bin (o : TB) (k : IntKind) (x y : Tm)
  | neg (k : IntKind) (x : Tm)
  | cv (k : IntKind) (x : Tm)
  | fn (i : Nat) (x : Tm)
  | nil
  | cons (x r : Tm)
  deriving Inhabited
instance : Coe Nat Tm := ⟨.v⟩
instance (n : Nat) : OfNat Tm n := ⟨.v n⟩

/-- A value whose blocks are known by names: `clo` is a value that is the same in every world. -/
inductive CV where
  | clo (v : Value)
  | ptr (i off : Nat)
  | sl (i off len : Nat) (cap : Option Nat) (sub : Nat)
  | fn (f : Fn) (first captured : List CV)
  | agg (l : List CV)
  | tup (l : List CV)
  | sy (i : Tm)
  | yl (i : Nat)
  | lp (st : LoopState) (pend : Option Code) (tmps : List CV) (ps : Array Tmp) (assign body : Code) (d : Nat)
  | df
  | mp (i : Nat)
  | mo (ks vs : List CV)
  | si (s : ByteArray) (pos : Nat)
  | as (i : Nat) (n : Tm)
  | pa (i : Nat) (k : CV) (z off : Nat)
  | ab (y : Tm) (t : TypeId) (z : Nat)
  deriving Inhabited

/-- What a symbol stands for: a value of one cell, no truth value. -/
structure Sym where
  v : Value
  one : v.oneCell' = true
  nb : ∀ b, v ≠ .bool b

/-- Symbols that stand for integers. -/
def Tm.ix : Tm → Nat
  | .v i => i
  | _ => 0
def ints (f : Nat → IntKind × Int) (i : Tm) : Sym := ⟨.int (f i.ix).1 (f i.ix).2, rfl, fun _ h => by cases h⟩
instance : Coe (Nat → IntKind × Int) (Tm → Sym) := ⟨ints⟩

/-- An operation on values that looks at no block: which one, with its types. -/
inductive OpKey
  | bin (op : BinOp) (t : TypeId)
  | un (op : UnOp)
  | conv (src dst : TypeId)
  | mn
  | mx
  | ln (t : TypeId)
  | bld (t : TypeId) (ix : List Nat)
  | fld (t : TypeId) (f : Nat)
  | idx (t : TypeId)
  | slc (t : TypeId) (lo hi : Bool)
  | byt
  | ld (t : TypeId)
  | ixa (t : TypeId)
  | fda (t : TypeId) (f : Nat)

/-- Lists that are known by symbols: their cells; whether an index lies in one of this length; what elements hold; what writing and appending makes of a list. -/
structure AbT where
  lst : Tm → List Value
  ix : Tm → CV → Bool
  gt : Tm → CV → Nat → Nat → Nat → Option (List CV)
  pt : Tm → CV → Nat → Nat → List CV → Option Tm
  ap : Tm → Tm → Nat → List CV → Option (Tm × Tm)
  cl : FuncId → List CV → Nat → Option (CV × List (Tm × TypeId × Nat))
  ms : TypeId → CV → Option (Tm × Tm)
def AbT.no : AbT := ⟨fun _ => [], fun _ _ => false, fun _ _ _ _ _ => none, fun _ _ _ _ _ => none, fun _ _ _ _ => none, fun _ _ _ => none, fun _ _ => none⟩
/-- What an evaluation is told: how many names are those of package variables (they lie where their numbers say); the values that symbols stand for; calls, comparisons and operations whose results are known. -/
class Ctxt where
  pin : Nat
  sym : Tm → Sym
  kc : FuncId → List CV → Option CV
  ke : BinOp → TypeId → CV → CV → Option Bool
  kv : OpKey → List CV → Option CV
  K : World → Prop
  B : Nat
  kst : ∀ w w', K w → RowKit.Below B w w' → K w'
  ab : AbT

def asN : Value → Option Nat
  | .int .i64 (.ofNat m) => some m
  | _ => none


/-- Where the names lie: the block's number, and the capacity of a row that may have grown. -/
abbrev Env := Nat → Option (Nat × Nat)

mutual
def den [Ctxt] (e : Env) : CV → Option Value
  | .clo v => some v
  | .ptr i off => (e i).map fun p => .pointer (some ⟨p.1, off, none⟩)
  | .sl i off len cap sub => (e i).map fun p => .slice (some ⟨p.1, off, none⟩) len (cap.getD (p.2 - sub))
  | .fn f a b => (denL e a).bind fun xs => (denL e b).map fun ys => .func f xs.toArray ys.toArray
  | .agg l => (denL e l).map fun xs => .agg xs.toArray
  | .tup l => (denL e l).map fun xs => .tuple xs.toArray
  | .sy i => some (Ctxt.sym i).v
  | .yl i => (e i).map fun p => .func (.yield p.1) #[] #[]
  | .lp .. => none
  | .df => none
  | .mp i => (e i).map fun p => .map (some p.1)
  | .mo .. => none
  | .si .. => none
  | .as i n => (e i).bind fun p => (asN (Ctxt.sym n).v).map fun m => .slice (some ⟨p.1, 0, none⟩) m p.2
  | .pa i k z off => (e i).bind fun p => (den e k).bind fun v => (asN v).map fun m => .pointer (some ⟨p.1, m * z + off, none⟩)
  | .ab .. => none
def denL [Ctxt] (e : Env) : List CV → Option (List Value)
  | [] => some []
  | v :: r => (den e v).bind fun x => (denL e r).map (x :: ·)
end

def Env.le (e e' : Env) : Prop := ∀ i p, e i = some p → e' i = some p

theorem Env.le.refl (e : Env) : Env.le e e := fun _ _ h => h
theorem Env.le.trans {a b c : Env} (h : Env.le a b) (k : Env.le b c) : Env.le a c := fun i p hp => k i p (h i p hp)

mutual
theorem den_mono [Ctxt] {e e' : Env} (h : Env.le e e') : ∀ (c : CV) (v : Value), den e c = some v → den e' c = some v
  | .clo v, x, hx => by simpa [den] using hx
  | .ptr i off, x, hx => by
    simp only [den, Option.map_eq_some_iff] at hx ⊢
    obtain ⟨p, hp, hv⟩ := hx; exact ⟨p, h i p hp, hv⟩
  | .sl i off len cap sub, x, hx => by
    simp only [den, Option.map_eq_some_iff] at hx ⊢
    obtain ⟨p, hp, hv⟩ := hx; exact ⟨p, h i p hp, hv⟩
  | .fn f a b, x, hx => by
    simp only [den, Option.bind_eq_some_iff, Option.map_eq_some_iff] at hx ⊢
    obtain ⟨xs, hxs, ys, hys, hv⟩ := hx
    exact ⟨xs, denL_mono h a xs hxs, ys, denL_mono h b ys hys, hv⟩
  | .agg l, x, hx => by
    simp only [den, Option.map_eq_some_iff] at hx ⊢
    obtain ⟨xs, hxs, hv⟩ := hx; exact ⟨xs, denL_mono h l xs hxs, hv⟩
  | .tup l, x, hx => by
    simp only [den, Option.map_eq_some_iff] at hx ⊢
    obtain ⟨xs, hxs, hv⟩ := hx; exact ⟨xs, denL_mono h l xs hxs, hv⟩
  | .sy i, x, hx => by simpa [den] using hx
  | .yl i, x, hx => by
    simp only [den, Option.map_eq_some_iff] at hx ⊢
    obtain ⟨p, hp, hv⟩ := hx; exact ⟨p, h i p hp, hv⟩
  | .lp .., x, hx => by simp [den] at hx
  | .df, x, hx => by simp [den] at hx
  | .mp i, x, hx => by
    simp only [den, Option.map_eq_some_iff] at hx ⊢
    obtain ⟨p, hp, hv⟩ := hx; exact ⟨p, h i p hp, hv⟩
  | .mo .., x, hx => by simp [den] at hx
  | .si .., x, hx => by simp [den] at hx
  | .as i n, x, hx => by
    simp only [den, Option.bind_eq_some_iff] at hx ⊢
    obtain ⟨p, hp, hv⟩ := hx; exact ⟨p, h i p hp, hv⟩
  | .pa i k z off, x, hx => by
    simp only [den, Option.bind_eq_some_iff] at hx ⊢
    obtain ⟨p, hp, v, hv, hr⟩ := hx; exact ⟨p, h i p hp, v, den_mono h k v hv, hr⟩
  | .ab .., x, hx => by simp [den] at hx
theorem denL_mono [Ctxt] {e e' : Env} (h : Env.le e e') : ∀ (l : List CV) (xs : List Value), denL e l = some xs → denL e' l = some xs
  | [], xs, hx => by simpa [denL] using hx
  | v :: r, xs, hx => by
    simp only [denL, Option.bind_eq_some_iff, Option.map_eq_some_iff] at hx ⊢
    obtain ⟨x, hx, ys, hys, hv⟩ := hx
    exact ⟨x, den_mono h v x hx, ys, denL_mono h r ys hys, hv⟩
end

theorem denL_cons [Ctxt] {e : Env} {v : CV} {r : List CV} {zs : List Value} (h : denL e (v :: r) = some zs) : ∃ x xs, zs = x :: xs ∧ den e v = some x ∧ denL e r = some xs := by
  simp only [denL, Option.bind_eq_some_iff, Option.map_eq_some_iff] at h
  obtain ⟨x, hx, ys, hys, hv⟩ := h
  exact ⟨x, ys, hv.symm, hx, hys⟩

theorem denL_cons' [Ctxt] {e : Env} {v : CV} {r : List CV} {x : Value} {xs : List Value} (h : den e v = some x) (h' : denL e r = some xs) : denL e (v :: r) = some (x :: xs) := by
  simp [denL, h, h']

theorem denL_length [Ctxt] {e : Env} : ∀ {l : List CV} {xs : List Value}, denL e l = some xs → xs.length = l.length
  | [], xs, h => by simp [denL] at h; subst h; rfl
  | v :: r, xs, h => by
    obtain ⟨x, ys, rfl, _, h2⟩ := denL_cons h
    simp [denL_length h2]

theorem denL_get [Ctxt] {e : Env} : ∀ {l : List CV} {xs : List Value} {i : Nat} {v : CV}, denL e l = some xs → l[i]? = some v → ∃ x, xs[i]? = some x ∧ den e v = some x
  | [], _, _, _, _, hv => by simp at hv
  | u :: r, xs, i, v, h, hv => by
    obtain ⟨x, ys, rfl, h1, h2⟩ := denL_cons h
    cases i with
    | zero => simp at hv; subst hv; exact ⟨x, by simp, h1⟩
    | succ i => simpa using denL_get h2 (by simpa using hv)

theorem denL_set [Ctxt] {e : Env} {v : CV} {x : Value} (hv : den e v = some x) : ∀ {l : List CV} {xs : List Value} (i : Nat), denL e l = some xs → denL e (l.set i v) = some (xs.set i x)
  | [], xs, i, h => by simp [denL] at h; subst h; simp [denL]
  | u :: r, xs, i, h => by
    obtain ⟨y, ys, rfl, h1, h2⟩ := denL_cons h
    cases i with
    | zero => simpa using denL_cons' hv h2
    | succ i => simpa using denL_cons' h1 (denL_set hv i h2)

theorem denL_append [Ctxt] {e : Env} : ∀ {l m : List CV} {xs ys : List Value}, denL e l = some xs → denL e m = some ys → denL e (l ++ m) = some (xs ++ ys)
  | [], m, xs, ys, h, h' => by simp [denL] at h; subst h; simpa using h'
  | u :: r, m, xs, ys, h, h' => by
    obtain ⟨y, zs, rfl, h1, h2⟩ := denL_cons h
    simpa using denL_cons' h1 (denL_append h2 h')

theorem denL_take [Ctxt] {e : Env} : ∀ {l : List CV} {xs : List Value} (n : Nat), denL e l = some xs → denL e (l.take n) = some (xs.take n)
  | [], xs, n, h => by simp [denL] at h; subst h; simp [denL]
  | u :: r, xs, 0, h => by simp [denL]
  | u :: r, xs, n + 1, h => by
    obtain ⟨y, zs, rfl, h1, h2⟩ := denL_cons h
    simpa using denL_cons' h1 (denL_take n h2)

theorem denL_drop [Ctxt] {e : Env} : ∀ {l : List CV} {xs : List Value} (n : Nat), denL e l = some xs → denL e (l.drop n) = some (xs.drop n)
  | [], xs, n, h => by simp [denL] at h; subst h; simp [denL]
  | u :: r, xs, 0, h => by simpa using h
  | u :: r, xs, n + 1, h => by
    obtain ⟨y, zs, rfl, h1, h2⟩ := denL_cons h
    simpa using denL_drop n h2

theorem denL_clo [Ctxt] (e : Env) : ∀ (vs : List Value), denL e (vs.map .clo) = some vs
  | [] => rfl
  | v :: r => by simp [denL, den, denL_clo e r]

theorem denL_replicate [Ctxt] (e : Env) (n : Nat) (v : Value) : denL e (List.replicate n (.clo v)) = some (List.replicate n v) := by
  have := denL_clo e (List.replicate n v)
  simpa using this

/-- All of a list are the same in every world. -/
def allClo : List CV → Option (List Value)
  | [] => some []
  | .clo v :: r => match allClo r with | some vs => some (v :: vs) | none => none
  | _ :: _ => none

theorem allClo_den [Ctxt] (e : Env) : ∀ {l : List CV} {vs : List Value}, allClo l = some vs → denL e l = some vs
  | [], vs, h => by simpa [allClo, denL] using h
  | .clo v :: r, vs, h => by
    simp only [allClo] at h
    split at h
    · rename_i us hu
      simp at h; subst h
      simp [denL, den, allClo_den e hu]
    · cases h
  | .ptr .. :: r, vs, h => by simp [allClo] at h
  | .sl .. :: r, vs, h => by simp [allClo] at h
  | .fn .. :: r, vs, h => by simp [allClo] at h
  | .agg .. :: r, vs, h => by simp [allClo] at h
  | .tup .. :: r, vs, h => by simp [allClo] at h
  | .sy .. :: r, vs, h => by simp [allClo] at h
  | .yl .. :: r, vs, h => by simp [allClo] at h
  | .lp .. :: r, vs, h => by simp [allClo] at h
  | .df :: r, vs, h => by simp [allClo] at h
  | .mp .. :: r, vs, h => by simp [allClo] at h
  | .mo .. :: r, vs, h => by simp [allClo] at h
  | .si .. :: r, vs, h => by simp [allClo] at h
  | .as .. :: r, vs, h => by simp [allClo] at h
  | .pa .. :: r, vs, h => by simp [allClo] at h
  | .ab .. :: r, vs, h => by simp [allClo] at h

def mkAgg (l : List CV) : CV := match allClo l with | some vs => .clo (.agg vs.toArray) | none => .agg l
def mkTup (l : List CV) : CV := match allClo l with | some vs => .clo (.tuple vs.toArray) | none => .tup l
def mkFn (f : Fn) (a b : List CV) : CV := match allClo a, allClo b with | some xs, some ys => .clo (.func f xs.toArray ys.toArray) | _, _ => .fn f a b

theorem den_mkAgg [Ctxt] {e : Env} {l : List CV} {xs : List Value} (h : denL e l = some xs) : den e (mkAgg l) = some (.agg xs.toArray) := by
  unfold mkAgg
  split
  · rename_i vs hv
    have := allClo_den e hv
    rw [h] at this; cases this; rfl
  · simp [den, h]

theorem den_mkTup [Ctxt] {e : Env} {l : List CV} {xs : List Value} (h : denL e l = some xs) : den e (mkTup l) = some (.tuple xs.toArray) := by
  unfold mkTup
  split
  · rename_i vs hv
    have := allClo_den e hv
    rw [h] at this; cases this; rfl
  · simp [den, h]

theorem den_mkFn [Ctxt] {e : Env} {f : Fn} {a b : List CV} {xs ys : List Value} (h : denL e a = some xs) (h' : denL e b = some ys) : den e (mkFn f a b) = some (.func f xs.toArray ys.toArray) := by
  unfold mkFn
  split
  · rename_i us vs hu hv
    have h1 := allClo_den e hu
    have h2 := allClo_den e hv
    rw [h] at h1; rw [h'] at h2; cases h1; cases h2; rfl
  · simp [den, h, h']

def CV.cells : CV → List CV
  | .agg l => l
  | .clo v => v.cells.toList.map .clo
  | x => [x]

theorem den_cells [Ctxt] {e : Env} {x : CV} {v : Value} (h : den e x = some v) : denL e x.cells = some v.cells.toList := by
  cases x with
  | clo u => simp [den] at h; subst h; exact denL_clo e _
  | agg l =>
    simp only [den, Option.map_eq_some_iff] at h
    obtain ⟨xs, hx, rfl⟩ := h
    simpa [CV.cells, Value.cells] using hx
  | ptr i o =>
    have h' := h
    simp only [den, Option.map_eq_some_iff] at h
    obtain ⟨p, _, rfl⟩ := h
    simp [CV.cells, denL, h', Value.cells]
  | sl i o n c sub =>
    have h' := h
    simp only [den, Option.map_eq_some_iff] at h
    obtain ⟨p, _, rfl⟩ := h
    simp [CV.cells, denL, h', Value.cells]
  | fn f a b =>
    have h' := h
    simp only [den, Option.bind_eq_some_iff, Option.map_eq_some_iff] at h
    obtain ⟨_, _, _, _, rfl⟩ := h
    simp [CV.cells, denL, h', Value.cells]
  | tup l =>
    have h' := h
    simp only [den, Option.map_eq_some_iff] at h
    obtain ⟨_, _, rfl⟩ := h
    simp [CV.cells, denL, h', Value.cells]
  | yl i =>
    have h' := h
    simp only [den, Option.map_eq_some_iff] at h
    obtain ⟨p, _, rfl⟩ := h
    simp [CV.cells, denL, h', Value.cells]
  | lp => simp [den] at h
  | df => simp [den] at h
  | mo => simp [den] at h
  | si => simp [den] at h
  | ab => simp [den] at h
  | as i n =>
    have h' := h
    simp only [den, Option.bind_eq_some_iff, Option.map_eq_some_iff] at h
    obtain ⟨p, _, m, _, rfl⟩ := h
    simp [CV.cells, denL, h', Value.cells]
  | pa i k z off =>
    have h' := h
    simp only [den, Option.bind_eq_some_iff, Option.map_eq_some_iff] at h
    obtain ⟨p, _, v, _, m, _, rfl⟩ := h
    simp [CV.cells, denL, h', Value.cells]
  | mp i =>
    have h' := h
    simp only [den, Option.map_eq_some_iff] at h
    obtain ⟨p, _, rfl⟩ := h
    simp [CV.cells, denL, h', Value.cells]
  | sy i =>
    have h' := h
    simp only [den, Option.some.injEq] at h
    subst h
    have h1 := (Ctxt.sym i).one
    simp only [CV.cells, denL, h', Value.cells]
    cases hv : (Ctxt.sym i).v <;> first | (simp; done) | (rw [hv] at h1; cases h1)

/-- A block: the first of its cells; `row`: of a row that may have room behind them, the size of an element. -/
structure Blk where
  cs : List CV
  ty : TypeId
  row : Option Nat
  deriving Inhabited

noncomputable def look (l : List (Nat × Blk)) (i : Nat) : Option Blk := List.rec none (fun x _ ih => Bool.rec ih (some x.2) (Nat.beq x.1 i)) l
theorem look_nil (i : Nat) : look [] i = none := rfl
theorem look_cons (x : Nat × Blk) (r : List (Nat × Blk)) (i : Nat) : look (x :: r) i = cond (Nat.beq x.1 i) (some x.2) (look r i) := by
  cases h : Nat.beq x.1 i <;> simp only [look, h, cond_true, cond_false]

structure Mem where
  next : Nat
  l : List (Nat × Blk)

noncomputable def Mem.at (M : Mem) (i : Nat) : Option Blk := look M.l i
def Mem.push (M : Mem) (b : Blk) : Mem := ⟨M.next + 1, (M.next, b) :: M.l⟩
noncomputable def setL (l : List (Nat × Blk)) (i : Nat) (b : Blk) : List (Nat × Blk) := List.rec [] (fun x r ih => Bool.rec (x :: ih) ((x.1, b) :: r) (Nat.beq x.1 i)) l
theorem setL_nil (i : Nat) (b : Blk) : setL [] i b = [] := rfl
theorem setL_cons (x : Nat × Blk) (r : List (Nat × Blk)) (i : Nat) (b : Blk) : setL (x :: r) i b = cond (Nat.beq x.1 i) ((x.1, b) :: r) (x :: setL r i b) := by
  cases h : Nat.beq x.1 i <;> simp only [setL, h, cond_true, cond_false]
noncomputable def Mem.set (M : Mem) (i : Nat) (b : Blk) : Mem := ⟨M.next, setL M.l i b⟩
noncomputable def keepL (f : Nat → Bool) (l : List (Nat × Blk)) : List (Nat × Blk) := List.rec [] (fun x _ ih => Bool.rec ih (x :: ih) (f x.1)) l
theorem keepL_nil (f : Nat → Bool) : keepL f [] = [] := rfl
theorem keepL_cons (f : Nat → Bool) (x : Nat × Blk) (r : List (Nat × Blk)) : keepL f (x :: r) = cond (f x.1) (x :: keepL f r) (keepL f r) := by
  cases h : f x.1 <;> simp only [keepL, h, cond_true, cond_false]
noncomputable def Mem.keep (M : Mem) (f : Nat → Bool) : Mem := ⟨M.next, keepL f M.l⟩

theorem beq_cases (a b : Nat) : (Nat.beq a b = true ∧ a = b) ∨ (Nat.beq a b = false ∧ a ≠ b) := by
  by_cases h : a = b
  · exact .inl ⟨by simp [h], h⟩
  · exact .inr ⟨by cases hb : Nat.beq a b with | false => rfl | true => exact absurd (Nat.eq_of_beq_eq_true hb) h, h⟩

theorem Mem.at_push [Ctxt] (M : Mem) (b : Blk) (i : Nat) : (M.push b).at i = if i = M.next then some b else M.at i := by
  rcases beq_cases M.next i with ⟨h, e⟩ | ⟨h, e⟩
  · simp [Mem.at, Mem.push, look_cons, e]
  · simp only [Mem.at, Mem.push, look_cons, h, cond_false]; rw [if_neg (fun h => e h.symm)]

theorem look_setL [Ctxt] (b : Blk) (i j : Nat) : ∀ (l : List (Nat × Blk)), look (setL l i b) j = if j = i ∧ (look l i).isSome then some b else look l j
  | [] => by simp [setL_nil, look_nil]
  | x :: r => by
    have ih := look_setL b i j r
    rcases beq_cases x.1 i with ⟨h, e⟩ | ⟨h, e⟩
    · rcases beq_cases x.1 j with ⟨h2, e2⟩ | ⟨h2, e2⟩
      · have : j = i := by omega
        subst this
        simp [setL_cons, look_cons, e]
      · have : j ≠ i := by omega
        simp [setL_cons, look_cons, h, h2, this]
    · rcases beq_cases x.1 j with ⟨h2, e2⟩ | ⟨h2, e2⟩
      · have : j ≠ i := by omega
        rw [if_neg (by simp [this])]
        simp only [setL_cons, h, cond_false, look_cons, h2, cond_true]
      · simp only [setL_cons, look_cons, h, h2, cond_false]; exact ih

theorem Mem.at_set [Ctxt] (M : Mem) (b : Blk) (i j : Nat) : (M.set i b).at j = if j = i ∧ (M.at i).isSome then some b else M.at j := look_setL b i j M.l

theorem look_keepL [Ctxt] (f : Nat → Bool) (j : Nat) : ∀ (l : List (Nat × Blk)), look (keepL f l) j = if f j then look l j else none
  | [] => by simp [keepL_nil, look_nil]
  | x :: r => by
    have ih := look_keepL f j r
    rcases beq_cases x.1 j with ⟨h2, e2⟩ | ⟨h2, e2⟩
    · subst e2
      cases hf : f x.1 with
      | true => simp [keepL_cons, look_cons, hf]
      | false => simp only [keepL_cons, look_cons, hf, cond_false]; rw [ih]; simp [hf]
    · cases hf : f x.1 with
      | true => simp only [keepL_cons, hf, cond_true, look_cons, h2, cond_false]; exact ih
      | false => simp only [keepL_cons, hf, cond_false, look_cons, h2]; exact ih

theorem Mem.at_keep [Ctxt] (M : Mem) (f : Nat → Bool) (j : Nat) : (M.keep f).at j = if f j then M.at j else none := look_keepL f j M.l

/-- A block of cells as it is in a world. -/
def RepC [Ctxt] (e : Env) (b : Blk) (p : Nat × Nat) (w : World) : Prop :=
  ∃ c vs fz, w.heap[p.1]? = some (.cells c b.ty fz) ∧ denL e b.cs = some vs ∧ c.toList.take vs.length = vs ∧ (b.row = some 0 ∨ fz = (0, 0)) ∧
    match b.row with
    | none => c.size = vs.length
    | some z => z ≠ 0 → c.size = p.2 * z ∧ p.2 ≤ maxLen

/-- The record of a loop over a function, or its block for deferred calls. -/
def isSp : List CV → Bool
  | [.lp ..] => true
  | [.df] => true
  | [.mo ..] => true
  | [.si ..] => true
  | [.ab ..] => true
  | _ => false
/-- The entries of a map: keys and values in the order in which they came. -/
def mkEnts : Nat → List Value → List Value → List MapEntry
  | i, k :: ks, v :: vs => { key := k, val := v, born := i } :: mkEnts (i + 1) ks vs
  | _, _, _ => []
def RepSp [Ctxt] (e : Env) (c : CV) (p : Nat × Nat) (w : World) : Prop :=
  match c with
  | .lp st pend tmps ps assign body d => ∃ fn vs q, w.heap[p.1]? = some (.loop { state := st, pending := pend, fn := fn, tmps := vs.toArray, params := ps, assign := assign, body := body, defers := q.1 }) ∧ denL e tmps = some vs ∧ e d = some q
  | .df => w.heap[p.1]? = some (.deferred (some []))
  | .mo ks vs => ∃ xs ys, denL e ks = some xs ∧ denL e vs = some ys ∧ xs.length = ys.length ∧ w.heap[p.1]? = some (.map (mkEnts 0 xs ys).toArray xs.length)
  | .si s pos => w.heap[p.1]? = some (.stringIter s pos)
  | .ab y t z => ∃ c, w.heap[p.1]? = some (.cells c t (0, 0)) ∧ c.toList.take (Ctxt.ab.lst y).length = Ctxt.ab.lst y ∧ c.size = p.2 * z ∧ p.2 ≤ maxLen
  | _ => False
def RepS [Ctxt] (e : Env) (b : Blk) (p : Nat × Nat) (w : World) : Prop := b.row = some 0 ∧ ∃ c, b.cs = [c] ∧ isSp [c] = true ∧ RepSp e c p w
/-- A block as it is in a world. -/
def RepB [Ctxt] (e : Env) (b : Blk) (p : Nat × Nat) (w : World) : Prop := RepC e b p w ∨ RepS e b p w
theorem RepB.ofRow [Ctxt] {e : Env} {b : Blk} {p : Nat × Nat} {w : World} (h : RepB e b p w) (hz : b.row ≠ some 0) : RepC e b p w := h.resolve_right fun k => hz k.1
theorem RepB.ofSp [Ctxt] {e : Env} {b : Blk} {p : Nat × Nat} {w : World} (h : RepB e b p w) (hz : isSp b.cs = false) : RepC e b p w := h.resolve_right fun ⟨_, c, h1, h2, _⟩ => by rw [h1, h2] at hz; cases hz

theorem RepB.of [Ctxt] {e : Env} {b : Blk} {p : Nat × Nat} {w : World} (c : Array Value) (vs : List Value) (h1 : w.heap[p.1]? = some (.cells c b.ty (0, 0))) (h2 : denL e b.cs = some vs) (h3 : c.toList.take vs.length = vs)
    (h4 : match b.row with | none => c.size = vs.length | some z => z ≠ 0 → c.size = p.2 * z ∧ p.2 ≤ maxLen) : RepB e b p w := .inl ⟨c, vs, (0, 0), h1, h2, h3, .inr rfl, h4⟩

theorem RepB.lt [Ctxt] {e : Env} {b : Blk} {p : Nat × Nat} {w : World} (h : RepB e b p w) : p.1 < w.heap.size := by
  rcases h with ⟨c, vs, fz, h, _⟩ | ⟨_, c, _, _, h⟩
  · exact (Array.getElem?_eq_some_iff.1 h).1
  · cases c with
    | lp st pend tmps ps assign body d => obtain ⟨_, _, _, h, _⟩ := h; exact (Array.getElem?_eq_some_iff.1 h).1
    | df => exact (Array.getElem?_eq_some_iff.1 h).1
    | mo ks vs => obtain ⟨_, _, _, _, _, h⟩ := h; exact (Array.getElem?_eq_some_iff.1 h).1
    | si s pos => exact (Array.getElem?_eq_some_iff.1 h).1
    | ab y t z => obtain ⟨_, h, _⟩ := h; exact (Array.getElem?_eq_some_iff.1 h).1
    | _ => exact h.elim

theorem RepB.mono [Ctxt] {e e' : Env} {b : Blk} {p : Nat × Nat} {w w' : World} (h : RepB e b p w) (he : Env.le e e') (hw : w'.heap[p.1]? = w.heap[p.1]?) : RepB e' b p w' := by
  rcases h with ⟨c, vs, fz, h1, h2, h3⟩ | ⟨h1, c, h2, h3, h⟩
  · exact .inl ⟨c, vs, fz, hw.trans h1, denL_mono he _ _ h2, h3⟩
  · refine .inr ⟨h1, c, h2, h3, ?_⟩
    cases c with
    | lp st pend tmps ps assign body d =>
      obtain ⟨fn, vs, q, g1, g2, g3⟩ := h
      exact ⟨fn, vs, q, hw.trans g1, denL_mono he _ _ g2, he _ _ g3⟩
    | df => exact hw.trans h
    | mo ks vs =>
      obtain ⟨xs, ys, g1, g2, g3, g4⟩ := h
      exact ⟨xs, ys, denL_mono he _ _ g1, denL_mono he _ _ g2, g3, hw.trans g4⟩
    | si s pos => exact hw.trans h
    | ab y t z =>
      obtain ⟨c, g1, g2⟩ := h
      exact ⟨c, hw.trans g1, g2⟩
    | _ => exact h.elim


/-- What is known of the world besides: it holds, and what it speaks of lies below the names' blocks. -/
structure Rest [Ctxt] (e : Env) (w : World) : Prop where
  k : Ctxt.K w
  size : Ctxt.B ≤ w.heap.size
  new : ∀ i p, Ctxt.pin ≤ i → e i = some p → Ctxt.B ≤ p.1

theorem Rest.step [Ctxt] {e : Env} {w w' : World} (h : Rest e w) (hb : RowKit.Below Ctxt.B w w') : Rest e w' := ⟨Ctxt.kst w w' h.k hb, Nat.le_trans h.size hb.size, h.new⟩

/-- The memory as it is in a world. -/
structure Rep [Ctxt] (e : Env) (M : Mem) (w : World) : Prop where
  wf : ∀ i b, M.at i = some b → i < M.next
  blk : ∀ i b, M.at i = some b → ∃ p, e i = some p ∧ RepB e b p w
  inj : ∀ i j b c p q, M.at i = some b → M.at j = some c → e i = some p → e j = some q → p.1 = q.1 → i = j
  pin : ∀ i p, i < Ctxt.pin → e i = some p → p.1 = i
  pinN : Ctxt.pin ≤ M.next
  rest : Rest e w

/-- What a step leaves: nothing but the blocks of the memory and new ones have changed; names below `lim` not at all. -/
structure Post [Ctxt] (lim : Nat) (e : Env) (M : Mem) (w : World) (e' : Env) (M' : Mem) (w' : World) : Prop where
  env : ∀ i, i < M.next ∨ M'.next ≤ i → e' i = e i
  le : Env.le e e'
  next : M.next ≤ M'.next
  low : ∀ i, i < lim → M'.at i = M.at i
  rep : Rep e' M' w'
  size : w.heap.size ≤ w'.heap.size
  kept : ∀ b, b < w.heap.size → (∀ i c p, M.at i = some c → e i = some p → p.1 ≠ b) → w'.heap[b]? = w.heap[b]?
  fresh : ∀ i c p, M.next ≤ i → M'.at i = some c → e' i = some p → w.heap.size ≤ p.1 ∨ ∃ j d q, lim ≤ j ∧ M.at j = some d ∧ e j = some q ∧ q.1 = p.1
  old : ∀ i c, i < M.next → M'.at i = some c → ∃ d, M.at i = some d
  os : w'.os = w.os
  tape : w'.tape = w.tape
  output : w'.output = w.output

theorem Post.refl [Ctxt] {lim : Nat} {e : Env} {M : Mem} {w : World} (h : Rep e M w) : Post lim e M w e M w where
  env _ _ := rfl
  le := .refl e
  next := Nat.le_refl _
  low _ _ := rfl
  rep := h
  size := Nat.le_refl _
  kept _ _ _ := rfl
  fresh i c p hi hc _ := absurd (h.wf i c hc) (by omega)
  old i c _ hc := ⟨c, hc⟩
  os := rfl
  tape := rfl
  output := rfl

theorem Post.trans [Ctxt] {lim : Nat} {e e1 e2 : Env} {M M1 M2 : Mem} {w w1 w2 : World} (h : Post lim e M w e1 M1 w1) (k : Post lim e1 M1 w1 e2 M2 w2) : Post lim e M w e2 M2 w2 where
  env i hi := by
    have := h.next; have := k.next
    rw [k.env i (by omega), h.env i (by omega)]
  le := h.le.trans k.le
  next := Nat.le_trans h.next k.next
  low i hi := (k.low i hi).trans (h.low i hi)
  rep := k.rep
  size := Nat.le_trans h.size k.size
  kept b hb hn := by
    have hs := h.size
    rw [k.kept b (by omega) ?_, h.kept b hb hn]
    intro i c p hc hp
    by_cases hi : i < M.next
    · obtain ⟨d, hd⟩ := h.old i c hi hc
      exact hn i d p hd (by rw [← h.env i (.inl hi)]; exact hp)
    · rcases h.fresh i c p (by omega) hc hp with hf | ⟨j, d, q, _, hd, hq, hqp⟩
      · omega
      · rw [← hqp]; exact hn j d q hd hq
  fresh i c p hi hc hp := by
    have hs := h.size
    by_cases hi1 : i < M1.next
    · obtain ⟨d, hd⟩ := k.old i c hi1 hc
      exact h.fresh i d p hi hd (by rw [← k.env i (.inl hi1)]; exact hp)
    · rcases k.fresh i c p (by omega) hc hp with hf | ⟨j, d, q, hj, hd, hq, hqp⟩
      · exact .inl (by omega)
      · by_cases hj1 : j < M.next
        · obtain ⟨d', hd'⟩ := h.old j d hj1 hd
          exact .inr ⟨j, d', q, hj, hd', by rw [← h.env j (.inl hj1)]; exact hq, hqp⟩
        · rcases h.fresh j d q (by omega) hd hq with hf | ⟨j', d', q', hl, h1, h2, h3⟩
          · exact .inl (by omega)
          · exact .inr ⟨j', d', q', hl, h1, h2, h3.trans hqp⟩
  old i c hi hc := by
    have := h.next
    obtain ⟨d, hd⟩ := k.old i c (by omega) hc
    exact h.old i d hi hd
  os := k.os.trans h.os
  tape := k.tape.trans h.tape
  output := k.output.trans h.output

theorem Post.weaken [Ctxt] {lim lim' : Nat} {e e' : Env} {M M' : Mem} {w w' : World} (h : Post lim e M w e' M' w') (hl : lim' ≤ lim) : Post lim' e M w e' M' w' :=
  { h with
    low := fun i hi => h.low i (by omega)
    fresh := fun i c p hi hc hp => (h.fresh i c p hi hc hp).imp id fun ⟨j, d, q, hj, r⟩ => ⟨j, d, q, by omega, r⟩ }

/-- Some blocks are forgotten (none below `lim`). -/
theorem Rep.keep [Ctxt] {e : Env} {M : Mem} {w : World} (h : Rep e M w) (f : Nat → Bool) : Rep e (M.keep f) w := by
  have sub : ∀ i b, (M.keep f).at i = some b → M.at i = some b := fun i b hb => by
    rw [Mem.at_keep] at hb
    split at hb
    · exact hb
    · cases hb
  exact ⟨fun i b hb => h.wf i b (sub i b hb), fun i b hb => h.blk i b (sub i b hb), fun i j b c p q hb hc => h.inj i j b c p q (sub i b hb) (sub j c hc), h.pin, h.pinN, h.rest⟩

theorem Post.keep [Ctxt] {lim : Nat} {e e' : Env} {M M' : Mem} {w w' : World} (h : Post lim e M w e' M' w') (f : Nat → Bool) (hf : ∀ i, i < lim → f i = true) : Post lim e M w e' (M'.keep f) w' := by
  have sub : ∀ i b, (M'.keep f).at i = some b → M'.at i = some b := fun i b hb => by
    rw [Mem.at_keep] at hb
    split at hb
    · exact hb
    · cases hb
  exact { h with
    low := fun i hi => by rw [Mem.at_keep, if_pos (hf i hi)]; exact h.low i hi
    rep := h.rep.keep f
    fresh := fun i c p hi hc hp => h.fresh i c p hi (sub i c hc) hp
    old := fun i c hi hc => h.old i c hi (sub i c hc) }

def Env.upd (e : Env) (n : Nat) (p : Nat × Nat) : Env := fun i => if i = n then some p else e i

theorem Env.upd_le {e : Env} {n : Nat} {p : Nat × Nat} (h : e n = none) : Env.le e (e.upd n p) := fun i q hq => by
  unfold Env.upd
  split
  · rename_i hi; subst hi; rw [h] at hq; cases hq
  · exact hq

/-- A new block of any kind. -/
theorem post_newB [Ctxt] {lim : Nat} {e : Env} {M : Mem} {w w1 : World} (h : Rep e M w) (hl : Ctxt.pin ≤ lim ∧ lim ≤ M.next) (hn : e M.next = none) (b : Blk) (o : Obj) (cap : Nat)
    (hB0 : Env.le e (e.upd M.next (w.heap.size, cap)) → (w1.alloc o).heap[w.heap.size]? = some o → RepB (e.upd M.next (w.heap.size, cap)) b (w.heap.size, cap) (w1.alloc o))
    (hh : w1.heap = w.heap) (h1 : w1.os = w.os) (h2 : w1.tape = w.tape) (h3 : w1.output = w.output) :
    Post lim e M w (e.upd M.next (w.heap.size, cap)) (M.push b) (w1.alloc o) := by
  have hnew : (w1.alloc o).heap[w.heap.size]? = some o := by
    simp [World.alloc, hh]
  have hold : ∀ k, k < w.heap.size → (w1.alloc o).heap[k]? = w.heap[k]? := fun k hk => by
    simp only [World.alloc, hh, Array.getElem?_push]
    rw [if_neg (by omega)]
  have hle := Env.upd_le (p := (w.heap.size, cap)) hn
  refine ⟨fun i hi => ?_, hle, by simp [Mem.push], fun i hi => ?_, ⟨fun i c' hc' => ?_, fun i c' hc' => ?_, fun i j b' c' p q hb' hc' hp hq hpq => ?_, fun i p hi hp => ?_, by have := h.pinN; simp only [Mem.push]; omega, ⟨Ctxt.kst w _ h.rest.k ⟨h1, h2, h3, by simp [World.alloc, hh], fun k hk => hold k (Nat.lt_of_lt_of_le hk h.rest.size)⟩, by have := h.rest.size; simp [World.alloc, hh]; omega, fun i p hi hp => ?_⟩⟩, by simp [World.alloc, hh], fun k hk _ => hold k hk, fun i c' p hi hc' hp => ?_, fun i c' hi hc' => ?_, h1, h2, h3⟩
  · simp only [Env.upd, Mem.push] at hi ⊢
    rw [if_neg (by omega)]
  · rw [Mem.at_push, if_neg (by omega)]
  · rw [Mem.at_push] at hc'
    simp only [Mem.push]
    split at hc'
    · omega
    · have := h.wf i c' hc'; omega
  · rw [Mem.at_push] at hc'
    split at hc'
    · rename_i hi; subst hi
      cases hc'
      exact ⟨(w.heap.size, cap), by simp [Env.upd], hB0 hle hnew⟩
    · obtain ⟨p, hp, hB⟩ := h.blk i c' hc'
      exact ⟨p, hle i p hp, hB.mono hle (hold _ hB.lt)⟩
  · rw [Mem.at_push] at hb' hc'
    simp only [Env.upd] at hp hq
    split at hb'
    · split at hc'
      · omega
      · rename_i hi hj
        rw [if_pos hi] at hp; rw [if_neg hj] at hq
        obtain ⟨q', hq', hB⟩ := h.blk j c' hc'
        rw [hq] at hq'; cases hq'; cases hp
        have := hB.lt
        simp at hpq; omega
    · split at hc'
      · rename_i hi hj
        rw [if_neg hi] at hp; rw [if_pos hj] at hq
        obtain ⟨q', hq', hB⟩ := h.blk i b' hb'
        rw [hp] at hq'; cases hq'; cases hq
        have := hB.lt
        simp at hpq; omega
      · rename_i hi hj
        rw [if_neg hi] at hp; rw [if_neg hj] at hq
        exact h.inj i j b' c' p q hb' hc' hp hq hpq
  · have := h.pinN
    simp only [Env.upd] at hp
    rw [if_neg (by omega)] at hp
    exact h.pin i p hi hp
  · simp only [Env.upd] at hp
    split at hp
    · cases hp; exact h.rest.size
    · exact h.rest.new i p hi hp
  · rw [Mem.at_push] at hc'
    split at hc'
    · rename_i hi
      simp only [Env.upd, if_pos hi] at hp
      cases hp
      exact .inl (Nat.le_refl _)
    · exact absurd (h.wf i c' hc') (by omega)
  · rw [Mem.at_push, if_neg (by omega)] at hc'
    exact ⟨c', hc'⟩

/-- A new block, some cells of it frozen if it is to be read only. -/
theorem post_newZ [Ctxt] {lim : Nat} {e : Env} {M : Mem} {w w1 : World} (h : Rep e M w) (hl : Ctxt.pin ≤ lim ∧ lim ≤ M.next) (hn : e M.next = none) (b : Blk) (vs : List Value) (hv : denL e b.cs = some vs)
    (c : Array Value) (cap : Nat) (hc : c.toList.take vs.length = vs) (fz : Nat × Nat) (hz : b.row = some 0 ∨ fz = (0, 0)) (hr : match b.row with | none => c.size = vs.length | some z => z ≠ 0 → c.size = cap * z ∧ cap ≤ maxLen)
    (hh : w1.heap = w.heap) (h1 : w1.os = w.os) (h2 : w1.tape = w.tape) (h3 : w1.output = w.output) :
    Post lim e M w (e.upd M.next (w.heap.size, cap)) (M.push b) (w1.alloc (.cells c b.ty fz)) :=
  post_newB h hl hn b _ cap (fun hle hnew => .inl ⟨c, vs, fz, hnew, denL_mono hle _ _ hv, hc, hz, hr⟩) hh h1 h2 h3

/-- A new block. -/
theorem post_new [Ctxt] {lim : Nat} {e : Env} {M : Mem} {w w1 : World} (h : Rep e M w) (hl : Ctxt.pin ≤ lim ∧ lim ≤ M.next) (hn : e M.next = none) (b : Blk) (vs : List Value) (hv : denL e b.cs = some vs)
    (c : Array Value) (cap : Nat) (hc : c.toList.take vs.length = vs) (hr : match b.row with | none => c.size = vs.length | some z => c.size = cap * z ∧ cap ≤ maxLen)
    (hh : w1.heap = w.heap) (h1 : w1.os = w.os) (h2 : w1.tape = w.tape) (h3 : w1.output = w.output) :
    Post lim e M w (e.upd M.next (w.heap.size, cap)) (M.push b) (w1.alloc (.cells c b.ty)) :=
  post_newZ h hl hn b vs hv c cap hc (0, 0) (.inr rfl) (by
    cases hb : b.row with
    | none => rw [hb] at hr; exact hr
    | some z => rw [hb] at hr; exact fun _ => hr) hh h1 h2 h3

/-- A block whose cells are written. -/
theorem post_set [Ctxt] {lim : Nat} {e : Env} {M : Mem} {w w' : World} (h : Rep e M w) {i : Nat} (hpi : Ctxt.pin ≤ lim) (hl : lim ≤ i) {b b' : Blk} (hb : M.at i = some b) {p : Nat × Nat} (hp : e i = some p)
    (hB : RepB e b' p w') (hs : w'.heap.size = w.heap.size) (hk : ∀ k, k ≠ p.1 → w'.heap[k]? = w.heap[k]?)
    (h1 : w'.os = w.os) (h2 : w'.tape = w.tape) (h3 : w'.output = w.output) : Post lim e M w e (M.set i b') w' := by
  have hat : ∀ j, (M.set i b').at j = if j = i then some b' else M.at j := fun j => by
    rw [Mem.at_set]; simp [hb]
  refine ⟨fun _ _ => rfl, .refl e, Nat.le_refl _, fun j hj => ?_, ⟨fun j c hc => ?_, fun j c hc => ?_, fun j k c d q r hc hd hq hr hqr => ?_, h.pin, h.pinN, h.rest.step ⟨h1, h2, h3, by omega, fun k hk' => hk k (fun e => by have := h.rest.new i p (by omega) hp; omega)⟩⟩, by omega, fun k hk' hn => hk k (fun e => hn i b p hb hp e.symm), fun j c q hj hc hq => ?_, fun j c hj hc => ?_, h1, h2, h3⟩
  · rw [hat, if_neg (by omega)]
  · rw [hat] at hc
    split at hc
    · rename_i e; subst e; exact h.wf j b hb
    · exact h.wf j c hc
  · rw [hat] at hc
    split at hc
    · rename_i e; subst e; cases hc; exact ⟨p, hp, hB⟩
    · rename_i hne
      obtain ⟨q, hq, hB'⟩ := h.blk j c hc
      exact ⟨q, hq, hB'.mono (.refl e) (hk _ (fun e => hne (h.inj j i c b q p hc hb hq hp e)))⟩
  · rw [hat] at hc hd
    have hc' : ∃ c', M.at j = some c' := by
      split at hc
      · rename_i e; subst e; exact ⟨b, hb⟩
      · exact ⟨c, hc⟩
    have hd' : ∃ c', M.at k = some c' := by
      split at hd
      · rename_i e; subst e; exact ⟨b, hb⟩
      · exact ⟨d, hd⟩
    obtain ⟨c', hc'⟩ := hc'
    obtain ⟨d', hd'⟩ := hd'
    exact h.inj j k c' d' q r hc' hd' hq hr hqr
  · rw [hat] at hc
    split at hc
    · rename_i e; subst e; exact absurd (h.wf j b hb) (by simp [Mem.set] at *; omega)
    · exact absurd (h.wf j c hc) (by omega)
  · rw [hat] at hc
    split at hc
    · rename_i e; subst e; exact ⟨b, hb⟩
    · exact ⟨c, hc⟩

end Go.Ev
