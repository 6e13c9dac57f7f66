/- Told operations on strings. -/
import Derived.Test.YtllnglofbhmcgaaGreatEvO
namespace Go.Ev
open Go.RowKit
variable {P : Program}
theorem tells_lnS {t : TypeId} {s : ByteArray} (hu : P.underlying t = some .string) : Tells P (.ln t) [.string s] (.int .i64 s.size) := by
  intro o ρ xs hk hx w
  obtain ⟨dst, oo, type, pos, after, guard⟩ := o
  obtain ⟨cc, ho, hb, ht, rfl⟩ := opKey_ln hk
  simp only at ho; subst ho
  obtain ⟨cal, args, ty⟩ := cc
  simp only at hb hx ht; subst hb
  have e0 : ty = #[t] := by apply Array.ext'; simpa using ht
  have e1 : (Array.map ρ args) = #[.string s] := by apply Array.ext'; simpa using hx
  simp [execOp, resolve, invoke, builtin, Builtin.len_, e0, e1, run_underlying hu, goInt]
theorem tells_idxS {t : TypeId} {s : ByteArray} {k : IntKind} {i : Nat} {b : UInt8} (hu : P.underlying t = some .string) (hb : s[i]? = some b) : Tells P (.idx t) [.string s, .int k (i : Int)] (.int .u8 (b.toNat : Int)) := by
  intro o ρ xs hk hx w
  obtain ⟨dst, oo, type, pos, after, guard⟩ := o
  obtain ⟨a, c, ho, rfl⟩ := opKey_idx hk
  simp only at ho; subst ho
  simp at hx
  obtain ⟨h1, h2⟩ := hx
  have h3 : (0 : Int) ≤ (i : Int) := by omega
  simp [execOp, h1, h2, Instr.index, asIntOf, run_underlying hu, h3, hb]
theorem opKey_slc {o : Op} {t : TypeId} {lo hi : Bool} {xs : List Operand} (h : opKey o = some (.slc t lo hi, xs)) : ∃ x l h', o = .slice t x l h' none ∧ lo = l.isSome ∧ hi = h'.isSome ∧ xs = x :: (l.toList ++ h'.toList) := by
  unfold opKey at h
  repeat' split at h
  all_goals simp at h
  rename_i t' x l h'
  obtain ⟨⟨rfl, rfl, rfl⟩, rfl⟩ := h
  exact ⟨x, l, h', rfl, rfl, rfl, rfl⟩
theorem tells_slcHi {t : TypeId} {s : ByteArray} {k : IntKind} {j : Nat} (hu : P.underlying t = some .string) (hj : j ≤ s.size) : Tells P (.slc t false true) [.string s, .int k (j : Int)] (.string (s.extract 0 j)) := by
  intro o ρ xs hk hx w
  obtain ⟨dst, oo, type, pos, after, guard⟩ := o
  obtain ⟨x, l, h', ho, hl, hh, rfl⟩ := opKey_slc hk
  simp only at ho; subst ho
  cases l with
  | some l => cases hl
  | none =>
    cases h' with
    | none => cases hh
    | some y =>
      simp at hx
      obtain ⟨h1, h2⟩ := hx
      have h3 : (0 : Int) ≤ (j : Int) := by omega
      simp [execOp, h1, h2, Instr.sliceAt, Instr.slice, Instr.sliceBounds, Instr.sliceBound, asIntOf, run_underlying hu, h3, hj]
theorem tells_slcLo {t : TypeId} {s : ByteArray} {k : IntKind} {j : Nat} (hu : P.underlying t = some .string) (hj : j ≤ s.size) : Tells P (.slc t true false) [.string s, .int k (j : Int)] (.string (s.extract j s.size)) := by
  intro o ρ xs hk hx w
  obtain ⟨dst, oo, type, pos, after, guard⟩ := o
  obtain ⟨x, l, h', ho, hl, hh, rfl⟩ := opKey_slc hk
  simp only at ho; subst ho
  cases l with
  | none => cases hl
  | some y =>
    cases h' with
    | some h' => cases hh
    | none =>
      simp at hx
      obtain ⟨h1, h2⟩ := hx
      have h3 : (0 : Int) ≤ (j : Int) := by omega
      simp [execOp, h1, h2, Instr.sliceAt, Instr.slice, Instr.sliceBounds, Instr.sliceBound, asIntOf, run_underlying hu, h3, hj]
theorem tells_addS {t : TypeId} {a b : ByteArray} (h : a.size + b.size ≤ 9223372036854775807) : Tells P (.bin .add t) [.string a, .string b] (.string (a ++ b)) :=
  tells_bin (fun w xo yo => by simp [eqGuard]) fun w => by
    have h' : ¬ ((9223372036854775807 : Int) < (a.size : Int) + (b.size : Int)) := by omega
    simp [binOp, Op.stringOp, h']
theorem tells_byt1 {u : UInt8} : Tells P .byt [.int .u8 (u.toNat : Int)] (.string ⟨#[u]⟩) := ⟨[u], by simp, rfl⟩
end Go.Ev
