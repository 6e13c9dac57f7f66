/- A symbolic evaluation: what operations yield on terms. -/
import Derived.Test.YtllnglofbhmcgaaGreatEvQ
namespace Go.Ev
open Go.RowKit
variable {K : Kinds} {P : Program}

theorem tells_fld {t : TypeId} {f : Nat} {x u : Value} (h : ∀ w, (Instr.field t x f).run P w = .ok u w) : Tells P (.fld t f) [x] u := by
  intro o ρ xs hk hx w
  obtain ⟨dst, oo, type, pos, after, guard⟩ := o
  obtain ⟨a, ho, rfl⟩ := opKey_fld hk
  simp only at ho; subst ho
  simp at hx
  subst hx
  simp only [execOp]
  rw [Sem.run_bind, h]
  rfl
theorem tells_idx {t : TypeId} {x i u : Value} (h : ∀ w, (Instr.index t x i).run P w = .ok u w) : Tells P (.idx t) [x, i] u := by
  intro o ρ xs hk hx w
  obtain ⟨dst, oo, type, pos, after, guard⟩ := o
  obtain ⟨a, b, ho, rfl⟩ := opKey_idx hk
  simp only at ho; subst ho
  simp at hx
  obtain ⟨rfl, rfl⟩ := hx
  simp only [execOp]
  rw [Sem.run_bind, h]
  rfl
theorem zip_parts (ρ : Operand → Value) : ∀ (l : List (Nat × Operand)), (l.map fun (i, x) => (i, ρ x)) = (l.map (·.1)).zip ((l.map (·.2)).map ρ)
  | [] => rfl
  | x :: r => by simp only [List.map_cons, List.zip_cons_cons, zip_parts ρ r]
theorem tells_bld {t : TypeId} {ix : List Nat} {vals : List Value} {u : Value} (h : ∀ parts : Array (Nat × Value), parts.toList = ix.zip vals → ∀ w, (Instr.build t parts).run P w = .ok u w) : Tells P (.bld t ix) vals u := by
  intro o ρ xs hk hx w
  obtain ⟨dst, oo, type, pos, after, guard⟩ := o
  obtain ⟨parts, ho, rfl, rfl⟩ := opKey_bld hk
  simp only at ho; subst ho
  simp only [execOp]
  rw [Sem.run_bind, h]
  · rfl
  · rw [Array.toList_map, zip_parts, hx]

end Go.Ev
