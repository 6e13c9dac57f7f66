/- Addresses of fields, loads of one cell. -/
import Derived.Test.YtllnglofbhmcgaaGreatTkK
namespace Go.Ev
open Go.RowKit
theorem opKey_fdaE {o : Op} {t : TypeId} {f : Nat} {xs : List Operand} (h : opKey o = some (.fda t f, xs)) : ∃ x, o = .fieldAddr t x f ∧ xs = [x] := by
  unfold opKey at h
  repeat' split at h
  all_goals simp at h
  rename_i t' x f'
  obtain ⟨⟨rfl, rfl⟩, rfl⟩ := h
  exact ⟨x, rfl, rfl⟩
/-- Where a field lies in its struct, if it has cells. -/
def fldOffE (P : Program) (t : TypeId) (f : Nat) : Option Nat :=
  match P.underlying t with
  | some (.struct fs) => match fs[f]? with
    | some fd => match P.info? fd.type with
      | some i => if i.size = 0 then none else some fd.offset
      | none => none
    | none => none
  | _ => none
theorem tells_fdaE {P : Program} {t : TypeId} {f off : Nat} {a : Addr} (h : fldOffE P t f = some off) : Tells P (.fda t f) [.pointer (some a)] (.pointer (some (a.add off))) := by
  intro o ρ xs hq hx w
  obtain ⟨dst, oo, type, pos, after, guard⟩ := o
  obtain ⟨x, ho, rfl⟩ := opKey_fdaE hq
  simp only at ho; subst ho
  simp at hx
  unfold fldOffE at h
  split at h
  · rename_i fs hu
    split at h
    · rename_i fd hf
      split at h
      · rename_i i hi
        split at h
        · cases h
        · rename_i hz
          cases h
          simp [execOp, hx, Instr.fieldAt, run_underlying hu, hf, Instr.sureAddr, fieldPlace, sizeOf, typeInfo, hi, hz]
      · cases h
    · cases h
  · cases h
theorem tells_ld1E {P : Program} {K : World → Prop} {t : TypeId} {a : Addr} {v : Value} (hr : (P.underlying t).map (·.isRow) = some false)
    (hc : ∀ w, K w → w.cell? a = some v) : TellsIn P K (.ld t) [.pointer (some a)] v := by
  obtain ⟨d, hu, hd⟩ := Option.map_eq_some_iff.1 hr
  intro o ρ xs hq hx w hw
  obtain ⟨dst, oo, type, pos, after, guard⟩ := o
  obtain ⟨x, ho, rfl⟩ := opKey_ldE hq
  simp only at ho; subst ho
  simp at hx
  have hagg : (isAgg t).run P w = .ok false w := by
    unfold isAgg
    rw [Sem.run_bind, run_underlying hu w]
    cases d <;> simp_all
  have hl := hc w hw
  simp [execOp, Instr.loadAt, hx, Instr.sureAddr, loadVar, Sem.run_bind, hagg, hl]
/-- Some cells of an element, from one on. -/
theorem ElAt.ldAt {α : Type} {enc : α → List Value} {z : Nat} {P : Program} {K : World → Prop} {B : Nat} {L : List α} {a : Addr} {k o : Nat} {p : α} {t : TypeId} {cs : List Value} (hz : ∀ x, (enc x).length = z) (hr : (P.underlying t).map (·.isRow) = some true) (hi : (P.info? t).map (·.size) = some cs.length)
    (hcs : ∀ j x, cs[j]? = some x → (enc p)[o + j]? = some x) (hK : ∀ w, K w → ElAt enc B L (some a) w) (hp : L[k]? = some p) : TellsIn P K (.ld t) [.pointer (some ((a.add (k * z)).add o))] (.agg cs.toArray) := by
  refine tells_ldE (cs := cs) hr hi fun w hw j x hx => ?_
  have h1 := hcs j x hx
  have hj : o + j < z := by have := (List.getElem?_eq_some_iff.1 h1).1; rwa [hz] at this
  rw [addA, addA]
  exact ((hK w hw).cell a rfl).2 _ _ ((elC_get hz L k p (o + j) hp hj).trans h1)
theorem ElAt.ld1 {α : Type} {enc : α → List Value} {z : Nat} {P : Program} {K : World → Prop} {B : Nat} {L : List α} {a : Addr} {k o : Nat} {p : α} {t : TypeId} {v : Value} (hz : ∀ x, (enc x).length = z) (hr : (P.underlying t).map (·.isRow) = some false)
    (hv : (enc p)[o]? = some v) (hK : ∀ w, K w → ElAt enc B L (some a) w) (hp : L[k]? = some p) : TellsIn P K (.ld t) [.pointer (some ((a.add (k * z)).add o))] v := by
  refine tells_ld1E hr fun w hw => ?_
  have hj : o < z := by have := (List.getElem?_eq_some_iff.1 hv).1; rwa [hz] at this
  rw [addA]
  exact ((hK w hw).cell a rfl).2 _ _ ((elC_get hz L k p o hp hj).trans hv)
end Go.Ev
