/- Layer 5 (polygon): lists of points that a call is given. -/
import Derived.Test.YtbdlbcnjbafloaaProg
import Derived.Test.YtbdlbcnjbafloaaTkD
namespace Go.Proofs.Ytbdlbcnjbafloaa
open Go.RowKit Go.Ev
set_option maxRecDepth 100000
abbrev iv (z : Int) : Value := .int .i64 z
abbrev Pt := Int × Int
def ptC (L : List Pt) : List Value := L.flatMap fun p => [iv p.1, iv p.2]
theorem ptC_cons (p : Pt) (L : List Pt) : ptC (p :: L) = iv p.1 :: iv p.2 :: ptC L := rfl
theorem ptC_len : ∀ (L : List Pt), (ptC L).length = L.length * 2
  | [] => rfl
  | p :: L => by rw [ptC_cons, List.length_cons, List.length_cons, ptC_len L, List.length_cons]; omega
theorem ptC_get : ∀ (L : List Pt) (k : Nat) (p : Pt), L[k]? = some p → (ptC L)[k * 2]? = some (iv p.1) ∧ (ptC L)[k * 2 + 1]? = some (iv p.2)
  | [], k, p, h => by simp at h
  | q :: L, 0, p, h => by
    simp at h; subst h
    exact ⟨rfl, rfl⟩
  | q :: L, k + 1, p, h => by
    have := ptC_get L k p (by simpa using h)
    rw [ptC_cons, show (k + 1) * 2 = k * 2 + 2 by omega, show k * 2 + 2 + 1 = (k * 2 + 1) + 2 by omega]
    exact this
/-- A slice of points that a call is given, in blocks below B. -/
structure PtsAt (B : Nat) (L : List Pt) (a : Option Addr) (w : World) : Prop where
  ex : 0 < L.length → ∃ a', a = some a'
  cell : ∀ a', a = some a' → (0 < L.length → a'.block < B) ∧ ∀ j x, (ptC L)[j]? = some x → w.cell? (a'.add j) = some x
theorem add_block (a : Addr) (j : Nat) : (a.add j).block = a.block := by
  unfold Addr.add
  split <;> rfl
theorem add_add (a : Addr) (i j : Nat) : (a.add i).add j = a.add (i + j) := by
  unfold Addr.add
  by_cases h1 : i = 0
  · subst h1; simp
  · by_cases h2 : j = 0
    · subst h2; simp
    · rw [if_neg h1, if_neg h2, if_neg (by omega)]
      simp [Nat.add_assoc]
theorem PtsAt.below {B B' : Nat} {L : List Pt} {a : Option Addr} {w w' : World} (h : PtsAt B L a w) (hb : Below B' w w') (hB : B ≤ B') : PtsAt B L a w' :=
  ⟨h.ex, fun a' ha => ⟨(h.cell a' ha).1, fun j x hx => by
    have := hb.cell (p := a'.add j) (by rw [add_block]; exact Nat.lt_of_lt_of_le ((h.cell a' ha).1 (by have := (List.getElem?_eq_some_iff.1 hx).1; rw [ptC_len] at this; omega)) hB)
    exact this.trans ((h.cell a' ha).2 j x hx)⟩⟩
theorem opKey_ixa {o : Op} {t : TypeId} {xs : List Operand} (h : opKey o = some (.ixa t, xs)) : ∃ x i, o = .indexAddr t x i ∧ xs = [x, i] := by
  unfold opKey at h
  repeat' split at h
  all_goals simp at h
  rename_i t' x i
  obtain ⟨rfl, rfl⟩ := h
  exact ⟨x, i, rfl, rfl⟩
theorem opKey_ld {o : Op} {t : TypeId} {xs : List Operand} (h : opKey o = some (.ld t, xs)) : ∃ x, o = .load t x ∧ xs = [x] := by
  unfold opKey at h
  repeat' split at h
  all_goals simp at h
  rename_i t' x
  obtain ⟨rfl, rfl⟩ := h
  exact ⟨x, rfl, rfl⟩
theorem tells_ixa {P : Program} {t e : TypeId} {a : Addr} {n c k z : Nat} (hu : P.underlying t = some (.slice e)) (hz : (P.info? e).map (·.size) = some z) (hk : k < n) :
    Tells P (.ixa t) [.slice (some a) n c, iv k] (.pointer (some (a.add (k * z)))) := by
  obtain ⟨inf, hi, rfl⟩ := Option.map_eq_some_iff.1 hz
  intro o ρ xs hq hx w
  obtain ⟨dst, oo, type, pos, after, guard⟩ := o
  obtain ⟨x, i, ho, rfl⟩ := opKey_ixa hq
  simp only at ho; subst ho
  simp at hx
  obtain ⟨h1, h2⟩ := hx
  have h3 : (0 : Int) ≤ (k : Int) := by omega
  have h4 : (k : Int) < (n : Int) := by omega
  simp [execOp, h1, h2, Instr.indexAt, asIntOf, run_underlying hu, h3, hk, sizeOf, typeInfo, hi]
theorem tells_ld {P : Program} {K : World → Prop} {t : TypeId} {a : Addr} {cs : List Value} (hr : (P.underlying t).map (·.isRow) = some true) (hi : (P.info? t).map (·.size) = some cs.length)
    (hc : ∀ w, K w → ∀ j x, cs[j]? = some x → w.cell? (a.add j) = some x) : TellsIn P K (.ld t) [.pointer (some a)] (.agg cs.toArray) := by
  obtain ⟨d, hu, hd⟩ := Option.map_eq_some_iff.1 hr
  intro o ρ xs hq hx w hw
  obtain ⟨dst, oo, type, pos, after, guard⟩ := o
  obtain ⟨x, ho, rfl⟩ := opKey_ld hq
  simp only at ho; subst ho
  simp at hx
  have hl : (loadCells a cs.length).run P w = .ok cs.toArray w := run_loadCells_list (P := P) w a cs (hc w hw)
  cases hq : P.info? t with
  | none => simp [hq] at hi
  | some i =>
    have hs : i.size = cs.length := by simpa [hq] using hi
    have hagg : (isAgg t).run P w = .ok true w := by
      unfold isAgg
      rw [Sem.run_bind, run_underlying hu w]
      cases d <;> simp_all
    simp [execOp, Instr.loadAt, hx, Instr.sureAddr, loadVar, Sem.run_bind, hagg, sizeOf, typeInfo, hq, hs, hl]
/-- The point at an index of such a list. -/
theorem PtsAt.ld {P : Program} {K : World → Prop} {B : Nat} {L : List Pt} {a : Addr} {k : Nat} {p : Pt} {t : TypeId} (hr : (P.underlying t).map (·.isRow) = some true) (hi : (P.info? t).map (·.size) = some 2)
    (hK : ∀ w, K w → PtsAt B L (some a) w) (hp : L[k]? = some p) : TellsIn P K (.ld t) [.pointer (some (a.add (k * 2)))] (.agg #[iv p.1, iv p.2]) := by
  refine tells_ld (cs := [iv p.1, iv p.2]) hr hi fun w hw j x hx => ?_
  obtain ⟨g1, g2⟩ := ptC_get L k p hp
  have hc := ((hK w hw).cell a rfl).2
  rw [add_add]
  match j, hx with
  | 0, hx => simp at hx; subst hx; exact hc _ _ g1
  | 1, hx => simp at hx; subst hx; exact hc _ _ g2
  | j + 2, hx => simp at hx
end Go.Proofs.Ytbdlbcnjbafloaa
