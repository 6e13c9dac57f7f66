/- Loops that count. -/
import Derived.Test.YtllnglofbhmcgaaGreatTkI
namespace Go.Ev
open Go.RowKit
theorem aN {α : Type} {p : α → Prop} : ∀ r ∈ ([] : List α), p r := fun _ h => by cases h
theorem aC {α : Type} {p : α → Prop} {x : α} {l : List α} (h : p x) (hl : ∀ r ∈ l, p r) : ∀ r ∈ x :: l, p r := fun r hr => by
  rcases List.mem_cons.1 hr with rfl | hr
  · exact h
  · exact hl r hr
theorem aA {α : Type} {p : α → Prop} {l m : List α} (h : ∀ r ∈ l, p r) (hl : ∀ r ∈ m, p r) : ∀ r ∈ l ++ m, p r := fun r hr => (List.mem_append.1 hr).elim (h r) (hl r)
def intOfI : Value → Int
  | .int _ z => z
  | _ => 0
/-- A loop that counts: the frame and what holds are told by the count. -/
theorem wp_upto {P : Program} {c : Code} {a : Act} {w : World} {Q : Exit → Act → World → Prop} (N n ix : Nat) (tv : Nat → List (Nat × Value)) (J : Nat → World → Prop) (hix : ∀ k : Nat, (ix, ivZ k) ∈ tv k) (h0 : Tmps N (tv 0) a) (j0 : J 0 w)
    (hs : ∀ (k : Nat) (a : Act) (w : World), k ≤ n → Tmps N (tv k) a → J k w → c.wp P (Exit.then (fun a' w' => k < n ∧ Tmps N (tv (k + 1)) a' ∧ J (k + 1) w') Q) a w) : (Code.loop c).wp P Q a w := by
  refine wp_loop (fun x w' => ∃ k : Nat, k ≤ n ∧ Tmps N (tv k) x ∧ J k w') (fun x _ => n - (intOfI (x.tmps.getD ix undef)).toNat) ⟨0, Nat.zero_le _, h0, j0⟩ ?_
  rintro a1 w1 ⟨k, hk, hT, hJ⟩
  refine wp_mono (hs k a1 w1 hk hT hJ) ?_
  intro e a' w' h
  cases e with
  | normal =>
    obtain ⟨g1, g2, g3⟩ := h
    refine ⟨⟨k + 1, g1, g2, g3⟩, ?_⟩
    have e1 : a1.tmps.getD ix undef = ivZ k := hT.tmps _ (hix k)
    have e2 : a'.tmps.getD ix undef = ivZ (k + 1 : Nat) := g2.tmps _ (hix (k + 1))
    rw [e1, e2]
    simp only [intOfI]
    omega
  | _ => exact h
end Go.Ev
