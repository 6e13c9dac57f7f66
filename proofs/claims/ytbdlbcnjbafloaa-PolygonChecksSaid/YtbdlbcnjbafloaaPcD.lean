/- Layer 5 (polygon): the sides of a polygon. -/
import Derived.Test.YtbdlbcnjbafloaaPcC
import Derived.Test.YtbdlbcnjbafloaaTkF
namespace Go.Proofs.Ytbdlbcnjbafloaa
open Go.RowKit Go.Ev
set_option maxRecDepth 100000
/-! ### Rows -/
def rowOf (f : Nat → List Value) (n : Nat) : List Value := (List.range n).flatMap f
theorem rowOf_succ (f : Nat → List Value) (n : Nat) : rowOf f (n + 1) = rowOf f n ++ f n := by
  unfold rowOf
  rw [List.range_succ, List.flatMap_append]
  simp
theorem rowOf_len {f : Nat → List Value} {z : Nat} (h : ∀ i, (f i).length = z) : ∀ n, (rowOf f n).length = n * z
  | 0 => by simp [rowOf]
  | n + 1 => by rw [rowOf_succ, List.length_append, rowOf_len h n, h, Nat.succ_mul]
theorem rowOf_congr {f g : Nat → List Value} : ∀ {n : Nat}, (∀ i, i < n → f i = g i) → rowOf f n = rowOf g n
  | 0, _ => rfl
  | n + 1, h => by rw [rowOf_succ, rowOf_succ, rowOf_congr fun i hi => h i (by omega), h n (by omega)]
theorem rowOf_get {f : Nat → List Value} {z : Nat} (h : ∀ i, (f i).length = z) : ∀ {n k : Nat}, k < n → ((rowOf f n).drop (k * z)).take z = f k
  | n + 1, k, hk => by
    rw [rowOf_succ]
    have hl := rowOf_len h n
    by_cases hkn : k = n
    · subst hkn
      rw [← hl, List.drop_left, ← h k, List.take_length]
    · have hlt : k < n := by omega
      have : k * z + z ≤ n * z := by rw [← Nat.succ_mul]; exact Nat.mul_le_mul_right _ hlt
      rw [List.drop_append_of_le_length (by omega), List.take_append_of_le_length (by rw [List.length_drop]; omega)]
      exact rowOf_get h hlt
/-- One element is written. -/
theorem rowOf_set {s g : Nat → List Value} {z : Nat} (hs : ∀ i, (s i).length = z) (hg : ∀ i, (g i).length = z) {k : Nat} : ∀ {n : Nat}, k < n →
    rowOf (fun i => if i < k + 1 then s i else g i) n = (rowOf (fun i => if i < k then s i else g i) n).take (k * z) ++ s k ++ (rowOf (fun i => if i < k then s i else g i) n).drop (k * z + z)
  | n + 1, hk => by
    have hf : ∀ j i, ((fun i => if i < j then s i else g i) i).length = z := fun j i => by
      show (if i < j then s i else g i).length = z
      split
      · exact hs i
      · exact hg i
    rw [rowOf_succ, rowOf_succ]
    have hl := rowOf_len (hf k) n
    by_cases hkn : k = n
    · subst hkn
      rw [if_pos (by omega), if_neg (by omega), rowOf_congr (g := fun i => if i < k then s i else g i) (fun i hi => by show (if i < k + 1 then s i else g i) = if i < k then s i else g i; rw [if_pos (by omega), if_pos (by omega)])]
      have h1 : (rowOf (fun i => if i < k then s i else g i) k ++ g k).length = k * z + z := by rw [List.length_append, hl, hg]
      rw [← h1, List.drop_length, List.append_nil, ← hl, List.take_left]
    · have hlt : k < n := by omega
      have hm : k * z + z ≤ n * z := by rw [← Nat.succ_mul]; exact Nat.mul_le_mul_right _ hlt
      rw [if_neg (by omega), if_neg (by omega), List.take_append_of_le_length (by omega), List.drop_append_of_le_length (by omega), rowOf_set hs hg hlt]
      simp only [List.append_assoc]
theorem cells_const (a : Value) (m z : Nat) (hz : 0 < z) : cellsOfRange (List.replicate z a).toArray (m * z) = rowOf (fun _ => List.replicate z a) m := by
  have h1 : rowOf (fun _ => List.replicate z a) m = List.replicate (m * z) a := by
    induction m with
    | zero => simp [rowOf]
    | succ m ih => rw [rowOf_succ, ih, List.replicate_append_replicate, Nat.succ_mul]
  rw [h1]
  unfold cellsOfRange
  rw [List.eq_replicate_iff]
  constructor
  · simp
  · intro b hb
    simp only [List.mem_map, List.mem_range] at hb
    obtain ⟨i, _, rfl⟩ := hb
    have : i % z < z := Nat.mod_lt _ hz
    simp [this]
/-! ### Sides -/
def ptc (p : Pt) : List Value := [iv p.1, iv p.2]
def nth (L : List Pt) (i : Nat) : Pt := L.getD i (0, 0)
/-- The cells of the side that begins at a corner. -/
def sdc (L : List Pt) (i : Nat) : List Value := ptc (nth L i) ++ ptc (nth L ((i + 1) % L.length))
def zr4 : List Value := [iv 0, iv 0, iv 0, iv 0]
def sdRow (L : List Pt) (k : Nat) : List Value := rowOf (fun i => if i < k then sdc L i else zr4) L.length
/-- The sides' cells. -/
def sdC (L : List Pt) : List Value := rowOf (sdc L) L.length
theorem sdRow_full (L : List Pt) : sdRow L L.length = sdC L := rowOf_congr fun i hi => by rw [if_pos hi]
theorem sdRow_zero (L : List Pt) : sdRow L 0 = rowOf (fun _ => zr4) L.length := rowOf_congr fun i hi => by rw [if_neg (by omega)]
theorem nth_some {L : List Pt} {i : Nat} {p : Pt} (h : L[i]? = some p) : nth L i = p := by
  unfold nth
  rw [List.getD_eq_getElem?_getD, h]
  rfl
end Go.Proofs.Ytbdlbcnjbafloaa
