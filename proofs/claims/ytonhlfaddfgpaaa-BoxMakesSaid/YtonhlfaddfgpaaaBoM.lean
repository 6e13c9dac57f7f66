/- Layer 6 (box): plain maths, and the functions that terms name. A box: a b c its Min, d e f its Max; a second one: g h i, j k l. -/
import Derived.Test.YtonhlfaddfgpaaaEvV
import Derived.Handy
namespace Go.Proofs.Ytonhlfaddfgpaaa
open Go.RowKit Go.Ev
set_option linter.unusedSimpArgs false

def chkB (x y z u v w : Int) : Int := if x < -1000000 ∨ 1000000 < x ∨ y < -1000000 ∨ 1000000 < y ∨ z < -1000000 ∨ 1000000 < z ∨ u < -1000000 ∨ 1000000 < u ∨ v < -1000000 ∨ 1000000 < v ∨ w < -1000000 ∨ 1000000 < w then 6 else if x < u ∧ y < v ∧ z < w then 0 else 1
theorem chkB_r (x y z u v w : Int) : IntKind.i64.wrap (chkB x y z u v w) = chkB x y z u v w := by
  unfold chkB
  repeat' split
  all_goals rfl
theorem chkB_ok {x y z u v w : Int} : chkB x y z u v w = 0 ↔ (-1000000 ≤ x ∧ x < u ∧ u ≤ 1000000) ∧ (-1000000 ≤ y ∧ y < v ∧ v ≤ 1000000) ∧ (-1000000 ≤ z ∧ z < w ∧ w ≤ 1000000) := by
  unfold chkB
  repeat' split
  all_goals omega
theorem chkB_one {x y z u v w : Int} (h : x < u ∧ y < v ∧ z < w) : chkB x y z u v w = 0 ∨ chkB x y z u v w = 6 := by
  unfold chkB
  repeat' split
  all_goals omega
def mn2 (a b : Int) : Int := if b < a then b else a
def mx2 (a b : Int) : Int := if b > a then b else a
theorem mn2_is (a b : Int) : mn2 a b ≤ a ∧ mn2 a b ≤ b ∧ (mn2 a b = a ∨ mn2 a b = b) := by unfold mn2; split <;> omega
theorem mx2_is (a b : Int) : a ≤ mx2 a b ∧ b ≤ mx2 a b ∧ (mx2 a b = a ∨ mx2 a b = b) := by unfold mx2; split <;> omega
abbrev W (z : Int) : Int := IntKind.i64.wrap z
theorem bV_add (k : IntKind) (a b : Int) : binV .add k a b = k.wrap (a + b) := rfl
theorem bV_sub (k : IntKind) (a b : Int) : binV .sub k a b = k.wrap (a - b) := rfl
theorem bV_mul (k : IntKind) (a b : Int) : binV .mul k a b = k.wrap (a * b) := rfl
theorem bV_quo (k : IntKind) (a b : Int) : binV .quo k a b = k.wrap (a.tdiv b) := rfl
theorem bV_rem (k : IntKind) (a b : Int) : binV .rem k a b = a.tmod b := rfl
theorem bV_mn (k : IntKind) (a b : Int) : binV .mn k a b = mn2 a b := rfl
theorem bV_mx (k : IntKind) (a b : Int) : binV .mx k a b = mx2 a b := rfl

def volB (a b c d e f : Int) : Int := W (W (W (d - a) * W (e - b)) * W (f - c))
/-- The ranges of two boxes on an axis have a common point. -/
def ovl (a d g j : Int) : Bool := decide (mx2 a g < mn2 d j)
theorem ovl_t {a d g j : Int} : ovl a d g j = true ↔ a < d ∧ a < j ∧ g < d ∧ g < j := by
  unfold ovl
  rw [decide_eq_true_iff]
  have := mn2_is d j
  have := mx2_is a g
  omega
def ovB (a b c d e f g h i j k l : Int) : Bool := ovl a d g j && ovl b e h k && ovl c f i l
def hasB (a b c d e f g h i : Int) : Bool := decide ((a ≤ g ∧ g < d) ∧ (b ≤ h ∧ h < e) ∧ (c ≤ i ∧ i < f))
/-- The first box lies in the second one. -/
def insB (a b c d e f g h i j k l : Int) : Bool := decide ((g ≤ a ∧ d ≤ j) ∧ (h ≤ b ∧ e ≤ k) ∧ (i ≤ c ∧ f ≤ l))
theorem ovB_t {a b c d e f g h i j k l : Int} : ovB a b c d e f g h i j k l = true ↔ (a < d ∧ a < j ∧ g < d ∧ g < j) ∧ (b < e ∧ b < k ∧ h < e ∧ h < k) ∧ (c < f ∧ c < l ∧ i < f ∧ i < l) := by
  unfold ovB
  rw [Bool.and_eq_true, Bool.and_eq_true, ovl_t, ovl_t, ovl_t, and_assoc]
theorem ovB_f {a b c d e f g h i j k l : Int} : ovB a b c d e f g h i j k l = false ↔ ¬ ((a < d ∧ a < j ∧ g < d ∧ g < j) ∧ (b < e ∧ b < k ∧ h < e ∧ h < k) ∧ (c < f ∧ c < l ∧ i < f ∧ i < l)) := by
  rw [← ovB_t]; simp
theorem hasB_t {a b c d e f g h i : Int} : hasB a b c d e f g h i = true ↔ ((a ≤ g ∧ g < d) ∧ (b ≤ h ∧ h < e) ∧ (c ≤ i ∧ i < f)) := decide_eq_true_iff
theorem hasB_f {a b c d e f g h i : Int} : hasB a b c d e f g h i = false ↔ ¬ ((a ≤ g ∧ g < d) ∧ (b ≤ h ∧ h < e) ∧ (c ≤ i ∧ i < f)) := decide_eq_false_iff_not
theorem insB_t {a b c d e f g h i j k l : Int} : insB a b c d e f g h i j k l = true ↔ ((g ≤ a ∧ d ≤ j) ∧ (h ≤ b ∧ e ≤ k) ∧ (i ≤ c ∧ f ≤ l)) := decide_eq_true_iff
theorem insB_f {a b c d e f g h i j k l : Int} : insB a b c d e f g h i j k l = false ↔ ¬ ((g ≤ a ∧ d ≤ j) ∧ (h ≤ b ∧ e ≤ k) ∧ (i ≤ c ∧ f ≤ l)) := decide_eq_false_iff_not
def ovP (a d g j : Int) : Prop := a < d ∧ a < j ∧ g < d ∧ g < j
instance (a d g j : Int) : Decidable (ovP a d g j) := inferInstanceAs (Decidable (_ ∧ _ ∧ _ ∧ _))
/-- The direction in which the second box touches the first one, or -1. -/
def rtch (a b c d e f g h i j k l : Int) : Int :=
  if (ovP b e h k ∧ ovP c f i l) ∧ g = d then 0 else if (ovP b e h k ∧ ovP c f i l) ∧ j = a then 1 else
  if (ovP a d g j ∧ ovP c f i l) ∧ h = e then 2 else if (ovP a d g j ∧ ovP c f i l) ∧ k = b then 3 else
  if (ovP a d g j ∧ ovP b e h k) ∧ i = f then 4 else if (ovP a d g j ∧ ovP b e h k) ∧ l = c then 5 else -1
theorem rtch_rng (a b c d e f g h i j k l : Int) : -1 ≤ rtch a b c d e f g h i j k l ∧ rtch a b c d e f g h i j k l ≤ 5 := by
  unfold rtch
  repeat' split
  all_goals exact ⟨by decide, by decide⟩
theorem r_small {z : Int} (h : -1 ≤ z ∧ z ≤ 9) : IntKind.i64.wrap z = z := wrap64 z ⟨by omega, by omega⟩
theorem rtch_r (a b c d e f g h i j k l : Int) : IntKind.i64.wrap (rtch a b c d e f g h i j k l) = rtch a b c d e f g h i j k l := r_small (by have := rtch_rng a b c d e f g h i j k l; omega)
def tchN (a b c d e f g h i j k l : Int) : Int := if rtch a b c d e f g h i j k l < 0 then 0 else rtch a b c d e f g h i j k l
def tchE (a b c d e f g h i j k l : Int) : Int := if rtch a b c d e f g h i j k l < 0 then 9 else 0
theorem tch_neg {a b c d e f g h i j k l : Int} (h0 : rtch a b c d e f g h i j k l < 0) : tchN a b c d e f g h i j k l = 0 ∧ tchE a b c d e f g h i j k l = 9 := ⟨if_pos h0, if_pos h0⟩
theorem tch_pos {a b c d e f g h i j k l : Int} (h0 : ¬ rtch a b c d e f g h i j k l < 0) : tchN a b c d e f g h i j k l = rtch a b c d e f g h i j k l ∧ tchE a b c d e f g h i j k l = 0 := ⟨if_neg h0, if_neg h0⟩
theorem tch_rng (a b c d e f g h i j k l : Int) : (-1 ≤ tchN a b c d e f g h i j k l ∧ tchN a b c d e f g h i j k l ≤ 9) ∧ (-1 ≤ tchE a b c d e f g h i j k l ∧ tchE a b c d e f g h i j k l ≤ 9) := by
  have := rtch_rng a b c d e f g h i j k l
  by_cases h0 : rtch a b c d e f g h i j k l < 0
  · have := tch_neg h0; omega
  · have := tch_pos h0; omega
/-- What Move answers for a valid box: the error, a coordinate. -/
def mvE (a b c d e f x y z : Int) : Int := if x < -1000000 - a ∨ 1000000 - d < x ∨ y < -1000000 - b ∨ 1000000 - e < y ∨ z < -1000000 - c ∨ 1000000 - f < z then 6 else 0
def mvC (n a x : Int) : Int := if n = 0 then W (a + x) else 0
theorem mvE_r (a b c d e f x y z : Int) : IntKind.i64.wrap (mvE a b c d e f x y z) = mvE a b c d e f x y z := by
  unfold mvE
  split <;> rfl
theorem mvC_r (n a x : Int) : IntKind.i64.wrap (mvC n a x) = mvC n a x := by
  unfold mvC
  split
  · exact wrap_wrap _ _
  · rfl
theorem mvE_0 {a b c d e f x y z : Int} : mvE a b c d e f x y z = 0 ↔ (-1000000 ≤ a + x ∧ d + x ≤ 1000000) ∧ (-1000000 ≤ b + y ∧ e + y ≤ 1000000) ∧ (-1000000 ≤ c + z ∧ f + z ≤ 1000000) := by
  unfold mvE
  split <;> omega
theorem mvE_6 {a b c d e f x y z : Int} : mvE a b c d e f x y z = 6 ↔ ¬ ((-1000000 ≤ a + x ∧ d + x ≤ 1000000) ∧ (-1000000 ≤ b + y ∧ e + y ≤ 1000000) ∧ (-1000000 ≤ c + z ∧ f + z ≤ 1000000)) := by
  unfold mvE
  split <;> omega
theorem mvC_0 {n a x : Int} (h : n = 0) : mvC n a x = W (a + x) := if_pos h
/-- The functions that terms name: 0 the error of a box, 1 its volume, 2 and 3 what Touch answers, 4 the direction or -1; 5 the error of Move, 6 to 11 the box that it answers. -/
def boFv : Nat → List Int → Int
  | 0, [a, b, c, d, e, f] => chkB a b c d e f
  | 1, [a, b, c, d, e, f] => volB a b c d e f
  | 2, [a, b, c, d, e, f, g, h, i, j, k, l] => tchN a b c d e f g h i j k l
  | 3, [a, b, c, d, e, f, g, h, i, j, k, l] => tchE a b c d e f g h i j k l
  | 4, [a, b, c, d, e, f, g, h, i, j, k, l] => rtch a b c d e f g h i j k l
  | 5, [a, b, c, d, e, f, x, y, z] => mvE a b c d e f x y z
  | 6, [a, b, c, d, e, f, x, y, z] => mvC (mvE a b c d e f x y z) a x
  | 7, [a, b, c, d, e, f, x, y, z] => mvC (mvE a b c d e f x y z) b y
  | 8, [a, b, c, d, e, f, x, y, z] => mvC (mvE a b c d e f x y z) c z
  | 9, [a, b, c, d, e, f, x, y, z] => mvC (mvE a b c d e f x y z) d x
  | 10, [a, b, c, d, e, f, x, y, z] => mvC (mvE a b c d e f x y z) e y
  | 11, [a, b, c, d, e, f, x, y, z] => mvC (mvE a b c d e f x y z) f z
  | _, _ => 0
/-- 0 two boxes have a common point, 1 a box has a point, 2 a box lies in another one. -/
def boPv : Nat → List Int → Bool
  | 0, [a, b, c, d, e, f, g, h, i, j, k, l] => ovB a b c d e f g h i j k l
  | 1, [a, b, c, d, e, f, g, h, i] => hasB a b c d e f g h i
  | 2, [a, b, c, d, e, f, g, h, i, j, k, l] => insB a b c d e f g h i j k l
  | _, _ => false
set_option maxHeartbeats 4000000 in
def boF : Fn64 where
  fv := boFv
  pv := boPv
  fr i xs := by
    unfold boFv
    split
    · exact chkB_r ..
    · exact wrap_wrap _ _
    · exact r_small (tch_rng ..).1
    · exact r_small (tch_rng ..).2
    · exact rtch_r ..
    · exact mvE_r ..
    · exact mvC_r ..
    · exact mvC_r ..
    · exact mvC_r ..
    · exact mvC_r ..
    · exact mvC_r ..
    · exact mvC_r ..
    · rfl
theorem fv0 (a b c d e f : Int) : boF.fv 0 [a, b, c, d, e, f] = chkB a b c d e f := by kernel_rfl
theorem fv1 (a b c d e f : Int) : boF.fv 1 [a, b, c, d, e, f] = volB a b c d e f := by kernel_rfl
theorem fv2 (a b c d e f g h i j k l : Int) : boF.fv 2 [a, b, c, d, e, f, g, h, i, j, k, l] = tchN a b c d e f g h i j k l := by kernel_rfl
theorem fv3 (a b c d e f g h i j k l : Int) : boF.fv 3 [a, b, c, d, e, f, g, h, i, j, k, l] = tchE a b c d e f g h i j k l := by kernel_rfl
theorem fv4 (a b c d e f g h i j k l : Int) : boF.fv 4 [a, b, c, d, e, f, g, h, i, j, k, l] = rtch a b c d e f g h i j k l := by kernel_rfl
theorem fv5 (a b c d e f x y z : Int) : boF.fv 5 [a, b, c, d, e, f, x, y, z] = mvE a b c d e f x y z := by kernel_rfl
theorem fv6 (a b c d e f x y z : Int) : boF.fv 6 [a, b, c, d, e, f, x, y, z] = mvC (mvE a b c d e f x y z) a x := by kernel_rfl
theorem fv7 (a b c d e f x y z : Int) : boF.fv 7 [a, b, c, d, e, f, x, y, z] = mvC (mvE a b c d e f x y z) b y := by kernel_rfl
theorem fv8 (a b c d e f x y z : Int) : boF.fv 8 [a, b, c, d, e, f, x, y, z] = mvC (mvE a b c d e f x y z) c z := by kernel_rfl
theorem fv9 (a b c d e f x y z : Int) : boF.fv 9 [a, b, c, d, e, f, x, y, z] = mvC (mvE a b c d e f x y z) d x := by kernel_rfl
theorem fv10 (a b c d e f x y z : Int) : boF.fv 10 [a, b, c, d, e, f, x, y, z] = mvC (mvE a b c d e f x y z) e y := by kernel_rfl
theorem fv11 (a b c d e f x y z : Int) : boF.fv 11 [a, b, c, d, e, f, x, y, z] = mvC (mvE a b c d e f x y z) f z := by kernel_rfl
theorem pv0 (a b c d e f g h i j k l : Int) : boF.pv 0 [a, b, c, d, e, f, g, h, i, j, k, l] = ovB a b c d e f g h i j k l := by kernel_rfl
theorem pv1 (a b c d e f g h i : Int) : boF.pv 1 [a, b, c, d, e, f, g, h, i] = hasB a b c d e f g h i := by kernel_rfl
theorem pv2 (a b c d e f g h i j k l : Int) : boF.pv 2 [a, b, c, d, e, f, g, h, i, j, k, l] = insB a b c d e f g h i j k l := by kernel_rfl
end Go.Proofs.Ytonhlfaddfgpaaa
