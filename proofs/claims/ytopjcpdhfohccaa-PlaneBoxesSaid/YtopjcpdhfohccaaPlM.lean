/- Layer 7 (plane): plain maths, and the functions that terms name. -/
import Derived.Test.YtopjcpdhfohccaaEvV
import Derived.Handy
namespace Go.Proofs.Ytopjcpdhfohccaa
open Go.RowKit Go.Ev
set_option linter.unusedSimpArgs false

def chkH (a b c d : Int) : Int := if a < -1000 ∨ 1000 < a ∨ b < -1000 ∨ 1000 < b ∨ c < -1000 ∨ 1000 < c ∨ d < -4000000000 ∨ 4000000000 < d then 6 else if a = 0 ∧ b = 0 ∧ c = 0 then 1 else 0
def chkV (x y z : Int) : Int := if x < -1000000 ∨ 1000000 < x ∨ y < -1000000 ∨ 1000000 < y ∨ z < -1000000 ∨ 1000000 < z then 6 else 0
def inVec (x y z : Int) : Bool := decide (chkV x y z = 0)
def chkB (x y z u v w : Int) : Int := if x < -1000000 ∨ 1000000 < x ∨ y < -1000000 ∨ 1000000 < y ∨ z < -1000000 ∨ 1000000 < z ∨ u < -1000000 ∨ 1000000 < u ∨ v < -1000000 ∨ 1000000 < v ∨ w < -1000000 ∨ 1000000 < w then 6 else if x < u ∧ y < v ∧ z < w then 0 else 1

theorem chkH_r (a b c d : Int) : IntKind.i64.wrap (chkH a b c d) = chkH a b c d := by
  unfold chkH
  repeat' split
  all_goals rfl
theorem chkV_r (x y z : Int) : IntKind.i64.wrap (chkV x y z) = chkV x y z := by unfold chkV; split <;> rfl
theorem chkB_r (x y z u v w : Int) : IntKind.i64.wrap (chkB x y z u v w) = chkB x y z u v w := by
  unfold chkB
  repeat' split
  all_goals rfl
theorem chkH_ok {a b c d : Int} : chkH a b c d = 0 ↔ (-1000 ≤ a ∧ a ≤ 1000) ∧ (-1000 ≤ b ∧ b ≤ 1000) ∧ (-1000 ≤ c ∧ c ≤ 1000) ∧ (-4000000000 ≤ d ∧ d ≤ 4000000000) ∧ ¬ (a = 0 ∧ b = 0 ∧ c = 0) := by
  unfold chkH
  repeat' split
  all_goals omega
theorem chkV_ok {x y z : Int} : chkV x y z = 0 ↔ (-1000000 ≤ x ∧ x ≤ 1000000) ∧ (-1000000 ≤ y ∧ y ≤ 1000000) ∧ (-1000000 ≤ z ∧ z ≤ 1000000) := by
  unfold chkV; split <;> omega
theorem chkB_ok {x y z u v w : Int} : chkB x y z u v w = 0 ↔ (-1000000 ≤ x ∧ x < u ∧ u ≤ 1000000) ∧ (-1000000 ≤ y ∧ y < v ∧ v ≤ 1000000) ∧ (-1000000 ≤ z ∧ z < w ∧ w ≤ 1000000) := by
  unfold chkB
  repeat' split
  all_goals omega

def mn2 (a b : Int) : Int := if b < a then b else a
def mx2 (a b : Int) : Int := if b > a then b else a
theorem mn2_is (a b : Int) : mn2 a b ≤ a ∧ mn2 a b ≤ b ∧ (mn2 a b = a ∨ mn2 a b = b) := by unfold mn2; split <;> omega
theorem mx2_is (a b : Int) : a ≤ mx2 a b ∧ b ≤ mx2 a b ∧ (mx2 a b = a ∨ mx2 a b = b) := by unfold mx2; split <;> omega
abbrev W (z : Int) : Int := IntKind.i64.wrap z
def exLo (a b c d x y z u v w : Int) : Int := W (W (W (W (-d) + mn2 (W (a * x)) (W (a * u))) + mn2 (W (b * y)) (W (b * v))) + mn2 (W (c * z)) (W (c * w)))
def exHi (a b c d x y z u v w : Int) : Int := W (W (W (W (-d) + mx2 (W (a * x)) (W (a * u))) + mx2 (W (b * y)) (W (b * v))) + mx2 (W (c * z)) (W (c * w)))
theorem exLo_r (a b c d x y z u v w : Int) : IntKind.i64.wrap (exLo a b c d x y z u v w) = exLo a b c d x y z u v w := wrap_wrap _ _
theorem exHi_r (a b c d x y z u v w : Int) : IntKind.i64.wrap (exHi a b c d x y z u v w) = exHi a b c d x y z u v w := wrap_wrap _ _

/-- A product of a coefficient and a coordinate. -/
theorem mulB {a x : Int} (h : -1000 ≤ a ∧ a ≤ 1000) (k : -1000000 ≤ x ∧ x ≤ 1000000) : -1000000000 ≤ a * x ∧ a * x ≤ 1000000000 := by
  have h1 : (a * x).natAbs ≤ 1000 * 1000000 := by
    rw [Int.natAbs_mul]
    exact Nat.mul_le_mul (by omega) (by omega)
  omega

theorem exLo_eq {a b c d x y z u v w : Int} (ha : -1000 ≤ a ∧ a ≤ 1000) (hb : -1000 ≤ b ∧ b ≤ 1000) (hc : -1000 ≤ c ∧ c ≤ 1000) (hd : -4000000000 ≤ d ∧ d ≤ 4000000000)
    (hx : -1000000 ≤ x ∧ x ≤ 1000000) (hy : -1000000 ≤ y ∧ y ≤ 1000000) (hz : -1000000 ≤ z ∧ z ≤ 1000000) (hu : -1000000 ≤ u ∧ u ≤ 1000000) (hv : -1000000 ≤ v ∧ v ≤ 1000000) (hw : -1000000 ≤ w ∧ w ≤ 1000000) :
    exLo a b c d x y z u v w = mn2 (a * x) (a * u) + mn2 (b * y) (b * v) + mn2 (c * z) (c * w) - d := by
  have h1 := mulB ha hx
  have h2 := mulB ha hu
  have h3 := mulB hb hy
  have h4 := mulB hb hv
  have h5 := mulB hc hz
  have h6 := mulB hc hw
  unfold exLo W
  generalize a * x = p1 at *
  generalize a * u = p2 at *
  generalize b * y = q1 at *
  generalize b * v = q2 at *
  generalize c * z = r1 at *
  generalize c * w = r2 at *
  have m1 := mn2_is p1 p2
  have m2 := mn2_is q1 q2
  have m3 := mn2_is r1 r2
  rw [wrap64 p1 (by omega), wrap64 p2 (by omega), wrap64 q1 (by omega), wrap64 q2 (by omega), wrap64 r1 (by omega), wrap64 r2 (by omega), wrap64 (-d) (by omega), wrap64 (-d + mn2 p1 p2) (by omega), wrap64 (-d + mn2 p1 p2 + mn2 q1 q2) (by omega), wrap64 _ (by omega)]
  omega
theorem exHi_eq {a b c d x y z u v w : Int} (ha : -1000 ≤ a ∧ a ≤ 1000) (hb : -1000 ≤ b ∧ b ≤ 1000) (hc : -1000 ≤ c ∧ c ≤ 1000) (hd : -4000000000 ≤ d ∧ d ≤ 4000000000)
    (hx : -1000000 ≤ x ∧ x ≤ 1000000) (hy : -1000000 ≤ y ∧ y ≤ 1000000) (hz : -1000000 ≤ z ∧ z ≤ 1000000) (hu : -1000000 ≤ u ∧ u ≤ 1000000) (hv : -1000000 ≤ v ∧ v ≤ 1000000) (hw : -1000000 ≤ w ∧ w ≤ 1000000) :
    exHi a b c d x y z u v w = mx2 (a * x) (a * u) + mx2 (b * y) (b * v) + mx2 (c * z) (c * w) - d := by
  have h1 := mulB ha hx
  have h2 := mulB ha hu
  have h3 := mulB hb hy
  have h4 := mulB hb hv
  have h5 := mulB hc hz
  have h6 := mulB hc hw
  unfold exHi W
  generalize a * x = p1 at *
  generalize a * u = p2 at *
  generalize b * y = q1 at *
  generalize b * v = q2 at *
  generalize c * z = r1 at *
  generalize c * w = r2 at *
  have m1 := mx2_is p1 p2
  have m2 := mx2_is q1 q2
  have m3 := mx2_is r1 r2
  rw [wrap64 p1 (by omega), wrap64 p2 (by omega), wrap64 q1 (by omega), wrap64 q2 (by omega), wrap64 r1 (by omega), wrap64 r2 (by omega), wrap64 (-d) (by omega), wrap64 (-d + mx2 p1 p2) (by omega), wrap64 (-d + mx2 p1 p2 + mx2 q1 q2) (by omega), wrap64 _ (by omega)]
  omega

/-- The value of a point, as the reference works it out. -/
def val (a b c d x y z : Int) : Int := W (W (W (W (a * x) + W (b * y)) + W (c * z)) - d)
theorem val_eq {a b c d x y z : Int} (ha : -1000 ≤ a ∧ a ≤ 1000) (hb : -1000 ≤ b ∧ b ≤ 1000) (hc : -1000 ≤ c ∧ c ≤ 1000) (hd : -4000000000 ≤ d ∧ d ≤ 4000000000)
    (hx : -1000000 ≤ x ∧ x ≤ 1000000) (hy : -1000000 ≤ y ∧ y ≤ 1000000) (hz : -1000000 ≤ z ∧ z ≤ 1000000) : val a b c d x y z = a * x + b * y + c * z - d := by
  have h1 := mulB ha hx
  have h3 := mulB hb hy
  have h5 := mulB hc hz
  unfold val W
  rw [wrap64 (a * x) (by omega), wrap64 (b * y) (by omega), wrap64 (c * z) (by omega), wrap64 (a * x + b * y) (by omega), wrap64 (a * x + b * y + c * z) (by omega), wrap64 _ (by omega)]

theorem mn8 (s1 s2 s3 s4 s5 s6 s7 s8 m : Int) (h : m = mn2 (mn2 (mn2 (mn2 (mn2 (mn2 (mn2 s1 s2) s3) s4) s5) s6) s7) s8) : (m ≤ s1 ∧ m ≤ s2 ∧ m ≤ s3 ∧ m ≤ s4 ∧ m ≤ s5 ∧ m ≤ s6 ∧ m ≤ s7 ∧ m ≤ s8) ∧ (m = s1 ∨ m = s2 ∨ m = s3 ∨ m = s4 ∨ m = s5 ∨ m = s6 ∨ m = s7 ∨ m = s8) := by
  have h1 := mn2_is s1 s2
  generalize mn2 s1 s2 = m1 at *
  have h2 := mn2_is m1 s3
  generalize mn2 m1 s3 = m2 at *
  have h3 := mn2_is m2 s4
  generalize mn2 m2 s4 = m3 at *
  have h4 := mn2_is m3 s5
  generalize mn2 m3 s5 = m4 at *
  have h5 := mn2_is m4 s6
  generalize mn2 m4 s6 = m5 at *
  have h6 := mn2_is m5 s7
  generalize mn2 m5 s7 = m6 at *
  have h7 := mn2_is m6 s8
  generalize mn2 m6 s8 = m7 at *
  subst h
  refine ⟨by omega, ?_⟩
  rcases h7.2.2 with h7 | h7
  · rcases h6.2.2 with h6 | h6
    · rcases h5.2.2 with h5 | h5
      · rcases h4.2.2 with h4 | h4
        · rcases h3.2.2 with h3 | h3
          · omega
          · omega
        · omega
      · omega
    · omega
  · omega
theorem mx8 (s1 s2 s3 s4 s5 s6 s7 s8 m : Int) (h : m = mx2 (mx2 (mx2 (mx2 (mx2 (mx2 (mx2 s1 s2) s3) s4) s5) s6) s7) s8) : (s1 ≤ m ∧ s2 ≤ m ∧ s3 ≤ m ∧ s4 ≤ m ∧ s5 ≤ m ∧ s6 ≤ m ∧ s7 ≤ m ∧ s8 ≤ m) ∧ (m = s1 ∨ m = s2 ∨ m = s3 ∨ m = s4 ∨ m = s5 ∨ m = s6 ∨ m = s7 ∨ m = s8) := by
  have h1 := mx2_is s1 s2
  generalize mx2 s1 s2 = m1 at *
  have h2 := mx2_is m1 s3
  generalize mx2 m1 s3 = m2 at *
  have h3 := mx2_is m2 s4
  generalize mx2 m2 s4 = m3 at *
  have h4 := mx2_is m3 s5
  generalize mx2 m3 s5 = m4 at *
  have h5 := mx2_is m4 s6
  generalize mx2 m4 s6 = m5 at *
  have h6 := mx2_is m5 s7
  generalize mx2 m5 s7 = m6 at *
  have h7 := mx2_is m6 s8
  generalize mx2 m6 s8 = m7 at *
  subst h
  refine ⟨by omega, ?_⟩
  rcases h7.2.2 with h7 | h7
  · rcases h6.2.2 with h6 | h6
    · rcases h5.2.2 with h5 | h5
      · rcases h4.2.2 with h4 | h4
        · rcases h3.2.2 with h3 | h3
          · omega
          · omega
        · omega
      · omega
    · omega
  · omega
theorem sum8n (p1 p2 q1 q2 r1 r2 d : Int) : mn2 (mn2 (mn2 (mn2 (mn2 (mn2 (mn2 (p1 + q1 + r1 - d) (p2 + q1 + r1 - d)) (p1 + q2 + r1 - d)) (p2 + q2 + r1 - d)) (p1 + q1 + r2 - d)) (p2 + q1 + r2 - d)) (p1 + q2 + r2 - d)) (p2 + q2 + r2 - d) = mn2 p1 p2 + mn2 q1 q2 + mn2 r1 r2 - d := by
  have h := mn8 _ _ _ _ _ _ _ _ _ (Eq.refl (mn2 (mn2 (mn2 (mn2 (mn2 (mn2 (mn2 (p1 + q1 + r1 - d) (p2 + q1 + r1 - d)) (p1 + q2 + r1 - d)) (p2 + q2 + r1 - d)) (p1 + q1 + r2 - d)) (p2 + q1 + r2 - d)) (p1 + q2 + r2 - d)) (p2 + q2 + r2 - d)))
  generalize mn2 (mn2 (mn2 (mn2 (mn2 (mn2 (mn2 (p1 + q1 + r1 - d) (p2 + q1 + r1 - d)) (p1 + q2 + r1 - d)) (p2 + q2 + r1 - d)) (p1 + q1 + r2 - d)) (p2 + q1 + r2 - d)) (p1 + q2 + r2 - d)) (p2 + q2 + r2 - d) = m at *
  unfold mn2
  split <;> split <;> split <;> omega
theorem sum8x (p1 p2 q1 q2 r1 r2 d : Int) : mx2 (mx2 (mx2 (mx2 (mx2 (mx2 (mx2 (p1 + q1 + r1 - d) (p2 + q1 + r1 - d)) (p1 + q2 + r1 - d)) (p2 + q2 + r1 - d)) (p1 + q1 + r2 - d)) (p2 + q1 + r2 - d)) (p1 + q2 + r2 - d)) (p2 + q2 + r2 - d) = mx2 p1 p2 + mx2 q1 q2 + mx2 r1 r2 - d := by
  have h := mx8 _ _ _ _ _ _ _ _ _ (Eq.refl (mx2 (mx2 (mx2 (mx2 (mx2 (mx2 (mx2 (p1 + q1 + r1 - d) (p2 + q1 + r1 - d)) (p1 + q2 + r1 - d)) (p2 + q2 + r1 - d)) (p1 + q1 + r2 - d)) (p2 + q1 + r2 - d)) (p1 + q2 + r2 - d)) (p2 + q2 + r2 - d)))
  generalize mx2 (mx2 (mx2 (mx2 (mx2 (mx2 (mx2 (p1 + q1 + r1 - d) (p2 + q1 + r1 - d)) (p1 + q2 + r1 - d)) (p2 + q2 + r1 - d)) (p1 + q1 + r2 - d)) (p2 + q1 + r2 - d)) (p1 + q2 + r2 - d)) (p2 + q2 + r2 - d) = m at *
  unfold mx2
  split <;> split <;> split <;> omega


--HULL
/-- The functions that terms name: 0 the error of a half-space, 1 of a vector, 2 of a box; 3 and 4 the least and the greatest value. -/
def plFv : Nat → List Int → Int
  | 0, [a, b, c, d] => chkH a b c d
  | 1, [x, y, z] => chkV x y z
  | 2, [x, y, z, u, v, w] => chkB x y z u v w
  | 3, [a, b, c, d, x, y, z, u, v, w] => exLo a b c d x y z u v w
  | 4, [a, b, c, d, x, y, z, u, v, w] => exHi a b c d x y z u v w
  | _, _ => 0
def plPv : Nat → List Int → Bool
  | 0, [x, y, z] => inVec x y z
  | _, _ => false
def plF : Fn64 where
  fv := plFv
  pv := plPv
  fr i xs := by
    unfold plFv
    split
    · exact chkH_r ..
    · exact chkV_r ..
    · exact chkB_r ..
    · exact exLo_r ..
    · exact exHi_r ..
    · rfl
end Go.Proofs.Ytopjcpdhfohccaa
