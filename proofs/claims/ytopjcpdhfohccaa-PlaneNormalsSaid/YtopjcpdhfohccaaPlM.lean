/- Layer 7 (plane): plain maths, and the functions that terms name. -/
import Derived.Test.YtopjcpdhfohccaaEvV
import Derived.Handy
namespace Go.Proofs.Ytopjcpdhfohccaa
open Go.RowKit Go.Ev
set_option linter.unusedSimpArgs false

def chkH (a b c d : Int) : Int := if a < -1000 ∨ 1000 < a ∨ b < -1000 ∨ 1000 < b ∨ c < -1000 ∨ 1000 < c ∨ d < -4000000000 ∨ 4000000000 < d then 6 else if a = 0 ∧ b = 0 ∧ c = 0 then 1 else 0
def chkV (x y z : Int) : Int := if x < -1000000 ∨ 1000000 < x ∨ y < -1000000 ∨ 1000000 < y ∨ z < -1000000 ∨ 1000000 < z then 6 else 0
def inVec (x y z : Int) : Bool := decide (chkV x y z = 0)
def chkB (x y z u v w : Int) : Int := if x < -1000000 ∨ 1000000 < x ∨ y < -1000000 ∨ 1000000 < y ∨ z < -1000000 ∨ 1000000 < z ∨ u < -1000000 ∨ 1000000 < u ∨ v < -1000000 ∨ 1000000 < v ∨ w < -1000000 ∨ 1000000 < w then 6 else if x < u ∧ y < v ∧ z < w then 0 else 1

theorem chkH_r (a b c d : Int) : IntKind.i64.wrap (chkH a b c d) = chkH a b c d := by
  unfold chkH
  repeat' split
  all_goals rfl
theorem chkV_r (x y z : Int) : IntKind.i64.wrap (chkV x y z) = chkV x y z := by unfold chkV; split <;> rfl
theorem chkB_r (x y z u v w : Int) : IntKind.i64.wrap (chkB x y z u v w) = chkB x y z u v w := by
  unfold chkB
  repeat' split
  all_goals rfl
theorem chkH_ok {a b c d : Int} : chkH a b c d = 0 ↔ (-1000 ≤ a ∧ a ≤ 1000) ∧ (-1000 ≤ b ∧ b ≤ 1000) ∧ (-1000 ≤ c ∧ c ≤ 1000) ∧ (-4000000000 ≤ d ∧ d ≤ 4000000000) ∧ ¬ (a = 0 ∧ b = 0 ∧ c = 0) := by
  unfold chkH
  repeat' split
  all_goals omega
theorem chkV_ok {x y z : Int} : chkV x y z = 0 ↔ (-1000000 ≤ x ∧ x ≤ 1000000) ∧ (-1000000 ≤ y ∧ y ≤ 1000000) ∧ (-1000000 ≤ z ∧ z ≤ 1000000) := by
  unfold chkV; split <;> omega
theorem chkB_ok {x y z u v w : Int} : chkB x y z u v w = 0 ↔ (-1000000 ≤ x ∧ x < u ∧ u ≤ 1000000) ∧ (-1000000 ≤ y ∧ y < v ∧ v ≤ 1000000) ∧ (-1000000 ≤ z ∧ z < w ∧ w ≤ 1000000) := by
  unfold chkB
  repeat' split
  all_goals omega

theorem inVec_t {x y z : Int} : inVec x y z = true ↔ (-1000000 ≤ x ∧ x ≤ 1000000) ∧ (-1000000 ≤ y ∧ y ≤ 1000000) ∧ (-1000000 ≤ z ∧ z ≤ 1000000) := by
  rw [← chkV_ok]; exact decide_eq_true_iff
theorem inVec_f {x y z : Int} : inVec x y z = false ↔ ¬ ((-1000000 ≤ x ∧ x ≤ 1000000) ∧ (-1000000 ≤ y ∧ y ≤ 1000000) ∧ (-1000000 ≤ z ∧ z ≤ 1000000)) := by
  rw [← chkV_ok]; exact decide_eq_false_iff_not
theorem chkV_six {x y z : Int} : chkV x y z = 6 ↔ ¬ ((-1000000 ≤ x ∧ x ≤ 1000000) ∧ (-1000000 ≤ y ∧ y ≤ 1000000) ∧ (-1000000 ≤ z ∧ z ≤ 1000000)) := by
  unfold chkV; split <;> omega
def mn2 (a b : Int) : Int := if b < a then b else a
def mx2 (a b : Int) : Int := if b > a then b else a
theorem mn2_is (a b : Int) : mn2 a b ≤ a ∧ mn2 a b ≤ b ∧ (mn2 a b = a ∨ mn2 a b = b) := by unfold mn2; split <;> omega
theorem mx2_is (a b : Int) : a ≤ mx2 a b ∧ b ≤ mx2 a b ∧ (mx2 a b = a ∨ mx2 a b = b) := by unfold mx2; split <;> omega
abbrev W (z : Int) : Int := IntKind.i64.wrap z
def exLo (a b c d x y z u v w : Int) : Int := W (W (W (W (-d) + mn2 (W (a * x)) (W (a * u))) + mn2 (W (b * y)) (W (b * v))) + mn2 (W (c * z)) (W (c * w)))
def exHi (a b c d x y z u v w : Int) : Int := W (W (W (W (-d) + mx2 (W (a * x)) (W (a * u))) + mx2 (W (b * y)) (W (b * v))) + mx2 (W (c * z)) (W (c * w)))
theorem exLo_r (a b c d x y z u v w : Int) : IntKind.i64.wrap (exLo a b c d x y z u v w) = exLo a b c d x y z u v w := wrap_wrap _ _
theorem exHi_r (a b c d x y z u v w : Int) : IntKind.i64.wrap (exHi a b c d x y z u v w) = exHi a b c d x y z u v w := wrap_wrap _ _

/-- A product of a coefficient and a coordinate. -/
theorem mulB {a x : Int} (h : -1000 ≤ a ∧ a ≤ 1000) (k : -1000000 ≤ x ∧ x ≤ 1000000) : -1000000000 ≤ a * x ∧ a * x ≤ 1000000000 := by
  have h1 : (a * x).natAbs ≤ 1000 * 1000000 := by
    rw [Int.natAbs_mul]
    exact Nat.mul_le_mul (by omega) (by omega)
  omega

theorem bV_add (k : IntKind) (a b : Int) : binV .add k a b = k.wrap (a + b) := rfl
theorem bV_sub (k : IntKind) (a b : Int) : binV .sub k a b = k.wrap (a - b) := rfl
theorem bV_mul (k : IntKind) (a b : Int) : binV .mul k a b = k.wrap (a * b) := rfl
theorem bV_quo (k : IntKind) (a b : Int) : binV .quo k a b = k.wrap (a.tdiv b) := rfl
theorem bV_rem (k : IntKind) (a b : Int) : binV .rem k a b = a.tmod b := rfl
theorem bV_mn (k : IntKind) (a b : Int) : binV .mn k a b = mn2 a b := rfl
theorem bV_mx (k : IntKind) (a b : Int) : binV .mx k a b = mx2 a b := rfl
theorem exLo_eq {a b c d x y z u v w : Int} (ha : -1000 ≤ a ∧ a ≤ 1000) (hb : -1000 ≤ b ∧ b ≤ 1000) (hc : -1000 ≤ c ∧ c ≤ 1000) (hd : -4000000000 ≤ d ∧ d ≤ 4000000000)
    (hx : -1000000 ≤ x ∧ x ≤ 1000000) (hy : -1000000 ≤ y ∧ y ≤ 1000000) (hz : -1000000 ≤ z ∧ z ≤ 1000000) (hu : -1000000 ≤ u ∧ u ≤ 1000000) (hv : -1000000 ≤ v ∧ v ≤ 1000000) (hw : -1000000 ≤ w ∧ w ≤ 1000000) :
    exLo a b c d x y z u v w = mn2 (a * x) (a * u) + mn2 (b * y) (b * v) + mn2 (c * z) (c * w) - d := by
  have h1 := mulB ha hx
  have h2 := mulB ha hu
  have h3 := mulB hb hy
  have h4 := mulB hb hv
  have h5 := mulB hc hz
  have h6 := mulB hc hw
  unfold exLo W
  generalize a * x = p1 at *
  generalize a * u = p2 at *
  generalize b * y = q1 at *
  generalize b * v = q2 at *
  generalize c * z = r1 at *
  generalize c * w = r2 at *
  have m1 := mn2_is p1 p2
  have m2 := mn2_is q1 q2
  have m3 := mn2_is r1 r2
  rw [wrap64 p1 (by omega), wrap64 p2 (by omega), wrap64 q1 (by omega), wrap64 q2 (by omega), wrap64 r1 (by omega), wrap64 r2 (by omega), wrap64 (-d) (by omega), wrap64 (-d + mn2 p1 p2) (by omega), wrap64 (-d + mn2 p1 p2 + mn2 q1 q2) (by omega), wrap64 _ (by omega)]
  omega
theorem exHi_eq {a b c d x y z u v w : Int} (ha : -1000 ≤ a ∧ a ≤ 1000) (hb : -1000 ≤ b ∧ b ≤ 1000) (hc : -1000 ≤ c ∧ c ≤ 1000) (hd : -4000000000 ≤ d ∧ d ≤ 4000000000)
    (hx : -1000000 ≤ x ∧ x ≤ 1000000) (hy : -1000000 ≤ y ∧ y ≤ 1000000) (hz : -1000000 ≤ z ∧ z ≤ 1000000) (hu : -1000000 ≤ u ∧ u ≤ 1000000) (hv : -1000000 ≤ v ∧ v ≤ 1000000) (hw : -1000000 ≤ w ∧ w ≤ 1000000) :
    exHi a b c d x y z u v w = mx2 (a * x) (a * u) + mx2 (b * y) (b * v) + mx2 (c * z) (c * w) - d := by
  have h1 := mulB ha hx
  have h2 := mulB ha hu
  have h3 := mulB hb hy
  have h4 := mulB hb hv
  have h5 := mulB hc hz
  have h6 := mulB hc hw
  unfold exHi W
  generalize a * x = p1 at *
  generalize a * u = p2 at *
  generalize b * y = q1 at *
  generalize b * v = q2 at *
  generalize c * z = r1 at *
  generalize c * w = r2 at *
  have m1 := mx2_is p1 p2
  have m2 := mx2_is q1 q2
  have m3 := mx2_is r1 r2
  rw [wrap64 p1 (by omega), wrap64 p2 (by omega), wrap64 q1 (by omega), wrap64 q2 (by omega), wrap64 r1 (by omega), wrap64 r2 (by omega), wrap64 (-d) (by omega), wrap64 (-d + mx2 p1 p2) (by omega), wrap64 (-d + mx2 p1 p2 + mx2 q1 q2) (by omega), wrap64 _ (by omega)]
  omega

/-- The value of a point, as the reference works it out. -/
def val (a b c d x y z : Int) : Int := W (W (W (W (a * x) + W (b * y)) + W (c * z)) - d)
theorem val_eq {a b c d x y z : Int} (ha : -1000 ≤ a ∧ a ≤ 1000) (hb : -1000 ≤ b ∧ b ≤ 1000) (hc : -1000 ≤ c ∧ c ≤ 1000) (hd : -4000000000 ≤ d ∧ d ≤ 4000000000)
    (hx : -1000000 ≤ x ∧ x ≤ 1000000) (hy : -1000000 ≤ y ∧ y ≤ 1000000) (hz : -1000000 ≤ z ∧ z ≤ 1000000) : val a b c d x y z = a * x + b * y + c * z - d := by
  have h1 := mulB ha hx
  have h3 := mulB hb hy
  have h5 := mulB hc hz
  unfold val W
  rw [wrap64 (a * x) (by omega), wrap64 (b * y) (by omega), wrap64 (c * z) (by omega), wrap64 (a * x + b * y) (by omega), wrap64 (a * x + b * y + c * z) (by omega), wrap64 _ (by omega)]

theorem exLo_pt {a b c d x y z : Int} (ha : -1000 ≤ a ∧ a ≤ 1000) (hb : -1000 ≤ b ∧ b ≤ 1000) (hc : -1000 ≤ c ∧ c ≤ 1000) (hd : -4000000000 ≤ d ∧ d ≤ 4000000000)
    (hx : -1000000 ≤ x ∧ x ≤ 1000000) (hy : -1000000 ≤ y ∧ y ≤ 1000000) (hz : -1000000 ≤ z ∧ z ≤ 1000000) : exLo a b c d x y z x y z = a * x + b * y + c * z - d := by
  rw [exLo_eq ha hb hc hd hx hy hz hx hy hz]
  have m1 := mn2_is (a * x) (a * x)
  have m2 := mn2_is (b * y) (b * y)
  have m3 := mn2_is (c * z) (c * z)
  omega
theorem mul_ne {a x u : Int} (ha : a ≠ 0) (h : x < u) : a * x ≠ a * u := fun e => by
  have := Int.eq_of_mul_eq_mul_left ha e
  omega
theorem mn8 (s1 s2 s3 s4 s5 s6 s7 s8 m : Int) (h : m = mn2 (mn2 (mn2 (mn2 (mn2 (mn2 (mn2 s1 s2) s3) s4) s5) s6) s7) s8) : (m ≤ s1 ∧ m ≤ s2 ∧ m ≤ s3 ∧ m ≤ s4 ∧ m ≤ s5 ∧ m ≤ s6 ∧ m ≤ s7 ∧ m ≤ s8) ∧ (m = s1 ∨ m = s2 ∨ m = s3 ∨ m = s4 ∨ m = s5 ∨ m = s6 ∨ m = s7 ∨ m = s8) := by
  have h1 := mn2_is s1 s2
  generalize mn2 s1 s2 = m1 at *
  have h2 := mn2_is m1 s3
  generalize mn2 m1 s3 = m2 at *
  have h3 := mn2_is m2 s4
  generalize mn2 m2 s4 = m3 at *
  have h4 := mn2_is m3 s5
  generalize mn2 m3 s5 = m4 at *
  have h5 := mn2_is m4 s6
  generalize mn2 m4 s6 = m5 at *
  have h6 := mn2_is m5 s7
  generalize mn2 m5 s7 = m6 at *
  have h7 := mn2_is m6 s8
  generalize mn2 m6 s8 = m7 at *
  subst h
  refine ⟨by omega, ?_⟩
  rcases h7.2.2 with h7 | h7
  · rcases h6.2.2 with h6 | h6
    · rcases h5.2.2 with h5 | h5
      · rcases h4.2.2 with h4 | h4
        · rcases h3.2.2 with h3 | h3
          · omega
          · omega
        · omega
      · omega
    · omega
  · omega
theorem mx8 (s1 s2 s3 s4 s5 s6 s7 s8 m : Int) (h : m = mx2 (mx2 (mx2 (mx2 (mx2 (mx2 (mx2 s1 s2) s3) s4) s5) s6) s7) s8) : (s1 ≤ m ∧ s2 ≤ m ∧ s3 ≤ m ∧ s4 ≤ m ∧ s5 ≤ m ∧ s6 ≤ m ∧ s7 ≤ m ∧ s8 ≤ m) ∧ (m = s1 ∨ m = s2 ∨ m = s3 ∨ m = s4 ∨ m = s5 ∨ m = s6 ∨ m = s7 ∨ m = s8) := by
  have h1 := mx2_is s1 s2
  generalize mx2 s1 s2 = m1 at *
  have h2 := mx2_is m1 s3
  generalize mx2 m1 s3 = m2 at *
  have h3 := mx2_is m2 s4
  generalize mx2 m2 s4 = m3 at *
  have h4 := mx2_is m3 s5
  generalize mx2 m3 s5 = m4 at *
  have h5 := mx2_is m4 s6
  generalize mx2 m4 s6 = m5 at *
  have h6 := mx2_is m5 s7
  generalize mx2 m5 s7 = m6 at *
  have h7 := mx2_is m6 s8
  generalize mx2 m6 s8 = m7 at *
  subst h
  refine ⟨by omega, ?_⟩
  rcases h7.2.2 with h7 | h7
  · rcases h6.2.2 with h6 | h6
    · rcases h5.2.2 with h5 | h5
      · rcases h4.2.2 with h4 | h4
        · rcases h3.2.2 with h3 | h3
          · omega
          · omega
        · omega
      · omega
    · omega
  · omega
theorem sum8n (p1 p2 q1 q2 r1 r2 d : Int) : mn2 (mn2 (mn2 (mn2 (mn2 (mn2 (mn2 (p1 + q1 + r1 - d) (p2 + q1 + r1 - d)) (p1 + q2 + r1 - d)) (p2 + q2 + r1 - d)) (p1 + q1 + r2 - d)) (p2 + q1 + r2 - d)) (p1 + q2 + r2 - d)) (p2 + q2 + r2 - d) = mn2 p1 p2 + mn2 q1 q2 + mn2 r1 r2 - d := by
  have h := mn8 _ _ _ _ _ _ _ _ _ (Eq.refl (mn2 (mn2 (mn2 (mn2 (mn2 (mn2 (mn2 (p1 + q1 + r1 - d) (p2 + q1 + r1 - d)) (p1 + q2 + r1 - d)) (p2 + q2 + r1 - d)) (p1 + q1 + r2 - d)) (p2 + q1 + r2 - d)) (p1 + q2 + r2 - d)) (p2 + q2 + r2 - d)))
  generalize mn2 (mn2 (mn2 (mn2 (mn2 (mn2 (mn2 (p1 + q1 + r1 - d) (p2 + q1 + r1 - d)) (p1 + q2 + r1 - d)) (p2 + q2 + r1 - d)) (p1 + q1 + r2 - d)) (p2 + q1 + r2 - d)) (p1 + q2 + r2 - d)) (p2 + q2 + r2 - d) = m at *
  unfold mn2
  split <;> split <;> split <;> omega
theorem sum8x (p1 p2 q1 q2 r1 r2 d : Int) : mx2 (mx2 (mx2 (mx2 (mx2 (mx2 (mx2 (p1 + q1 + r1 - d) (p2 + q1 + r1 - d)) (p1 + q2 + r1 - d)) (p2 + q2 + r1 - d)) (p1 + q1 + r2 - d)) (p2 + q1 + r2 - d)) (p1 + q2 + r2 - d)) (p2 + q2 + r2 - d) = mx2 p1 p2 + mx2 q1 q2 + mx2 r1 r2 - d := by
  have h := mx8 _ _ _ _ _ _ _ _ _ (Eq.refl (mx2 (mx2 (mx2 (mx2 (mx2 (mx2 (mx2 (p1 + q1 + r1 - d) (p2 + q1 + r1 - d)) (p1 + q2 + r1 - d)) (p2 + q2 + r1 - d)) (p1 + q1 + r2 - d)) (p2 + q1 + r2 - d)) (p1 + q2 + r2 - d)) (p2 + q2 + r2 - d)))
  generalize mx2 (mx2 (mx2 (mx2 (mx2 (mx2 (mx2 (p1 + q1 + r1 - d) (p2 + q1 + r1 - d)) (p1 + q2 + r1 - d)) (p2 + q2 + r1 - d)) (p1 + q1 + r2 - d)) (p2 + q1 + r2 - d)) (p1 + q2 + r2 - d)) (p2 + q2 + r2 - d) = m at *
  unfold mx2
  split <;> split <;> split <;> omega


/-! ### The hull: as the program works it out, axis by axis -/
def frA (f lo hi : Int) : Int := if 0 < f then lo else if f < 0 then W (hi - 1) else lo
def toA (f lo hi : Int) : Int := if 0 < f then W (lo + 1) else hi
def hG (a b c d x y z u v w : Int) : Int := exHi a b c d (frA a x u) (frA b y v) (frA c z w) (toA a x u) (toA b y v) (toA c z w)
def hFr (f lo hi G : Int) : Int := if 0 < f then lo else if f < 0 then mx2 lo (W (W (hi - 1) - W (G.tdiv f))) else lo
def hTo (f lo hi G : Int) : Int := if 0 < f then mn2 hi (W (W (lo + 1) - W (G.tdiv f))) else hi
def hPt (G n : Int) : Int := if 0 < G then 0 else n
def hErr (G : Int) : Int := if 0 < G then 9 else 0
theorem hErr_pos {G : Int} (h : 0 < G) : hErr G = 9 := if_pos h
theorem hErr_neg {G : Int} (h : ¬ 0 < G) : hErr G = 0 := if_neg h
theorem hPt_pos {G n : Int} (h : 0 < G) : hPt G n = 0 := if_pos h
theorem hPt_neg {G n : Int} (h : ¬ 0 < G) : hPt G n = n := if_neg h
def hNeg (G : Int) : Bool := decide (G ≤ 0)
theorem hNeg_t {G : Int} : hNeg G = true ↔ ¬ 0 < G := by unfold hNeg; rw [decide_eq_true_iff]; omega
theorem hNeg_f {G : Int} : hNeg G = false ↔ 0 < G := by unfold hNeg; rw [decide_eq_false_iff_not]; omega
/-- As the reference does. -/
def lst (f lo hi : Int) : Int := if 0 < f then W (f * W (lo + 1)) else W (f * W (hi - 1))
def flo (r f : Int) : Int := if r.tmod f < 0 then W (W (r.tdiv f) - 1) else W (r.tdiv f)
def sp0 (f lo hi r : Int) : Int := if f = 0 then lo else if 0 < f then lo else mn2 hi (mx2 lo (W (-(flo r (W (-f))))))
def sp1 (f lo hi r : Int) : Int := if f = 0 then hi else if 0 < f then mx2 lo (mn2 hi (flo r f)) else hi

theorem mul_le_of {a x y : Int} (ha : 0 < a) (h : x ≤ y) : a * x ≤ a * y := Int.mul_le_mul_of_nonneg_left h (by omega)
theorem lst_eq {f lo hi : Int} (hf : -1000 ≤ f ∧ f ≤ 1000) (hl : -1000000 ≤ lo ∧ lo < hi ∧ hi ≤ 1000000) : lst f lo hi = (if 0 < f then f * (lo + 1) else f * (hi - 1)) ∧ -1000000000 ≤ lst f lo hi ∧ lst f lo hi ≤ 1000000000 := by
  have b1 := mulB hf (x := lo + 1) (by omega)
  have b2 := mulB hf (x := hi - 1) (by omega)
  unfold lst W
  rw [wrap64 (lo + 1) (by omega), wrap64 (hi - 1) (by omega), wrap64 (f * (lo + 1)) (by omega), wrap64 (f * (hi - 1)) (by omega)]
  split <;> omega
theorem mxA {f lo hi : Int} (hf : -1000 ≤ f ∧ f ≤ 1000) (hl : -1000000 ≤ lo ∧ lo < hi ∧ hi ≤ 1000000) : mx2 (f * frA f lo hi) (f * toA f lo hi) = lst f lo hi ∧ (-1000000 ≤ frA f lo hi ∧ frA f lo hi ≤ 1000000) ∧ (-1000000 ≤ toA f lo hi ∧ toA f lo hi ≤ 1000000) := by
  have h := (lst_eq hf hl).1
  rw [h]
  unfold frA toA W
  rw [wrap64 (lo + 1) (by omega), wrap64 (hi - 1) (by omega)]
  by_cases h1 : 0 < f
  · rw [if_pos h1, if_pos h1, if_pos h1]
    have := mul_le_of h1 (show lo ≤ lo + 1 by omega)
    have m := mx2_is (f * lo) (f * (lo + 1))
    omega
  · rw [if_neg h1, if_neg h1, if_neg h1]
    by_cases h2 : f < 0
    · rw [if_pos h2]
      have := mul_le_of (show 0 < -f by omega) (show hi - 1 ≤ hi by omega)
      rw [Int.neg_mul, Int.neg_mul] at this
      have m := mx2_is (f * (hi - 1)) (f * hi)
      omega
    · have h0 : f = 0 := by omega
      rw [if_neg h2]
      subst h0
      have m := mx2_is (0 * lo) (0 * hi)
      omega
theorem hG_eq {a b c d x y z u v w : Int} (ha : -1000 ≤ a ∧ a ≤ 1000) (hb : -1000 ≤ b ∧ b ≤ 1000) (hc : -1000 ≤ c ∧ c ≤ 1000) (hd : -4000000000 ≤ d ∧ d ≤ 4000000000)
    (hx : -1000000 ≤ x ∧ x < u ∧ u ≤ 1000000) (hy : -1000000 ≤ y ∧ y < v ∧ v ≤ 1000000) (hz : -1000000 ≤ z ∧ z < w ∧ w ≤ 1000000) : hG a b c d x y z u v w = lst a x u + lst b y v + lst c z w - d := by
  obtain ⟨m1, f1, t1⟩ := mxA ha hx
  obtain ⟨m2, f2, t2⟩ := mxA hb hy
  obtain ⟨m3, f3, t3⟩ := mxA hc hz
  unfold hG
  rw [exHi_eq ha hb hc hd f1 f2 f3 t1 t2 t3, m1, m2, m3]

theorem flo_eq {r f : Int} (hr : -9223372036854775807 ≤ r ∧ r ≤ 9223372036854775807) (hf : 0 < f) : flo r f = r / f := by
  have h1 : r.tdiv f * f + r.tmod f = r := Int.tdiv_mul_add_tmod r f
  have h2 : (r.tdiv f).natAbs ≤ r.natAbs := by rw [Int.natAbs_tdiv]; exact Nat.div_le_self _ _
  have h3 : (r.tmod f).natAbs < f.natAbs := by
    rw [Int.natAbs_tmod]; exact Nat.mod_lt _ (by omega)
  unfold flo W
  rw [wrap64 (r.tdiv f) (by omega)]
  generalize r.tdiv f = q at *
  generalize r.tmod f = m at *
  split
  · rename_i hm
    rw [wrap64 (q - 1) (by omega)]
    symm
    have e : r = (m + f) + f * (q - 1) := by rw [Int.mul_sub, Int.mul_one, Int.mul_comm f q]; omega
    rw [e, Int.add_mul_ediv_left _ _ (by omega), Int.ediv_eq_zero_of_lt (by omega) (by omega)]
    omega
  · rename_i hm
    symm
    have e : r = m + f * q := by rw [Int.mul_comm f q]; omega
    rw [e, Int.add_mul_ediv_left _ _ (by omega), Int.ediv_eq_zero_of_lt (by omega) (by omega)]
    omega
theorem tdiv_nonpos (G f : Int) : G.tdiv f = -((-G).tdiv f) := by
  rw [Int.neg_tdiv, Int.neg_neg]
/-- One axis: the ends of the hull, where G is the least greatest value, at most 0, and rest is what the other axes leave. -/
theorem axis_eq {f lo hi G rest : Int} (hf : -1000 ≤ f ∧ f ≤ 1000) (hl : -1000000 ≤ lo ∧ lo < hi ∧ hi ≤ 1000000) (hG : -10000000000 ≤ G ∧ G ≤ 0) (hr : lst f lo hi = G + rest) : hFr f lo hi G = sp0 f lo hi rest ∧ hTo f lo hi G = sp1 f lo hi rest := by
  obtain ⟨l1, l2⟩ := lst_eq hf hl
  have hR : -9223372036854775807 ≤ rest ∧ rest ≤ 9223372036854775807 := by omega
  unfold hFr hTo sp0 sp1
  by_cases h1 : 0 < f
  · rw [if_pos h1, if_pos h1, if_neg (by omega), if_pos h1, if_neg (by omega), if_pos h1]
    refine ⟨rfl, ?_⟩
    rw [if_pos h1] at l1
    rw [flo_eq hR h1]
    have e : rest = -G + f * (lo + 1) := by omega
    rw [e, Int.add_mul_ediv_left _ _ (by omega), tdiv_nonpos G f, Int.tdiv_eq_ediv_of_nonneg (by omega)]
    have q0 : 0 ≤ -G / f := Int.ediv_nonneg (by omega) (by omega)
    have q1 : -G / f ≤ -G := Int.ediv_le_self _ (by omega)
    generalize -G / f = q at *
    unfold W
    rw [wrap64 (lo + 1) (by omega), wrap64 (-q) (by omega), wrap64 (lo + 1 - -q) (by omega)]
    have m1 := mn2_is hi (lo + 1 - -q)
    rw [show q + (lo + 1) = lo + 1 - -q by omega]
    have m2 := mx2_is lo (mn2 hi (lo + 1 - -q))
    omega
  · by_cases h2 : f < 0
    · rw [if_neg h1, if_pos h2, if_neg h1, if_neg (by omega), if_neg h1, if_neg (by omega), if_neg h1]
      refine ⟨?_, rfl⟩
      rw [if_neg h1] at l1
      unfold W
      rw [wrap64 (-f) (by omega), flo_eq hR (by omega)]
      have e : rest = -G + -f * (-(hi - 1)) := by rw [Int.neg_mul_neg]; omega
      rw [e, Int.add_mul_ediv_left _ _ (by omega), tdiv_nonpos G f]
      have e2 : (-G).tdiv f = -(-G / -f) := by
        rw [show f = -(-f) by omega, Int.tdiv_neg, Int.neg_neg, Int.tdiv_eq_ediv_of_nonneg (by omega)]
      rw [e2]
      have q0 : 0 ≤ -G / -f := Int.ediv_nonneg (by omega) (by omega)
      have q1 : -G / -f ≤ -G := Int.ediv_le_self _ (by omega)
      generalize -G / -f = q at *
      rw [wrap64 (hi - 1) (by omega), wrap64 (- -q) (by omega), wrap64 (hi - 1 - - -q) (by omega), wrap64 (-(q + -(hi - 1))) (by omega)]
      rw [show -(q + -(hi - 1)) = hi - 1 - - -q by omega]
      have m1 := mx2_is lo (hi - 1 - - -q)
      have m2 := mn2_is hi (mx2 lo (hi - 1 - - -q))
      omega
    · have h0 : f = 0 := by omega
      subst h0
      exact ⟨rfl, rfl⟩

theorem hPt_r {G n : Int} (h : IntKind.i64.wrap n = n) : IntKind.i64.wrap (hPt G n) = hPt G n := by
  unfold hPt
  split
  · rfl
  · exact h
theorem hErr_r (G : Int) : IntKind.i64.wrap (hErr G) = hErr G := by unfold hErr; split <;> rfl
/-! ### The normal form -/
def gcd2 (a b : Int) : Int := W (Nat.gcd a.natAbs b.natAbs : Nat)
theorem gcd2_r (a b : Int) : IntKind.i64.wrap (gcd2 a b) = gcd2 a b := by unfold gcd2 W; exact wrap_wrap _ _
def g3 (a b c : Int) : Int := gcd2 (gcd2 a b) c
/-! ### What lies in the hull -/
theorem hTo_pos {f lo hi G : Int} (hl : -1000000 ≤ lo ∧ lo < hi ∧ hi ≤ 1000000) (hG : -10000000000 ≤ G ∧ G ≤ 0) (h1 : 0 < f) : hTo f lo hi G = mn2 hi (lo + 1 + -G / f) ∧ 0 ≤ -G / f := by
  have q0 : 0 ≤ -G / f := Int.ediv_nonneg (by omega) (by omega)
  have q1 : -G / f ≤ -G := Int.ediv_le_self _ (by omega)
  unfold hTo
  rw [if_pos h1, tdiv_nonpos G f, Int.tdiv_eq_ediv_of_nonneg (by omega)]
  unfold W
  rw [wrap64 (lo + 1) (by omega), wrap64 (-(-G / f)) (by omega), wrap64 (lo + 1 - -(-G / f)) (by omega)]
  exact ⟨by rw [Int.sub_neg], q0⟩
theorem hFr_neg {f lo hi G : Int} (hl : -1000000 ≤ lo ∧ lo < hi ∧ hi ≤ 1000000) (hG : -10000000000 ≤ G ∧ G ≤ 0) (h2 : f < 0) : hFr f lo hi G = mx2 lo (hi - 1 - -G / -f) ∧ 0 ≤ -G / -f := by
  have q0 : 0 ≤ -G / -f := Int.ediv_nonneg (by omega) (by omega)
  have q1 : -G / -f ≤ -G := Int.ediv_le_self _ (by omega)
  unfold hFr
  have e2 : (-G).tdiv f = -(-G / -f) := by
    rw [show f = -(-f) by omega, Int.tdiv_neg, Int.neg_neg, Int.tdiv_eq_ediv_of_nonneg (by omega)]
  rw [if_neg (by omega), if_pos h2, tdiv_nonpos G f, e2, Int.neg_neg]
  unfold W
  rw [wrap64 (hi - 1) (by omega), wrap64 (-G / -f) (by omega), wrap64 (hi - 1 - -G / -f) (by omega)]
  exact ⟨rfl, q0⟩
theorem le_div {g q t : Int} (hg : 0 < g) (h : g * t ≤ q) : t ≤ q / g := by
  rw [Int.le_ediv_iff_mul_le hg, Int.mul_comm]; exact h
theorem axis_in {f lo hi G : Int} (hf : -1000 ≤ f ∧ f ≤ 1000) (hl : -1000000 ≤ lo ∧ lo < hi ∧ hi ≤ 1000000) (hG : -10000000000 ≤ G ∧ G ≤ 0) :
    lo ≤ hFr f lo hi G ∧ hTo f lo hi G ≤ hi ∧ (G - lst f lo hi + mx2 (f * lo) (f * hi) ≤ 0 → hFr f lo hi G = lo ∧ hTo f lo hi G = hi) ∧
      ∀ X, lo ≤ X → X < hi → lst f lo hi ≤ mx2 (f * X) (f * (X + 1)) ∧ (G - lst f lo hi + mx2 (f * X) (f * (X + 1)) ≤ 0 → hFr f lo hi G ≤ X ∧ X < hTo f lo hi G) := by
  have l1 := (lst_eq hf hl).1
  by_cases h1 : 0 < f
  · obtain ⟨t1, t2⟩ := hTo_pos hl hG h1
    have f1 : hFr f lo hi G = lo := if_pos h1
    rw [if_pos h1] at l1
    rw [t1, f1, l1]
    have m := mn2_is hi (lo + 1 + -G / f)
    refine ⟨by omega, by omega, fun h => ?_, fun X h3 h4 => ⟨?_, fun h => ?_⟩⟩
    · have n := mx2_is (f * lo) (f * hi)
      have e : f * (hi - lo - 1) ≤ -G := by
        have : f * (hi - lo - 1) = f * hi - f * (lo + 1) := by rw [← Int.mul_sub]; congr 1; omega
        omega
      have := le_div h1 e
      omega
    · have n := mx2_is (f * X) (f * (X + 1))
      have := mul_le_of h1 (show lo + 1 ≤ X + 1 by omega)
      omega
    · have n := mx2_is (f * X) (f * (X + 1))
      have e : f * (X - lo) ≤ -G := by
        have : f * (X - lo) = f * (X + 1) - f * (lo + 1) := by rw [← Int.mul_sub]; congr 1; omega
        omega
      have := le_div h1 e
      omega
  · by_cases h2 : f < 0
    · obtain ⟨t1, t2⟩ := hFr_neg hl hG h2
      have f1 : hTo f lo hi G = hi := if_neg h1
      rw [if_neg h1] at l1
      rw [t1, f1, l1]
      have m := mx2_is lo (hi - 1 - -G / -f)
      refine ⟨by omega, by omega, fun h => ?_, fun X h3 h4 => ⟨?_, fun h => ?_⟩⟩
      · have n := mx2_is (f * lo) (f * hi)
        have e : -f * (hi - 1 - lo) ≤ -G := by
          have : -f * (hi - 1 - lo) = f * lo - f * (hi - 1) := by rw [Int.neg_mul, ← Int.mul_sub, ← Int.mul_neg]; congr 1; omega
          omega
        have := le_div (show 0 < -f by omega) e
        omega
      · have n := mx2_is (f * X) (f * (X + 1))
        have := mul_le_of (show 0 < -f by omega) (show X ≤ hi - 1 by omega)
        rw [Int.neg_mul, Int.neg_mul] at this
        omega
      · have n := mx2_is (f * X) (f * (X + 1))
        have e : -f * (hi - 1 - X) ≤ -G := by
          have : -f * (hi - 1 - X) = f * X - f * (hi - 1) := by rw [Int.neg_mul, ← Int.mul_sub, ← Int.mul_neg]; congr 1; omega
          omega
        have := le_div (show 0 < -f by omega) e
        omega
    · have h0 : f = 0 := by omega
      have f1 : hTo f lo hi G = hi := if_neg h1
      have f2 : hFr f lo hi G = lo := by unfold hFr; rw [if_neg h1, if_neg h2]
      rw [f1, f2, l1, if_neg h1, h0]
      simp only [Int.zero_mul]
      have n : mx2 0 0 = 0 := rfl
      rw [n]
      exact ⟨by omega, by omega, by simp, fun X h3 h4 => ⟨by omega, fun _ => ⟨h3, h4⟩⟩⟩

/-! ### Boxes that are moved -/
theorem mx_shift (a x u t : Int) : mx2 (a * (x + t)) (a * (u + t)) = mx2 (a * x) (a * u) + a * t := by
  rw [Int.mul_add, Int.mul_add]
  have m1 := mx2_is (a * x + a * t) (a * u + a * t)
  have m2 := mx2_is (a * x) (a * u)
  omega
theorem moveX {a b c d x y z u v w t : Int} (hH : chkH a b c d = 0) (hB : chkB x y z u v w = 0) (ht : -2000000 ≤ t ∧ t ≤ 2000000) (hm : chkB (W (x + t)) (W (y + 0)) (W (z + 0)) (W (u + t)) (W (v + 0)) (W (w + 0)) = 0) :
    exHi a b c d (W (x + t)) (W (y + 0)) (W (z + 0)) (W (u + t)) (W (v + 0)) (W (w + 0)) = exHi a b c d x y z u v w + a * t := by
  obtain ⟨ha, hb, hc, hd, _⟩ := chkH_ok.1 hH
  obtain ⟨hx, hy, hz⟩ := chkB_ok.1 hB
  unfold W at *
  rw [wrap64 (x + t) (by omega), wrap64 (y + 0) (by omega), wrap64 (z + 0) (by omega), wrap64 (u + t) (by omega), wrap64 (v + 0) (by omega), wrap64 (w + 0) (by omega)] at *
  obtain ⟨mx, my, mz⟩ := chkB_ok.1 hm
  rw [exHi_eq ha hb hc hd (by omega) (by omega) (by omega) (by omega) (by omega) (by omega), exHi_eq ha hb hc hd (by omega) (by omega) (by omega) (by omega) (by omega) (by omega), mx_shift, Int.add_zero, Int.add_zero, Int.add_zero, Int.add_zero]
  omega
theorem moveY {a b c d x y z u v w t : Int} (hH : chkH a b c d = 0) (hB : chkB x y z u v w = 0) (ht : -2000000 ≤ t ∧ t ≤ 2000000) (hm : chkB (W (x + 0)) (W (y + t)) (W (z + 0)) (W (u + 0)) (W (v + t)) (W (w + 0)) = 0) :
    exHi a b c d (W (x + 0)) (W (y + t)) (W (z + 0)) (W (u + 0)) (W (v + t)) (W (w + 0)) = exHi a b c d x y z u v w + b * t := by
  obtain ⟨ha, hb, hc, hd, _⟩ := chkH_ok.1 hH
  obtain ⟨hx, hy, hz⟩ := chkB_ok.1 hB
  unfold W at *
  rw [wrap64 (x + 0) (by omega), wrap64 (y + t) (by omega), wrap64 (z + 0) (by omega), wrap64 (u + 0) (by omega), wrap64 (v + t) (by omega), wrap64 (w + 0) (by omega)] at *
  obtain ⟨mx, my, mz⟩ := chkB_ok.1 hm
  rw [exHi_eq ha hb hc hd (by omega) (by omega) (by omega) (by omega) (by omega) (by omega), exHi_eq ha hb hc hd (by omega) (by omega) (by omega) (by omega) (by omega) (by omega), mx_shift b, Int.add_zero, Int.add_zero, Int.add_zero, Int.add_zero]
  omega
theorem moveZ {a b c d x y z u v w t : Int} (hH : chkH a b c d = 0) (hB : chkB x y z u v w = 0) (ht : -2000000 ≤ t ∧ t ≤ 2000000) (hm : chkB (W (x + 0)) (W (y + 0)) (W (z + t)) (W (u + 0)) (W (v + 0)) (W (w + t)) = 0) :
    exHi a b c d (W (x + 0)) (W (y + 0)) (W (z + t)) (W (u + 0)) (W (v + 0)) (W (w + t)) = exHi a b c d x y z u v w + c * t := by
  obtain ⟨ha, hb, hc, hd, _⟩ := chkH_ok.1 hH
  obtain ⟨hx, hy, hz⟩ := chkB_ok.1 hB
  unfold W at *
  rw [wrap64 (x + 0) (by omega), wrap64 (y + 0) (by omega), wrap64 (z + t) (by omega), wrap64 (u + 0) (by omega), wrap64 (v + 0) (by omega), wrap64 (w + t) (by omega)] at *
  obtain ⟨mx, my, mz⟩ := chkB_ok.1 hm
  rw [exHi_eq ha hb hc hd (by omega) (by omega) (by omega) (by omega) (by omega) (by omega), exHi_eq ha hb hc hd (by omega) (by omega) (by omega) (by omega) (by omega) (by omega), mx_shift c, Int.add_zero, Int.add_zero, Int.add_zero, Int.add_zero]
  omega
theorem exHi_bd {a b c d x y z u v w : Int} (hH : chkH a b c d = 0) (hB : chkB x y z u v w = 0) : -7000000000 ≤ exHi a b c d x y z u v w ∧ exHi a b c d x y z u v w ≤ 7000000000 := by
  obtain ⟨ha, hb, hc, hd, _⟩ := chkH_ok.1 hH
  obtain ⟨hx, hy, hz⟩ := chkB_ok.1 hB
  rw [exHi_eq ha hb hc hd (by omega) (by omega) (by omega) (by omega) (by omega) (by omega)]
  have h1 := mulB ha (x := x) (by omega)
  have h2 := mulB ha (x := u) (by omega)
  have h3 := mulB hb (x := y) (by omega)
  have h4 := mulB hb (x := v) (by omega)
  have h5 := mulB hc (x := z) (by omega)
  have h6 := mulB hc (x := w) (by omega)
  have n1 := mx2_is (a * x) (a * u)
  have n2 := mx2_is (b * y) (b * v)
  have n3 := mx2_is (c * z) (c * w)
  omega
/-- How far a box can be moved. -/
theorem depth_facts {h g k : Int} (hh : -7000000000 ≤ h ∧ h ≤ 0) (hg : 0 < g) (hk : 0 ≤ k) : 0 ≤ mn2 k (W ((W (-h)).tdiv g)) ∧ mn2 k (W ((W (-h)).tdiv g)) ≤ k ∧ h + g * mn2 k (W ((W (-h)).tdiv g)) ≤ 0 ∧ (mn2 k (W ((W (-h)).tdiv g)) ≠ k → 0 < h + g * (mn2 k (W ((W (-h)).tdiv g)) + 1)) := by
  unfold W
  rw [wrap64 (-h) (by omega), Int.tdiv_eq_ediv_of_nonneg (by omega)]
  have q0 : 0 ≤ -h / g := Int.ediv_nonneg (by omega) (by omega)
  have q1 : -h / g ≤ -h := Int.ediv_le_self _ (by omega)
  have q2 : g * (-h / g) + -h % g = -h := Int.mul_ediv_add_emod _ _
  have q3 : 0 ≤ -h % g := Int.emod_nonneg _ (by omega)
  have q4 : -h % g < g := Int.emod_lt_of_pos _ hg
  rw [wrap64 (-h / g) (by omega)]
  generalize -h / g = q at *
  have m := mn2_is k q
  have e1 : g * mn2 k q ≤ g * q := mul_le_of hg m.2.1
  refine ⟨by omega, by omega, by omega, fun hne => ?_⟩
  have e : mn2 k q = q := by omega
  rw [e, Int.mul_add, Int.mul_one]
  omega
theorem mul_nonpos {g k : Int} (hg : ¬ 0 < g) (hk : 0 ≤ k) : g * k ≤ 0 := by
  have := Int.mul_nonneg (show 0 ≤ -g by omega) hk
  rw [Int.neg_mul] at this
  omega
def plN2 : Nat → List Int → Int
  | 0, [a, b, c, _] => W (a.tdiv (g3 a b c))
  | 1, [a, b, c, _] => W (b.tdiv (g3 a b c))
  | 2, [a, b, c, _] => W (c.tdiv (g3 a b c))
  | 3, [a, b, c, d] => flo d (g3 a b c)
  | _, _ => 0
def plNv (i : Nat) (zs : List Int) : Int :=
  match i, zs with
  | 8, [a, b] => gcd2 a b
  | i, zs => plN2 (i - 20) zs
theorem plNv_r (i : Nat) (zs : List Int) : IntKind.i64.wrap (plNv i zs) = plNv i zs := by
  unfold plNv
  split
  · exact gcd2_r _ _
  · unfold plN2
    split
    · exact wrap_wrap _ _
    · exact wrap_wrap _ _
    · exact wrap_wrap _ _
    · unfold flo W; split <;> exact wrap_wrap _ _
    · rfl
/-- The functions that terms name: 0 the error of a half-space, 1 of a vector, 2 of a box; 3 and 4 the least and the greatest value. -/
def plFv : Nat → List Int → Int
  | 0, [a, b, c, d] => chkH a b c d
  | 1, [x, y, z] => chkV x y z
  | 2, [x, y, z, u, v, w] => chkB x y z u v w
  | 3, [a, b, c, d, x, y, z, u, v, w] => exLo a b c d x y z u v w
  | 4, [a, b, c, d, x, y, z, u, v, w] => exHi a b c d x y z u v w
  | 5, [f, lo, hi] => lst f lo hi
  | 6, [f, lo, hi, r] => W (sp0 f lo hi r)
  | 7, [f, lo, hi, r] => W (sp1 f lo hi r)
  | 10, [a, b, c, d, x, y, z, u, v, w] => W (hPt (hG a b c d x y z u v w) (hFr a x u (hG a b c d x y z u v w)))
  | 11, [a, b, c, d, x, y, z, u, v, w] => W (hPt (hG a b c d x y z u v w) (hFr b y v (hG a b c d x y z u v w)))
  | 12, [a, b, c, d, x, y, z, u, v, w] => W (hPt (hG a b c d x y z u v w) (hFr c z w (hG a b c d x y z u v w)))
  | 13, [a, b, c, d, x, y, z, u, v, w] => W (hPt (hG a b c d x y z u v w) (hTo a x u (hG a b c d x y z u v w)))
  | 14, [a, b, c, d, x, y, z, u, v, w] => W (hPt (hG a b c d x y z u v w) (hTo b y v (hG a b c d x y z u v w)))
  | 15, [a, b, c, d, x, y, z, u, v, w] => W (hPt (hG a b c d x y z u v w) (hTo c z w (hG a b c d x y z u v w)))
  | 16, [a, b, c, d, x, y, z, u, v, w] => hErr (hG a b c d x y z u v w)
  | i, zs => plNv i zs
def plPv : Nat → List Int → Bool
  | 0, [x, y, z] => inVec x y z
  | 1, [a, b, c, d, x, y, z, u, v, w] => hNeg (hG a b c d x y z u v w)
  | _, _ => false
set_option maxHeartbeats 4000000 in
def plF : Fn64 where
  fv := plFv
  pv := plPv
  fr i xs := by
    unfold plFv
    split
    · exact chkH_r ..
    · exact chkV_r ..
    · exact chkB_r ..
    · exact exLo_r ..
    · exact exHi_r ..
    · unfold lst W; split <;> exact wrap_wrap _ _
    · exact wrap_wrap _ _
    · exact wrap_wrap _ _
    · exact wrap_wrap _ _
    · exact wrap_wrap _ _
    · exact wrap_wrap _ _
    · exact wrap_wrap _ _
    · exact wrap_wrap _ _
    · exact wrap_wrap _ _
    · exact hErr_r _
    · exact plNv_r _ _
theorem fv0 (a b c d : Int) : plF.fv 0 [a, b, c, d] = chkH a b c d := by kernel_rfl
theorem fv1 (x y z : Int) : plF.fv 1 [x, y, z] = chkV x y z := by kernel_rfl
theorem fv2 (x y z u v w : Int) : plF.fv 2 [x, y, z, u, v, w] = chkB x y z u v w := by kernel_rfl
theorem fv3 (a b c d x y z u v w : Int) : plF.fv 3 [a, b, c, d, x, y, z, u, v, w] = exLo a b c d x y z u v w := by kernel_rfl
theorem fv4 (a b c d x y z u v w : Int) : plF.fv 4 [a, b, c, d, x, y, z, u, v, w] = exHi a b c d x y z u v w := by kernel_rfl
theorem fv5 (f lo hi : Int) : plF.fv 5 [f, lo, hi] = lst f lo hi := by kernel_rfl
theorem fv6 (f lo hi r : Int) : plF.fv 6 [f, lo, hi, r] = W (sp0 f lo hi r) := by kernel_rfl
theorem fv7 (f lo hi r : Int) : plF.fv 7 [f, lo, hi, r] = W (sp1 f lo hi r) := by kernel_rfl
theorem fv8 (a b : Int) : plF.fv 8 [a, b] = gcd2 a b := by kernel_rfl
theorem fv10 (a b c d x y z u v w : Int) : plF.fv 10 [a, b, c, d, x, y, z, u, v, w] = W (hPt (hG a b c d x y z u v w) (hFr a x u (hG a b c d x y z u v w))) := by kernel_rfl
theorem fv11 (a b c d x y z u v w : Int) : plF.fv 11 [a, b, c, d, x, y, z, u, v, w] = W (hPt (hG a b c d x y z u v w) (hFr b y v (hG a b c d x y z u v w))) := by kernel_rfl
theorem fv12 (a b c d x y z u v w : Int) : plF.fv 12 [a, b, c, d, x, y, z, u, v, w] = W (hPt (hG a b c d x y z u v w) (hFr c z w (hG a b c d x y z u v w))) := by kernel_rfl
theorem fv13 (a b c d x y z u v w : Int) : plF.fv 13 [a, b, c, d, x, y, z, u, v, w] = W (hPt (hG a b c d x y z u v w) (hTo a x u (hG a b c d x y z u v w))) := by kernel_rfl
theorem fv14 (a b c d x y z u v w : Int) : plF.fv 14 [a, b, c, d, x, y, z, u, v, w] = W (hPt (hG a b c d x y z u v w) (hTo b y v (hG a b c d x y z u v w))) := by kernel_rfl
theorem fv15 (a b c d x y z u v w : Int) : plF.fv 15 [a, b, c, d, x, y, z, u, v, w] = W (hPt (hG a b c d x y z u v w) (hTo c z w (hG a b c d x y z u v w))) := by kernel_rfl
theorem fv16 (a b c d x y z u v w : Int) : plF.fv 16 [a, b, c, d, x, y, z, u, v, w] = hErr (hG a b c d x y z u v w) := by kernel_rfl
theorem fv20 (a b c d : Int) : plF.fv 20 [a, b, c, d] = W (a.tdiv (g3 a b c)) := by kernel_rfl
theorem fv21 (a b c d : Int) : plF.fv 21 [a, b, c, d] = W (b.tdiv (g3 a b c)) := by kernel_rfl
theorem fv22 (a b c d : Int) : plF.fv 22 [a, b, c, d] = W (c.tdiv (g3 a b c)) := by kernel_rfl
theorem fv23 (a b c d : Int) : plF.fv 23 [a, b, c, d] = flo d (g3 a b c) := by kernel_rfl
theorem pv0 (x y z : Int) : plF.pv 0 [x, y, z] = inVec x y z := by kernel_rfl
theorem pv1 (a b c d x y z u v w : Int) : plF.pv 1 [a, b, c, d, x, y, z, u, v, w] = hNeg (hG a b c d x y z u v w) := by kernel_rfl
end Go.Proofs.Ytopjcpdhfohccaa
