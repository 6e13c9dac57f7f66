/- Plain mathematics of layer 3 (vector): the order of points, the turn, segments of a plane, common divisors. No program in sight. -/
import Derived.WalkKit
namespace Go.Proofs.Ytdbcflgacjgdoaa
open Go.RowKit

/-- cmp.Compare of two numbers. -/
def cmpI (x y : Int) : Int := if x < y then -1 else if y < x then 1 else 0
def inC (x : Int) : Bool := decide (-1000000 ≤ x ∧ x ≤ 1000000)
abbrev Pt := Int × Int
def inP (p : Pt) : Bool := inC p.1 && inC p.2
def InP (p : Pt) : Prop := -1000000 ≤ p.1 ∧ p.1 ≤ 1000000 ∧ -1000000 ≤ p.2 ∧ p.2 ≤ 1000000
theorem inP_iff (p : Pt) : inP p = true ↔ InP p := by simp [inP, inC, InP, and_assoc]

def crs (a b c : Pt) : Int := (b.1 - a.1) * (c.2 - a.2) - (b.2 - a.2) * (c.1 - a.1)
def trn (a b c : Pt) : Int := cmpI ((b.1 - a.1) * (c.2 - a.2)) ((b.2 - a.2) * (c.1 - a.1))
theorem trn_eq (a b c : Pt) : trn a b c = cmpI (crs a b c) 0 := by
  unfold trn crs cmpI
  generalize (b.1 - a.1) * (c.2 - a.2) = x
  generalize (b.2 - a.2) * (c.1 - a.1) = y
  (repeat' split) <;> omega
theorem trn_zero (a b c : Pt) : trn a b c = 0 ↔ crs a b c = 0 := by
  rw [trn_eq]; unfold cmpI; split
  · omega
  · split <;> omega
theorem trn_le (a b c : Pt) : -1 ≤ trn a b c ∧ trn a b c ≤ 1 := by unfold trn cmpI; split <;> (try split) <;> omega

theorem cmpI_neg (x : Int) : cmpI (-x) 0 = - cmpI x 0 := by unfold cmpI; split <;> split <;> (try split) <;> (try split) <;> omega
theorem crs_swap (a b c : Pt) : crs a c b = - crs a b c := by unfold crs; grind
theorem crs_turn (a b c : Pt) : crs b c a = crs a b c := by unfold crs; grind
theorem trn_swap (a b c : Pt) : trn a c b = - trn a b c := by rw [trn_eq, trn_eq, crs_swap, cmpI_neg]
theorem trn_turn (a b c : Pt) : trn b c a = trn a b c := by rw [trn_eq, trn_eq, crs_turn]
theorem trn_swap12 (a b c : Pt) : trn b a c = - trn a b c := by rw [← trn_turn b a c, trn_swap]
theorem crs_four (a b c d : Pt) : crs c d b = crs c d a - crs a b d + crs a b c := by unfold crs; grind

/-- What is parallel to one and the same vector is parallel. -/
theorem para {u1 u2 p1 p2 q1 q2 : Int} (hu : u1 ≠ 0 ∨ u2 ≠ 0) (h1 : u1 * p2 - u2 * p1 = 0) (h2 : u1 * q2 - u2 * q1 = 0) : p1 * q2 - p2 * q1 = 0 := by
  have e1 : u1 * (p1 * q2 - p2 * q1) = 0 := by grind
  have e2 : u2 * (p1 * q2 - p2 * q1) = 0 := by grind
  rcases hu with h | h
  · rcases Int.mul_eq_zero.1 e1 with h' | h'
    · exact absurd h' h
    · exact h'
  · rcases Int.mul_eq_zero.1 e2 with h' | h'
    · exact absurd h' h
    · exact h'
theorem Pt.ne {a b : Pt} (h : a ≠ b) : b.1 - a.1 ≠ 0 ∨ b.2 - a.2 ≠ 0 := by
  by_cases h1 : b.1 - a.1 = 0
  · by_cases h2 : b.2 - a.2 = 0
    · exact absurd (Prod.ext (by omega) (by omega)) h
    · exact Or.inr h2
  · exact Or.inl h1
theorem line_both {a b c d : Pt} (h : a ≠ b) (h1 : crs a b c = 0) (h2 : crs a b d = 0) : crs c d a = 0 ∧ crs c d b = 0 := by
  have h3 : crs c d a = 0 := by
    have := para (Pt.ne h) h1 h2
    have e : crs c d a = (c.1 - a.1) * (d.2 - a.2) - (c.2 - a.2) * (d.1 - a.1) := by unfold crs; grind
    rw [e]; exact this
  exact ⟨h3, by rw [crs_four, h1, h2, h3]; rfl⟩

/-- The order of points, as one of numbers. -/
def key (p : Pt) : Int := p.1 * 4000001 + p.2
theorem key_inj {p q : Pt} (hp : InP p) (hq : InP q) : key p = key q ↔ p = q := by
  obtain ⟨p1, p2⟩ := p
  obtain ⟨q1, q2⟩ := q
  simp only [InP, key] at *
  constructor
  · intro h
    have : p1 = q1 := by omega
    have : p2 = q2 := by omega
    simp [*]
  · intro h
    cases h
    rfl
def lexP (p q : Pt) : Int := if cmpI p.1 q.1 ≠ 0 then cmpI p.1 q.1 else cmpI p.2 q.2
theorem lexP_key {p q : Pt} (hp : InP p) (hq : InP q) : lexP p q = cmpI (key p) (key q) := by
  obtain ⟨p1, p2⟩ := p
  obtain ⟨q1, q2⟩ := q
  simp only [InP, key, lexP, cmpI] at *
  (repeat' split) <;> omega
def earlierP (p q : Pt) : Pt := if lexP p q < 0 then p else q
def laterP (p q : Pt) : Pt := if lexP p q > 0 then p else q
theorem earlierP_in {p q : Pt} (hp : InP p) (hq : InP q) : InP (earlierP p q) := by unfold earlierP; split <;> assumption
theorem laterP_in {p q : Pt} (hp : InP p) (hq : InP q) : InP (laterP p q) := by unfold laterP; split <;> assumption
theorem cmpI_lt (x y : Int) : cmpI x y < 0 ↔ x < y := by unfold cmpI; split <;> (try split) <;> omega
theorem cmpI_gt (x y : Int) : cmpI x y > 0 ↔ y < x := by unfold cmpI; split <;> (try split) <;> omega
theorem earlierP_key {p q : Pt} (hp : InP p) (hq : InP q) : key (earlierP p q) = min (key p) (key q) := by
  unfold earlierP
  rw [lexP_key hp hq]
  split
  · next h => rw [cmpI_lt] at h; omega
  · next h => rw [cmpI_lt] at h; omega
theorem laterP_key {p q : Pt} (hp : InP p) (hq : InP q) : key (laterP p q) = max (key p) (key q) := by
  unfold laterP
  rw [lexP_key hp hq]
  split
  · next h => rw [cmpI_gt] at h; omega
  · next h => rw [cmpI_gt] at h; omega
def onLine (a b c d : Pt) : Int := if lexP (laterP (earlierP a b) (earlierP c d)) (earlierP (laterP a b) (laterP c d)) = -1 then 2 else if lexP (laterP (earlierP a b) (earlierP c d)) (earlierP (laterP a b) (laterP c d)) = 0 then 1 else 0
/-- onLine, in numbers. -/
def onK (a b c d : Int) : Int := if max (min a b) (min c d) < min (max a b) (max c d) then 2 else if max (min a b) (min c d) = min (max a b) (max c d) then 1 else 0
theorem onLine_key {a b c d : Pt} (ha : InP a) (hb : InP b) (hc : InP c) (hd : InP d) : onLine a b c d = onK (key a) (key b) (key c) (key d) := by
  have e1 := laterP_key (earlierP_in ha hb) (earlierP_in hc hd)
  have e2 := earlierP_key (laterP_in ha hb) (laterP_in hc hd)
  rw [earlierP_key ha hb, earlierP_key hc hd] at e1
  rw [laterP_key ha hb, laterP_key hc hd] at e2
  have e3 := lexP_key (laterP_in (earlierP_in ha hb) (earlierP_in hc hd)) (earlierP_in (laterP_in ha hb) (laterP_in hc hd))
  unfold onLine onK
  rw [e3, e1, e2]
  generalize max (min (key a) (key b)) (min (key c) (key d)) = x
  generalize min (max (key a) (key b)) (max (key c) (key d)) = y
  unfold cmpI
  (repeat' split) <;> omega

theorem onK_spec (a b c d : Int) : ∃ x y, x = max (min a b) (min c d) ∧ y = min (max a b) (max c d) ∧ onK a b c d = if x < y then 2 else if x = y then 1 else 0 := ⟨_, _, rfl, rfl, rfl⟩
theorem onK_swap (a b c d : Int) : onK d c a b = onK a b c d := by
  obtain ⟨x, y, hx, hy, h⟩ := onK_spec a b c d
  obtain ⟨x', y', hx', hy', h'⟩ := onK_spec d c a b
  rw [h, h']
  (repeat' split) <;> omega
theorem onK_both (a b c d : Int) : onK b a d c = onK a b c d := by
  obtain ⟨x, y, hx, hy, h⟩ := onK_spec a b c d
  obtain ⟨x', y', hx', hy', h'⟩ := onK_spec b a d c
  rw [h, h']
  (repeat' split) <;> omega
theorem onK_point (a b c : Int) : onK a b c c = if min a b ≤ c ∧ c ≤ max a b then 1 else 0 := by
  obtain ⟨x, y, hx, hy, h⟩ := onK_spec a b c c
  rw [h]
  (repeat' split) <;> omega
theorem onK_self (a b : Int) : onK a b a b = if a = b then 1 else 2 := by
  obtain ⟨x, y, hx, hy, h⟩ := onK_spec a b a b
  rw [h]
  (repeat' split) <;> omega
def meetP (a b c d : Pt) : Int := if trn a b c = 0 ∧ trn a b d = 0 ∧ trn c d a = 0 ∧ trn c d b = 0 then onLine a b c d else if trn a b c * trn a b d > 0 ∨ trn c d a * trn c d b > 0 then 0 else 1

theorem mul_neg2 (x y : Int) : -x * -y = x * y := by grind
theorem meetP_one {a b c : Pt} (ha : InP a) (hb : InP b) (hc : InP c) : meetP a b c c = 0 ∨ meetP a b c c = 1 := by
  unfold meetP
  split
  · rw [onLine_key ha hb hc hc, onK_point]; split <;> omega
  · split <;> omega
theorem meetP_swap {a b c d : Pt} (ha : InP a) (hb : InP b) (hc : InP c) (hd : InP d) : meetP d c a b = meetP a b c d := by
  unfold meetP
  rw [trn_swap12 c d a, trn_swap12 c d b, onLine_key ha hb hc hd, onLine_key hd hc ha hb, onK_swap]
  generalize trn a b c = t1 at *
  generalize trn a b d = t2 at *
  generalize trn c d a = t3 at *
  generalize trn c d b = t4 at *
  generalize onK (key a) (key b) (key c) (key d) = k
  have e1 : t2 * t1 = t1 * t2 := Int.mul_comm _ _
  rw [mul_neg2 t3 t4, e1]
  generalize t1 * t2 = m1
  generalize t3 * t4 = m2
  (repeat' split) <;> omega
theorem meetP_both {a b c d : Pt} (ha : InP a) (hb : InP b) (hc : InP c) (hd : InP d) : meetP b a d c = meetP a b c d := by
  unfold meetP
  rw [trn_swap12 a b c, trn_swap12 a b d, trn_swap12 c d a, trn_swap12 c d b, onLine_key ha hb hc hd, onLine_key hb ha hd hc, onK_both]
  generalize trn a b c = t1 at *
  generalize trn a b d = t2 at *
  generalize trn c d a = t3 at *
  generalize trn c d b = t4 at *
  have e1 : t2 * t1 = t1 * t2 := Int.mul_comm _ _
  have e2 : t4 * t3 = t3 * t4 := Int.mul_comm _ _
  rw [mul_neg2 t4 t3, mul_neg2 t2 t1, e1, e2]
  generalize onK (key a) (key b) (key c) (key d) = k
  generalize t1 * t2 = m1
  generalize t3 * t4 = m2
  (repeat' split) <;> omega
theorem crs_self1 (a b : Pt) : crs a b a = 0 := by unfold crs; grind
theorem crs_self2 (a b : Pt) : crs a b b = 0 := by unfold crs; grind
theorem meetP_self {a b : Pt} (ha : InP a) (hb : InP b) : meetP a b a b = if a = b then 1 else 2 := by
  unfold meetP
  rw [if_pos ⟨(trn_zero _ _ _).2 (crs_self1 _ _), (trn_zero _ _ _).2 (crs_self2 _ _), (trn_zero _ _ _).2 (crs_self1 _ _), (trn_zero _ _ _).2 (crs_self2 _ _)⟩, onLine_key ha hb ha hb]
  have := key_inj ha hb
  rw [onK_self]
  by_cases h : a = b
  · rw [if_pos h, if_pos (this.2 h)]
  · rw [if_neg h, if_neg fun h' => h (this.1 h')]

/-- The reference. -/
def onR (a b p : Pt) : Bool := decide (trn a b p = 0 ∧ p.1 ≥ min a.1 b.1 ∧ p.1 ≤ max a.1 b.1 ∧ p.2 ≥ min a.2 b.2 ∧ p.2 ≤ max a.2 b.2)
def beforeR (a b : Pt) : Bool := decide (a.1 < b.1 ∨ a.1 = b.1 ∧ a.2 < b.2)
theorem beforeR_key {a b : Pt} (ha : InP a) (hb : InP b) : beforeR a b = decide (key a < key b) := by
  obtain ⟨p1, p2⟩ := a
  obtain ⟨q1, q2⟩ := b
  unfold beforeR
  exact decide_eq_decide.2 (by simp only [InP, key] at *; omega)

/-- A point of the line of a segment lies on the segment exactly if it lies between its ends in the order. -/
theorem mul_between {m n x y : Int} (hm : 0 < m) (h : m * y = n * x) (h0 : 0 ≤ x) (h1 : x ≤ m) : (0 ≤ n → 0 ≤ y ∧ y ≤ n) ∧ (n ≤ 0 → n ≤ y ∧ y ≤ 0) := by
  constructor
  · intro hn
    constructor
    · by_cases hy : 0 ≤ y
      · exact hy
      · exfalso
        have a1 : m * y < 0 := Int.mul_neg_of_pos_of_neg hm (by omega)
        have a2 : 0 ≤ n * x := Int.mul_nonneg hn h0
        omega
    · by_cases hy : y ≤ n
      · exact hy
      · exfalso
        have a1 : m * (n + 1) ≤ m * y := Int.mul_le_mul_of_nonneg_left (by omega) (by omega)
        have a2 : n * x ≤ n * m := Int.mul_le_mul_of_nonneg_left h1 hn
        have a3 : m * (n + 1) = n * m + m := by grind
        omega
  · intro hn
    constructor
    · by_cases hy : n ≤ y
      · exact hy
      · exfalso
        have a1 : m * (y + 1) ≤ m * n := Int.mul_le_mul_of_nonneg_left (by omega) (by omega)
        have a2 : (-n) * x ≤ (-n) * m := Int.mul_le_mul_of_nonneg_left h1 (by omega)
        have a3 : m * (y + 1) = m * y + m := by grind
        have a4 : (-n) * x = - (n * x) := by grind
        have a5 : (-n) * m = - (m * n) := by grind
        omega
    · by_cases hy : y ≤ 0
      · exact hy
      · exfalso
        have a1 : 0 < m * y := Int.mul_pos hm (by omega)
        have a2 : 0 ≤ (-n) * x := Int.mul_nonneg (by omega) h0
        have a4 : (-n) * x = - (n * x) := by grind
        omega
theorem between_aux {a b p : Pt} (ha : InP a) (hb : InP b) (hp : InP p) (h : crs a b p = 0) (hk : key a ≤ key b) :
    (p.1 ≥ min a.1 b.1 ∧ p.1 ≤ max a.1 b.1 ∧ p.2 ≥ min a.2 b.2 ∧ p.2 ≤ max a.2 b.2) ↔ (min (key a) (key b) ≤ key p ∧ key p ≤ max (key a) (key b)) := by
  obtain ⟨a1, a2⟩ := a
  obtain ⟨b1, b2⟩ := b
  obtain ⟨p1, p2⟩ := p
  simp only [InP, key, crs] at *
  by_cases hlt : a1 < b1
  · have hc : (b1 - a1) * (p2 - a2) = (b2 - a2) * (p1 - a1) := by omega
    constructor
    · intro ⟨g1, g2, _, _⟩
      have hm := mul_between (by omega) hc (by omega) (by omega)
      by_cases hn : 0 ≤ b2 - a2
      · have := hm.1 hn; clear hc h hm; 
        by_cases e1 : p1 = a1
        · subst e1
          omega
        · by_cases e2 : p1 = b1
          · omega
          · omega
      · have := hm.2 (by omega); clear hm
        by_cases e1 : p1 = a1
        · subst e1
          have : p2 = a2 := by
            have e : (b1 - p1) * (p2 - a2) = 0 := by rw [hc]; simp
            rcases Int.mul_eq_zero.1 e with h' | h' <;> omega
          clear hc h
          omega
        · by_cases e2 : p1 = b1
          · subst e2
            have : p2 = b2 := by
              have e : (p1 - a1) * (p2 - b2) = 0 := by grind
              rcases Int.mul_eq_zero.1 e with h' | h' <;> omega
            clear hc h
            omega
          · clear hc h
            omega
    · intro ⟨g1, g2⟩
      have i1 : a1 ≤ p1 := by clear hc h; omega
      have i2 : p1 ≤ b1 := by clear hc h; omega
      have hm := mul_between (by omega) hc (by omega) (by omega)
      clear hc h
      by_cases hn : 0 ≤ b2 - a2
      · have := hm.1 hn; omega
      · have := hm.2 (by omega); omega
  · have he : a1 = b1 := by clear h; omega
    subst he
    have h2 : a2 ≤ b2 := by clear h; omega
    by_cases he2 : a2 = b2
    · subst he2
      clear h
      omega
    · have hp1 : p1 = a1 := by
        have e : (b2 - a2) * (p1 - a1) = 0 := by
          have : (a1 - a1) * (p2 - a2) = 0 := by simp
          omega
        rcases Int.mul_eq_zero.1 e with h' | h' <;> omega
      clear h
      subst hp1
      omega
theorem between {a b p : Pt} (ha : InP a) (hb : InP b) (hp : InP p) (h : crs a b p = 0) :
    (p.1 ≥ min a.1 b.1 ∧ p.1 ≤ max a.1 b.1 ∧ p.2 ≥ min a.2 b.2 ∧ p.2 ≤ max a.2 b.2) ↔ (min (key a) (key b) ≤ key p ∧ key p ≤ max (key a) (key b)) := by
  by_cases hk : key a ≤ key b
  · exact between_aux ha hb hp h hk
  · have h' : crs b a p = 0 := by
      have : crs b a p = - crs a b p := by unfold crs; grind
      omega
    have := between_aux hb ha hp h' (by omega)
    rw [Int.min_comm a.1, Int.max_comm a.1, Int.min_comm a.2, Int.max_comm a.2, Int.min_comm (key a), Int.max_comm (key a)]
    exact this
theorem onR_key {a b p : Pt} (ha : InP a) (hb : InP b) (hp : InP p) : onR a b p = decide (crs a b p = 0 ∧ min (key a) (key b) ≤ key p ∧ key p ≤ max (key a) (key b)) := by
  unfold onR
  rw [decide_eq_decide, trn_zero]
  constructor
  · intro ⟨h, h'⟩
    exact ⟨h, (between ha hb hp h).1 h'⟩
  · intro ⟨h, h'⟩
    exact ⟨h, (between ha hb hp h).2 h'⟩
/-- On of the program: whether Meet of the segment and the point is above 0. -/
theorem on_eq {a b p : Pt} (ha : InP a) (hb : InP b) (hp : InP p) : decide (meetP a b p p > 0) = onR a b p := by
  rw [onR_key ha hb hp, decide_eq_decide]
  unfold meetP
  have z1 : trn p p a = 0 := (trn_zero _ _ _).2 (by unfold crs; grind)
  have z2 : trn p p b = 0 := (trn_zero _ _ _).2 (by unfold crs; grind)
  rw [z1, z2, onLine_key ha hb hp hp]
  by_cases h : trn a b p = 0
  · rw [if_pos ⟨h, h, rfl, rfl⟩]
    have := (trn_zero _ _ _).1 h
    rw [onK_point]
    split <;> omega
  · rw [if_neg (fun x => h x.1)]
    have h' : ¬ crs a b p = 0 := fun x => h ((trn_zero _ _ _).2 x)
    have hp : trn a b p * trn a b p > 0 := by
      have := trn_le a b p
      have : trn a b p = 1 ∨ trn a b p = -1 := by omega
      rcases this with e | e <;> rw [e] <;> decide
    rw [if_pos (Or.inl hp)]
    omega
/-- Meet of the reference. -/
def loR (a c : Pt) : Pt := if beforeR a c then c else a
def hiR (b d : Pt) : Pt := if beforeR d b then d else b
def ordR (lo hi : Pt) : Int := if beforeR lo hi then 2 else if lo = hi then 1 else 0
def sortR (a b : Pt) : Pt × Pt := if beforeR b a then (b, a) else (a, b)
def meetR (a b c d : Pt) : Int :=
  if a = b ∨ c = d then (if (a = b ∧ onR c d a = true) ∨ (c = d ∧ onR a b c = true) then 1 else 0)
  else if trn a b c = 0 ∧ trn a b d = 0 then ordR (loR (sortR a b).1 (sortR c d).1) (hiR (sortR a b).2 (sortR c d).2)
  else if trn a b c * trn a b d ≤ 0 ∧ trn c d a * trn c d b ≤ 0 then 1 else 0
theorem sortR_in {a b : Pt} (ha : InP a) (hb : InP b) : InP (sortR a b).1 ∧ InP (sortR a b).2 := by unfold sortR; split <;> exact ⟨by assumption, by assumption⟩
theorem sortR_key {a b : Pt} (ha : InP a) (hb : InP b) : key (sortR a b).1 = min (key a) (key b) ∧ key (sortR a b).2 = max (key a) (key b) := by
  unfold sortR
  rw [beforeR_key hb ha]
  split
  · next h => simp only [decide_eq_true_eq] at h; constructor <;> simp only <;> omega
  · next h => simp only [decide_eq_true_eq] at h; constructor <;> simp only <;> omega
theorem loR_in {a c : Pt} (ha : InP a) (hc : InP c) : InP (loR a c) := by unfold loR; split <;> assumption
theorem hiR_in {a c : Pt} (ha : InP a) (hc : InP c) : InP (hiR a c) := by unfold hiR; split <;> assumption
theorem loR_key {a c : Pt} (ha : InP a) (hc : InP c) : key (loR a c) = max (key a) (key c) := by
  unfold loR
  rw [beforeR_key ha hc]
  split
  · next h => simp only [decide_eq_true_eq] at h; omega
  · next h => simp only [decide_eq_true_eq] at h; omega
theorem hiR_key {a c : Pt} (ha : InP a) (hc : InP c) : key (hiR a c) = min (key a) (key c) := by
  unfold hiR
  rw [beforeR_key hc ha]
  split
  · next h => simp only [decide_eq_true_eq] at h; omega
  · next h => simp only [decide_eq_true_eq] at h; omega
theorem line_key {a b c d : Pt} (ha : InP a) (hb : InP b) (hc : InP c) (hd : InP d) : ordR (loR (sortR a b).1 (sortR c d).1) (hiR (sortR a b).2 (sortR c d).2) = onK (key a) (key b) (key c) (key d) := by
  obtain ⟨i1, i2⟩ := sortR_in ha hb
  obtain ⟨i3, i4⟩ := sortR_in hc hd
  obtain ⟨k1, k2⟩ := sortR_key ha hb
  obtain ⟨k3, k4⟩ := sortR_key hc hd
  have e1 := loR_key i1 i3
  have e2 := hiR_key i2 i4
  rw [k1, k3] at e1
  rw [k2, k4] at e2
  have hk := key_inj (loR_in i1 i3) (hiR_in i2 i4)
  unfold ordR onK
  rw [beforeR_key (loR_in i1 i3) (hiR_in i2 i4)]
  rw [e1, e2] at *
  generalize max (min (key a) (key b)) (min (key c) (key d)) = x at *
  generalize min (max (key a) (key b)) (max (key c) (key d)) = y at *
  simp only [decide_eq_true_eq, ← hk]
theorem meet_eq {a b c d : Pt} (ha : InP a) (hb : InP b) (hc : InP c) (hd : InP d) : meetP a b c d = meetR a b c d := by
  have zz : ∀ p q : Pt, trn p p q = 0 := fun p q => (trn_zero _ _ _).2 (by unfold crs; grind)
  have sq : ∀ t : Int, t ≠ 0 → t * t > 0 := fun t ht => by
    rcases Int.lt_trichotomy t 0 with h | h | h
    · have := Int.mul_pos_of_neg_of_neg h h; omega
    · omega
    · have := Int.mul_pos h h; omega
  by_cases hab : a = b
  · subst hab
    unfold meetR meetP
    rw [if_pos (Or.inl rfl), onLine_key ha ha hc hd, zz a c, zz a d]
    by_cases ht : trn c d a = 0
    · rw [if_pos ⟨rfl, rfl, ht, ht⟩, onR_key hc hd ha, onR_key ha ha hc]
      have t0 := (trn_zero _ _ _).1 ht
      have t1 : crs a a c = 0 := (trn_zero _ _ _).1 (zz a c)
      simp only [t0, t1, true_and, decide_eq_true_eq]
      have hk := key_inj hc hd
      by_cases hcd : c = d
      · subst hcd
        simp only [true_and]
        obtain ⟨x, y, hx, hy, h⟩ := onK_spec (key a) (key a) (key c) (key c)
        rw [h]
        (repeat' split) <;> omega
      · have : ¬ key c = key d := fun h => hcd (hk.1 h)
        simp only [hcd, false_and, or_false]
        obtain ⟨x, y, hx, hy, h⟩ := onK_spec (key a) (key a) (key c) (key d)
        rw [h]
        (repeat' split) <;> omega
    · rw [if_neg (fun h => ht h.2.2.1), if_pos (Or.inr (sq _ ht)), onR_key hc hd ha]
      have ht' : ¬ crs c d a = 0 := fun h => ht ((trn_zero _ _ _).2 h)
      rw [if_neg]
      rintro (⟨_, h⟩ | ⟨h, _⟩)
      · simp [ht'] at h
      · subst h
        exact ht (zz _ _)
  by_cases hcd : c = d
  · subst hcd
    unfold meetR meetP
    rw [if_pos (Or.inr rfl), onLine_key ha hb hc hc, zz c a, zz c b]
    by_cases ht : trn a b c = 0
    · rw [if_pos ⟨ht, ht, rfl, rfl⟩, onR_key ha hb hc]
      have t0 := (trn_zero _ _ _).1 ht
      simp only [t0, hab, true_and, false_and, false_or, decide_eq_true_eq]
      rw [onK_point]
    · rw [if_neg (fun h => ht h.1), if_pos (Or.inl (sq _ ht)), onR_key ha hb hc]
      have ht' : ¬ crs a b c = 0 := fun h => ht ((trn_zero _ _ _).2 h)
      rw [if_neg]
      rintro (⟨h, _⟩ | ⟨_, h⟩)
      · exact hab h
      · simp [ht'] at h
  unfold meetR meetP
  have hno : ¬ (a = b ∨ c = d) := by rintro (h | h) <;> contradiction
  rw [if_neg hno, onLine_key ha hb hc hd, line_key ha hb hc hd]
  by_cases h1 : trn a b c = 0 ∧ trn a b d = 0
  · have hl := line_both hab ((trn_zero _ _ _).1 h1.1) ((trn_zero _ _ _).1 h1.2)
    rw [if_pos h1, if_pos ⟨h1.1, h1.2, (trn_zero _ _ _).2 hl.1, (trn_zero _ _ _).2 hl.2⟩]
  · rw [if_neg h1, if_neg (fun h => h1 ⟨h.1, h.2.1⟩)]
    generalize trn a b c * trn a b d = m1
    generalize trn c d a * trn c d b = m2
    (repeat' split) <;> omega

/-- The greatest common divisor of three numbers. -/
def gcd3 (x y z : Int) : Nat := Nat.gcd (Nat.gcd x.natAbs y.natAbs) z.natAbs
theorem gcd3_neg (x y z : Int) : gcd3 (-x) (-y) (-z) = gcd3 x y z := by unfold gcd3; simp
theorem gcd3_pos {x y z : Int} (h : ¬ (x = 0 ∧ y = 0 ∧ z = 0)) : 0 < gcd3 x y z := by
  unfold gcd3
  rcases Nat.eq_zero_or_pos (Nat.gcd (Nat.gcd x.natAbs y.natAbs) z.natAbs) with h0 | h0
  · rw [Nat.gcd_eq_zero_iff, Nat.gcd_eq_zero_iff] at h0
    omega
  · exact h0
theorem gcd3_dvd (x y z : Int) : (gcd3 x y z : Int) ∣ x ∧ (gcd3 x y z : Int) ∣ y ∧ (gcd3 x y z : Int) ∣ z := by
  unfold gcd3
  refine ⟨?_, ?_, ?_⟩
  · exact Int.ofNat_dvd_left.2 (Nat.dvd_trans (Nat.gcd_dvd_left _ _) (Nat.gcd_dvd_left _ _))
  · exact Int.ofNat_dvd_left.2 (Nat.dvd_trans (Nat.gcd_dvd_left _ _) (Nat.gcd_dvd_right _ _))
  · exact Int.ofNat_dvd_left.2 (Nat.gcd_dvd_right _ _)
theorem gcd3_scale (k : Nat) (x y z : Int) : gcd3 (k * x) (k * y) (k * z) = k * gcd3 x y z := by
  unfold gcd3
  rw [Int.natAbs_mul, Int.natAbs_mul, Int.natAbs_mul, Int.natAbs_natCast, Nat.gcd_mul_left, Nat.gcd_mul_left]
theorem gcd3_tdiv {x y z : Int} (h : ¬ (x = 0 ∧ y = 0 ∧ z = 0)) : gcd3 (x.tdiv (gcd3 x y z)) (y.tdiv (gcd3 x y z)) (z.tdiv (gcd3 x y z)) = 1 := by
  have hp := gcd3_pos h
  obtain ⟨d1, d2, d3⟩ := gcd3_dvd x y z
  have e := gcd3_scale (gcd3 x y z) (x.tdiv (gcd3 x y z)) (y.tdiv (gcd3 x y z)) (z.tdiv (gcd3 x y z))
  rw [Int.mul_tdiv_cancel' d1, Int.mul_tdiv_cancel' d2, Int.mul_tdiv_cancel' d3] at e
  exact Nat.eq_of_mul_eq_mul_left hp (by omega)
theorem gcd3_le {x y z : Int} (h : ¬ (x = 0 ∧ y = 0 ∧ z = 0)) (b : Nat) (hx : x.natAbs ≤ b) (hy : y.natAbs ≤ b) (hz : z.natAbs ≤ b) : gcd3 x y z ≤ b := by
  obtain ⟨d1, d2, d3⟩ := gcd3_dvd x y z
  have e1 := Int.ofNat_dvd_left.1 d1
  have e2 := Int.ofNat_dvd_left.1 d2
  have e3 := Int.ofNat_dvd_left.1 d3
  by_cases h1 : x = 0
  · by_cases h2 : y = 0
    · have := Nat.le_of_dvd (by omega) e3; omega
    · have := Nat.le_of_dvd (by omega) e2; omega
  · have := Nat.le_of_dvd (by omega) e1; omega

theorem gcd_step (a b : Int) : Nat.gcd b.natAbs (a.tmod b).natAbs = Nat.gcd a.natAbs b.natAbs := by
  rw [Int.natAbs_tmod, Nat.gcd_comm b.natAbs, ← Nat.gcd_rec, Nat.gcd_comm]
end Go.Proofs.Ytdbcflgacjgdoaa
