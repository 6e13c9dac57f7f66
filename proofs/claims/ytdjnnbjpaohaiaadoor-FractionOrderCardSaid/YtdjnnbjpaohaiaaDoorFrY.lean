/- Layer 4 (fraction): the law FractionOrder. -/
import Derived.Test.YtdjnnbjpaohaiaaDoorFrV
namespace Go.Proofs.YtdjnnbjpaohaiaaDoor
open Go.RowKit Go.Ev
set_option maxRecDepth 100000

/-! ### The order -/
theorem sgn_neg (z : Int) : sgn (-z) = -sgn z := by unfold sgn; split <;> split <;> (try split) <;> (try split) <;> omega
theorem sgn_le {z : Int} : sgn z ≤ 0 ↔ z ≤ 0 := by unfold sgn; split <;> (try split) <;> omega
theorem sgn_gt {z : Int} : 0 < sgn z ↔ 0 < z := by unfold sgn; split <;> (try split) <;> omega
theorem sgn_zero {z : Int} : sgn z = 0 ↔ z = 0 := by unfold sgn; split <;> (try split) <;> omega
theorem sgn_in64 (z : Int) : In64 (sgn z) := by unfold sgn In64; split <;> (try split) <;> omega
theorem mul_pos_iff {k z : Int} (hk : 0 < k) : (0 < k * z ↔ 0 < z) ∧ (k * z < 0 ↔ z < 0) := by
  rcases Int.lt_trichotomy z 0 with h | h | h
  · have := Int.mul_neg_of_pos_of_neg hk h; omega
  · subst h; simp
  · have := Int.mul_pos hk h; omega
theorem sgn_scale {k z : Int} (hk : 0 < k) : sgn (k * z) = sgn z := by
  obtain ⟨h1, h2⟩ := mul_pos_iff (z := z) hk
  unfold sgn
  by_cases a : z < 0
  · rw [if_pos a, if_pos (h2.2 a)]
  · rw [if_neg a, if_neg (fun h => a (h2.1 h))]
    by_cases b : z = 0
    · rw [if_pos b, if_pos (by rw [b, Int.mul_zero])]
    · rw [if_neg b, if_neg (fun h => by have := h1.2 (by omega); omega)]
theorem cmp_eq {an ad bn bd : Int} (h1 : validF an ad = true) (h2 : validF bn bd = true) : an * bd - bn * ad = 0 ↔ an = bn ∧ ad = bd := by
  obtain ⟨a1, _, _, a4⟩ := validF_t h1
  obtain ⟨b1, _, _, b4⟩ := validF_t h2
  constructor
  · intro h
    obtain ⟨k1, k2⟩ := frac_eq a4 b4 (by omega) (by rw [natd a1, natd b1]; omega)
    exact ⟨k1, by omega⟩
  · rintro ⟨rfl, rfl⟩; omega
theorem le_cancel {a b k : Int} (hk : 0 < k) (h : a * k ≤ b * k) : a ≤ b := Int.le_of_mul_le_mul_right h hk
theorem cmp_trans {an ad bn bd cn cd : Int} (ha : 0 < ad) (hb : 0 < bd) (hc : 0 < cd) (h1 : an * bd - bn * ad ≤ 0) (h2 : bn * cd - cn * bd ≤ 0) : an * cd - cn * ad ≤ 0 := by
  have e1 : an * bd * cd ≤ bn * ad * cd := Int.mul_le_mul_of_nonneg_right (by omega) (by omega)
  have e2 : bn * cd * ad ≤ cn * bd * ad := Int.mul_le_mul_of_nonneg_right (by omega) (by omega)
  have : an * cd ≤ cn * ad := le_cancel hb (by
    rw [show an * cd * bd = an * bd * cd by grind, show cn * ad * bd = cn * bd * ad by grind]
    rw [show bn * ad * cd = bn * cd * ad by grind] at e1
    omega)
  omega
theorem add_order {an ad bn bd cn cd : Int} (h1 : (addX an ad cn cd).2.2 = 0) (h2 : (addX bn bd cn cd).2.2 = 0) :
    sgn ((addX an ad cn cd).1 * (addX bn bd cn cd).2.1 - (addX bn bd cn cd).1 * (addX an ad cn cd).2.1) = sgn (an * bd - bn * ad) := by
  obtain ⟨a1, a2, a3, a4⟩ := add_ok h1
  obtain ⟨b1, _, b3, b4⟩ := add_ok h2
  generalize addX an ad cn cd = S at *
  generalize addX bn bd cn cd = T at *
  obtain ⟨s, u, e⟩ := S
  obtain ⟨t, v, f⟩ := T
  simp only at a3 a4 b3 b4 ⊢
  have p1 := (validF_t a1).1
  have p2 := (validF_t a2).1
  have p3 := (validF_t a3).1
  have p4 := (validF_t b1).1
  have p5 := (validF_t b3).1
  have k1 : 0 < ad * cd * (bd * cd) := Int.mul_pos (Int.mul_pos (by omega) (by omega)) (Int.mul_pos (by omega) (by omega))
  have k2 : 0 < u * v * (cd * cd) := Int.mul_pos (Int.mul_pos (by omega) (by omega)) (Int.mul_pos (by omega) (by omega))
  rw [← sgn_scale k1, ← sgn_scale (z := an * bd - bn * ad) k2]
  congr 1
  have e1 : ad * cd * (bd * cd) * (s * v - t * u) = s * (ad * cd) * (bd * cd * v) - t * (bd * cd) * (ad * cd * u) := by grind
  rw [e1, a4, b4]; grind

/-! ### Floor and Round -/
theorem div_facts {n d : Int} (hd : 1 ≤ d) : n.tdiv d * d + n.tmod d = n ∧ n.tmod d < d ∧ -d < n.tmod d ∧ (0 ≤ n → 0 ≤ n.tmod d) ∧ (n ≤ 0 → n.tmod d ≤ 0) := by
  have h1 := Int.tdiv_mul_add_tmod n d
  have h2 := @r_in n d hd
  refine ⟨h1, by omega, by omega, fun h => Int.tmod_nonneg d h, fun h => ?_⟩
  have := Int.tmod_nonneg (a := -n) d (by omega)
  rw [Int.neg_tmod] at this; omega
theorem floor_spec {n d : Int} (hd : 1 ≤ d) : floorF n d * d ≤ n ∧ n < (floorF n d + 1) * d := by
  obtain ⟨h1, h2, h3, h4, h5⟩ := div_facts (n := n) hd
  unfold floorF
  by_cases h : n.tmod d < 0
  · rw [decide_eq_true h, cond_true, Int.sub_mul, Int.sub_add_cancel]; omega
  · rw [decide_eq_false h, cond_false, Int.add_mul]; omega
theorem round_spec {n d : Int} (hd : 1 ≤ d) : (2 * roundF n d - 1) * d ≤ 2 * n ∧ 2 * n ≤ (2 * roundF n d + 1) * d ∧ ((2 * roundF n d - 1) * d = 2 * n → 0 < n) ∧ (2 * n = (2 * roundF n d + 1) * d → n < 0) := by
  obtain ⟨h1, h2, h3, h4, h5⟩ := div_facts (n := n) hd
  unfold roundF
  generalize n.tdiv d = q at *
  generalize n.tmod d = r at *
  have e : ∀ m c : Int, (2 * m + c) * d = 2 * (m * d) + c * d := fun m c => by grind
  have s : ∀ m : Int, (2 * m - 1) * d = 2 * (m * d) - d := fun m => by grind
  by_cases c1 : d ≤ 2 * r
  · rw [decide_eq_true c1, cond_true, s, e, Int.add_mul]; omega
  · rw [decide_eq_false c1, cond_false]
    by_cases c2 : d ≤ -2 * r
    · rw [decide_eq_true c2, cond_true, s, e, Int.sub_mul]; omega
    · rw [decide_eq_false c2, cond_false, s, e]; omega
theorem round_floor (n d : Int) : 1 ≤ d → roundF n d = floorF n d ∨ roundF n d = floorF n d + 1 := fun hd => by
  obtain ⟨h1, h2, h3, h4, h5⟩ := div_facts (n := n) hd
  unfold roundF floorF
  by_cases c1 : d ≤ 2 * n.tmod d
  · rw [decide_eq_true c1, cond_true, decide_eq_false (show ¬ n.tmod d < 0 by omega), cond_false]; exact .inr rfl
  · rw [decide_eq_false c1, cond_false]
    by_cases c2 : d ≤ -2 * n.tmod d
    · rw [decide_eq_true c2, cond_true, decide_eq_true (show n.tmod d < 0 by omega), cond_true]; exact .inl rfl
    · rw [decide_eq_false c2, cond_false]
      by_cases c3 : n.tmod d < 0
      · rw [decide_eq_true c3, cond_true]; exact .inr (by omega)
      · rw [decide_eq_false c3, cond_false]; exact .inl rfl
theorem lt_cancel {a b k : Int} (hk : 0 < k) (h : a * k < b * k) : a < b := Int.lt_of_mul_lt_mul_right h (by omega)
theorem floor_mono {an ad bn bd : Int} (ha : 1 ≤ ad) (hb : 1 ≤ bd) (h : an * bd - bn * ad ≤ 0) : floorF an ad ≤ floorF bn bd := by
  obtain ⟨f1, _⟩ := floor_spec (n := an) ha
  obtain ⟨_, f2⟩ := floor_spec (n := bn) hb
  generalize floorF an ad = p at *
  generalize floorF bn bd = q at *
  have e1 : p * ad * bd ≤ an * bd := Int.mul_le_mul_of_nonneg_right f1 (by omega)
  have e2 : bn * ad < (q + 1) * bd * ad := Int.mul_lt_mul_of_pos_right f2 (by omega)
  have : p < q + 1 := lt_cancel (k := ad * bd) (Int.mul_pos (by omega) (by omega)) (by
    rw [show p * (ad * bd) = p * ad * bd by grind, show (q + 1) * (ad * bd) = (q + 1) * bd * ad by grind]; omega)
  omega
theorem round_mono {an ad bn bd : Int} (ha : 1 ≤ ad) (hb : 1 ≤ bd) (h : an * bd - bn * ad ≤ 0) : roundF an ad ≤ roundF bn bd := by
  obtain ⟨f1, _, f3, _⟩ := round_spec (n := an) ha
  obtain ⟨_, g2, _, g4⟩ := round_spec (n := bn) hb
  generalize roundF an ad = p at *
  generalize roundF bn bd = q at *
  have e1 : (2 * p - 1) * ad * bd ≤ 2 * an * bd := Int.mul_le_mul_of_nonneg_right f1 (by omega)
  have e2 : 2 * bn * ad ≤ (2 * q + 1) * bd * ad := Int.mul_le_mul_of_nonneg_right g2 (by omega)
  have e3 : 2 * an * bd ≤ 2 * bn * ad := by rw [Int.mul_assoc, Int.mul_assoc]; omega
  have hk : 0 < ad * bd := Int.mul_pos (by omega) (by omega)
  have s1 : (2 * p - 1) * (ad * bd) = (2 * p - 1) * ad * bd := by grind
  have s2 : (2 * q + 1) * (ad * bd) = (2 * q + 1) * bd * ad := by grind
  have hle : 2 * p - 1 ≤ 2 * q + 1 := le_cancel hk (by rw [s1, s2]; omega)
  refine Classical.byContradiction fun hn => ?_
  have hpq : p = q + 1 := by omega
  have heq : (2 * p - 1) * ad * bd = (2 * q + 1) * bd * ad := by rw [← s1, ← s2, hpq]; congr 1; omega
  have t1 : (2 * p - 1) * ad = 2 * an := Int.eq_of_mul_eq_mul_right (a := bd) (by omega) (by omega)
  have t2 : 2 * bn = (2 * q + 1) * bd := Int.eq_of_mul_eq_mul_right (a := ad) (by omega) (by omega)
  have n1 := f3 t1
  have n2 := g4 t2
  have m1 : 0 < an * bd := Int.mul_pos n1 (by omega)
  have m2 : bn * ad < 0 := Int.mul_neg_of_neg_of_pos n2 (by omega)
  omega

/-! ### The law -/
abbrev orSym (an ad bn bd cn cd : Int) (x y z : Int) (S T : Tr3) (n m n' m' : Int) : Tm → Sym
  | .v 0 => intSym .i64 an
  | .v 1 => intSym .i64 ad
  | .v 2 => intSym .i64 bn
  | .v 3 => intSym .i64 bd
  | .v 4 => intSym .i64 cn
  | .v 5 => intSym .i64 cd
  | .v 10 => intSym .i64 x
  | .v 11 => intSym .i64 y
  | .v 12 => intSym .i64 (-x)
  | .v 13 => intSym .i64 z
  | .v 20 => intSym .i64 S.1
  | .v 21 => intSym .i64 S.2.1
  | .v 22 => intSym .i64 S.2.2
  | .v 40 => intSym .i64 T.1
  | .v 41 => intSym .i64 T.2.1
  | .v 42 => intSym .i64 T.2.2
  | .v 60 => intSym .i64 n
  | .v 61 => intSym .i64 m
  | .v 62 => intSym .i64 n'
  | .v 63 => intSym .i64 m'
  | .v 64 => intSym .i64 (n + 1)
  | _ => intSym .i64 0
abbrev orBase (p q r : Bool) : List KCall := [(13, [], .clo (.bool true)), (14, [fr2 0 1], .clo (.bool p)), (14, [fr2 2 3], .clo (.bool q)), (14, [fr2 4 5], .clo (.bool r))]
abbrev fCmp : FuncId := 27
abbrev orCalls : List KCall :=
  [(fCmp, [fr2 0 1, fr2 2 3], .sy 10), (fCmp, [fr2 2 3, fr2 4 5], .sy 11), (fCmp, [fr2 2 3, fr2 0 1], .sy 12), (fCmp, [fr2 0 1, fr2 4 5], .sy 13), (fAdd, [fr2 0 1, fr2 4 5], rsT 20 21 22), (fAdd, [fr2 2 3, fr2 4 5], rsT 40 41 42),
   (29, [fr2 0 1], .sy 60), (30, [fr2 0 1], .sy 61), (29, [fr2 2 3], .sy 62), (30, [fr2 2 3], .sy 63)]
abbrev orCmp : Bool → List KCall
  | true => [(fCmp, [fr2 20 21, fr2 40 41], .sy 10)]
  | false => []
abbrev orOps (e0 l1 l2 l3 o1 o2 q1 : Bool) : List KOp :=
  [(.bin .sub 3, [.clo (iv 0), .sy 12], .sy 10), (.bin .neq 3, [.sy 10, .sy 10], .clo (.bool false)), (.bin .eql 3, [.sy 10, .clo (iv 0)], .clo (.bool e0)), (.bin .leq 3, [.sy 10, .clo (iv 0)], .clo (.bool l1)),
   (.bin .leq 3, [.sy 11, .clo (iv 0)], .clo (.bool l2)), (.bin .gtr 3, [.sy 13, .clo (iv 0)], .clo (.bool l3)), (.bin .eql 24, [.sy 22, .clo (iv 0)], .clo (.bool o1)), (.bin .eql 24, [.sy 42, .clo (iv 0)], .clo (.bool o2)),
   (.bin .gtr 3, [.sy 10, .clo (iv 0)], .clo (.bool (!l1))), (.bin .eql 2, [.sy 61, .sy 60], .clo (.bool q1)), (.bin .add 2, [.sy 60, .clo (iv 1)], .sy 64)]
abbrev orLess : Bool → List KOp
  | true => [(.bin .leq 2, [.sy 60, .sy 62], .clo (.bool true)), (.bin .leq 2, [.sy 61, .sy 63], .clo (.bool true))]
  | false => []
abbrev orNext : Bool → List KOp
  | true => []
  | false => [(.bin .eql 2, [.sy 61, .sy 64], .clo (.bool true))]
theorem evOr0 (an ad bn bd cn cd x y z : Int) (S T : Tr3) (n m n' m' : Int) (p q r : Bool) (h : (p && q && r) = false) : @evalBeside (toldK 0 (orSym an ad bn bd cn cd x y z S T n m n' m') (orBase p q r) [] [] HasPow (gPow + 1) pow_kst) Tryd.prog 300 10 [fr2 0 1, fr2 2 3, fr2 4 5] [] = some (.bool true) := by
  cases p <;> cases q <;> cases r <;> first | (cases h; done) | kernel_rfl
theorem evOr1 (an ad bn bd cn cd x y z : Int) (S T : Tr3) (n m n' m' : Int) (e0 l1 l2 l3 o1 o2 q1 : Bool) (h : (l1 && l2 && l3) = false) :
    @evalBeside (toldK 0 (orSym an ad bn bd cn cd x y z S T n m n' m') (orBase true true true ++ (orCalls ++ orCmp (o1 && o2))) [(23, fr2 0 1, fr2 2 3, e0)] (orOps e0 l1 l2 l3 o1 o2 q1 ++ (orLess l1 ++ orNext q1)) HasPow (gPow + 1) pow_kst) Tryd.prog 300 10 [fr2 0 1, fr2 2 3, fr2 4 5] [] = some (.bool true) := by
  cases e0 <;> cases l1 <;> cases l2 <;> cases l3 <;> cases o1 <;> cases o2 <;> cases q1 <;> first | (cases h; done) | kernel_rfl
theorem cmp_valid {an ad bn bd : Int} (hv1 : validF an ad = true) (hv2 : validF bn bd = true) (w : World) : Calls Tryd.prog 27 #[frV an ad, frV bn bd] w fun e w' => e = .returned (iv (sgn (an * bd - bn * ad))) ∧ Below w.heap.size w w' := by
  obtain ⟨h1, h2⟩ := in64_valid hv1
  obtain ⟨h3, h4⟩ := in64_valid hv2
  have := cmp_any an ad bn bd h1 h2 h3 h4 w
  rw [if_pos ⟨hv1, hv2⟩] at this
  exact this
theorem order_any (an ad bn bd cn cd : Int) (h1 : In64 an) (h2 : In64 ad) (h3 : In64 bn) (h4 : In64 bd) (h5 : In64 cn) (h6 : In64 cd) (w : World) (hT : HasPow w) :
    Calls Tryd.prog 10 #[frV an ad, frV bn bd, frV cn cd] w fun e w' => e = .returned (.bool true) ∧ Below w.heap.size w w' := by
  have hbase : ∀ (sym : Tm → Sym), @denL (told sym [] []) (fun _ => none) [fr2 0 1] = some [frV an ad] → @denL (told sym [] []) (fun _ => none) [fr2 2 3] = some [frV bn bd] → @denL (told sym [] []) (fun _ => none) [fr2 4 5] = some [frV cn cd] → ∀ z ∈ orBase (validF an ad) (validF bn bd) (validF cn cd), CallAt Tryd.prog sym HasPow z := by
    intro sym e0 e1 e2 z hz
    simp only [orBase, List.mem_cons, List.not_mem_nil, or_false] at hz
    rcases hz with rfl | rfl | rfl | rfl
    · exact ⟨[], .bool true, rfl, rfl, fun w hw => awake_any w hw⟩
    · exact ⟨[frV an ad], _, e0, rfl, fun w _ => valid_any an ad h1.1 h1.2 h2.1 h2.2 w⟩
    · exact ⟨[frV bn bd], _, e1, rfl, fun w _ => valid_any bn bd h3.1 h3.2 h4.1 h4.2 w⟩
    · exact ⟨[frV cn cd], _, e2, rfl, fun w _ => valid_any cn cd h5.1 h5.2 h6.1 h6.2 w⟩
  cases hv : (validF an ad && validF bn bd && validF cn cd) with
  | false =>
    exact calls_toldK (by kernel_rfl) 0 (orSym an ad bn bd cn cd 0 0 0 (0, 0, 0) (0, 0, 0) 0 0 0 0) (orBase (validF an ad) (validF bn bd) (validF cn cd)) [] [] HasPow (gPow + 1) pow_kst (hbase _ rfl rfl rfl) (fun _ h => by cases h) (fun _ h => by cases h)
      (args := [fr2 0 1, fr2 2 3, fr2 4 5]) (xs := [frV an ad, frV bn bd, frV cn cd]) rfl [] (evOr0 _ _ _ _ _ _ _ _ _ _ _ _ _ _ _ _ _ _ hv) w hT hT.lt' (fun i b h => by simp [look_nil] at h)
  | true =>
    simp only [Bool.and_eq_true] at hv
    obtain ⟨⟨hv1, hv2⟩, hv3⟩ := hv
    rw [hv1, hv2, hv3] at hbase
    have p1 := (validF_t hv1).1
    have p2 := (validF_t hv2).1
    have p3 := (validF_t hv3).1
    have c1 := fun w => cmp_valid hv1 hv2 w
    have c2 := fun w => cmp_valid hv2 hv3 w
    have c3 := fun w => cmp_valid hv2 hv1 w
    have c4 := fun w => cmp_valid hv1 hv3 w
    have c5 := fun w => pAdd_any an ad cn cd h1 h2 h5 h6 w
    have c6 := fun w => pAdd_any bn bd cn cd h3 h4 h5 h6 w
    have c7 := fun w => floor_any an ad h1 h2 w
    have c8 := fun w => round_any an ad h1 h2 w
    have c9 := fun w => floor_any bn bd h3 h4 w
    have c10 := fun w => round_any bn bd h3 h4 w
    rw [hv1, cond_true] at c7 c8
    rw [hv2, cond_true] at c9 c10
    rw [show bn * ad - an * bd = -(an * bd - bn * ad) by omega, sgn_neg] at c3
    have he := cmp_eq hv1 hv2
    have ht := fun a b => cmp_trans (an := an) (bn := bn) (cn := cn) (show 0 < ad by omega) (show 0 < bd by omega) (show 0 < cd by omega) a b
    have ho := fun a b => add_order (an := an) (ad := ad) (bn := bn) (bd := bd) (cn := cn) (cd := cd) a b
    have hs1 := fun a => (add_ok (an := an) (ad := ad) (bn := cn) (bd := cd) a).2.2.1
    have hs2 := fun a => (add_ok (an := bn) (ad := bd) (bn := cn) (bd := cd) a).2.2.1
    have hf := fun h => floor_mono (an := an) (bn := bn) p1 p2 h
    have hr := fun h => round_mono (an := an) (bn := bn) p1 p2 h
    have hq := round_floor an ad p1
    have hfb : In64 (floorF an ad + 1) := by
      have q1 := @q_in an ad p1
      have q2 := (validF_t hv1).2.2.1
      have : floorF an ad = an.tdiv ad ∨ floorF an ad = an.tdiv ad - 1 := by unfold floorF; cases decide (an.tmod ad < 0) <;> simp
      unfold In64; omega
    generalize an * bd - bn * ad = d1 at *
    generalize bn * cd - cn * bd = d2 at *
    generalize an * cd - cn * ad = d3 at *
    generalize addX an ad cn cd = S at *
    generalize addX bn bd cn cd = T at *
    generalize floorF an ad = n at *
    generalize roundF an ad = m at *
    generalize floorF bn bd = n' at *
    generalize roundF bn bd = m' at *
    have hl : (decide (d1 ≤ 0) && decide (d2 ≤ 0) && decide (0 < d3)) = false := by
      rw [Bool.eq_false_iff]
      simp only [ne_eq, Bool.and_eq_true, decide_eq_true_eq, not_and]
      intro a b
      have := ht a.1 a.2
      omega
    refine calls_toldK (by kernel_rfl) 0 (orSym an ad bn bd cn cd (sgn d1) (sgn d2) (sgn d3) S T n m n' m') (orBase true true true ++ (orCalls ++ orCmp (decide (S.2.2 = 0) && decide (T.2.2 = 0)))) [(23, fr2 0 1, fr2 2 3, decide (d1 = 0))]
      (orOps (decide (d1 = 0)) (decide (d1 ≤ 0)) (decide (d2 ≤ 0)) (decide (0 < d3)) (decide (S.2.2 = 0)) (decide (T.2.2 = 0)) (decide (m = n)) ++ (orLess (decide (d1 ≤ 0)) ++ orNext (decide (m = n)))) HasPow (gPow + 1) pow_kst ?_ ?_ ?_
      (args := [fr2 0 1, fr2 2 3, fr2 4 5]) (xs := [frV an ad, frV bn bd, frV cn cd]) rfl [] (evOr1 _ _ _ _ _ _ _ _ _ _ _ _ _ _ _ _ _ _ _ _ _ _ hl) w hT hT.lt' (fun i b h => by simp [look_nil] at h)
    · refine app_is (hbase _ rfl rfl rfl) (app_is (fun z hz => ?_) (fun z hz => ?_))
      · simp only [orCalls, List.mem_cons, List.not_mem_nil, or_false] at hz
        rcases hz with rfl | rfl | rfl | rfl | rfl | rfl | rfl | rfl | rfl | rfl
        · exact ⟨[frV an ad, frV bn bd], _, rfl, rfl, fun w _ => c1 w⟩
        · exact ⟨[frV bn bd, frV cn cd], _, rfl, rfl, fun w _ => c2 w⟩
        · exact ⟨[frV bn bd, frV an ad], _, rfl, rfl, fun w _ => c3 w⟩
        · exact ⟨[frV an ad, frV cn cd], _, rfl, rfl, fun w _ => c4 w⟩
        · exact ⟨[frV an ad, frV cn cd], tripV S, rfl, rfl, fun w _ => c5 w⟩
        · exact ⟨[frV bn bd, frV cn cd], tripV T, rfl, rfl, fun w _ => c6 w⟩
        · exact ⟨[frV an ad], _, rfl, rfl, fun w _ => c7 w⟩
        · exact ⟨[frV an ad], _, rfl, rfl, fun w _ => c8 w⟩
        · exact ⟨[frV bn bd], _, rfl, rfl, fun w _ => c9 w⟩
        · exact ⟨[frV bn bd], _, rfl, rfl, fun w _ => c10 w⟩
      · cases ho12 : (decide (S.2.2 = 0) && decide (T.2.2 = 0)) with
        | false => rw [ho12] at hz; cases hz
        | true =>
          rw [ho12] at hz
          simp only [Bool.and_eq_true, decide_eq_true_eq] at ho12
          simp only [orCmp, List.mem_cons, List.not_mem_nil, or_false] at hz
          subst hz
          have hc := fun w => cmp_valid (hs1 ho12.1) (hs2 ho12.2) w
          rw [ho ho12.1 ho12.2] at hc
          exact ⟨[frV S.1 S.2.1, frV T.1 T.2.1], _, rfl, rfl, fun w _ => hc w⟩
    · intro z hz
      simp only [List.mem_cons, List.not_mem_nil, or_false] at hz
      subst hz
      exact fr_eq (a := an) (b := ad) (c := bn) (d := bd) rfl rfl (by rw [Bool.eq_iff_iff, decide_eq_true_eq, decide_eq_true_eq]; exact he.symm)
    · refine app_is (fun z hz => ?_) (app_is (fun z hz => ?_) (fun z hz => ?_))
      · have sb := sgn_in64 d1
        unfold In64 at sb hfb
        simp only [orOps, List.mem_cons, List.not_mem_nil, or_false] at hz
        rcases hz with rfl | rfl | rfl | rfl | rfl | rfl | rfl | rfl | rfl | rfl | rfl
        · exact ⟨[iv 0, iv (-sgn d1)], iv (sgn d1), rfl, rfl, tells_sub (by rw [IntKind.wrap_i64]; omega)⟩
        · exact ⟨[iv (sgn d1), iv (sgn d1)], .bool false, rfl, rfl, tells_neq (by simp)⟩
        · exact ⟨[iv (sgn d1), iv 0], .bool (decide (d1 = 0)), rfl, rfl, tells_eql (by rw [Bool.eq_iff_iff, decide_eq_true_eq, decide_eq_true_eq]; exact sgn_zero)⟩
        · exact ⟨[iv (sgn d1), iv 0], .bool (decide (d1 ≤ 0)), rfl, rfl, tells_leq (by rw [Bool.eq_iff_iff, decide_eq_true_eq, decide_eq_true_eq]; exact sgn_le)⟩
        · exact ⟨[iv (sgn d2), iv 0], .bool (decide (d2 ≤ 0)), rfl, rfl, tells_leq (by rw [Bool.eq_iff_iff, decide_eq_true_eq, decide_eq_true_eq]; exact sgn_le)⟩
        · exact ⟨[iv (sgn d3), iv 0], .bool (decide (0 < d3)), rfl, rfl, tells_gtr (by rw [Bool.eq_iff_iff, decide_eq_true_eq, decide_eq_true_eq]; exact sgn_gt)⟩
        · exact ⟨[iv S.2.2, iv 0], .bool (decide (S.2.2 = 0)), rfl, rfl, tells_eql rfl⟩
        · exact ⟨[iv T.2.2, iv 0], .bool (decide (T.2.2 = 0)), rfl, rfl, tells_eql rfl⟩
        · exact ⟨[iv (sgn d1), iv 0], .bool (!decide (d1 ≤ 0)), rfl, rfl, tells_gtr (by rw [Bool.eq_iff_iff]; simp only [decide_eq_true_eq, Bool.not_eq_true', decide_eq_false_iff_not]; have := @sgn_gt d1; omega)⟩
        · exact ⟨[iv m, iv n], .bool (decide (m = n)), rfl, rfl, tells_eql rfl⟩
        · exact ⟨[iv n, iv 1], iv (n + 1), rfl, rfl, tells_add (by rw [IntKind.wrap_i64]; omega)⟩
      · by_cases hd : d1 ≤ 0
        · rw [decide_eq_true hd] at hz
          simp only [orLess, List.mem_cons, List.not_mem_nil, or_false] at hz
          rcases hz with rfl | rfl
          · exact ⟨[iv n, iv n'], .bool true, rfl, rfl, tells_leq (decide_eq_true (hf hd))⟩
          · exact ⟨[iv m, iv m'], .bool true, rfl, rfl, tells_leq (decide_eq_true (hr hd))⟩
        · rw [decide_eq_false hd] at hz; cases hz
      · by_cases hd : m = n
        · rw [decide_eq_true hd] at hz; cases hz
        · rw [decide_eq_false hd] at hz
          simp only [orNext, List.mem_cons, List.not_mem_nil, or_false] at hz
          subst hz
          exact ⟨[iv m, iv (n + 1)], .bool true, rfl, rfl, tells_eql (decide_eq_true (by omega))⟩
end Go.Proofs.YtdjnnbjpaohaiaaDoor
