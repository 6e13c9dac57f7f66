/- Layer 4 (fraction): comparisons of the reference. -/
import Derived.Test.YtdjnnbjpaohaiaaDoorFrF
namespace Go.Proofs.YtdjnnbjpaohaiaaDoor
open Go.RowKit Go.Ev
set_option maxRecDepth 100000

abbrev zeSym (x : Int) : Tm → Sym
  | .v 0 => intSym .u64 (hiW x)
  | .v 1 => intSym .u64 (loW x)
  | _ => intSym .i64 0
abbrev zeOps (p q : Bool) : List KOp := [(.bin .eql 45, [.sy 0, .clo (.int .u64 0)], .clo (.bool p)), (.bin .eql 45, [.sy 1, .clo (.int .u64 0)], .clo (.bool q))]
theorem evZe (x : Int) (u p q : Bool) : @evalBeside (toldP 0 (zeSym x) [] [] (zeOps p q)) Tryd.prog 300 58 [.agg [.sy 0, .sy 1, .clo (.bool u)]] [] = some (.bool (p && q)) := by
  cases p <;> cases q <;> kernel_rfl
theorem rZero_any (x : Int) (u : Bool) (x0 : 0 ≤ x) (x1 : x < 340282366920938463463374607431768211456) (w : World) :
    Calls Tryd.prog 58 #[wide3 x u] w fun e w' => e = .returned (.bool (decide (x = 0))) ∧ Below w.heap.size w w' := by
  have hr : decide (x = 0) = (decide (hiW x = 0) && decide (loW x = 0)) := by
    have ex : hiW x * 18446744073709551616 + loW x = x := by unfold hiW loW; omega
    have lx := loW_in x
    rw [Bool.eq_iff_iff]
    simp only [Bool.and_eq_true, decide_eq_true_eq]
    constructor
    · intro h; subst h; exact ⟨by decide, by decide⟩
    · rintro ⟨h1, h2⟩; omega
  rw [hr]
  refine calls_toldV (by kernel_rfl) (zeSym x) [] [] (zeOps _ _) (fun _ h => by cases h) (fun _ h => by cases h) ?_ (args := [.agg [.sy 0, .sy 1, .clo (.bool u)]]) (xs := [wide3 x u]) rfl (evZe _ _ _ _) w
  intro r hr
  simp only [zeOps, List.mem_cons, List.not_mem_nil, or_false] at hr
  rcases hr with rfl | rfl
  · exact ⟨[.int .u64 (hiW x), .int .u64 0], .bool (decide (hiW x = 0)), rfl, rfl, tells_eql rfl⟩
  · exact ⟨[.int .u64 (loW x), .int .u64 0], .bool (decide (loW x = 0)), rfl, rfl, tells_eql rfl⟩

abbrev rcSym (an ad bn bd x y m : Int) : Tm → Sym
  | .v 0 => intSym .i64 an
  | .v 1 => intSym .i64 ad
  | .v 2 => intSym .i64 bn
  | .v 3 => intSym .i64 bd
  | .v 10 => intSym .u64 (hiW x)
  | .v 11 => intSym .u64 (loW x)
  | .v 12 => intSym .u64 (hiW y)
  | .v 13 => intSym .u64 (loW y)
  | .v 14 => intSym .u64 (hiW m)
  | .v 15 => intSym .u64 (loW m)
  | _ => intSym .i64 0
abbrev rcCalls (p q t z : Bool) : List KCall :=
  [(56, [.sy 0, .sy 3], .agg [.sy 10, .sy 11, .clo (.bool p)]), (56, [.sy 2, .sy 1], .agg [.sy 12, .sy 13, .clo (.bool q)]),
   (57, [.agg [.sy 12, .sy 13, .clo (.bool q)]], .agg [.sy 12, .sy 13, .clo (.bool (!q))]),
   (55, [.agg [.sy 10, .sy 11, .clo (.bool p)], .agg [.sy 12, .sy 13, .clo (.bool (!q))]], .agg [.sy 14, .sy 15, .clo (.bool t)]),
   (58, [.agg [.sy 14, .sy 15, .clo (.bool t)]], .clo (.bool z))]
theorem evRc (an ad bn bd x y m : Int) (p q t z : Bool) : @evalBeside (toldP 0 (rcSym an ad bn bd x y m) (rcCalls p q t z) [] []) Tryd.prog 300 28 [.agg [.sy 0, .sy 1], .agg [.sy 2, .sy 3]] [] = some (.int .i64 (cond z 0 (cond t (-1) 1))) := by
  cases p <;> cases q <;> cases t <;> cases z <;> kernel_rfl

theorem rCmp_go (an ad bn bd : Int) (h1 : In64 an) (h2 : In64 ad) (h3 : In64 bn) (h4 : In64 bd) (p q t : Bool) (m : Int) (hp : p = (decide (an < 0) != decide (bd < 0))) (hq : q = (decide (bn < 0) != decide (ad < 0)))
    (m0 : 0 ≤ m) (m1 : m < 340282366920938463463374607431768211456)
    (hm : ∀ w, Calls Tryd.prog 55 #[wide3 ((an.natAbs : Int) * (bd.natAbs : Int)) p, wide3 ((bn.natAbs : Int) * (ad.natAbs : Int)) (!q)] w fun e w' => e = .returned (wide3 m t) ∧ Below w.heap.size w w') (w : World) :
    Calls Tryd.prog 28 #[.agg #[.int .i64 an, .int .i64 ad], .agg #[.int .i64 bn, .int .i64 bd]] w fun e w' =>
      e = .returned (.int .i64 (cond (decide (m = 0)) 0 (cond t (-1) 1))) ∧ Below w.heap.size w w' := by
  refine calls_toldV (by kernel_rfl) (rcSym an ad bn bd ((an.natAbs : Int) * (bd.natAbs : Int)) ((bn.natAbs : Int) * (ad.natAbs : Int)) m) (rcCalls p q t (decide (m = 0))) [] [] ?_ (fun _ h => by cases h) (fun _ h => by cases h)
    (args := [.agg [.sy 0, .sy 1], .agg [.sy 2, .sy 3]]) (xs := [.agg #[.int .i64 an, .int .i64 ad], .agg #[.int .i64 bn, .int .i64 bd]]) rfl (evRc _ _ _ _ _ _ _ _ _ _ _) w
  intro r hr
  simp only [rcCalls, List.mem_cons, List.not_mem_nil, or_false] at hr
  rcases hr with rfl | rfl | rfl | rfl | rfl
  · exact ⟨[.int .i64 an, .int .i64 bd], _, rfl, rfl, fun w => rTimes_any an bd h1 h4 p hp w⟩
  · exact ⟨[.int .i64 bn, .int .i64 ad], _, rfl, rfl, fun w => rTimes_any bn ad h3 h2 q hq w⟩
  · exact ⟨[wide3 ((bn.natAbs : Int) * (ad.natAbs : Int)) q], _, rfl, rfl, fun w => rMinus_any _ q w⟩
  · exact ⟨[wide3 ((an.natAbs : Int) * (bd.natAbs : Int)) p, wide3 ((bn.natAbs : Int) * (ad.natAbs : Int)) (!q)], _, rfl, rfl, fun w => hm w⟩
  · exact ⟨[wide3 m t], _, rfl, rfl, fun w => rZero_any m t m0 m1 w⟩

theorem sgn_of {z m : Int} {t : Bool} (m0 : 0 ≤ m) (h : z = cond t (-m) m) : cond (decide (m = 0)) 0 (cond t (-1) 1) = sgn z := by
  unfold sgn
  by_cases hm : m = 0
  · subst hm; subst h
    cases t <;> rfl
  · rw [decide_eq_false hm]
    subst h
    cases t with
    | true => simp only [cond_true, cond_false]; rw [if_pos (by omega)]
    | false => simp only [cond_false]; rw [if_neg (by omega), if_neg hm]
theorem natMul_nonneg (a b : Int) : (0 : Int) ≤ (a.natAbs : Int) * (b.natAbs : Int) := by rw [← Int.natCast_mul]; omega
theorem sign_mul (a b : Int) (p : Bool) (hp : p = (decide (a < 0) != decide (b < 0))) : a * b = cond p (-((a.natAbs : Int) * (b.natAbs : Int))) ((a.natAbs : Int) * (b.natAbs : Int)) := by
  subst hp
  by_cases ha : a < 0 <;> by_cases hb : b < 0
  · rw [decide_eq_true ha, decide_eq_true hb]; exact (nat_mul a b (by simp [ha, hb])).symm
  · rw [decide_eq_true ha, decide_eq_false hb]; exact (nat_mul_neg a b (by simp [ha, hb])).symm
  · rw [decide_eq_false ha, decide_eq_true hb]; exact (nat_mul_neg a b (by simp [ha, hb])).symm
  · rw [decide_eq_false ha, decide_eq_false hb]; exact (nat_mul a b (by simp [ha, hb])).symm
theorem rCmp_any (an ad bn bd : Int) (h1 : In64 an) (h2 : In64 ad) (h3 : In64 bn) (h4 : In64 bd) (ha : validF an ad = true) (hb : validF bn bd = true) (w : World) :
    Calls Tryd.prog 28 #[.agg #[.int .i64 an, .int .i64 ad], .agg #[.int .i64 bn, .int .i64 bd]] w fun e w' =>
      e = .returned (.int .i64 (sgn (an * bd - bn * ad))) ∧ Below w.heap.size w w' := by
  obtain ⟨a1, a2, a3, _⟩ := validF_t ha
  obtain ⟨b1, b2, b3, _⟩ := validF_t hb
  have x0 := natMul_nonneg an bd
  have y0 := natMul_nonneg bn ad
  have mx := mul_small (a := (an.natAbs : Int)) (b := (bd.natAbs : Int)) (by omega) (by omega)
  have my := mul_small (a := (bn.natAbs : Int)) (b := (ad.natAbs : Int)) (by omega) (by omega)
  have sx := sign_mul an bd _ rfl
  have sy := sign_mul bn ad _ rfl
  generalize hp : (decide (an < 0) != decide (bd < 0)) = p at sx
  generalize hq : (decide (bn < 0) != decide (ad < 0)) = q at sy
  have go := fun t m => rCmp_go an ad bn bd h1 h2 h3 h4 p q t m hp.symm hq.symm
  rw [sx, sy]
  generalize (an.natAbs : Int) * (bd.natAbs : Int) = x at *
  generalize (bn.natAbs : Int) * (ad.natAbs : Int) = y at *
  by_cases hpq : p = !q
  · have := go p (x + y) (by omega) (by omega) (fun w => by rw [hpq]; exact rPlus_same x y (!q) w) w
    rw [sgn_of (z := cond p (-x) x - cond q (-y) y) (by omega) (by subst hpq; cases q <;> simp <;> omega)] at this
    exact this
  · have hpq' : p = !(!q) := by cases p <;> cases q <;> simp_all
    by_cases hxy : x < y
    · have := go (!q) (y - x) (by omega) (by omega) (fun w => rPlus_more x y p (!q) hpq' hxy x0 (by omega) y0 (by omega) w) w
      rw [sgn_of (z := cond p (-x) x - cond q (-y) y) (by omega) (by subst hpq'; cases q <;> simp <;> omega)] at this
      exact this
    · have := go p (x - y) (by omega) (by omega) (fun w => rPlus_less x y p (!q) hpq' hxy x0 (by omega) y0 (by omega) w) w
      rw [sgn_of (z := cond p (-x) x - cond q (-y) y) (by omega) (by subst hpq'; cases q <;> simp <;> omega)] at this
      exact this
end Go.Proofs.YtdjnnbjpaohaiaaDoor
