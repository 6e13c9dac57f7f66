/- Layer 4 (fraction): Floor and Round; the law. -/
import Derived.Test.YtdjnnbjpaohaiaaDoorFrG
import Derived.Test.YtdjnnbjpaohaiaaDoorFrA
namespace Go.Proofs.YtdjnnbjpaohaiaaDoor
open Go.RowKit Go.Ev
set_option maxRecDepth 100000

def floorF (n d : Int) : Int := cond (decide (n.tmod d < 0)) (n.tdiv d - 1) (n.tdiv d)
def roundF (n d : Int) : Int := cond (decide (d ≤ 2 * n.tmod d)) (n.tdiv d + 1) (cond (decide (d ≤ -2 * n.tmod d)) (n.tdiv d - 1) (n.tdiv d))
theorem q_in {n d : Int} (_ : 1 ≤ d) : (n.tdiv d).natAbs ≤ n.natAbs := by
  rw [Int.natAbs_tdiv]; exact Nat.div_le_self _ _
theorem r_in {n d : Int} (h1 : 1 ≤ d) : (n.tmod d).natAbs < d.natAbs := by rw [Int.natAbs_tmod]; exact Nat.mod_lt _ (by omega)
abbrev flSym (n d r s t u v : Int) : Tm → Sym
  | .v 0 => intSym .i64 n
  | .v 1 => intSym .i64 d
  | .v 2 => intSym .i64 r
  | .v 3 => intSym .i64 s
  | .v 4 => intSym .i64 t
  | .v 5 => intSym .i64 u
  | .v 6 => intSym .i64 v
  | _ => intSym .i64 0
/-- What a quotient is told as: a symbol where it is changed. -/
abbrev quoOp (c : Bool) (v : Int) : KOp := (.bin .quo 2, [.sy 0, .sy 1], cond c (.sy 6) (.clo (.int .i64 v)))
abbrev remOp : KOp := (.bin .rem 2, [.sy 0, .sy 1], .sy 2)
abbrev downOp (v : Int) : KOp := (.bin .sub 2, [.sy 6, .clo (.int .i64 1)], .clo (.int .i64 v))
abbrev upOp (v : Int) : KOp := (.bin .add 2, [.sy 6, .clo (.int .i64 1)], .clo (.int .i64 v))
abbrev flOps (v : Int) : Bool → List KOp
  | true => [quoOp true v, remOp, (.bin .lss 2, [.sy 2, .clo (.int .i64 0)], .clo (.bool true)), downOp v]
  | false => [quoOp false v, remOp, (.bin .lss 2, [.sy 2, .clo (.int .i64 0)], .clo (.bool false))]
abbrev twiceOps (p q : Bool) : List KOp := [(.bin .mul 2, [.clo (.int .i64 2), .sy 2], .sy 3), (.bin .mul 2, [.clo (.int .i64 (-2)), .sy 2], .sy 4), (.bin .geq 2, [.sy 3, .sy 1], .clo (.bool p)), (.bin .geq 2, [.sy 4, .sy 1], .clo (.bool q))]
abbrev roOps (v : Int) : Bool → Bool → List KOp
  | true, q => [quoOp true v, remOp, upOp v] ++ twiceOps true q
  | false, true => [quoOp true v, remOp, downOp v] ++ twiceOps false true
  | false, false => [quoOp false v, remOp] ++ twiceOps false false
abbrev va1 (b : Bool) : List KCall := [(14, [.agg [.sy 0, .sy 1]], .clo (.bool b))]
theorem evFl0 (n d r s t u v : Int) : @evalBeside (toldP 0 (flSym n d r s t u v) (va1 false) [] []) Tryd.prog 300 29 [.agg [.sy 0, .sy 1]] [] = some (.int .i64 0) := by kernel_rfl
theorem evFl1 (n d r s t u v z : Int) (p : Bool) : @evalBeside (toldP 0 (flSym n d r s t u v) (va1 true) [] (flOps z p)) Tryd.prog 300 29 [.agg [.sy 0, .sy 1]] [] = some (.int .i64 z) := by cases p <;> kernel_rfl
theorem evFl2 (n d r s t u v z : Int) (p : Bool) : @evalBeside (toldP 0 (flSym n d r s t u v) [] [] (flOps z p)) Tryd.prog 300 31 [.agg [.sy 0, .sy 1]] [] = some (.int .i64 z) := by cases p <;> kernel_rfl
theorem evRo0 (n d r s t u v : Int) : @evalBeside (toldP 0 (flSym n d r s t u v) (va1 false) [] []) Tryd.prog 300 30 [.agg [.sy 0, .sy 1]] [] = some (.int .i64 0) := by kernel_rfl
theorem evRo1 (n d r s t u v z : Int) (p q : Bool) : @evalBeside (toldP 0 (flSym n d r s t u v) (va1 true) [] (roOps z p q)) Tryd.prog 300 30 [.agg [.sy 0, .sy 1]] [] = some (.int .i64 z) := by cases p <;> cases q <;> kernel_rfl
abbrev rrOps (v : Int) (p : Bool) : List KOp := [(.bin .lss 2, [.sy 0, .clo (.int .i64 0)], .clo (.bool false)), quoOp p v, remOp, (.bin .mul 2, [.clo (.int .i64 2), .sy 2], .sy 3), (.bin .geq 2, [.sy 3, .sy 1], .clo (.bool p))] ++ cond p [upOp v] []
theorem evRr0 (n d r s t u v z : Int) (p : Bool) : @evalBeside (toldP 0 (flSym n d r s t u v) [] [] (rrOps z p)) Tryd.prog 300 32 [.agg [.sy 0, .sy 1]] [] = some (.int .i64 z) := by cases p <;> kernel_rfl
abbrev rrOps1 (z : Int) : List KOp := [(.bin .lss 2, [.sy 0, .clo (.int .i64 0)], .clo (.bool true)), (.bin .sub 2, [.clo (.int .i64 0), .sy 0], .sy 5), (.bin .sub 2, [.clo (.int .i64 0), .sy 6], .clo (.int .i64 z))]
theorem evRr1 (n d r s t u v z : Int) : @evalBeside (toldP 0 (flSym n d r s t u v) [(32, [.agg [.sy 5, .sy 1]], .sy 6)] [] (rrOps1 z)) Tryd.prog 300 32 [.agg [.sy 0, .sy 1]] [] = some (.int .i64 z) := by kernel_rfl

theorem va1_is {n d : Int} (h1 : In64 n) (h2 : In64 d) {r s t u v : Int} {b : Bool} (hb : validF n d = b) : ∀ x ∈ va1 b, CallIs Tryd.prog (flSym n d r s t u v) x := by
  subst hb
  intro x hx
  simp only [va1, List.mem_cons, List.not_mem_nil, or_false] at hx
  subst hx
  exact ⟨[.agg #[.int .i64 n, .int .i64 d]], _, rfl, rfl, fun w => valid_any n d h1.1 h1.2 h2.1 h2.2 w⟩
theorem quo_is {n d r s t u z : Int} (c : Bool) (hd : 1 ≤ d) (hn : n.natAbs < 1000000000000000000) (hz : c = false → z = n.tdiv d) : OpIs Tryd.prog (flSym n d r s t u (n.tdiv d)) (quoOp c z) := by
  have := @q_in n d hd
  have ht : Tells Tryd.prog (.bin .quo 2) [.int .i64 n, .int .i64 d] (.int .i64 (n.tdiv d)) := tells_quo (by omega) (by rw [IntKind.wrap_i64]; omega)
  cases c with
  | true => exact ⟨[.int .i64 n, .int .i64 d], .int .i64 (n.tdiv d), rfl, rfl, ht⟩
  | false => exact ⟨[.int .i64 n, .int .i64 d], .int .i64 z, rfl, rfl, by rw [hz rfl]; exact ht⟩
theorem rem_is {n d s t u v : Int} (hd : 1 ≤ d) : OpIs Tryd.prog (flSym n d (n.tmod d) s t u v) remOp := ⟨[.int .i64 n, .int .i64 d], .int .i64 (n.tmod d), rfl, rfl, tells_rem (by omega) rfl⟩
theorem down_is {n d r s t u z : Int} (hd : 1 ≤ d) (hn : n.natAbs < 1000000000000000000) (hz : z = n.tdiv d - 1) : OpIs Tryd.prog (flSym n d r s t u (n.tdiv d)) (downOp z) := by
  have := @q_in n d hd
  exact ⟨[.int .i64 (n.tdiv d), .int .i64 1], .int .i64 z, rfl, rfl, tells_sub (by rw [IntKind.wrap_i64]; omega)⟩
theorem up_is {n d r s t u z : Int} (hd : 1 ≤ d) (hn : n.natAbs < 1000000000000000000) (hz : z = n.tdiv d + 1) : OpIs Tryd.prog (flSym n d r s t u (n.tdiv d)) (upOp z) := by
  have := @q_in n d hd
  exact ⟨[.int .i64 (n.tdiv d), .int .i64 1], .int .i64 z, rfl, rfl, tells_add (by rw [IntKind.wrap_i64]; omega)⟩
theorem fl_is {n d s t u : Int} (h1 : 1 ≤ d) (hn : n.natAbs < 1000000000000000000) (p : Bool) (hp : decide (n.tmod d < 0) = p) : ∀ x ∈ flOps (floorF n d) p, OpIs Tryd.prog (flSym n d (n.tmod d) s t u (n.tdiv d)) x := by
  intro x hx
  have hf : floorF n d = cond p (n.tdiv d - 1) (n.tdiv d) := by unfold floorF; rw [hp]
  have hl : OpIs Tryd.prog (flSym n d (n.tmod d) s t u (n.tdiv d)) (.bin .lss 2, [.sy 2, .clo (.int .i64 0)], .clo (.bool p)) := ⟨[.int .i64 (n.tmod d), .int .i64 0], .bool p, rfl, rfl, tells_lss hp⟩
  cases p with
  | true =>
    simp only [flOps, List.mem_cons, List.not_mem_nil, or_false] at hx
    rcases hx with rfl | rfl | rfl | rfl
    · exact quo_is true h1 hn (fun h => by cases h)
    · exact rem_is h1
    · exact hl
    · exact down_is h1 hn hf
  | false =>
    simp only [flOps, List.mem_cons, List.not_mem_nil, or_false] at hx
    rcases hx with rfl | rfl | rfl
    · exact quo_is false h1 hn (fun _ => hf)
    · exact rem_is h1
    · exact hl
theorem twice_is {n d u v : Int} (h1 : 1 ≤ d) (h2 : d < 1000000000000000000) (p q : Bool) (hp : decide (d ≤ 2 * n.tmod d) = p) (hq : decide (d ≤ -2 * n.tmod d) = q) : ∀ x ∈ twiceOps p q, OpIs Tryd.prog (flSym n d (n.tmod d) (2 * n.tmod d) (-2 * n.tmod d) u v) x := by
  have := @r_in n d h1
  intro x hx
  simp only [twiceOps, List.mem_cons, List.not_mem_nil, or_false] at hx
  rcases hx with rfl | rfl | rfl | rfl
  · exact ⟨[.int .i64 2, .int .i64 (n.tmod d)], .int .i64 (2 * n.tmod d), rfl, rfl, tells_mul (by rw [IntKind.wrap_i64]; omega)⟩
  · exact ⟨[.int .i64 (-2), .int .i64 (n.tmod d)], .int .i64 (-2 * n.tmod d), rfl, rfl, tells_mul (by rw [IntKind.wrap_i64]; omega)⟩
  · exact ⟨[.int .i64 (2 * n.tmod d), .int .i64 d], .bool p, rfl, rfl, tells_geq hp⟩
  · exact ⟨[.int .i64 (-2 * n.tmod d), .int .i64 d], .bool q, rfl, rfl, tells_geq hq⟩
theorem ro_is {n d u : Int} (h1 : 1 ≤ d) (h2 : d < 1000000000000000000) (hn : n.natAbs < 1000000000000000000) (p q : Bool) (hp : decide (d ≤ 2 * n.tmod d) = p) (hq : decide (d ≤ -2 * n.tmod d) = q) :
    ∀ x ∈ roOps (roundF n d) p q, OpIs Tryd.prog (flSym n d (n.tmod d) (2 * n.tmod d) (-2 * n.tmod d) u (n.tdiv d)) x := by
  have hf : roundF n d = cond p (n.tdiv d + 1) (cond q (n.tdiv d - 1) (n.tdiv d)) := by unfold roundF; rw [hp, hq]
  intro x hx
  cases p with
  | true =>
    rcases List.mem_append.1 hx with hx | hx
    · simp only [List.mem_cons, List.not_mem_nil, or_false] at hx
      rcases hx with rfl | rfl | rfl
      · exact quo_is true h1 hn (fun h => by cases h)
      · exact rem_is h1
      · exact up_is h1 hn hf
    · exact twice_is h1 h2 true q hp hq x hx
  | false =>
    cases q with
    | true =>
      rcases List.mem_append.1 hx with hx | hx
      · simp only [List.mem_cons, List.not_mem_nil, or_false] at hx
        rcases hx with rfl | rfl | rfl
        · exact quo_is true h1 hn (fun h => by cases h)
        · exact rem_is h1
        · exact down_is h1 hn hf
      · exact twice_is h1 h2 false true hp hq x hx
    | false =>
      rcases List.mem_append.1 hx with hx | hx
      · simp only [List.mem_cons, List.not_mem_nil, or_false] at hx
        rcases hx with rfl | rfl
        · exact quo_is false h1 hn (fun _ => hf)
        · exact rem_is h1
      · exact twice_is h1 h2 false false hp hq x hx

theorem floor_any (n d : Int) (h1 : In64 n) (h2 : In64 d) (w : World) : Calls Tryd.prog 29 #[.agg #[.int .i64 n, .int .i64 d]] w fun e w' => e = .returned (.int .i64 (cond (validF n d) (floorF n d) 0)) ∧ Below w.heap.size w w' := by
  cases hv : validF n d with
  | false => exact calls_toldV (by kernel_rfl) (flSym n d 0 0 0 0 0) (va1 false) [] [] (va1_is h1 h2 hv) (fun _ h => by cases h) (fun _ h => by cases h) (args := [.agg [.sy 0, .sy 1]]) (xs := [.agg #[.int .i64 n, .int .i64 d]]) rfl (evFl0 _ _ _ _ _ _ _) w
  | true =>
    obtain ⟨g1, g2, g3, _⟩ := validF_t hv
    exact calls_toldV (by kernel_rfl) (flSym n d (n.tmod d) 0 0 0 (n.tdiv d)) (va1 true) [] (flOps (floorF n d) _) (va1_is h1 h2 hv) (fun _ h => by cases h) (fl_is g1 g3 _ rfl) (args := [.agg [.sy 0, .sy 1]]) (xs := [.agg #[.int .i64 n, .int .i64 d]]) rfl (evFl1 _ _ _ _ _ _ _ _ _) w
theorem rFloor_any (n d : Int) (hv : validF n d = true) (w : World) : Calls Tryd.prog 31 #[.agg #[.int .i64 n, .int .i64 d]] w fun e w' => e = .returned (.int .i64 (floorF n d)) ∧ Below w.heap.size w w' := by
  obtain ⟨g1, g2, g3, _⟩ := validF_t hv
  exact calls_toldV (by kernel_rfl) (flSym n d (n.tmod d) 0 0 0 (n.tdiv d)) [] [] (flOps (floorF n d) _) (fun _ h => by cases h) (fun _ h => by cases h) (fl_is g1 g3 _ rfl) (args := [.agg [.sy 0, .sy 1]]) (xs := [.agg #[.int .i64 n, .int .i64 d]]) rfl (evFl2 _ _ _ _ _ _ _ _ _) w
theorem round_any (n d : Int) (h1 : In64 n) (h2 : In64 d) (w : World) : Calls Tryd.prog 30 #[.agg #[.int .i64 n, .int .i64 d]] w fun e w' => e = .returned (.int .i64 (cond (validF n d) (roundF n d) 0)) ∧ Below w.heap.size w w' := by
  cases hv : validF n d with
  | false => exact calls_toldV (by kernel_rfl) (flSym n d 0 0 0 0 0) (va1 false) [] [] (va1_is h1 h2 hv) (fun _ h => by cases h) (fun _ h => by cases h) (args := [.agg [.sy 0, .sy 1]]) (xs := [.agg #[.int .i64 n, .int .i64 d]]) rfl (evRo0 _ _ _ _ _ _ _) w
  | true =>
    obtain ⟨g1, g2, g3, _⟩ := validF_t hv
    exact calls_toldV (by kernel_rfl) (flSym n d (n.tmod d) (2 * n.tmod d) (-2 * n.tmod d) 0 (n.tdiv d)) (va1 true) [] (roOps (roundF n d) _ _) (va1_is h1 h2 hv) (fun _ h => by cases h) (ro_is g1 g2 g3 _ _ rfl rfl) (args := [.agg [.sy 0, .sy 1]]) (xs := [.agg #[.int .i64 n, .int .i64 d]]) rfl (evRo1 _ _ _ _ _ _ _ _ _ _) w
def roundP (n d : Int) : Int := cond (decide (d ≤ 2 * n.tmod d)) (n.tdiv d + 1) (n.tdiv d)
theorem rRound_pos (n d : Int) (g0 : 0 ≤ n) (g1 : 1 ≤ d) (g2 : d < 1000000000000000000) (g3 : n.natAbs < 1000000000000000000) (w : World) : Calls Tryd.prog 32 #[.agg #[.int .i64 n, .int .i64 d]] w fun e w' => e = .returned (.int .i64 (roundP n d)) ∧ Below w.heap.size w w' := by
  refine calls_toldV (by kernel_rfl) (flSym n d (n.tmod d) (2 * n.tmod d) (-2 * n.tmod d) 0 (n.tdiv d)) [] [] (rrOps (roundP n d) (decide (d ≤ 2 * n.tmod d))) (fun _ h => by cases h) (fun _ h => by cases h) ?_ (args := [.agg [.sy 0, .sy 1]]) (xs := [.agg #[.int .i64 n, .int .i64 d]]) rfl (evRr0 _ _ _ _ _ _ _ _ _) w
  generalize hp : decide (d ≤ 2 * n.tmod d) = p
  have hf : roundP n d = cond p (n.tdiv d + 1) (n.tdiv d) := by unfold roundP; rw [hp]
  have := @r_in n d g1
  intro x hx
  rcases List.mem_append.1 hx with hx | hx
  · simp only [List.mem_cons, List.not_mem_nil, or_false] at hx
    rcases hx with rfl | rfl | rfl | rfl | rfl
    · exact ⟨[.int .i64 n, .int .i64 0], .bool false, rfl, rfl, tells_lss (by rw [decide_eq_false_iff_not]; omega)⟩
    · exact quo_is p g1 g3 (fun h => by rw [hf, h]; rfl)
    · exact rem_is g1
    · exact ⟨[.int .i64 2, .int .i64 (n.tmod d)], .int .i64 (2 * n.tmod d), rfl, rfl, tells_mul (by rw [IntKind.wrap_i64]; omega)⟩
    · exact ⟨[.int .i64 (2 * n.tmod d), .int .i64 d], .bool p, rfl, rfl, tells_geq hp⟩
  · cases p with
    | false => cases hx
    | true =>
      simp only [cond_true, List.mem_cons, List.not_mem_nil, or_false] at hx
      subst hx
      exact up_is g1 g3 hf
theorem rRound_any (n d : Int) (hv : validF n d = true) (w : World) : Calls Tryd.prog 32 #[.agg #[.int .i64 n, .int .i64 d]] w fun e w' => e = .returned (.int .i64 (roundF n d)) ∧ Below w.heap.size w w' := by
  obtain ⟨g1, g2, g3, _⟩ := validF_t hv
  have hq := @q_in n d g1
  have hr := @r_in n d g1
  by_cases hn : n < 0
  · have e1 : (-n).tmod d = -(n.tmod d) := Int.neg_tmod n d
    have e2 : (-n).tdiv d = -(n.tdiv d) := Int.neg_tdiv n d
    have hneg : n.tmod d ≤ 0 := by
      have := Int.tmod_nonneg d (show 0 ≤ -n by omega)
      rw [e1] at this; omega
    have he : roundF n d = - roundP (-n) d := by
      unfold roundF roundP
      rw [e1, e2, decide_eq_false (show ¬ d ≤ 2 * n.tmod d by omega), show (2 * -(n.tmod d)) = -2 * n.tmod d by omega, cond_false]
      cases decide (d ≤ -2 * n.tmod d) <;> simp only [cond_true, cond_false] <;> omega
    have hb : (roundP (-n) d).natAbs ≤ n.natAbs + 1 := by
      unfold roundP; rw [e2]
      cases decide (d ≤ 2 * (-n).tmod d) <;> simp only [cond_true, cond_false] <;> omega
    rw [he]
    refine calls_toldV (by kernel_rfl) (flSym n d 0 0 0 (-n) (roundP (-n) d)) [(32, [.agg [.sy 5, .sy 1]], .sy 6)] [] (rrOps1 (-roundP (-n) d)) ?_ (fun _ h => by cases h) ?_ (args := [.agg [.sy 0, .sy 1]]) (xs := [.agg #[.int .i64 n, .int .i64 d]]) rfl (evRr1 _ _ _ _ _ _ _ _) w
    · intro x hx
      simp only [List.mem_cons, List.not_mem_nil, or_false] at hx
      subst hx
      exact ⟨[.agg #[.int .i64 (-n), .int .i64 d]], _, rfl, rfl, fun w => rRound_pos (-n) d (by omega) g1 g2 (by omega) w⟩
    · intro x hx
      simp only [rrOps1, List.mem_cons, List.not_mem_nil, or_false] at hx
      rcases hx with rfl | rfl | rfl
      · exact ⟨[.int .i64 n, .int .i64 0], .bool true, rfl, rfl, tells_lss (by rw [decide_eq_true_eq]; omega)⟩
      · exact ⟨[.int .i64 0, .int .i64 n], .int .i64 (-n), rfl, rfl, tells_sub (by rw [IntKind.wrap_i64]; omega)⟩
      · exact ⟨[.int .i64 0, .int .i64 (roundP (-n) d)], .int .i64 (-roundP (-n) d), rfl, rfl, tells_sub (by rw [IntKind.wrap_i64]; omega)⟩
  · have hpos : 0 ≤ n.tmod d := Int.tmod_nonneg d (by omega)
    have he : roundF n d = roundP n d := by
      unfold roundF roundP
      rw [decide_eq_false (show ¬ d ≤ -2 * n.tmod d by omega), cond_false]
    rw [he]
    exact rRound_pos n d (by omega) g1 g2 g3 w
end Go.Proofs.YtdjnnbjpaohaiaaDoor
