/- Layer 4 (fraction): comparisons. -/
import Derived.Test.YtdjnnbjpaohaiaaDoorFrD
namespace Go.Proofs.YtdjnnbjpaohaiaaDoor
open Go.RowKit Go.Ev
set_option maxRecDepth 100000

abbrev cmSym (an ad bn bd m x y : Int) : Tm → Sym
  | .v 0 => intSym .i64 an
  | .v 1 => intSym .i64 ad
  | .v 2 => intSym .i64 bn
  | .v 3 => intSym .i64 bd
  | .v 4 => intSym .i64 m
  | .v 10 => intSym .u64 (hiW x)
  | .v 11 => intSym .u64 (loW x)
  | .v 12 => intSym .u64 (hiW y)
  | .v 13 => intSym .u64 (loW y)
  | .v 14 => intSym .u64 (hiW (x + y))
  | .v 15 => intSym .u64 (loW (x + y))
  | _ => intSym .i64 0
abbrev cmCalls0 (p q : Bool) : List KCall :=
  [(14, [.agg [.sy 0, .sy 1]], .clo (.bool p)), (14, [.agg [.sy 2, .sy 3]], .clo (.bool q))]
abbrev cmCalls1 (r : Int) : List KCall :=
  [(47, [.sy 0, .sy 3], .agg [.sy 10, .sy 11]), (47, [.sy 4, .sy 1], .agg [.sy 12, .sy 13]),
   (48, [.agg [.sy 10, .sy 11], .agg [.sy 12, .sy 13]], .agg [.sy 14, .sy 15]), (49, [.agg [.sy 14, .sy 15]], .clo (.int .i64 r))]
theorem evCm0 (an ad bn bd m x y : Int) (q : Bool) : @evalBeside (toldP 0 (cmSym an ad bn bd m x y) (cmCalls0 false q) [] []) Tryd.prog 300 27 [.agg [.sy 0, .sy 1], .agg [.sy 2, .sy 3]] [] = some (.int .i64 0) := by kernel_rfl
theorem evCm1 (an ad bn bd m x y : Int) : @evalBeside (toldP 0 (cmSym an ad bn bd m x y) (cmCalls0 true false) [] []) Tryd.prog 300 27 [.agg [.sy 0, .sy 1], .agg [.sy 2, .sy 3]] [] = some (.int .i64 0) := by kernel_rfl
theorem evCm2 (an ad bn bd m x y r : Int) : @evalBeside (toldP 0 (cmSym an ad bn bd m x y) (cmCalls0 true true ++ cmCalls1 r) [] [(.un .neg, [.sy 2], .sy 4)]) Tryd.prog 300 27 [.agg [.sy 0, .sy 1], .agg [.sy 2, .sy 3]] [] = some (.int .i64 r) := by kernel_rfl

def In64 (n : Int) : Prop := -9223372036854775808 ≤ n ∧ n ≤ 9223372036854775807
theorem validF_t {n d : Int} (h : validF n d = true) : 1 ≤ d ∧ d < 1000000000000000000 ∧ n.natAbs < 1000000000000000000 ∧ Nat.gcd n.natAbs d.natAbs = 1 := of_decide_eq_true h
theorem mul_small {a b : Int} (ha : a.natAbs < 1000000000000000000) (hb : b.natAbs < 1000000000000000000) : -1000000000000000000000000000000000000 ≤ a * b ∧ a * b ≤ 1000000000000000000000000000000000000 := by
  have h : (a * b).natAbs ≤ 1000000000000000000000000000000000000 := by
    rw [Int.natAbs_mul]
    exact Nat.mul_le_mul (Nat.le_of_lt ha) (Nat.le_of_lt hb)
  omega
theorem cmp_any (an ad bn bd : Int) (h1 : In64 an) (h2 : In64 ad) (h3 : In64 bn) (h4 : In64 bd) (w : World) :
    Calls Tryd.prog 27 #[.agg #[.int .i64 an, .int .i64 ad], .agg #[.int .i64 bn, .int .i64 bd]] w fun e w' =>
      e = .returned (.int .i64 (if validF an ad = true ∧ validF bn bd = true then sgn (an * bd - bn * ad) else 0)) ∧ Below w.heap.size w w' := by
  have hx : @denL (told (cmSym an ad bn bd (-bn) (an * bd) (-bn * ad)) [] []) (fun _ => none) [.agg [.sy 0, .sy 1], .agg [.sy 2, .sy 3]] = some [.agg #[.int .i64 an, .int .i64 ad], .agg #[.int .i64 bn, .int .i64 bd]] := rfl
  have hva : ∀ p q, validF an ad = p → validF bn bd = q → ∀ r ∈ cmCalls0 p q, CallIs Tryd.prog (cmSym an ad bn bd (-bn) (an * bd) (-bn * ad)) r := by
    rintro p q rfl rfl r hr
    simp only [cmCalls0, List.mem_cons, List.not_mem_nil, or_false] at hr
    rcases hr with rfl | rfl
    · exact ⟨[.agg #[.int .i64 an, .int .i64 ad]], _, rfl, rfl, fun w => valid_any an ad h1.1 h1.2 h2.1 h2.2 w⟩
    · exact ⟨[.agg #[.int .i64 bn, .int .i64 bd]], _, rfl, rfl, fun w => valid_any bn bd h3.1 h3.2 h4.1 h4.2 w⟩
  cases ha : validF an ad with
  | false =>
    rw [if_neg (by simp)]
    exact calls_toldV (by kernel_rfl) _ (cmCalls0 false (validF bn bd)) [] [] (hva _ _ ha rfl) (fun _ h => by cases h) (fun _ h => by cases h) hx (evCm0 _ _ _ _ _ _ _ _) w
  | true =>
  cases hb : validF bn bd with
  | false =>
    rw [if_neg (by simp)]
    exact calls_toldV (by kernel_rfl) _ (cmCalls0 true false) [] [] (hva _ _ ha hb) (fun _ h => by cases h) (fun _ h => by cases h) hx (evCm1 _ _ _ _ _ _ _) w
  | true =>
    obtain ⟨a1, a2, a3, _⟩ := validF_t ha
    obtain ⟨b1, b2, b3, _⟩ := validF_t hb
    have m1 := mul_small (a := an) (b := bd) a3 (by omega)
    have m2 := mul_small (a := -bn) (b := ad) (by omega) (by omega)
    rw [if_pos ⟨rfl, rfl⟩, show an * bd - bn * ad = an * bd + -bn * ad by rw [Int.neg_mul]; omega]
    refine calls_toldV (by kernel_rfl) _ (cmCalls0 true true ++ cmCalls1 (sgn (an * bd + -bn * ad))) [] [(.un .neg, [.sy 2], .sy 4)] ?_ (fun _ h => by cases h) ?_ hx (evCm2 _ _ _ _ _ _ _ _) w
    · intro r hr
      rcases List.mem_append.1 hr with hr | hr
      · exact hva _ _ ha hb r hr
      · simp only [cmCalls1, List.mem_cons, List.not_mem_nil, or_false] at hr
        rcases hr with rfl | rfl | rfl | rfl
        · exact ⟨[.int .i64 an, .int .i64 bd], _, rfl, rfl, fun w => product_any an bd h1.1 h1.2 h4.1 h4.2 w⟩
        · exact ⟨[.int .i64 (-bn), .int .i64 ad], _, rfl, rfl, fun w => product_any (-bn) ad (by omega) (by omega) h2.1 h2.2 w⟩
        · exact ⟨[wideV (an * bd), wideV (-bn * ad)], _, rfl, rfl, fun w => plus_any (an * bd) (-bn * ad) w⟩
        · exact ⟨[wideV (an * bd + -bn * ad)], _, rfl, rfl, fun w => sign_any (an * bd + -bn * ad) (by omega) (by omega) w⟩
    · intro r hr
      simp only [List.mem_cons, List.not_mem_nil, or_false] at hr
      subst hr
      exact ⟨[.int .i64 bn], .int .i64 (-bn), rfl, rfl, tells_neg (by rw [IntKind.wrap_i64]; omega)⟩
end Go.Proofs.YtdjnnbjpaohaiaaDoor
