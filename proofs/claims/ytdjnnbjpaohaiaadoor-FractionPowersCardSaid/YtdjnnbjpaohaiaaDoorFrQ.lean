/- Layer 4 (fraction): the law FractionPowers. -/
import Derived.Test.YtdjnnbjpaohaiaaDoorFrP
namespace Go.Proofs.YtdjnnbjpaohaiaaDoor
open Go.RowKit Go.Ev
set_option maxRecDepth 100000

abbrev fpSym (an ad n x y e : Int) : Tm → Sym
  | .v 0 => intSym .i64 an
  | .v 1 => intSym .i64 ad
  | .v 2 => intSym .i64 n
  | .v 20 => intSym .i64 x
  | .v 21 => intSym .i64 y
  | .v 22 => intSym .i64 e
  | _ => intSym .i64 0
abbrev fpBad (p q : Bool) : List KOp := [(.bin .lss 3, [.sy 2, .clo (iv 0)], .clo (.bool p)), (.bin .gtr 3, [.sy 2, .clo (iv 64)], .clo (.bool q))]
theorem fpBad_is {an ad n x y e : Int} {p q : Bool} (hp : decide (n < 0) = p) (hq : decide (64 < n) = q) : ∀ z ∈ fpBad p q, OpIs Tryd.prog (fpSym an ad n x y e) z := by
  intro z hz
  simp only [fpBad, List.mem_cons, List.not_mem_nil, or_false] at hz
  rcases hz with rfl | rfl
  · exact ⟨[iv n, iv 0], .bool p, rfl, rfl, tells_lss hp⟩
  · exact ⟨[iv n, iv 64], .bool q, rfl, rfl, tells_gtr hq⟩
theorem pPower_bad (an ad n : Int) (h1 : In64 an) (h2 : In64 ad) (p q : Bool) (hp : decide (n < 0) = p) (hq : decide (64 < n) = q) (hb : (validF an ad && !p && !q) = false) (w : World) :
    Calls Tryd.prog 25 #[frV an ad, iv n] w fun e w' => e = .returned (tripV (0, 0, 1)) ∧ Below w.heap.size w w' := by
  have hv := fun w => valid_any an ad h1.1 h1.2 h2.1 h2.2 w
  generalize validF an ad = v at *
  refine calls_toldS (by kernel_rfl) (fpSym an ad n 0 0 0) [(14, [.agg [.sy 0, .sy 1]], .clo (.bool v))] (fpBad p q) ?_ (fpBad_is hp hq) (n := 300) (args := [.agg [.sy 0, .sy 1], .sy 2]) (xs := [frV an ad, iv n]) rfl (errC 1) ?_ rfl w
  · intro z hz
    simp only [List.mem_cons, List.not_mem_nil, or_false] at hz
    subst hz
    exact ⟨[frV an ad], .bool v, rfl, rfl, hv⟩
  · clear hp hq hv
    cases v <;> cases p <;> cases q <;> first | (cases hb; done) | kernel_rfl

abbrev fpCalls0 (v : Bool) : List KCall := [(13, [], .clo (.bool true)), (15, [.agg [.sy 0, .sy 1]], .clo (.bool v))]
abbrev fpCalls1 : List KCall := [(25, [.agg [.sy 0, .sy 1], .sy 2], errC 1)]
abbrev fpCalls2 : List KCall := [(25, [.agg [.sy 0, .sy 1], .sy 2], neRes), (26, [.agg [.sy 0, .sy 1], .sy 2], neRes)]
abbrev fpSame : List KOp := [(.bin .eql 24, [.sy 22, .sy 22], .clo (.bool true))]
theorem evFp1 (an ad n x y e : Int) (v p q : Bool) (hb : (v && !p && !q) = false) : @evalBeside (toldK 0 (fpSym an ad n x y e) (fpCalls0 v ++ fpCalls1) [] (fpBad p q) HasPow (gPow + 1) pow_kst) Tryd.prog 300 5 [.agg [.sy 0, .sy 1], .sy 2] [] = some (.bool true) := by
  cases v <;> cases p <;> cases q <;> first | (cases hb; done) | kernel_rfl
theorem evFp2 (an ad n x y e : Int) : @evalBeside (toldK 0 (fpSym an ad n x y e) (fpCalls0 true ++ fpCalls2) fnEqs (fpBad false false ++ fpSame) HasPow (gPow + 1) pow_kst) Tryd.prog 300 5 [.agg [.sy 0, .sy 1], .sy 2] [] = some (.bool true) := by
  kernel_rfl

theorem powers_any (an ad n : Int) (h1 : In64 an) (h2 : In64 ad) (h3 : In64 n) (w : World) (hT : HasPow w) :
    Calls Tryd.prog 5 #[frV an ad, iv n] w fun e w' => e = .returned (.bool true) ∧ Below w.heap.size w w' := by
  have hrv := fun w => rValid_any an ad h1.1 h1.2 h2.1 h2.2 w
  have hbad := pPower_bad an ad n h1 h2 _ _ rfl rfl
  cases hb : (validF an ad && !decide (n < 0) && !decide (64 < n)) with
  | false =>
    have hbad := hbad hb
    refine calls_toldK (by kernel_rfl) 0 (fpSym an ad n 0 0 0) (fpCalls0 (validF an ad) ++ fpCalls1) [] (fpBad (decide (n < 0)) (decide (64 < n))) HasPow (gPow + 1) pow_kst ?_ (fun _ h => by cases h) (fpBad_is rfl rfl)
      (args := [.agg [.sy 0, .sy 1], .sy 2]) (xs := [frV an ad, iv n]) rfl [] (evFp1 _ _ _ _ _ _ _ _ _ hb) w hT hT.lt' (fun i b h => by simp [look_nil] at h)
    intro z hz
    simp only [fpCalls0, fpCalls1, List.cons_append, List.nil_append, List.mem_cons, List.not_mem_nil, or_false] at hz
    rcases hz with rfl | rfl | rfl
    · exact ⟨[], .bool true, rfl, rfl, fun w hw => awake_any w hw⟩
    · exact ⟨[frV an ad], .bool (validF an ad), rfl, rfl, fun w _ => hrv w⟩
    · exact ⟨[frV an ad, iv n], tripV (0, 0, 1), rfl, rfl, fun w _ => hbad w⟩
  | true =>
    simp only [Bool.and_eq_true, Bool.not_eq_true', decide_eq_false_iff_not] at hb
    obtain ⟨⟨hv, hn0⟩, hn1⟩ := hb
    obtain ⟨N, rfl⟩ := Int.eq_ofNat_of_zero_le (show 0 ≤ n by omega)
    have hp := fun w => pPower_go an ad N (by omega) hv w
    have hr := fun w => rPower_any an ad N (by omega) hv w
    rw [hv] at hrv
    generalize powX an ad N = X at *
    obtain ⟨x, y, e⟩ := X
    refine calls_toldK (by kernel_rfl) 0 (fpSym an ad N x y e) (fpCalls0 true ++ fpCalls2) fnEqs (fpBad false false ++ fpSame) HasPow (gPow + 1) pow_kst ?_ ?_ ?_
      (args := [.agg [.sy 0, .sy 1], .sy 2]) (xs := [frV an ad, iv N]) rfl [] (evFp2 _ _ _ _ _ _) w hT hT.lt' (fun i b h => by simp [look_nil] at h)
    · intro z hz
      simp only [fpCalls0, fpCalls2, List.cons_append, List.nil_append, List.mem_cons, List.not_mem_nil, or_false] at hz
      rcases hz with rfl | rfl | rfl | rfl
      · exact ⟨[], .bool true, rfl, rfl, fun w hw => awake_any w hw⟩
      · exact ⟨[frV an ad], .bool true, rfl, rfl, fun w _ => hrv w⟩
      · exact ⟨[frV an ad, iv N], .tuple #[frV x y, iv e], rfl, rfl, fun w _ => hp w⟩
      · exact ⟨[frV an ad, iv N], .tuple #[frV x y, iv e], rfl, rfl, fun w _ => hr w⟩
    · intro z hz
      simp only [fnEqs, List.mem_cons, List.not_mem_nil, or_false] at hz
      subst hz
      exact fr_eq (a := x) (b := y) (c := x) (d := y) rfl rfl (by simp)
    · intro z hz
      rcases List.mem_append.1 hz with hz | hz
      · exact fpBad_is (decide_eq_false hn0) (decide_eq_false hn1) z hz
      · simp only [fpSame, List.mem_cons, List.not_mem_nil, or_false] at hz
        subst hz
        exact ⟨[iv e, iv e], .bool true, rfl, rfl, tells_eql (by simp)⟩
end Go.Proofs.YtdjnnbjpaohaiaaDoor
