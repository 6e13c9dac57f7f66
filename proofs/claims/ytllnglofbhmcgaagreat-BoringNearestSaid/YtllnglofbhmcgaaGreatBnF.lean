/- Layer 14 (boring): the law BoringNearest. -/
import Derived.Test.YtllnglofbhmcgaaGreatBnE
namespace Go.Proofs.YtllnglofbhmcgaaGreat
open Go.RowKit Go.Ev
set_option maxRecDepth 100000
abbrev lnSym (px py : Int) (a : Option Addr) (n c : Nat) (r e : Int) : Tm → Sym
  | .v 70 => intSym .i64 r
  | .v 71 => intSym .i64 e
  | x => bnSym b0 b0 px py a ⟨0, 0, none⟩ n c 0 0 x
abbrev lnC : List KCall := [(6, [], .clo (.bool true)), (21, [.sy 20, .agg [.sy 10, .sy 11]], .tup [.sy 70, .sy 71]), (22, [.sy 20, .agg [.sy 10, .sy 11]], .tup [.sy 70, .sy 71])]
abbrev lnO (m : Bool) : List KOp := [lnB, (.bin .gtr 3, [.sy 21, .clo (iv 100)], .clo (.bool m)), (.bin .eql 3, [.sy 70, .sy 70], .clo (.bool true)), (.bin .eql 34, [.sy 71, .sy 71], .clo (.bool true))]
theorem ln_o {px py : Int} {a : Option Addr} {n c : Nat} {r e : Int} {K : World → Prop} {m : Bool} (h : decide (100 < n) = m) : ∀ z ∈ lnO m, OpAt Tryz.prog (lnSym px py a n c r e) K z :=
  aC (OpIs.at ⟨[.slice a n c], iv n, rfl, rfl, tells_ln (e := tBo) (by kernel_rfl)⟩ K) (aC (OpIs.at ⟨[iv n, iv 100], _, rfl, rfl, tells_gtr (by rw [← h, decide_eq_decide]; omega)⟩ K) (aC (OpIs.at ⟨[iv r, iv r], _, rfl, rfl, tells_eql (by simp)⟩ K) (aC (OpIs.at ⟨[iv e, iv e], _, rfl, rfl, tells_eql (by simp)⟩ K) aN)))
theorem ln_ev (px py : Int) (a : Option Addr) (n c : Nat) (r e : Int) (K : World → Prop) (B : Nat) (kst : ∀ w w', K w → Below B w w' → K w') : resC (evalFn0 Tryz.prog (@evalC (toldK 0 (lnSym px py a n c r e) lnC [] (lnO false) K B kst) Tryz.prog 300 true) 0 5 [.sy 20, .agg [.sy 10, .sy 11]] ⟨0, []⟩) = some (.clo (.bool true)) := by
  kernel_rfl
theorem ln_evFar (px py : Int) (a : Option Addr) (n c : Nat) : resC (evalFn0 Tryz.prog (@evalC (toldK 0 (lnSym px py a n c 0 0) [(6, [], .clo (.bool true))] [] (lnO true) (fun _ => True) 0 (fun _ _ _ _ => trivial)) Tryz.prog 300 true) 0 5 [.sy 20, .agg [.sy 10, .sy 11]] ⟨0, []⟩) = some (.clo (.bool true)) := by
  kernel_rfl
/-- **The law BoringNearest.** -/
theorem boringNearest_any (B : Nat) (L : List Bo) (a : Option Addr) (c : Nat) (px py : Int) (w : World) (hP : boK B L a w) (hB : B ≤ w.heap.size) :
    Calls Tryz.prog 5 #[.slice a L.length c, .agg #[iv px, iv py]] w fun e w' => e = .returned (.bool true) ∧ Below w.heap.size w w' := by
  by_cases hfar : 100 < L.length
  · exact calls_toldM hmix (lnSym px py a L.length c 0 0) [(6, [], .clo (.bool true))] [] (lnO true) (fun _ => True) 0 (fun _ _ _ _ => trivial) (aC ⟨[], .bool true, rfl, rfl, fun w' _ => awake_any w'⟩ aN) aN (ln_o (decide_eq_true hfar)) (n := 300) (args := [.sy 20, .agg [.sy 10, .sy 11]]) (xs := [.slice a L.length c, .agg #[iv px, iv py]]) rfl _ (ln_evFar _ _ _ _ _) rfl w trivial (Nat.zero_le _)
  have key : ∃ r e : Int, ∀ w', boK B L a w' → B ≤ w'.heap.size → (Calls Tryz.prog 21 #[.slice a L.length c, .agg #[iv px, iv py]] w' fun q w'' => q = .returned (.tuple #[iv r, iv e]) ∧ Below w'.heap.size w' w'') ∧ (Calls Tryz.prog 22 #[.slice a L.length c, .agg #[iv px, iv py]] w' fun q w'' => q = .returned (.tuple #[iv r, iv e]) ∧ Below w'.heap.size w' w'') := by
    by_cases h0 : L.length = 0
    · refine ⟨0, 9, fun w' hw hb => ⟨?_, ?_⟩⟩
      · have := near_err B L a c px py (by omega) (.inl h0) w' hw hb
        rw [if_pos h0] at this
        exact this
      · rw [h0]
        exact rnear_nil a c px py w'
    · obtain ⟨a', rfl⟩ := hP.ex (by omega)
      by_cases hok : okN px py L = true
      · refine ⟨bestF px py L L.length, 0, fun w' hw hb => ⟨near_ok B L (some a') c px py (by omega) (by omega) hok w' hw hb, ?_⟩⟩
        have := rnear_any B L a' c px py (by omega) (by omega) w' hw hb
        rw [if_pos hok, if_pos hok] at this
        exact this
      · refine ⟨0, 6, fun w' hw hb => ⟨?_, ?_⟩⟩
        · have := near_err B L (some a') c px py (by omega) (.inr (by simpa using hok)) w' hw hb
          rw [if_neg h0] at this
          exact this
        · have := rnear_any B L a' c px py (by omega) (by omega) w' hw hb
          rw [if_neg hok, if_neg hok] at this
          exact this
  obtain ⟨r, e, hk⟩ := key
  refine calls_toldM hmix (lnSym px py a L.length c r e) lnC [] (lnO false) (fun w' => boK B L a w' ∧ B ≤ w'.heap.size) B (fun w1 w2 h hb => ⟨h.1.below hb (Nat.le_refl _), Nat.le_trans h.2 hb.size⟩) (aC ⟨[], .bool true, rfl, rfl, fun w' _ => awake_any w'⟩ (aC ⟨[.slice a L.length c, .agg #[iv px, iv py]], .tuple #[iv r, iv e], rfl, rfl, fun w' hw => (hk w' hw.1 hw.2).1⟩ (aC ⟨[.slice a L.length c, .agg #[iv px, iv py]], .tuple #[iv r, iv e], rfl, rfl, fun w' hw => (hk w' hw.1 hw.2).2⟩ aN))) aN (ln_o (decide_eq_false hfar)) (n := 300) (args := [.sy 20, .agg [.sy 10, .sy 11]]) (xs := [.slice a L.length c, .agg #[iv px, iv py]]) rfl _ (ln_ev _ _ _ _ _ _ _ _ _ _) rfl w ⟨hP, hB⟩ hB
end Go.Proofs.YtllnglofbhmcgaaGreat
