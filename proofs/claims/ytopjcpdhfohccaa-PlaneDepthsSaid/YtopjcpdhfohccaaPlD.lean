/- Layer 7 (plane): Depths. -/
import Derived.Test.YtopjcpdhfohccaaPlA
import Derived.Test.YtopjcpdhfohccaaEvV
namespace Go.Proofs.Ytopjcpdhfohccaa
open Go.RowKit Go.Ev
set_option linter.unusedSimpArgs false
set_option maxRecDepth 100000

def TPlaneDepths0 : Tr :=
(.br (.eq (.fn 0 (.cons (.v 0) (.cons (.v 1) (.cons (.v 2) (.cons (.v 3) .nil))))) (.lit .i64 0))
 (.br (.eq (.fn 2 (.cons (.v 4) (.cons (.v 5) (.cons (.v 6) (.cons (.v 7) (.cons (.v 8) (.cons (.v 9) .nil))))))) (.lit .i64 0))
 (.br (.lt (.v 10) (.lit .i64 0))
 (.leaf (.clo (.bool true)))
 (.br (.lt (.lit .i64 1000000) (.v 10))
 (.leaf (.clo (.bool true)))
 (.br (.lt (.lit .i64 0) (.fn 4 (.cons (.v 0) (.cons (.v 1) (.cons (.v 2) (.cons (.v 3) (.cons (.v 4) (.cons (.v 5) (.cons (.v 6) (.cons (.v 7) (.cons (.v 8) (.cons (.v 9) .nil))))))))))))
 (.br (.lt (.fn 3 (.cons (.v 0) (.cons (.v 1) (.cons (.v 2) (.cons (.v 3) (.cons (.v 4) (.cons (.v 5) (.cons (.v 6) (.cons (.v 7) (.cons (.v 8) (.cons (.v 9) .nil))))))))))) (.lit .i64 0))
 (.leaf (.clo (.bool true)))
 (.leaf (.clo (.bool true))))
 (.br (.lt (.lit .i64 0) (.v 0))
 (.leaf (.clo (.bool true)))
 (.leaf (.clo (.bool true)))))))
 (.leaf (.clo (.bool true))))
 (.leaf (.clo (.bool true))))

def TPlaneDepths1 : Tr :=
(.br (.eq (.fn 0 (.cons (.v 0) (.cons (.v 1) (.cons (.v 2) (.cons (.v 3) .nil))))) (.lit .i64 0))
 (.br (.eq (.fn 2 (.cons (.v 4) (.cons (.v 5) (.cons (.v 6) (.cons (.v 7) (.cons (.v 8) (.cons (.v 9) .nil))))))) (.lit .i64 0))
 (.br (.lt (.v 10) (.lit .i64 0))
 (.leaf (.clo (.bool true)))
 (.br (.lt (.lit .i64 1000000) (.v 10))
 (.leaf (.clo (.bool true)))
 (.br (.lt (.lit .i64 0) (.fn 4 (.cons (.v 0) (.cons (.v 1) (.cons (.v 2) (.cons (.v 3) (.cons (.v 4) (.cons (.v 5) (.cons (.v 6) (.cons (.v 7) (.cons (.v 8) (.cons (.v 9) .nil))))))))))))
 (.br (.lt (.fn 3 (.cons (.v 0) (.cons (.v 1) (.cons (.v 2) (.cons (.v 3) (.cons (.v 4) (.cons (.v 5) (.cons (.v 6) (.cons (.v 7) (.cons (.v 8) (.cons (.v 9) .nil))))))))))) (.lit .i64 0))
 (.leaf (.clo (.bool true)))
 (.leaf (.clo (.bool true))))
 (.br (.lt (.lit .i64 0) (.neg .i64 (.v 0)))
 (.leaf (.clo (.bool true)))
 (.leaf (.clo (.bool true)))))))
 (.leaf (.clo (.bool true))))
 (.leaf (.clo (.bool true))))

def TPlaneDepths2 : Tr :=
(.br (.eq (.fn 0 (.cons (.v 0) (.cons (.v 1) (.cons (.v 2) (.cons (.v 3) .nil))))) (.lit .i64 0))
 (.br (.eq (.fn 2 (.cons (.v 4) (.cons (.v 5) (.cons (.v 6) (.cons (.v 7) (.cons (.v 8) (.cons (.v 9) .nil))))))) (.lit .i64 0))
 (.br (.lt (.v 10) (.lit .i64 0))
 (.leaf (.clo (.bool true)))
 (.br (.lt (.lit .i64 1000000) (.v 10))
 (.leaf (.clo (.bool true)))
 (.br (.lt (.lit .i64 0) (.fn 4 (.cons (.v 0) (.cons (.v 1) (.cons (.v 2) (.cons (.v 3) (.cons (.v 4) (.cons (.v 5) (.cons (.v 6) (.cons (.v 7) (.cons (.v 8) (.cons (.v 9) .nil))))))))))))
 (.br (.lt (.fn 3 (.cons (.v 0) (.cons (.v 1) (.cons (.v 2) (.cons (.v 3) (.cons (.v 4) (.cons (.v 5) (.cons (.v 6) (.cons (.v 7) (.cons (.v 8) (.cons (.v 9) .nil))))))))))) (.lit .i64 0))
 (.leaf (.clo (.bool true)))
 (.leaf (.clo (.bool true))))
 (.br (.lt (.lit .i64 0) (.v 1))
 (.leaf (.clo (.bool true)))
 (.leaf (.clo (.bool true)))))))
 (.leaf (.clo (.bool true))))
 (.leaf (.clo (.bool true))))

def TPlaneDepths3 : Tr :=
(.br (.eq (.fn 0 (.cons (.v 0) (.cons (.v 1) (.cons (.v 2) (.cons (.v 3) .nil))))) (.lit .i64 0))
 (.br (.eq (.fn 2 (.cons (.v 4) (.cons (.v 5) (.cons (.v 6) (.cons (.v 7) (.cons (.v 8) (.cons (.v 9) .nil))))))) (.lit .i64 0))
 (.br (.lt (.v 10) (.lit .i64 0))
 (.leaf (.clo (.bool true)))
 (.br (.lt (.lit .i64 1000000) (.v 10))
 (.leaf (.clo (.bool true)))
 (.br (.lt (.lit .i64 0) (.fn 4 (.cons (.v 0) (.cons (.v 1) (.cons (.v 2) (.cons (.v 3) (.cons (.v 4) (.cons (.v 5) (.cons (.v 6) (.cons (.v 7) (.cons (.v 8) (.cons (.v 9) .nil))))))))))))
 (.br (.lt (.fn 3 (.cons (.v 0) (.cons (.v 1) (.cons (.v 2) (.cons (.v 3) (.cons (.v 4) (.cons (.v 5) (.cons (.v 6) (.cons (.v 7) (.cons (.v 8) (.cons (.v 9) .nil))))))))))) (.lit .i64 0))
 (.leaf (.clo (.bool true)))
 (.leaf (.clo (.bool true))))
 (.br (.lt (.lit .i64 0) (.neg .i64 (.v 1)))
 (.leaf (.clo (.bool true)))
 (.leaf (.clo (.bool true)))))))
 (.leaf (.clo (.bool true))))
 (.leaf (.clo (.bool true))))

def TPlaneDepths4 : Tr :=
(.br (.eq (.fn 0 (.cons (.v 0) (.cons (.v 1) (.cons (.v 2) (.cons (.v 3) .nil))))) (.lit .i64 0))
 (.br (.eq (.fn 2 (.cons (.v 4) (.cons (.v 5) (.cons (.v 6) (.cons (.v 7) (.cons (.v 8) (.cons (.v 9) .nil))))))) (.lit .i64 0))
 (.br (.lt (.v 10) (.lit .i64 0))
 (.leaf (.clo (.bool true)))
 (.br (.lt (.lit .i64 1000000) (.v 10))
 (.leaf (.clo (.bool true)))
 (.br (.lt (.lit .i64 0) (.fn 4 (.cons (.v 0) (.cons (.v 1) (.cons (.v 2) (.cons (.v 3) (.cons (.v 4) (.cons (.v 5) (.cons (.v 6) (.cons (.v 7) (.cons (.v 8) (.cons (.v 9) .nil))))))))))))
 (.br (.lt (.fn 3 (.cons (.v 0) (.cons (.v 1) (.cons (.v 2) (.cons (.v 3) (.cons (.v 4) (.cons (.v 5) (.cons (.v 6) (.cons (.v 7) (.cons (.v 8) (.cons (.v 9) .nil))))))))))) (.lit .i64 0))
 (.leaf (.clo (.bool true)))
 (.leaf (.clo (.bool true))))
 (.br (.lt (.lit .i64 0) (.v 2))
 (.leaf (.clo (.bool true)))
 (.leaf (.clo (.bool true)))))))
 (.leaf (.clo (.bool true))))
 (.leaf (.clo (.bool true))))

def TPlaneDepths5 : Tr :=
(.br (.eq (.fn 0 (.cons (.v 0) (.cons (.v 1) (.cons (.v 2) (.cons (.v 3) .nil))))) (.lit .i64 0))
 (.br (.eq (.fn 2 (.cons (.v 4) (.cons (.v 5) (.cons (.v 6) (.cons (.v 7) (.cons (.v 8) (.cons (.v 9) .nil))))))) (.lit .i64 0))
 (.br (.lt (.v 10) (.lit .i64 0))
 (.leaf (.clo (.bool true)))
 (.br (.lt (.lit .i64 1000000) (.v 10))
 (.leaf (.clo (.bool true)))
 (.br (.lt (.lit .i64 0) (.fn 4 (.cons (.v 0) (.cons (.v 1) (.cons (.v 2) (.cons (.v 3) (.cons (.v 4) (.cons (.v 5) (.cons (.v 6) (.cons (.v 7) (.cons (.v 8) (.cons (.v 9) .nil))))))))))))
 (.br (.lt (.fn 3 (.cons (.v 0) (.cons (.v 1) (.cons (.v 2) (.cons (.v 3) (.cons (.v 4) (.cons (.v 5) (.cons (.v 6) (.cons (.v 7) (.cons (.v 8) (.cons (.v 9) .nil))))))))))) (.lit .i64 0))
 (.leaf (.clo (.bool true)))
 (.leaf (.clo (.bool true))))
 (.br (.lt (.lit .i64 0) (.neg .i64 (.v 2)))
 (.leaf (.clo (.bool true)))
 (.leaf (.clo (.bool true)))))))
 (.leaf (.clo (.bool true))))
 (.leaf (.clo (.bool true))))

def TPlaneDepths6 : Tr :=
(.br (.eq (.fn 0 (.cons (.v 0) (.cons (.v 1) (.cons (.v 2) (.cons (.v 3) .nil))))) (.lit .i64 0))
 (.br (.eq (.fn 2 (.cons (.v 4) (.cons (.v 5) (.cons (.v 6) (.cons (.v 7) (.cons (.v 8) (.cons (.v 9) .nil))))))) (.lit .i64 0))
 (.leaf (.clo (.bool true)))
 (.leaf (.clo (.bool true))))
 (.leaf (.clo (.bool true))))

def TPlaneDepths7 : Tr :=
(.br (.eq (.fn 0 (.cons (.v 0) (.cons (.v 1) (.cons (.v 2) (.cons (.v 3) .nil))))) (.lit .i64 0))
 (.br (.eq (.fn 2 (.cons (.v 4) (.cons (.v 5) (.cons (.v 6) (.cons (.v 7) (.cons (.v 8) (.cons (.v 9) .nil))))))) (.lit .i64 0))
 (.leaf (.clo (.bool true)))
 (.leaf (.clo (.bool true))))
 (.leaf (.clo (.bool true))))

theorem PlaneDepths_0 (a b c d x y z u v w0 k : Int) (h : ∀ q ∈ [a, b, c, d, x, y, z, u, v, w0, k], R64 q) (w : World) : Calls Try.prog 7 #[.agg #[.int .i64 a, .int .i64 b, .int .i64 c, .int .i64 d], .agg #[.int .i64 x, .int .i64 y, .int .i64 z, .int .i64 u, .int .i64 v, .int .i64 w0], .int .i64 0, .int .i64 k] w fun e w' => e = .returned (.bool true) ∧ Below w.heap.size w w' := by
  refine law_of (F := plF) [] mixed (cons := plCons) (eqs := plEqs) plCons_ok plEqs_ok (n := 300) (args := [a4 0, a6 4, .clo (.int .i64 0), .sy (.v 10)]) (T := TPlaneDepths0) (fun S => by kernel_rfl) h (xs := [.agg #[.int .i64 a, .int .i64 b, .int .i64 c, .int .i64 d], .agg #[.int .i64 x, .int .i64 y, .int .i64 z, .int .i64 u, .int .i64 v, .int .i64 w0], .int .i64 0, .int .i64 k]) rfl sat_nil ?_ w
  unfold TPlaneDepths0
  repeat' (refine br_val (fun _ => ?_) (fun _ => ?_))
  all_goals rfl

theorem PlaneDepths_1 (a b c d x y z u v w0 k : Int) (h : ∀ q ∈ [a, b, c, d, x, y, z, u, v, w0, k], R64 q) (w : World) : Calls Try.prog 7 #[.agg #[.int .i64 a, .int .i64 b, .int .i64 c, .int .i64 d], .agg #[.int .i64 x, .int .i64 y, .int .i64 z, .int .i64 u, .int .i64 v, .int .i64 w0], .int .i64 1, .int .i64 k] w fun e w' => e = .returned (.bool true) ∧ Below w.heap.size w w' := by
  refine law_of (F := plF) [] mixed (cons := plCons) (eqs := plEqs) plCons_ok plEqs_ok (n := 300) (args := [a4 0, a6 4, .clo (.int .i64 1), .sy (.v 10)]) (T := TPlaneDepths1) (fun S => by kernel_rfl) h (xs := [.agg #[.int .i64 a, .int .i64 b, .int .i64 c, .int .i64 d], .agg #[.int .i64 x, .int .i64 y, .int .i64 z, .int .i64 u, .int .i64 v, .int .i64 w0], .int .i64 1, .int .i64 k]) rfl sat_nil ?_ w
  unfold TPlaneDepths1
  repeat' (refine br_val (fun _ => ?_) (fun _ => ?_))
  all_goals rfl

theorem PlaneDepths_2 (a b c d x y z u v w0 k : Int) (h : ∀ q ∈ [a, b, c, d, x, y, z, u, v, w0, k], R64 q) (w : World) : Calls Try.prog 7 #[.agg #[.int .i64 a, .int .i64 b, .int .i64 c, .int .i64 d], .agg #[.int .i64 x, .int .i64 y, .int .i64 z, .int .i64 u, .int .i64 v, .int .i64 w0], .int .i64 2, .int .i64 k] w fun e w' => e = .returned (.bool true) ∧ Below w.heap.size w w' := by
  refine law_of (F := plF) [] mixed (cons := plCons) (eqs := plEqs) plCons_ok plEqs_ok (n := 300) (args := [a4 0, a6 4, .clo (.int .i64 2), .sy (.v 10)]) (T := TPlaneDepths2) (fun S => by kernel_rfl) h (xs := [.agg #[.int .i64 a, .int .i64 b, .int .i64 c, .int .i64 d], .agg #[.int .i64 x, .int .i64 y, .int .i64 z, .int .i64 u, .int .i64 v, .int .i64 w0], .int .i64 2, .int .i64 k]) rfl sat_nil ?_ w
  unfold TPlaneDepths2
  repeat' (refine br_val (fun _ => ?_) (fun _ => ?_))
  all_goals rfl

theorem PlaneDepths_3 (a b c d x y z u v w0 k : Int) (h : ∀ q ∈ [a, b, c, d, x, y, z, u, v, w0, k], R64 q) (w : World) : Calls Try.prog 7 #[.agg #[.int .i64 a, .int .i64 b, .int .i64 c, .int .i64 d], .agg #[.int .i64 x, .int .i64 y, .int .i64 z, .int .i64 u, .int .i64 v, .int .i64 w0], .int .i64 3, .int .i64 k] w fun e w' => e = .returned (.bool true) ∧ Below w.heap.size w w' := by
  refine law_of (F := plF) [] mixed (cons := plCons) (eqs := plEqs) plCons_ok plEqs_ok (n := 300) (args := [a4 0, a6 4, .clo (.int .i64 3), .sy (.v 10)]) (T := TPlaneDepths3) (fun S => by kernel_rfl) h (xs := [.agg #[.int .i64 a, .int .i64 b, .int .i64 c, .int .i64 d], .agg #[.int .i64 x, .int .i64 y, .int .i64 z, .int .i64 u, .int .i64 v, .int .i64 w0], .int .i64 3, .int .i64 k]) rfl sat_nil ?_ w
  unfold TPlaneDepths3
  repeat' (refine br_val (fun _ => ?_) (fun _ => ?_))
  all_goals rfl

theorem PlaneDepths_4 (a b c d x y z u v w0 k : Int) (h : ∀ q ∈ [a, b, c, d, x, y, z, u, v, w0, k], R64 q) (w : World) : Calls Try.prog 7 #[.agg #[.int .i64 a, .int .i64 b, .int .i64 c, .int .i64 d], .agg #[.int .i64 x, .int .i64 y, .int .i64 z, .int .i64 u, .int .i64 v, .int .i64 w0], .int .i64 4, .int .i64 k] w fun e w' => e = .returned (.bool true) ∧ Below w.heap.size w w' := by
  refine law_of (F := plF) [] mixed (cons := plCons) (eqs := plEqs) plCons_ok plEqs_ok (n := 300) (args := [a4 0, a6 4, .clo (.int .i64 4), .sy (.v 10)]) (T := TPlaneDepths4) (fun S => by kernel_rfl) h (xs := [.agg #[.int .i64 a, .int .i64 b, .int .i64 c, .int .i64 d], .agg #[.int .i64 x, .int .i64 y, .int .i64 z, .int .i64 u, .int .i64 v, .int .i64 w0], .int .i64 4, .int .i64 k]) rfl sat_nil ?_ w
  unfold TPlaneDepths4
  repeat' (refine br_val (fun _ => ?_) (fun _ => ?_))
  all_goals rfl

theorem PlaneDepths_5 (a b c d x y z u v w0 k : Int) (h : ∀ q ∈ [a, b, c, d, x, y, z, u, v, w0, k], R64 q) (w : World) : Calls Try.prog 7 #[.agg #[.int .i64 a, .int .i64 b, .int .i64 c, .int .i64 d], .agg #[.int .i64 x, .int .i64 y, .int .i64 z, .int .i64 u, .int .i64 v, .int .i64 w0], .int .i64 5, .int .i64 k] w fun e w' => e = .returned (.bool true) ∧ Below w.heap.size w w' := by
  refine law_of (F := plF) [] mixed (cons := plCons) (eqs := plEqs) plCons_ok plEqs_ok (n := 300) (args := [a4 0, a6 4, .clo (.int .i64 5), .sy (.v 10)]) (T := TPlaneDepths5) (fun S => by kernel_rfl) h (xs := [.agg #[.int .i64 a, .int .i64 b, .int .i64 c, .int .i64 d], .agg #[.int .i64 x, .int .i64 y, .int .i64 z, .int .i64 u, .int .i64 v, .int .i64 w0], .int .i64 5, .int .i64 k]) rfl sat_nil ?_ w
  unfold TPlaneDepths5
  repeat' (refine br_val (fun _ => ?_) (fun _ => ?_))
  all_goals rfl

theorem PlaneDepths_6 (a b c d x y z u v w0 e k : Int) (h : ∀ q ∈ [a, b, c, d, x, y, z, u, v, w0, e, k], R64 q) (he : e < 0) (w : World) : Calls Try.prog 7 #[.agg #[.int .i64 a, .int .i64 b, .int .i64 c, .int .i64 d], .agg #[.int .i64 x, .int .i64 y, .int .i64 z, .int .i64 u, .int .i64 v, .int .i64 w0], .int .i64 e, .int .i64 k] w fun e w' => e = .returned (.bool true) ∧ Below w.heap.size w w' := by
  refine law_of (F := plF) [(.lt (.v 10) (.lit .i64 0), true)] mixed (cons := plCons) (eqs := plEqs) plCons_ok plEqs_ok (n := 300) (args := [a4 0, a6 4, .sy (.v 10), .sy (.v 11)]) (T := TPlaneDepths6) (fun S => by kernel_rfl) h (xs := [.agg #[.int .i64 a, .int .i64 b, .int .i64 c, .int .i64 d], .agg #[.int .i64 x, .int .i64 y, .int .i64 z, .int .i64 u, .int .i64 v, .int .i64 w0], .int .i64 e, .int .i64 k]) rfl (sat_cons (at_lt_t.2 he) sat_nil) ?_ w
  unfold TPlaneDepths6
  repeat' (refine br_val (fun _ => ?_) (fun _ => ?_))
  all_goals rfl

theorem PlaneDepths_7 (a b c d x y z u v w0 e k : Int) (h : ∀ q ∈ [a, b, c, d, x, y, z, u, v, w0, e, k], R64 q) (he : 5 < e) (w : World) : Calls Try.prog 7 #[.agg #[.int .i64 a, .int .i64 b, .int .i64 c, .int .i64 d], .agg #[.int .i64 x, .int .i64 y, .int .i64 z, .int .i64 u, .int .i64 v, .int .i64 w0], .int .i64 e, .int .i64 k] w fun e w' => e = .returned (.bool true) ∧ Below w.heap.size w w' := by
  refine law_of (F := plF) [(.lt (.lit .i64 5) (.v 10), true)] mixed (cons := plCons) (eqs := plEqs) plCons_ok plEqs_ok (n := 300) (args := [a4 0, a6 4, .sy (.v 10), .sy (.v 11)]) (T := TPlaneDepths7) (fun S => by kernel_rfl) h (xs := [.agg #[.int .i64 a, .int .i64 b, .int .i64 c, .int .i64 d], .agg #[.int .i64 x, .int .i64 y, .int .i64 z, .int .i64 u, .int .i64 v, .int .i64 w0], .int .i64 e, .int .i64 k]) rfl (sat_cons (at_lt_t.2 he) sat_nil) ?_ w
  unfold TPlaneDepths7
  repeat' (refine br_val (fun _ => ?_) (fun _ => ?_))
  all_goals rfl

set_option maxHeartbeats 8000000 in
theorem planeDepths_any (zs : List Int) (hr : InRng (shK [s4, s6, .i .i64, .i .i64]) zs) (w : World) : Calls Try.prog 7 (shV [s4, s6, .i .i64, .i .i64] zs).toArray w fun e w' => e = .returned (.bool true) ∧ Below w.heap.size w w' := by
  have h := rng64 (by rfl) hr
  have hl := InRng_length hr
  obtain ⟨a, b, c, d, x, y, z, u, v, w0, e, k, rfl⟩ := len12 hl
  have hh : ∀ q ∈ [a, b, c, d, x, y, z, u, v, w0, k], R64 q := fun q hq => h q (by simp only [List.mem_cons, List.not_mem_nil, or_false] at hq ⊢; rcases hq with hq | hq | hq | hq | hq | hq | hq | hq | hq | hq | hq <;> simp [hq])
  by_cases h0 : e < 0
  · exact PlaneDepths_6 a b c d x y z u v w0 e k h h0 w
  · by_cases h5 : 5 < e
    · exact PlaneDepths_7 a b c d x y z u v w0 e k h h5 w
    · have h6 : e = 0 ∨ e = 1 ∨ e = 2 ∨ e = 3 ∨ e = 4 ∨ e = 5 := by omega
      rcases h6 with rfl | rfl | rfl | rfl | rfl | rfl
      · exact PlaneDepths_0 a b c d x y z u v w0 k hh w
      · exact PlaneDepths_1 a b c d x y z u v w0 k hh w
      · exact PlaneDepths_2 a b c d x y z u v w0 k hh w
      · exact PlaneDepths_3 a b c d x y z u v w0 k hh w
      · exact PlaneDepths_4 a b c d x y z u v w0 k hh w
      · exact PlaneDepths_5 a b c d x y z u v w0 k hh w

end Go.Proofs.Ytopjcpdhfohccaa
