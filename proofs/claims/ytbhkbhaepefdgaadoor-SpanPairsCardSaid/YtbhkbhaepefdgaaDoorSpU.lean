/- The walk of SpanPairs. -/
import Derived.Test.YtbhkbhaepefdgaaDoorSpQ
import Derived.Test.YtbhkbhaepefdgaaDoorSpL
namespace Go.Proofs.YtbhkbhaepefdgaaDoor
open Go.RowKit

theorem add_any (a b c d : Int) (w : World) : Calls Tryd.prog 13 #[.agg #[.int .i64 a, .int .i64 b], .agg #[.int .i64 c, .int .i64 d]] w (Gives (pairRes a b c d (resIv (a + c, b + d))) w) := by
  by_cases he : errAll [(a, b), (c, d)] = 0
  · rw [show pairRes a b c d (resIv (a + c, b + d)) = resIv (a + c, b + d) from if_pos he]
    exact add_ok a b c d w he
  · exact add_err a b c d w _ he
theorem sub_any (a b c d : Int) (w : World) : Calls Tryd.prog 14 #[.agg #[.int .i64 a, .int .i64 b], .agg #[.int .i64 c, .int .i64 d]] w (Gives (pairRes a b c d (resIv (a - d, b - c))) w) := by
  by_cases he : errAll [(a, b), (c, d)] = 0
  · exact sub_ok a b c d w he
  · exact sub_err a b c d w _ he
theorem refSub_any (a b c d : Int) (w : World) : Calls Tryd.prog 18 #[.agg #[.int .i64 a, .int .i64 b], .agg #[.int .i64 c, .int .i64 d]] w (Gives (pairRes a b c d (resIv (a - d, b - c))) w) := by
  by_cases he : errAll [(a, b), (c, d)] = 0
  · exact refSub_ok a b c d w he
  · exact refSub_err a b c d w _ he
theorem hull_any (a b c d : Int) (w : World) : Calls Tryd.prog 16 #[.agg #[.int .i64 a, .int .i64 b], .agg #[.int .i64 c, .int .i64 d]] w (Gives (pairRes a b c d ((min a c, max b d), 0)) w) := by
  by_cases he : errAll [(a, b), (c, d)] = 0
  · exact hull_ok a b c d w he
  · exact hull_err a b c d w _ he
theorem refHull_any (a b c d : Int) (w : World) : Calls Tryd.prog 20 #[.agg #[.int .i64 a, .int .i64 b], .agg #[.int .i64 c, .int .i64 d]] w (Gives (pairRes a b c d ((min a c, max b d), 0)) w) := by
  by_cases he : errAll [(a, b), (c, d)] = 0
  · exact refHull_ok a b c d w he
  · exact refHull_err a b c d w _ he
theorem inter_any (a b c d : Int) (w : World) (hE : HasEmpty w) : Calls Tryd.prog 15 #[.agg #[.int .i64 a, .int .i64 b], .agg #[.int .i64 c, .int .i64 d]] w (Gives (pairRes a b c d (interRes a b c d)) w) := by
  by_cases he : errAll [(a, b), (c, d)] = 0
  · by_cases h : min b d < max a c
    · rw [show interRes a b c d = ((0, 0), 9) from if_pos h]
      exact inter_none a b c d w hE h he
    · rw [show interRes a b c d = ((max a c, min b d), 0) from if_neg h]
      exact inter_some a b c d w hE (by omega) he
  · exact inter_err a b c d w _ he
theorem refInter_any (a b c d : Int) (w : World) : Calls Tryd.prog 19 #[.agg #[.int .i64 a, .int .i64 b], .agg #[.int .i64 c, .int .i64 d]] w (Gives (pairRes a b c d (interRes a b c d)) w) := by
  by_cases he : errAll [(a, b), (c, d)] = 0
  · by_cases h : min b d < max a c
    · rw [show interRes a b c d = ((0, 0), 9) from if_pos h]
      exact refInter_none a b c d w h he
    · rw [show interRes a b c d = ((max a c, min b d), 0) from if_neg h]
      exact refInter_some a b c d w (by omega) he
  · exact refInter_err a b c d w _ he

def Blk2 (w : World) (g : Nat) (p q : Int) : Prop := w.heap[g]? = some (.cells #[.int .i64 p, .int .i64 q] 23 (0, 0))
theorem Blk2.keep {w w' : World} {g : Nat} {p q : Int} (h : Blk2 w g p q) (hb : Below w.heap.size w w') : Blk2 w' g p q := (hb.block g (Array.getElem?_eq_some_iff.1 h).1).trans h
theorem Blk2.new (w : World) (p q : Int) : Blk2 (w.alloc (.cells #[.int .i64 p, .int .i64 q] 23)) w.heap.size p q := heap_alloc_new w _
theorem below_alloc {w w' : World} {o : Obj} (hb : Below (w.alloc o).heap.size (w.alloc o) w') : Below w.heap.size w w' := ((Below.refl _ _).alloc (Nat.le_refl _) _).trans (hb.mono (by simp))

set_option maxRecDepth 100000 in
set_option maxHeartbeats 8000000 in
theorem spanPairs_any (a b c d : Int) (w : World) (hE : HasEmpty w) :
    Calls Tryd.prog 3 #[.agg #[.int .i64 a, .int .i64 b], .agg #[.int .i64 c, .int .i64 d]] w fun e w' => e = .returned (.bool true) ∧ Below w.heap.size w w' := by
  have hA := fun W => add_any a b c d W
  have hB := fun W => sub_any a b c d W
  have hC := fun W h => inter_any a b c d W h
  have hD := fun W => hull_any a b c d W
  have hA' := fun W => refAdd_any a b c d W
  have hB' := fun W => refSub_any a b c d W
  have hC' := fun W => refInter_any a b c d W
  have hD' := fun W => refHull_any a b c d W
  generalize pairRes a b c d (resIv (a + c, b + d)) = RA at hA hA'
  generalize pairRes a b c d (resIv (a - d, b - c)) = RB at hB hB'
  generalize pairRes a b c d (interRes a b c d) = RC at hC hC'
  generalize pairRes a b c d ((min a c, max b d), 0) = RD at hD hD'
  obtain ⟨⟨p1, p2⟩, p3⟩ := RA
  obtain ⟨⟨q1, q2⟩, q3⟩ := RB
  obtain ⟨⟨r1, r2⟩, r3⟩ := RC
  obtain ⟨⟨s1, s2⟩, s3⟩ := RD
  unfold Gives at hA hB hC hD hA' hB' hC' hD'
  simp only at hA hB hC hD hA' hB' hC' hD'
  have HA := Lib.hid hA
  have HB := Lib.hid hB
  have HC := Lib.hid hC
  have HD := Lib.hid hD
  have HA' := Lib.hid hA'
  have HB' := Lib.hid hB'
  have HC' := Lib.hid hC'
  have HD' := Lib.hid hD'
  clear hA hB hC hD hA' hB' hC' hD'
  have hE0 := hE.lt
  have HE := Lib.hid hE
  clear hE
  go_enter Tryd.func3, Tryd.ntmps3
  go_wp2_with fail
  refine (awake_any _).mono ?_
  rintro e w0 ⟨rfl, hb⟩
  have S0 := boxes2 hb
  have HS0 := Lib.hid S0
  have E0 := Lib.hid (HE.out.below (HS0.out.2.2.2.2.2) hE0)
  clear hb
  obtain ⟨c0, c1, c2, c3, c4, _⟩ := S0
  have c5 : w.heap.size < w0.heap.size := by omega
  go_wp2_with fail
  have hE1 : 0 < w0.heap.size := by omega
  refine (HA.out _).mono ?_
  rintro e w1 ⟨rfl, hb1⟩
  have B1 := hb1
  have HS1 := Lib.hid (keep4 HS0.out B1)
  have E1 := Lib.hid (E0.out.below B1 hE1)
  have hl1 : 0 < w1.heap.size := by have := B1.size; omega
  clear c0 c1 c2 c3 c4 c5 hb1 B1 hE1
  obtain ⟨c0, c1, c2, c3, c4, _⟩ := HS1.out
  have c5 : w.heap.size < w1.heap.size := by omega
  go_wp2_with fail
  refine (HB.out _).mono ?_
  rintro e w2 ⟨rfl, hb2⟩
  have B2 := below_alloc hb2
  have K1 := Lib.hid ((Blk2.new w1 p1 p2).keep hb2)
  have HS2 := Lib.hid (keep4 HS1.out B2)
  have E2 := Lib.hid (E1.out.below B2 hl1)
  have hl2 : 0 < w2.heap.size := by have := B2.size; omega
  clear c0 c1 c2 c3 c4 c5 hb2 B2 hl1
  obtain ⟨c0, c1, c2, c3, c4, _⟩ := HS2.out
  have c5 : w.heap.size < w2.heap.size := by omega
  go_wp2_with fail
  refine (HC.out _ (E2.out.below ((Below.refl _ _).alloc (Nat.le_refl _) _) hl2)).mono ?_
  rintro e w3 ⟨rfl, hb3⟩
  have B3 := below_alloc hb3
  have K2 := Lib.hid ((Blk2.new w2 q1 q2).keep hb3)
  have K1 := Lib.hid (K1.out.keep B3)
  have HS3 := Lib.hid (keep4 HS2.out B3)
  have E3 := Lib.hid (E2.out.below B3 hl2)
  have hl3 : 0 < w3.heap.size := by have := B3.size; omega
  clear c0 c1 c2 c3 c4 c5 hb3 B3 hl2
  obtain ⟨c0, c1, c2, c3, c4, _⟩ := HS3.out
  have c5 : w.heap.size < w3.heap.size := by omega
  go_wp2_with fail
  refine (HD.out _).mono ?_
  rintro e w4 ⟨rfl, hb4⟩
  have B4 := below_alloc hb4
  have K3 := Lib.hid ((Blk2.new w3 r1 r2).keep hb4)
  have K1 := Lib.hid (K1.out.keep B4)
  have K2 := Lib.hid (K2.out.keep B4)
  have HS4 := Lib.hid (keep4 HS3.out B4)
  have E4 := Lib.hid (E3.out.below B4 hl3)
  have hl4 : 0 < w4.heap.size := by have := B4.size; omega
  clear c0 c1 c2 c3 c4 c5 hb4 B4 hl3
  obtain ⟨c0, c1, c2, c3, c4, _⟩ := HS4.out
  have c5 : w.heap.size < w4.heap.size := by omega
  go_wp2_with fail
  refine (HA'.out _).mono ?_
  rintro e w5 ⟨rfl, hb5⟩
  have B5 := below_alloc hb5
  have K4 := Lib.hid ((Blk2.new w4 s1 s2).keep hb5)
  have K1 := Lib.hid (K1.out.keep B5)
  have K2 := Lib.hid (K2.out.keep B5)
  have K3 := Lib.hid (K3.out.keep B5)
  have HS5 := Lib.hid (keep4 HS4.out B5)
  have E5 := Lib.hid (E4.out.below B5 hl4)
  have hl5 : 0 < w5.heap.size := by have := B5.size; omega
  clear c0 c1 c2 c3 c4 c5 hb5 B5 hl4
  obtain ⟨c0, c1, c2, c3, c4, _⟩ := HS5.out
  have c5 : w.heap.size < w5.heap.size := by omega
  go_wp2_with fail
  refine (HB'.out _).mono ?_
  rintro e w6 ⟨rfl, hb6⟩
  have B6 := below_alloc hb6
  have K5 := Lib.hid ((Blk2.new w5 p1 p2).keep hb6)
  have K1 := Lib.hid (K1.out.keep B6)
  have K2 := Lib.hid (K2.out.keep B6)
  have K3 := Lib.hid (K3.out.keep B6)
  have K4 := Lib.hid (K4.out.keep B6)
  have HS6 := Lib.hid (keep4 HS5.out B6)
  have E6 := Lib.hid (E5.out.below B6 hl5)
  have hl6 : 0 < w6.heap.size := by have := B6.size; omega
  clear c0 c1 c2 c3 c4 c5 hb6 B6 hl5
  obtain ⟨c0, c1, c2, c3, c4, _⟩ := HS6.out
  have c5 : w.heap.size < w6.heap.size := by omega
  go_wp2_with fail
  refine (HC'.out _).mono ?_
  rintro e w7 ⟨rfl, hb7⟩
  have B7 := below_alloc hb7
  have K6 := Lib.hid ((Blk2.new w6 q1 q2).keep hb7)
  have K1 := Lib.hid (K1.out.keep B7)
  have K2 := Lib.hid (K2.out.keep B7)
  have K3 := Lib.hid (K3.out.keep B7)
  have K4 := Lib.hid (K4.out.keep B7)
  have K5 := Lib.hid (K5.out.keep B7)
  have HS7 := Lib.hid (keep4 HS6.out B7)
  have E7 := Lib.hid (E6.out.below B7 hl6)
  have hl7 : 0 < w7.heap.size := by have := B7.size; omega
  clear c0 c1 c2 c3 c4 c5 hb7 B7 hl6
  obtain ⟨c0, c1, c2, c3, c4, _⟩ := HS7.out
  have c5 : w.heap.size < w7.heap.size := by omega
  go_wp2_with fail
  refine (HD'.out _).mono ?_
  rintro e w8 ⟨rfl, hb8⟩
  have B8 := below_alloc hb8
  have K7 := Lib.hid ((Blk2.new w7 r1 r2).keep hb8)
  have K1 := Lib.hid (K1.out.keep B8)
  have K2 := Lib.hid (K2.out.keep B8)
  have K3 := Lib.hid (K3.out.keep B8)
  have K4 := Lib.hid (K4.out.keep B8)
  have K5 := Lib.hid (K5.out.keep B8)
  have K6 := Lib.hid (K6.out.keep B8)
  have HS8 := Lib.hid (keep4 HS7.out B8)
  clear c0 c1 c2 c3 c4 c5 hb8 B8 hl7
  obtain ⟨x1, y1, _, _⟩ := own2 K1.out
  have z1 := (Array.getElem?_eq_some_iff.1 K1.out).1
  obtain ⟨x2, y2, _, _⟩ := own2 K2.out
  have z2 := (Array.getElem?_eq_some_iff.1 K2.out).1
  obtain ⟨x3, y3, _, _⟩ := own2 K3.out
  have z3 := (Array.getElem?_eq_some_iff.1 K3.out).1
  obtain ⟨x4, y4, _, _⟩ := own2 K4.out
  have z4 := (Array.getElem?_eq_some_iff.1 K4.out).1
  obtain ⟨x5, y5, _, _⟩ := own2 K5.out
  have z5 := (Array.getElem?_eq_some_iff.1 K5.out).1
  obtain ⟨x6, y6, _, _⟩ := own2 K6.out
  have z6 := (Array.getElem?_eq_some_iff.1 K6.out).1
  obtain ⟨x7, y7, _, _⟩ := own2 K7.out
  have z7 := (Array.getElem?_eq_some_iff.1 K7.out).1
  have heq := fun (p q : Int) (W : World) => eqIv0 p q p q W
  simp only [and_self, decide_true] at heq
  clear HA HB HC HD HA' HB' HC' HD' HS0 HS1 HS2 HS3 HS4 HS5 HS6 HS7 K1 K2 K3 K4 K5 K6 K7 E0 E1 E2 E3 E4 E5 E6 E7
  go_wp2_with fail
  go_ret
  exact ⟨rfl, HS8.out.2.2.2.2.2.alloc HS8.out.2.2.2.2.2.size _⟩
end Go.Proofs.YtbhkbhaepefdgaaDoor
