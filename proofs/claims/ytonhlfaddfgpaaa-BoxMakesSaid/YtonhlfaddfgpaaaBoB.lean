/- Layer 6 (box): contracts of Touch; all contracts. -/
import Derived.Test.YtonhlfaddfgpaaaBoA
namespace Go.Proofs.Ytonhlfaddfgpaaa
open Go.RowKit Go.Ev
set_option linter.unusedSimpArgs false

theorem rtch_split {a b c d e f g h i j k l : Int} {p q r : Prop} (h1 : ovP a d g j ↔ p) (h2 : ovP b e h k ↔ q) (h3 : ovP c f i l ↔ r) {n : Int}
    (c0 : (q ∧ r) ∧ g = d → n = 0) (c1 : ¬ ((q ∧ r) ∧ g = d) → (q ∧ r) ∧ j = a → n = 1)
    (c2 : ¬ ((q ∧ r) ∧ g = d) → ¬ ((q ∧ r) ∧ j = a) → (p ∧ r) ∧ h = e → n = 2)
    (c3 : ¬ ((q ∧ r) ∧ g = d) → ¬ ((q ∧ r) ∧ j = a) → ¬ ((p ∧ r) ∧ h = e) → (p ∧ r) ∧ k = b → n = 3)
    (c4 : ¬ ((q ∧ r) ∧ g = d) → ¬ ((q ∧ r) ∧ j = a) → ¬ ((p ∧ r) ∧ h = e) → ¬ ((p ∧ r) ∧ k = b) → (p ∧ q) ∧ i = f → n = 4)
    (c5 : ¬ ((q ∧ r) ∧ g = d) → ¬ ((q ∧ r) ∧ j = a) → ¬ ((p ∧ r) ∧ h = e) → ¬ ((p ∧ r) ∧ k = b) → ¬ ((p ∧ q) ∧ i = f) → (p ∧ q) ∧ l = c → n = 5)
    (c6 : ¬ ((q ∧ r) ∧ g = d) → ¬ ((q ∧ r) ∧ j = a) → ¬ ((p ∧ r) ∧ h = e) → ¬ ((p ∧ r) ∧ k = b) → ¬ ((p ∧ q) ∧ i = f) → ¬ ((p ∧ q) ∧ l = c) → n = -1) : rtch a b c d e f g h i j k l = n := by
  have e1 := propext h1
  have e2 := propext h2
  have e3 := propext h3
  subst e1 e2 e3
  clear h1 h2 h3
  unfold rtch
  by_cases x0 : (ovP b e h k ∧ ovP c f i l) ∧ g = d
  · rw [if_pos x0]; exact (c0 x0).symm
  rw [if_neg x0]
  by_cases x1 : (ovP b e h k ∧ ovP c f i l) ∧ j = a
  · rw [if_pos x1]; exact (c1 x0 x1).symm
  rw [if_neg x1]
  by_cases x2 : (ovP a d g j ∧ ovP c f i l) ∧ h = e
  · rw [if_pos x2]; exact (c2 x0 x1 x2).symm
  rw [if_neg x2]
  by_cases x3 : (ovP a d g j ∧ ovP c f i l) ∧ k = b
  · rw [if_pos x3]; exact (c3 x0 x1 x2 x3).symm
  rw [if_neg x3]
  by_cases x4 : (ovP a d g j ∧ ovP b e h k) ∧ i = f
  · rw [if_pos x4]; exact (c4 x0 x1 x2 x3 x4).symm
  rw [if_neg x4]
  by_cases x5 : (ovP a d g j ∧ ovP b e h k) ∧ l = c
  · rw [if_pos x5]; exact (c5 x0 x1 x2 x3 x4 x5).symm
  rw [if_neg x5]
  exact (c6 x0 x1 x2 x3 x4 x5).symm
theorem ovP_mm {a d g j : Int} : ovP a d g j ↔ mx2 a g < mn2 d j := by
  have := mn2_is d j
  have := mx2_is a g
  unfold ovP
  omega
/-- An axis: what the program works out of two ranges. -/
theorem axis {a d g j : Int} (h1 : -1000000 ≤ a ∧ a < d ∧ d ≤ 1000000) (h2 : -1000000 ≤ g ∧ g < j ∧ j ≤ 1000000) :
    (ovP a d g j ↔ 0 < IntKind.i64.wrap (mn2 d j - mx2 a g)) ∧ (IntKind.i64.wrap (mn2 d j - mx2 a g) = 0 ↔ g = d ∨ j = a) := by
  have m1 := mn2_is d j
  have m2 := mx2_is a g
  rw [wrap64 _ (by omega), ovP_mm]
  omega
theorem tup0 {a b c d e f g h i j k l n : Int} (x : rtch a b c d e f g h i j k l = n) (hn : ¬ n < 0) : some (Value.tuple #[.int .i64 n, .int .i64 0]) = some (Value.tuple #[.int .i64 (tchN a b c d e f g h i j k l), .int .i64 (tchE a b c d e f g h i j k l)]) := by
  subst x
  rw [(tch_pos hn).1, (tch_pos hn).2]
theorem tup9 {a b c d e f g h i j k l : Int} (x : rtch a b c d e f g h i j k l = -1) : some (Value.tuple #[.int .i64 0, .int .i64 9]) = some (Value.tuple #[.int .i64 (tchN a b c d e f g h i j k l), .int .i64 (tchE a b c d e f g h i j k l)]) := by
  have hn : rtch a b c d e f g h i j k l < 0 := by omega
  rw [(tch_neg hn).1, (tch_neg hn).2]

set_option maxRecDepth 100000
/-- The conditions: two boxes without an error. -/
def ok2 : List Pre := [.fn 0 0 6 .i64 0, .fn 0 6 6 .i64 0]
theorem ok2_of {a b c d e f g h i j k l : Int} (x : ∀ p ∈ ok2, preV boF.fv [a, b, c, d, e, f, g, h, i, j, k, l] p) : chkB a b c d e f = 0 ∧ chkB g h i j k l = 0 :=
  ⟨x (.fn 0 0 6 .i64 0) (by simp [ok2]), x (.fn 0 6 6 .i64 0) (by simp [ok2])⟩
def π2 : Path := [(.eq (.fn 0 (.cons (.v 0) (.cons (.v 1) (.cons (.v 2) (.cons (.v 3) (.cons (.v 4) (.cons (.v 5) .nil))))))) (.lit .i64 0), true), (.eq (.fn 0 (.cons (.v 6) (.cons (.v 7) (.cons (.v 8) (.cons (.v 9) (.cons (.v 10) (.cons (.v 11) .nil))))))) (.lit .i64 0), true)]

def TTouch : Tr :=
(.br (.eq (.bin .sub .i64 (.bin .mn .i64 (.v 3) (.v 9)) (.bin .mx .i64 (.v 0) (.v 6))) (.lit .i64 0))
 (.br (.lt (.lit .i64 0) (.bin .sub .i64 (.bin .mn .i64 (.v 4) (.v 10)) (.bin .mx .i64 (.v 1) (.v 7))))
 (.br (.lt (.lit .i64 0) (.bin .sub .i64 (.bin .mn .i64 (.v 5) (.v 11)) (.bin .mx .i64 (.v 2) (.v 8))))
 (.br (.eq (.v 3) (.v 6))
 (.leaf (.clo (.tuple ⟨[(.int .i64 0), (.int .i64 0)]⟩)))
 (.leaf (.clo (.tuple ⟨[(.int .i64 1), (.int .i64 0)]⟩))))
 (.br (.eq (.bin .sub .i64 (.bin .mn .i64 (.v 5) (.v 11)) (.bin .mx .i64 (.v 2) (.v 8))) (.lit .i64 0))
 (.leaf (.clo (.tuple ⟨[(.int .i64 0), (.int .i64 9)]⟩)))
 (.leaf (.clo (.tuple ⟨[(.int .i64 0), (.int .i64 9)]⟩)))))
 (.br (.eq (.bin .sub .i64 (.bin .mn .i64 (.v 4) (.v 10)) (.bin .mx .i64 (.v 1) (.v 7))) (.lit .i64 0))
 (.br (.lt (.lit .i64 0) (.bin .sub .i64 (.bin .mn .i64 (.v 5) (.v 11)) (.bin .mx .i64 (.v 2) (.v 8))))
 (.leaf (.clo (.tuple ⟨[(.int .i64 0), (.int .i64 9)]⟩)))
 (.br (.eq (.bin .sub .i64 (.bin .mn .i64 (.v 5) (.v 11)) (.bin .mx .i64 (.v 2) (.v 8))) (.lit .i64 0))
 (.leaf (.clo (.tuple ⟨[(.int .i64 0), (.int .i64 9)]⟩)))
 (.leaf (.clo (.tuple ⟨[(.int .i64 0), (.int .i64 9)]⟩)))))
 (.br (.eq (.bin .sub .i64 (.bin .mn .i64 (.v 5) (.v 11)) (.bin .mx .i64 (.v 2) (.v 8))) (.lit .i64 0))
 (.leaf (.clo (.tuple ⟨[(.int .i64 0), (.int .i64 9)]⟩)))
 (.leaf (.clo (.tuple ⟨[(.int .i64 0), (.int .i64 9)]⟩))))))
 (.br (.eq (.bin .sub .i64 (.bin .mn .i64 (.v 4) (.v 10)) (.bin .mx .i64 (.v 1) (.v 7))) (.lit .i64 0))
 (.br (.lt (.lit .i64 0) (.bin .sub .i64 (.bin .mn .i64 (.v 5) (.v 11)) (.bin .mx .i64 (.v 2) (.v 8))))
 (.br (.lt (.lit .i64 0) (.bin .sub .i64 (.bin .mn .i64 (.v 3) (.v 9)) (.bin .mx .i64 (.v 0) (.v 6))))
 (.br (.eq (.v 4) (.v 7))
 (.leaf (.clo (.tuple ⟨[(.int .i64 2), (.int .i64 0)]⟩)))
 (.leaf (.clo (.tuple ⟨[(.int .i64 3), (.int .i64 0)]⟩))))
 (.leaf (.clo (.tuple ⟨[(.int .i64 0), (.int .i64 9)]⟩))))
 (.br (.eq (.bin .sub .i64 (.bin .mn .i64 (.v 5) (.v 11)) (.bin .mx .i64 (.v 2) (.v 8))) (.lit .i64 0))
 (.br (.lt (.lit .i64 0) (.bin .sub .i64 (.bin .mn .i64 (.v 3) (.v 9)) (.bin .mx .i64 (.v 0) (.v 6))))
 (.leaf (.clo (.tuple ⟨[(.int .i64 0), (.int .i64 9)]⟩)))
 (.leaf (.clo (.tuple ⟨[(.int .i64 0), (.int .i64 9)]⟩))))
 (.leaf (.clo (.tuple ⟨[(.int .i64 0), (.int .i64 9)]⟩)))))
 (.br (.eq (.bin .sub .i64 (.bin .mn .i64 (.v 5) (.v 11)) (.bin .mx .i64 (.v 2) (.v 8))) (.lit .i64 0))
 (.br (.lt (.lit .i64 0) (.bin .sub .i64 (.bin .mn .i64 (.v 3) (.v 9)) (.bin .mx .i64 (.v 0) (.v 6))))
 (.br (.lt (.lit .i64 0) (.bin .sub .i64 (.bin .mn .i64 (.v 4) (.v 10)) (.bin .mx .i64 (.v 1) (.v 7))))
 (.br (.eq (.v 5) (.v 8))
 (.leaf (.clo (.tuple ⟨[(.int .i64 4), (.int .i64 0)]⟩)))
 (.leaf (.clo (.tuple ⟨[(.int .i64 5), (.int .i64 0)]⟩))))
 (.leaf (.clo (.tuple ⟨[(.int .i64 0), (.int .i64 9)]⟩))))
 (.leaf (.clo (.tuple ⟨[(.int .i64 0), (.int .i64 9)]⟩))))
 (.leaf (.clo (.tuple ⟨[(.int .i64 0), (.int .i64 9)]⟩))))))
def TouchC : Con := ⟨31, [s6, s6], [.i 2, .i 3], ok2⟩
set_option maxHeartbeats 4000000 in
theorem TouchC_ok {S : Val K64} (hf : S.fv = boF.fv) (hp : S.pv = boF.pv) : ConOK Try.prog S anyW TouchC := by
  refine con_from hf hp (by kernel_rfl) mixed (cons := boCons0) (eqs := boEqs) boCons0_ok boEqs_ok (n := 300) (args := [a6 0, a6 6]) (T := TTouch) π2 (fun S => by kernel_rfl) ?_ ?_
  · intro zs hz hl
    obtain ⟨a, b, c, d, e, f, g, h, i, j, k, l, rfl⟩ := len12 hl
    rfl
  · intro zs hz hl hpre
    obtain ⟨a, b, c, d, e, f, g, h, i, j, k, l, rfl⟩ := len12 hl
    obtain ⟨h1, h2⟩ := ok2_of hpre
    refine ⟨sat_cons (at_eq_t.2 h1) (sat_cons (at_eq_t.2 h2) sat_nil), ?_⟩
    rw [chkB_ok] at h1 h2
    obtain ⟨x1, x2⟩ := axis h1.1 h2.1
    obtain ⟨y1, y2⟩ := axis h1.2.1 h2.2.1
    obtain ⟨z1, z2⟩ := axis h1.2.2 h2.2.2
    clear hpre
    unfold TTouch
    repeat' ((with_reducible refine br_val ?_ ?_) <;> (intro hh; simp only [at_lt_t, at_lt_f, at_eq_t, at_eq_f, tv, bV_add, bV_sub, bV_mul, bV_mn, bV_mx, val64_vv, List.getD_cons_zero, List.getD_cons_succ] at hh))
    all_goals
      show some (Value.tuple #[.int .i64 _, .int .i64 _]) = some (Value.tuple #[.int .i64 (tchN a b c d e f g h i j k l), .int .i64 (tchE a b c d e f g h i j k l)])
      generalize IntKind.i64.wrap (mn2 d j - mx2 a g) = s1 at *
      generalize IntKind.i64.wrap (mn2 e k - mx2 b h) = s2 at *
      generalize IntKind.i64.wrap (mn2 f l - mx2 c i) = s3 at *
      first
      | refine tup9 (rtch_split x1 y1 z1 ?_ ?_ ?_ ?_ ?_ ?_ ?_)
      | refine tup0 (rtch_split x1 y1 z1 ?_ ?_ ?_ ?_ ?_ ?_ ?_) (by decide)
    all_goals
      intros
      omega
def TrTouch : Tr :=
(.br (.lt (.bin .mx .i64 (.v 1) (.v 7)) (.bin .mn .i64 (.v 4) (.v 10)))
 (.br (.lt (.bin .mx .i64 (.v 2) (.v 8)) (.bin .mn .i64 (.v 5) (.v 11)))
 (.br (.eq (.v 6) (.v 3))
 (.leaf (.clo (.int .i64 0)))
 (.br (.eq (.v 9) (.v 0))
 (.leaf (.clo (.int .i64 1)))
 (.br (.lt (.bin .mx .i64 (.v 0) (.v 6)) (.bin .mn .i64 (.v 3) (.v 9)))
 (.br (.eq (.v 7) (.v 4))
 (.leaf (.clo (.int .i64 2)))
 (.br (.eq (.v 10) (.v 1))
 (.leaf (.clo (.int .i64 3)))
 (.br (.eq (.v 8) (.v 5))
 (.leaf (.clo (.int .i64 4)))
 (.br (.eq (.v 11) (.v 2))
 (.leaf (.clo (.int .i64 5)))
 (.leaf (.clo (.int .i64 (-1))))))))
 (.leaf (.clo (.int .i64 (-1)))))))
 (.br (.lt (.bin .mx .i64 (.v 0) (.v 6)) (.bin .mn .i64 (.v 3) (.v 9)))
 (.br (.eq (.v 8) (.v 5))
 (.leaf (.clo (.int .i64 4)))
 (.br (.eq (.v 11) (.v 2))
 (.leaf (.clo (.int .i64 5)))
 (.leaf (.clo (.int .i64 (-1))))))
 (.leaf (.clo (.int .i64 (-1))))))
 (.br (.lt (.bin .mx .i64 (.v 2) (.v 8)) (.bin .mn .i64 (.v 5) (.v 11)))
 (.br (.lt (.bin .mx .i64 (.v 0) (.v 6)) (.bin .mn .i64 (.v 3) (.v 9)))
 (.br (.eq (.v 7) (.v 4))
 (.leaf (.clo (.int .i64 2)))
 (.br (.eq (.v 10) (.v 1))
 (.leaf (.clo (.int .i64 3)))
 (.leaf (.clo (.int .i64 (-1))))))
 (.leaf (.clo (.int .i64 (-1)))))
 (.br (.lt (.bin .mx .i64 (.v 0) (.v 6)) (.bin .mn .i64 (.v 3) (.v 9)))
 (.leaf (.clo (.int .i64 (-1))))
 (.leaf (.clo (.int .i64 (-1)))))))
def rTouchC : Con := ⟨32, [s6, s6], [.i 4], []⟩
set_option maxHeartbeats 4000000 in
theorem rTouchC_ok {S : Val K64} (hf : S.fv = boF.fv) (hp : S.pv = boF.pv) : ConOK Try.prog S anyW rTouchC := by
  refine con_of hf hp (by kernel_rfl) mixed (cons := boCons0) (eqs := boEqs) boCons0_ok boEqs_ok (n := 300) (args := [a6 0, a6 6]) (T := TrTouch) (fun S => by kernel_rfl) ?_ ?_
  · intro zs hz hl
    obtain ⟨a, b, c, d, e, f, g, h, i, j, k, l, rfl⟩ := len12 hl
    rfl
  · intro zs hz hl _
    obtain ⟨a, b, c, d, e, f, g, h, i, j, k, l, rfl⟩ := len12 hl
    unfold TrTouch
    repeat' ((with_reducible refine br_val ?_ ?_) <;> (intro hh; simp only [at_lt_t, at_lt_f, at_eq_t, at_eq_f, tv, bV_add, bV_sub, bV_mul, bV_mn, bV_mx, val64_vv, List.getD_cons_zero, List.getD_cons_succ] at hh))
    all_goals
      show some (Value.int .i64 _) = some (Value.int .i64 (rtch a b c d e f g h i j k l))
      congr 2
      symm
      refine rtch_split (p := _) (q := _) (r := _) (ovP_mm (a := a) (d := d) (g := g) (j := j)) ovP_mm ovP_mm ?_ ?_ ?_ ?_ ?_ ?_ ?_
    all_goals
      intros
      omega

/-- All contracts; that of awake is a hypothesis. -/
def awakeC : Con := ⟨11, [], [.c (.bool true)], []⟩
abbrev Awake : Prop := ∀ w : World, Calls Try.prog 11 #[] w fun e w' => e = .returned (.bool true) ∧ Below w.heap.size w w'
theorem awakeC_ok (hA : Awake) (S : Val K64) : ConOK Try.prog S anyW awakeC := by
  intro zs hz _ w _
  exact hA w
def boCons : List Con := awakeC :: TouchC :: rTouchC :: boCons0
theorem boCons_ok (hA : Awake) (S : Val K64) (hf : S.fv = boF.fv) (hp : S.pv = boF.pv) : ∀ c ∈ boCons, ConOK Try.prog S anyW c := by
  intro c hc
  rcases List.mem_cons.1 hc with rfl | hc
  · exact awakeC_ok hA S
  rcases List.mem_cons.1 hc with rfl | hc
  · exact TouchC_ok hf hp
  rcases List.mem_cons.1 hc with rfl | hc
  · exact rTouchC_ok hf hp
  exact boCons0_ok S hf hp c hc
end Go.Proofs.Ytonhlfaddfgpaaa
