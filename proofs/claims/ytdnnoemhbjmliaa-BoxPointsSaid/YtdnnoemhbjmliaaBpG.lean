/- Layer 6 (box): the law BoxPoints, proved. -/
import Derived.Test.YtdnnoemhbjmliaaBpF
import Derived.Test.YtdnnoemhbjmliaaEvV
namespace Go.Proofs.Ytdnnoemhbjmliaa
open Go.RowKit Go.Ev
set_option maxRecDepth 100000

def mxZ (a b : Int) : Int := if b > a then b else a
def mnZ (a b : Int) : Int := if b < a then b else a
theorem mxZ_le {a b x : Int} : mxZ a b ≤ x ↔ a ≤ x ∧ b ≤ x := by unfold mxZ; split <;> omega
theorem lt_mnZ {a b x : Int} : x < mnZ a b ↔ x < a ∧ x < b := by unfold mnZ; split <;> omega
theorem mnZ_le {a b : Int} : mnZ a b ≤ a ∧ mnZ a b ≤ b := by unfold mnZ; split <;> omega
theorem le_mxZ {a b : Int} : a ≤ mxZ a b ∧ b ≤ mxZ a b := by unfold mxZ; split <;> omega
theorem hasB_t {a b c d e f x y z : Int} : hasB a b c d e f x y z = true ↔ a ≤ x ∧ b ≤ y ∧ c ≤ z ∧ x < d ∧ y < e ∧ z < f := by
  simp [hasB]
theorem hasB_f {a b c d e f x y z : Int} : hasB a b c d e f x y z = false ↔ ¬(a ≤ x ∧ b ≤ y ∧ c ≤ z ∧ x < d ∧ y < e ∧ z < f) := by
  rw [← hasB_t]
  simp
theorem chkB_val (a b c d e f : Int) : chkB a b c d e f = 0 ∧ a < d ∧ b < e ∧ c < f ∨ chkB a b c d e f = 1 ∨ chkB a b c d e f = 6 := by
  unfold chkB
  split
  · exact .inr (.inr rfl)
  · split
    · rename_i h
      exact .inl ⟨rfl, h⟩
    · exact .inr (.inl rfl)

theorem bpc_base (a b c d e f g h i j k l x y z : Int) : ∀ r ∈ bpBase (chkB a b c d e f) (chkB g h i j k l), CallIs Try.prog (bpSym a b c d e f g h i j k l x y z (mxZ a g) (mxZ b h) (mxZ c i) (mnZ d j) (mnZ e k) (mnZ f l) (mnZ a g) (mnZ b h) (mnZ c i) (mxZ d j) (mxZ e k) (mxZ f l)) r := by
  intro r hr
  simp only [bpBase, List.mem_cons, List.not_mem_nil, or_false] at hr
  rcases hr with rfl | rfl | rfl
  · exact ⟨[], .bool true, rfl, rfl, awake_any⟩
  · exact ⟨[b6 a b c d e f], iv (chkB a b c d e f), rfl, rfl, check_any a b c d e f⟩
  · exact ⟨[b6 g h i j k l], iv (chkB g h i j k l), rfl, rfl, check_any g h i j k l⟩
theorem has_is {a b c d e f x y z : Int} {r : Bool} (h : hasB a b c d e f x y z = r) (w : World) : Calls Try.prog fHas [b6 a b c d e f, v3 x y z].toArray w fun q w' => q = .returned (.bool r) ∧ Below w.heap.size w w' := by
  subst h
  exact has_any a b c d e f x y z w
theorem bpc_has (a b c d e f g h i j k l x y z : Int) {inA inB hc hh : Bool} (g1 : hasB a b c d e f x y z = inA) (g2 : hasB g h i j k l x y z = inB) (g3 : hasB (mxZ a g) (mxZ b h) (mxZ c i) (mnZ d j) (mnZ e k) (mnZ f l) x y z = hc) (g4 : hasB (mnZ a g) (mnZ b h) (mnZ c i) (mxZ d j) (mxZ e k) (mxZ f l) x y z = hh) :
    ∀ r ∈ bpHas inA inB hc hh, CallIs Try.prog (bpSym a b c d e f g h i j k l x y z (mxZ a g) (mxZ b h) (mxZ c i) (mnZ d j) (mnZ e k) (mnZ f l) (mnZ a g) (mnZ b h) (mnZ c i) (mxZ d j) (mxZ e k) (mxZ f l)) r := by
  intro r hr
  simp only [bpHas, List.mem_cons, List.not_mem_nil, or_false] at hr
  rcases hr with rfl | rfl | rfl | rfl
  · exact ⟨[b6 a b c d e f, v3 x y z], .bool inA, rfl, rfl, has_is g1⟩
  · exact ⟨[b6 g h i j k l, v3 x y z], .bool inB, rfl, rfl, has_is g2⟩
  · exact ⟨[b6 (mxZ a g) (mxZ b h) (mxZ c i) (mnZ d j) (mnZ e k) (mnZ f l), v3 x y z], .bool hc, rfl, rfl, has_is g3⟩
  · exact ⟨[b6 (mnZ a g) (mnZ b h) (mnZ c i) (mxZ d j) (mxZ e k) (mxZ f l), v3 x y z], .bool hh, rfl, rfl, has_is g4⟩
theorem bpc_parts (a b c d e f g h i j k l x y z : Int) {n : Nat} (p1 : hasB a b c d e (mxZ c i) x y z = Nat.beq n 1) (p2 : hasB a b (mnZ f l) d e f x y z = Nat.beq n 2) (p3 : hasB a b (mxZ c i) d (mxZ b h) (mnZ f l) x y z = Nat.beq n 3) (p4 : hasB a (mnZ e k) (mxZ c i) d e (mnZ f l) x y z = Nat.beq n 4) (p5 : hasB a (mxZ b h) (mxZ c i) (mxZ a g) (mnZ e k) (mnZ f l) x y z = Nat.beq n 5) (p6 : hasB (mnZ d j) (mxZ b h) (mxZ c i) d (mnZ e k) (mnZ f l) x y z = Nat.beq n 6) :
    ∀ r ∈ bpParts n, CallIs Try.prog (bpSym a b c d e f g h i j k l x y z (mxZ a g) (mxZ b h) (mxZ c i) (mnZ d j) (mnZ e k) (mnZ f l) (mnZ a g) (mnZ b h) (mnZ c i) (mxZ d j) (mxZ e k) (mxZ f l)) r := by
  intro r hr
  simp only [bpParts, List.mem_cons, List.not_mem_nil, or_false] at hr
  rcases hr with rfl | rfl | rfl | rfl | rfl | rfl
  · exact ⟨[b6 a b c d e (mxZ c i), v3 x y z], .bool (Nat.beq n 1), rfl, rfl, has_is p1⟩
  · exact ⟨[b6 a b (mnZ f l) d e f, v3 x y z], .bool (Nat.beq n 2), rfl, rfl, has_is p2⟩
  · exact ⟨[b6 a b (mxZ c i) d (mxZ b h) (mnZ f l), v3 x y z], .bool (Nat.beq n 3), rfl, rfl, has_is p3⟩
  · exact ⟨[b6 a (mnZ e k) (mxZ c i) d e (mnZ f l), v3 x y z], .bool (Nat.beq n 4), rfl, rfl, has_is p4⟩
  · exact ⟨[b6 a (mxZ b h) (mxZ c i) (mxZ a g) (mnZ e k) (mnZ f l), v3 x y z], .bool (Nat.beq n 5), rfl, rfl, has_is p5⟩
  · exact ⟨[b6 (mnZ d j) (mxZ b h) (mxZ c i) d (mnZ e k) (mnZ f l), v3 x y z], .bool (Nat.beq n 6), rfl, rfl, has_is p6⟩
theorem bpo_mm (a b c d e f g h i j k l x y z : Int) : ∀ r ∈ bpMm, OpIs Try.prog (bpSym a b c d e f g h i j k l x y z (mxZ a g) (mxZ b h) (mxZ c i) (mnZ d j) (mnZ e k) (mnZ f l) (mnZ a g) (mnZ b h) (mnZ c i) (mxZ d j) (mxZ e k) (mxZ f l)) r := by
  intro r hr
  simp only [bpMm, List.mem_cons, List.not_mem_nil, or_false] at hr
  rcases hr with rfl | rfl | rfl | rfl | rfl | rfl | rfl | rfl | rfl | rfl | rfl | rfl
  · exact ⟨[iv a, iv g], iv (mxZ a g), rfl, rfl, tells_mx rfl⟩
  · exact ⟨[iv b, iv h], iv (mxZ b h), rfl, rfl, tells_mx rfl⟩
  · exact ⟨[iv c, iv i], iv (mxZ c i), rfl, rfl, tells_mx rfl⟩
  · exact ⟨[iv d, iv j], iv (mnZ d j), rfl, rfl, tells_mn rfl⟩
  · exact ⟨[iv e, iv k], iv (mnZ e k), rfl, rfl, tells_mn rfl⟩
  · exact ⟨[iv f, iv l], iv (mnZ f l), rfl, rfl, tells_mn rfl⟩
  · exact ⟨[iv a, iv g], iv (mnZ a g), rfl, rfl, tells_mn rfl⟩
  · exact ⟨[iv b, iv h], iv (mnZ b h), rfl, rfl, tells_mn rfl⟩
  · exact ⟨[iv c, iv i], iv (mnZ c i), rfl, rfl, tells_mn rfl⟩
  · exact ⟨[iv d, iv j], iv (mxZ d j), rfl, rfl, tells_mx rfl⟩
  · exact ⟨[iv e, iv k], iv (mxZ e k), rfl, rfl, tells_mx rfl⟩
  · exact ⟨[iv f, iv l], iv (mxZ f l), rfl, rfl, tells_mx rfl⟩
theorem bpo_ov (a b c d e f g h i j k l x y z : Int) {o1 o2 o3 : Bool} (u1 : decide ((mxZ a g) < (mnZ d j)) = o1) (u2 : decide ((mxZ b h) < (mnZ e k)) = o2) (u3 : decide ((mxZ c i) < (mnZ f l)) = o3) : ∀ r ∈ bpOv o1 o2 o3, OpIs Try.prog (bpSym a b c d e f g h i j k l x y z (mxZ a g) (mxZ b h) (mxZ c i) (mnZ d j) (mnZ e k) (mnZ f l) (mnZ a g) (mnZ b h) (mnZ c i) (mxZ d j) (mxZ e k) (mxZ f l)) r := by
  intro r hr
  simp only [bpOv, List.mem_cons, List.not_mem_nil, or_false] at hr
  rcases hr with rfl | rfl | rfl
  · exact ⟨[iv (mxZ a g), iv (mnZ d j)], .bool o1, rfl, rfl, tells_lss u1⟩
  · exact ⟨[iv (mxZ b h), iv (mnZ e k)], .bool o2, rfl, rfl, tells_lss u2⟩
  · exact ⟨[iv (mxZ c i), iv (mnZ f l)], .bool o3, rfl, rfl, tells_lss u3⟩
theorem bpo_t (a b c d e f g h i j k l x y z : Int) {t1 t2 t3 t4 t5 t6 : Bool} (hx : a < d) (hy : b < e) (r1 : decide (c < (mxZ c i)) = t1) (r2 : decide ((mnZ f l) < f) = t2) (r3 : decide (b < (mxZ b h)) = t3) (r4 : decide ((mnZ e k) < e) = t4) (r5 : decide (a < (mxZ a g)) = t5) (r6 : decide ((mnZ d j) < d) = t6) : ∀ r ∈ bpT t1 t2 t3 t4 t5 t6, OpIs Try.prog (bpSym a b c d e f g h i j k l x y z (mxZ a g) (mxZ b h) (mxZ c i) (mnZ d j) (mnZ e k) (mnZ f l) (mnZ a g) (mnZ b h) (mnZ c i) (mxZ d j) (mxZ e k) (mxZ f l)) r := by
  intro r hr
  simp only [bpT, List.mem_cons, List.not_mem_nil, or_false] at hr
  rcases hr with rfl | rfl | rfl | rfl | rfl | rfl | rfl | rfl
  · exact ⟨[iv a, iv d], .bool true, rfl, rfl, tells_lss (decide_eq_true hx)⟩
  · exact ⟨[iv b, iv e], .bool true, rfl, rfl, tells_lss (decide_eq_true hy)⟩
  · exact ⟨[iv c, iv (mxZ c i)], .bool t1, rfl, rfl, tells_lss r1⟩
  · exact ⟨[iv (mnZ f l), iv f], .bool t2, rfl, rfl, tells_lss r2⟩
  · exact ⟨[iv b, iv (mxZ b h)], .bool t3, rfl, rfl, tells_lss r3⟩
  · exact ⟨[iv (mnZ e k), iv e], .bool t4, rfl, rfl, tells_lss r4⟩
  · exact ⟨[iv a, iv (mxZ a g)], .bool t5, rfl, rfl, tells_lss r5⟩
  · exact ⟨[iv (mnZ d j), iv d], .bool t6, rfl, rfl, tells_lss r6⟩
theorem mem_app {α : Type} {p : α → Prop} {a b : List α} (ha : ∀ r ∈ a, p r) (hb : ∀ r ∈ b, p r) : ∀ r ∈ a ++ b, p r := by
  intro r hr
  rcases List.mem_append.1 hr with h | h
  · exact ha r h
  · exact hb r h
theorem bp_bad (a b c d e f g h i j k l x y z : Int) (he : (chkB a b c d e f = 1 ∨ chkB a b c d e f = 6) ∨ (chkB a b c d e f = 0 ∧ (chkB g h i j k l = 1 ∨ chkB g h i j k l = 6))) (w : World) :
    Calls Try.prog 3 #[b6 a b c d e f, b6 g h i j k l, v3 x y z] w fun q w' => q = .returned (.bool true) ∧ Below w.heap.size w w' :=
  calls_toldV (by kernel_rfl) (bpSym a b c d e f g h i j k l x y z (mxZ a g) (mxZ b h) (mxZ c i) (mnZ d j) (mnZ e k) (mnZ f l) (mnZ a g) (mnZ b h) (mnZ c i) (mxZ d j) (mxZ e k) (mxZ f l)) _ [] [] (bpc_base a b c d e f g h i j k l x y z) (fun _ h => by cases h) (fun _ h => by cases h) (n := 300) (args := bpArgs) (xs := [b6 a b c d e f, b6 g h i j k l, v3 x y z]) rfl (evBp0 _ _ _ _ _ _ _ _ _ _ _ _ _ _ _ _ _ _ _ _ _ _ _ _ _ _ _ _ _ he) w
theorem bp_apart (a b c d e f g h i j k l x y z : Int) (e1 : chkB a b c d e f = 0) (e2 : chkB g h i j k l = 0) {o1 o2 o3 inA inB hc hh : Bool} (g1 : hasB a b c d e f x y z = inA) (g2 : hasB g h i j k l x y z = inB) (g3 : hasB (mxZ a g) (mxZ b h) (mxZ c i) (mnZ d j) (mnZ e k) (mnZ f l) x y z = hc) (g4 : hasB (mnZ a g) (mnZ b h) (mnZ c i) (mxZ d j) (mxZ e k) (mxZ f l) x y z = hh) (u1 : decide ((mxZ a g) < (mnZ d j)) = o1) (u2 : decide ((mxZ b h) < (mnZ e k)) = o2) (u3 : decide ((mxZ c i) < (mnZ f l)) = o3)
    (ho : (o1 && o2 && o3) = false) (hi : (inA && inB) = false) (hx : ((inA || inB) && !hh) = false) (w : World) :
    Calls Try.prog 3 #[b6 a b c d e f, b6 g h i j k l, v3 x y z] w fun q w' => q = .returned (.bool true) ∧ Below w.heap.size w w' :=
  calls_toldV (by kernel_rfl) (bpSym a b c d e f g h i j k l x y z (mxZ a g) (mxZ b h) (mxZ c i) (mnZ d j) (mnZ e k) (mnZ f l) (mnZ a g) (mnZ b h) (mnZ c i) (mxZ d j) (mxZ e k) (mxZ f l)) _ [] _ (mem_app (by have := bpc_base a b c d e f g h i j k l x y z; rw [e1, e2] at this; exact this) (bpc_has a b c d e f g h i j k l x y z g1 g2 g3 g4)) (fun _ h => by cases h) (mem_app (bpo_mm a b c d e f g h i j k l x y z) (bpo_ov a b c d e f g h i j k l x y z u1 u2 u3)) (n := 300) (args := bpArgs) (xs := [b6 a b c d e f, b6 g h i j k l, v3 x y z]) rfl (evBp1 _ _ _ _ _ _ _ _ _ _ _ _ _ _ _ _ _ _ _ _ _ _ _ _ _ _ _ o1 o2 o3 inA inB hc hh ho hi hx) w
/-- Where they overlap: any list of facts that the law's run asks for. -/
theorem bp_over (a b c d e f g h i j k l x y z : Int) (e1 : chkB a b c d e f = 0) (e2 : chkB g h i j k l = 0) (hx : a < d) (hy : b < e) {t1 t2 t3 t4 t5 t6 inA inB hc hh : Bool} {n : Nat} (g1 : hasB a b c d e f x y z = inA) (g2 : hasB g h i j k l x y z = inB) (g3 : hasB (mxZ a g) (mxZ b h) (mxZ c i) (mnZ d j) (mnZ e k) (mnZ f l) x y z = hc) (g4 : hasB (mnZ a g) (mnZ b h) (mnZ c i) (mxZ d j) (mxZ e k) (mxZ f l) x y z = hh)
    (u1 : decide ((mxZ a g) < (mnZ d j)) = true) (u2 : decide ((mxZ b h) < (mnZ e k)) = true) (u3 : decide ((mxZ c i) < (mnZ f l)) = true) (r1 : decide (c < (mxZ c i)) = t1) (r2 : decide ((mnZ f l) < f) = t2) (r3 : decide (b < (mxZ b h)) = t3) (r4 : decide ((mnZ e k) < e) = t4) (r5 : decide (a < (mxZ a g)) = t5) (r6 : decide ((mnZ d j) < d) = t6) (p1 : hasB a b c d e (mxZ c i) x y z = Nat.beq n 1) (p2 : hasB a b (mnZ f l) d e f x y z = Nat.beq n 2) (p3 : hasB a b (mxZ c i) d (mxZ b h) (mnZ f l) x y z = Nat.beq n 3) (p4 : hasB a (mnZ e k) (mxZ c i) d e (mnZ f l) x y z = Nat.beq n 4) (p5 : hasB a (mxZ b h) (mxZ c i) (mxZ a g) (mnZ e k) (mnZ f l) x y z = Nat.beq n 5) (p6 : hasB (mnZ d j) (mxZ b h) (mxZ c i) d (mnZ e k) (mnZ f l) x y z = Nat.beq n 6)
    (ev : @evalBeside (toldV (bpSym a b c d e f g h i j k l x y z (mxZ a g) (mxZ b h) (mxZ c i) (mnZ d j) (mnZ e k) (mnZ f l) (mnZ a g) (mnZ b h) (mnZ c i) (mxZ d j) (mxZ e k) (mxZ f l)) (bpBase 0 0 ++ (bpHas inA inB hc hh ++ bpParts n)) [] (bpMm ++ (bpOv true true true ++ bpT t1 t2 t3 t4 t5 t6))) Try.prog 300 3 bpArgs [] = some (.bool true)) (w : World) :
    Calls Try.prog 3 #[b6 a b c d e f, b6 g h i j k l, v3 x y z] w fun q w' => q = .returned (.bool true) ∧ Below w.heap.size w w' :=
  calls_toldV (by kernel_rfl) (bpSym a b c d e f g h i j k l x y z (mxZ a g) (mxZ b h) (mxZ c i) (mnZ d j) (mnZ e k) (mnZ f l) (mnZ a g) (mnZ b h) (mnZ c i) (mxZ d j) (mxZ e k) (mxZ f l)) _ [] _ (mem_app (by have := bpc_base a b c d e f g h i j k l x y z; rw [e1, e2] at this; exact this) (mem_app (bpc_has a b c d e f g h i j k l x y z g1 g2 g3 g4) (bpc_parts a b c d e f g h i j k l x y z p1 p2 p3 p4 p5 p6))) (fun _ h => by cases h) (mem_app (bpo_mm a b c d e f g h i j k l x y z) (mem_app (bpo_ov a b c d e f g h i j k l x y z u1 u2 u3) (bpo_t a b c d e f g h i j k l x y z hx hy r1 r2 r3 r4 r5 r6))) (n := 300) (args := bpArgs) (xs := [b6 a b c d e f, b6 g h i j k l, v3 x y z]) rfl ev w

theorem bp_main (a b c d e f g h i j k l x y z : Int) (w : World) :
    Calls Try.prog 3 #[b6 a b c d e f, b6 g h i j k l, v3 x y z] w fun q w' => q = .returned (.bool true) ∧ Below w.heap.size w w' := by
  rcases chkB_val a b c d e f with ⟨e1, hx, hy, hz⟩ | e1
  case inr => exact bp_bad a b c d e f g h i j k l x y z (.inl e1) w
  rcases chkB_val g h i j k l with ⟨e2, hx', hy', hz'⟩ | e2
  case inr => exact bp_bad a b c d e f g h i j k l x y z (.inr ⟨e1, e2⟩) w
  have gc : hasB (mxZ a g) (mxZ b h) (mxZ c i) (mnZ d j) (mnZ e k) (mnZ f l) x y z = (hasB a b c d e f x y z && hasB g h i j k l x y z) := by
    rw [Bool.eq_iff_iff, Bool.and_eq_true, hasB_t, hasB_t, hasB_t, mxZ_le, mxZ_le, mxZ_le, lt_mnZ, lt_mnZ, lt_mnZ]
    omega
  have gh : ((hasB a b c d e f x y z || hasB g h i j k l x y z) && !hasB (mnZ a g) (mnZ b h) (mnZ c i) (mxZ d j) (mxZ e k) (mxZ f l) x y z) = false := by
    rw [Bool.eq_false_iff]
    intro q
    rw [Bool.and_eq_true, Bool.or_eq_true, Bool.not_eq_true', hasB_t, hasB_t, hasB_f] at q
    have q1 := @mnZ_le a g
    have q2 := @mnZ_le b h
    have q3 := @mnZ_le c i
    have q4 := @le_mxZ d j
    have q5 := @le_mxZ e k
    have q6 := @le_mxZ f l
    omega
  by_cases hov : (mxZ a g) < (mnZ d j) ∧ (mxZ b h) < (mnZ e k) ∧ (mxZ c i) < (mnZ f l)
  case neg =>
    refine bp_apart a b c d e f g h i j k l x y z e1 e2 rfl rfl rfl rfl rfl rfl rfl ?_ ?_ gh w
    · rw [Bool.eq_false_iff]
      intro q
      simp only [Bool.and_eq_true, decide_eq_true_eq] at q
      omega
    · rw [← gc, hasB_f]
      omega
  obtain ⟨o1, o2, o3⟩ := hov
  have w1 := @le_mxZ a g
  have w2 := @le_mxZ b h
  have w3 := @le_mxZ c i
  have w4 : (mnZ d j) ≤ d := by unfold mnZ; split <;> omega
  have w5 : (mnZ e k) ≤ e := by unfold mnZ; split <;> omega
  have w6 : (mnZ f l) ≤ f := by unfold mnZ; split <;> omega
  have hov : decide ((mxZ a g) < (mnZ d j)) = true ∧ decide ((mxZ b h) < (mnZ e k)) = true ∧ decide ((mxZ c i) < (mnZ f l)) = true := ⟨decide_eq_true o1, decide_eq_true o2, decide_eq_true o3⟩
  by_cases hin : hasB a b c d e f x y z = true ∧ hasB g h i j k l x y z = false
  case neg =>
    have hm : (hasB a b c d e f x y z && !hasB g h i j k l x y z) = false := by
      rw [Bool.eq_false_iff]
      intro q
      simp only [Bool.and_eq_true, Bool.not_eq_true'] at q
      exact hin q
    have hn : (a ≤ x ∧ b ≤ y ∧ c ≤ z ∧ x < d ∧ y < e ∧ z < f) → ((mxZ a g) ≤ x ∧ (mxZ b h) ≤ y ∧ (mxZ c i) ≤ z ∧ x < (mnZ d j) ∧ y < (mnZ e k) ∧ z < (mnZ f l)) := by
      intro q
      rw [← hasB_t] at q ⊢
      rw [gc, q]
      rw [q] at hm
      simpa using hm
    refine bp_over a b c d e f g h i j k l x y z e1 e2 hx hy rfl rfl gc rfl hov.1 hov.2.1 hov.2.2 rfl rfl rfl rfl rfl rfl (n := 0) ?_ ?_ ?_ ?_ ?_ ?_ (evNone _ _ _ _ _ _ _ _ _ _ _ _ _ _ _ _ _ _ _ _ _ _ _ _ _ _ _ _ _ _ _ _ _ _ _ _ hm gh) w
    all_goals
      show _ = false
      rw [hasB_f]
      omega
  obtain ⟨hA, hB⟩ := hin
  have hC : hasB (mxZ a g) (mxZ b h) (mxZ c i) (mnZ d j) (mnZ e k) (mnZ f l) x y z = false := by rw [gc, hA, hB]; rfl
  have hH : hasB (mnZ a g) (mnZ b h) (mnZ c i) (mxZ d j) (mxZ e k) (mxZ f l) x y z = true := by rw [hA, hB] at gh; simpa using gh
  have hA' := hasB_t.1 hA
  have hC' := hasB_f.1 hC
  by_cases k1 : z < (mxZ c i)
  case pos =>
    refine bp_over a b c d e f g h i j k l x y z e1 e2 hx hy hA hB hC hH hov.1 hov.2.1 hov.2.2 (decide_eq_true (by omega)) rfl rfl rfl rfl rfl (n := 1) ?_ ?_ ?_ ?_ ?_ ?_ (evOne1 _ _ _ _ _ _ _ _ _ _ _ _ _ _ _ _ _ _ _ _ _ _ _ _ _ _ _ _ _ _ _ _) w
    · show _ = true
      rw [hasB_t]
      omega
    · show _ = false
      rw [hasB_f]
      omega
    · show _ = false
      rw [hasB_f]
      omega
    · show _ = false
      rw [hasB_f]
      omega
    · show _ = false
      rw [hasB_f]
      omega
    · show _ = false
      rw [hasB_f]
      omega
  by_cases k2 : (mnZ f l) ≤ z
  case pos =>
    refine bp_over a b c d e f g h i j k l x y z e1 e2 hx hy hA hB hC hH hov.1 hov.2.1 hov.2.2 rfl (decide_eq_true (by omega)) rfl rfl rfl rfl (n := 2) ?_ ?_ ?_ ?_ ?_ ?_ (evOne2 _ _ _ _ _ _ _ _ _ _ _ _ _ _ _ _ _ _ _ _ _ _ _ _ _ _ _ _ _ _ _ _) w
    · show _ = false
      rw [hasB_f]
      omega
    · show _ = true
      rw [hasB_t]
      omega
    · show _ = false
      rw [hasB_f]
      omega
    · show _ = false
      rw [hasB_f]
      omega
    · show _ = false
      rw [hasB_f]
      omega
    · show _ = false
      rw [hasB_f]
      omega
  by_cases k3 : y < (mxZ b h)
  case pos =>
    refine bp_over a b c d e f g h i j k l x y z e1 e2 hx hy hA hB hC hH hov.1 hov.2.1 hov.2.2 rfl rfl (decide_eq_true (by omega)) rfl rfl rfl (n := 3) ?_ ?_ ?_ ?_ ?_ ?_ (evOne3 _ _ _ _ _ _ _ _ _ _ _ _ _ _ _ _ _ _ _ _ _ _ _ _ _ _ _ _ _ _ _ _) w
    · show _ = false
      rw [hasB_f]
      omega
    · show _ = false
      rw [hasB_f]
      omega
    · show _ = true
      rw [hasB_t]
      omega
    · show _ = false
      rw [hasB_f]
      omega
    · show _ = false
      rw [hasB_f]
      omega
    · show _ = false
      rw [hasB_f]
      omega
  by_cases k4 : (mnZ e k) ≤ y
  case pos =>
    refine bp_over a b c d e f g h i j k l x y z e1 e2 hx hy hA hB hC hH hov.1 hov.2.1 hov.2.2 rfl rfl rfl (decide_eq_true (by omega)) rfl rfl (n := 4) ?_ ?_ ?_ ?_ ?_ ?_ (evOne4 _ _ _ _ _ _ _ _ _ _ _ _ _ _ _ _ _ _ _ _ _ _ _ _ _ _ _ _ _ _ _ _) w
    · show _ = false
      rw [hasB_f]
      omega
    · show _ = false
      rw [hasB_f]
      omega
    · show _ = false
      rw [hasB_f]
      omega
    · show _ = true
      rw [hasB_t]
      omega
    · show _ = false
      rw [hasB_f]
      omega
    · show _ = false
      rw [hasB_f]
      omega
  by_cases k5 : x < (mxZ a g)
  case pos =>
    refine bp_over a b c d e f g h i j k l x y z e1 e2 hx hy hA hB hC hH hov.1 hov.2.1 hov.2.2 rfl rfl rfl rfl (decide_eq_true (by omega)) rfl (n := 5) ?_ ?_ ?_ ?_ ?_ ?_ (evOne5 _ _ _ _ _ _ _ _ _ _ _ _ _ _ _ _ _ _ _ _ _ _ _ _ _ _ _ _ _ _ _ _) w
    · show _ = false
      rw [hasB_f]
      omega
    · show _ = false
      rw [hasB_f]
      omega
    · show _ = false
      rw [hasB_f]
      omega
    · show _ = false
      rw [hasB_f]
      omega
    · show _ = true
      rw [hasB_t]
      omega
    · show _ = false
      rw [hasB_f]
      omega
  refine bp_over a b c d e f g h i j k l x y z e1 e2 hx hy hA hB hC hH hov.1 hov.2.1 hov.2.2 rfl rfl rfl rfl rfl (decide_eq_true (by omega)) (n := 6) ?_ ?_ ?_ ?_ ?_ ?_ (evOne6 _ _ _ _ _ _ _ _ _ _ _ _ _ _ _ _ _ _ _ _ _ _ _ _ _ _ _ _ _ _ _ _) w
  · show _ = false
    rw [hasB_f]
    omega
  · show _ = false
    rw [hasB_f]
    omega
  · show _ = false
    rw [hasB_f]
    omega
  · show _ = false
    rw [hasB_f]
    omega
  · show _ = false
    rw [hasB_f]
    omega
  · show _ = true
    rw [hasB_t]
    omega

/-- The law, for all boxes and points. -/
theorem boxPoints_main (a b c d e f g h i j k l x y z : Int) (w : World) :
    Calls Try.prog 3 #[b6 a b c d e f, b6 g h i j k l, v3 x y z] w fun q w' => q = .returned (.bool true) ∧ Below w.heap.size w w' := bp_main a b c d e f g h i j k l x y z w
def w3 : Sh := .agg [.i64, .i64, .i64]
def w6 : Sh := .agg [.i64, .i64, .i64, .i64, .i64, .i64]
theorem boxPoints_any (zs : List Int) (hr : InRng (shK [w6, w6, w3]) zs) (w : World) : Calls Try.prog 3 (shV [w6, w6, w3] zs).toArray w fun e w' => e = .returned (.bool true) ∧ Below w.heap.size w w' := by
  obtain ⟨a, b, c, d, e, f, g, h, i, j, k, l, x, y, z, rfl⟩ := len15 (InRng_length hr)
  exact boxPoints_main a b c d e f g h i j k l x y z w
end Go.Proofs.Ytdnnoemhbjmliaa
