/- Layer 4 (fraction): New of both. -/
import Derived.Test.YtdjnnbjpaohaiaaDoorFrK
import Derived.Test.YtdjnnbjpaohaiaaDoorFrI
import Derived.ChangeKeysEq
namespace Go.Proofs.YtdjnnbjpaohaiaaDoor
open Go.RowKit Go.Ev
set_option maxRecDepth 100000

abbrev iv (z : Int) : Value := .int .i64 z
abbrev uv (z : Int) : Value := .int .u64 z
abbrev frV (n d : Int) : Value := .agg #[iv n, iv d]

theorem tells_quoN {t : TypeId} {a b : Nat} (hb : 0 < b) (ha : a < 18446744073709551616) : Tells Tryd.prog (.bin .quo t) [uv a, uv b] (uv ((a / b : Nat) : Int)) := by
  refine tells_quo (by omega) ?_
  have : a / b ≤ a := Nat.div_le_self _ _
  rw [← Int.ofNat_tdiv, IntKind.wrap_u64]
  generalize a / b = c at *
  omega

/-! ### The program's parts -/
abbrev ngSym (n d : Int) : Tm → Sym
  | .v 0 => intSym .i64 n
  | .v 1 => intSym .i64 d
  | .v 2 => intSym .i64 (-n)
  | _ => intSym .i64 0
theorem pNegated_any (n d : Int) (h1 : -9223372036854775808 < n) (h2 : n ≤ 9223372036854775807) (w : World) :
    Calls Tryd.prog 54 #[frV n d] w fun e w' => e = .returned (frV (-n) d) ∧ Below w.heap.size w w' := by
  refine calls_toldS (by kernel_rfl) (ngSym n d) [] [(.un .neg, [.sy 0], .sy 2)] (fun _ h => by cases h) ?_ (n := 300) (args := [.agg [.sy 0, .sy 1]]) (xs := [frV n d]) rfl (.agg [.sy 2, .sy 1]) (by kernel_rfl) rfl w
  intro z hz
  simp only [List.mem_cons, List.not_mem_nil, or_false] at hz
  subst hz
  exact ⟨[iv n], iv (-n), rfl, rfl, tells_neg (by rw [IntKind.wrap_i64]; omega)⟩

abbrev plSym (n d : Int) : Tm → Sym
  | .v 0 => intSym .u64 n
  | .v 1 => intSym .u64 d
  | .v 2 => intSym .i64 (IntKind.i64.wrap n)
  | .v 3 => intSym .i64 (IntKind.i64.wrap d)
  | .v 4 => intSym .i64 (-n)
  | _ => intSym .i64 0
abbrev plOps (a b : Bool) : List KOp :=
  [(.bin .geq 45, [.sy 0, .clo (.int .u64 1000000000000000000)], .clo (.bool a)), (.bin .geq 45, [.sy 1, .clo (.int .u64 1000000000000000000)], .clo (.bool b)),
   (.conv 45 2, [.sy 0], .sy 2), (.conv 45 2, [.sy 1], .sy 3)]
abbrev plCalls : Bool → List KCall
  | true => [(54, [.agg [.sy 2, .sy 3]], .agg [.sy 4, .sy 3])]
  | false => []
abbrev errC (e : Int) : CV := .clo (.tuple #[.agg #[.int .i64 0, .int .i64 0], .int .i64 e])
abbrev plRes (neg t : Bool) : CV := cond t (.tup [.agg [cond neg (.sy 4) (.sy 2), .sy 3], .clo (.int .i64 0)]) (errC 6)
theorem evPl (n d : Int) (neg a b : Bool) : resIs (plRes neg (!a && !b)) (evalFn0 Tryd.prog (@evalC (toldV (plSym n d) (plCalls (!a && !b)) [] (plOps a b)) Tryd.prog 300 true) 0 41 [.clo (.bool neg), .sy 0, .sy 1] ⟨0, []⟩) = true := by
  cases neg <;> cases a <;> cases b <;> kernel_rfl
theorem pLowest_any (neg : Bool) (n d : Nat) (w : World) : Calls Tryd.prog 41 #[.bool neg, uv n, uv d] w fun e w' => e = .returned (lowV neg n d) ∧ Below w.heap.size w w' := by
  have hlb : lowB n d = (!decide (1000000000000000000 ≤ (n : Int)) && !decide (1000000000000000000 ≤ (d : Int))) := by
    unfold lowB
    rw [Bool.eq_iff_iff]
    simp only [Bool.and_eq_true, decide_eq_true_eq, Bool.not_eq_true', decide_eq_false_iff_not]
    omega
  refine calls_toldS (by kernel_rfl) (plSym n d) (plCalls (lowB n d)) (plOps (decide (1000000000000000000 ≤ (n : Int))) (decide (1000000000000000000 ≤ (d : Int)))) ?_ ?_ (n := 300) (args := [.clo (.bool neg), .sy 0, .sy 1]) (xs := [.bool neg, uv n, uv d]) rfl (plRes neg (lowB n d)) ?_ ?_ w
  · intro z hz
    cases hb : lowB n d with
    | false => rw [hb] at hz; cases hz
    | true =>
      rw [hb] at hz
      unfold lowB at hb
      simp only [Bool.and_eq_true, decide_eq_true_eq] at hb
      simp only [plCalls, List.mem_cons, List.not_mem_nil, or_false] at hz
      subst hz
      have e1 : IntKind.i64.wrap n = n := by rw [IntKind.wrap_i64]; omega
      exact ⟨[frV (IntKind.i64.wrap n) (IntKind.i64.wrap d)], frV (-n) (IntKind.i64.wrap d), rfl, rfl, fun w => by rw [e1]; exact pNegated_any n _ (by omega) (by omega) w⟩
  · intro z hz
    simp only [plOps, List.mem_cons, List.not_mem_nil, or_false] at hz
    rcases hz with rfl | rfl | rfl | rfl
    · exact ⟨[uv n, uv 1000000000000000000], .bool (decide (1000000000000000000 ≤ (n : Int))), rfl, rfl, tells_geq rfl⟩
    · exact ⟨[uv d, uv 1000000000000000000], .bool (decide (1000000000000000000 ≤ (d : Int))), rfl, rfl, tells_geq rfl⟩
    · exact ⟨[uv n], _, rfl, rfl, tells_int (u := .int .u64) (by kernel_rfl) (by kernel_rfl) rfl⟩
    · exact ⟨[uv d], _, rfl, rfl, tells_int (u := .int .u64) (by kernel_rfl) (by kernel_rfl) rfl⟩
  · rw [hlb]; exact evPl _ _ _ _ _
  · unfold lowV lowF lowE
    cases hb : lowB n d with
    | false => rfl
    | true =>
      unfold lowB at hb
      simp only [Bool.and_eq_true, decide_eq_true_eq] at hb
      have e1 : IntKind.i64.wrap n = n := by rw [IntKind.wrap_i64]; omega
      have e2 : IntKind.i64.wrap d = d := by rw [IntKind.wrap_i64]; omega
      cases neg
      · show some (Value.tuple #[frV (IntKind.i64.wrap n) (IntKind.i64.wrap d), iv 0]) = _
        rw [e1, e2]; rfl
      · show some (Value.tuple #[frV (-n) (IntKind.i64.wrap d), iv 0]) = _
        rw [e2]; rfl

/-! ### New -/
def invV : Value := .tuple #[frV 0 0, iv 1]
def newV (num den : Int) : Value := cond (decide (den = 0)) invV (redV (decide (num < 0) != decide (den < 0)) num.natAbs den.natAbs)
abbrev neSym (num den : Int) (s t g a b : Int) (x y e : Int) : Tm → Sym
  | .v 0 => intSym .i64 num
  | .v 1 => intSym .i64 den
  | .v 2 => intSym .u64 s
  | .v 3 => intSym .u64 t
  | .v 4 => intSym .u64 g
  | .v 5 => intSym .u64 a
  | .v 6 => intSym .u64 b
  | .v 20 => intSym .i64 x
  | .v 21 => intSym .i64 y
  | .v 22 => intSym .i64 e
  | _ => intSym .i64 0
abbrev neZ (z : Bool) : List KOp := [(.bin .eql 2, [.sy 1, .clo (.int .i64 0)], .clo (.bool z))]
abbrev neCalls (p q : Bool) : List KCall :=
  [(40, [.sy 0], .sy 2), (40, [.sy 1], .sy 3), (39, [.sy 2, .sy 3], .sy 4),
   (41, [.clo (.bool (p != q)), .sy 5, .sy 6], .tup [.agg [.sy 20, .sy 21], .sy 22])]
abbrev neOps (p q : Bool) : List KOp :=
  [(.bin .lss 2, [.sy 0, .clo (.int .i64 0)], .clo (.bool p)), (.bin .lss 2, [.sy 1, .clo (.int .i64 0)], .clo (.bool q)),
   (.bin .quo 45, [.sy 2, .sy 4], .sy 5), (.bin .quo 45, [.sy 3, .sy 4], .sy 6)]
abbrev neRes : CV := .tup [.agg [.sy 20, .sy 21], .sy 22]
theorem evNe (num den s t g a b x y e : Int) (p q : Bool) : resIs neRes (evalFn0 Tryd.prog (@evalC (toldV (neSym num den s t g a b x y e) (neCalls p q) [] (neZ false ++ neOps p q)) Tryd.prog 300 true) 0 11 [.sy 0, .sy 1] ⟨0, []⟩) = true := by
  cases p <;> cases q <;> kernel_rfl
theorem redV_tup (neg : Bool) (n d : Nat) : ∃ x y e, redV neg n d = .tuple #[frV x y, iv e] := ⟨_, _, _, rfl⟩
theorem pNew_any (num den : Int) (h1 : In64 num) (h2 : In64 den) (w : World) : Calls Tryd.prog 11 #[iv num, iv den] w fun e w' => e = .returned (newV num den) ∧ Below w.heap.size w w' := by
  by_cases hz : den = 0
  · subst hz
    refine calls_toldS (by kernel_rfl) (neSym num 0 0 0 0 0 0 0 0 0) [] (neZ true) (fun _ h => by cases h) ?_ (n := 300) (args := [.sy 0, .sy 1]) (xs := [iv num, iv 0]) rfl (errC 1) (by kernel_rfl) rfl w
    intro z hz
    simp only [neZ, List.mem_cons, List.not_mem_nil, or_false] at hz
    subst hz
    exact ⟨[iv 0, iv 0], .bool true, rfl, rfl, tells_eql rfl⟩
  · unfold newV
    rw [decide_eq_false hz, cond_false]
    obtain ⟨h1, h1'⟩ := h1
    obtain ⟨h2, h2'⟩ := h2
    generalize hp : decide (num < 0) = p
    generalize hq : decide (den < 0) = q
    obtain ⟨x, y, e, hr⟩ := redV_tup (p != q) num.natAbs den.natAbs
    have hl := fun w => pLowest_any (p != q) (num.natAbs / Nat.gcd num.natAbs den.natAbs) (den.natAbs / Nat.gcd num.natAbs den.natAbs) w
    rw [show lowV (p != q) (num.natAbs / Nat.gcd num.natAbs den.natAbs) (den.natAbs / Nat.gcd num.natAbs den.natAbs) = redV (p != q) num.natAbs den.natAbs from rfl, hr] at hl
    have hd := fun w => divisor_any num.natAbs den.natAbs (by omega) (by omega) w
    have g0 : 0 < Nat.gcd num.natAbs den.natAbs := Nat.gcd_pos_of_pos_right _ (by omega)
    rw [hr]
    have d1 : num.natAbs / Nat.gcd num.natAbs den.natAbs ≤ num.natAbs := Nat.div_le_self _ _
    have d2 : den.natAbs / Nat.gcd num.natAbs den.natAbs ≤ den.natAbs := Nat.div_le_self _ _
    refine calls_toldS (by kernel_rfl) (neSym num den num.natAbs den.natAbs (Nat.gcd num.natAbs den.natAbs : Nat) (num.natAbs / Nat.gcd num.natAbs den.natAbs : Nat) (den.natAbs / Nat.gcd num.natAbs den.natAbs : Nat) x y e) (neCalls p q) (neZ false ++ neOps p q) ?_ ?_ (n := 300) (args := [.sy 0, .sy 1]) (xs := [iv num, iv den]) rfl neRes (evNe _ _ _ _ _ _ _ _ _ _ _ _) rfl w
    · intro z hz
      simp only [neCalls, List.mem_cons, List.not_mem_nil, or_false] at hz
      rcases hz with rfl | rfl | rfl | rfl
      · exact ⟨[iv num], uv num.natAbs, rfl, rfl, fun w => (size_any num h1 h1' w).mono fun _ _ ⟨h1, h2⟩ => ⟨h1, by rw [h2]; exact Below.refl _ _⟩⟩
      · exact ⟨[iv den], uv den.natAbs, rfl, rfl, fun w => (size_any den h2 h2' w).mono fun _ _ ⟨h1, h2⟩ => ⟨h1, by rw [h2]; exact Below.refl _ _⟩⟩
      · exact ⟨[uv num.natAbs, uv den.natAbs], _, rfl, rfl, hd⟩
      · exact ⟨[.bool (p != q), uv _, uv _], .tuple #[frV x y, iv e], rfl, rfl, hl⟩
    · intro z hzz
      simp only [neZ, neOps, List.cons_append, List.nil_append, List.mem_cons, List.not_mem_nil, or_false] at hzz
      rcases hzz with rfl | rfl | rfl | rfl | rfl
      · exact ⟨[iv den, iv 0], .bool false, rfl, rfl, tells_eql (decide_eq_false hz)⟩
      · exact ⟨[iv num, iv 0], .bool p, rfl, rfl, tells_lss hp⟩
      · exact ⟨[iv den, iv 0], .bool q, rfl, rfl, tells_lss hq⟩
      · exact ⟨[uv num.natAbs, uv _], uv _, rfl, rfl, tells_quoN g0 (by omega)⟩
      · exact ⟨[uv den.natAbs, uv _], uv _, rfl, rfl, tells_quoN g0 (by omega)⟩

abbrev onSym (n m : Int) : Tm → Sym
  | .v 0 => intSym .i64 n
  | .v 1 => intSym .u64 (hiW m)
  | .v 2 => intSym .u64 (loW m)
  | _ => intSym .i64 0
theorem rOne_any (n : Int) (h : In64 n) (w : World) : Calls Tryd.prog 42 #[iv n] w fun e w' => e = .returned (wide3 n.natAbs (decide (n < 0))) ∧ Below w.heap.size w w' := by
  have ht := fun w => rTimes_any n 1 h (by unfold In64; decide) (decide (n < 0)) (by simp) w
  rw [show (n.natAbs : Int) * ((1 : Int).natAbs : Int) = n.natAbs by simp] at ht
  generalize decide (n < 0) = p at *
  refine calls_toldS (by kernel_rfl) (onSym n n.natAbs) [(56, [.sy 0, .clo (.int .i64 1)], .agg [.sy 1, .sy 2, .clo (.bool p)])] [] ?_ (fun _ h => by cases h) (n := 300) (args := [.sy 0]) (xs := [iv n]) rfl (.agg [.sy 1, .sy 2, .clo (.bool p)]) (by cases p <;> kernel_rfl) rfl w
  intro z hz
  simp only [List.mem_cons, List.not_mem_nil, or_false] at hz
  subst hz
  exact ⟨[iv n, iv 1], _, rfl, rfl, ht⟩
abbrev rnSym (num den : Int) (n d x y e : Int) : Tm → Sym
  | .v 0 => intSym .i64 num
  | .v 1 => intSym .i64 den
  | .v 2 => intSym .u64 (hiW n)
  | .v 3 => intSym .u64 (loW n)
  | .v 4 => intSym .u64 (hiW d)
  | .v 5 => intSym .u64 (loW d)
  | .v 20 => intSym .i64 x
  | .v 21 => intSym .i64 y
  | .v 22 => intSym .i64 e
  | _ => intSym .i64 0
abbrev rnCalls (p q : Bool) : List KCall :=
  [(42, [.sy 0], .agg [.sy 2, .sy 3, .clo (.bool p)]), (42, [.sy 1], .agg [.sy 4, .sy 5, .clo (.bool q)]),
   (43, [.agg [.sy 2, .sy 3, .clo (.bool (p != q))], .agg [.sy 4, .sy 5, .clo (.bool false)]], .tup [.agg [.sy 20, .sy 21], .sy 22])]
theorem evRn (num den n d x y e : Int) (p q : Bool) : resIs neRes (evalFn0 Tryd.prog (@evalC (toldV (rnSym num den n d x y e) (rnCalls p q) [] (neZ false)) Tryd.prog 300 true) 0 12 [.sy 0, .sy 1] ⟨0, []⟩) = true := by
  cases p <;> cases q <;> kernel_rfl
theorem rNew_any (num den : Int) (h1 : In64 num) (h2 : In64 den) (w : World) : Calls Tryd.prog 12 #[iv num, iv den] w fun e w' => e = .returned (newV num den) ∧ Below w.heap.size w w' := by
  by_cases hz : den = 0
  · subst hz
    refine calls_toldS (by kernel_rfl) (rnSym num 0 0 0 0 0 0) [] (neZ true) (fun _ h => by cases h) ?_ (n := 300) (args := [.sy 0, .sy 1]) (xs := [iv num, iv 0]) rfl (errC 1) (by kernel_rfl) rfl w
    intro z hz
    simp only [neZ, List.mem_cons, List.not_mem_nil, or_false] at hz
    subst hz
    exact ⟨[iv 0, iv 0], .bool true, rfl, rfl, tells_eql rfl⟩
  · unfold newV
    rw [decide_eq_false hz, cond_false]
    have ho1 := fun w => rOne_any num h1 w
    have ho2 := fun w => rOne_any den h2 w
    obtain ⟨h1, h1'⟩ := h1
    obtain ⟨h2, h2'⟩ := h2
    generalize hp : decide (num < 0) = p at *
    generalize hq : decide (den < 0) = q at *
    obtain ⟨x, y, e, hr⟩ := redV_tup (p != q) num.natAbs den.natAbs
    have hl := fun w => rLowest_any num.natAbs den.natAbs (p != q) (by omega) (by omega) (by omega) w
    rw [hr] at hl ⊢
    refine calls_toldS (by kernel_rfl) (rnSym num den num.natAbs den.natAbs x y e) (rnCalls p q) (neZ false) ?_ ?_ (n := 300) (args := [.sy 0, .sy 1]) (xs := [iv num, iv den]) rfl neRes (evRn _ _ _ _ _ _ _ _ _) rfl w
    · intro z hz
      simp only [rnCalls, List.mem_cons, List.not_mem_nil, or_false] at hz
      rcases hz with rfl | rfl | rfl
      · exact ⟨[iv num], wide3 num.natAbs p, rfl, rfl, ho1⟩
      · exact ⟨[iv den], wide3 den.natAbs q, rfl, rfl, ho2⟩
      · exact ⟨[wide3 num.natAbs (p != q), wide3 den.natAbs false], .tuple #[frV x y, iv e], rfl, rfl, hl⟩
    · intro z hzz
      simp only [neZ, List.mem_cons, List.not_mem_nil, or_false] at hzz
      subst hzz
      exact ⟨[iv den, iv 0], .bool false, rfl, rfl, tells_eql (decide_eq_false hz)⟩

/-! ### Equality of fractions -/
theorem eqFr0 (a b x y : Int) (w : World) : (Op.equalIn 10000 23 (frV a b) (frV x y)).run Tryd.prog w = .ok (decide (a = x ∧ b = y)) w := by
  have u3 := Tryd.underlying2
  have hS : Tryd.prog.underlying 23 = some (.struct (Tryd.prog.fieldsOf 23)) := by kernel_rfl
  have hp : Tryd.prog.stoodInHeld 23 = false := by kernel_rfl
  rw [show (10000 : Nat) = 9999 + 1 from rfl, run_equalIn_agg w 9999 23 _ _ hS hp]
  simp only [Program.fieldsOf, Tryd.underlying23]
  go_simp
  by_cases h1 : a = x <;> by_cases h2 : b = y <;> simp [h1, h2]
theorem fr_eq {sym : Tm → Sym} {x y : CV} {a b c d : Int} (hx : @den (told sym [] []) (fun _ => none) x = some (frV a b)) (hy : @den (told sym [] []) (fun _ => none) y = some (frV c d)) {r : Bool} (hr : decide (a = c ∧ b = d) = r) : EqIs Tryd.prog sym (23, x, y, r) := by
  subst hr
  exact ⟨frV a b, frV c d, hx, hy, fun w xo yo => ⟨run_eqGuard_agg _ _ _ _ _ _ _ (by kernel_rfl), run_eqGuard_agg _ _ _ _ _ _ _ (by kernel_rfl)⟩,
    fun w => ⟨by rw [run_eql_struct, eqFr0]; rfl, by rw [run_neq_struct, eqFr0]; rfl⟩⟩
end Go.Proofs.YtdjnnbjpaohaiaaDoor
