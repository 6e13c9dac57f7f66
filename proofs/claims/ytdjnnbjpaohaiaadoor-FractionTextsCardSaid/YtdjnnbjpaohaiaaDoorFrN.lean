/- Layer 4 (fraction): the law FractionNew. -/
import Derived.Test.YtdjnnbjpaohaiaaDoorFrL
namespace Go.Proofs.YtdjnnbjpaohaiaaDoor
open Go.RowKit Go.Ev
set_option maxRecDepth 100000

theorem red_valid {neg : Bool} {n d : Nat} (hd : 0 < d) (hb : lowB (n / Nat.gcd n d) (d / Nat.gcd n d) = true) : validF (cond neg (-((n / Nat.gcd n d : Nat) : Int)) ((n / Nat.gcd n d : Nat) : Int)) ((d / Nat.gcd n d : Nat) : Int) = true := by
  have g0 : 0 < Nat.gcd n d := Nat.gcd_pos_of_pos_right _ hd
  have hc := Nat.coprime_div_gcd_div_gcd g0
  have hp : 0 < d / Nat.gcd n d := Nat.div_pos (Nat.le_of_dvd hd (Nat.gcd_dvd_right _ _)) g0
  unfold lowB at hb
  simp only [Bool.and_eq_true, decide_eq_true_eq] at hb
  generalize n / Nat.gcd n d = a at *
  generalize d / Nat.gcd n d = b at *
  have e1 : (cond neg (-(a : Int)) (a : Int)).natAbs = a := by cases neg <;> simp
  unfold validF
  rw [decide_eq_true_eq, e1]
  exact ⟨by omega, by omega, hb.1, by rw [Int.natAbs_natCast]; exact hc⟩
theorem in64_valid {x y : Int} (h : validF x y = true) : In64 x ∧ In64 y := by
  obtain ⟨h1, h2, h3, _⟩ := validF_t h
  unfold In64; omega
theorem redV_parts (neg : Bool) {n d : Nat} (hd : 0 < d) : ∃ x y e, redV neg n d = .tuple #[frV x y, iv e] ∧ (e = 0 → validF x y = true) := by
  refine ⟨_, _, _, rfl, ?_⟩
  unfold lowE
  cases hb : lowB (n / Nat.gcd n d) (d / Nat.gcd n d) with
  | false => intro h; cases h
  | true => intro _; exact red_valid hd hb
theorem newV_parts (num den : Int) : ∃ x y e, newV num den = .tuple #[frV x y, iv e] ∧ (e = 0 → validF x y = true) := by
  unfold newV
  by_cases h : den = 0
  · rw [decide_eq_true h]
    exact ⟨0, 0, 1, rfl, fun h => by cases h⟩
  · rw [decide_eq_false h]
    exact redV_parts _ (by omega)

abbrev fnSym (num den fn fd x y e : Int) : Tm → Sym
  | .v 0 => intSym .i64 num
  | .v 1 => intSym .i64 den
  | .v 2 => intSym .i64 fn
  | .v 3 => intSym .i64 fd
  | .v 20 => intSym .i64 x
  | .v 21 => intSym .i64 y
  | .v 22 => intSym .i64 e
  | _ => intSym .i64 0
abbrev fnCalls (v t : Bool) : List KCall :=
  [(13, [], .clo (.bool true)), (11, [.sy 0, .sy 1], neRes), (12, [.sy 0, .sy 1], neRes),
   (14, [.agg [.sy 2, .sy 3]], .clo (.bool v)), (15, [.agg [.sy 2, .sy 3]], .clo (.bool v))] ++ cond t [] [(14, [.agg [.sy 20, .sy 21]], .clo (.bool true))]
abbrev fnOps (t : Bool) : List KOp := [(.bin .eql 24, [.sy 22, .sy 22], .clo (.bool true)), (.bin .neq 24, [.sy 22, .clo (.int .i64 0)], .clo (.bool t))]
abbrev fnEqs : List KEq := [(23, .agg [.sy 20, .sy 21], .agg [.sy 20, .sy 21], true)]
theorem evFn (num den fn fd x y e : Int) (v t : Bool) : @evalBeside (toldK 0 (fnSym num den fn fd x y e) (fnCalls v t) fnEqs (fnOps t) HasPow (gPow + 1) pow_kst) Tryd.prog 300 3 [.sy 0, .sy 1, .agg [.sy 2, .sy 3]] [] = some (.bool true) := by
  cases v <;> cases t <;> kernel_rfl

theorem new_any (num den fn fd : Int) (h1 : In64 num) (h2 : In64 den) (h3 : In64 fn) (h4 : In64 fd) (w : World) (hT : HasPow w) :
    Calls Tryd.prog 3 #[iv num, iv den, frV fn fd] w fun e w' => e = .returned (.bool true) ∧ Below w.heap.size w w' := by
  obtain ⟨x, y, e, hr, hv⟩ := newV_parts num den
  have hn := fun w => pNew_any num den h1 h2 w
  have hn' := fun w => rNew_any num den h1 h2 w
  rw [hr] at hn hn'
  refine calls_toldK (by kernel_rfl) 0 (fnSym num den fn fd x y e) (fnCalls (validF fn fd) (decide (e ≠ 0))) fnEqs (fnOps (decide (e ≠ 0))) HasPow (gPow + 1) pow_kst ?_ ?_ ?_
    (args := [.sy 0, .sy 1, .agg [.sy 2, .sy 3]]) (xs := [iv num, iv den, frV fn fd]) rfl [] (evFn _ _ _ _ _ _ _ _ _) w hT hT.lt' (fun i b h => by simp [look_nil] at h)
  · intro z hz
    rcases List.mem_append.1 hz with hz | hz
    · simp only [List.mem_cons, List.not_mem_nil, or_false] at hz
      rcases hz with rfl | rfl | rfl | rfl | rfl
      · exact ⟨[], .bool true, rfl, rfl, fun w hw => awake_any w hw⟩
      · exact ⟨[iv num, iv den], .tuple #[frV x y, iv e], rfl, rfl, fun w _ => hn w⟩
      · exact ⟨[iv num, iv den], .tuple #[frV x y, iv e], rfl, rfl, fun w _ => hn' w⟩
      · exact ⟨[frV fn fd], _, rfl, rfl, fun w _ => valid_any fn fd h3.1 h3.2 h4.1 h4.2 w⟩
      · exact ⟨[frV fn fd], _, rfl, rfl, fun w _ => rValid_any fn fd h3.1 h3.2 h4.1 h4.2 w⟩
    · by_cases he : e = 0
      · rw [decide_eq_false (by simpa using he)] at hz
        simp only [cond_false, List.mem_cons, List.not_mem_nil, or_false] at hz
        subst hz
        have hvt := hv he
        obtain ⟨k1, k2⟩ := in64_valid hvt
        exact ⟨[frV x y], .bool true, rfl, rfl, fun w _ => by rw [← hvt]; exact valid_any x y k1.1 k1.2 k2.1 k2.2 w⟩
      · rw [decide_eq_true he] at hz
        cases hz
  · intro z hz
    simp only [fnEqs, List.mem_cons, List.not_mem_nil, or_false] at hz
    subst hz
    exact fr_eq (a := x) (b := y) (c := x) (d := y) rfl rfl (by simp)
  · intro z hz
    simp only [fnOps, List.mem_cons, List.not_mem_nil, or_false] at hz
    rcases hz with rfl | rfl
    · exact ⟨[iv e, iv e], .bool true, rfl, rfl, tells_eql (by simp)⟩
    · exact ⟨[iv e, iv 0], .bool (decide (e ≠ 0)), rfl, rfl, tells_neq rfl⟩
end Go.Proofs.YtdjnnbjpaohaiaaDoor
