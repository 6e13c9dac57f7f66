/- Layer 6 (box): contracts of Move. -/
import Derived.Test.YtonhlfaddfgpaaaBoB
namespace Go.Proofs.Ytonhlfaddfgpaaa
open Go.RowKit Go.Ev
set_option linter.unusedSimpArgs false
set_option maxRecDepth 100000

theorem mvBad {a b c d e f x y z : Int} (h : mvE a b c d e f x y z = 6) : some (Value.tuple #[.agg #[.int .i64 0, .int .i64 0, .int .i64 0, .int .i64 0, .int .i64 0, .int .i64 0], .int .i64 6]) = some (Value.tuple #[.agg #[.int .i64 (mvC (mvE a b c d e f x y z) a x), .int .i64 (mvC (mvE a b c d e f x y z) b y), .int .i64 (mvC (mvE a b c d e f x y z) c z), .int .i64 (mvC (mvE a b c d e f x y z) d x), .int .i64 (mvC (mvE a b c d e f x y z) e y), .int .i64 (mvC (mvE a b c d e f x y z) f z)], .int .i64 (mvE a b c d e f x y z)]) := by
  rw [h]
  rfl
theorem mvBadN {a b c d e f x y z n : Int} (hn : n = 6) (h : mvE a b c d e f x y z = 6) : some (Value.tuple #[.agg #[.int .i64 0, .int .i64 0, .int .i64 0, .int .i64 0, .int .i64 0, .int .i64 0], .int .i64 n]) = some (Value.tuple #[.agg #[.int .i64 (mvC (mvE a b c d e f x y z) a x), .int .i64 (mvC (mvE a b c d e f x y z) b y), .int .i64 (mvC (mvE a b c d e f x y z) c z), .int .i64 (mvC (mvE a b c d e f x y z) d x), .int .i64 (mvC (mvE a b c d e f x y z) e y), .int .i64 (mvC (mvE a b c d e f x y z) f z)], .int .i64 (mvE a b c d e f x y z)]) := by
  subst hn
  exact mvBad h
theorem mvGood {a b c d e f x y z : Int} (h : mvE a b c d e f x y z = 0) : some (Value.tuple #[.agg #[.int .i64 (W (a + x)), .int .i64 (W (b + y)), .int .i64 (W (c + z)), .int .i64 (W (d + x)), .int .i64 (W (e + y)), .int .i64 (W (f + z))], .int .i64 0]) = some (Value.tuple #[.agg #[.int .i64 (mvC (mvE a b c d e f x y z) a x), .int .i64 (mvC (mvE a b c d e f x y z) b y), .int .i64 (mvC (mvE a b c d e f x y z) c z), .int .i64 (mvC (mvE a b c d e f x y z) d x), .int .i64 (mvC (mvE a b c d e f x y z) e y), .int .i64 (mvC (mvE a b c d e f x y z) f z)], .int .i64 (mvE a b c d e f x y z)]) := by
  rw [h]
  rfl
def π1 : Path := [(.eq (.fn 0 (.cons (.v 0) (.cons (.v 1) (.cons (.v 2) (.cons (.v 3) (.cons (.v 4) (.cons (.v 5) .nil))))))) (.lit .i64 0), true)]
/-- What the reference says of a box that is moved a little. -/
theorem rmv {a b c d e f x y z : Int} (h : chkB a b c d e f = 0) (hx : -2000000 ≤ x ∧ x ≤ 2000000) (hy : -2000000 ≤ y ∧ y ≤ 2000000) (hz : -2000000 ≤ z ∧ z ≤ 2000000) :
    (chkB (W (a + x)) (W (b + y)) (W (c + z)) (W (d + x)) (W (e + y)) (W (f + z)) = 0 ∧ mvE a b c d e f x y z = 0) ∨ (chkB (W (a + x)) (W (b + y)) (W (c + z)) (W (d + x)) (W (e + y)) (W (f + z)) = 6 ∧ mvE a b c d e f x y z = 6) := by
  rw [chkB_ok] at h
  unfold W
  rw [wrap64 (a + x) (by omega), wrap64 (b + y) (by omega), wrap64 (c + z) (by omega), wrap64 (d + x) (by omega), wrap64 (e + y) (by omega), wrap64 (f + z) (by omega)]
  have k := @chkB_one (a + x) (b + y) (c + z) (d + x) (e + y) (f + z) ⟨by omega, by omega, by omega⟩
  rw [mvE_0, mvE_6]
  have k0 := @chkB_ok (a + x) (b + y) (c + z) (d + x) (e + y) (f + z)
  rcases k with k | k
  · have := k0.1 k
    exact .inl ⟨k, by omega⟩
  · refine .inr ⟨k, fun hh => ?_⟩
    have := k0.2 (by omega)
    omega

def TMove : Tr :=
(.br (.lt (.v 6) (.bin .sub .i64 (.lit .i64 (-1000000)) (.v 0)))
 (.leaf (.clo (.tuple ⟨[(.agg ⟨[(.int .i64 0), (.int .i64 0), (.int .i64 0), (.int .i64 0), (.int .i64 0), (.int .i64 0)]⟩), (.int .i64 6)]⟩)))
 (.br (.lt (.bin .sub .i64 (.lit .i64 1000000) (.v 3)) (.v 6))
 (.leaf (.clo (.tuple ⟨[(.agg ⟨[(.int .i64 0), (.int .i64 0), (.int .i64 0), (.int .i64 0), (.int .i64 0), (.int .i64 0)]⟩), (.int .i64 6)]⟩)))
 (.br (.lt (.v 7) (.bin .sub .i64 (.lit .i64 (-1000000)) (.v 1)))
 (.leaf (.clo (.tuple ⟨[(.agg ⟨[(.int .i64 0), (.int .i64 0), (.int .i64 0), (.int .i64 0), (.int .i64 0), (.int .i64 0)]⟩), (.int .i64 6)]⟩)))
 (.br (.lt (.bin .sub .i64 (.lit .i64 1000000) (.v 4)) (.v 7))
 (.leaf (.clo (.tuple ⟨[(.agg ⟨[(.int .i64 0), (.int .i64 0), (.int .i64 0), (.int .i64 0), (.int .i64 0), (.int .i64 0)]⟩), (.int .i64 6)]⟩)))
 (.br (.lt (.v 8) (.bin .sub .i64 (.lit .i64 (-1000000)) (.v 2)))
 (.leaf (.clo (.tuple ⟨[(.agg ⟨[(.int .i64 0), (.int .i64 0), (.int .i64 0), (.int .i64 0), (.int .i64 0), (.int .i64 0)]⟩), (.int .i64 6)]⟩)))
 (.br (.lt (.bin .sub .i64 (.lit .i64 1000000) (.v 5)) (.v 8))
 (.leaf (.clo (.tuple ⟨[(.agg ⟨[(.int .i64 0), (.int .i64 0), (.int .i64 0), (.int .i64 0), (.int .i64 0), (.int .i64 0)]⟩), (.int .i64 6)]⟩)))
 (.leaf (.tup [(.agg [(.sy (.bin .add .i64 (.v 0) (.v 6))), (.sy (.bin .add .i64 (.v 1) (.v 7))), (.sy (.bin .add .i64 (.v 2) (.v 8))), (.sy (.bin .add .i64 (.v 3) (.v 6))), (.sy (.bin .add .i64 (.v 4) (.v 7))), (.sy (.bin .add .i64 (.v 5) (.v 8)))]), (.clo (.int .i64 0))]))))))))
def MoveC : Con := ⟨14, [s6, s3], [.agg [6, 7, 8, 9, 10, 11], .i 5], [.fn 0 0 6 .i64 0]⟩
set_option maxHeartbeats 4000000 in
theorem MoveC_ok {S : Val K64} (hf : S.fv = boF.fv) (hp : S.pv = boF.pv) : ConOK Try.prog S anyW MoveC := by
  refine con_from hf hp (by kernel_rfl) mixed (cons := boCons0) (eqs := boEqs) boCons0_ok boEqs_ok (n := 300) (args := [a6 0, a3 6]) (T := TMove) π1 (fun S => by kernel_rfl) ?_ ?_
  · intro zs hz hl
    obtain ⟨a, b, c, d, e, f, x, y, z, rfl⟩ := len9 hl
    rfl
  · intro zs hz hl hpre
    obtain ⟨a, b, c, d, e, f, x, y, z, rfl⟩ := len9 hl
    have h1 : chkB a b c d e f = 0 := hpre (.fn 0 0 6 .i64 0) (by simp [MoveC])
    refine ⟨sat_cons (at_eq_t.2 h1) sat_nil, ?_⟩
    rw [chkB_ok] at h1
    have e0 : IntKind.i64.wrap (-1000000 - a) = -1000000 - a := wrap64 _ (by omega)
    have e1 : IntKind.i64.wrap (-1000000 - b) = -1000000 - b := wrap64 _ (by omega)
    have e2 : IntKind.i64.wrap (-1000000 - c) = -1000000 - c := wrap64 _ (by omega)
    have e3 : IntKind.i64.wrap (1000000 - d) = 1000000 - d := wrap64 _ (by omega)
    have e4 : IntKind.i64.wrap (1000000 - e) = 1000000 - e := wrap64 _ (by omega)
    have e5 : IntKind.i64.wrap (1000000 - f) = 1000000 - f := wrap64 _ (by omega)
    clear hpre
    unfold TMove
    repeat' ((with_reducible refine br_val ?_ ?_) <;> (intro hh; simp only [at_lt_t, at_lt_f, at_eq_t, at_eq_f, tv, row, bV_add, bV_sub, bV_mul, bV_mn, bV_mx, val64_vv, val64_fv, hf, fv0, List.getD_cons_zero, List.getD_cons_succ] at hh))
    all_goals
      show some (Value.tuple #[.agg #[.int .i64 _, .int .i64 _, .int .i64 _, .int .i64 _, .int .i64 _, .int .i64 _], .int .i64 _]) = some (Value.tuple #[.agg #[.int .i64 (mvC (mvE a b c d e f x y z) a x), .int .i64 (mvC (mvE a b c d e f x y z) b y), .int .i64 (mvC (mvE a b c d e f x y z) c z), .int .i64 (mvC (mvE a b c d e f x y z) d x), .int .i64 (mvC (mvE a b c d e f x y z) e y), .int .i64 (mvC (mvE a b c d e f x y z) f z)], .int .i64 (mvE a b c d e f x y z)])
      simp only [e0, e1, e2, e3, e4, e5] at *
      first
      | exact mvBad (mvE_6.2 (by omega))
      | exact @mvGood a b c d e f x y z (mvE_0.2 (by omega))

def TrMove : Tr :=
(.br (.lt (.v 6) (.lit .i64 (-2000000)))
 (.leaf (.clo (.tuple ⟨[(.agg ⟨[(.int .i64 0), (.int .i64 0), (.int .i64 0), (.int .i64 0), (.int .i64 0), (.int .i64 0)]⟩), (.int .i64 6)]⟩)))
 (.br (.lt (.lit .i64 2000000) (.v 6))
 (.leaf (.clo (.tuple ⟨[(.agg ⟨[(.int .i64 0), (.int .i64 0), (.int .i64 0), (.int .i64 0), (.int .i64 0), (.int .i64 0)]⟩), (.int .i64 6)]⟩)))
 (.br (.lt (.v 7) (.lit .i64 (-2000000)))
 (.leaf (.clo (.tuple ⟨[(.agg ⟨[(.int .i64 0), (.int .i64 0), (.int .i64 0), (.int .i64 0), (.int .i64 0), (.int .i64 0)]⟩), (.int .i64 6)]⟩)))
 (.br (.lt (.lit .i64 2000000) (.v 7))
 (.leaf (.clo (.tuple ⟨[(.agg ⟨[(.int .i64 0), (.int .i64 0), (.int .i64 0), (.int .i64 0), (.int .i64 0), (.int .i64 0)]⟩), (.int .i64 6)]⟩)))
 (.br (.lt (.v 8) (.lit .i64 (-2000000)))
 (.leaf (.clo (.tuple ⟨[(.agg ⟨[(.int .i64 0), (.int .i64 0), (.int .i64 0), (.int .i64 0), (.int .i64 0), (.int .i64 0)]⟩), (.int .i64 6)]⟩)))
 (.br (.lt (.lit .i64 2000000) (.v 8))
 (.leaf (.clo (.tuple ⟨[(.agg ⟨[(.int .i64 0), (.int .i64 0), (.int .i64 0), (.int .i64 0), (.int .i64 0), (.int .i64 0)]⟩), (.int .i64 6)]⟩)))
 (.br (.eq (.fn 0 (.cons (.bin .add .i64 (.v 0) (.v 6)) (.cons (.bin .add .i64 (.v 1) (.v 7)) (.cons (.bin .add .i64 (.v 2) (.v 8)) (.cons (.bin .add .i64 (.v 3) (.v 6)) (.cons (.bin .add .i64 (.v 4) (.v 7)) (.cons (.bin .add .i64 (.v 5) (.v 8)) .nil))))))) (.lit .i64 0))
 (.leaf (.tup [(.agg [(.sy (.bin .add .i64 (.v 0) (.v 6))), (.sy (.bin .add .i64 (.v 1) (.v 7))), (.sy (.bin .add .i64 (.v 2) (.v 8))), (.sy (.bin .add .i64 (.v 3) (.v 6))), (.sy (.bin .add .i64 (.v 4) (.v 7))), (.sy (.bin .add .i64 (.v 5) (.v 8)))]), (.clo (.int .i64 0))]))
 (.leaf (.tup [(.clo (.agg ⟨[(.int .i64 0), (.int .i64 0), (.int .i64 0), (.int .i64 0), (.int .i64 0), (.int .i64 0)]⟩)), (.sy (.fn 0 (.cons (.bin .add .i64 (.v 0) (.v 6)) (.cons (.bin .add .i64 (.v 1) (.v 7)) (.cons (.bin .add .i64 (.v 2) (.v 8)) (.cons (.bin .add .i64 (.v 3) (.v 6)) (.cons (.bin .add .i64 (.v 4) (.v 7)) (.cons (.bin .add .i64 (.v 5) (.v 8)) .nil))))))))])))))))))
def rMoveC : Con := ⟨18, [s6, s3], [.agg [6, 7, 8, 9, 10, 11], .i 5], [.fn 0 0 6 .i64 0]⟩
set_option maxHeartbeats 4000000 in
theorem rMoveC_ok {S : Val K64} (hf : S.fv = boF.fv) (hp : S.pv = boF.pv) : ConOK Try.prog S anyW rMoveC := by
  refine con_from hf hp (by kernel_rfl) mixed (cons := boCons0) (eqs := boEqs) boCons0_ok boEqs_ok (n := 300) (args := [a6 0, a3 6]) (T := TrMove) π1 (fun S => by kernel_rfl) ?_ ?_
  · intro zs hz hl
    obtain ⟨a, b, c, d, e, f, x, y, z, rfl⟩ := len9 hl
    rfl
  · intro zs hz hl hpre
    obtain ⟨a, b, c, d, e, f, x, y, z, rfl⟩ := len9 hl
    have h1 : chkB a b c d e f = 0 := hpre (.fn 0 0 6 .i64 0) (by simp [rMoveC])
    refine ⟨sat_cons (at_eq_t.2 h1) sat_nil, ?_⟩
    rw [chkB_ok] at h1

    clear hpre
    unfold TrMove
    repeat' ((with_reducible refine br_val ?_ ?_) <;> (intro hh; simp only [at_lt_t, at_lt_f, at_eq_t, at_eq_f, tv, row, bV_add, bV_sub, bV_mul, bV_mn, bV_mx, val64_vv, val64_fv, hf, fv0, List.getD_cons_zero, List.getD_cons_succ] at hh))
    all_goals
      show some (Value.tuple #[.agg #[.int .i64 _, .int .i64 _, .int .i64 _, .int .i64 _, .int .i64 _, .int .i64 _], .int .i64 _]) = some (Value.tuple #[.agg #[.int .i64 (mvC (mvE a b c d e f x y z) a x), .int .i64 (mvC (mvE a b c d e f x y z) b y), .int .i64 (mvC (mvE a b c d e f x y z) c z), .int .i64 (mvC (mvE a b c d e f x y z) d x), .int .i64 (mvC (mvE a b c d e f x y z) e y), .int .i64 (mvC (mvE a b c d e f x y z) f z)], .int .i64 (mvE a b c d e f x y z)])
      first
      | exact mvBad (mvE_6.2 (by omega))
      | (have k := rmv (chkB_ok.2 h1) (x := x) (y := y) (z := z) (by omega) (by omega) (by omega)
         rcases k with ⟨k1, k2⟩ | ⟨k1, k2⟩
         · first
           | exact @mvGood a b c d e f x y z k2
           | exact absurd k1 hh
         · first
           | exact @mvBadN a b c d e f x y z _ k1 k2
           | (exfalso; have := hh.symm.trans k1; omega))

/-- All contracts; that of awake is a hypothesis. -/
def boConsM : List Con := MoveC :: rMoveC :: boCons
theorem boConsM_ok (hA : Awake) (S : Val K64) (hf : S.fv = boF.fv) (hp : S.pv = boF.pv) : ∀ c ∈ boConsM, ConOK Try.prog S anyW c := by
  intro c hc
  rcases List.mem_cons.1 hc with rfl | hc
  · exact MoveC_ok hf hp
  rcases List.mem_cons.1 hc with rfl | hc
  · exact rMoveC_ok hf hp
  exact boCons_ok hA S hf hp c hc
end Go.Proofs.Ytonhlfaddfgpaaa
