/- Layer 4 (fraction): the reference's greatest common divisor of numbers of 128 bits, and its fractions in lowest terms. -/
import Derived.Test.YtdjnnbjpaohaiaaDoorFrJ
namespace Go.Proofs.YtdjnnbjpaohaiaaDoor
open Go.RowKit Go.Ev
set_option maxRecDepth 100000

abbrev coSym (x y q r : Int) : Tm → Sym
  | .v 0 => intSym .u64 (hiW x)
  | .v 1 => intSym .u64 (loW x)
  | .v 2 => intSym .u64 (hiW y)
  | .v 3 => intSym .u64 (loW y)
  | .v 4 => intSym .u64 (hiW q)
  | .v 5 => intSym .u64 (loW q)
  | .v 6 => intSym .u64 (hiW r)
  | .v 7 => intSym .u64 (loW r)
  | _ => intSym .i64 0
abbrev coZ (q z : Bool) : KCall := (58, [.agg [.sy 2, .sy 3, .clo (.bool q)]], .clo (.bool z))
abbrev coD (p q : Bool) : KCall := (65, [.agg [.sy 0, .sy 1, .clo (.bool p)], .agg [.sy 2, .sy 3, .clo (.bool q)]], .tup [.agg [.sy 4, .sy 5, .clo (.bool false)], .agg [.sy 6, .sy 7, .clo (.bool false)]])
abbrev coT : List (Nat × CV) := [(2, .ptr 0 0), (3, .ptr 1 0), (4, .ptr 2 0)]
abbrev coB (p q : Bool) (a b c d : CV) : List Blk := [blkW a b p, blkW c d q, blk0]
abbrev CoSt (B : Nat) (x y : Int) (p q : Bool) : Act → World → Prop :=
  Fs 23 [(2, ptrV B), (3, ptrV (B + 1)), (4, ptrV (B + 2))] [cellW B x p, cellW (B + 1) y q, cellW (B + 2) 0 false]
/-- The number that stands in a block. -/
def wval (w : World) (b : Nat) : Nat := match w.heap[b]? with
  | some (.cells c _ _) => (intOf (c.getD 0 undef) * 18446744073709551616 + intOf (c.getD 1 undef)).toNat
  | _ => 0
theorem wval_of {w : World} {b n : Nat} {t : TypeId} {fz : Nat × Nat} {p : Bool} (hn : n < 340282366920938463463374607431768211456) (h : w.heap[b]? = some (.cells #[.int .u64 (hiW n), .int .u64 (loW n), .bool p] t fz)) : wval w b = n := by
  unfold wval
  rw [h]
  show (hiW n * 18446744073709551616 + loW n).toNat = n
  unfold hiW loW; omega
abbrev co0 (x y : Int) (p q : Bool) : List (TypeId × List Value) := [valW x p, valW y q, val0]

set_option maxHeartbeats 1000000 in
theorem rCommon_any (x y : Nat) (p q : Bool) (hx : x < 170141183460469231731687303715884105728) (hy : y < 170141183460469231731687303715884105728) (w : World) :
    Calls Tryd.prog 64 #[wide3 x p, wide3 y q] w fun e w' => e = .returned (wide3 (Nat.gcd x y : Nat) false) ∧ Below w.heap.size w w' := by
  generalize hG : Nat.gcd x y = G
  unfold wide3
  go_enter Tryd.func64, Tryd.ntmps64
  go_wp2_with fail
  rename_i Q' K hK
  refine wp_loop (fun a w' => ∃ (m n : Nat) (u v : Bool), m < 170141183460469231731687303715884105728 ∧ n < 170141183460469231731687303715884105728 ∧ Nat.gcd m n = G ∧ CoSt w.heap.size m n u v a w' ∧ Below w.heap.size w w') (fun _ w' => wval w' (w.heap.size + 1)) ?_ ?_
  · refine ⟨x, y, p, q, hx, hy, hG, ⟨by simp, rfl, ?_, ?_⟩, ?_⟩
    · repeat' (first | exact List.forall_mem_nil _ | refine List.forall_mem_cons.2 ⟨rfl, ?_⟩)
    · exact blks_allocs (co0 x y p q) w
    · exact below_allocs (co0 x y p q) (Below.refl _ w)
  · rintro a w' ⟨m, n, u, v, hm, hn, hg, hs, hb⟩
    have hnd : [w.heap.size, w.heap.size + 1, w.heap.size + 2].Nodup := by simp
    have hge : ∀ b ∈ [w.heap.size, w.heap.size + 1, w.heap.size + 2], w.heap.size ≤ b := by
      intro b hb; simp only [List.mem_cons, List.not_mem_nil, or_false] at hb; omega
    by_cases h0 : n = 0
    · have hG' : m = G := by rw [← hg, h0, Nat.gcd_zero_right]
      refine code_fs (by kernel_rfl) (coSym m n 0 0) [coZ v true] [] ?_ (fun _ h => by cases h) 300 coT (coB u v (.sy 0) (.sy 1) (.sy 2) (.sy 3)) (.exit 0) coT (memOf 0 (coB u v (.sy 0) (.sy 1) (.sy 2) (.sy 3)))
        [w.heap.size, w.heap.size + 1, w.heap.size + 2] (fun z => by cases u <;> cases v <;> kernel_rfl) (by simp) hnd rfl rfl rfl rfl rfl hs ?_
      · intro z hz
        simp only [List.mem_cons, List.not_mem_nil, or_false] at hz
        subst hz
        exact ⟨[wide3 n v], .bool true, rfl, rfl, fun w => by
          have := rZero_any (n : Int) v (by omega) (by omega) w
          rw [h0] at this ⊢
          exact this⟩
      · intro a' w2 hs2 hn2
        have hb2 := hn2.below hb hge
        show K a' w2
        refine hK a' w2 ?_
        refine code_fs (by kernel_rfl) (coSym m n 0 0) [] [] (fun _ h => by cases h) (fun _ h => by cases h) 300 coT (coB u v (.sy 0) (.sy 1) (.sy 2) (.sy 3)) .ret [(4, .ptr 2 0)] [(2, blkW (.sy 0) (.sy 1) false)]
          [w.heap.size, w.heap.size + 1, w.heap.size + 2] (fun z => by cases u <;> cases v <;> kernel_rfl) (by simp) hnd rfl rfl rfl rfl rfl hs2 ?_
        intro a3 w3 hs3 hn3
        have hb3 := hn3.below hb2 hge
        have h4 : a3.tmps.getD 4 undef = ptrV (w.heap.size + 2) := hs3.tmps (4, ptrV (w.heap.size + 2)) List.mem_cons_self
        have h6 : w3.heap[w.heap.size + 2]? = some (.cells #[.int .u64 (hiW m), .int .u64 (loW m), .bool false] 50 (0, 0)) := hs3.blks (cellW (w.heap.size + 2) m false) List.mem_cons_self
        have h8 := hs3.defers
        clear hs3 hs2 hn2 hn3 hs
        rw [Array.getD_eq_getD_getElem?] at h4
        show bodyPost Tryd.prog Tryd.f64 _ Exit.ret a3 w3
        have c1 := cell_at (i := 0) h6 rfl
        have c2 := cell_at (i := 1) h6 rfl
        have c3 := cell_at (i := 2) h6 rfl
        simp [bodyPost, results, Tryd.results64, go_sem, h4, c1, c2, c3, h8]
        rw [hG']
        exact ⟨⟨rfl, rfl⟩, hb3⟩
    · refine code_fs (by kernel_rfl) (coSym m n ((m / n : Nat) : Int) ((m % n : Nat) : Int)) [coZ v false, coD u v] [] ?_ (fun _ h => by cases h) 300 coT (coB u v (.sy 0) (.sy 1) (.sy 2) (.sy 3)) .normal coT (memOf 0 (coB v false (.sy 2) (.sy 3) (.sy 6) (.sy 7)))
        [w.heap.size, w.heap.size + 1, w.heap.size + 2] (fun z => by cases u <;> cases v <;> kernel_rfl) (by simp) hnd rfl rfl rfl rfl rfl hs ?_
      · intro z hz
        simp only [List.mem_cons, List.not_mem_nil, or_false] at hz
        rcases hz with rfl | rfl
        · exact ⟨[wide3 n v], .bool false, rfl, rfl, fun w => by
            have := rZero_any (n : Int) v (by omega) (by omega) w
            rw [decide_eq_false (show ¬ (n : Int) = 0 by omega)] at this
            exact this⟩
        · exact ⟨[wide3 m u, wide3 n v], .tuple #[wide3 ((m / n : Nat) : Int) false, wide3 ((m % n : Nat) : Int) false], rfl, rfl, fun w => rDivide_any m n u v (by omega) (by omega) (by omega) (by omega) w⟩
      · intro a' w2 hs2 hn2
        have hr : m % n < n := Nat.mod_lt _ (by omega)
        refine ⟨⟨n, m % n, v, false, hn, by omega, ?_, hs2, hn2.below hb hge⟩, ?_⟩
        · rw [← hg, Nat.gcd_comm n, ← Nat.gcd_rec, Nat.gcd_comm]
        · have h1 : wval w' (w.heap.size + 1) = n := wval_of (by omega) (hs.blks (cellW (w.heap.size + 1) n v) (List.mem_cons_of_mem _ List.mem_cons_self))
          have h2 : wval w2 (w.heap.size + 1) = m % n := wval_of (by omega) (hs2.blks (cellW (w.heap.size + 1) ((m % n : Nat) : Int) false) (List.mem_cons_of_mem _ List.mem_cons_self))
          rw [h1, h2]
          exact hr

/-! ### In lowest terms -/
def lowB (n d : Nat) : Bool := decide (n < 1000000000000000000) && decide (d < 1000000000000000000)
/-- A fraction, or what stands beside an error. -/
def lowF (neg : Bool) (n d : Nat) : Value := .agg #[.int .i64 (cond (lowB n d) (cond neg (-(n : Int)) n) 0), .int .i64 (cond (lowB n d) (d : Int) 0)]
def lowE (n d : Nat) : Int := cond (lowB n d) 0 6
def lowV (neg : Bool) (n d : Nat) : Value := .tuple #[lowF neg n d, .int .i64 (lowE n d)]
/-- n / d, in lowest terms. -/
def redV (neg : Bool) (n d : Nat) : Value := lowV neg (n / Nat.gcd n d) (d / Nat.gcd n d)
abbrev loSym (x y g n d rn rd : Int) : Tm → Sym
  | .v 0 => intSym .u64 (hiW x)
  | .v 1 => intSym .u64 (loW x)
  | .v 2 => intSym .u64 (hiW y)
  | .v 3 => intSym .u64 (loW y)
  | .v 4 => intSym .u64 (hiW g)
  | .v 5 => intSym .u64 (loW g)
  | .v 6 => intSym .u64 (hiW n)
  | .v 7 => intSym .u64 (loW n)
  | .v 8 => intSym .u64 (hiW rn)
  | .v 9 => intSym .u64 (loW rn)
  | .v 10 => intSym .u64 (hiW d)
  | .v 11 => intSym .u64 (loW d)
  | .v 12 => intSym .u64 (hiW rd)
  | .v 13 => intSym .u64 (loW rd)
  | .v 14 => intSym .i64 (IntKind.i64.wrap (loW n))
  | .v 15 => intSym .i64 (IntKind.i64.wrap (loW d))
  | .v 16 => intSym .i64 (IntKind.i64.wrap (0 - IntKind.i64.wrap (loW n)))
  | _ => intSym .i64 0
abbrev loCalls (neg : Bool) : List KCall :=
  [(64, [.agg [.sy 2, .sy 3, .clo (.bool false)], .agg [.sy 0, .sy 1, .clo (.bool false)]], .agg [.sy 4, .sy 5, .clo (.bool false)]),
   (65, [.agg [.sy 0, .sy 1, .clo (.bool neg)], .agg [.sy 4, .sy 5, .clo (.bool false)]], .tup [.agg [.sy 6, .sy 7, .clo (.bool false)], .agg [.sy 8, .sy 9, .clo (.bool false)]]),
   (65, [.agg [.sy 2, .sy 3, .clo (.bool false)], .agg [.sy 4, .sy 5, .clo (.bool false)]], .tup [.agg [.sy 10, .sy 11, .clo (.bool false)], .agg [.sy 12, .sy 13, .clo (.bool false)]])]
abbrev loOps (a b c d : Bool) : List KOp :=
  [(.bin .gtr 45, [.sy 6, .clo (.int .u64 0)], .clo (.bool a)), (.bin .geq 45, [.sy 7, .clo (.int .u64 1000000000000000000)], .clo (.bool b)),
   (.bin .gtr 45, [.sy 10, .clo (.int .u64 0)], .clo (.bool c)), (.bin .geq 45, [.sy 11, .clo (.int .u64 1000000000000000000)], .clo (.bool d)),
   (.conv 45 2, [.sy 7], .sy 14), (.conv 45 2, [.sy 11], .sy 15), (.bin .sub 2, [.clo (.int .i64 0), .sy 14], .sy 16)]
abbrev loRes (neg t : Bool) : CV := cond t (.clo (.tuple #[.agg #[.int .i64 0, .int .i64 0], .int .i64 6])) (.tup [.agg [cond neg (.sy 16) (.sy 14), .sy 15], .clo (.int .i64 0)])
theorem evLo (x y g n d rn rd : Int) (neg a b c e : Bool) : resIs (loRes neg (a || b || c || e)) (evalFn0 Tryd.prog (@evalC (toldV (loSym x y g n d rn rd) (loCalls neg) [] (loOps a b c e)) Tryd.prog 300 true) 0 43 [.agg [.sy 0, .sy 1, .clo (.bool neg)], .agg [.sy 2, .sy 3, .clo (.bool false)]] ⟨0, []⟩) = true := by
  cases neg <;> cases a <;> cases b <;> cases c <;> cases e <;> kernel_rfl

theorem small_word {n : Nat} (hn : n < 340282366920938463463374607431768211456) : (decide (0 < hiW n) || decide (1000000000000000000 ≤ loW n)) = !decide (n < 1000000000000000000) := by
  rw [Bool.eq_iff_iff]
  simp only [Bool.or_eq_true, decide_eq_true_eq, Bool.not_eq_true', decide_eq_false_iff_not]
  unfold hiW loW; omega
theorem word_of {n : Nat} (hn : n < 1000000000000000000) : IntKind.i64.wrap (loW n) = n ∧ IntKind.i64.wrap (0 - IntKind.i64.wrap (loW n)) = -(n : Int) := by
  have : loW n = n := by unfold loW; omega
  rw [this]
  simp only [IntKind.wrap_i64]; omega
theorem rLowest_any (x y : Nat) (neg : Bool) (hx : x < 170141183460469231731687303715884105728) (hy : y < 170141183460469231731687303715884105728) (y0 : 0 < y) (w : World) :
    Calls Tryd.prog 43 #[wide3 x neg, wide3 y false] w fun e w' => e = .returned (redV neg x y) ∧ Below w.heap.size w w' := by
  have hg : Nat.gcd y x = Nat.gcd x y := Nat.gcd_comm _ _
  have g0 : 0 < Nat.gcd x y := Nat.gcd_pos_of_pos_right _ y0
  have g1 : Nat.gcd x y ≤ y := Nat.le_of_dvd y0 (Nat.gcd_dvd_right _ _)
  have n1 : x / Nat.gcd x y ≤ x := Nat.div_le_self _ _
  have d1 : y / Nat.gcd x y ≤ y := Nat.div_le_self _ _
  unfold redV
  have hc := fun w => rCommon_any y x false false hy hx w
  have h1 := fun w => rDivide_any x (Nat.gcd x y : Nat) neg false (by omega) (by omega) (by omega) (by omega) w
  have h2 := fun w => rDivide_any y (Nat.gcd x y : Nat) false false (by omega) (by omega) (by omega) (by omega) w
  rw [hg] at hc
  simp only [← Int.natCast_ediv, ← Int.natCast_emod] at h1 h2
  generalize Nat.gcd x y = g at *
  generalize x / g = n at *
  generalize y / g = d at *
  generalize x % g = rn at *
  generalize y % g = rd at *
  refine calls_toldS (by kernel_rfl) (loSym x y g n d rn rd) (loCalls neg) (loOps (decide (0 < hiW n)) (decide (1000000000000000000 ≤ loW n)) (decide (0 < hiW d)) (decide (1000000000000000000 ≤ loW d))) ?_ ?_
    (n := 300) (args := [.agg [.sy 0, .sy 1, .clo (.bool neg)], .agg [.sy 2, .sy 3, .clo (.bool false)]]) (xs := [wide3 x neg, wide3 y false]) rfl (loRes neg (!lowB n d)) ?_ ?_ w
  · intro z hz
    simp only [loCalls, List.mem_cons, List.not_mem_nil, or_false] at hz
    rcases hz with rfl | rfl | rfl
    · exact ⟨[wide3 y false, wide3 x false], wide3 g false, rfl, rfl, hc⟩
    · exact ⟨[wide3 x neg, wide3 g false], .tuple #[wide3 n false, wide3 rn false], rfl, rfl, h1⟩
    · exact ⟨[wide3 y false, wide3 g false], .tuple #[wide3 d false, wide3 rd false], rfl, rfl, h2⟩
  · intro z hz
    simp only [loOps, List.mem_cons, List.not_mem_nil, or_false] at hz
    rcases hz with rfl | rfl | rfl | rfl | rfl | rfl | rfl
    · exact ⟨[.int .u64 (hiW n), .int .u64 0], .bool (decide (0 < hiW n)), rfl, rfl, tells_gtr rfl⟩
    · exact ⟨[.int .u64 (loW n), .int .u64 1000000000000000000], .bool (decide (1000000000000000000 ≤ loW n)), rfl, rfl, tells_geq rfl⟩
    · exact ⟨[.int .u64 (hiW d), .int .u64 0], .bool (decide (0 < hiW d)), rfl, rfl, tells_gtr rfl⟩
    · exact ⟨[.int .u64 (loW d), .int .u64 1000000000000000000], .bool (decide (1000000000000000000 ≤ loW d)), rfl, rfl, tells_geq rfl⟩
    · exact ⟨[.int .u64 (loW n)], _, rfl, rfl, tells_int (u := .int .u64) (by kernel_rfl) (by kernel_rfl) rfl⟩
    · exact ⟨[.int .u64 (loW d)], _, rfl, rfl, tells_int (u := .int .u64) (by kernel_rfl) (by kernel_rfl) rfl⟩
    · exact ⟨[.int .i64 0, .int .i64 (IntKind.i64.wrap (loW n))], _, rfl, rfl, tells_sub rfl⟩
  · have e : (!lowB n d) = (decide (0 < hiW n) || decide (1000000000000000000 ≤ loW n) || decide (0 < hiW d) || decide (1000000000000000000 ≤ loW d)) := by
      rw [Bool.or_assoc, small_word (by omega), small_word (by omega), lowB, Bool.not_and]
    rw [e]
    exact evLo _ _ _ _ _ _ _ _ _ _ _ _
  · unfold lowV lowF lowE
    cases hb : lowB n d with
    | false => rfl
    | true =>
      unfold lowB at hb
      simp only [Bool.and_eq_true, decide_eq_true_eq] at hb
      obtain ⟨h3, h4⟩ := word_of hb.1
      obtain ⟨h5, _⟩ := word_of hb.2
      cases neg
      · show some (Value.tuple #[.agg #[.int .i64 (IntKind.i64.wrap (loW n)), .int .i64 (IntKind.i64.wrap (loW d))], .int .i64 0]) = _
        rw [h3, h5]; rfl
      · show some (Value.tuple #[.agg #[.int .i64 (IntKind.i64.wrap (0 - IntKind.i64.wrap (loW n))), .int .i64 (IntKind.i64.wrap (loW d))], .int .i64 0]) = _
        rw [h4, h5]; rfl
end Go.Proofs.YtdjnnbjpaohaiaaDoor
