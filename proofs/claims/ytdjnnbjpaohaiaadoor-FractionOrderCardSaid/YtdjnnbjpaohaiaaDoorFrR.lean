/- Layer 4 (fraction): the division of 128 bits by 64 bits, in two digits of 32 bits. -/
import Derived.Test.YtdjnnbjpaohaiaaDoorFrO
import Derived.Test.YtdjnnbjpaohaiaaDoorFrX
namespace Go.Proofs.YtdjnnbjpaohaiaaDoor
open Go.RowKit Go.Ev
set_option maxRecDepth 100000

abbrev knSym (Y s y1 y0 d e q1 un U q r m b t q' r' : Int) : Tm → Sym
  | .v 0 => intSym .u64 Y
  | .v 1 => intSym .u64 s
  | .v 2 => intSym .u64 y1
  | .v 3 => intSym .u64 y0
  | .v 4 => intSym .u64 d
  | .v 5 => intSym .u64 e
  | .v 6 => intSym .u64 q1
  | .v 7 => intSym .u64 un
  | .v 8 => intSym .u64 U
  | .v 10 => intSym .u64 q
  | .v 11 => intSym .u64 r
  | .v 12 => intSym .u64 m
  | .v 13 => intSym .u64 b
  | .v 14 => intSym .u64 t
  | .v 15 => intSym .u64 q'
  | .v 16 => intSym .u64 r'
  | _ => intSym .u64 0
abbrev kB : CV := .clo (.int .u64 4294967296)
abbrev knOps (A G R : Bool) : List KOp :=
  [(.bin .geq 45, [.sy 10, kB], .clo (.bool A)), (.bin .mul 45, [.sy 10, .sy 3], .sy 12), (.bin .mul 45, [kB, .sy 11], .sy 13), (.bin .add 45, [.sy 13, .sy 4], .sy 14),
   (.bin .gtr 45, [.sy 12, .sy 14], .clo (.bool G)), (.bin .sub 45, [.sy 10, .clo (.int .u64 1)], .sy 15), (.bin .add 45, [.sy 11, .sy 2], .sy 16), (.bin .geq 45, [.sy 16, kB], .clo (.bool R))]
theorem wrapN {n : Int} (h0 : 0 ≤ n) (h1 : n < 18446744073709551616) : IntKind.u64.wrap n = n := by rw [IntKind.wrap_u64]; omega
theorem kn_ops {Y s y1 y0 d e q1 un U q r : Nat} {A G R : Bool} (h0 : y0 < 4294967296) (h1 : y1 < 4294967296) (hd : d < 4294967296) (hq : q ≤ 4294967297) (hr : r < 4294967296) (hp : (A || G) = true → 0 < q)
    (hA : decide (4294967296 ≤ q) = A) (hG : decide (4294967296 * r + d < q * y0) = G) (hR : decide (4294967296 ≤ r + y1) = R) (hs : (A || G) = true) :
    ∀ z ∈ knOps A G R, OpIs Tryd.prog (knSym Y s y1 y0 d e q1 un U q r (q * y0 : Nat) (4294967296 * r : Nat) (4294967296 * r + d : Nat) (q - 1 : Nat) (r + y1 : Nat)) z := by
  have hm := kn_y0 (q := q) h0 hq
  have hp := hp hs
  intro z hz
  simp only [knOps, List.mem_cons, List.not_mem_nil, or_false] at hz
  rcases hz with rfl | rfl | rfl | rfl | rfl | rfl | rfl | rfl
  · exact ⟨[uv q, uv 4294967296], .bool A, rfl, rfl, tells_geq (by rw [← hA, Bool.eq_iff_iff, decide_eq_true_eq, decide_eq_true_eq]; omega)⟩
  · exact ⟨[uv q, uv y0], _, rfl, rfl, tells_mul (by rw [← Int.natCast_mul]; exact wrapN (by omega) (by omega))⟩
  · exact ⟨[uv 4294967296, uv r], uv (4294967296 * r : Nat), rfl, rfl, tells_mul (by rw [wrapN (by omega) (by omega)]; omega)⟩
  · exact ⟨[uv (4294967296 * r : Nat), uv d], uv (4294967296 * r + d : Nat), rfl, rfl, tells_add (by rw [wrapN (by omega) (by omega)]; omega)⟩
  · exact ⟨[uv (q * y0 : Nat), uv (4294967296 * r + d : Nat)], .bool G, rfl, rfl, tells_gtr (by rw [← hG, Bool.eq_iff_iff, decide_eq_true_eq, decide_eq_true_eq]; omega)⟩
  · exact ⟨[uv q, uv 1], uv (q - 1 : Nat), rfl, rfl, tells_sub (by rw [wrapN (by omega) (by omega)]; omega)⟩
  · exact ⟨[uv r, uv y1], uv (r + y1 : Nat), rfl, rfl, tells_add (by rw [wrapN (by omega) (by omega)]; omega)⟩
  · exact ⟨[uv (r + y1 : Nat), uv 4294967296], .bool R, rfl, rfl, tells_geq (by rw [← hR, Bool.eq_iff_iff, decide_eq_true_eq, decide_eq_true_eq]; omega)⟩
abbrev knOps0 : List KOp :=
  [(.bin .geq 45, [.sy 10, kB], .clo (.bool false)), (.bin .mul 45, [.sy 10, .sy 3], .sy 12), (.bin .mul 45, [kB, .sy 11], .sy 13), (.bin .add 45, [.sy 13, .sy 4], .sy 14),
   (.bin .gtr 45, [.sy 12, .sy 14], .clo (.bool false))]
theorem kn_ops0 {Y s y1 y0 d e q1 un U q r : Nat} (h0 : y0 < 4294967296) (hd : d < 4294967296) (hq : q ≤ 4294967297) (hr : r < 4294967296)
    (hA : ¬ 4294967296 ≤ q) (hG : ¬ 4294967296 * r + d < q * y0) : ∀ z ∈ knOps0, OpIs Tryd.prog (knSym Y s y1 y0 d e q1 un U q r (q * y0 : Nat) (4294967296 * r : Nat) (4294967296 * r + d : Nat) 0 0) z := by
  have hm := kn_y0 (q := q) h0 hq
  intro z hz
  simp only [knOps0, List.mem_cons, List.not_mem_nil, or_false] at hz
  rcases hz with rfl | rfl | rfl | rfl | rfl
  · exact ⟨[uv q, uv 4294967296], .bool false, rfl, rfl, tells_geq (decide_eq_false (by omega))⟩
  · exact ⟨[uv q, uv y0], _, rfl, rfl, tells_mul (by rw [← Int.natCast_mul]; exact wrapN (by omega) (by omega))⟩
  · exact ⟨[uv 4294967296, uv r], uv (4294967296 * r : Nat), rfl, rfl, tells_mul (by rw [wrapN (by omega) (by omega)]; omega)⟩
  · exact ⟨[uv (4294967296 * r : Nat), uv d], uv (4294967296 * r + d : Nat), rfl, rfl, tells_add (by rw [wrapN (by omega) (by omega)]; omega)⟩
  · exact ⟨[uv (q * y0 : Nat), uv (4294967296 * r + d : Nat)], .bool false, rfl, rfl, tells_gtr (decide_eq_false (by omega))⟩
theorem near_self {w w' : World} (h : Near [] w w') : Below w.heap.size w w' := ⟨h.os, h.tape, h.output, h.size, fun b hb => h.block b hb (by simp)⟩

abbrev kn1T (q r : CV) : List (Nat × CV) := [(2, .sy 0), (8, .sy 1), (9, .sy 2), (10, .sy 3), (11, .sy 8), (13, .sy 4), (14, .sy 5), (15, q), (16, r)]
abbrev Kn1St (nt : Nat) (Y s y1 y0 U d e q r : Nat) : Act → World → Prop := Fs nt [(2, uv Y), (8, uv s), (9, uv y1), (10, uv y0), (11, uv U), (13, uv d), (14, uv e), (15, uv q), (16, uv r)] []
theorem kn1_loop {c : Code} {nt : Nat}
    (kS : ∀ (Y s y1 y0 d e q1 un U q r m b t q' r' : Int) (u : Nat → Value), @checkC (toldV (knSym Y s y1 y0 d e q1 un U q r m b t q' r') [] [] knOps0) Tryd.prog 300 c nt (kn1T (.sy 10) (.sy 11)) u [] (.exit 0) (kn1T (.sy 10) (.sy 11)) [] = true)
    (kC : ∀ (Y s y1 y0 d e q1 un U q r m b t q' r' : Int) (A G : Bool) (_ : (A || G) = true) (u : Nat → Value), @checkC (toldV (knSym Y s y1 y0 d e q1 un U q r m b t q' r') [] [] (knOps A G false)) Tryd.prog 300 c nt (kn1T (.sy 10) (.sy 11)) u [] .normal (kn1T (.sy 15) (.sy 16)) [] = true)
    (kX : ∀ (Y s y1 y0 d e q1 un U q r m b t q' r' : Int) (A G : Bool) (_ : (A || G) = true) (u : Nat → Value), @checkC (toldV (knSym Y s y1 y0 d e q1 un U q r m b t q' r') [] [] (knOps A G true)) Tryd.prog 300 c nt (kn1T (.sy 10) (.sy 11)) u [] (.exit 0) (kn1T (.sy 15) (.sy 16)) [] = true)
    {Y s y1 y0 U d e u : Nat} (h1 : 2147483648 ≤ y1) (h1' : y1 < 4294967296) (h0 : y0 < 4294967296) (hd : d < 4294967296) (hu : u < y1 * 4294967296 + y0)
    {Q : Exit → Act → World → Prop} {a0 : Act} {w0 : World} (hs0 : Kn1St nt Y s y1 y0 U d e (u / y1) (u % y1) a0 w0)
    (hend : ∀ a w r, Kn1St nt Y s y1 y0 U d e (knQ y1 y0 u d) r a w → Below w0.heap.size w0 w → Q (.exit 0) a w) : (Code.loop c).wp Tryd.prog Q a0 w0 := by
  refine wp_loop (fun a w' => ∃ q r : Nat, q * y1 + r = u ∧ knQ y1 y0 u d ≤ q ∧ q ≤ 4294967297 ∧ r < 4294967296 ∧ Kn1St nt Y s y1 y0 U d e q r a w' ∧ Below w0.heap.size w0 w') (fun a _ => (intOf (a.tmps.getD 15 undef)).toNat) ?_ ?_
  · obtain ⟨k1, k2⟩ := kn_start h1 h0 hd hu
    exact ⟨u / y1, u % y1, Nat.div_add_mod' _ _, k1, k2, Nat.lt_trans (Nat.mod_lt _ (by omega)) h1', hs0, Below.refl _ _⟩
  · rintro a w' ⟨q, r, hqr, hq1, hq2, hr, hs, hb⟩
    have hlow : ∀ {w2}, Near [] w' w2 → Below w0.heap.size w0 w2 := fun hn => hb.trans ((near_self hn).mono hb.size)
    by_cases hc : 4294967296 ≤ q ∨ 4294967296 * r + d < q * y0
    · have hlt := kn_dec h1 hd hu hqr hc
      have hAG : (decide (4294967296 ≤ q) || decide (4294967296 * r + d < q * y0)) = true := by simpa using hc
      have hqr' : (q - 1) * y1 + (r + y1) = u := by
        obtain ⟨p, rfl⟩ : ∃ p, q = p + 1 := ⟨q - 1, by omega⟩
        rw [Nat.add_sub_cancel, ← hqr, Nat.add_mul]; omega
      by_cases hR : 4294967296 ≤ r + y1
      · refine code_fs (by kernel_rfl) (knSym Y s y1 y0 d e 0 0 U q r (q * y0 : Nat) (4294967296 * r : Nat) (4294967296 * r + d : Nat) (q - 1 : Nat) (r + y1 : Nat)) [] (knOps _ _ true) (fun _ h => by cases h) (kn_ops (q1 := 0) (un := 0) h0 h1' hd hq2 hr (fun _ => by omega) rfl rfl (decide_eq_true hR) hAG) 300 (kn1T (.sy 10) (.sy 11)) [] (.exit 0) (kn1T (.sy 15) (.sy 16)) [] [] (kX _ _ _ _ _ _ _ _ _ _ _ _ _ _ _ _ _ _ hAG) (by simp) (by simp) rfl rfl rfl rfl rfl hs ?_
        intro a' w2 hs2 hn2
        have he : q - 1 = knQ y1 y0 u d := kn_break h1 h0 hqr' (by omega) (by omega) hR
        refine hend a' w2 (r + y1) ?_ (hlow hn2)
        rw [← he]; exact hs2
      · refine code_fs (by kernel_rfl) (knSym Y s y1 y0 d e 0 0 U q r (q * y0 : Nat) (4294967296 * r : Nat) (4294967296 * r + d : Nat) (q - 1 : Nat) (r + y1 : Nat)) [] (knOps _ _ false) (fun _ h => by cases h) (kn_ops (q1 := 0) (un := 0) h0 h1' hd hq2 hr (fun _ => by omega) rfl rfl (decide_eq_false hR) hAG) 300 (kn1T (.sy 10) (.sy 11)) [] .normal (kn1T (.sy 15) (.sy 16)) [] [] (kC _ _ _ _ _ _ _ _ _ _ _ _ _ _ _ _ _ _ hAG) (by simp) (by simp) rfl rfl rfl rfl rfl hs ?_
        intro a' w2 hs2 hn2
        refine ⟨⟨q - 1, r + y1, hqr', by omega, by omega, by omega, hs2, hlow hn2⟩, ?_⟩
        have g1 : a'.tmps.getD 15 undef = uv (q - 1 : Nat) := hs2.tmps (15, uv (q - 1 : Nat)) (List.mem_of_getElem? (i := 7) rfl)
        have g2 : a.tmps.getD 15 undef = uv q := hs.tmps (15, uv q) (List.mem_of_getElem? (i := 7) rfl)
        rw [g1, g2]
        simp only [intOf]; omega
    · have hc1 : ¬ 4294967296 ≤ q := fun h => hc (.inl h)
      have hc2 : ¬ 4294967296 * r + d < q * y0 := fun h => hc (.inr h)
      refine code_fs (by kernel_rfl) (knSym Y s y1 y0 d e 0 0 U q r (q * y0 : Nat) (4294967296 * r : Nat) (4294967296 * r + d : Nat) 0 0) [] knOps0 (fun _ h => by cases h) (kn_ops0 (q1 := 0) (un := 0) h0 hd hq2 hr hc1 hc2) 300 (kn1T (.sy 10) (.sy 11)) [] (.exit 0) (kn1T (.sy 10) (.sy 11)) [] [] (kS _ _ _ _ _ _ _ _ _ _ _ _ _ _ _ _) (by simp) (by simp) rfl rfl rfl rfl rfl hs ?_
      intro a' w2 hs2 hn2
      have he : q = knQ y1 y0 u d := kn_stop h1 hqr hq1 (by omega)
      refine hend a' w2 r ?_ (hlow hn2)
      rw [← he]; exact hs2

abbrev kn2T (q r : CV) : List (Nat × CV) := [(2, .sy 0), (8, .sy 1), (9, .sy 2), (10, .sy 3), (14, .sy 4), (15, .sy 6), (17, .sy 7), (18, q), (16, r)]
abbrev Kn2St (nt : Nat) (Y s y1 y0 d q1 un q r : Nat) : Act → World → Prop := Fs nt [(2, uv Y), (8, uv s), (9, uv y1), (10, uv y0), (14, uv d), (15, uv q1), (17, uv un), (18, uv q), (16, uv r)] []
theorem kn2_loop {c : Code} {nt : Nat}
    (kS : ∀ (Y s y1 y0 d e q1 un U q r m b t q' r' : Int) (u : Nat → Value), @checkC (toldV (knSym Y s y1 y0 d e q1 un U q r m b t q' r') [] [] knOps0) Tryd.prog 300 c nt (kn2T (.sy 10) (.sy 11)) u [] (.exit 2) (kn2T (.sy 10) (.sy 11)) [] = true)
    (kC : ∀ (Y s y1 y0 d e q1 un U q r m b t q' r' : Int) (A G : Bool) (_ : (A || G) = true) (u : Nat → Value), @checkC (toldV (knSym Y s y1 y0 d e q1 un U q r m b t q' r') [] [] (knOps A G false)) Tryd.prog 300 c nt (kn2T (.sy 10) (.sy 11)) u [] .normal (kn2T (.sy 15) (.sy 16)) [] = true)
    (kX : ∀ (Y s y1 y0 d e q1 un U q r m b t q' r' : Int) (A G : Bool) (_ : (A || G) = true) (u : Nat → Value), @checkC (toldV (knSym Y s y1 y0 d e q1 un U q r m b t q' r') [] [] (knOps A G true)) Tryd.prog 300 c nt (kn2T (.sy 10) (.sy 11)) u [] (.exit 2) (kn2T (.sy 15) (.sy 16)) [] = true)
    {Y s y1 y0 d q1 un u : Nat} (h1 : 2147483648 ≤ y1) (h1' : y1 < 4294967296) (h0 : y0 < 4294967296) (hd : d < 4294967296) (hu : u < y1 * 4294967296 + y0)
    {Q : Exit → Act → World → Prop} {a0 : Act} {w0 : World} (hs0 : Kn2St nt Y s y1 y0 d q1 un (u / y1) (u % y1) a0 w0)
    (hend : ∀ a w r, Kn2St nt Y s y1 y0 d q1 un (knQ y1 y0 u d) r a w → Below w0.heap.size w0 w → Q (.exit 2) a w) : (Code.loop c).wp Tryd.prog Q a0 w0 := by
  refine wp_loop (fun a w' => ∃ q r : Nat, q * y1 + r = u ∧ knQ y1 y0 u d ≤ q ∧ q ≤ 4294967297 ∧ r < 4294967296 ∧ Kn2St nt Y s y1 y0 d q1 un q r a w' ∧ Below w0.heap.size w0 w') (fun a _ => (intOf (a.tmps.getD 18 undef)).toNat) ?_ ?_
  · obtain ⟨k1, k2⟩ := kn_start h1 h0 hd hu
    exact ⟨u / y1, u % y1, Nat.div_add_mod' _ _, k1, k2, Nat.lt_trans (Nat.mod_lt _ (by omega)) h1', hs0, Below.refl _ _⟩
  · rintro a w' ⟨q, r, hqr, hq1, hq2, hr, hs, hb⟩
    have hlow : ∀ {w2}, Near [] w' w2 → Below w0.heap.size w0 w2 := fun hn => hb.trans ((near_self hn).mono hb.size)
    by_cases hc : 4294967296 ≤ q ∨ 4294967296 * r + d < q * y0
    · have hlt := kn_dec h1 hd hu hqr hc
      have hAG : (decide (4294967296 ≤ q) || decide (4294967296 * r + d < q * y0)) = true := by simpa using hc
      have hqr' : (q - 1) * y1 + (r + y1) = u := by
        obtain ⟨p, rfl⟩ : ∃ p, q = p + 1 := ⟨q - 1, by omega⟩
        rw [Nat.add_sub_cancel, ← hqr, Nat.add_mul]; omega
      by_cases hR : 4294967296 ≤ r + y1
      · refine code_fs (by kernel_rfl) (knSym Y s y1 y0 d 0 q1 un 0 q r (q * y0 : Nat) (4294967296 * r : Nat) (4294967296 * r + d : Nat) (q - 1 : Nat) (r + y1 : Nat)) [] (knOps _ _ true) (fun _ h => by cases h) (kn_ops (e := 0) (U := 0) h0 h1' hd hq2 hr (fun _ => by omega) rfl rfl (decide_eq_true hR) hAG) 300 (kn2T (.sy 10) (.sy 11)) [] (.exit 2) (kn2T (.sy 15) (.sy 16)) [] [] (kX _ _ _ _ _ _ _ _ _ _ _ _ _ _ _ _ _ _ hAG) (by simp) (by simp) rfl rfl rfl rfl rfl hs ?_
        intro a' w2 hs2 hn2
        have he : q - 1 = knQ y1 y0 u d := kn_break h1 h0 hqr' (by omega) (by omega) hR
        refine hend a' w2 (r + y1) ?_ (hlow hn2)
        rw [← he]; exact hs2
      · refine code_fs (by kernel_rfl) (knSym Y s y1 y0 d 0 q1 un 0 q r (q * y0 : Nat) (4294967296 * r : Nat) (4294967296 * r + d : Nat) (q - 1 : Nat) (r + y1 : Nat)) [] (knOps _ _ false) (fun _ h => by cases h) (kn_ops (e := 0) (U := 0) h0 h1' hd hq2 hr (fun _ => by omega) rfl rfl (decide_eq_false hR) hAG) 300 (kn2T (.sy 10) (.sy 11)) [] .normal (kn2T (.sy 15) (.sy 16)) [] [] (kC _ _ _ _ _ _ _ _ _ _ _ _ _ _ _ _ _ _ hAG) (by simp) (by simp) rfl rfl rfl rfl rfl hs ?_
        intro a' w2 hs2 hn2
        refine ⟨⟨q - 1, r + y1, hqr', by omega, by omega, by omega, hs2, hlow hn2⟩, ?_⟩
        have g1 : a'.tmps.getD 18 undef = uv (q - 1 : Nat) := hs2.tmps (18, uv (q - 1 : Nat)) (List.mem_of_getElem? (i := 7) rfl)
        have g2 : a.tmps.getD 18 undef = uv q := hs.tmps (18, uv q) (List.mem_of_getElem? (i := 7) rfl)
        rw [g1, g2]
        simp only [intOf]; omega
    · have hc1 : ¬ 4294967296 ≤ q := fun h => hc (.inl h)
      have hc2 : ¬ 4294967296 * r + d < q * y0 := fun h => hc (.inr h)
      refine code_fs (by kernel_rfl) (knSym Y s y1 y0 d 0 q1 un 0 q r (q * y0 : Nat) (4294967296 * r : Nat) (4294967296 * r + d : Nat) 0 0) [] knOps0 (fun _ h => by cases h) (kn_ops0 (e := 0) (U := 0) h0 hd hq2 hr hc1 hc2) 300 (kn2T (.sy 10) (.sy 11)) [] (.exit 2) (kn2T (.sy 10) (.sy 11)) [] [] (kS _ _ _ _ _ _ _ _ _ _ _ _ _ _ _ _) (by simp) (by simp) rfl rfl rfl rfl rfl hs ?_
      intro a' w2 hs2 hn2
      have he : q = knQ y1 y0 u d := kn_stop h1 hqr hq1 (by omega)
      refine hend a' w2 r ?_ (hlow hn2)
      rw [← he]; exact hs2

/-! ### Div64 -/
theorem bl_spec (x : Nat) (h : x < 18446744073709551616) : x < 2 ^ Lib.bitLen x ∧ (x ≠ 0 → 2 ^ Lib.bitLen x ≤ 2 * x) := by
  induction x using Nat.strongRecOn with
  | _ x ih =>
    by_cases h0 : x = 0
    · subst h0; exact ⟨by decide, fun h => absurd rfl h⟩
    · rw [Lib.bitLen_half x h0 h, Nat.add_comm 1, Nat.pow_succ]
      obtain ⟨i1, i2⟩ := ih (x / 2) (by omega) (by omega)
      refine ⟨by omega, fun _ => ?_⟩
      by_cases h2 : x / 2 = 0
      · rw [h2, show Lib.bitLen 0 = 0 from rfl]; omega
      · have := i2 h2; omega
/-- The shift that brings a number to the top. -/
theorem top_spec {y : Nat} (h0 : 0 < y) (h : y < 18446744073709551616) : Lib.bitLen y ≤ 64 ∧ 9223372036854775808 ≤ y * 2 ^ (64 - Lib.bitLen y) ∧ y * 2 ^ (64 - Lib.bitLen y) < 18446744073709551616 := by
  obtain ⟨k1, k2⟩ := bl_spec y h
  have k2 := k2 (by omega)
  have hle : Lib.bitLen y ≤ 64 := by
    refine Nat.le_of_not_lt fun hlt => ?_
    have : 2 ^ 65 ≤ 2 ^ Lib.bitLen y := Nat.pow_le_pow_right (by decide) hlt
    omega
  have e : 2 ^ Lib.bitLen y * 2 ^ (64 - Lib.bitLen y) = 18446744073709551616 := by
    rw [← Nat.pow_add, show Lib.bitLen y + (64 - Lib.bitLen y) = 64 by omega]
  have p := Nat.two_pow_pos (64 - Lib.bitLen y)
  generalize 2 ^ (64 - Lib.bitLen y) = t at *
  refine ⟨hle, ?_, ?_⟩
  · have : 2 ^ Lib.bitLen y * t ≤ 2 * y * t := Nat.mul_le_mul_right _ k2
    rw [e, Nat.mul_assoc] at this; omega
  · have : y * t < 2 ^ Lib.bitLen y * t := Nat.mul_lt_mul_of_pos_right k1 p
    omega
theorem lz_any (y : Nat) (h0 : 0 < y) (h : y < 18446744073709551616) (w : World) : Calls Tryd.prog 81 #[uv y] w fun e w' => e = .returned (iv ((64 - Lib.bitLen y : Nat) : Int)) ∧ w' = w := by
  refine (Any.bits_LeadingZeros64 Tryd.lays134 y w (by omega) (by omega)).mono ?_
  rintro e w' ⟨rfl, rfl⟩
  have := (top_spec h0 h).1
  refine ⟨?_, rfl⟩
  rw [Int.toNat_natCast]
  congr 2
  omega
/-- The digits of the division. -/
structure Dg (hi lo y s Y U v z y1 y0 H1 L1 L : Nat) : Prop where
  e_Y : Y = y * 2 ^ s
  e_s : s < 64
  e_Yb : 9223372036854775808 ≤ Y ∧ Y < 18446744073709551616
  e_H1 : H1 = hi * 2 ^ s
  e_L1 : L1 = lo / 2 ^ (64 - s)
  e_U : U = H1 + L1
  e_L : L = lo * 2 ^ s % 18446744073709551616
  e_v : v = L / 4294967296
  e_z : z = L % 4294967296
  e_y1 : y1 = Y / 4294967296
  e_y0 : y0 = Y % 4294967296
theorem dg_facts {hi lo y s Y U v z y1 y0 H1 L1 L : Nat} (g : Dg hi lo y s Y U v z y1 y0 H1 L1 L) (hlo : lo < 18446744073709551616) (hhi : hi < y) :
    H1 % 2 ^ s = 0 ∧ L1 < 2 ^ s ∧ H1 < 18446744073709551616 ∧ U < Y ∧ 2147483648 ≤ y1 ∧ y1 < 4294967296 ∧ y0 < 4294967296 ∧ v < 4294967296 ∧ z < 4294967296 ∧ Y = y1 * 4294967296 + y0 ∧
    (hi * 18446744073709551616 + lo) * 2 ^ s = U * 18446744073709551616 + (v * 4294967296 + z) := by
  have p := Nat.two_pow_pos s
  have e64 : 2 ^ (64 - s) * 2 ^ s = 18446744073709551616 := by
    have := g.e_s
    rw [← Nat.pow_add, show 64 - s + s = 64 by omega]
  have hY := g.e_Y
  have hb := g.e_Yb
  have hL1 : L1 < 2 ^ s := by rw [g.e_L1, Nat.div_lt_iff_lt_mul (Nat.two_pow_pos _), Nat.mul_comm, e64]; exact hlo
  have hH : H1 + 2 ^ s ≤ Y := by
    rw [g.e_H1, hY, show hi * 2 ^ s + 2 ^ s = (hi + 1) * 2 ^ s by rw [Nat.add_mul, Nat.one_mul]]
    exact Nat.mul_le_mul_right _ hhi
  have hl2 : lo * 2 ^ s / 18446744073709551616 = L1 := by
    rw [← e64, Nat.mul_div_mul_right _ _ p, g.e_L1]
  have hU := g.e_U
  have hLe := g.e_L
  have hv := g.e_v
  have hz := g.e_z
  have hy1 := g.e_y1
  have hy0 := g.e_y0
  refine ⟨by rw [g.e_H1]; exact Nat.mul_mod_left _ _, hL1, by omega, by omega, by omega, by omega, by omega, by omega, by omega, by omega, ?_⟩
  rw [Nat.add_mul, hU, g.e_H1, Nat.mul_right_comm]
  have := Nat.div_add_mod (lo * 2 ^ s) 18446744073709551616
  generalize hi * 2 ^ s = A at *
  generalize lo * 2 ^ s = B at *
  omega
theorem dg_result {hi lo y s Y U v z y1 y0 H1 L1 L : Nat} (g : Dg hi lo y s Y U v z y1 y0 H1 L1 L) (hlo : lo < 18446744073709551616) (hhi : hi < y) :
    (hi * 18446744073709551616 + lo) / y = knQ y1 y0 U v * 4294967296 + knQ y1 y0 ((U * 4294967296 + v) % Y) z ∧ (hi * 18446744073709551616 + lo) % y = ((U * 4294967296 + v) % Y * 4294967296 + z) % Y / 2 ^ s := by
  obtain ⟨k1, k2, k3, k4, k5, k6, k7, k8, k9, k10, k11⟩ := dg_facts g hlo hhi
  have p := Nat.two_pow_pos s
  obtain ⟨t1, t2⟩ := kn_two Y U v z (by have := g.e_Yb; omega)
  rw [← k11, g.e_Y, Nat.mul_div_mul_right _ _ p, ← g.e_Y] at t1
  rw [← k11] at t2
  constructor
  · rw [t1]; unfold knQ; rw [← k10]
  · rw [← t2, g.e_Y, Nat.mul_mod_mul_right, Nat.mul_div_cancel _ p]

/-- What the operations between the digits yield. -/
abbrev mdSym (Y s y1 y0 v z q1 U a1 a2 a3 R q0 a4 r0 rr : Int) : Tm → Sym
  | .v 0 => intSym .u64 Y
  | .v 1 => intSym .u64 s
  | .v 2 => intSym .u64 y1
  | .v 3 => intSym .u64 y0
  | .v 4 => intSym .u64 v
  | .v 5 => intSym .u64 z
  | .v 6 => intSym .u64 q1
  | .v 7 => intSym .u64 R
  | .v 8 => intSym .u64 U
  | .v 9 => intSym .u64 rr
  | .v 10 => intSym .u64 q0
  | .v 11 => intSym .u64 r0
  | .v 12 => intSym .u64 a1
  | .v 13 => intSym .u64 a2
  | .v 14 => intSym .u64 a3
  | .v 15 => intSym .u64 a4
  | _ => intSym .u64 0
abbrev mdOps : List KOp :=
  [(.bin .mul 45, [.sy 8, kB], .sy 12), (.bin .add 45, [.sy 12, .sy 4], .sy 13), (.bin .mul 45, [.sy 6, .sy 0], .sy 14), (.bin .sub 45, [.sy 13, .sy 14], .sy 7),
   (.bin .quo 45, [.sy 7, .sy 2], .sy 10), (.bin .mul 45, [.sy 10, .sy 2], .sy 15), (.bin .sub 45, [.sy 7, .sy 15], .sy 11)]
theorem wrap_sub_wrap (a b : Int) : IntKind.u64.wrap (IntKind.u64.wrap a - IntKind.u64.wrap b) = IntKind.u64.wrap (a - b) := by simp only [IntKind.wrap_u64]; omega
theorem wrap_add_wrap (a b : Int) : IntKind.u64.wrap (IntKind.u64.wrap a + b) = IntKind.u64.wrap (a + b) := by simp only [IntKind.wrap_u64]; omega
theorem mod_of {A Y : Nat} (hY : 0 < Y) (hb : Y < 18446744073709551616) : IntKind.u64.wrap ((A : Int) - (((A / Y : Nat) * Y : Nat) : Int)) = ((A % Y : Nat) : Int) := by
  have h1 := Nat.div_add_mod' A Y
  have h2 := Nat.mod_lt A hY
  rw [wrapN (by omega) (by omega)]; omega
theorem md_ops {Y s y1 y0 v z U : Nat} (rr : Int) (hY : Y = y1 * 4294967296 + y0) (hb : Y < 18446744073709551616) (h1 : 2147483648 ≤ y1) :
    ∀ x ∈ mdOps, OpIs Tryd.prog (mdSym Y s y1 y0 v z (knQ y1 y0 U v : Nat) U (IntKind.u64.wrap (U * 4294967296 : Nat)) (IntKind.u64.wrap (U * 4294967296 + v : Nat)) (IntKind.u64.wrap (knQ y1 y0 U v * Y : Nat)) ((U * 4294967296 + v) % Y : Nat) ((U * 4294967296 + v) % Y / y1 : Nat) ((U * 4294967296 + v) % Y / y1 * y1 : Nat) ((U * 4294967296 + v) % Y % y1 : Nat) rr) x := by
  have hm := Nat.mod_lt (U * 4294967296 + v) (show Y > 0 by omega)
  have hq : knQ y1 y0 U v = (U * 4294967296 + v) / Y := by unfold knQ; rw [hY]
  have hmo := mod_of (A := U * 4294967296 + v) (show 0 < Y by omega) hb
  rw [← hq] at hmo
  generalize (U * 4294967296 + v) % Y = R at *
  have hd := Nat.div_add_mod' R y1
  have hR := Nat.mod_lt R (show y1 > 0 by omega)
  intro x hx
  simp only [mdOps, List.mem_cons, List.not_mem_nil, or_false] at hx
  rcases hx with rfl | rfl | rfl | rfl | rfl | rfl | rfl
  · exact ⟨[uv U, uv 4294967296], _, rfl, rfl, tells_mul (by simp)⟩
  · exact ⟨[uv _, uv v], _, rfl, rfl, tells_add (by rw [wrap_add_wrap]; simp)⟩
  · exact ⟨[uv _, uv Y], _, rfl, rfl, tells_mul (by simp)⟩
  · exact ⟨[uv _, uv _], _, rfl, rfl, tells_sub (by rw [wrap_sub_wrap]; exact hmo)⟩
  · exact ⟨[uv R, uv y1], _, rfl, rfl, tells_quoN (by omega) (by omega)⟩
  · exact ⟨[uv _, uv y1], _, rfl, rfl, tells_mul (by rw [← Int.natCast_mul]; exact wrapN (by omega) (by omega))⟩
  · exact ⟨[uv R, uv _], uv (R % y1 : Nat), rfl, rfl, tells_sub (by rw [wrapN (by omega) (by omega)]; omega)⟩
abbrev poSym (Y s y1 y0 z q1 R q0 b1 b2 c1 c2 c3 rem res rr : Int) : Tm → Sym
  | .v 0 => intSym .u64 Y
  | .v 1 => intSym .u64 s
  | .v 2 => intSym .u64 y1
  | .v 3 => intSym .u64 y0
  | .v 4 => intSym .u64 z
  | .v 6 => intSym .u64 q1
  | .v 7 => intSym .u64 R
  | .v 9 => intSym .u64 rr
  | .v 10 => intSym .u64 q0
  | .v 12 => intSym .u64 b1
  | .v 13 => intSym .u64 b2
  | .v 14 => intSym .u64 c1
  | .v 15 => intSym .u64 c2
  | .v 16 => intSym .u64 c3
  | .v 17 => intSym .u64 rem
  | .v 18 => intSym .u64 res
  | _ => intSym .u64 0
abbrev poOps : List KOp :=
  [(.bin .mul 45, [.sy 6, kB], .sy 12), (.bin .add 45, [.sy 12, .sy 10], .sy 13), (.bin .mul 45, [.sy 7, kB], .sy 14), (.bin .add 45, [.sy 14, .sy 4], .sy 15),
   (.bin .mul 45, [.sy 10, .sy 0], .sy 16), (.bin .sub 45, [.sy 15, .sy 16], .sy 17), (.bin .shr 45, [.sy 17, .sy 1], .sy 18)]
theorem po_ops {Y s y1 y0 z q1 R : Nat} (rr : Int) (hY : Y = y1 * 4294967296 + y0) (hb : Y < 18446744073709551616) (h1 : 2147483648 ≤ y1) (hq1 : q1 < 4294967296) (hz : z < 4294967296) (hR : R < Y) (hs : s < 64) :
    ∀ x ∈ poOps, OpIs Tryd.prog (poSym Y s y1 y0 z q1 R (knQ y1 y0 R z : Nat) (q1 * 4294967296 : Nat) (q1 * 4294967296 + knQ y1 y0 R z : Nat) (IntKind.u64.wrap (R * 4294967296 : Nat)) (IntKind.u64.wrap (R * 4294967296 + z : Nat)) (IntKind.u64.wrap (knQ y1 y0 R z * Y : Nat)) ((R * 4294967296 + z) % Y : Nat) ((R * 4294967296 + z) % Y / 2 ^ s : Nat) rr) x := by
  have hlt := kn_lt h1 hz (show R < y1 * 4294967296 + y0 by omega)
  have hq : knQ y1 y0 R z = (R * 4294967296 + z) / Y := by unfold knQ; rw [hY]
  have hmo := mod_of (A := R * 4294967296 + z) (show 0 < Y by omega) hb
  rw [← hq] at hmo
  generalize knQ y1 y0 R z = q0 at *
  intro x hx
  simp only [poOps, List.mem_cons, List.not_mem_nil, or_false] at hx
  rcases hx with rfl | rfl | rfl | rfl | rfl | rfl | rfl
  · exact ⟨[uv q1, uv 4294967296], uv (q1 * 4294967296 : Nat), rfl, rfl, tells_mul (by rw [wrapN (by omega) (by omega)]; omega)⟩
  · exact ⟨[uv (q1 * 4294967296 : Nat), uv q0], uv (q1 * 4294967296 + q0 : Nat), rfl, rfl, tells_add (by rw [wrapN (by omega) (by omega)]; omega)⟩
  · exact ⟨[uv R, uv 4294967296], _, rfl, rfl, tells_mul (by simp)⟩
  · exact ⟨[uv _, uv z], _, rfl, rfl, tells_add (by rw [wrap_add_wrap]; simp)⟩
  · exact ⟨[uv q0, uv Y], _, rfl, rfl, tells_mul (by simp)⟩
  · exact ⟨[uv _, uv _], _, rfl, rfl, tells_sub (by rw [wrap_sub_wrap]; exact hmo)⟩
  · exact ⟨[uv _, uv s], uv ((R * 4294967296 + z) % Y / 2 ^ s : Nat), rfl, rfl, tells_shr (by omega) (by
      rw [show min (s : Int).toNat IntKind.u64.bits = s from by rw [Int.toNat_natCast]; exact Nat.min_eq_left (by show s ≤ 64; omega)]
      simp)⟩
theorem div64_done {w0 : World} {nt : Nat} {a : Act} {w : World} {x1 x2 : Int} (hs : Fs nt [(6, uv x1), (7, uv x2)] [] a w) (hb : Below w0.heap.size w0 w) :
    bodyPost Tryd.prog Tryd.f72 (fun e w' => e = .returned (.tuple #[uv x1, uv x2]) ∧ Below w0.heap.size w0 w') Exit.ret a w := by
  have h6 : a.tmps.getD 6 undef = uv x1 := hs.tmps (6, uv x1) List.mem_cons_self
  have h7 : a.tmps.getD 7 undef = uv x2 := hs.tmps (7, uv x2) (List.mem_cons_of_mem _ List.mem_cons_self)
  have h8 := hs.defers
  clear hs
  rw [Array.getD_eq_getD_getElem?] at h6 h7
  simp [bodyPost, results, Tryd.results72, go_sem, h6, h7, h8]
  exact hb
set_option maxHeartbeats 2000000 in
theorem div64_go (hi lo y : Nat) (hlo : lo < 18446744073709551616) (hhi : hi < y) (hy : y < 18446744073709551616) (h0 : 0 < hi) (w : World) :
    Calls Tryd.prog 72 #[uv hi, uv lo, uv y] w fun e w' => e = .returned (.tuple #[uv ((hi * 18446744073709551616 + lo) / y : Nat), uv ((hi * 18446744073709551616 + lo) % y : Nat)]) ∧ Below w.heap.size w w' := by
  have hz0 : Lib.bitLen y ≠ 0 := fun h => by
    have := (bl_spec y hy).1
    rw [h] at this; omega
  obtain ⟨t1, t2, t3⟩ := top_spec (show 0 < y by omega) hy
  have HL := Lib.hid (fun w => lz_any y (by omega) hy w)
  generalize hs : 64 - Lib.bitLen y = s at *
  have hsl : s < 64 := by omega
  have g : Dg hi lo y s (y * 2 ^ s) (hi * 2 ^ s + lo / 2 ^ (64 - s)) (lo * 2 ^ s % 18446744073709551616 / 4294967296) (lo * 2 ^ s % 18446744073709551616 % 4294967296) (y * 2 ^ s / 4294967296) (y * 2 ^ s % 4294967296) (hi * 2 ^ s) (lo / 2 ^ (64 - s)) (lo * 2 ^ s % 18446744073709551616) :=
    ⟨rfl, hsl, ⟨t2, t3⟩, rfl, rfl, rfl, rfl, rfl, rfl, rfl, rfl⟩
  have F := dg_facts g hlo hhi
  have RS := dg_result g hlo hhi
  rw [RS.1, RS.2]
  have f1 : IntKind.u64.wrap (s : Int) = s := wrapN (by omega) (by omega)
  have f2 : IntKind.u64.wrap ((y : Int) * 2 ^ s) = (y * 2 ^ s : Nat) := by rw [show (y : Int) * 2 ^ s = ((y * 2 ^ s : Nat) : Int) by simp]; exact wrapN (by omega) (by omega)
  have f3 : ((y * 2 ^ s : Nat) : Int) / 4294967296 = (y * 2 ^ s / 4294967296 : Nat) := by omega
  have f4 : bits .and .u64 ((y * 2 ^ s : Nat) : Int) 4294967295 = (y * 2 ^ s % 4294967296 : Nat) := by rw [show (4294967295 : Int) = ((2 ^ 32 - 1 : Nat) : Int) from rfl, and_mask 32 (by omega) (by omega) (by decide)]; omega
  have f5 : IntKind.u64.wrap ((hi : Int) * 2 ^ s) = (hi * 2 ^ s : Nat) := by rw [show (hi : Int) * 2 ^ s = ((hi * 2 ^ s : Nat) : Int) by simp]; exact wrapN (by omega) (by omega)
  have f6 : IntKind.u64.wrap (64 - (s : Int)) = 64 - s := wrapN (by omega) (by omega)
  have f7 : (lo : Int) / 2 ^ (64 - s) = (lo / 2 ^ (64 - s) : Nat) := by simp
  have f8 : bits .or .u64 ((hi * 2 ^ s : Nat) : Int) ((lo / 2 ^ (64 - s) : Nat) : Int) = (hi * 2 ^ s + lo / 2 ^ (64 - s) : Nat) := by
    have h2 : 2 ^ s ≤ 2 ^ 63 := Nat.pow_le_pow_right (by decide) (by omega)
    rw [or_apart s (Int.natCast_nonneg _) (Int.ofNat_lt.2 F.2.2.1) (Int.natCast_nonneg _) (Int.ofNat_lt.2 (Nat.lt_of_lt_of_le F.2.1 (Nat.le_trans h2 (by decide)))) (by rw [← Int.natCast_emod, F.1]; rfl) (Int.ofNat_lt.2 F.2.1), Int.natCast_add]
  have f9 : IntKind.u64.wrap ((lo : Int) * 2 ^ s) = (lo * 2 ^ s % 18446744073709551616 : Nat) := by rw [show (lo : Int) * 2 ^ s = ((lo * 2 ^ s : Nat) : Int) by simp, IntKind.wrap_u64]; omega
  have f10 : ((lo * 2 ^ s % 18446744073709551616 : Nat) : Int) / 4294967296 = (lo * 2 ^ s % 18446744073709551616 / 4294967296 : Nat) := by omega
  have f11 : bits .and .u64 ((lo * 2 ^ s % 18446744073709551616 : Nat) : Int) 4294967295 = (lo * 2 ^ s % 18446744073709551616 % 4294967296 : Nat) := by rw [show (4294967295 : Int) = ((2 ^ 32 - 1 : Nat) : Int) from rfl, and_mask 32 (by omega) (by omega) (by decide)]; omega
  have e64 : y * 2 ^ s < 18446744073709551616 := t3
  clear RS t1 t2 t3 g hs hz0
  generalize y * 2 ^ s = Y at *
  generalize hi * 2 ^ s = H1 at *
  generalize lo / 2 ^ (64 - s) = L1 at *
  generalize hLL : lo * 2 ^ s % 18446744073709551616 = L at *
  generalize Y / 4294967296 = y1 at *
  generalize Y % 4294967296 = y0 at *
  generalize L / 4294967296 = v at *
  generalize L % 4294967296 = z at *
  generalize hUU : H1 + L1 = U at *
  obtain ⟨_, _, _, k4, k5, k6, k7, k8, k9, k10, _⟩ := F
  have f12 : IntKind.u64.wrap ((U : Int) / (y1 : Int)) = (U / y1 : Nat) := by
    have : U / y1 ≤ U := Nat.div_le_self _ _
    rw [← Int.natCast_ediv]; exact wrapN (Int.natCast_nonneg _) (by omega)
  have dm := Nat.div_add_mod' U y1
  have f13 : IntKind.u64.wrap (((U / y1 : Nat) : Int) * (y1 : Int)) = (U / y1 * y1 : Nat) := by
    have : U / y1 * y1 ≤ U := Nat.div_mul_le_self _ _
    rw [← Int.natCast_mul]
    generalize U / y1 * y1 = mm at *
    exact wrapN (by omega) (by omega)
  have f14 : IntKind.u64.wrap ((U : Int) - (U / y1 * y1 : Nat)) = (U % y1 : Nat) := by
    generalize U / y1 * y1 = mm at *
    rw [wrapN (by omega) (by omega)]; omega
  have hyz : ((y : Int) == 0) = false := by simp; omega
  have hhz : ((hi : Int) == 0) = false := by simp; omega
  have hyh : ((y : Int) ≤ (hi : Int)) = False := by simp; omega
  have s0 : (0 : Int) ≤ s := by omega
  have s1 : (0 : Int) ≤ 64 - s := by omega
  have g1 : (y1 : Int) ≠ 0 := by omega
  have hR : (U * 4294967296 + v) % Y < Y := Nat.mod_lt _ (by omega)
  have hq1 := kn_lt k5 k8 (show U < y1 * 4294967296 + y0 by omega)
  have MD := fun rr => md_ops rr (s := s) (z := z) (U := U) (v := v) k10 e64 k5
  have PO := fun rr => po_ops rr (q1 := knQ y1 y0 U v) (s := s) k10 e64 k5 hq1 k9 hR hsl
  obtain ⟨R, hRR⟩ : ∃ R, (U * 4294967296 + v) % Y = R := ⟨_, rfl⟩
  simp only [hRR] at MD PO hR ⊢
  generalize hqq : knQ y1 y0 U v = q1 at MD PO ⊢
  generalize hqa : U / y1 = qa at f12 f13 f14
  generalize qa * y1 = mm at f13 f14
  generalize hra : U % y1 = ra at f14
  have BD := Lib.hid (show U < y1 * 4294967296 + y0 ∧ 2147483648 ≤ y1 ∧ y1 < 4294967296 ∧ y0 < 4294967296 ∧ v < 4294967296 ∧ z < 4294967296 ∧ Y = y1 * 4294967296 + y0 ∧ R < Y ∧ U / y1 = qa ∧ U % y1 = ra ∧ knQ y1 y0 U v = q1 from ⟨by omega, k5, k6, k7, k8, k9, k10, hR, hqa, hra, hqq⟩)
  have MD := Lib.hid MD
  have PO := Lib.hid PO
  clear hRR dm k4 k5 k6 k7 k8 k9 k10 e64 hsl hLL hUU hlo hhi hy h0 hR hq1 hqq hqa hra
  go_enter Tryd.func72, Tryd.ntmps72
  go_wp2_with fail
  refine (HL.out _).mono ?_
  rintro e w1 ⟨rfl, rfl⟩
  go_wp2_with fail
  rename_i Q' K hK
  obtain ⟨b1, b2, b3, b4, b5, b6, b7, b8, b9, b10, b11⟩ := BD.out
  subst b9 b10
  refine kn1_loop (nt := 135) (fun _ _ _ _ _ _ _ _ _ _ _ _ _ _ _ _ _ => by kernel_rfl) (fun _ _ _ _ _ _ _ _ _ _ _ _ _ _ _ _ A G h _ => by cases A <;> cases G <;> first | (cases h; done) | kernel_rfl) (fun _ _ _ _ _ _ _ _ _ _ _ _ _ _ _ _ A G h _ => by cases A <;> cases G <;> first | (cases h; done) | kernel_rfl)
    (Y := Y) (s := s) (y1 := y1) (y0 := y0) (U := U) (d := v) (e := z) (u := U) b2 b3 b4 b5 b1 ⟨by simp, rfl, ?_, List.forall_mem_nil _⟩ ?_
  · repeat' (first | exact List.forall_mem_nil _ | refine List.forall_mem_cons.2 ⟨rfl, ?_⟩)
  · intro a w2 r hs hb
    rw [b11] at hs
    show K a w2
    refine hK a w2 ?_
    refine wp_seq (code_fs (by kernel_rfl) _ [] mdOps (fun _ h => by cases h) (MD.out r) 300 (kn1T (.sy 6) (.sy 9)) [] .normal [(2, .sy 0), (8, .sy 1), (9, .sy 2), (10, .sy 3), (14, .sy 5), (15, .sy 6), (17, .sy 7)] [] [] (fun _ => by kernel_rfl) (by simp) (by simp) rfl rfl rfl rfl rfl hs ?_)
    intro a3 w3 hs3 hn3
    have hb3 := hb.trans ((near_self hn3).mono hb.size)
    refine wp_seq (code_fs (by kernel_rfl) _ [] mdOps (fun _ h => by cases h) (MD.out r) 300 [(2, .sy 0), (8, .sy 1), (9, .sy 2), (10, .sy 3), (14, .sy 5), (15, .sy 6), (17, .sy 7)] [] .normal [(2, .sy 0), (8, .sy 1), (9, .sy 2), (10, .sy 3), (14, .sy 5), (15, .sy 6), (17, .sy 7), (18, .sy 10)] [] [] (fun _ => by kernel_rfl) (by simp) (by simp) rfl rfl rfl rfl rfl hs3 ?_)
    intro a4 w4 hs4 hn4
    have hb4 := hb3.trans ((near_self hn4).mono hb3.size)
    refine wp_seq (code_fs (by kernel_rfl) _ [] mdOps (fun _ h => by cases h) (MD.out r) 300 [(2, .sy 0), (8, .sy 1), (9, .sy 2), (10, .sy 3), (14, .sy 5), (15, .sy 6), (17, .sy 7), (18, .sy 10)] [] .normal [(2, .sy 0), (8, .sy 1), (9, .sy 2), (10, .sy 3), (14, .sy 5), (15, .sy 6), (17, .sy 7), (18, .sy 10), (16, .sy 11)] [] [] (fun _ => by kernel_rfl) (by simp) (by simp) rfl rfl rfl rfl rfl hs4 ?_)
    intro a5 w5 hs5 hn5
    have hb5 := hb4.trans ((near_self hn5).mono hb4.size)
    refine wp_seq (wp_block (kn2_loop (nt := 135) (fun _ _ _ _ _ _ _ _ _ _ _ _ _ _ _ _ _ => by kernel_rfl) (fun _ _ _ _ _ _ _ _ _ _ _ _ _ _ _ _ A G h _ => by cases A <;> cases G <;> first | (cases h; done) | kernel_rfl) (fun _ _ _ _ _ _ _ _ _ _ _ _ _ _ _ _ A G h _ => by cases A <;> cases G <;> first | (cases h; done) | kernel_rfl)
      (Y := Y) (s := s) (y1 := y1) (y0 := y0) (d := z) (q1 := q1) (un := R) (u := R) b2 b3 b4 b6 (by omega) hs5 ?_))
    intro a6 w6 r6 hs6 hb6
    have hb6 := hb5.trans (hb6.mono hb5.size)
    refine code_fs (by kernel_rfl) _ [] poOps (fun _ h => by cases h) (PO.out r6) 300 (kn2T (.sy 10) (.sy 9)) [] .ret [(6, .sy 13), (7, .sy 18)] [] [] (fun _ => by kernel_rfl) (by simp) (by simp) rfl rfl rfl rfl rfl hs6 ?_
    intro a7 w7 hs7 hn7
    have hb7 := hb6.trans ((near_self hn7).mono hb6.size)
    exact div64_done hs7 hb7
/-- Where the high half is 0. -/
theorem div64_low (lo y : Nat) (hlo : lo < 18446744073709551616) (h0 : 0 < y) (w : World) :
    Calls Tryd.prog 72 #[uv 0, uv lo, uv y] w fun e w' => e = .returned (.tuple #[uv (lo / y : Nat), uv (lo % y : Nat)]) ∧ Below w.heap.size w w' := by
  have q0 := Nat.div_le_self lo y
  have r0 := Nat.mod_le lo y
  refine calls_toldS (by kernel_rfl) (knSym lo y (lo / y : Nat) (lo % y : Nat) 0 0 0 0 0 0 0 0 0 0 0 0) [] [(.bin .eql 45, [.sy 1, .clo (uv 0)], .clo (.bool false)), (.bin .leq 45, [.sy 1, .clo (uv 0)], .clo (.bool false)), (.bin .quo 45, [.sy 0, .sy 1], .sy 2), (.bin .rem 45, [.sy 0, .sy 1], .sy 3)] (fun _ h => by cases h) ?_
    (n := 300) (args := [.clo (uv 0), .sy 0, .sy 1]) (xs := [uv 0, uv lo, uv y]) rfl (.tup [.sy 2, .sy 3]) (by kernel_rfl) rfl w
  intro z hz
  simp only [List.mem_cons, List.not_mem_nil, or_false] at hz
  rcases hz with rfl | rfl | rfl | rfl
  · exact ⟨[uv y, uv 0], .bool false, rfl, rfl, tells_eql (decide_eq_false (by omega))⟩
  · exact ⟨[uv y, uv 0], .bool false, rfl, rfl, tells_leq (decide_eq_false (by omega))⟩
  · exact ⟨[uv lo, uv y], _, rfl, rfl, tells_quoN h0 hlo⟩
  · exact ⟨[uv lo, uv y], _, rfl, rfl, tells_rem (by omega) (Int.ofNat_tmod lo y)⟩
theorem div64_any (hi lo y : Nat) (hlo : lo < 18446744073709551616) (hhi : hi < y) (hy : y < 18446744073709551616) (w : World) :
    Calls Tryd.prog 72 #[uv hi, uv lo, uv y] w fun e w' => e = .returned (.tuple #[uv ((hi * 18446744073709551616 + lo) / y : Nat), uv ((hi * 18446744073709551616 + lo) % y : Nat)]) ∧ Below w.heap.size w w' := by
  by_cases h0 : hi = 0
  · subst h0
    rw [Nat.zero_mul, Nat.zero_add]
    exact div64_low lo y hlo (by omega) w
  · exact div64_go hi lo y hlo hhi hy (by omega) w
theorem rem64_any (hi lo y : Nat) (hlo : lo < 18446744073709551616) (h0 : 0 < y) (hy : y < 18446744073709551616) (w : World) :
    Calls Tryd.prog 71 #[uv hi, uv lo, uv y] w fun e w' => e = .returned (uv ((hi * 18446744073709551616 + lo) % y : Nat)) ∧ Below w.heap.size w w' := by
  have hd := fun w => div64_any (hi % y) lo y hlo (Nat.mod_lt _ h0) hy w
  have he : (hi % y * 18446744073709551616 + lo) % y = (hi * 18446744073709551616 + lo) % y := by rw [Nat.add_mod, Nat.mod_mul_mod, ← Nat.add_mod]
  rw [he] at hd
  refine calls_toldS (by kernel_rfl) (knSym hi lo y (hi % y : Nat) ((hi % y * 18446744073709551616 + lo) / y : Nat) ((hi * 18446744073709551616 + lo) % y : Nat) 0 0 0 0 0 0 0 0 0 0) [(72, [.sy 3, .sy 1, .sy 2], .tup [.sy 4, .sy 5])] [(.bin .rem 45, [.sy 0, .sy 2], .sy 3)] ?_ ?_
    (n := 300) (args := [.sy 0, .sy 1, .sy 2]) (xs := [uv hi, uv lo, uv y]) rfl (.sy 5) (by kernel_rfl) rfl w
  · intro z hz
    simp only [List.mem_cons, List.not_mem_nil, or_false] at hz
    subst hz
    exact ⟨[uv (hi % y : Nat), uv lo, uv y], _, rfl, rfl, hd⟩
  · intro z hz
    simp only [List.mem_cons, List.not_mem_nil, or_false] at hz
    subst hz
    exact ⟨[uv hi, uv y], _, rfl, rfl, tells_rem (by omega) (Int.ofNat_tmod hi y)⟩
end Go.Proofs.YtdjnnbjpaohaiaaDoor
