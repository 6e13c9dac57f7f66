/- Layer 14 (boring): Nearest of the program. -/
import Derived.Test.YtllnglofbhmcgaaGreatBnB
namespace Go.Proofs.YtllnglofbhmcgaaGreat
open Go.RowKit Go.Ev
set_option maxRecDepth 100000
abbrev cnSym (L : List Bo) (px py : Int) (a : Option Addr) (n c : Nat) : Tm → Sym
  | .v 60 => intSym .i64 (badIx L)
  | x => bnSym b0 b0 px py a ⟨0, 0, none⟩ n c 0 0 x
abbrev boKC (B : Nat) (L : List Bo) (a : Option Addr) : World → Prop := boK B L a
theorem contains_any (B : Nat) (L : List Bo) (a : Option Addr) (c : Nat) (hn0 : L.length ≤ 100000) (w : World) (hP : boK B L a w) (hB : B ≤ w.heap.size) :
    Calls Tryz.prog 42 #[.slice a L.length c, fBad] w fun e w' => e = .returned (.bool (decide (0 ≤ badIx L))) ∧ Below w.heap.size w w' := by
  have hev : ∀ (n : Nat) (d : Bool), resC (evalFn0 Tryz.prog (@evalC (toldK 0 (cnSym L 0 0 a n c) [(74, [.sy 20, .clo fBad], .sy 60)] [] [(.bin .geq 3, [.sy 60, .clo (iv 0)], .clo (.bool d))] (boK B L a) B ElAt.kst) Tryz.prog 300 true) 0 42 [.sy 20, .clo fBad] ⟨0, []⟩) = some (.clo (.bool d)) := by
    intro n d; cases d <;> kernel_rfl
  refine calls_toldM hmix (cnSym L 0 0 a L.length c) [(74, [.sy 20, .clo fBad], .sy 60)] [] [(.bin .geq 3, [.sy 60, .clo (iv 0)], .clo (.bool (decide (0 ≤ badIx L))))] (boK B L a) B ElAt.kst (aC ⟨[.slice a L.length c, fBad], iv (badIx L), rfl, rfl, fun w' hw => ?_⟩ aN) aN (aC (OpIs.at ⟨[iv (badIx L), iv 0], _, rfl, rfl, tells_geq rfl⟩ _) aN) (n := 300) (args := [.sy 20, .clo fBad]) (xs := [.slice a L.length c, fBad]) rfl _ (hev _ _) rfl w hP hB
  obtain ⟨B', h1, h2⟩ := ElAt.tight hw (fun x => by rw [encO_len]; decide)
  exact index_any B' L a c hn0 w' h1 h2
/-- A point and a list are allowed. -/
def okN (px py : Int) (L : List Bo) : Bool := alwP px py && !decide (0 ≤ badIx L)
abbrev ptB (px py : Int) : Bo := ⟨intSym .i64 0, intSym .i64 0, px, py⟩
abbrev nrC (m d : Bool) : List KCall := [(41, [.agg [.sy 10, .sy 11]], .clo (.bool m)), (42, [.sy 20, .clo fBad], .clo (.bool d))]
abbrev nrO (z : Bool) : List KOp := [lnB, (.bin .eql 3, [.sy 21, .clo (iv 0)], .clo (.bool z))]
theorem nr_c {B : Nat} {L : List Bo} {a : Option Addr} {b e : Bo} {px py : Int} {a' : Addr} {c k j : Nat} (hn0 : L.length ≤ 100000) {m d : Bool} (hm : alwP px py = m) (hd : decide (0 ≤ badIx L) = d) : ∀ r ∈ nrC m d, CallAt Tryz.prog (bnSym b e px py a a' L.length c k j) (boK B L a) r :=
  aC ⟨[.agg #[iv px, iv py]], .bool m, rfl, rfl, fun w _ => by have := isAllowed_any (ptB px py) w; rw [← hm]; exact this⟩ (aC ⟨[.slice a L.length c, fBad], .bool d, rfl, rfl, fun w hw => by
    obtain ⟨B', h1, h2⟩ := ElAt.tight hw (fun x => by rw [encO_len]; decide)
    have := contains_any B' L a c hn0 w h1 h2
    rw [← hd]
    exact this⟩ aN)
theorem nr_o {b e : Bo} {px py : Int} {a : Option Addr} {a' : Addr} {n c k j : Nat} {K : World → Prop} {z : Bool} (hz : decide (n = 0) = z) : ∀ r ∈ nrO z, OpAt Tryz.prog (bnSym b e px py a a' n c k j) K r :=
  aC ln_b (aC (OpIs.at ⟨[iv n, iv 0], _, rfl, rfl, tells_eql (by rw [← hz, decide_eq_decide]; omega)⟩ K) aN)
/-- What Nearest answers where it refuses. -/
theorem near_err (B : Nat) (L : List Bo) (a : Option Addr) (c : Nat) (px py : Int) (hn0 : L.length ≤ 100000) (h : L.length = 0 ∨ okN px py L = false) (w : World) (hP : boK B L a w) (hB : B ≤ w.heap.size) :
    Calls Tryz.prog 21 #[.slice a L.length c, .agg #[iv px, iv py]] w fun e w' => e = .returned (.tuple #[iv 0, iv (if L.length = 0 then 9 else 6)]) ∧ Below w.heap.size w w' := by
  have hev : ∀ (n : Nat) (z m d : Bool), (z || !(m && !d)) = true → resC (evalFn0 Tryz.prog (@evalC (toldK 0 (bnSym b0 b0 px py a ⟨0, 0, none⟩ n c 0 0) (nrC m d) [] (nrO z) (boK B L a) B ElAt.kst) Tryz.prog 300 true) 0 21 [.sy 20, .agg [.sy 10, .sy 11]] ⟨0, []⟩) = some (.clo (.tuple #[iv 0, iv (cond z 9 6)])) := by
    intro n z m d h
    cases z <;> cases m <;> cases d <;> first | (cases h; done) | kernel_rfl
  have hh : (decide (L.length = 0) || !(alwP px py && !decide (0 ≤ badIx L))) = true := by
    rcases h with h | h
    · simp [h]
    · unfold okN at h
      rw [h]; simp
  have := calls_toldM hmix (bnSym b0 b0 px py a ⟨0, 0, none⟩ L.length c 0 0) (nrC (alwP px py) (decide (0 ≤ badIx L))) [] (nrO (decide (L.length = 0))) (boK B L a) B ElAt.kst (nr_c hn0 rfl rfl) aN (nr_o rfl) (n := 300) (args := [.sy 20, .agg [.sy 10, .sy 11]]) (xs := [.slice a L.length c, .agg #[iv px, iv py]]) rfl _ (hev _ _ _ _ hh) rfl w hP hB
  rw [Bool.cond_decide] at this
  exact this
/-! ### The loop -/
def sqF (px py : Int) (b : Bo) : Int := (b.x - px) * (b.x - px) + (b.y - py) * (b.y - py)
def nthB (L : List Bo) (k : Nat) : Bo := L.getD k b0
def bestF (px py : Int) (L : List Bo) : Nat → Nat
  | 0 => 0
  | k + 1 => if sqF px py (nthB L k) < sqF px py (nthB L (bestF px py L k)) then k else bestF px py L k
theorem best_lt {px py : Int} {L : List Bo} (h0 : 0 < L.length) : ∀ k, k ≤ L.length → bestF px py L k < L.length
  | 0, _ => h0
  | k + 1, h => by
    rw [bestF]
    split
    · omega
    · exact best_lt h0 k (by omega)
theorem nthB_get {L : List Bo} {k : Nat} (h : k < L.length) : L[k]? = some (nthB L k) := by
  unfold nthB
  simp [List.getD, h]
abbrev fdA : List KOp := [ixB, (.fda tBo 1, [.sy 24], .sy 27), (.fda tPo 0, [.sy 27], .sy 27), (.fda tPo 1, [.sy 27], .sy 30), (.ld 3, [.sy 27], .sy 0), (.ld 3, [.sy 30], .sy 1), (.ld tPo, [.sy 27], .agg [.sy 0, .sy 1])]
abbrev fdB : List KOp := [(.ixa tBs, [.sy 20, .sy 25], .sy 26), (.fda tBo 1, [.sy 26], .sy 28), (.fda tPo 0, [.sy 28], .sy 28), (.fda tPo 1, [.sy 28], .sy 31), (.ld 3, [.sy 28], .sy 5), (.ld 3, [.sy 31], .sy 6), (.ld tPo, [.sy 28], .agg [.sy 5, .sy 6])]
abbrev sqA : List KOp := [(.bin .sub 3, [.sy 0, .sy 10], .sy 40), (.bin .sub 3, [.sy 1, .sy 11], .sy 41), (.bin .mul 2, [.sy 40, .sy 40], .sy 42), (.bin .mul 2, [.sy 41, .sy 41], .sy 43), (.bin .add 2, [.sy 42, .sy 43], .sy 44)]
abbrev sqB (m : Bool) : List KOp := [(.bin .sub 3, [.sy 5, .sy 10], .sy 50), (.bin .sub 3, [.sy 6, .sy 11], .sy 51), (.bin .mul 2, [.sy 50, .sy 50], .sy 52), (.bin .mul 2, [.sy 51, .sy 51], .sy 53), (.bin .add 2, [.sy 52, .sy 53], .sy 54), (.bin .lss 2, [.sy 44, .sy 54], .clo (.bool m))]
theorem sq_le {z : Int} (h : -2000000 ≤ z ∧ z ≤ 2000000) : 0 ≤ z * z ∧ z * z ≤ 4000000000000 := by
  obtain ⟨h1, h2⟩ := h
  rcases Int.le_total 0 z with h0 | h0
  · exact ⟨Int.mul_nonneg h0 h0, by calc z * z ≤ 2000000 * 2000000 := Int.mul_le_mul h2 h2 h0 (by decide)
      _ = 4000000000000 := by decide⟩
  · have h3 : z * z = (-z) * (-z) := by rw [Int.neg_mul_neg]
    rw [h3]
    exact ⟨Int.mul_nonneg (by omega) (by omega), by calc (-z) * (-z) ≤ 2000000 * 2000000 := Int.mul_le_mul (by omega) (by omega) (by omega) (by decide)
      _ = 4000000000000 := by decide⟩
theorem wrapR {z : Int} (h : -9000000000000000000 ≤ z ∧ z ≤ 9000000000000000000) : IntKind.i64.wrap z = z := by
  rw [IntKind.wrap_i64]; omega
section
variable {B : Nat} {L : List Bo} {b e : Bo} {px py : Int} {a' : Addr} {n c k j : Nat} {K : World → Prop}
theorem fd_a (hK : ∀ w, K w → boK B L (some a') w) (hp : L[k]? = some b) (hk : k < n) : ∀ r ∈ fdA, OpAt Tryz.prog (bnSym b e px py (some a') a' n c k j) K r :=
  aC (ix_b hk) (aC (OpIs.at ⟨[.pointer (some (a'.add (k * 4)))], _, rfl, rfl, tells_fdaE (off := 1) (by kernel_rfl)⟩ _) (aC (OpIs.at ⟨[.pointer (some ((a'.add (k * 4)).add 1))], _, rfl, rfl, tells_fdaE (off := 0) (by kernel_rfl)⟩ _) (aC (OpIs.at ⟨[.pointer (some ((a'.add (k * 4)).add 1))], .pointer (some ((a'.add (k * 4)).add 2)), rfl, rfl, by
    have := tells_fdaE (P := Tryz.prog) (t := tPo) (f := 1) (off := 1) (a := (a'.add (k * 4)).add 1) (by kernel_rfl)
    rw [show ((a'.add (k * 4)).add 1).add 1 = (a'.add (k * 4)).add 2 from addA _ 1 1] at this
    exact this⟩ _)
    (aC ⟨[.pointer (some ((a'.add (k * 4)).add 1))], iv b.x, rfl, rfl, ElAt.ld1 (enc := encO) encO_len (by kernel_rfl) rfl hK hp⟩ (aC ⟨[.pointer (some ((a'.add (k * 4)).add 2))], iv b.y, rfl, rfl, ElAt.ld1 (enc := encO) encO_len (by kernel_rfl) rfl hK hp⟩ (aC ⟨[.pointer (some ((a'.add (k * 4)).add 1))], .agg #[iv b.x, iv b.y], rfl, rfl, ElAt.ldAt (enc := encO) (o := 1) (cs := [iv b.x, iv b.y]) encO_len (by kernel_rfl) (by kernel_rfl) (fun j x hx => by
      match j, hx with
      | 0, hx => exact hx
      | 1, hx => exact hx) hK hp⟩ aN))))))
theorem fd_b (hK : ∀ w, K w → boK B L (some a') w) (hp : L[j]? = some e) (hk : j < n) : ∀ r ∈ fdB, OpAt Tryz.prog (bnSym b e px py (some a') a' n c k j) K r :=
  aC (OpIs.at ⟨[.slice (some a') n c, iv j], .pointer (some (a'.add (j * 4))), rfl, rfl, tells_ixaE (e := tBo) (by kernel_rfl) (by kernel_rfl) hk⟩ K) (aC (OpIs.at ⟨[.pointer (some (a'.add (j * 4)))], _, rfl, rfl, tells_fdaE (off := 1) (by kernel_rfl)⟩ _) (aC (OpIs.at ⟨[.pointer (some ((a'.add (j * 4)).add 1))], _, rfl, rfl, tells_fdaE (off := 0) (by kernel_rfl)⟩ _) (aC (OpIs.at ⟨[.pointer (some ((a'.add (j * 4)).add 1))], .pointer (some ((a'.add (j * 4)).add 2)), rfl, rfl, by
    have := tells_fdaE (P := Tryz.prog) (t := tPo) (f := 1) (off := 1) (a := (a'.add (j * 4)).add 1) (by kernel_rfl)
    rw [show ((a'.add (j * 4)).add 1).add 1 = (a'.add (j * 4)).add 2 from addA _ 1 1] at this
    exact this⟩ _)
    (aC ⟨[.pointer (some ((a'.add (j * 4)).add 1))], iv e.x, rfl, rfl, ElAt.ld1 (enc := encO) encO_len (by kernel_rfl) rfl hK hp⟩ (aC ⟨[.pointer (some ((a'.add (j * 4)).add 2))], iv e.y, rfl, rfl, ElAt.ld1 (enc := encO) encO_len (by kernel_rfl) rfl hK hp⟩ (aC ⟨[.pointer (some ((a'.add (j * 4)).add 1))], .agg #[iv e.x, iv e.y], rfl, rfl, ElAt.ldAt (enc := encO) (o := 1) (cs := [iv e.x, iv e.y]) encO_len (by kernel_rfl) (by kernel_rfl) (fun j x hx => by
      match j, hx with
      | 0, hx => exact hx
      | 1, hx => exact hx) hK hp⟩ aN))))))
theorem sq_a {a : Option Addr} (hb : alwP b.x b.y = true) (hp : alwP px py = true) : ∀ r ∈ sqA, OpAt Tryz.prog (bnSym b e px py a a' n c k j) K r := by
  have h1 := alwP_iff.1 hb
  have h2 := alwP_iff.1 hp
  have s1 := sq_le (z := b.x - px) (by omega)
  have s2 := sq_le (z := b.y - py) (by omega)
  exact aC (OpIs.at ⟨[iv b.x, iv px], iv (b.x - px), rfl, rfl, tells_sub (wrapR (by omega))⟩ _) (aC (OpIs.at ⟨[iv b.y, iv py], iv (b.y - py), rfl, rfl, tells_sub (wrapR (by omega))⟩ _) (aC (OpIs.at ⟨[iv (b.x - px), iv (b.x - px)], iv ((b.x - px) * (b.x - px)), rfl, rfl, tells_mul (wrapR (by omega))⟩ _) (aC (OpIs.at ⟨[iv (b.y - py), iv (b.y - py)], iv ((b.y - py) * (b.y - py)), rfl, rfl, tells_mul (wrapR (by omega))⟩ _) (aC (OpIs.at ⟨[iv ((b.x - px) * (b.x - px)), iv ((b.y - py) * (b.y - py))], iv ((b.x - px) * (b.x - px) + (b.y - py) * (b.y - py)), rfl, rfl, tells_add (wrapR (by omega))⟩ _) aN))))
theorem sq_b {a : Option Addr} {m : Bool} (he : alwP e.x e.y = true) (hp : alwP px py = true) (hm : decide (sqF px py b < sqF px py e) = m) : ∀ r ∈ sqB m, OpAt Tryz.prog (bnSym b e px py a a' n c k j) K r := by
  have h1 := alwP_iff.1 he
  have h2 := alwP_iff.1 hp
  have s1 := sq_le (z := e.x - px) (by omega)
  have s2 := sq_le (z := e.y - py) (by omega)
  exact aC (OpIs.at ⟨[iv e.x, iv px], iv (e.x - px), rfl, rfl, tells_sub (wrapR (by omega))⟩ _) (aC (OpIs.at ⟨[iv e.y, iv py], iv (e.y - py), rfl, rfl, tells_sub (wrapR (by omega))⟩ _) (aC (OpIs.at ⟨[iv (e.x - px), iv (e.x - px)], iv ((e.x - px) * (e.x - px)), rfl, rfl, tells_mul (wrapR (by omega))⟩ _) (aC (OpIs.at ⟨[iv (e.y - py), iv (e.y - py)], iv ((e.y - py) * (e.y - py)), rfl, rfl, tells_mul (wrapR (by omega))⟩ _) (aC (OpIs.at ⟨[iv ((e.x - px) * (e.x - px)), iv ((e.y - py) * (e.y - py))], iv ((e.x - px) * (e.x - px) + (e.y - py) * (e.y - py)), rfl, rfl, tells_add (wrapR (by omega))⟩ _) (aC (OpIs.at ⟨[iv ((b.x - px) * (b.x - px) + (b.y - py) * (b.y - py)), iv ((e.x - px) * (e.x - px) + (e.y - py) * (e.y - py))], .bool m, rfl, rfl, tells_lss hm⟩ _) aN)))))
end
end Go.Proofs.YtllnglofbhmcgaaGreat
