/- Layer 5 (polygon): least and greatest coordinates. -/
import Derived.Test.YtbdlbcnjbafloaaPcI
import Derived.Test.YtbdlbcnjbafloaaTkG
namespace Go.Proofs.Ytbdlbcnjbafloaa
open Go.RowKit Go.Ev
set_option maxRecDepth 100000
def mnI (a b : Int) : Int := if b < a then b else a
def mxI (a b : Int) : Int := if b > a then b else a
/-- The least and the greatest coordinates of the first points. -/
def boS (L : List Pt) : Nat → Pt × Pt
  | 0 => (nth L 0, nth L 0)
  | k + 1 => ((mnI (boS L k).1.1 (nth L k).1, mnI (boS L k).1.2 (nth L k).2), (mxI (boS L k).2.1 (nth L k).1, mxI (boS L k).2.2 (nth L k).2))
abbrev boSym (a : Option Addr) (a' : Addr) (n c k : Nat) (p lo hi : Pt) : Tm → Sym
  | .v 41 => intSym .i64 lo.1
  | .v 42 => intSym .i64 lo.2
  | .v 43 => intSym .i64 hi.1
  | .v 44 => intSym .i64 hi.2
  | .v 45 => intSym .i64 (mnI lo.1 p.1)
  | .v 46 => intSym .i64 (mnI lo.2 p.2)
  | .v 47 => intSym .i64 (mxI hi.1 p.1)
  | .v 48 => intSym .i64 (mxI hi.2 p.2)
  | .v 49 => ptSym (a'.add (0 * 2))
  | x => arSym a a' n c k 0 p (0, 0) 0 x
abbrev tPt : TypeId := 31
abbrev boLss (m : Bool) : List KOp := [(.ln 23, [.sy 0], .sy 3), (.bin .lss 3, [.sy 1, .sy 3], .clo (.bool m))]
abbrev boIni : List KOp := [(.ixa 23, [.sy 0, .clo (iv 0)], .sy 49), (.ld tPt, [.sy 49], .agg [.sy 41, .sy 42])]
abbrev boAt : List KOp := [(.ixa 23, [.sy 0, .sy 1], .sy 4), (.fda tPt 0, [.sy 4], .sy 4), (.fda tPt 1, [.sy 4], .sy 21), (.ld 3, [.sy 4], .sy 5), (.ld 3, [.sy 21], .sy 6), (.ld tPt, [.sy 4], .agg [.sy 5, .sy 6]),
  (.mn, [.sy 41, .sy 5], .sy 45), (.mn, [.sy 42, .sy 6], .sy 46), (.mx, [.sy 43, .sy 5], .sy 47), (.mx, [.sy 44, .sy 6], .sy 48), (.bin .add 3, [.sy 1, .clo (iv 1)], .sy 2)]
theorem bo_lss {a : Option Addr} {a' : Addr} {n c k : Nat} {p lo hi : Pt} {K : World → Prop} {m : Bool} (h : decide (k < n) = m) : ∀ r ∈ boLss m, OpAt Try.prog (boSym a a' n c k p lo hi) K r := by
  intro r hr
  simp only [boLss, List.mem_cons, List.not_mem_nil, or_false] at hr
  rcases hr with rfl | rfl
  · exact OpIs.at ⟨[.slice a n c], iv n, rfl, rfl, tells_ln (e := tPt) (by kernel_rfl)⟩ K
  · exact OpIs.at ⟨[iv k, iv n], _, rfl, rfl, tells_lss (by rw [← h, decide_eq_decide]; omega)⟩ K
theorem bo_ini {B : Nat} {L : List Pt} {a' : Addr} {c k : Nat} {p lo hi : Pt} (hp : L[0]? = some lo) : ∀ r ∈ boIni, OpAt Try.prog (boSym (some a') a' L.length c k p lo hi) (ptsK B L (some a')) r := by
  have h0 : 0 < L.length := (List.getElem?_eq_some_iff.1 hp).1
  intro r hr
  simp only [boIni, List.mem_cons, List.not_mem_nil, or_false] at hr
  rcases hr with rfl | rfl
  · exact OpIs.at ⟨[.slice (some a') L.length c, iv 0], .pointer (some (a'.add (0 * 2))), rfl, rfl, tells_ixa (k := 0) (e := tPt) (by kernel_rfl) (by kernel_rfl) h0⟩ _
  · exact ⟨[.pointer (some (a'.add (0 * 2)))], .agg #[iv lo.1, iv lo.2], rfl, rfl, PtsAt.ld (by kernel_rfl) (by kernel_rfl) (fun w hw => hw) hp⟩
theorem bo_at {B : Nat} {L : List Pt} {a' : Addr} {c k : Nat} {p lo hi : Pt} (hp : L[k]? = some p) (hk6 : k < 1000000) : ∀ r ∈ boAt, OpAt Try.prog (boSym (some a') a' L.length c k p lo hi) (ptsK B L (some a')) r := by
  have hk : k < L.length := (List.getElem?_eq_some_iff.1 hp).1
  intro r hr
  simp only [boAt, List.mem_cons, List.not_mem_nil, or_false] at hr
  rcases hr with rfl | rfl | rfl | rfl | rfl | rfl | rfl | rfl | rfl | rfl | rfl
  · exact OpIs.at ⟨[.slice (some a') L.length c, iv k], .pointer (some (a'.add (k * 2))), rfl, rfl, tells_ixa (e := tPt) (by kernel_rfl) (by kernel_rfl) hk⟩ _
  · exact OpIs.at ⟨[.pointer (some (a'.add (k * 2)))], _, rfl, rfl, tells_fda (off := 0) (by kernel_rfl)⟩ _
  · exact OpIs.at ⟨[.pointer (some (a'.add (k * 2)))], _, rfl, rfl, tells_fda (off := 1) (by kernel_rfl)⟩ _
  · exact ⟨[.pointer (some (a'.add (k * 2)))], iv p.1, rfl, rfl, tells_ld1 (by kernel_rfl) fun w hw => (pt_cells hw hp).1⟩
  · exact ⟨[.pointer (some ((a'.add (k * 2)).add 1))], iv p.2, rfl, rfl, tells_ld1 (by kernel_rfl) fun w hw => (pt_cells hw hp).2⟩
  · exact ⟨[.pointer (some (a'.add (k * 2)))], .agg #[iv p.1, iv p.2], rfl, rfl, PtsAt.ld (by kernel_rfl) (by kernel_rfl) (fun w hw => hw) hp⟩
  · exact OpIs.at ⟨[iv lo.1, iv p.1], iv (mnI lo.1 p.1), rfl, rfl, tells_mn rfl⟩ _
  · exact OpIs.at ⟨[iv lo.2, iv p.2], iv (mnI lo.2 p.2), rfl, rfl, tells_mn rfl⟩ _
  · exact OpIs.at ⟨[iv hi.1, iv p.1], iv (mxI hi.1 p.1), rfl, rfl, tells_mx rfl⟩ _
  · exact OpIs.at ⟨[iv hi.2, iv p.2], iv (mxI hi.2 p.2), rfl, rfl, tells_mx rfl⟩ _
  · exact OpIs.at ⟨[iv k, iv 1], iv (k + 1 : Nat), rfl, rfl, tells_add (by rw [IntKind.wrap_i64]; omega)⟩ _
theorem pl_same {pl pl' : List (Nat × Nat)} {m : Nat} (h1 : pl'.length = m) (h2 : pl.length = m) (h : ∀ (i : Nat), i < m → ∀ p, pl[i]? = some p → pl'[i]? = some p) : pl' = pl := by
  apply List.ext_getElem?
  intro i
  by_cases hi : i < m
  · have h3 : pl[i]? = some (pl[i]'(by omega)) := by simp
    rw [h i hi _ h3, h3]
  · rw [List.getElem?_eq_none (by omega), List.getElem?_eq_none (by omega)]
abbrev pv (p : Nat × Nat) : Value := .pointer (some ⟨p.1, 0, none⟩)
abbrev bZ : Blk := ⟨[.clo (iv 0), .clo (iv 0)], tPt, none⟩
abbrev b2 (x y : Tm) : Blk := ⟨[.sy x, .sy y], tPt, none⟩
theorem rows4 {x y z u : Blk} (hx : x.row = none := by rfl) (hy : y.row = none := by rfl) (hz : z.row = none := by rfl) (hu : u.row = none := by rfl) : ∀ b ∈ [x, y, z, u], b.row = none := by
  intro b hb
  simp only [List.mem_cons, List.not_mem_nil, or_false] at hb
  rcases hb with rfl | rfl | rfl | rfl <;> assumption
theorem cs_cell {p : Nat × Nat} {w : World} {cs : List Value} {t : TypeId} {i : Nat} {v : Value} (h : w.heap[p.1]? = some (.cells cs.toArray t (0, 0))) (hi : cs[i]? = some v) : w.cell? ⟨p.1, i, none⟩ = some v := by
  simp [World.cell?, h, hi]
abbrev zC : TypeId × List Value := (tPt, [iv 0, iv 0])
abbrev ptV2 (p : Pt) : TypeId × List Value := (tPt, [iv p.1, iv p.2])
abbrev boC (B : Nat) (L : List Pt) (a' : Addr) (n c k : Nat) (p lo hi : Pt) (lv : List KOp) : Ctxt := toldK 0 (boSym (some a') a' n c k p lo hi) [] [] lv (ptsK B L (some a')) B pts_kst
theorem rBounds_any (B : Nat) (L : List Pt) (a' : Addr) (c : Nat) (h0 : 0 < L.length) (h1 : L.length < 100000) (w : World) (hP : PtsAt B L (some a') w) (hB : B ≤ w.heap.size) :
    Calls Try.prog 14 #[.slice (some a') L.length c] w fun e w' => e = .returned (.tuple #[.agg #[iv (boS L L.length).1.1, iv (boS L L.length).1.2], .agg #[iv (boS L L.length).2.1, iv (boS L L.length).2.2]]) ∧ Below w.heap.size w w' := by
  obtain ⟨n, hn⟩ : ∃ n, n = L.length := ⟨_, rfl⟩
  rw [← hn]
  obtain ⟨p0, hp0⟩ : ∃ q, L[0]? = some q := ⟨L[0]'(by omega), by simp [h0]⟩
  have hk0 : @KnownOK (boC B L a' n c 0 (0, 0) p0 p0 boIni) Try.prog := known_toldK 0 _ _ _ _ _ _ _ (fun _ h => by cases h) (fun _ h => by cases h) (by rw [hn]; exact bo_ini hp0)
  go_enter Try.func14, Try.ntmps14
  refine @code_BL (boC B L a' n c 0 (0, 0) p0 p0 boIni) Try.prog hmix hk0 rfl 300 [_, _, _] _ 55 [(0, .sy 0)] [] [] [(0, .sy 0), (2, .ptr 0 0), (3, .ptr 1 0), (4, .ptr 2 0), (5, .ptr 3 0)] [bZ, bZ, b2 (.v 41) (.v 42), b2 (.v 41) (.v 42)] [(0, .slice (some a') n c)] []
    (fun pl' => match pl' with | [p, q, r, s] => [(0, .slice (some a') n c), (2, pv p), (3, pv q), (4, pv r), (5, pv s)] | _ => []) (fun _ => [zC, zC, ptV2 p0, ptV2 p0]) _ w (fun u => by kernel_rfl) (fun _ h => by cases h) rows4 rfl rfl
    (fun pl' hl => match pl', hl with | [p, q, r, s], _ => rfl) (fun pl' hl => match pl', hl with | [p, q, r, s], _ => rfl) ⟨rfl, rfl, fun x hx => by simp at hx; subst hx; rfl⟩ ⟨rfl, fun i p b h => by simp at h⟩ List.nodup_nil hP hB (fun _ h => by cases h) _ ?_
  intro a1 w1 pl hl hnd _ hge hs1 hc1 hn1
  match pl, hl with
  | [p, q, r, s], _ =>
  have hs1 : Tmps 55 [(0, .slice (some a') n c), (2, pv p), (3, pv q), (4, pv r), (5, pv s)] a1 := hs1
  have hc1 : Cs [p, q, r, s] [zC, zC, ptV2 p0, ptV2 p0] w1 := hc1
  have hgew : ∀ x ∈ [p, q, r, s], w.heap.size ≤ x.1 := fun x hx => (hge x hx).resolve_right fun ⟨_, h, _⟩ => by cases h
  have hgeB : ∀ x ∈ [p, q, r, s], B ≤ x.1 := fun x hx => Nat.le_trans hB (hgew x hx)
  have hgew' : ∀ x ∈ [p, q, r, s].map (·.1), w.heap.size ≤ x := fun x hx => by
    obtain ⟨y, hy, rfl⟩ := List.mem_map.1 hx
    exact hgew y hy
  have hb1 : Below w.heap.size w w1 := hn1.nil
  have hP1 := hP.below hb1 hB
  have hB1 := Nat.le_trans hB hb1.size
  refine wp_seq ?_
  refine wp_seq ?_
  refine @code_B (boC B L a' n c 0 (0, 0) p0 p0 boIni) Try.prog hmix hk0 rfl 300 _ 55 [(0, .sy 0), (2, .ptr 0 0), (3, .ptr 1 0), (4, .ptr 2 0), (5, .ptr 3 0)] [bZ, bZ, b2 (.v 41) (.v 42), b2 (.v 41) (.v 42)] [p, q, r, s] .normal [(0, .sy 0), (2, .ptr 0 0), (3, .ptr 1 0), (4, .ptr 2 0), (5, .ptr 3 0), (6, .clo (iv 0))] [bZ, bZ, b2 (.v 41) (.v 42), b2 (.v 41) (.v 42)] _ _
    (fun pl' => match pl' with | [p, q, r, s] => [(0, .slice (some a') n c), (2, pv p), (3, pv q), (4, pv r), (5, pv s), (6, iv 0)] | _ => []) (fun _ => [zC, zC, ptV2 p0, ptV2 p0]) _ w1 (fun u => by kernel_rfl) rows4 rows4 rfl rfl
    (fun pl' hl => match pl', hl with | [p, q, r, s], _ => rfl) (fun pl' hl => match pl', hl with | [p, q, r, s], _ => rfl) hs1 hc1 hnd hP1 hB1 hgeB _ ?_
  intro a2 w2 pl hl _ hsm _ hs2 hc2 hn2
  obtain rfl := pl_same (m := 4) hl rfl hsm
  have hs2 : Tmps 55 [(0, .slice (some a') n c), (2, pv p), (3, pv q), (4, pv r), (5, pv s), (6, iv 0)] a2 := hs2
  have hc2 : Cs [p, q, r, s] [zC, zC, ptV2 p0, ptV2 p0] w2 := hc2
  have hb2 : Below w.heap.size w w2 := hn2.below hb1 hgew'
  clear hn2 hsm hc1 hs1 hb1 hP1 hB1 hn1
  have hbo0 : boS L 0 = (p0, p0) := by
    show (nth L 0, nth L 0) = _
    rw [nth_some hp0]
  simp only [Exit.then, Ex.to]
  refine wp_block ?_
  refine wp_loop (fun x w' => ∃ k : Nat, k ≤ n ∧ Tmps 55 [(0, .slice (some a') n c), (2, pv p), (3, pv q), (4, pv r), (5, pv s), (6, iv k)] x ∧ Cs [p, q, r, s] [zC, zC, ptV2 (boS L k).1, ptV2 (boS L k).2] w' ∧ Below w.heap.size w w') (fun x _ => n - (intOf (x.tmps.getD 6 undef)).toNat) ⟨0, Nat.zero_le _, hs2, by rw [hbo0]; exact hc2, hb2⟩ ?_
  rintro a3 w3 ⟨k, hk, hs3, hc3, hb3⟩
  have hP3 := hP.below hb3 hB
  have hB3 := Nat.le_trans hB hb3.size
  obtain ⟨lo, hlo⟩ : ∃ x, x = (boS L k).1 := ⟨_, rfl⟩
  obtain ⟨hi, hhi⟩ : ∃ x, x = (boS L k).2 := ⟨_, rfl⟩
  rw [← hlo, ← hhi] at hc3
  by_cases hkn : k < n
  · obtain ⟨q1, hq1⟩ : ∃ q, L[k]? = some q := ⟨L[k]'(by omega), by simp [show k < L.length by omega]⟩
    have hk1 : @KnownOK (boC B L a' n c k q1 lo hi (boLss true ++ boAt)) Try.prog := known_toldK 0 _ _ _ _ _ _ _ (fun _ h => by cases h) (fun _ h => by cases h) (fun z hz => (List.mem_append.1 hz).elim (bo_lss (decide_eq_true hkn) z) fun h => by
      rw [hn]
      exact bo_at hq1 (by omega) z h)
    have h3 : a3.tmps.getD 6 undef = iv k := hs3.tmps (6, iv k) (by simp)
    refine @code_B (boC B L a' n c k q1 lo hi (boLss true ++ boAt)) Try.prog hmix hk1 rfl 300 _ 55 [(0, .sy 0), (2, .ptr 0 0), (3, .ptr 1 0), (4, .ptr 2 0), (5, .ptr 3 0), (6, .sy 1)] [bZ, bZ, b2 (.v 41) (.v 42), b2 (.v 43) (.v 44)] [p, q, r, s] .normal [(0, .sy 0), (2, .ptr 0 0), (3, .ptr 1 0), (4, .ptr 2 0), (5, .ptr 3 0), (6, .sy 2)] [bZ, bZ, b2 (.v 45) (.v 46), b2 (.v 47) (.v 48)] _ _
      (fun pl' => match pl' with | [p, q, r, s] => [(0, .slice (some a') n c), (2, pv p), (3, pv q), (4, pv r), (5, pv s), (6, iv (k + 1 : Nat))] | _ => []) (fun _ => [zC, zC, ptV2 (mnI lo.1 q1.1, mnI lo.2 q1.2), ptV2 (mxI hi.1 q1.1, mxI hi.2 q1.2)]) _ w3 (fun u => by kernel_rfl) rows4 rows4 rfl rfl
      (fun pl' hl => match pl', hl with | [p, q, r, s], _ => rfl) (fun pl' hl => match pl', hl with | [p, q, r, s], _ => rfl) hs3 hc3 hnd hP3 hB3 hgeB _ ?_
    intro a4 w4 pl hl _ hsm _ hs4 hc4 hn4
    obtain rfl := pl_same (m := 4) hl rfl hsm
    have hs4 : Tmps 55 [(0, .slice (some a') n c), (2, pv p), (3, pv q), (4, pv r), (5, pv s), (6, iv (k + 1 : Nat))] a4 := hs4
    have hS : boS L (k + 1) = ((mnI lo.1 q1.1, mnI lo.2 q1.2), (mxI hi.1 q1.1, mxI hi.2 q1.2)) := by
      rw [hlo, hhi]
      show ((mnI _ (nth L k).1, mnI _ (nth L k).2), (mxI _ (nth L k).1, mxI _ (nth L k).2)) = _
      rw [nth_some hq1]
    refine ⟨⟨k + 1, by omega, hs4, by rw [hS]; exact hc4, hn4.below hb3 hgew'⟩, ?_⟩
    have h4 : a4.tmps.getD 6 undef = iv (k + 1 : Nat) := hs4.tmps (6, iv (k + 1 : Nat)) (by simp)
    rw [h3, h4]
    simp only [intOf]; omega
  · have hkk : k = n := by omega
    subst hkk
    have hk1 : @KnownOK (boC B L a' k c k (0, 0) lo hi (boLss false)) Try.prog := known_toldK 0 _ _ _ _ _ _ _ (fun _ h => by cases h) (fun _ h => by cases h) (bo_lss (decide_eq_false hkn))
    refine @code_B (boC B L a' k c k (0, 0) lo hi (boLss false)) Try.prog hmix hk1 rfl 300 _ 55 [(0, .sy 0), (2, .ptr 0 0), (3, .ptr 1 0), (4, .ptr 2 0), (5, .ptr 3 0), (6, .sy 1)] [bZ, bZ, b2 (.v 41) (.v 42), b2 (.v 43) (.v 44)] [p, q, r, s] (.exit 0) [(2, .ptr 0 0), (3, .ptr 1 0), (4, .ptr 2 0), (5, .ptr 3 0)] [bZ, bZ, b2 (.v 41) (.v 42), b2 (.v 43) (.v 44)] _ _
      (fun pl' => match pl' with | [p, q, r, s] => [(2, pv p), (3, pv q), (4, pv r), (5, pv s)] | _ => []) (fun _ => [zC, zC, ptV2 lo, ptV2 hi]) _ w3 (fun u => by kernel_rfl) rows4 rows4 rfl rfl
      (fun pl' hl => match pl', hl with | [p, q, r, s], _ => rfl) (fun pl' hl => match pl', hl with | [p, q, r, s], _ => rfl) hs3 hc3 hnd hP3 hB3 hgeB _ ?_
    intro a4 w4 pl hl _ hsm _ hs4 hc4 hn4
    obtain rfl := pl_same (m := 4) hl rfl hsm
    have hs4 : Tmps 55 [(2, pv p), (3, pv q), (4, pv r), (5, pv s)] a4 := hs4
    have hc4 : Cs [p, q, r, s] [zC, zC, ptV2 lo, ptV2 hi] w4 := hc4
    have hb4 := hn4.below hb3 hgew'
    have hP4 := hP.below hb4 hB
    have hB4 := Nat.le_trans hB hb4.size
    simp only [Ex.to, Exit.then, Exit.inBlock, if_true]
    refine @code_B (boC B L a' k c k (0, 0) lo hi (boLss false)) Try.prog hmix hk1 rfl 300 _ 55 [(2, .ptr 0 0), (3, .ptr 1 0), (4, .ptr 2 0), (5, .ptr 3 0)] [bZ, bZ, b2 (.v 41) (.v 42), b2 (.v 43) (.v 44)] [p, q, r, s] .ret [(2, .ptr 0 0), (3, .ptr 1 0)] [b2 (.v 41) (.v 42), b2 (.v 43) (.v 44), b2 (.v 41) (.v 42), b2 (.v 43) (.v 44)] _ _
      (fun pl' => match pl' with | [p, q, r, s] => [(2, pv p), (3, pv q)] | _ => []) (fun _ => [ptV2 lo, ptV2 hi, ptV2 lo, ptV2 hi]) _ w4 (fun u => by kernel_rfl) rows4 rows4 rfl rfl
      (fun pl' hl => match pl', hl with | [p, q, r, s], _ => rfl) (fun pl' hl => match pl', hl with | [p, q, r, s], _ => rfl) hs4 hc4 hnd hP4 hB4 hgeB _ ?_
    intro a5 w5 pl hl _ hsm _ hs5 hc5 hn5
    obtain rfl := pl_same (m := 4) hl rfl hsm
    have hs5 : Tmps 55 [(2, pv p), (3, pv q)] a5 := hs5
    have hc5 : Cs [p, q, r, s] [ptV2 lo, ptV2 hi, ptV2 lo, ptV2 hi] w5 := hc5
    have hb5 := hn5.below hb4 hgew'
    have h2 : a5.tmps.getD 2 undef = pv p := hs5.tmps (2, pv p) (by simp)
    have h3 : a5.tmps.getD 3 undef = pv q := hs5.tmps (3, pv q) (by simp)
    have g2 := hc5.cells 0 p (ptV2 lo) rfl rfl
    have g3 := hc5.cells 1 q (ptV2 hi) rfl rfl
    rw [Array.getD_eq_getD_getElem?] at h2 h3
    simp only [Ex.to]
    have c1 := cs_cell (i := 0) g2 rfl
    have c2 := cs_cell (i := 1) g2 rfl
    have c3 := cs_cell (i := 0) g3 rfl
    have c4 := cs_cell (i := 1) g3 rfl
    simp [bodyPost, results, Try.results14, go_sem, h2, h3, c1, c2, c3, c4]
    subst hlo; subst hhi
    exact ⟨hs5.defers, ⟨⟨rfl, rfl⟩, rfl, rfl⟩, hb5⟩
end Go.Proofs.Ytbdlbcnjbafloaa
