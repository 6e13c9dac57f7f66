/- Layer 5 (polygon): Bounds of the program. -/
import Derived.Test.YtbdlbcnjbafloaaPcJ
import Derived.WalkKit
import Derived.WalkSpells
import Derived.WalkLawsBesides
import Derived.Deep.QuietTactic
import Derived.BigQuiet
import Derived.Deep.Cut
import Derived.Deep.DeepCutAuto
import Derived.Deep.RegionHeld3
import Derived.Lib.Hide
namespace Go.Proofs.Ytbdlbcnjbafloaa
open Go.RowKit Go.Ev
set_option maxRecDepth 100000
theorem vcheck_all {B : Nat} {L : List Pt} {a : Option Addr} {c : Nat} (hi : inPts L) {w : World} (hP : PtsAt B L a w) :
    Calls Try.prog 24 #[.slice a L.length c, .slice none 0 0] w fun e w' => e = .returned (iv (checkF L)) ∧ Below w.heap.size w w' := by
  by_cases h : 64 < L.length ∨ L.length < 3
  · exact vcheck_early L a c h w
  · obtain ⟨a', rfl⟩ := hP.ex (by omega)
    obtain ⟨B', hP', hB'⟩ := pts_tight hP (by omega)
    exact vcheck_full B' L a' c (by omega) (by omega) hi w hP' hB'
abbrev ckCall (e : CV) : KCall := (24, [.sy 0, .clo (.slice none 0 0)], e)
theorem ck_zero {B : Nat} {L : List Pt} {a' : Addr} {c k : Nat} {p lo hi : Pt} (hi0 : inPts L) (hF : checkF L = 0) : ∀ r ∈ [ckCall (.clo (iv 0))], CallAt Try.prog (boSym (some a') a' L.length c k p lo hi) (ptsK B L (some a')) r := by
  intro z hz
  simp only [List.mem_cons, List.not_mem_nil, or_false] at hz
  subst hz
  refine ⟨[.slice (some a') L.length c, .slice none 0 0], iv 0, rfl, rfl, fun w' hw' => ?_⟩
  have := vcheck_all (c := c) hi0 hw'
  rw [hF] at this
  exact this
abbrev boK (B : Nat) (L : List Pt) (a' : Addr) (n c k : Nat) (p lo hi : Pt) (lv : List KOp) : Ctxt := toldK 0 (boSym (some a') a' n c k p lo hi) [ckCall (.clo (iv 0))] [] lv (ptsK B L (some a')) B pts_kst
theorem bAl {a w : World} {o : Obj} (h : Below a.heap.size a w) : Below a.heap.size a (w.alloc o) := h.alloc h.size o
theorem bNext {a w w' : World} (h : Below a.heap.size a w) (hb : Below w.heap.size w w') : Below a.heap.size a w' := h.trans (hb.mono h.size)
theorem bSet2 {a w : World} {p : Nat} {x y : Value} (h : Below a.heap.size a w) (hp : a.heap.size ≤ p) : Below a.heap.size a ((w.setCell ⟨p, 0, none⟩ x).setCell ⟨p, 1, none⟩ y) := (h.setCell (p := ⟨p, 0, none⟩) hp x).setCell (p := ⟨p, 1, none⟩) hp y
theorem hNew (W : World) (o : Obj) (g : Nat) (hg : g = W.heap.size) : (W.alloc o).heap[g]? = some o := by subst hg; exact heap_alloc_new W o
theorem hOld (W : World) (o : Obj) (g : Nat) (x : Obj) (hg : g < W.heap.size) (h : W.heap[g]? = some x) : (W.alloc o).heap[g]? = some x := (heap_alloc_old W o hg).trans h
set_option maxHeartbeats 1000000 in
theorem bounds_any (B : Nat) (L : List Pt) (a' : Addr) (c : Nat) (h0 : 0 < L.length) (h1 : L.length < 100000) (hi0 : inPts L) (hF : checkF L = 0) (w : World) (hP : PtsAt B L (some a') w) (hB : B ≤ w.heap.size) :
    Calls Try.prog 9 #[.slice (some a') L.length c] w fun e w' => e = .returned (.tuple #[.agg #[iv (boS L L.length).1.1, iv (boS L L.length).1.2], .agg #[iv (boS L L.length).2.1, iv (boS L L.length).2.2], iv 0]) ∧ Below w.heap.size w w' := by
  obtain ⟨n, hn⟩ : ∃ n, n = L.length := ⟨_, rfl⟩
  rw [← hn]
  obtain ⟨p0, hp0⟩ : ∃ q, L[0]? = some q := ⟨L[0]'(by omega), by simp [h0]⟩
  have HC : Hid (∀ W, Below w.heap.size w W → Calls Try.prog 24 #[.slice (some a') n c, .slice none 0 0] W fun e w' => e = .returned (iv 0) ∧ Below W.heap.size W w') := Lib.hid fun W hW => by
    have := vcheck_all (c := c) hi0 (hP.below hW hB)
    rw [hF, ← hn] at this
    exact this
  have HP : Hid (∀ W, Below w.heap.size w W → W.cell? a' = some (iv p0.1) ∧ W.cell? ⟨a'.block, a'.off + 1, none⟩ = some (iv p0.2)) := Lib.hid fun W hW => by
    have := pt_cells (hP.below hW hB) hp0
    exact this
  have HH := Lib.hid (And.intro hn (And.intro h1 (And.intro hp0 (And.intro hP hB))))
  rw [← hn] at h0
  generalize hZ : boS L n = Z
  have HZ := Lib.hid hZ
  clear hF hi0 hp0 hP hB hn h1 hZ
  go_enter Try.func9, Try.ntmps9
  go_upto_region 4 with (go_at_call 24; refine (HC.out _ (bAl (bAl (Below.refl _ _)))).mono ?_; rintro e w1 ⟨rfl, hbb⟩)
  have HM : Hid (∀ W, Below w1.heap.size w1 W → W.cell? a' = some (iv p0.1) ∧ W.cell? ⟨a'.block, a'.off + 1, none⟩ = some (iv p0.2) ∧ Below w1.heap.size w1 W) := Lib.hid fun W hW => by
    have h2 := HP.out W (bNext (bNext (bAl (bAl (Below.refl _ _))) hbb) hW)
    exact ⟨h2.1, h2.2, hW⟩
  go_cut [6, 7] (fun s6 s7 wx => ∃ g1 g2, s6 = .pointer (some ⟨g1, 0, none⟩) ∧ s7 = .pointer (some ⟨g2, 0, none⟩) ∧ wx.heap[g1]? = some (.cells #[iv p0.1, iv p0.2] 31 (0, 0)) ∧ wx.heap[g2]? = some (.cells #[iv p0.1, iv p0.2] 31 (0, 0)) ∧ g1 ≠ g2 ∧ w1.heap.size ≤ g1 ∧ w1.heap.size ≤ g2 ∧ Below w1.heap.size w1 wx)
  case first =>
    go_region_held3 (fun W => W.cell? a' = some (iv p0.1) ∧ W.cell? ⟨a'.block, a'.off + 1, none⟩ = some (iv p0.2) ∧ Below w1.heap.size w1 W)
      ((refine HM.out _ ?_; repeat (first | exact Below.refl _ _ | (apply Hid.out; assumption) | refine bAl ?_ | refine Below.drew ?_ | (refine bSet2 ?_ ?_; rotate_left; (first | exact Nat.le_refl _ | (apply Below.size; apply Hid.out; assumption))))))
      (fail)
    all_goals rename_i hH
    all_goals have HB := Lib.hid hH.2.2
    all_goals clear hH
    all_goals go_wp2_with fail
    all_goals go_meet
    all_goals first | exact ⟨_, _, rfl, rfl, hOld _ _ _ _ (by simp) (heap_alloc_new _ _), hNew _ _ _ (by simp), by omega, by omega, by omega, HB.out⟩ | exact ⟨_, _, rfl, rfl, hNew _ _ _ (by simp), hOld _ _ _ _ (by simp) (heap_alloc_new _ _), by omega, by omega, by omega, HB.out⟩
  case rest =>
    obtain ⟨g1, g2, rfl, rfl, hg1, hg2, hne, hb1, hb2, hbw⟩ := hcut
    have HG1 := Lib.hid hg1
    have HG2 := Lib.hid hg2
    clear hg1 hg2 HM
    go_wp2_with fail
    rename_i Q' K hK
    obtain ⟨hn, h1, hp0, hP, hB⟩ := HH.out
    have hZ := HZ.out
    have hb0 : Below w.heap.size w wc := bNext (bNext (bAl (bAl (Below.refl _ _))) hbb) hbw
    have hz2 : ((w.alloc (Obj.cells #[Value.int IntKind.i64 0, Value.int IntKind.i64 0] 31)).alloc (Obj.cells #[Value.int IntKind.i64 0, Value.int IntKind.i64 0] 31)).heap.size = w.heap.size + 2 := by simp
    have hw1 : w.heap.size + 2 ≤ w1.heap.size := by rw [← hz2]; exact hbb.size
    have q1 : wc.heap[w.heap.size]? = some (.cells #[iv 0, iv 0] 31 (0, 0)) := (hbw.block _ (by omega)).trans ((hbb.block _ (by rw [hz2]; omega)).trans (hOld _ _ _ _ (by simp) (heap_alloc_new _ _)))
    have q2 : wc.heap[w.heap.size + 1]? = some (.cells #[iv 0, iv 0] 31 (0, 0)) := (hbw.block _ (by omega)).trans ((hbb.block _ (by rw [hz2]; omega)).trans (hNew _ _ _ (by simp)))
    have hc0 : Cs [(w.heap.size, 0), (w.heap.size + 1, 0), (g1, 0), (g2, 0)] [zC, zC, ptV2 p0, ptV2 p0] wc := ⟨rfl, fun i p b hp hb => by
      match i, hp, hb with
      | 0, hp, hb => simp at hp hb; subst hp; subst hb; exact q1
      | 1, hp, hb => simp at hp hb; subst hp; subst hb; exact q2
      | 2, hp, hb => simp at hp hb; subst hp; subst hb; exact HG1.out
      | 3, hp, hb => simp at hp hb; subst hp; subst hb; exact HG2.out⟩
    have hnd : ([(w.heap.size, 0), (w.heap.size + 1, 0), (g1, 0), (g2, 0)].map (·.1) : List Nat).Nodup := by
      simp only [List.map_cons, List.map_nil, List.nodup_cons, List.mem_cons, List.not_mem_nil, or_false, not_or, List.nodup_nil, and_true, not_false_eq_true]
      omega
    have hgew : ∀ x ∈ ([(w.heap.size, 0), (w.heap.size + 1, 0), (g1, 0), (g2, 0)] : List (Nat × Nat)), w.heap.size ≤ x.1 := fun x hx => by
      simp only [List.mem_cons, List.not_mem_nil, or_false] at hx
      rcases hx with rfl | rfl | rfl | rfl <;> simp <;> omega
    have hgeB : ∀ x ∈ ([(w.heap.size, 0), (w.heap.size + 1, 0), (g1, 0), (g2, 0)] : List (Nat × Nat)), B ≤ x.1 := fun x hx => Nat.le_trans hB (hgew x hx)
    have hgew' : ∀ x ∈ ([(w.heap.size, 0), (w.heap.size + 1, 0), (g1, 0), (g2, 0)].map (·.1) : List Nat), w.heap.size ≤ x := fun x hx => by
      obtain ⟨y, hy, rfl⟩ := List.mem_map.1 hx
      exact hgew y hy
    have hbo0 : boS L 0 = (p0, p0) := by
      show (nth L 0, nth L 0) = _
      rw [nth_some hp0]
    clear HC HP HH HZ q1 q2
    refine wp_loop (fun x w' => ∃ k : Nat, k ≤ n ∧ Tmps 54 [(0, .slice (some a') n c), (2, pv (w.heap.size, 0)), (3, pv (w.heap.size + 1, 0)), (4, iv 0), (6, pv (g1, 0)), (7, pv (g2, 0)), (23, .slice (some a') n c), (24, iv n), (25, iv k)] x ∧ Cs [(w.heap.size, 0), (w.heap.size + 1, 0), (g1, 0), (g2, 0)] [zC, zC, ptV2 (boS L k).1, ptV2 (boS L k).2] w' ∧ Below w.heap.size w w') (fun x _ => n - (intOf (x.tmps.getD 25 undef)).toNat) ⟨0, Nat.zero_le _, ⟨by simp, rfl, by repeat' (first | exact List.forall_mem_nil _ | refine List.forall_mem_cons.2 ⟨rfl, ?_⟩)⟩, by rw [hbo0]; exact hc0, hb0⟩ ?_
    rintro a3 w3 ⟨k, hk, hs3, hc3, hb3⟩
    have hP3 := hP.below hb3 hB
    have hB3 := Nat.le_trans hB hb3.size
    obtain ⟨lo, hlo⟩ : ∃ x, x = (boS L k).1 := ⟨_, rfl⟩
    obtain ⟨hi, hhi⟩ : ∃ x, x = (boS L k).2 := ⟨_, rfl⟩
    rw [← hlo, ← hhi] at hc3
    by_cases hkn : k < n
    · obtain ⟨q1, hq1⟩ : ∃ q, L[k]? = some q := ⟨L[k]'(by omega), by simp [show k < L.length by omega]⟩
      have hk1 : @KnownOK (boC B L a' n c k q1 lo hi (boLss true ++ boAt)) Try.prog := known_toldK 0 _ _ _ _ _ _ _ (fun _ h => by cases h) (fun _ h => by cases h) (fun z hz => (List.mem_append.1 hz).elim (bo_lss (decide_eq_true hkn) z) fun h => by
        rw [hn]
        exact bo_at hq1 (by omega) z h)
      have h3 : a3.tmps.getD 25 undef = iv k := hs3.tmps (25, iv k) (by simp)
      refine @code_B (boC B L a' n c k q1 lo hi (boLss true ++ boAt)) Try.prog hmix hk1 rfl 300 _ 54 [(0, .sy 0), (2, .ptr 0 0), (3, .ptr 1 0), (4, .clo (iv 0)), (6, .ptr 2 0), (7, .ptr 3 0), (23, .sy 0), (24, .sy 3), (25, .sy 1)] [bZ, bZ, b2 (.v 41) (.v 42), b2 (.v 43) (.v 44)] [(w.heap.size, 0), (w.heap.size + 1, 0), (g1, 0), (g2, 0)] .normal [(0, .sy 0), (2, .ptr 0 0), (3, .ptr 1 0), (4, .clo (iv 0)), (6, .ptr 2 0), (7, .ptr 3 0), (23, .sy 0), (24, .sy 3), (25, .sy 2)] [bZ, bZ, b2 (.v 45) (.v 46), b2 (.v 47) (.v 48)] _ _
        (fun pl' => match pl' with | [p, q, r, s] => [(0, .slice (some a') n c), (2, pv p), (3, pv q), (4, iv 0), (6, pv r), (7, pv s), (23, .slice (some a') n c), (24, iv n), (25, iv (k + 1 : Nat))] | _ => []) (fun _ => [zC, zC, ptV2 (mnI lo.1 q1.1, mnI lo.2 q1.2), ptV2 (mxI hi.1 q1.1, mxI hi.2 q1.2)]) _ w3 (fun u => by kernel_rfl) rows4 rows4 rfl rfl
        (fun pl' hl => match pl', hl with | [p, q, r, s], _ => rfl) (fun pl' hl => match pl', hl with | [p, q, r, s], _ => rfl) hs3 hc3 hnd hP3 hB3 hgeB _ ?_
      intro a4 w4 pl hl _ hsm _ hs4 hc4 hn4
      obtain rfl := pl_same (m := 4) hl rfl hsm
      have hs4 : Tmps 54 [(0, .slice (some a') n c), (2, pv (w.heap.size, 0)), (3, pv (w.heap.size + 1, 0)), (4, iv 0), (6, pv (g1, 0)), (7, pv (g2, 0)), (23, .slice (some a') n c), (24, iv n), (25, iv (k + 1 : Nat))] a4 := hs4
      have hS : boS L (k + 1) = ((mnI lo.1 q1.1, mnI lo.2 q1.2), (mxI hi.1 q1.1, mxI hi.2 q1.2)) := by
        rw [hlo, hhi]
        show ((mnI _ (nth L k).1, mnI _ (nth L k).2), (mxI _ (nth L k).1, mxI _ (nth L k).2)) = _
        rw [nth_some hq1]
      refine ⟨⟨k + 1, by omega, hs4, by rw [hS]; exact hc4, hn4.below hb3 hgew'⟩, ?_⟩
      have h4 : a4.tmps.getD 25 undef = iv (k + 1 : Nat) := hs4.tmps (25, iv (k + 1 : Nat)) (by simp)
      rw [h3, h4]
      simp only [intOf]; omega
    · have hkk : k = n := by omega
      subst hkk
      have hk1 : @KnownOK (boC B L a' k c k (0, 0) lo hi (boLss false)) Try.prog := known_toldK 0 _ _ _ _ _ _ _ (fun _ h => by cases h) (fun _ h => by cases h) (bo_lss (decide_eq_false hkn))
      refine @code_B (boC B L a' k c k (0, 0) lo hi (boLss false)) Try.prog hmix hk1 rfl 300 _ 54 [(0, .sy 0), (2, .ptr 0 0), (3, .ptr 1 0), (4, .clo (iv 0)), (6, .ptr 2 0), (7, .ptr 3 0), (23, .sy 0), (24, .sy 3), (25, .sy 1)] [bZ, bZ, b2 (.v 41) (.v 42), b2 (.v 43) (.v 44)] [(w.heap.size, 0), (w.heap.size + 1, 0), (g1, 0), (g2, 0)] (.exit 0) [(2, .ptr 0 0), (3, .ptr 1 0), (4, .clo (iv 0)), (6, .ptr 2 0), (7, .ptr 3 0)] [bZ, bZ, b2 (.v 41) (.v 42), b2 (.v 43) (.v 44)] _ _
        (fun pl' => match pl' with | [p, q, r, s] => [(2, pv p), (3, pv q), (4, iv 0), (6, pv r), (7, pv s)] | _ => []) (fun _ => [zC, zC, ptV2 lo, ptV2 hi]) _ w3 (fun u => by kernel_rfl) rows4 rows4 rfl rfl
        (fun pl' hl => match pl', hl with | [p, q, r, s], _ => rfl) (fun pl' hl => match pl', hl with | [p, q, r, s], _ => rfl) hs3 hc3 hnd hP3 hB3 hgeB _ ?_
      intro a4 w4 pl hl _ hsm _ hs4 hc4 hn4
      obtain rfl := pl_same (m := 4) hl rfl hsm
      have hs4 : Tmps 54 [(2, pv (w.heap.size, 0)), (3, pv (w.heap.size + 1, 0)), (4, iv 0), (6, pv (g1, 0)), (7, pv (g2, 0))] a4 := hs4
      have hc4 : Cs [(w.heap.size, 0), (w.heap.size + 1, 0), (g1, 0), (g2, 0)] [zC, zC, ptV2 lo, ptV2 hi] w4 := hc4
      have hb4 := hn4.below hb3 hgew'
      have hP4 := hP.below hb4 hB
      have hB4 := Nat.le_trans hB hb4.size
      simp only [Ex.to, Exit.then, Exit.inBlock, if_true]
      refine hK _ _ ?_
      refine @code_B (boC B L a' k c k (0, 0) lo hi (boLss false)) Try.prog hmix hk1 rfl 300 _ 54 [(2, .ptr 0 0), (3, .ptr 1 0), (4, .clo (iv 0)), (6, .ptr 2 0), (7, .ptr 3 0)] [bZ, bZ, b2 (.v 41) (.v 42), b2 (.v 43) (.v 44)] [(w.heap.size, 0), (w.heap.size + 1, 0), (g1, 0), (g2, 0)] .ret [(2, .ptr 0 0), (3, .ptr 1 0), (4, .clo (iv 0))] [b2 (.v 41) (.v 42), b2 (.v 43) (.v 44), b2 (.v 41) (.v 42), b2 (.v 43) (.v 44)] _ _
        (fun pl' => match pl' with | [p, q, r, s] => [(2, pv p), (3, pv q), (4, iv 0)] | _ => []) (fun _ => [ptV2 lo, ptV2 hi, ptV2 lo, ptV2 hi]) _ w4 (fun u => by kernel_rfl) rows4 rows4 rfl rfl
        (fun pl' hl => match pl', hl with | [p, q, r, s], _ => rfl) (fun pl' hl => match pl', hl with | [p, q, r, s], _ => rfl) hs4 hc4 hnd hP4 hB4 hgeB _ ?_
      intro a5 w5 pl hl _ hsm _ hs5 hc5 hn5
      obtain rfl := pl_same (m := 4) hl rfl hsm
      have hs5 : Tmps 54 [(2, pv (w.heap.size, 0)), (3, pv (w.heap.size + 1, 0)), (4, iv 0)] a5 := hs5
      have hc5 : Cs [(w.heap.size, 0), (w.heap.size + 1, 0), (g1, 0), (g2, 0)] [ptV2 lo, ptV2 hi, ptV2 lo, ptV2 hi] w5 := hc5
      have hb5 := hn5.below hb4 hgew'
      have h2 : a5.tmps.getD 2 undef = pv (w.heap.size, 0) := hs5.tmps (2, pv (w.heap.size, 0)) (by simp)
      have h3 : a5.tmps.getD 3 undef = pv (w.heap.size + 1, 0) := hs5.tmps (3, pv (w.heap.size + 1, 0)) (by simp)
      have h4 : a5.tmps.getD 4 undef = iv 0 := hs5.tmps (4, iv 0) (by simp)
      have g2 := hc5.cells 0 (w.heap.size, 0) (ptV2 lo) rfl rfl
      have g3 := hc5.cells 1 (w.heap.size + 1, 0) (ptV2 hi) rfl rfl
      rw [Array.getD_eq_getD_getElem?] at h2 h3 h4
      simp only [Ex.to]
      have c1 := cs_cell (i := 0) g2 rfl
      have c2 := cs_cell (i := 1) g2 rfl
      have c3 := cs_cell (i := 0) g3 rfl
      have c4 := cs_cell (i := 1) g3 rfl
      simp [Q', bodyPost, results, Try.results9, go_sem, h2, h3, h4, c1, c2, c3, c4]
      subst hlo; subst hhi
      rw [← hZ]
      exact ⟨hs5.defers, ⟨⟨rfl, rfl⟩, rfl, rfl⟩, hb5⟩

end Go.Proofs.Ytbdlbcnjbafloaa
