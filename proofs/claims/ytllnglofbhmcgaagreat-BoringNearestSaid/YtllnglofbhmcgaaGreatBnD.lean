/- Layer 14 (boring): Nearest of the program: the loop. -/
import Derived.Test.YtllnglofbhmcgaaGreatBnC
namespace Go.Proofs.YtllnglofbhmcgaaGreat
open Go.RowKit Go.Ev
set_option maxRecDepth 100000
theorem pl_same {pl pl' : List (Nat × Nat)} {m : Nat} (h1 : pl'.length = m) (h2 : pl.length = m) (h : ∀ (i : Nat), i < m → ∀ p, pl[i]? = some p → pl'[i]? = some p) : pl' = pl := by
  apply List.ext_getElem?
  intro i
  by_cases hi : i < m
  · have h3 : pl[i]? = some (pl[i]'(by omega)) := by simp
    rw [h i hi _ h3, h3]
  · rw [List.getElem?_eq_none (by omega), List.getElem?_eq_none (by omega)]
theorem okN_all {px py : Int} {L : List Bo} (h : okN px py L = true) : alwP px py = true ∧ decide (0 ≤ badIx L) = false ∧ ∀ q ∈ L, alwP q.x q.y = true := by
  unfold okN at h
  simp only [Bool.and_eq_true, Bool.not_eq_true'] at h
  refine ⟨h.1, h.2, fun q hq => ?_⟩
  have := Classical.not_not.1 (fun hn => of_decide_eq_false h.2 (badIx_ge.2 hn)) q hq
  unfold badAt at this
  simpa using this
abbrev nfC (p0 p1 : Nat × Nat) : Value := .func (.func 44) #[] #[.pointer (some ⟨p0.1, 0, none⟩), .pointer (some ⟨p1.1, 0, none⟩)]
abbrev nfV : CV := .fn (.func 44) [] [.ptr 0 0, .ptr 1 0]
abbrev nB : List Blk := [⟨[.sy 20], tBs, none⟩, ⟨[.sy 10, .sy 11], tPo, none⟩]
abbrev nBv (a : Option Addr) (n c : Nat) (px py : Int) : List (TypeId × List Value) := [(tBs, [.slice a n c]), (tPo, [iv px, iv py])]
theorem nB_row : ∀ b ∈ nB, b.row = none := fun b hb => by
  simp only [nB, List.mem_cons, List.not_mem_nil, or_false] at hb
  rcases hb with rfl | rfl <;> rfl
set_option maxHeartbeats 1000000 in
theorem near_ok (B : Nat) (L : List Bo) (a : Option Addr) (c : Nat) (px py : Int) (hn0 : L.length ≤ 100000) (h0 : 0 < L.length) (hok : okN px py L = true) (w : World) (hP : boK B L a w) (hB : B ≤ w.heap.size) :
    Calls Tryz.prog 21 #[.slice a L.length c, .agg #[iv px, iv py]] w fun e w' => e = .returned (.tuple #[iv (bestF px py L L.length), iv 0]) ∧ Below w.heap.size w w' := by
  obtain ⟨hpp, hbi, hall⟩ := okN_all hok
  obtain ⟨a', rfl⟩ := hP.ex h0
  obtain ⟨n, hn⟩ : ∃ n, n = L.length := ⟨_, rfl⟩
  have hcalls := @nr_c B L (some a') b0 b0 px py ⟨0, 0, none⟩ c 0 0 hn0 true false hpp hbi
  rw [← hn] at hcalls ⊢
  have hk0 : @KnownOK (bnC B L b0 b0 px py (some a') ⟨0, 0, none⟩ n c 0 0 (nrC true false) (nrO false)) Tryz.prog := known_toldK 0 _ _ _ _ _ _ _ hcalls aN (nr_o (decide_eq_false (by omega)))
  go_enter Tryz.func21, Tryz.ntmps21
  refine @code_BL (bnC B L b0 b0 px py (some a') ⟨0, 0, none⟩ n c 0 0 (nrC true false) (nrO false)) Tryz.prog hmix hk0 rfl 300 [_, _, _, _, _] _ 35 [(0, .sy 20), (1, .agg [.sy 10, .sy 11])] [] [] [(2, .ptr 0 0), (6, nfV), (7, .clo (iv 0))] nB [(0, .slice (some a') n c), (1, .agg #[iv px, iv py])] []
    (fun pl => [(2, .pointer (some ⟨((pl[0]?).getD (0, 0)).1, 0, none⟩)), (6, nfC ((pl[0]?).getD (0, 0)) ((pl[1]?).getD (0, 0))), (7, iv 0)]) (fun _ => nBv (some a') n c px py) _ w (fun u => by kernel_rfl) (fun _ h => by cases h) nB_row rfl rfl (fun pl' h => ?_) (fun pl' h => rfl) ⟨rfl, rfl, fun x hx => by simp at hx; rcases hx with rfl | rfl <;> rfl⟩ ⟨rfl, fun i p b h => by simp at h⟩ List.nodup_nil hP hB (fun _ h => by cases h) _ ?_
  · match pl', h with
    | [q0, q1], _ => rfl
  intro a1 w1 pl hpl hnd _ hpf hs1 hc1 hn1
  match pl, hpl with
  | [p0, p1], _ =>
  have hge : ∀ p ∈ [p0, p1], w.heap.size ≤ p.1 := fun p hp => (hpf p hp).elim id fun ⟨q, hq, _⟩ => by cases hq
  have hgeB : ∀ p ∈ [p0, p1], B ≤ p.1 := fun p hp => Nat.le_trans hB (hge p hp)
  have hge' : ∀ x ∈ ([p0, p1].map (·.1) : List Nat), w.heap.size ≤ x := fun x hx => by
    obtain ⟨y, hy, rfl⟩ := List.mem_map.1 hx
    exact hge y hy
  have hb1 : Below w.heap.size w w1 := hn1.nil
  have hs1 : Tmps 35 [(2, .pointer (some ⟨p0.1, 0, none⟩)), (6, nfC p0 p1), (7, iv 0)] a1 := hs1
  clear hpf hn1
  refine wp_seq ?_
  refine wp_seq ?_
  refine @code_B (bnC B L b0 b0 px py (some a') ⟨0, 0, none⟩ n c 0 0 (nrC true false) (nrO false)) Tryz.prog hmix hk0 rfl 300 _ 35 [(2, .ptr 0 0), (6, nfV), (7, .clo (iv 0))] nB [p0, p1] .normal [(6, nfV), (7, .clo (iv 0)), (21, .sy 21), (22, .clo (iv 0))] nB [(2, .pointer (some ⟨p0.1, 0, none⟩)), (6, nfC p0 p1), (7, iv 0)] (nBv (some a') n c px py)
    (fun pl => [(6, nfC ((pl[0]?).getD (0, 0)) ((pl[1]?).getD (0, 0))), (7, iv 0), (21, iv n), (22, iv 0)]) (fun _ => nBv (some a') n c px py) _ w1 (fun u => by kernel_rfl) nB_row nB_row rfl rfl (fun pl' h => ?_) (fun pl' h => rfl) hs1 hc1 hnd (hP.below hb1 hB) (Nat.le_trans hB hb1.size) hgeB _ ?_
  · match pl', h with
    | [q0, q1], _ => rfl
  intro a2 w2 pl2 hpl2 _ hsm2 _ hs2 hc2 hn2
  have := pl_same hpl2 (rfl : [p0, p1].length = nB.length) hsm2
  subst this
  have hb2 : Below w.heap.size w w2 := hn2.below hb1 hge'
  have hs2 : Tmps 35 [(6, nfC p0 p1), (7, iv 0), (21, iv n), (22, iv 0)] a2 := hs2
  clear hs1 hc1 hn2 hsm2 hpl2 hb1
  simp only [Ex.to, Exit.then]
  refine wp_block ?_
  refine wp_upto 35 n 22 (fun k => [(6, nfC p0 p1), (7, iv (bestF px py L k)), (21, iv n), (22, iv k)]) (fun k w' => Cs [p0, p1] (nBv (some a') n c px py) w' ∧ Below w.heap.size w w') (fun k => by simp) hs2 ⟨hc2, hb2⟩ ?_
  rintro k a3 w3 hk hs3 ⟨hc3, hb3⟩
  have hP3 := hP.below hb3 hB
  have hB3 := Nat.le_trans hB hb3.size
  by_cases hkn : k < n
  · have hbl : bestF px py L k < L.length := best_lt h0 k (by omega)
    obtain ⟨j, hj⟩ : ∃ j, j = bestF px py L k := ⟨_, rfl⟩
    rw [← hj] at hs3 hbl
    have hg1 := nthB_get (L := L) (k := k) (by omega)
    have hg2 := nthB_get (L := L) (k := j) hbl
    have hbe : bestF px py L (k + 1) = if sqF px py (nthB L k) < sqF px py (nthB L j) then k else j := by rw [bestF, ← hj]
    have hk1 : ∀ m, decide (sqF px py (nthB L k) < sqF px py (nthB L j)) = m → @KnownOK (bnC B L (nthB L k) (nthB L j) px py (some a') a' n c k j [] ([lssB true, incB] ++ (fdA ++ (fdB ++ (sqA ++ sqB m))))) Tryz.prog := fun m hm => known_toldK 0 _ _ _ _ _ _ _ aN aN
      (aC (lss_b (decide_eq_true hkn)) (aC (inc_b (by omega)) (aA aN (aA (fd_a (fun w hw => hw) hg1 hkn) (aA (fd_b (fun w hw => hw) hg2 (by omega)) (aA (sq_a (hall _ (List.mem_of_getElem? hg1)) hpp) (sq_b (hall _ (List.mem_of_getElem? hg2)) hpp hm)))))))
    by_cases hlt : sqF px py (nthB L k) < sqF px py (nthB L j)
    · refine @code_B (bnC B L (nthB L k) (nthB L j) px py (some a') a' n c k j [] ([lssB true, incB] ++ (fdA ++ (fdB ++ (sqA ++ sqB true))))) Tryz.prog hmix (hk1 true (decide_eq_true hlt)) rfl 300 _ 35 [(6, nfV), (7, .sy 25), (21, .sy 21), (22, .sy 22)] nB [p0, p1] .normal [(6, nfV), (7, .sy 22), (21, .sy 21), (22, .sy 23)] nB [(6, nfC p0 p1), (7, iv j), (21, iv n), (22, iv k)] (nBv (some a') n c px py)
        (fun pl => [(6, nfC ((pl[0]?).getD (0, 0)) ((pl[1]?).getD (0, 0))), (7, iv k), (21, iv n), (22, iv (k + 1 : Nat))]) (fun _ => nBv (some a') n c px py) _ w3 (fun u => by kernel_rfl) nB_row nB_row rfl rfl (fun pl' h => ?_) (fun pl' h => rfl) hs3 hc3 hnd hP3 hB3 hgeB _ ?_
      · match pl', h with
        | [q0, q1], _ => rfl
      intro a4 w4 pl4 hpl4 _ hsm4 _ hs4 hc4 hn4
      have := pl_same hpl4 (rfl : [p0, p1].length = nB.length) hsm4
      subst this
      refine ⟨hkn, ?_, hc4, hn4.below hb3 hge'⟩
      show Tmps 35 [(6, nfC p0 p1), (7, iv (bestF px py L (k + 1))), (21, iv n), (22, iv (k + 1 : Nat))] a4
      rw [hbe, if_pos hlt]
      exact hs4
    · refine @code_B (bnC B L (nthB L k) (nthB L j) px py (some a') a' n c k j [] ([lssB true, incB] ++ (fdA ++ (fdB ++ (sqA ++ sqB false))))) Tryz.prog hmix (hk1 false (decide_eq_false hlt)) rfl 300 _ 35 [(6, nfV), (7, .sy 25), (21, .sy 21), (22, .sy 22)] nB [p0, p1] .normal [(6, nfV), (7, .sy 25), (21, .sy 21), (22, .sy 23)] nB [(6, nfC p0 p1), (7, iv j), (21, iv n), (22, iv k)] (nBv (some a') n c px py)
        (fun pl => [(6, nfC ((pl[0]?).getD (0, 0)) ((pl[1]?).getD (0, 0))), (7, iv j), (21, iv n), (22, iv (k + 1 : Nat))]) (fun _ => nBv (some a') n c px py) _ w3 (fun u => by kernel_rfl) nB_row nB_row rfl rfl (fun pl' h => ?_) (fun pl' h => rfl) hs3 hc3 hnd hP3 hB3 hgeB _ ?_
      · match pl', h with
        | [q0, q1], _ => rfl
      intro a4 w4 pl4 hpl4 _ hsm4 _ hs4 hc4 hn4
      have := pl_same hpl4 (rfl : [p0, p1].length = nB.length) hsm4
      subst this
      refine ⟨hkn, ?_, hc4, hn4.below hb3 hge'⟩
      show Tmps 35 [(6, nfC p0 p1), (7, iv (bestF px py L (k + 1))), (21, iv n), (22, iv (k + 1 : Nat))] a4
      rw [hbe, if_neg hlt]
      exact hs4
  · obtain ⟨j, hj⟩ : ∃ j, j = bestF px py L k := ⟨_, rfl⟩
    rw [← hj] at hs3
    have hke : @KnownOK (bnC B L b0 b0 px py (some a') a' n c k j [] [lssB false]) Tryz.prog := known_toldK 0 _ _ _ _ _ _ _ aN aN (aC (lss_b (decide_eq_false hkn)) aN)
    refine @code_T (bnC B L b0 b0 px py (some a') a' n c k j [] [lssB false]) Tryz.prog hmix hke rfl 300 _ 35 [(7, .sy 25), (21, .sy 21), (22, .sy 22)] (.exit 0) [(7, .sy 25)] [(7, iv j), (21, iv n), (22, iv k)] [(7, iv j)] _ w3 (fun u => by kernel_rfl) rfl rfl ⟨hs3.size, hs3.defers, fun x hx => hs3.tmps _ (by simp at hx ⊢; rcases hx with rfl | rfl | rfl <;> simp)⟩ hP3 hB3 _ ?_
    intro a4 w4 hs4 hb4
    have hb4' := hb3.trans (hb4.mono hb3.size)
    simp only [Ex.to, Exit.then, Exit.inBlock, if_true]
    refine @code_T (bnC B L b0 b0 px py (some a') a' n c k j [] [lssB false]) Tryz.prog hmix hke rfl 300 _ 35 [(7, .sy 25)] .ret [(4, .sy 25), (5, .clo (iv 0))] [(7, iv j)] [(4, iv j), (5, iv 0)] _ w4 (fun u => by kernel_rfl) rfl rfl hs4 (hP.below hb4' hB) (Nat.le_trans hB hb4'.size) _ ?_
    intro a5 w5 hs5 hb5
    have h4 : a5.tmps.getD 4 undef = iv j := hs5.tmps (4, iv j) (by simp)
    have h5 : a5.tmps.getD 5 undef = iv 0 := hs5.tmps (5, iv 0) (by simp)
    rw [Array.getD_eq_getD_getElem?] at h4 h5
    have hkk : k = n := by omega
    simp only [Ex.to]
    simp [bodyPost, results, Tryz.results21, go_sem, h4, h5]
    refine ⟨hs5.defers, ?_, hb4'.trans (hb5.mono hb4'.size)⟩
    rw [hj, hkk]
end Go.Proofs.YtllnglofbhmcgaaGreat
