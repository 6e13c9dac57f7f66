/- Layer 14 (boring): Nearest of the reference. -/
import Derived.Test.YtllnglofbhmcgaaGreatBnD
namespace Go.Proofs.YtllnglofbhmcgaaGreat
open Go.RowKit Go.Ev
set_option maxRecDepth 100000
/-- A loop that counts from a number on. -/
theorem wp_uptoO {P : Program} {c : Code} {a : Act} {w : World} {Q : Exit → Act → World → Prop} (N n ix off : Nat) (tv : Nat → List (Nat × Value)) (J : Nat → World → Prop) (hix : ∀ k : Nat, (ix, ivZ (k + off : Nat)) ∈ tv k) (h0 : Tmps N (tv 0) a) (j0 : J 0 w)
    (hs : ∀ (k : Nat) (a : Act) (w : World), k ≤ n → Tmps N (tv k) a → J k w → c.wp P (Exit.then (fun a' w' => k < n ∧ Tmps N (tv (k + 1)) a' ∧ J (k + 1) w') Q) a w) : (Code.loop c).wp P Q a w := by
  refine wp_loop (fun x w' => ∃ k : Nat, k ≤ n ∧ Tmps N (tv k) x ∧ J k w') (fun x _ => n + off - (intOfI (x.tmps.getD ix undef)).toNat) ⟨0, Nat.zero_le _, h0, j0⟩ ?_
  rintro a1 w1 ⟨k, hk, hT, hJ⟩
  refine wp_mono (hs k a1 w1 hk hT hJ) ?_
  intro e a' w' h
  cases e with
  | normal =>
    obtain ⟨g1, g2, g3⟩ := h
    refine ⟨⟨k + 1, g1, g2, g3⟩, ?_⟩
    have e1 : a1.tmps.getD ix undef = ivZ (k + off : Nat) := hT.tmps _ (hix k)
    have e2 : a'.tmps.getD ix undef = ivZ (k + 1 + off : Nat) := g2.tmps _ (hix (k + 1))
    rw [e1, e2]
    simp only [intOfI]
    omega
  | _ => exact h
def alB (b : Bo) : Bool := alwP b.x b.y
theorem okN_eq (px py : Int) (L : List Bo) : okN px py L = (alwP px py && L.all alB) := by
  unfold okN
  congr 1
  cases h : L.all alB with
  | true =>
    have hl : ∀ q ∈ L, badAt q = false := fun q hq => by
      have := List.all_eq_true.1 h q hq
      unfold badAt
      unfold alB at this
      simp [this]
    rw [badIx_none hl]
    rfl
  | false =>
    rw [decide_eq_true (badIx_ge.2 fun hl => ?_)]
    · rfl
    · obtain ⟨q, hq, hb⟩ := List.all_eq_false.1 h
      have := hl q hq
      unfold badAt at this
      unfold alB at hb
      simp at this
      exact hb this
def okK (px py : Int) (L : List Bo) (k : Nat) : Bool := alwP px py && (L.take k).all alB
theorem okK_succ {px py : Int} {L : List Bo} {k : Nat} {b : Bo} (hp : L[k]? = some b) : okK px py L (k + 1) = (okK px py L k && alB b) := by
  unfold okK
  rw [List.take_add_one, hp, List.all_append]
  simp [Bool.and_assoc]
theorem alw4 (x y : Int) : alwP x y = ((decide (-1000000 ≤ x) && decide (x ≤ 1000000)) && (decide (-1000000 ≤ y) && decide (y ≤ 1000000))) := by
  cases h : alwP x y with
  | true =>
    have := alwP_iff.1 h
    simp [this]
  | false =>
    symm
    have hn : ¬ ((-1000000 ≤ x ∧ x ≤ 1000000) ∧ (-1000000 ≤ y ∧ y ≤ 1000000)) := fun hh => by rw [alwP_iff.2 hh] at h; cases h
    cases hd : ((decide (-1000000 ≤ x) && decide (x ≤ 1000000)) && (decide (-1000000 ≤ y) && decide (y ≤ 1000000))) with
    | false => rfl
    | true => simp only [Bool.and_eq_true, decide_eq_true_eq] at hd; exact absurd hd hn
abbrev inO (i j : Nat) (p q r s : Bool) : List KOp := [(.bin .leq 3, [.clo (iv (-1000000)), .sy (.v i)], .clo (.bool p)), (.bin .leq 3, [.sy (.v i), .clo (iv 1000000)], .clo (.bool q)), (.bin .leq 3, [.clo (iv (-1000000)), .sy (.v j)], .clo (.bool r)), (.bin .leq 3, [.sy (.v j), .clo (iv 1000000)], .clo (.bool s))]
abbrev eB : List Blk := [⟨[.sy 10, .sy 11], tPo, none⟩]
abbrev eBv (px py : Int) : List (TypeId × List Value) := [(tPo, [iv px, iv py])]
theorem eB_row : ∀ b ∈ eB, b.row = none := fun b hb => by
  simp only [eB, List.mem_cons, List.not_mem_nil, or_false] at hb
  subst hb; rfl
abbrev pvE (p : Nat × Nat) : Value := .pointer (some ⟨p.1, 0, none⟩)
abbrev rzO (z : Bool) : KOp := (.bin .eql 3, [.sy 21, .clo (iv 0)], .clo (.bool z))
abbrev lssI (m : Bool) : KOp := (.bin .lss 3, [.sy 22, .sy 21], .clo (.bool m))
section
variable {b e : Bo} {px py : Int} {a : Option Addr} {a' : Addr} {n c k j : Nat} {K : World → Prop}
theorem in_p : ∀ r ∈ inO 10 11 (decide (-1000000 ≤ px)) (decide (px ≤ 1000000)) (decide (-1000000 ≤ py)) (decide (py ≤ 1000000)), OpAt Tryz.prog (bnSym b e px py a a' n c k j) K r :=
  aC (OpIs.at ⟨[iv (-1000000), iv px], _, rfl, rfl, tells_leq rfl⟩ K) (aC (OpIs.at ⟨[iv px, iv 1000000], _, rfl, rfl, tells_leq rfl⟩ K) (aC (OpIs.at ⟨[iv (-1000000), iv py], _, rfl, rfl, tells_leq rfl⟩ K) (aC (OpIs.at ⟨[iv py, iv 1000000], _, rfl, rfl, tells_leq rfl⟩ K) aN)))
theorem in_b : ∀ r ∈ inO 0 1 (decide (-1000000 ≤ b.x)) (decide (b.x ≤ 1000000)) (decide (-1000000 ≤ b.y)) (decide (b.y ≤ 1000000)), OpAt Tryz.prog (bnSym b e px py a a' n c k j) K r :=
  aC (OpIs.at ⟨[iv (-1000000), iv b.x], _, rfl, rfl, tells_leq rfl⟩ K) (aC (OpIs.at ⟨[iv b.x, iv 1000000], _, rfl, rfl, tells_leq rfl⟩ K) (aC (OpIs.at ⟨[iv (-1000000), iv b.y], _, rfl, rfl, tells_leq rfl⟩ K) (aC (OpIs.at ⟨[iv b.y, iv 1000000], _, rfl, rfl, tells_leq rfl⟩ K) aN)))
end
theorem rnear_nil (a : Option Addr) (c : Nat) (px py : Int) (w : World) :
    Calls Tryz.prog 22 #[.slice a 0 c, .agg #[iv px, iv py]] w fun e w' => e = .returned (.tuple #[iv 0, iv 9]) ∧ Below w.heap.size w w' :=
  calls_toldM hmix (bnSym b0 b0 px py a ⟨0, 0, none⟩ 0 c 0 0) [] [] (nrO true) (fun _ => True) 0 (fun _ _ _ _ => trivial) aN aN (nr_o rfl) (n := 300) (args := [.sy 20, .agg [.sy 10, .sy 11]]) (xs := [.slice a 0 c, .agg #[iv px, iv py]]) rfl (.clo (.tuple #[iv 0, iv 9])) (by kernel_rfl) rfl w trivial (Nat.zero_le _)
set_option maxHeartbeats 2000000 in
theorem rnear_any (B : Nat) (L : List Bo) (a' : Addr) (c : Nat) (px py : Int) (hn0 : L.length ≤ 100000) (h0 : 0 < L.length) (w : World) (hP : boK B L (some a') w) (hB : B ≤ w.heap.size) :
    Calls Tryz.prog 22 #[.slice (some a') L.length c, .agg #[iv px, iv py]] w fun e w' => e = .returned (.tuple #[iv (if okN px py L = true then bestF px py L L.length else 0), iv (if okN px py L = true then 0 else 6)]) ∧ Below w.heap.size w w' := by
  obtain ⟨n, hn⟩ : ∃ n, n = L.length := ⟨_, rfl⟩
  rw [← hn]
  have hk0 : @KnownOK (bnC B L b0 b0 px py (some a') a' n c 0 0 [] ([lnB, rzO false] ++ inO 10 11 (decide (-1000000 ≤ px)) (decide (px ≤ 1000000)) (decide (-1000000 ≤ py)) (decide (py ≤ 1000000)))) Tryz.prog := known_toldK 0 _ _ _ _ _ _ _ aN aN
    (aA (aC ln_b (aC (OpIs.at ⟨[iv n, iv 0], _, rfl, rfl, tells_eql (by rw [decide_eq_false_iff_not]; omega)⟩ _) aN)) in_p)
  go_enter Tryz.func22, Tryz.ntmps22
  refine @code_BL (bnC B L b0 b0 px py (some a') a' n c 0 0 [] ([lnB, rzO false] ++ inO 10 11 (decide (-1000000 ≤ px)) (decide (px ≤ 1000000)) (decide (-1000000 ≤ py)) (decide (py ≤ 1000000)))) Tryz.prog hmix hk0 rfl 300 [_, _, _] _ 71 [(0, .sy 20), (1, .agg [.sy 10, .sy 11])] [] [] [(0, .sy 20), (3, .ptr 0 0), (6, .clo (.bool (alwP px py)))] eB [(0, .slice (some a') n c), (1, .agg #[iv px, iv py])] []
    (fun pl => [(0, .slice (some a') n c), (3, pvE ((pl[0]?).getD (0, 0))), (6, .bool (alwP px py))]) (fun _ => eBv px py) _ w (fun u => ?_) (fun _ h => by cases h) eB_row rfl rfl (fun pl' h => ?_) (fun pl' h => rfl) ⟨rfl, rfl, fun x hx => by simp at hx; rcases hx with rfl | rfl <;> rfl⟩ ⟨rfl, fun i p b h => by simp at h⟩ List.nodup_nil hP hB (fun _ h => by cases h) _ ?_
  · rw [alw4]
    generalize decide (-1000000 ≤ px) = m1
    generalize decide (px ≤ 1000000) = m2
    generalize decide (-1000000 ≤ py) = m3
    generalize decide (py ≤ 1000000) = m4
    cases m1 <;> cases m2 <;> cases m3 <;> cases m4 <;> kernel_rfl
  · match pl', h with
    | [q0], _ => rfl
  intro a1 w1 pl hpl hnd _ hpf hs1 hc1 hn1
  match pl, hpl with
  | [p0], _ =>
  have hge : ∀ p ∈ [p0], w.heap.size ≤ p.1 := fun p hp => (hpf p hp).elim id fun ⟨q, hq, _⟩ => by cases hq
  have hgeB : ∀ p ∈ [p0], B ≤ p.1 := fun p hp => Nat.le_trans hB (hge p hp)
  have hge' : ∀ x ∈ ([p0].map (·.1) : List Nat), w.heap.size ≤ x := fun x hx => by
    obtain ⟨y, hy, rfl⟩ := List.mem_map.1 hx
    exact hge y hy
  have hb1 : Below w.heap.size w w1 := hn1.nil
  have hs1 : Tmps 71 [(0, .slice (some a') n c), (3, pvE p0), (6, .bool (alwP px py))] a1 := hs1
  clear hpf hn1
  have hkE : @KnownOK (bnC B L b0 b0 px py (some a') a' n c 0 0 [] []) Tryz.prog := known_toldK 0 _ _ _ _ _ _ _ aN aN aN
  refine wp_seq ?_
  refine wp_seq ?_
  refine @code_B (bnC B L b0 b0 px py (some a') a' n c 0 0 [] []) Tryz.prog hmix hkE rfl 300 _ 71 [(0, .sy 20), (3, .ptr 0 0), (6, .clo (.bool (alwP px py)))] eB [p0] .normal [(0, .sy 20), (3, .ptr 0 0), (6, .clo (.bool (alwP px py))), (7, .clo (iv 0))] eB [(0, .slice (some a') n c), (3, pvE p0), (6, .bool (alwP px py))] (eBv px py)
    (fun pl => [(0, .slice (some a') n c), (3, pvE ((pl[0]?).getD (0, 0))), (6, .bool (alwP px py)), (7, iv 0)]) (fun _ => eBv px py) _ w1 (fun u => by kernel_rfl) eB_row eB_row rfl rfl (fun pl' h => ?_) (fun pl' h => rfl) hs1 hc1 hnd (hP.below hb1 hB) (Nat.le_trans hB hb1.size) hgeB _ ?_
  · match pl', h with
    | [q0], _ => rfl
  intro a2 w2 pl2 hpl2 _ hsm2 _ hs2 hc2 hn2
  have := pl_same hpl2 (rfl : [p0].length = eB.length) hsm2
  subst this
  have hb2 : Below w.heap.size w w2 := hn2.below hb1 hge'
  have hs2 : Tmps 71 [(0, .slice (some a') n c), (3, pvE p0), (6, .bool (okK px py L 0)), (7, iv 0)] a2 := by
    have : okK px py L 0 = alwP px py := by unfold okK; simp
    rw [this]; exact hs2
  clear hs1 hc1 hn2 hsm2 hpl2 hb1
  simp only [Ex.to, Exit.then]
  refine wp_block ?_
  refine wp_upto 71 n 7 (fun k => [(0, .slice (some a') n c), (3, pvE p0), (6, .bool (okK px py L k)), (7, iv k)]) (fun k w' => Cs [p0] (eBv px py) w' ∧ Below w.heap.size w w') (fun k => by simp) hs2 ⟨hc2, hb2⟩ ?_
  clear hs2 hc2 hb2
  rintro k a3 w3 hk hs3 ⟨hc3, hb3⟩
  have hP3 := hP.below hb3 hB
  have hB3 := Nat.le_trans hB hb3.size
  by_cases hkn : k < n
  · have hg := nthB_get (L := L) (k := k) (by omega)
    obtain ⟨b, hbb⟩ : ∃ b, b = nthB L k := ⟨_, rfl⟩
    rw [← hbb] at hg
    have hsu := okK_succ (px := px) (py := py) hg
    have hk1 : @KnownOK (bnC B L b b0 px py (some a') a' n c k 0 [] ([lnB, lssI true, incB] ++ (fdA ++ inO 0 1 (decide (-1000000 ≤ b.x)) (decide (b.x ≤ 1000000)) (decide (-1000000 ≤ b.y)) (decide (b.y ≤ 1000000))))) Tryz.prog := known_toldK 0 _ _ _ _ _ _ _ aN aN (aA (aC ln_b (aC (lss_b (decide_eq_true hkn)) (aC (inc_b (by omega)) aN))) (aA (fd_a (fun w hw => hw) hg hkn) in_b))
    obtain ⟨m, hm⟩ : ∃ m, m = okK px py L k := ⟨_, rfl⟩
    rw [← hm] at hs3 hsu
    refine @code_B (bnC B L b b0 px py (some a') a' n c k 0 [] ([lnB, lssI true, incB] ++ (fdA ++ inO 0 1 (decide (-1000000 ≤ b.x)) (decide (b.x ≤ 1000000)) (decide (-1000000 ≤ b.y)) (decide (b.y ≤ 1000000))))) Tryz.prog hmix hk1 rfl 300 _ 71 [(0, .sy 20), (3, .ptr 0 0), (6, .clo (.bool m)), (7, .sy 22)] eB [p0] .normal [(0, .sy 20), (3, .ptr 0 0), (6, .clo (.bool (m && alB b))), (7, .sy 23)] eB [(0, .slice (some a') n c), (3, pvE p0), (6, .bool m), (7, iv k)] (eBv px py)
      (fun pl => [(0, .slice (some a') n c), (3, pvE ((pl[0]?).getD (0, 0))), (6, .bool (m && alB b)), (7, iv (k + 1 : Nat))]) (fun _ => eBv px py) _ w3 (fun u => ?_) eB_row eB_row rfl rfl (fun pl' h => ?_) (fun pl' h => rfl) hs3 hc3 hnd hP3 hB3 hgeB _ ?_
    · unfold alB
      rw [alw4]
      generalize decide (-1000000 ≤ b.x) = m1
      generalize decide (b.x ≤ 1000000) = m2
      generalize decide (-1000000 ≤ b.y) = m3
      generalize decide (b.y ≤ 1000000) = m4
      cases m <;> cases m1 <;> cases m2 <;> cases m3 <;> cases m4 <;> kernel_rfl
    · match pl', h with
      | [q0], _ => rfl
    intro a4 w4 pl4 hpl4 _ hsm4 _ hs4 hc4 hn4
    have := pl_same hpl4 (rfl : [p0].length = eB.length) hsm4
    subst this
    refine ⟨hkn, ?_, hc4, hn4.below hb3 hge'⟩
    show Tmps 71 [(0, .slice (some a') n c), (3, pvE p0), (6, .bool (okK px py L (k + 1))), (7, iv (k + 1 : Nat))] a4
    rw [hsu]
    exact hs4
  have hkk : k = n := by omega
  have hokN : okN px py L = okK px py L k := by
    rw [okN_eq]; unfold okK
    rw [List.take_of_length_le (by omega)]
  obtain ⟨m, hm⟩ : ∃ m, m = okK px py L k := ⟨_, rfl⟩
  rw [← hm] at hs3 hokN
  have hke : @KnownOK (bnC B L b0 b0 px py (some a') a' n c k 0 [] [lnB, lssI false]) Tryz.prog := known_toldK 0 _ _ _ _ _ _ _ aN aN (aC ln_b (aC (lss_b (decide_eq_false hkn)) aN))
  refine @code_B (bnC B L b0 b0 px py (some a') a' n c k 0 [] [lnB, lssI false]) Tryz.prog hmix hke rfl 300 _ 71 [(0, .sy 20), (3, .ptr 0 0), (6, .clo (.bool m)), (7, .sy 22)] eB [p0] (.exit 0) [(0, .sy 20), (3, .ptr 0 0), (6, .clo (.bool m))] eB [(0, .slice (some a') n c), (3, pvE p0), (6, .bool m), (7, iv k)] (eBv px py)
    (fun pl => [(0, .slice (some a') n c), (3, pvE ((pl[0]?).getD (0, 0))), (6, .bool m)]) (fun _ => eBv px py) _ w3 (fun u => by kernel_rfl) eB_row eB_row rfl rfl (fun pl' h => ?_) (fun pl' h => rfl) hs3 hc3 hnd hP3 hB3 hgeB _ ?_
  · match pl', h with
    | [q0], _ => rfl
  intro a4 w4 pl4 hpl4 _ hsm4 _ hs4 hc4 hn4
  have := pl_same hpl4 (rfl : [p0].length = eB.length) hsm4
  subst this
  have hb4 : Below w.heap.size w w4 := hn4.below hb3 hge'
  have hs4 : Tmps 71 [(0, .slice (some a') n c), (3, pvE p0), (6, .bool m)] a4 := hs4
  simp only [Ex.to, Exit.then, Exit.inBlock, if_true]
  clear hs3 hc3 hb3 hP3 hB3 hn4 hsm4 hpl4 hke
  have hP4 := hP.below hb4 hB
  have hB4 := Nat.le_trans hB hb4.size
  refine wp_seq ?_
  cases m with
  | false =>
    refine @code_T (bnC B L b0 b0 px py (some a') a' n c 0 0 [] []) Tryz.prog hmix hkE rfl 300 _ 71 [(6, .clo (.bool false))] .ret [(4, .clo (iv 0)), (5, .clo (iv 6))] [(6, .bool false)] [(4, iv 0), (5, iv 6)] _ w4 (fun u => by kernel_rfl) rfl rfl ⟨hs4.size, hs4.defers, fun x hx => hs4.tmps _ (by simp at hx ⊢; rcases hx with rfl; simp)⟩ hP4 hB4 _ ?_
    intro a5 w5 hs5 hb5
    have h4 : a5.tmps.getD 4 undef = iv 0 := hs5.tmps (4, iv 0) (by simp)
    have h5 : a5.tmps.getD 5 undef = iv 6 := hs5.tmps (5, iv 6) (by simp)
    rw [Array.getD_eq_getD_getElem?] at h4 h5
    simp only [Ex.to, Exit.then]
    simp [bodyPost, results, Tryz.results22, go_sem, h4, h5, hokN]
    exact ⟨hs5.defers, hb4.trans (hb5.mono hb4.size)⟩
  | true =>
    refine @code_B (bnC B L b0 b0 px py (some a') a' n c 0 0 [] []) Tryz.prog hmix hkE rfl 300 _ 71 [(0, .sy 20), (3, .ptr 0 0), (6, .clo (.bool true))] eB [p0] .normal [(0, .sy 20), (3, .ptr 0 0)] eB [(0, .slice (some a') n c), (3, pvE p0), (6, .bool true)] (eBv px py)
      (fun pl => [(0, .slice (some a') n c), (3, pvE ((pl[0]?).getD (0, 0)))]) (fun _ => eBv px py) _ w4 (fun u => by kernel_rfl) eB_row eB_row rfl rfl (fun pl' h => ?_) (fun pl' h => rfl) hs4 hc4 hnd hP4 hB4 hgeB _ ?_
    · match pl', h with
      | [q0], _ => rfl
    intro a5 w5 pl5 hpl5 _ hsm5 _ hs5 hc5 hn5
    have := pl_same hpl5 (rfl : [p0].length = eB.length) hsm5
    subst this
    have hb5 : Below w.heap.size w w5 := hn5.below hb4 hge'
    have hs5 : Tmps 71 [(0, .slice (some a') n c), (3, pvE p0)] a5 := hs5
    clear hs4 hc4 hn5 hsm5 hpl5 hP4 hB4
    simp only [Ex.to, Exit.then]
    refine wp_seq ?_
    refine @code_B (bnC B L b0 b0 px py (some a') a' n c 0 0 [] []) Tryz.prog hmix hkE rfl 300 _ 71 [(0, .sy 20), (3, .ptr 0 0)] eB [p0] .normal [(0, .sy 20), (3, .ptr 0 0), (8, .clo (iv 0))] eB [(0, .slice (some a') n c), (3, pvE p0)] (eBv px py)
      (fun pl => [(0, .slice (some a') n c), (3, pvE ((pl[0]?).getD (0, 0))), (8, iv 0)]) (fun _ => eBv px py) _ w5 (fun u => by kernel_rfl) eB_row eB_row rfl rfl (fun pl' h => ?_) (fun pl' h => rfl) hs5 hc5 hnd (hP.below hb5 hB) (Nat.le_trans hB hb5.size) hgeB _ ?_
    · match pl', h with
      | [q0], _ => rfl
    intro a6 w6 pl6 hpl6 _ hsm6 _ hs6 hc6 hn6
    have := pl_same hpl6 (rfl : [p0].length = eB.length) hsm6
    subst this
    have hb6 : Below w.heap.size w w6 := hn6.below hb5 hge'
    have hs6 : Tmps 71 [(0, .slice (some a') n c), (3, pvE p0), (8, iv 0)] a6 := hs6
    clear hs5 hc5 hn6 hsm6 hpl6
    simp only [Ex.to, Exit.then]
    refine wp_seq ?_
    refine wp_seq ?_
    refine @code_B (bnC B L b0 b0 px py (some a') a' n c 0 0 [] []) Tryz.prog hmix hkE rfl 300 _ 71 [(0, .sy 20), (3, .ptr 0 0), (8, .clo (iv 0))] eB [p0] .normal [(0, .sy 20), (3, .ptr 0 0), (8, .clo (iv 0)), (9, .clo (iv 1))] eB [(0, .slice (some a') n c), (3, pvE p0), (8, iv 0)] (eBv px py)
      (fun pl => [(0, .slice (some a') n c), (3, pvE ((pl[0]?).getD (0, 0))), (8, iv 0), (9, iv 1)]) (fun _ => eBv px py) _ w6 (fun u => by kernel_rfl) eB_row eB_row rfl rfl (fun pl' h => ?_) (fun pl' h => rfl) hs6 hc6 hnd (hP.below hb6 hB) (Nat.le_trans hB hb6.size) hgeB _ ?_
    · match pl', h with
      | [q0], _ => rfl
    intro a7 w7 pl7 hpl7 _ hsm7 _ hs7 hc7 hn7
    have := pl_same hpl7 (rfl : [p0].length = eB.length) hsm7
    subst this
    have hb7 : Below w.heap.size w w7 := hn7.below hb6 hge'
    have hbe1 : bestF px py L 1 = 0 := by simp [bestF]
    have hs7 : Tmps 71 [(0, .slice (some a') n c), (3, pvE p0), (8, iv (bestF px py L (0 + 1))), (9, iv (0 + 1 : Nat))] a7 := by
      rw [hbe1]; exact hs7
    clear hs6 hc6 hn7 hsm7 hpl7
    obtain ⟨hpp, _, hall⟩ := okN_all hokN
    simp only [Ex.to, Exit.then]
    refine wp_block ?_
    refine wp_uptoO 71 (n - 1) 9 1 (fun k => [(0, .slice (some a') n c), (3, pvE p0), (8, iv (bestF px py L (k + 1))), (9, iv (k + 1 : Nat))]) (fun k w' => Cs [p0] (eBv px py) w' ∧ Below w.heap.size w w') (fun k => by simp) hs7 ⟨hc7, hb7⟩ ?_
    clear hs7 hc7 hb7 hb6 hb5 hb4
    rintro i a3 w3 hi hs3 ⟨hc3, hb3⟩
    have hP3 := hP.below hb3 hB
    have hB3 := Nat.le_trans hB hb3.size
    obtain ⟨q, hqi⟩ : ∃ q, q = i + 1 := ⟨_, rfl⟩
    simp only [← hqi] at hs3
    have hbl : bestF px py L q < L.length := best_lt h0 q (by omega)
    obtain ⟨j, hj⟩ : ∃ j, j = bestF px py L q := ⟨_, rfl⟩
    rw [← hj] at hs3 hbl
    by_cases hqn : q < n
    · have hg1 := nthB_get (L := L) (k := q) (by omega)
      have hg2 := nthB_get (L := L) (k := j) hbl
      have hbe : bestF px py L (q + 1) = if sqF px py (nthB L q) < sqF px py (nthB L j) then q else j := by rw [bestF, ← hj]
      have hk1 : ∀ m, decide (sqF px py (nthB L q) < sqF px py (nthB L j)) = m → @KnownOK (bnC B L (nthB L q) (nthB L j) px py (some a') a' n c q j [] ([lnB, lssI true, incB] ++ (fdA ++ (fdB ++ (sqA ++ sqB m))))) Tryz.prog := fun m hm => known_toldK 0 _ _ _ _ _ _ _ aN aN
        (aA (aC ln_b (aC (lss_b (decide_eq_true hqn)) (aC (inc_b (by omega)) aN))) (aA (fd_a (fun w hw => hw) hg1 hqn) (aA (fd_b (fun w hw => hw) hg2 (by omega)) (aA (sq_a (hall _ (List.mem_of_getElem? hg1)) hpp) (sq_b (hall _ (List.mem_of_getElem? hg2)) hpp hm)))))
      by_cases hlt : sqF px py (nthB L q) < sqF px py (nthB L j)
      · refine @code_B (bnC B L (nthB L q) (nthB L j) px py (some a') a' n c q j [] ([lnB, lssI true, incB] ++ (fdA ++ (fdB ++ (sqA ++ sqB true))))) Tryz.prog hmix (hk1 true (decide_eq_true hlt)) rfl 300 _ 71 [(0, .sy 20), (3, .ptr 0 0), (8, .sy 25), (9, .sy 22)] eB [p0] .normal [(0, .sy 20), (3, .ptr 0 0), (8, .sy 22), (9, .sy 23)] eB [(0, .slice (some a') n c), (3, pvE p0), (8, iv j), (9, iv q)] (eBv px py)
          (fun pl => [(0, .slice (some a') n c), (3, pvE ((pl[0]?).getD (0, 0))), (8, iv q), (9, iv (q + 1 : Nat))]) (fun _ => eBv px py) _ w3 (fun u => by kernel_rfl) eB_row eB_row rfl rfl (fun pl' h => ?_) (fun pl' h => rfl) hs3 hc3 hnd hP3 hB3 hgeB _ ?_
        · match pl', h with
          | [q0], _ => rfl
        intro a4 w4 pl4 hpl4 _ hsm4 _ hs4 hc4 hn4
        have := pl_same hpl4 (rfl : [p0].length = eB.length) hsm4
        subst this
        refine ⟨by omega, ?_, hc4, hn4.below hb3 hge'⟩
        show Tmps 71 [(0, .slice (some a') n c), (3, pvE p0), (8, iv (bestF px py L (i + 1 + 1))), (9, iv (i + 1 + 1 : Nat))] a4
        rw [← hqi, hbe, if_pos hlt]
        exact hs4
      · refine @code_B (bnC B L (nthB L q) (nthB L j) px py (some a') a' n c q j [] ([lnB, lssI true, incB] ++ (fdA ++ (fdB ++ (sqA ++ sqB false))))) Tryz.prog hmix (hk1 false (decide_eq_false hlt)) rfl 300 _ 71 [(0, .sy 20), (3, .ptr 0 0), (8, .sy 25), (9, .sy 22)] eB [p0] .normal [(0, .sy 20), (3, .ptr 0 0), (8, .sy 25), (9, .sy 23)] eB [(0, .slice (some a') n c), (3, pvE p0), (8, iv j), (9, iv q)] (eBv px py)
          (fun pl => [(0, .slice (some a') n c), (3, pvE ((pl[0]?).getD (0, 0))), (8, iv j), (9, iv (q + 1 : Nat))]) (fun _ => eBv px py) _ w3 (fun u => by kernel_rfl) eB_row eB_row rfl rfl (fun pl' h => ?_) (fun pl' h => rfl) hs3 hc3 hnd hP3 hB3 hgeB _ ?_
        · match pl', h with
          | [q0], _ => rfl
        intro a4 w4 pl4 hpl4 _ hsm4 _ hs4 hc4 hn4
        have := pl_same hpl4 (rfl : [p0].length = eB.length) hsm4
        subst this
        refine ⟨by omega, ?_, hc4, hn4.below hb3 hge'⟩
        show Tmps 71 [(0, .slice (some a') n c), (3, pvE p0), (8, iv (bestF px py L (i + 1 + 1))), (9, iv (i + 1 + 1 : Nat))] a4
        rw [← hqi, hbe, if_neg hlt]
        exact hs4
    · have hke : @KnownOK (bnC B L b0 b0 px py (some a') a' n c q j [] [lnB, lssI false]) Tryz.prog := known_toldK 0 _ _ _ _ _ _ _ aN aN (aC ln_b (aC (lss_b (decide_eq_false hqn)) aN))
      refine @code_T (bnC B L b0 b0 px py (some a') a' n c q j [] [lnB, lssI false]) Tryz.prog hmix hke rfl 300 _ 71 [(0, .sy 20), (8, .sy 25), (9, .sy 22)] (.exit 2) [(8, .sy 25)] [(0, .slice (some a') n c), (8, iv j), (9, iv q)] [(8, iv j)] _ w3 (fun u => by kernel_rfl) rfl rfl ⟨hs3.size, hs3.defers, fun x hx => hs3.tmps _ (by simp at hx ⊢; rcases hx with rfl | rfl | rfl <;> simp)⟩ hP3 hB3 _ ?_
      intro a4 w4 hs4 hb4
      have hb4' := hb3.trans (hb4.mono hb3.size)
      simp only [Ex.to, Exit.then, Exit.inBlock, if_true]
      refine @code_T (bnC B L b0 b0 px py (some a') a' n c q j [] [lnB, lssI false]) Tryz.prog hmix hke rfl 300 _ 71 [(8, .sy 25)] .ret [(4, .sy 25), (5, .clo (iv 0))] [(8, iv j)] [(4, iv j), (5, iv 0)] _ w4 (fun u => by kernel_rfl) rfl rfl hs4 (hP.below hb4' hB) (Nat.le_trans hB hb4'.size) _ ?_
      intro a5 w5 hs5 hb5
      have h4 : a5.tmps.getD 4 undef = iv j := hs5.tmps (4, iv j) (by simp)
      have h5 : a5.tmps.getD 5 undef = iv 0 := hs5.tmps (5, iv 0) (by simp)
      rw [Array.getD_eq_getD_getElem?] at h4 h5
      have hqq : q = n := by omega
      simp only [Ex.to]
      simp [bodyPost, results, Tryz.results22, go_sem, h4, h5, hokN]
      refine ⟨hs5.defers, ?_, hb4'.trans (hb5.mono hb4'.size)⟩
      rw [hj, hqq]
end Go.Proofs.YtllnglofbhmcgaaGreat
