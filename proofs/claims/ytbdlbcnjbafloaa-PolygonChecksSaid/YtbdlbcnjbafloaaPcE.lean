/- Layer 5 (polygon): sides makes the sides. -/
import Derived.Test.YtbdlbcnjbafloaaPcD
namespace Go.Proofs.Ytbdlbcnjbafloaa
open Go.RowKit Go.Ev
set_option maxRecDepth 100000
def RowIs (C : List Value) (t : TypeId) (z : Nat) (p : Nat × Nat) (w : World) : Prop :=
  ∃ c, w.heap[p.1]? = some (.cells c t (0, 0)) ∧ c.toList.take C.length = C ∧ c.size = p.2 * z ∧ p.2 ≤ maxLen
abbrev tSide : TypeId := 55
abbrev sdLst (L : List Pt) (k : Nat) : Tm → List Value
  | .v 20 => sdRow L k
  | .v 21 => sdRow L (k + 1)
  | _ => []
abbrev sdAbs0 (L : List Pt) : Abs := { lst := sdLst L 0, ms := [(tSide, .sy 3, .v 20, .v 3)] }
abbrev sdAbs (L : List Pt) (k : Nat) : Abs := { lst := sdLst L k, ix := [(.v 3, .sy 1)], pt := [(.v 20, .sy 1, 4, 0, [.sy 5, .sy 6, .sy 9, .sy 10], .v 21)] }
abbrev sdC' (B : Nat) (L : List Pt) (a : Option Addr) (a' : Addr) (n c k j : Nat) (p q : Pt) (A : Abs) (lv : List KOp) : Ctxt := toldX (ckSym a a' n c k j p q) A [] [] lv (ptsK B L a) B pts_kst
abbrev sdLen : List KOp := [(.ln 23, [.sy 0], .sy 3)]
abbrev sdOps : List KOp := [(.bin .lss 3, [.sy 1, .sy 3], .clo (.bool true)), (.ln 23, [.sy 0], .sy 3), (.bin .rem 3, [.sy 2, .sy 3], .sy 7)] ++ (ckAt ++ ckAtJ)
theorem sd_len {a : Option Addr} {a' : Addr} {n c k j : Nat} {p q : Pt} {K : World → Prop} : ∀ r ∈ sdLen, OpAt Try.prog (ckSym a a' n c k j p q) K r := by
  intro r hr
  simp only [sdLen, List.mem_cons, List.not_mem_nil, or_false] at hr
  subst hr
  exact OpIs.at ⟨[.slice a n c], iv n, rfl, rfl, tells_ln (e := 31) (by kernel_rfl)⟩ _
theorem sd_ok0 {L : List Pt} {a : Option Addr} {a' : Addr} {c k j : Nat} {p q : Pt} (h : L.length ≤ 1000000) : (sdAbs0 L).OK Try.prog (ckSym a a' L.length c k j p q) := by
  refine ⟨(fun _ h => by cases h), (fun _ h => by cases h), (fun _ h => by cases h), (fun _ h => by cases h), fun r hr => ?_⟩
  simp only [List.mem_cons, List.not_mem_nil, or_false] at hr
  subst hr
  refine ⟨iv L.length, L.length, rfl, rfl, rfl, h, fun inf z hi hz => ?_⟩
  have h1 : (Try.prog.info? tSide).map (fun i => (i.size, i.zero)) = some (4, some (.agg #[iv 0, iv 0, iv 0, iv 0])) := by kernel_rfl
  rw [hi] at h1
  simp only [Option.map_some, Option.some.injEq, Prod.mk.injEq] at h1
  rw [h1.2] at hz
  cases hz
  rw [h1.1]
  show sdRow L 0 = _
  rw [sdRow_zero]
  exact (cells_const (iv 0) L.length 4 (by decide)).symm
theorem sdc_len (L : List Pt) (i : Nat) : (sdc L i).length = 4 := rfl
theorem sd_ok {L : List Pt} {a : Option Addr} {a' : Addr} {c k j : Nat} {p q : Pt} (hk : k < L.length) (hj : j = (k + 1) % L.length) (hp : L[k]? = some p) (hq : L[j]? = some q) : (sdAbs L k).OK Try.prog (ckSym a a' L.length c k j p q) := by
  refine ⟨fun r hr => ?_, (fun _ h => by cases h), fun r hr => ?_, (fun _ h => by cases h), (fun _ h => by cases h)⟩
  · simp only [List.mem_cons, List.not_mem_nil, or_false] at hr
    subst hr
    exact ⟨iv k, k, L.length, rfl, rfl, rfl, hk⟩
  · simp only [List.mem_cons, List.not_mem_nil, or_false] at hr
    subst hr
    have hc : sdc L k = [iv p.1, iv p.2, iv q.1, iv q.2] := by
      unfold sdc ptc
      rw [nth_some hp, ← hj, nth_some hq]; rfl
    have hl : (sdRow L k).length = L.length * 4 := rowOf_len (fun i => by show (if i < k then sdc L i else zr4).length = 4; split <;> rfl) _
    refine ⟨iv k, k, [iv p.1, iv p.2, iv q.1, iv q.2], rfl, rfl, rfl, ?_, ?_⟩
    · show k * 4 + 0 + 4 ≤ (sdRow L k).length
      omega
    · show sdRow L (k + 1) = (sdRow L k).take (k * 4 + 0) ++ _ ++ (sdRow L k).drop (k * 4 + 0 + 4)
      rw [← hc, Nat.add_zero]
      exact rowOf_set (z := 4) (sdc_len L) (fun _ => rfl) hk
theorem ck_atN {B : Nat} {L : List Pt} {a' : Addr} {c k j : Nat} {p q : Pt} (hk : k < L.length) (hp : L[k]? = some p) (h64 : L.length ≤ 1000000) : ∀ r ∈ ckAt, OpAt Try.prog (ckSym (some a') a' L.length c k j p q) (ptsK B L (some a')) r := by
  intro r hr
  simp only [ckAt, List.mem_cons, List.not_mem_nil, or_false] at hr
  rcases hr with rfl | rfl | rfl
  · exact OpIs.at ⟨[.slice (some a') L.length c, iv k], .pointer (some (a'.add (k * 2))), rfl, rfl, tells_ixa (e := 31) (by kernel_rfl) (by kernel_rfl) hk⟩ _
  · exact ⟨[.pointer (some (a'.add (k * 2)))], .agg #[iv p.1, iv p.2], rfl, rfl, PtsAt.ld (by kernel_rfl) (by kernel_rfl) (fun w hw => hw) hp⟩
  · exact OpIs.at ⟨[iv k, iv 1], iv (k + 1 : Nat), rfl, rfl, tells_add (by rw [IntKind.wrap_i64]; omega)⟩ _
set_option maxHeartbeats 1000000 in
theorem sides_any (B : Nat) (L : List Pt) (a' : Addr) (c : Nat) (h0 : 0 < L.length) (hn0 : L.length ≤ 100000) (w : World) (hP : PtsAt B L (some a') w) (hB : B ≤ w.heap.size) :
    Calls Try.prog 29 #[.slice (some a') L.length c] w fun e w' => Below w.heap.size w w' ∧ ∃ p : Nat × Nat, w.heap.size ≤ p.1 ∧ RowIs (sdC L) tSide 4 p w' ∧ e = .returned (.slice (some ⟨p.1, 0, none⟩) L.length p.2) := by
  obtain ⟨n, hn⟩ : ∃ n, n = L.length := ⟨_, rfl⟩
  rw [← hn]
  have hk0 : @KnownOK (sdC' B L (some a') a' n c 0 0 (0, 0) (0, 0) (sdAbs0 L) sdLen) Try.prog := known_toldX (by rw [hn]; exact sd_ok0 (by omega)) (fun _ h => by cases h) (fun _ h => by cases h) (fun _ h => by cases h) sd_len
  go_enter Try.func29, Try.ntmps29
  refine @code_TL (sdC' B L (some a') a' n c 0 0 (0, 0) (0, 0) (sdAbs0 L) sdLen) Try.prog hmix hk0 rfl 300 [_] _ 31 [(0, .sy 0)] [(0, .sy 0)] [(0, .slice (some a') n c)] [(0, .slice (some a') n c)] _ w (fun u => by kernel_rfl) rfl rfl ⟨rfl, rfl, fun x hx => by simp at hx; subst hx; rfl⟩ hP hB _ ?_
  intro a1 w1 hs1 hb1
  have hP1 := hP.below hb1 hB
  have hB1 := Nat.le_trans hB hb1.size
  refine wp_seq ?_
  refine @code_M (sdC' B L (some a') a' n c 0 0 (0, 0) (0, 0) (sdAbs0 L) sdLen) Try.prog hmix hk0 rfl 300 _ 31 [(0, .sy 0)] tSide 4 .normal [(0, .sy 0), (3, .as 0 (.v 3))] 0 (.v 20) [(0, .slice (some a') n c)] _ w1 (fun u => by kernel_rfl) rfl hs1 hP1 hB1 _ ?_
  intro e2 a2 w2 p hs2 hd2 ht2 he2 hr2 hp2 hb2
  have hb2' := hb1.trans (hb2.mono hb1.size)
  have hpw : w.heap.size ≤ p.1 := Nat.le_trans hb1.size hp2
  have hpB : B ≤ p.1 := Nat.le_trans hB hpw
  have hs2 : Tmps 31 [(0, .slice (some a') n c), (3, .slice (some ⟨p.1, 0, none⟩) n p.2)] a2 := @tmps_of (sdC' B L (some a') a' n c 0 0 (0, 0) (0, 0) (sdAbs0 L) sdLen) e2 31 a2 _ _ hs2 hd2 ht2 (by
    simp only [List.map_cons, List.map_nil]
    rw [@den_asI (sdC' B L (some a') a' n c 0 0 (0, 0) (0, 0) (sdAbs0 L) sdLen) e2 0 (.v 3) p n he2 rfl]
    rfl)
  have hr2 : RowIs (sdRow L 0) tSide 4 p w2 := hr2
  have hP2 := hP.below hb2' hB
  have hB2 := Nat.le_trans hB hb2'.size
  clear hb2 hb1 hs1 hP1 hB1 he2 ht2 hd2 hp2
  simp only [Exit.then, Ex.to]
  have hkl : @KnownOK (sdC' B L (some a') a' n c 0 0 (0, 0) (0, 0) { lst := sdLst L 0 } sdLen) Try.prog := known_toldX ⟨(fun _ h => by cases h), (fun _ h => by cases h), (fun _ h => by cases h), (fun _ h => by cases h), (fun _ h => by cases h)⟩ (fun _ h => by cases h) (fun _ h => by cases h) (fun _ h => by cases h) sd_len
  refine wp_seq ?_
  refine wp_seq ?_
  refine @code_R (sdC' B L (some a') a' n c 0 0 (0, 0) (0, 0) { lst := sdLst L 0 } sdLen) Try.prog hmix hkl rfl 300 _ 31 [(0, .sy 0), (3, .as 0 (.v 3))] (.v 20) tSide 4 .normal [(0, .sy 0), (3, .as 0 (.v 3)), (9, .sy 0), (10, .sy 3), (11, .clo (iv 0))] 0 (.v 20) a2 w2 p (fun u => by kernel_rfl) hs2.size hs2.defers
    (@tmps_in (sdC' B L (some a') a' n c 0 0 (0, 0) (0, 0) { lst := sdLst L 0 } sdLen) _ 31 a2 _ _ hs2 rfl) hr2 hP2 hB2 hpB _ ?_
  intro e3 a3 w3 p3 hs3 hd3 ht3 he0 he3 hr3 _ _ hn3
  rw [he0] at he3; cases he3
  have hs3 : Tmps 31 [(0, .slice (some a') n c), (3, .slice (some ⟨p.1, 0, none⟩) n p.2), (9, .slice (some a') n c), (10, iv n), (11, iv 0)] a3 := @tmps_of (sdC' B L (some a') a' n c 0 0 (0, 0) (0, 0) { lst := sdLst L 0 } sdLen) e3 31 a3 _ _ hs3 hd3 ht3 (by
    simp only [List.map_cons, List.map_nil]
    rw [@den_asI (sdC' B L (some a') a' n c 0 0 (0, 0) (0, 0) { lst := sdLst L 0 } sdLen) e3 0 (.v 3) p n he0 rfl]
    rfl)
  have hr3 : RowIs (sdRow L 0) tSide 4 p w3 := hr3
  have hb3 := hn3.below hb2' (fun q hq => by simp at hq; subst hq; exact hpw)
  clear hn3 hs2 hP2 hB2 ht3 hd3 he0 hr2 hb2'
  simp only [Exit.then, Ex.to]
  refine wp_block ?_
  refine wp_loop (fun x w' => ∃ k : Nat, k ≤ n ∧ Tmps 31 [(0, .slice (some a') n c), (3, .slice (some ⟨p.1, 0, none⟩) n p.2), (9, .slice (some a') n c), (10, iv n), (11, iv k)] x ∧ Below w.heap.size w w' ∧ RowIs (sdRow L k) tSide 4 p w') (fun x _ => n - (intOf (x.tmps.getD 11 undef)).toNat) ⟨0, Nat.zero_le _, hs3, hb3, hr3⟩ ?_
  rintro a4 w4 ⟨k, hk, hs4, hb4, hr4⟩
  have hP4 := hP.below hb4 hB
  have hB4 := Nat.le_trans hB hb4.size
  by_cases hkn : k < n
  · obtain ⟨q1, hq1⟩ : ∃ q, L[k]? = some q := ⟨L[k]'(by omega), by simp [show k < L.length by omega]⟩
    obtain ⟨j, hjj⟩ : ∃ j, j = (k + 1) % L.length := ⟨_, rfl⟩
    have hjl : j < L.length := by rw [hjj]; exact Nat.mod_lt _ h0
    obtain ⟨q2, hq2⟩ : ∃ q, L[j]? = some q := ⟨L[j]'hjl, by simp [hjl]⟩
    have hk1 : @KnownOK (sdC' B L (some a') a' n c k j q1 q2 (sdAbs L k) sdOps) Try.prog := known_toldX (by rw [hn]; exact sd_ok (by omega) hjj hq1 hq2) (fun _ h => by cases h) (fun _ h => by cases h) (fun _ h => by cases h) (fun z hz => by
      rcases List.mem_append.1 hz with h | h
      · simp only [List.mem_cons, List.not_mem_nil, or_false] at h
        rcases h with rfl | rfl | rfl
        · exact OpIs.at ⟨[iv k, iv n], _, rfl, rfl, tells_lss (decide_eq_true (by omega))⟩ _
        · exact OpIs.at ⟨[.slice (some a') n c], iv n, rfl, rfl, tells_ln (e := 31) (by kernel_rfl)⟩ _
        · refine OpIs.at ⟨[iv (k + 1 : Nat), iv n], iv j, rfl, rfl, tells_rem (by omega) ?_⟩ _
          rw [Int.tmod_eq_emod_of_nonneg (by omega), hjj, hn]
          omega
      · rw [hn]
        exact (List.mem_append.1 h).elim (fun h => ck_atN (by omega) hq1 (by omega) z h) fun h => ck_atJ hjl hq2 z h)
    have h3 : a4.tmps.getD 11 undef = iv k := hs4.tmps (11, iv k) (by simp)
    refine @code_R (sdC' B L (some a') a' n c k j q1 q2 (sdAbs L k) sdOps) Try.prog hmix hk1 rfl 300 _ 31 [(0, .sy 0), (3, .as 0 (.v 3)), (9, .sy 0), (10, .sy 3), (11, .sy 1)] (.v 20) tSide 4 .normal [(0, .sy 0), (3, .as 0 (.v 3)), (9, .sy 0), (10, .sy 3), (11, .sy 2)] 0 (.v 21) a4 w4 p (fun u => by kernel_rfl) hs4.size hs4.defers
      (@tmps_in (sdC' B L (some a') a' n c k j q1 q2 (sdAbs L k) sdOps) _ 31 a4 _ _ hs4 rfl) hr4 hP4 hB4 hpB _ ?_
    intro e5 a5 w5 p5 hs5 hd5 ht5 he0 he5 hr5 _ _ hn5
    rw [he0] at he5; cases he5
    have hs5 : Tmps 31 [(0, .slice (some a') n c), (3, .slice (some ⟨p.1, 0, none⟩) n p.2), (9, .slice (some a') n c), (10, iv n), (11, iv (k + 1 : Nat))] a5 := @tmps_of (sdC' B L (some a') a' n c k j q1 q2 (sdAbs L k) sdOps) e5 31 a5 _ _ hs5 hd5 ht5 (by
      simp only [List.map_cons, List.map_nil]
      rw [@den_asI (sdC' B L (some a') a' n c k j q1 q2 (sdAbs L k) sdOps) e5 0 (.v 3) p n he0 rfl]
      rfl)
    refine ⟨⟨k + 1, by omega, hs5, hn5.below hb4 (fun q hq => by simp at hq; subst hq; exact hpw), hr5⟩, ?_⟩
    have h4 : a5.tmps.getD 11 undef = iv (k + 1 : Nat) := hs5.tmps (11, iv (k + 1 : Nat)) (by simp)
    rw [h3, h4]
    simp only [intOf]; omega
  · have hkk : k = L.length := by omega
    subst hkk
    have hk1 : @KnownOK (sdC' B L (some a') a' n c L.length 0 (0, 0) (0, 0) { lst := sdLst L L.length } (awOps false)) Try.prog := known_toldX ⟨(fun _ h => by cases h), (fun _ h => by cases h), (fun _ h => by cases h), (fun _ h => by cases h), (fun _ h => by cases h)⟩ (fun _ h => by cases h) (fun _ h => by cases h) (fun _ h => by cases h) (fun z hz => by
      have := @aw_lss (some a') a' n c L.length 0 (0, 0) (0, 0) (ptsK B L (some a')) z
      rw [decide_eq_false hkn] at this
      exact this hz)
    refine @code_R (sdC' B L (some a') a' n c L.length 0 (0, 0) (0, 0) { lst := sdLst L L.length } (awOps false)) Try.prog hmix hk1 rfl 300 _ 31 [(3, .as 0 (.v 3)), (10, .sy 3), (11, .sy 1)] (.v 20) tSide 4 (.exit 0) [(3, .as 0 (.v 3))] 0 (.v 20) a4 w4 p (fun u => by kernel_rfl) hs4.size hs4.defers
      (@tmps_in (sdC' B L (some a') a' n c L.length 0 (0, 0) (0, 0) { lst := sdLst L L.length } (awOps false)) _ 31 a4 _ [(3, .slice (some ⟨p.1, 0, none⟩) n p.2), (10, iv n), (11, iv L.length)] ⟨hs4.size, hs4.defers, fun x hx => hs4.tmps x (by simp at hx ⊢; rcases hx with h | h | h <;> simp [h])⟩ rfl) hr4 hP4 hB4 hpB _ ?_
    intro e5 a5 w5 p5 hs5 hd5 ht5 he0 he5 hr5 _ _ hn5
    rw [he0] at he5; cases he5
    have hs5 : Tmps 31 [(3, .slice (some ⟨p.1, 0, none⟩) n p.2)] a5 := @tmps_of (sdC' B L (some a') a' n c L.length 0 (0, 0) (0, 0) { lst := sdLst L L.length } (awOps false)) e5 31 a5 _ _ hs5 hd5 ht5 (by
      simp only [List.map_cons, List.map_nil]
      rw [@den_asI (sdC' B L (some a') a' n c L.length 0 (0, 0) (0, 0) { lst := sdLst L L.length } (awOps false)) e5 0 (.v 3) p n he0 rfl]
      rfl)
    have hr5 : RowIs (sdRow L L.length) tSide 4 p w5 := hr5
    have hb5 := hn5.below hb4 (fun q hq => by simp at hq; subst hq; exact hpw)
    have hP5 := hP.below hb5 hB
    have hB5 := Nat.le_trans hB hb5.size
    simp only [Ex.to, Exit.then, Exit.inBlock, if_true]
    refine @code_R (sdC' B L (some a') a' n c L.length 0 (0, 0) (0, 0) { lst := sdLst L L.length } (awOps false)) Try.prog hmix hk1 rfl 300 _ 31 [(3, .as 0 (.v 3))] (.v 20) tSide 4 .ret [(2, .as 0 (.v 3))] 0 (.v 20) a5 w5 p (fun u => by kernel_rfl) hs5.size hs5.defers
      (@tmps_in (sdC' B L (some a') a' n c L.length 0 (0, 0) (0, 0) { lst := sdLst L L.length } (awOps false)) _ 31 a5 _ _ hs5 rfl) hr5 hP5 hB5 hpB _ ?_
    intro e6 a6 w6 p6 hs6 hd6 ht6 he0 he6 hr6 _ _ hn6
    rw [he0] at he6; cases he6
    have hb6 := hn6.below hb5 (fun q hq => by simp at hq; subst hq; exact hpw)
    have h4 := ht6 (2, .as 0 (.v 3)) (by simp)
    rw [@den_asI (sdC' B L (some a') a' n c L.length 0 (0, 0) (0, 0) { lst := sdLst L L.length } (awOps false)) e6 0 (.v 3) p n he0 rfl] at h4
    have h4 := (Option.some.inj h4).symm
    have hr6 : RowIs (sdRow L L.length) tSide 4 p w6 := hr6
    rw [sdRow_full] at hr6
    rw [Array.getD_eq_getD_getElem?] at h4
    simp only [Ex.to]
    simp [bodyPost, results, Try.results29, go_sem, h4]
    exact ⟨hd6, hb6, hpw, hr6⟩
end Go.Proofs.Ytbdlbcnjbafloaa
