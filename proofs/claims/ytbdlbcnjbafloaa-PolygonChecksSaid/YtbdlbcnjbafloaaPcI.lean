/- Layer 5 (polygon): doubled areas, of the program. -/
import Derived.Test.YtbdlbcnjbafloaaPcH
namespace Go.Proofs.Ytbdlbcnjbafloaa
open Go.RowKit Go.Ev
set_option maxRecDepth 100000
abbrev sdCl : KCl := (29, [.sy 0], (fun b => .as b (.v 3)), [(.v 30, tSide, 4)])
theorem sides_cl {sym : Tm → Sym} {lst : Tm → List Value} {B : Nat} {L : List Pt} {a' : Addr} {c : Nat} (h0 : 0 < L.length) (h1 : L.length ≤ 100000) (hs : (sym (.v 0)).v = .slice (some a') L.length c) (hn : asN (sym (.v 3)).v = some L.length) (hl : lst (.v 30) = sdC L) : ClIs Try.prog sym lst (ptsK B L (some a')) sdCl := by
  refine ⟨rfl, fun w' xs hK hx => ?_⟩
  match xs, hx with
  | [x], hx =>
    obtain ⟨hx, _⟩ := hx
    have hx : x = (sym (.v 0)).v := hx
    rw [hs] at hx
    subst hx
    obtain ⟨B', hK', hB'⟩ := pts_tight hK h0
    refine (sides_any B' L a' c h0 h1 w' hK' hB').mono fun q w'' ⟨g1, p, g2, g3, g4⟩ => ⟨g1, [p], rfl, by simpa using g2, by simp, fun j p' b hp hb => ?_, .slice (some ⟨p.1, 0, none⟩) L.length p.2, fun e base => ?_, g4⟩
    · match j, hp, hb with
      | 0, hp, hb =>
        simp at hp hb; subst hp; subst hb
        show LsAt lst (.v 30, tSide, 4) p w''
        unfold LsAt
        simp only [hl]
        exact g3
    · have h5 : envL e base [p] base = some p := by
        unfold envL
        rw [if_pos (by simp)]; simp
      exact @den_asI (told sym [] []) (envL e base [p]) base (.v 3) p L.length h5 hn
abbrev arAbs (L : List Pt) (m : Bool) : Abs := { lst := fun _ => sdC L, ix := cond m [(.v 3, .sy 1)] [], gt := cond m [(.v 30, .sy 1, 4, 0, 4, [.sy 5, .sy 6, .sy 9, .sy 10])] [], cl := [sdCl] }
theorem ar_ok {L : List Pt} {a : Option Addr} {a' : Addr} {c k j : Nat} {p q : Pt} {s : Int} {m : Bool} (hm : m = true → k < L.length ∧ nth L k = p ∧ nth L ((k + 1) % L.length) = q) : (arAbs L m).OK Try.prog (arSym a a' L.length c k j p q s) := by
  cases m
  · exact ⟨(fun _ h => by cases h), (fun _ h => by cases h), (fun _ h => by cases h), (fun _ h => by cases h), (fun _ h => by cases h)⟩
  · obtain ⟨hk, hp, hq⟩ := hm rfl
    refine ⟨fun r hr => ?_, fun r hr => ?_, (fun _ h => by cases h), (fun _ h => by cases h), (fun _ h => by cases h)⟩
    · simp only [cond_true, List.mem_cons, List.not_mem_nil, or_false] at hr
      subst hr
      exact ⟨iv k, k, L.length, rfl, rfl, rfl, hk⟩
    · simp only [cond_true, List.mem_cons, List.not_mem_nil, or_false] at hr
      subst hr
      refine ⟨iv k, k, [iv p.1, iv p.2, iv q.1, iv q.2], rfl, rfl, rfl, ?_, rfl⟩
      have := rowOf_get (f := sdc L) (z := 4) (sdc_len L) hk
      show _ = ((sdC L).drop (k * 4 + 0)).take 4
      rw [Nat.add_zero]
      unfold sdC
      rw [this]
      unfold sdc ptc
      rw [hp, hq]
      rfl
abbrev arX (B : Nat) (L : List Pt) (a' : Addr) (n c k j : Nat) (p q : Pt) (s : Int) (m : Bool) (lv : List KOp) : Ctxt := toldX (arSym (some a') a' n c k j p q s) (arAbs L m) [] [] lv (ptsK B L (some a')) B pts_kst
abbrev arLt (m : Bool) : List KOp := [(.bin .lss 3, [.sy 1, .sy 3], .clo (.bool m))]
theorem ar_lt {a : Option Addr} {a' : Addr} {n c k j : Nat} {p q : Pt} {s : Int} {K : World → Prop} {m : Bool} (h : decide (k < n) = m) : ∀ r ∈ arLt m, OpAt Try.prog (arSym a a' n c k j p q s) K r := by
  intro r hr
  simp only [arLt, List.mem_cons, List.not_mem_nil, or_false] at hr
  subst hr
  exact OpIs.at ⟨[iv k, iv n], _, rfl, rfl, tells_lss (by rw [← h, decide_eq_decide]; omega)⟩ K
theorem area2_any (B : Nat) (L : List Pt) (a' : Addr) (c : Nat) (h0 : 0 < L.length) (h1 : L.length < 100000) (w : World) (hP : PtsAt B L (some a') w) (hB : B ≤ w.heap.size) :
    Calls Try.prog 25 #[.slice (some a') L.length c] w fun e w' => e = .returned (iv (arS L L.length)) ∧ Below w.heap.size w w' := by
  obtain ⟨n, hn⟩ : ∃ n, n = L.length := ⟨_, rfl⟩
  rw [← hn]
  have hcl : ∀ (k j : Nat) (p q : Pt) (s : Int) (m : Bool), ∀ r ∈ (arAbs L m).cl, ClIs Try.prog (arSym (some a') a' n c k j p q s) (arAbs L m).lst (ptsK B L (some a')) r := fun k j p q s m r hr => by
    simp only [List.mem_cons, List.not_mem_nil, or_false] at hr
    subst hr
    rw [hn]
    exact sides_cl h0 (by omega) rfl rfl rfl
  have hk0 : @KnownOK (arX B L a' n c 0 0 (0, 0) (0, 0) 0 false []) Try.prog := known_toldX (by rw [hn]; exact ar_ok fun h => by cases h) (hcl _ _ _ _ _ _) (fun _ h => by cases h) (fun _ h => by cases h) (fun _ h => by cases h)
  go_enter Try.func25, Try.ntmps25
  refine @code_TL (arX B L a' n c 0 0 (0, 0) (0, 0) 0 false []) Try.prog hmix hk0 rfl 300 [_, _] _ 32 [(0, .sy 0)] [(0, .sy 0), (3, .clo (iv 0))] [(0, .slice (some a') n c)] [(0, .slice (some a') n c), (3, iv 0)] _ w (fun u => by kernel_rfl) rfl rfl ⟨rfl, rfl, fun x hx => by simp at hx; subst hx; rfl⟩ hP hB _ ?_
  intro a1 w1 hs1 hb1
  have hP1 := hP.below hb1 hB
  have hB1 := Nat.le_trans hB hb1.size
  refine wp_seq ?_
  refine wp_seq ?_
  refine @code_M (arX B L a' n c 0 0 (0, 0) (0, 0) 0 false []) Try.prog hmix hk0 rfl 300 _ 32 [(0, .sy 0), (3, .clo (iv 0))] tSide 4 .normal [(3, .clo (iv 0)), (7, .as 0 (.v 3)), (8, .sy 3), (9, .clo (iv 0))] 0 (.v 30) [(0, .slice (some a') n c), (3, iv 0)] _ w1 (fun u => by kernel_rfl) rfl hs1 hP1 hB1 _ ?_
  intro e2 a2 w2 p hs2 hd2 ht2 he2 hr2 hp2 hb2
  have hb2' := hb1.trans (hb2.mono hb1.size)
  have hpw : w.heap.size ≤ p.1 := Nat.le_trans hb1.size hp2
  have hpB : B ≤ p.1 := Nat.le_trans hB hpw
  have hs2 : Tmps 32 [(3, iv 0), (7, .slice (some ⟨p.1, 0, none⟩) n p.2), (8, iv n), (9, iv 0)] a2 := @tmps_of (arX B L a' n c 0 0 (0, 0) (0, 0) 0 false []) e2 32 a2 _ _ hs2 hd2 ht2 (by
    simp only [List.map_cons, List.map_nil]
    rw [@den_asI (arX B L a' n c 0 0 (0, 0) (0, 0) 0 false []) e2 0 (.v 3) p n he2 rfl]
    rfl)
  have hr2 : RowIs (sdC L) tSide 4 p w2 := hr2
  clear hb2 hb1 hs1 hP1 hB1 he2 ht2 hd2 hp2
  simp only [Exit.then, Ex.to]
  refine wp_block ?_
  refine wp_loop (fun x w' => ∃ k : Nat, k ≤ n ∧ Tmps 32 [(3, iv (arS L k)), (7, .slice (some ⟨p.1, 0, none⟩) n p.2), (8, iv n), (9, iv k)] x ∧ Below w.heap.size w w' ∧ RowIs (sdC L) tSide 4 p w') (fun x _ => n - (intOf (x.tmps.getD 9 undef)).toNat) ⟨0, Nat.zero_le _, hs2, hb2', hr2⟩ ?_
  rintro a4 w4 ⟨k, hk, hs4, hb4, hr4⟩
  have hP4 := hP.below hb4 hB
  have hB4 := Nat.le_trans hB hb4.size
  by_cases hkn : k < n
  · obtain ⟨q1, hq1⟩ : ∃ q, q = nth L k := ⟨_, rfl⟩
    obtain ⟨q2, hq2⟩ : ∃ q, q = nth L ((k + 1) % L.length) := ⟨_, rfl⟩
    have hk1 : @KnownOK (arX B L a' n c k 0 q1 q2 (arS L k) true (arLt true ++ arMul 2)) Try.prog := known_toldX (by rw [hn]; exact ar_ok fun _ => ⟨by omega, hq1.symm, hq2.symm⟩) (hcl _ _ _ _ _ _) (fun _ h => by cases h) (fun _ h => by cases h) (fun z hz => (List.mem_append.1 hz).elim (ar_lt (decide_eq_true hkn) z) (ar_mul (by omega) z))
    have h3 : a4.tmps.getD 9 undef = iv k := hs4.tmps (9, iv k) (by simp)
    refine @code_R (arX B L a' n c k 0 q1 q2 (arS L k) true (arLt true ++ arMul 2)) Try.prog hmix hk1 rfl 300 _ 32 [(3, .sy 26), (7, .as 0 (.v 3)), (8, .sy 3), (9, .sy 1)] (.v 30) tSide 4 .normal [(3, .sy 27), (7, .as 0 (.v 3)), (8, .sy 3), (9, .sy 2)] 0 (.v 30) a4 w4 p (fun u => by kernel_rfl) hs4.size hs4.defers
      (@tmps_in (arX B L a' n c k 0 q1 q2 (arS L k) true (arLt true ++ arMul 2)) _ 32 a4 _ _ hs4 rfl) hr4 hP4 hB4 hpB _ ?_
    intro e5 a5 w5 p5 hs5 hd5 ht5 he0 he5 hr5 _ _ hn5
    rw [he0] at he5; cases he5
    have hs5 : Tmps 32 [(3, iv (Wr (arS L k + arT q1 q2))), (7, .slice (some ⟨p.1, 0, none⟩) n p.2), (8, iv n), (9, iv (k + 1 : Nat))] a5 := @tmps_of (arX B L a' n c k 0 q1 q2 (arS L k) true (arLt true ++ arMul 2)) e5 32 a5 _ _ hs5 hd5 ht5 (by
      simp only [List.map_cons, List.map_nil]
      rw [@den_asI (arX B L a' n c k 0 q1 q2 (arS L k) true (arLt true ++ arMul 2)) e5 0 (.v 3) p n he0 rfl]
      rfl)
    have hs6 : arS L (k + 1) = Wr (arS L k + arT q1 q2) := by
      rw [hq1, hq2]; rfl
    rw [← hs6] at hs5
    refine ⟨⟨k + 1, by omega, hs5, hn5.below hb4 (fun q hq => by simp at hq; subst hq; exact hpw), hr5⟩, ?_⟩
    have h4 : a5.tmps.getD 9 undef = iv (k + 1 : Nat) := hs5.tmps (9, iv (k + 1 : Nat)) (by simp)
    rw [h3, h4]
    simp only [intOf]; omega
  · have hkk : k = n := by omega
    subst hkk
    have hk1 : @KnownOK (arX B L a' k c k 0 (0, 0) (0, 0) (arS L k) false (arLt false)) Try.prog := known_toldX (by rw [hn]; exact ar_ok fun h => by cases h) (hcl _ _ _ _ _ _) (fun _ h => by cases h) (fun _ h => by cases h) (ar_lt (decide_eq_false hkn))
    refine @code_T (arX B L a' k c k 0 (0, 0) (0, 0) (arS L k) false (arLt false)) Try.prog hmix hk1 rfl 300 _ 32 [(3, .sy 26), (8, .sy 3), (9, .sy 1)] (.exit 0) [(3, .sy 26)] [(3, iv (arS L k)), (8, iv k), (9, iv k)] [(3, iv (arS L k))] _ w4 (fun u => by kernel_rfl) rfl rfl ⟨hs4.size, hs4.defers, fun x hx => hs4.tmps x (by simp at hx ⊢; rcases hx with h | h | h <;> simp [h])⟩ hP4 hB4 _ ?_
    intro a5 w5 hs5 hb5
    have hb5' := hb4.trans (hb5.mono hb4.size)
    have hP5 := hP.below hb5' hB
    have hB5 := Nat.le_trans hB hb5'.size
    simp only [Ex.to, Exit.then, Exit.inBlock, if_true]
    refine @code_T (arX B L a' k c k 0 (0, 0) (0, 0) (arS L k) false (arLt false)) Try.prog hmix hk1 rfl 300 _ 32 [(3, .sy 26)] .ret [(2, .sy 26)] [(3, iv (arS L k))] [(2, iv (arS L k))] _ w5 (fun u => by kernel_rfl) rfl rfl hs5 hP5 hB5 _ ?_
    intro a6 w6 hs6 hb6
    have h4 : a6.tmps.getD 2 undef = iv (arS L k) := hs6.tmps (2, iv (arS L k)) (by simp)
    rw [Array.getD_eq_getD_getElem?] at h4
    simp only [Ex.to]
    simp [bodyPost, results, Try.results25, go_sem, h4]
    exact ⟨hs6.defers, hb5'.trans (hb6.mono hb5'.size)⟩
end Go.Proofs.Ytbdlbcnjbafloaa
