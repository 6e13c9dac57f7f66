/- Layer 6 (box): Rest of the reference. -/
import Derived.Test.YtcjgobephedpdaaBsL
namespace Go.Proofs.Ytcjgobephedpdaa
open Go.RowKit Go.Ev
set_option maxRecDepth 100000
abbrev lnO : KOp := (.ln 26, [.sy 30], .sy 31)
abbrev qiO : List KOp := [(.ln 26, [.sy 20], .sy 21), (.bin .lss 3, [.sy 22, .sy 21], .clo (.bool true)), (.ixa 26, [.sy 20, .sy 22], .sy 24), ldP, (.ixa 26, [.sy 30, .sy 32], .sy 33), ldQ, (.bin .add 3, [.sy 22, .clo (iv 1)], .sy 23)]
abbrev qiE : List KOp := [(.ln 26, [.sy 20], .sy 21), (.bin .lss 3, [.sy 22, .sy 21], .clo (.bool false))]
abbrev qiT : List (Nat × CV) := [(1, .sy 30), (6, .sy 20), (7, .sy 32), (9, .sy 22)]
abbrev qiW : List (Nat × CV) := [(1, .sy 30), (6, .sy 20), (7, .sy 32), (9, .sy 23)]
abbrev qiV (a1 : Option Addr) (m c1 j : Nat) (a : Option Addr) (n c k : Nat) : List (Nat × Value) := [(1, .slice a n c), (6, .slice a1 m c1), (7, iv k), (9, iv j)]
def qiA (t1 t2 t3 t4 t5 t6 : Bool) : List KAp := [(.v 50, .v 60, 6, paC t1 t2 t3 t4 t5 t6, .v 56, .v 66)]
def qiY (_ _ _ _ _ _ : Bool) : Tm := .v 56
def qiN (_ _ _ _ _ _ : Bool) : Tm := .v 66
set_option maxHeartbeats 4000000 in
theorem qi_ok {p q : Bx} {L : List Bx} {S : Nat → Sym} (t1 t2 t3 t4 t5 t6 : Bool) (hn : L.length ≤ 900000) : ({ lst := apLst L (upT p q t1 t2 t3 t4 t5 t6), ap := qiA t1 t2 t3 t4 t5 t6 } : Abs).OK Try.prog (riSym (apSymL p q L (upT p q t1 t2 t3 t4 t5 t6)) S) := by
  refine ⟨aN, aN, aN, ?_, aN⟩
  have hc : @denL (told (riSym (apSymL p q L (upT p q t1 t2 t3 t4 t5 t6)) S) [] []) (fun _ => none) (paC t1 t2 t3 t4 t5 t6) = some (elC encB (paL p q t1 t2 t3 t4 t5 t6)) := by
    cases t1 <;> cases t2 <;> cases t3 <;> cases t4 <;> cases t5 <;> cases t6 <;> rfl
  have hl : (paL p q t1 t2 t3 t4 t5 t6).length ≤ 6 := by
    cases t1 <;> cases t2 <;> cases t3 <;> cases t4 <;> cases t5 <;> cases t6 <;> simp [paL]
  exact aC (ap_oneR (i := 0) (j := 6) (bs := paL p q t1 t2 t3 t4 t5 t6) rfl rfl rfl rfl hc rfl (by rw [List.length_append, show upT p q t1 t2 t3 t4 t5 t6 6 = paL p q t1 t2 t3 t4 t5 t6 from rfl]; omega)) aN
theorem qiR (p q : Bx) (L : List Bx) (S : Nat → Sym) (t1 t2 t3 t4 t5 t6 : Bool) : apLst L (upT p q t1 t2 t3 t4 t5 t6) (qiY t1 t2 t3 t4 t5 t6) = elC encB (L ++ paL p q t1 t2 t3 t4 t5 t6) ∧ asN (riSym (apSymL p q L (upT p q t1 t2 t3 t4 t5 t6)) S (qiN t1 t2 t3 t4 t5 t6)).v = some (L ++ paL p q t1 t2 t3 t4 t5 t6).length := by
  cases t1 <;> cases t2 <;> cases t3 <;> cases t4 <;> cases t5 <;> cases t6 <;> exact ⟨rfl, rfl⟩
theorem qi_ops {M L : List Bx} {q : Bx} {a1 : Option Addr} {a1' a' : Addr} {c1 j B c k : Nat} {h : Addr} {l : Nat} {b : Tm → Sym} {p : Bx} (ha : 0 < M.length → a1 = some a1') (hM : M.length ≤ 100000) (hp : M[j]? = some p) (hq : L[k]? = some q) {n0 n1 n2 n3 n4 n5 n6 : Nat} (hb : b = apSym p q n0 n1 n2 n3 n4 n5 n6) :
    ∀ z ∈ qiO, OpAt Try.prog (riSym b (rS a1 M.length c1 j a1' (some a') L.length c k (a'.add (k * 6)) h l)) (K2 B M L a1 (some a')) z := by
  subst hb
  have hj : j < M.length := (List.getElem?_eq_some_iff.1 hp).1
  have hk : k < L.length := (List.getElem?_eq_some_iff.1 hq).1
  have ha := ha (by omega)
  subst ha
  exact aC (OpIs.at ⟨[.slice (some a1') M.length c1], iv M.length, rfl, rfl, tells_ln (e := tBx) (by kernel_rfl)⟩ _) (aC (OpIs.at ⟨[iv j, iv M.length], _, rfl, rfl, tells_lss (decide_eq_true (by omega))⟩ _) (aC (OpIs.at ⟨[.slice (some a1') M.length c1, iv j], .pointer (some (a1'.add (j * 6))), rfl, rfl, tells_ixaE (e := tBx) (by kernel_rfl) (by kernel_rfl) hj⟩ _)
    (aC ⟨[.pointer (some (a1'.add (j * 6)))], bxV p, rfl, rfl, ElAt.ld (enc := encB) encB_len (by kernel_rfl) (by kernel_rfl) (fun w hw => hw.1) hp⟩ (aC (OpIs.at ⟨[.slice (some a') L.length c, iv k], .pointer (some (a'.add (k * 6))), rfl, rfl, tells_ixaE (e := tBx) (by kernel_rfl) (by kernel_rfl) hk⟩ _) (aC ⟨[.pointer (some (a'.add (k * 6)))], bxV q, rfl, rfl, ElAt.ld (enc := encB) encB_len (by kernel_rfl) (by kernel_rfl) (fun w hw => hw.2) hq⟩
    (aC (OpIs.at ⟨[iv j, iv 1], iv (j + 1 : Nat), rfl, rfl, tells_add (by rw [IntKind.wrap_i64]; omega)⟩ _) aN))))))
set_option maxHeartbeats 2000000 in
theorem rRest_loops (B : Nat) (b : Bx) (L : List Bx) (a : Option Addr) (c : Nat) (hb0 : chkB b = 0) (hL0 : chkL L = 0) (hn256 : L.length ≤ 256) (w : World) (hP : bxK B L a w) (hB : B ≤ w.heap.size) :
    Calls Try.prog 15 #[bxV b, .slice a L.length c] w fun e w' => Below w.heap.size w w' ∧ ((restF [b] L = none ∧ e = .returned (.tuple #[.slice none 0 0, iv 7])) ∨ ∃ R v, restF [b] L = some R ∧ e = .returned (.tuple #[v, iv 0]) ∧ OwnL encB tBx 6 w.heap.size R v w' ∧ (R = [] → v = .slice none 0 0)) := by
  obtain ⟨n, hn⟩ : ∃ n, n = L.length := ⟨_, rfl⟩
  rw [← hn]
  have hbF := (chk_ok hb0).1
  have hLF : ∀ p ∈ L, Full p := fun p hp => (chk_ok (chkL_all hL0 p hp)).1
  go_enter Try.func15, Try.ntmps15
  refine wp_seq ?_
  refine @code_B (blC B L a ⟨0, 0, none⟩ n c 0 b [] []) Try.prog hmix (known_toldK 0 _ _ _ _ _ _ _ aN aN aN) rfl 300 _ 40 [(0, s6 0), (1, .sy 20)] [] [] .normal [(1, .sy 20), (2, .ptr 0 0)] [⟨sC 0 1 2 3 4 5, tBx, none⟩] [(0, bxV b), (1, .slice a n c)] [] (fun pl => [(1, .slice a n c), (2, .pointer (some ⟨((pl[0]?).getD (0, 0)).1, 0, none⟩))]) (fun _ => [(tBx, encB b)]) _ w (fun u => by kernel_rfl) (fun _ h => by cases h) (fun b hb => by simp at hb; subst hb; rfl) rfl rfl (fun pl' h => ?_) (fun pl' h => rfl) ⟨rfl, rfl, fun x hx => by simp at hx; rcases hx with rfl | rfl <;> rfl⟩ ⟨rfl, fun i p b h => by simp at h⟩ List.nodup_nil hP hB (fun _ h => by cases h) _ ?_
  · match pl', h with
    | [p0], _ => rfl
  intro a1 w1 pl hpl _ _ hpf hs1 hc1 hn1
  match pl, hpl with
  | [pb], _ =>
  have hg : w.heap.size ≤ pb.1 := (hpf pb (by simp)).elim id fun ⟨q, hq, _⟩ => by cases hq
  have hrow := hc1.cells 0 pb (tBx, encB b) rfl rfl
  have hb1 : Below w.heap.size w w1 := hn1.nil
  have hE1 := (elAt_row (enc := encB) (M := [b]) (p := pb) hrow (by simp [elC])).1
  have hlt1 := (elAt_row (enc := encB) (M := [b]) (p := pb) hrow (by simp [elC])).2
  clear hpf hc1 hn1 hrow
  obtain ⟨G, hG⟩ : ∃ G : Addr, G = ⟨pb.1, 0, none⟩ := ⟨_, rfl⟩
  have hs1 : Tmps 40 [(1, .slice a n c), (2, .pointer (some G))] a1 := by rw [hG]; exact hs1
  rw [← hG] at hE1
  have hK1 : K2 w1.heap.size L [b] a (some G) w1 := ⟨elAt_mono (hP.below hb1 hB) (Nat.le_trans hB hb1.size), elAt_mono hE1 hlt1⟩
  clear hE1 hlt1 hg hG
  simp only [Ex.to, Exit.then]
  refine wp_seq ?_
  refine @code_ownB (toldK 0 (riSym (apSym b b 0 0 0 0 0 0 0) (rS none 0 0 0 ⟨0, 0, none⟩ a n c 0 G G 0)) [] [] [(.ld tBx, [.sy 33], s6 0)] (K2 w1.heap.size L [b] a (some G)) w1.heap.size k2_kst) Try.prog hmix (known_toldK 0 _ _ _ _ _ _ _ aN aN
      (aC ⟨[.pointer (some G)], bxV b, rfl, rfl, ElAt.ld (enc := encB) (L := [b]) (k := 0) encB_len (by kernel_rfl) (by kernel_rfl) (fun w hw => hw.2) rfl⟩ aN)) rfl 300 _ 40 [(1, .sy 30), (2, .sy 33)] 6 .normal [(1, .sy 30)] 1 (sC 0 1 2 3 4 5) tBx 6 (encB b) [(1, .slice a n c), (2, .pointer (some G))] [(1, .slice a n c)] _ w1 (fun u => by kernel_rfl) rfl rfl rfl rfl (by decide) hs1 hK1 (Nat.le_refl _) _ ?_
  intro a3 w3 v3 hs3 hO3 hb3
  have hb03 : Below w.heap.size w w3 := hb1.trans (hb3.mono hb1.size)
  have hO3 : OwnL encB tBx 6 w.heap.size [b] v3 w3 := ownsRow_base hO3 hb1.size
  have hP3 : ElAt encB B L a w3 := hP.below hb03 hB
  clear hb3 hK1 hs1
  obtain ⟨d3, e3, hv3, hd3, _⟩ := OwnL.slice hO3 encB_len
  subst hv3
  simp only [Ex.to, Exit.then]
  refine wp_seq ?_
  refine wp_seq ?_
  refine @code_T (toldK 0 (riSym (apSym b b 0 0 0 0 0 0 0) (r40 (slSym d3 _ e3) (rS none 0 0 0 ⟨0, 0, none⟩ a n c 0 G G 0))) [] [] [] (bxK B L a) B ElAt.kst) Try.prog hmix (known_toldK 0 _ _ _ _ _ _ _ aN aN aN) rfl 300 _ 40 [(6, .sy 40), (1, .sy 30)] .normal [(1, .sy 30), (6, .sy 40), (7, .clo (iv 0))] [(6, .slice d3 _ e3), (1, .slice a n c)] [(1, .slice a n c), (6, .slice d3 _ e3), (7, iv 0)] _ w3 (fun u => by kernel_rfl) rfl rfl hs3 hP3 (Nat.le_trans hB hb03.size) _ ?_
  intro a4 w4 hs4 hb4
  have hO4 := hO3.grow hb4 fun k hk => (World.ownsRow.lt hO3 k hk).2
  have hb04 := hb03.trans (hb4.mono hb03.size)
  clear hO3 hb4 hb03 hs3 hP3
  simp only [Ex.to, Exit.then]
  refine wp_block ?_
  refine wp_upto2 40 n 7 (fun k (s : Value × List Bx) => [(1, .slice a n c), (6, s.1), (7, iv k)]) (fun k s w' => OwnL encB tBx 6 w.heap.size s.2 s.1 w' ∧ (s.2 = [] → s.1 = .slice none 0 0) ∧ s.2.length ≤ 4096 ∧ (∀ p ∈ s.2, Full p) ∧ restF [b] L = restF s.2 (L.drop k) ∧ Below w.heap.size w w') (fun k s => by simp) (_, [b]) hs4 ⟨hO4, by simp, by simp, by simpa using hbF, rfl, hb04⟩ ?_
  clear hO4 hb04 hs4
  rintro k ⟨v, R⟩ a5 w5 hk hs5 ⟨hO5, hN5, hR4, hRF, hRR, hb05⟩
  simp only at hO5 hN5 hR4 hRF hRR hs5
  have hP5 : ElAt encB B L a w5 := hP.below hb05 hB
  have hB5 := Nat.le_trans hB hb05.size
  obtain ⟨d, e, hv, hd, hE5⟩ := OwnL.slice hO5 encB_len
  subst hv
  by_cases hkn : k < n
  · obtain ⟨q, hq⟩ : ∃ p, L[k]? = some p := ⟨L[k]'(by omega), by simp [show k < L.length by omega]⟩
    have hqF := hLF q (List.mem_of_getElem? hq)
    obtain ⟨a', rfl⟩ := hP.ex (by omega)
    have hk5 : @KnownOK (toldK 0 (riSym (apSym q q 0 0 0 0 0 0 0) (r40 (slSym d R.length e) (rS none 0 0 0 ⟨0, 0, none⟩ (some a') n c k G G 0))) [] [] [lnO, (.bin .lss 3, [.sy 32, .sy 31], .clo (.bool true))] (bxK B L (some a')) B ElAt.kst) Try.prog := known_toldK 0 _ _ _ _ _ _ _ aN aN (aC (OpIs.at ⟨[.slice (some a') n c], iv n, rfl, rfl, tells_ln (e := tBx) (by kernel_rfl)⟩ _) (aC (OpIs.at ⟨[iv k, iv n], _, rfl, rfl, tells_lss (decide_eq_true (by omega))⟩ _) aN))
    refine @code_TL (toldK 0 (riSym (apSym q q 0 0 0 0 0 0 0) (r40 (slSym d R.length e) (rS none 0 0 0 ⟨0, 0, none⟩ (some a') n c k G G 0))) [] [] [lnO, (.bin .lss 3, [.sy 32, .sy 31], .clo (.bool true))] (bxK B L (some a')) B ElAt.kst) Try.prog hmix hk5 rfl 300 [_] _ 40 [(1, .sy 30), (6, .sy 40), (7, .sy 32)] [(1, .sy 30), (6, .sy 40), (7, .sy 32)] [(1, .slice (some a') n c), (6, .slice d R.length e), (7, iv k)] [(1, .slice (some a') n c), (6, .slice d R.length e), (7, iv k)] _ w5 (fun u => by kernel_rfl) rfl rfl hs5 hP5 hB5 _ ?_
    intro a6 w6 hs6 hb6
    refine wp_seq ?_
    refine wp_block ?_
    refine @code_TL (toldK 0 (riSym (apSym q q 0 0 0 0 0 0 0) (r40 (slSym d R.length e) (rS none 0 0 0 ⟨0, 0, none⟩ (some a') n c k G G 0))) [] [] [lnO, (.bin .lss 3, [.sy 32, .sy 31], .clo (.bool true))] (bxK B L (some a')) B ElAt.kst) Try.prog hmix hk5 rfl 300 [_] _ 40 [(1, .sy 30), (6, .sy 40), (7, .sy 32)] [(8, .clo (.slice none 0 0)), (1, .sy 30), (6, .sy 40), (7, .sy 32)] [(1, .slice (some a') n c), (6, .slice d R.length e), (7, iv k)] [(8, .slice none 0 0), (1, .slice (some a') n c), (6, .slice d R.length e), (7, iv k)] _ w6 (fun u => by kernel_rfl) rfl rfl hs6 (hP5.below hb6 hB5) (Nat.le_trans hB5 hb6.size) _ ?_
    intro a7 w7 hs7 hb7
    have hb57 := hb6.trans (hb7.mono hb6.size)
    have hO7 := hO5.grow hb57 fun k hk => (World.ownsRow.lt hO5 k hk).2
    have hb07 := hb05.trans (hb57.mono hb05.size)
    obtain ⟨d', hd'⟩ := len_le hE5
    refine wp_seq ?_
    refine wp_seq ?_
    refine @code_T (toldK 0 (riSym (apSym q q 0 0 0 0 0 0 0) (r40 (slSym d R.length e) (rS none 0 0 0 ⟨0, 0, none⟩ (some a') n c k G G 0))) [] [] [lnO, (.bin .lss 3, [.sy 32, .sy 31], .clo (.bool true))] (bxK B L (some a')) B ElAt.kst) Try.prog hmix hk5 rfl 300 _ 40 [(8, .clo (.slice none 0 0)), (1, .sy 30), (6, .sy 40), (7, .sy 32)] .normal [(8, .clo (.slice none 0 0)), (1, .sy 30), (6, .sy 40), (7, .sy 32), (9, .clo (iv 0))] [(8, .slice none 0 0), (1, .slice (some a') n c), (6, .slice d R.length e), (7, iv k)] ((8, .slice none 0 0) :: qiV d R.length e 0 (some a') n c k) _ w7 (fun u => by kernel_rfl) rfl rfl hs7 (hP.below hb07 hB) (Nat.le_trans hB hb07.size) _ ?_
    intro a8 w8 hs8 hb8
    have hb58 := hb57.trans (hb8.mono hb57.size)
    have hb08 := hb07.trans (hb8.mono hb07.size)
    have hK8 : K2 w8.heap.size R L d (some a') w8 := ⟨elAt_mono (hE5.below hb58 (Nat.le_refl _)) hb58.size, elAt_mono (hP.below hb08 hB) (Nat.le_trans hB hb08.size)⟩
    clear hs7 hO7 hb07 hb57 hs6 hb6 hb7 hk5 hs5 hb58
    simp only [Ex.to, Exit.then]
    refine wp_block ?_
    refine inner_any (n := 40) (r := 8) (ix := 9) (tl := qiT) (wt := qiW) (ro := qiO) (re := qiE) (e := 2) ?hev qiA qiY qiN ?hR (fun p q L S t1 t2 t3 t4 t5 t6 h => qi_ok t1 t2 t3 t4 t5 t6 h) qiR R q hRF (by omega) (fun j => rS d R.length e j d' (some a') n c k (a'.add (k * 6)) G 0) (fun j => qiV d R.length e j (some a') n c k) (K2 w8.heap.size R L d (some a')) w8.heap.size k2_kst (fun j p hp n0 n1 n2 n3 n4 n5 n6 => by rw [hn]; exact qi_ops hd' (by omega) hp hq rfl)
      (fun b s => aC (OpIs.at ⟨[.slice d R.length e], iv R.length, rfl, rfl, tells_ln (e := tBx) (by kernel_rfl)⟩ _) (aC (OpIs.at ⟨[iv R.length, iv R.length], _, rfl, rfl, tells_lss (decide_eq_false (by omega))⟩ _) aN)) (fun b j A lv => rfl) (fun b j A lv => rfl) (fun b s A lv => rfl) (fun k => by simp) rfl hK8 hs8 ?_
    case hev =>
      refine ⟨fun sym lst K B kst o1 o2 o3 h u => ?_, fun sym lst K B kst t1 t2 t3 t4 t5 t6 u => ?_, fun sym lst K B kst o1 o2 o3 h u => ?_, fun sym lst K B kst u => by kernel_rfl⟩
      · cases o1
        · kernel_rfl
        · cases o2
          · kernel_rfl
          · cases o3
            · kernel_rfl
            · cases h
      · cases t1 <;> cases t2 <;> cases t3 <;> cases t4 <;> cases t5 <;> cases t6 <;> kernel_rfl
      · cases o1
        · kernel_rfl
        · cases o2
          · kernel_rfl
          · cases o3
            · kernel_rfl
            · cases h
    case hR =>
      intro sym lst K B kst t1 t2 t3 t4 t5 t6 u
      cases t1 <;> cases t2 <;> cases t3 <;> cases t4 <;> cases t5 <;> cases t6 <;> kernel_rfl
    intro a9 w9 v9 hs9 hO9 hN9 hb9
    simp only [Exit.inBlock, if_true, Exit.then]
    have hO9 : OwnL encB tBx 6 w.heap.size (R.flatMap fun p => leftF p q) v9 w9 := ownsRow_base hO9 hb08.size
    have hb09 := hb08.trans (hb9.mono hb08.size)
    have hP9 : ElAt encB B L (some a') w9 := hP.below hb09 hB
    have hst := restF_step (R := R) hq
    obtain ⟨R2, hR2⟩ : ∃ R2, R2 = R.flatMap fun p => leftF p q := ⟨_, rfl⟩
    have hRF2 : ∀ p ∈ R2, Full p := fun p hp => by
      rw [hR2] at hp
      obtain ⟨x, hx, hpx⟩ := List.mem_flatMap.1 hp
      exact leftF_full (hRF x hx) p hpx
    rw [← hR2] at hO9 hst hN9
    obtain ⟨d9, e9, hv9, _, _⟩ := OwnL.slice hO9 encB_len
    subst hv9
    clear hR2 hK8 hs8 hb9
    refine wp_seq ?_
    have hk9 : ∀ m, decide (4096 < R2.length) = m → @KnownOK (toldK 0 (riSym (apSym q q 0 0 0 0 0 0 0) (r40 (slSym d9 R2.length e9) (rS none 0 0 0 ⟨0, 0, none⟩ (some a') n c k G G R2.length))) [] [] [(.ln 26, [.sy 40], .sy 36), (.bin .gtr 3, [.sy 36, .clo (iv 4096)], .clo (.bool m)), (.bin .add 3, [.sy 32, .clo (iv 1)], .sy 34)] (bxK B L (some a')) B ElAt.kst) Try.prog := fun m hm => known_toldK 0 _ _ _ _ _ _ _ aN aN
      (aC (OpIs.at ⟨[.slice d9 R2.length e9], iv R2.length, rfl, rfl, tells_ln (e := tBx) (by kernel_rfl)⟩ _) (aC (OpIs.at ⟨[iv R2.length, iv 4096], _, rfl, rfl, tells_gtr (by rw [← hm, decide_eq_decide]; omega)⟩ _) (aC (OpIs.at ⟨[iv k, iv 1], iv (k + 1 : Nat), rfl, rfl, tells_add (by rw [IntKind.wrap_i64]; omega)⟩ _) aN)))
    by_cases hbig : 4096 < R2.length
    · refine @code_T (toldK 0 (riSym (apSym q q 0 0 0 0 0 0 0) (r40 (slSym d9 R2.length e9) (rS none 0 0 0 ⟨0, 0, none⟩ (some a') n c k G G R2.length))) [] [] [(.ln 26, [.sy 40], .sy 36), (.bin .gtr 3, [.sy 36, .clo (iv 4096)], .clo (.bool true)), (.bin .add 3, [.sy 32, .clo (iv 1)], .sy 34)] (bxK B L (some a')) B ElAt.kst) Try.prog hmix (hk9 true (decide_eq_true hbig)) rfl 300 _ 40 [(8, .sy 40)] .ret [(4, .clo (.slice none 0 0)), (5, .clo (iv 7))] [(8, .slice d9 R2.length e9)] [(4, .slice none 0 0), (5, iv 7)] _ w9 (fun u => by kernel_rfl) rfl rfl ⟨hs9.size, hs9.defers, fun x hx => by simp at hx; subst hx; exact hs9.tmps _ (by simp)⟩ hP9 (Nat.le_trans hB hb09.size) _ ?_
      intro a10 w10 hs10 hb10
      have h4 : a10.tmps.getD 4 undef = .slice none 0 0 := hs10.tmps (4, .slice none 0 0) (by simp)
      have h5 : a10.tmps.getD 5 undef = iv 7 := hs10.tmps (5, iv 7) (by simp)
      rw [Array.getD_eq_getD_getElem?] at h4 h5
      simp only [Ex.to, Exit.then, Exit.inBlock]
      simp [bodyPost, results, Try.results15, go_sem, h4, h5]
      refine ⟨hs10.defers, hb09.trans (hb10.mono hb09.size), ?_⟩
      rw [hRR, hst, if_pos hbig]
    · refine @code_T (toldK 0 (riSym (apSym q q 0 0 0 0 0 0 0) (r40 (slSym d9 R2.length e9) (rS none 0 0 0 ⟨0, 0, none⟩ (some a') n c k G G R2.length))) [] [] [(.ln 26, [.sy 40], .sy 36), (.bin .gtr 3, [.sy 36, .clo (iv 4096)], .clo (.bool false)), (.bin .add 3, [.sy 32, .clo (iv 1)], .sy 34)] (bxK B L (some a')) B ElAt.kst) Try.prog hmix (hk9 false (decide_eq_false hbig)) rfl 300 _ 40 [(8, .sy 40), (1, .sy 30), (7, .sy 32)] .normal [(8, .sy 40), (1, .sy 30), (7, .sy 32)] [(8, .slice d9 R2.length e9), (1, .slice (some a') n c), (7, iv k)] [(8, .slice d9 R2.length e9), (1, .slice (some a') n c), (7, iv k)] _ w9 (fun u => by kernel_rfl) rfl rfl ⟨hs9.size, hs9.defers, fun x hx => hs9.tmps _ (by simp at hx ⊢; rcases hx with rfl | rfl | rfl <;> simp)⟩ hP9 (Nat.le_trans hB hb09.size) _ ?_
      intro a10 w10 hs10 hb10
      have hO10 := hO9.grow hb10 fun k hk => (World.ownsRow.lt hO9 k hk).2
      have hb010 := hb09.trans (hb10.mono hb09.size)
      simp only [Ex.to, Exit.then]
      refine @code_T (toldK 0 (riSym (apSym q q 0 0 0 0 0 0 0) (r40 (slSym d9 R2.length e9) (rS none 0 0 0 ⟨0, 0, none⟩ (some a') n c k G G R2.length))) [] [] [(.ln 26, [.sy 40], .sy 36), (.bin .gtr 3, [.sy 36, .clo (iv 4096)], .clo (.bool false)), (.bin .add 3, [.sy 32, .clo (iv 1)], .sy 34)] (bxK B L (some a')) B ElAt.kst) Try.prog hmix (hk9 false (decide_eq_false hbig)) rfl 300 _ 40 [(8, .sy 40), (1, .sy 30), (7, .sy 32)] .normal [(1, .sy 30), (6, .sy 40), (7, .sy 32)] [(8, .slice d9 R2.length e9), (1, .slice (some a') n c), (7, iv k)] [(1, .slice (some a') n c), (6, .slice d9 R2.length e9), (7, iv k)] _ w10 (fun u => by kernel_rfl) rfl rfl hs10 (hP9.below hb10 (Nat.le_trans hB hb09.size)) (Nat.le_trans hB hb010.size) _ ?_
      intro a11 w11 hs11 hb11
      have hO11 := hO10.grow hb11 fun k hk => (World.ownsRow.lt hO10 k hk).2
      have hb011 := hb010.trans (hb11.mono hb010.size)
      simp only [Ex.to, Exit.then, Exit.inBlock]
      refine @code_T (toldK 0 (riSym (apSym q q 0 0 0 0 0 0 0) (r40 (slSym d9 R2.length e9) (rS none 0 0 0 ⟨0, 0, none⟩ (some a') n c k G G R2.length))) [] [] [(.ln 26, [.sy 40], .sy 36), (.bin .gtr 3, [.sy 36, .clo (iv 4096)], .clo (.bool false)), (.bin .add 3, [.sy 32, .clo (iv 1)], .sy 34)] (bxK B L (some a')) B ElAt.kst) Try.prog hmix (hk9 false (decide_eq_false hbig)) rfl 300 _ 40 [(1, .sy 30), (6, .sy 40), (7, .sy 32)] .normal [(1, .sy 30), (6, .sy 40), (7, .sy 34)] [(1, .slice (some a') n c), (6, .slice d9 R2.length e9), (7, iv k)] [(1, .slice (some a') n c), (6, .slice d9 R2.length e9), (7, iv (k + 1 : Nat))] _ w11 (fun u => by kernel_rfl) rfl rfl hs11 (hP.below hb011 hB) (Nat.le_trans hB hb011.size) _ ?_
      intro a12 w12 hs12 hb12
      exact ⟨hkn, (_, R2), hs12, hO11.grow hb12 (fun k hk => (World.ownsRow.lt hO11 k hk).2), hN9, by simp only; omega, hRF2, by rw [hRR, hst, if_neg hbig], hb011.trans (hb12.mono hb011.size)⟩
  · have hke : @KnownOK (toldK 0 (riSym (apSym b b 0 0 0 0 0 0 0) (r40 (slSym d R.length e) (rS none 0 0 0 ⟨0, 0, none⟩ a n c k G G 0))) [] [] [lnO, (.bin .lss 3, [.sy 32, .sy 31], .clo (.bool false))] (bxK B L a) B ElAt.kst) Try.prog := known_toldK 0 _ _ _ _ _ _ _ aN aN (aC (OpIs.at ⟨[.slice a n c], iv n, rfl, rfl, tells_ln (e := tBx) (by kernel_rfl)⟩ _) (aC (OpIs.at ⟨[iv k, iv n], _, rfl, rfl, tells_lss (decide_eq_false (by omega))⟩ _) aN))
    refine @code_T (toldK 0 (riSym (apSym b b 0 0 0 0 0 0 0) (r40 (slSym d R.length e) (rS none 0 0 0 ⟨0, 0, none⟩ a n c k G G 0))) [] [] [lnO, (.bin .lss 3, [.sy 32, .sy 31], .clo (.bool false))] (bxK B L a) B ElAt.kst) Try.prog hmix hke rfl 300 _ 40 [(1, .sy 30), (6, .sy 40), (7, .sy 32)] (.exit 0) [(6, .sy 40)] [(1, .slice a n c), (6, .slice d R.length e), (7, iv k)] [(6, .slice d R.length e)] _ w5 (fun u => by kernel_rfl) rfl rfl hs5 hP5 hB5 _ ?_
    intro a6 w6 hs6 hb6
    have hO6 := hO5.grow hb6 fun k hk => (World.ownsRow.lt hO5 k hk).2
    have hb06 := hb05.trans (hb6.mono hb05.size)
    simp only [Ex.to, Exit.then, Exit.inBlock, if_true]
    refine @code_T (toldK 0 (riSym (apSym b b 0 0 0 0 0 0 0) (r40 (slSym d R.length e) (rS none 0 0 0 ⟨0, 0, none⟩ a n c k G G 0))) [] [] [lnO, (.bin .lss 3, [.sy 32, .sy 31], .clo (.bool false))] (bxK B L a) B ElAt.kst) Try.prog hmix hke rfl 300 _ 40 [(6, .sy 40)] .ret [(4, .sy 40), (5, .clo (iv 0))] [(6, .slice d R.length e)] [(4, .slice d R.length e), (5, iv 0)] _ w6 (fun u => by kernel_rfl) rfl rfl hs6 (hP.below hb06 hB) (Nat.le_trans hB hb06.size) _ ?_
    intro a7 w7 hs7 hb7
    have hO7 := hO6.grow hb7 fun k hk => (World.ownsRow.lt hO6 k hk).2
    have h4 : a7.tmps.getD 4 undef = .slice d R.length e := hs7.tmps (4, .slice d R.length e) (by simp)
    have h5 : a7.tmps.getD 5 undef = iv 0 := hs7.tmps (5, iv 0) (by simp)
    rw [Array.getD_eq_getD_getElem?] at h4 h5
    simp only [Ex.to]
    simp [bodyPost, results, Try.results15, go_sem, h4, h5]
    refine ⟨hs7.defers, hb06.trans (hb7.mono hb06.size), ?_⟩
    refine ⟨R, ?_, hO7, (fun h => by simpa using hN5 h)⟩
    rw [hRR, List.drop_eq_nil_of_le (by omega)]
    rfl
end Go.Proofs.Ytcjgobephedpdaa
