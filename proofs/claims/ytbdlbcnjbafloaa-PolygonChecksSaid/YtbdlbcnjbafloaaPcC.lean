/- Layer 5 (polygon): points that are allowed, by the program. -/
import Derived.Test.YtbdlbcnjbafloaaPcB
namespace Go.Proofs.Ytbdlbcnjbafloaa
open Go.RowKit Go.Ev
set_option maxRecDepth 100000
abbrev vcOps (a b c d : Bool) : List KOp := [(.conv 3 2, [.sy 0], .sy 0), (.conv 3 2, [.sy 1], .sy 1), (.bin .lss 2, [.sy 0, .clo (iv (-1000000))], .clo (.bool (!a))), (.bin .gtr 2, [.sy 0, .clo (iv 1000000)], .clo (.bool (!b))), (.bin .lss 2, [.sy 1, .clo (iv (-1000000))], .clo (.bool (!c))), (.bin .gtr 2, [.sy 1, .clo (iv 1000000)], .clo (.bool (!d)))]
theorem evVc (p : Pt) (a b c d : Bool) : resC (evalFn0 Try.prog (@evalC (toldK 0 (alSym p) [] [] (vcOps a b c d) (fun _ => True) 0 (fun _ _ _ _ => trivial)) Try.prog 300 true) 0 50 [.agg [.sy 0, .sy 1, .clo (iv 0)]] ⟨0, []⟩) = some (.clo (iv (cond (a && (b && (c && d))) 0 6))) := by
  cases a
  · kernel_rfl
  · cases b
    · kernel_rfl
    · cases c
      · kernel_rfl
      · cases d <;> kernel_rfl
theorem vcheck_any (p : Pt) (h1 : IntKind.i64.wrap p.1 = p.1) (h2 : IntKind.i64.wrap p.2 = p.2) (w : World) : Calls Try.prog 50 #[.agg #[iv p.1, iv p.2, iv 0]] w fun e w' => e = .returned (iv (cond (alw p) 0 6)) ∧ Below w.heap.size w w' := by
  refine calls_toldR hmix (alSym p) [] [] (vcOps (decide (-1000000 ≤ p.1)) (decide (p.1 ≤ 1000000)) (decide (-1000000 ≤ p.2)) (decide (p.2 ≤ 1000000))) (fun _ => True) 0 (fun _ _ _ _ => trivial) (fun _ h => by cases h) (fun _ h => by cases h) ?_ (args := [.agg [.sy 0, .sy 1, .clo (iv 0)]]) (xs := [.agg #[iv p.1, iv p.2, iv 0]]) rfl _ (evVc p _ _ _ _) rfl w trivial (Nat.zero_le _)
  intro z hz
  simp only [vcOps, List.mem_cons, List.not_mem_nil, or_false] at hz
  rcases hz with rfl | rfl | rfl | rfl | rfl | rfl
  · exact ⟨[iv p.1], iv p.1, rfl, rfl, tells_int (u := .int .i64) (by kernel_rfl) (by kernel_rfl) h1⟩
  · exact ⟨[iv p.2], iv p.2, rfl, rfl, tells_int (u := .int .i64) (by kernel_rfl) (by kernel_rfl) h2⟩
  · exact ⟨[iv p.1, iv (-1000000)], _, rfl, rfl, tells_lss (by rw [← decide_not, decide_eq_decide]; omega)⟩
  · exact ⟨[iv p.1, iv 1000000], _, rfl, rfl, tells_gtr (by rw [← decide_not, decide_eq_decide]; omega)⟩
  · exact ⟨[iv p.2, iv (-1000000)], _, rfl, rfl, tells_lss (by rw [← decide_not, decide_eq_decide]; omega)⟩
  · exact ⟨[iv p.2, iv 1000000], _, rfl, rfl, tells_gtr (by rw [← decide_not, decide_eq_decide]; omega)⟩
/-! ### The walk over a list -/
abbrev awOps (m : Bool) : List KOp := [(.bin .lss 3, [.sy 1, .sy 3], .clo (.bool m))]
abbrev awAt : List KOp := [(.ixa 22, [.sy 0, .sy 1], .sy 4), (.ld 31, [.sy 4], .agg [.sy 5, .sy 6]), (.bin .add 3, [.sy 1, .clo (iv 1)], .sy 2)]
theorem aw_at {B : Nat} {L : List Pt} {a' : Addr} {c k j : Nat} {p q : Pt} (hk : k < L.length) (hp : L[k]? = some p) (h64 : L.length ≤ 1000000) : ∀ r ∈ awAt, OpAt Try.prog (ckSym (some a') a' L.length c k j p q) (ptsK B L (some a')) r := by
  intro r hr
  simp only [awAt, List.mem_cons, List.not_mem_nil, or_false] at hr
  rcases hr with rfl | rfl | rfl
  · exact OpIs.at ⟨[.slice (some a') L.length c, iv k], .pointer (some (a'.add (k * 2))), rfl, rfl, tells_ixa (e := 31) (by kernel_rfl) (by kernel_rfl) hk⟩ _
  · exact ⟨[.pointer (some (a'.add (k * 2)))], .agg #[iv p.1, iv p.2], rfl, rfl, PtsAt.ld (by kernel_rfl) (by kernel_rfl) (fun w hw => hw) hp⟩
  · exact OpIs.at ⟨[iv k, iv 1], iv (k + 1 : Nat), rfl, rfl, tells_add (by rw [IntKind.wrap_i64]; omega)⟩ _
theorem aw_lss {a : Option Addr} {a' : Addr} {n c k j : Nat} {p q : Pt} {K : World → Prop} : ∀ r ∈ awOps (decide (k < n)), OpAt Try.prog (ckSym a a' n c k j p q) K r := by
  intro r hr
  simp only [awOps, List.mem_cons, List.not_mem_nil, or_false] at hr
  subst hr
  exact OpIs.at ⟨[iv k, iv n], _, rfl, rfl, tells_lss (by rw [decide_eq_decide]; omega)⟩ _
abbrev awLen : List KOp := [(.ln 22, [.sy 0], .sy 3)]
theorem aw_len {a : Option Addr} {a' : Addr} {n c k j : Nat} {p q : Pt} {K : World → Prop} : ∀ r ∈ awLen, OpAt Try.prog (ckSym a a' n c k j p q) K r := by
  intro r hr
  simp only [awLen, List.mem_cons, List.not_mem_nil, or_false] at hr
  subst hr
  exact OpIs.at ⟨[.slice a n c], iv n, rfl, rfl, tells_ln (e := 31) (by kernel_rfl)⟩ _
/-- The numbers are those of a machine. -/
def inPts (L : List Pt) : Prop := ∀ p ∈ L, IntKind.i64.wrap p.1 = p.1 ∧ IntKind.i64.wrap p.2 = p.2
theorem pAllowed_any (B : Nat) (L : List Pt) (a : Option Addr) (c : Nat) (hn0 : L.length ≤ 1000000) (hi : inPts L) (w : World) (hP : PtsAt B L a w) (hB : B ≤ w.heap.size) :
    Calls Try.prog 37 #[.slice a L.length c] w fun e w' => e = .returned (.bool (L.all alw)) ∧ Below w.heap.size w w' := by
  obtain ⟨n, hn⟩ : ∃ n, n = L.length := ⟨_, rfl⟩
  rw [← hn]
  have hkn0 : @KnownOK (ckC B L a ⟨0, 0, none⟩ n c 0 0 (0, 0) (0, 0) [] [] awLen) Try.prog := known_toldK 0 _ _ _ _ _ _ _ (fun _ h => by cases h) (fun _ h => by cases h) aw_len
  go_enter Try.func37, Try.ntmps37
  refine @code_TL (ckC B L a ⟨0, 0, none⟩ n c 0 0 (0, 0) (0, 0) [] [] awLen) Try.prog hmix hkn0 rfl 300 [_] _ 19 [(0, .sy 0)] [(0, .sy 0)] [(0, .slice a n c)] [(0, .slice a n c)] _ w (fun u => by kernel_rfl) rfl rfl ⟨rfl, rfl, fun x hx => by simp at hx; subst hx; rfl⟩ hP hB _ ?_
  intro a1 w1 hs1 hb1
  have hP1 := hP.below hb1 hB
  have hB1 := Nat.le_trans hB hb1.size
  refine wp_seq ?_
  refine @code_TL (ckC B L a ⟨0, 0, none⟩ n c 0 0 (0, 0) (0, 0) [] [] awLen) Try.prog hmix hkn0 rfl 300 [_] _ 19 [(0, .sy 0)] [(5, .sy 0), (6, .sy 3), (7, .clo (iv 0))] [(0, .slice a n c)] [(5, .slice a n c), (6, iv n), (7, iv 0)] _ w1 (fun u => by kernel_rfl) rfl rfl hs1 hP1 hB1 _ ?_
  intro a2 w2 hs2 hb2
  have hb2' := hb1.trans (hb2.mono hb1.size)
  clear hb2 hs1 hP1 hB1
  refine wp_block ?_
  refine wp_loop (fun x w' => ∃ k : Nat, k ≤ n ∧ Tmps 19 [(5, .slice a n c), (6, iv n), (7, iv k)] x ∧ Below w.heap.size w w' ∧ ∀ i p, i < k → L[i]? = some p → alw p = true) (fun x _ => n - (intOf (x.tmps.getD 7 undef)).toNat) ⟨0, Nat.zero_le _, hs2, hb2', fun i p hi => by omega⟩ ?_
  rintro a3 w3 ⟨k, hk, hs3, hb3, hal⟩
  have hP3 := hP.below hb3 hB
  have hB3 := Nat.le_trans hB hb3.size
  by_cases hkn : k < n
  · obtain ⟨p, hp⟩ : ∃ p, L[k]? = some p := ⟨L[k]'(by omega), by simp [show k < L.length by omega]⟩
    obtain ⟨a', rfl⟩ := hP.ex (by omega)
    have hkn1 : @KnownOK (ckC B L (some a') a' n c k 0 p (0, 0) [(50, [.agg [.sy 5, .sy 6, .clo (iv 0)]], .clo (iv (cond (alw p) 0 6)))] [] (awOps true ++ awAt)) Try.prog := known_toldK 0 _ _ _ _ _ _ _ (fun z hz => by
        simp only [List.mem_cons, List.not_mem_nil, or_false] at hz
        subst hz
        obtain ⟨g1, g2⟩ := hi p (List.mem_of_getElem? hp)
        exact ⟨[.agg #[iv p.1, iv p.2, iv 0]], _, rfl, rfl, fun w _ => vcheck_any p g1 g2 w⟩) (fun _ h => by cases h) (fun z hz => (List.mem_append.1 hz).elim (fun h => by
          have := @aw_lss (some a') a' n c k 0 p (0, 0) (ptsK B L (some a')) z
          rw [decide_eq_true hkn] at this
          exact this h) (fun h => by
          have := @aw_at B L a' c k 0 p (0, 0) (by omega) hp hn0 z h
          rw [← hn] at this
          exact this))
    have h3 : a3.tmps.getD 7 undef = iv k := hs3.tmps (7, iv k) (by simp)
    cases hA : alw p
    · rw [hA] at hkn1
      refine @code_T (ckC B L (some a') a' n c k 0 p (0, 0) [(50, [.agg [.sy 5, .sy 6, .clo (iv 0)]], .clo (iv (cond false 0 6)))] [] (awOps true ++ awAt)) Try.prog hmix hkn1 rfl 300 _ 19 [(5, .sy 0), (6, .sy 3), (7, .sy 1)] .ret [(2, .clo (.bool false))] [(5, .slice (some a') n c), (6, iv n), (7, iv k)] [(2, .bool false)] _ w3 (fun u => by kernel_rfl) rfl rfl hs3 hP3 hB3 _ ?_
      intro a4 w4 hs4 hb4
      have h4 : a4.tmps.getD 2 undef = .bool false := hs4.tmps (2, .bool false) (by simp)
      have hr : L.all alw = false := by
        rw [List.all_eq_false]
        exact ⟨p, List.mem_of_getElem? hp, by rw [hA]; decide⟩
      rw [Array.getD_eq_getD_getElem?] at h4
      simp only [Ex.to, Exit.then, Exit.inBlock]
      simp [bodyPost, results, Try.results37, go_sem, h4, hr]
      exact ⟨hs4.defers, hb3.trans (hb4.mono hb3.size)⟩
    · rw [hA] at hkn1
      refine @code_T (ckC B L (some a') a' n c k 0 p (0, 0) [(50, [.agg [.sy 5, .sy 6, .clo (iv 0)]], .clo (iv (cond true 0 6)))] [] (awOps true ++ awAt)) Try.prog hmix hkn1 rfl 300 _ 19 [(5, .sy 0), (6, .sy 3), (7, .sy 1)] .normal [(5, .sy 0), (6, .sy 3), (7, .sy 2)] [(5, .slice (some a') n c), (6, iv n), (7, iv k)] [(5, .slice (some a') n c), (6, iv n), (7, iv (k + 1 : Nat))] _ w3 (fun u => by kernel_rfl) rfl rfl hs3 hP3 hB3 _ ?_
      intro a4 w4 hs4 hb4
      refine ⟨⟨k + 1, by omega, hs4, hb3.trans (hb4.mono hb3.size), fun i p' hi hp' => ?_⟩, ?_⟩
      · by_cases hik : i = k
        · subst hik; rw [hp] at hp'; cases hp'; exact hA
        · exact hal i p' (by omega) hp'
      · have h4 : a4.tmps.getD 7 undef = iv (k + 1 : Nat) := hs4.tmps (7, iv (k + 1 : Nat)) (by simp)
        rw [h3, h4]
        simp only [intOf]; omega
  · have hkn1 : @KnownOK (ckC B L a ⟨0, 0, none⟩ n c k 0 (0, 0) (0, 0) [] [] (awOps false)) Try.prog := known_toldK 0 _ _ _ _ _ _ _ (fun _ h => by cases h) (fun _ h => by cases h) (fun z hz => by
          have := @aw_lss a ⟨0, 0, none⟩ n c k 0 (0, 0) (0, 0) (ptsK B L a) z
          rw [decide_eq_false hkn] at this
          exact this hz)
    refine @code_T (ckC B L a ⟨0, 0, none⟩ n c k 0 (0, 0) (0, 0) [] [] (awOps false)) Try.prog hmix hkn1 rfl 300 _ 19 [(5, .sy 0), (6, .sy 3), (7, .sy 1)] (.exit 0) [(5, .sy 0)] [(5, .slice a n c), (6, iv n), (7, iv k)] [(5, .slice a n c)] _ w3 (fun u => by kernel_rfl) rfl rfl hs3 hP3 hB3 _ ?_
    intro a4 w4 hs4 hb4
    have hall : L.all alw = true := by
      rw [List.all_eq_true]
      intro p hp
      obtain ⟨i, hi⟩ := List.getElem?_of_mem hp
      have hlt := (List.getElem?_eq_some_iff.1 hi).1
      exact hal i p (by omega) hi
    have hb4' := hb3.trans (hb4.mono hb3.size)
    have hP4 := hP.below hb4' hB
    have hB4 := Nat.le_trans hB hb4'.size
    simp only [Ex.to, Exit.then, Exit.inBlock, if_true]
    refine @code_T (ckC B L a ⟨0, 0, none⟩ n c k 0 (0, 0) (0, 0) [] [] (awOps false)) Try.prog hmix hkn1 rfl 300 _ 19 [(5, .sy 0)] .ret [(2, .clo (.bool true))] [(5, .slice a n c)] [(2, .bool true)] _ w4 (fun u => by kernel_rfl) rfl rfl hs4 hP4 hB4 _ ?_
    intro a5 w5 hs5 hb5
    have h4 : a5.tmps.getD 2 undef = .bool true := hs5.tmps (2, .bool true) (by simp)
    rw [Array.getD_eq_getD_getElem?] at h4
    simp only [Ex.to]
    simp [bodyPost, results, Try.results37, go_sem, h4, hall]
    exact ⟨hs5.defers, hb4'.trans (hb5.mono hb4'.size)⟩
end Go.Proofs.Ytbdlbcnjbafloaa
