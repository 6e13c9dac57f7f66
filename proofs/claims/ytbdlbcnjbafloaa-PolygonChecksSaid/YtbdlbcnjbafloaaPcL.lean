/- Layer 5 (polygon): Same. -/
import Derived.Test.YtbdlbcnjbafloaaPcI
namespace Go.Proofs.Ytbdlbcnjbafloaa
open Go.RowKit Go.Ev
set_option maxRecDepth 100000
abbrev smSym (a b : Option Addr) (a' b' : Addr) (n m c d k : Nat) (p q : Pt) : Tm → Sym
  | .v 50 => slSym b m d
  | .v 51 => intSym .i64 m
  | .v 52 => ptSym (b'.add (k * 2))
  | x => ckSym a a' n c k 0 p q x
abbrev smK (B : Nat) (L M : List Pt) (a b : Option Addr) (w : World) : Prop := PtsAt B L a w ∧ PtsAt B M b w
theorem sm_kst {B : Nat} {L M : List Pt} {a b : Option Addr} : ∀ w w', smK B L M a b w → Below B w w' → smK B L M a b w' := fun _ _ h hb => ⟨h.1.below hb (Nat.le_refl _), h.2.below hb (Nat.le_refl _)⟩
abbrev smLen (r : Bool) : List KOp := [(.ln 23, [.sy 0], .sy 3), (.ln 23, [.sy 50], .sy 51), (.bin .neq 3, [.sy 3, .sy 51], .clo (.bool r))]
abbrev smLss (r : Bool) : List KOp := [(.ln 23, [.sy 0], .sy 3), (.bin .lss 3, [.sy 1, .sy 3], .clo (.bool r))]
abbrev smAt : List KOp := [(.ixa 23, [.sy 0, .sy 1], .sy 4), (.ixa 23, [.sy 50, .sy 1], .sy 52), (.ld 31, [.sy 4], .agg [.sy 5, .sy 6]), (.ld 31, [.sy 52], .agg [.sy 9, .sy 10]), (.bin .add 3, [.sy 1, .clo (iv 1)], .sy 2)]
theorem sm_len {a b : Option Addr} {a' b' : Addr} {n m c d k : Nat} {p q : Pt} {K : World → Prop} {r : Bool} (h : decide (n ≠ m) = r) : ∀ z ∈ smLen r, OpAt Try.prog (smSym a b a' b' n m c d k p q) K z := by
  intro z hz
  simp only [smLen, List.mem_cons, List.not_mem_nil, or_false] at hz
  rcases hz with rfl | rfl | rfl
  · exact OpIs.at ⟨[.slice a n c], iv n, rfl, rfl, tells_ln (e := 31) (by kernel_rfl)⟩ K
  · exact OpIs.at ⟨[.slice b m d], iv m, rfl, rfl, tells_ln (e := 31) (by kernel_rfl)⟩ K
  · exact OpIs.at ⟨[iv n, iv m], _, rfl, rfl, tells_neq (by rw [← h, decide_eq_decide]; omega)⟩ K
theorem sm_lss {a b : Option Addr} {a' b' : Addr} {n m c d k : Nat} {p q : Pt} {K : World → Prop} {r : Bool} (h : decide (k < n) = r) : ∀ z ∈ smLss r, OpAt Try.prog (smSym a b a' b' n m c d k p q) K z := by
  intro z hz
  simp only [smLss, List.mem_cons, List.not_mem_nil, or_false] at hz
  rcases hz with rfl | rfl
  · exact OpIs.at ⟨[.slice a n c], iv n, rfl, rfl, tells_ln (e := 31) (by kernel_rfl)⟩ K
  · exact OpIs.at ⟨[iv k, iv n], _, rfl, rfl, tells_lss (by rw [← h, decide_eq_decide]; omega)⟩ K
theorem sm_at {B : Nat} {L M : List Pt} {a' b' : Addr} {c d k : Nat} {p q : Pt} (hp : L[k]? = some p) (hq : M[k]? = some q) (hk6 : k < 1000000) : ∀ z ∈ smAt, OpAt Try.prog (smSym (some a') (some b') a' b' L.length M.length c d k p q) (smK B L M (some a') (some b')) z := by
  have hk : k < L.length := (List.getElem?_eq_some_iff.1 hp).1
  have hm : k < M.length := (List.getElem?_eq_some_iff.1 hq).1
  intro z hz
  simp only [smAt, List.mem_cons, List.not_mem_nil, or_false] at hz
  rcases hz with rfl | rfl | rfl | rfl | rfl
  · exact OpIs.at ⟨[.slice (some a') L.length c, iv k], .pointer (some (a'.add (k * 2))), rfl, rfl, tells_ixa (e := 31) (by kernel_rfl) (by kernel_rfl) hk⟩ _
  · exact OpIs.at ⟨[.slice (some b') M.length d, iv k], .pointer (some (b'.add (k * 2))), rfl, rfl, tells_ixa (e := 31) (by kernel_rfl) (by kernel_rfl) hm⟩ _
  · exact ⟨[.pointer (some (a'.add (k * 2)))], .agg #[iv p.1, iv p.2], rfl, rfl, PtsAt.ld (by kernel_rfl) (by kernel_rfl) (fun w hw => hw.1) hp⟩
  · exact ⟨[.pointer (some (b'.add (k * 2)))], .agg #[iv q.1, iv q.2], rfl, rfl, PtsAt.ld (by kernel_rfl) (by kernel_rfl) (fun w hw => hw.2) hq⟩
  · exact OpIs.at ⟨[iv k, iv 1], iv (k + 1 : Nat), rfl, rfl, tells_add (by rw [IntKind.wrap_i64]; omega)⟩ _
abbrev smC (B : Nat) (L M : List Pt) (a b : Option Addr) (a' b' : Addr) (n m c d k : Nat) (p q : Pt) (le : List KEq) (lv : List KOp) : Ctxt := toldK 0 (smSym a b a' b' n m c d k p q) [] le lv (smK B L M a b) B sm_kst
theorem same_any (B : Nat) (L M : List Pt) (a b : Option Addr) (c d : Nat) (h1 : L.length < 100000) (w : World) (hP : smK B L M a b w) (hB : B ≤ w.heap.size) :
    Calls Try.prog 11 #[.slice a L.length c, .slice b M.length d] w fun e w' => e = .returned (.bool (decide (L = M))) ∧ Below w.heap.size w w' := by
  by_cases hlm : L.length = M.length
  case neg =>
    have hev : ∀ n m, resC (evalFn0 Try.prog (@evalC (toldK 0 (smSym a b ⟨0, 0, none⟩ ⟨0, 0, none⟩ n m c d 0 (0, 0) (0, 0)) [] [] (smLen true) (fun _ => True) 0 (fun _ _ _ _ => trivial)) Try.prog 300 true) 0 11 [.sy 0, .sy 50] ⟨0, []⟩) = some (.clo (.bool false)) := by
      intro n m; kernel_rfl
    refine calls_toldM hmix (smSym a b ⟨0, 0, none⟩ ⟨0, 0, none⟩ L.length M.length c d 0 (0, 0) (0, 0)) [] [] (smLen true) (fun _ => True) 0 (fun _ _ _ _ => trivial) (fun _ h => by cases h) (fun _ h => by cases h) (sm_len (decide_eq_true hlm)) (args := [.sy 0, .sy 50]) (xs := [.slice a L.length c, .slice b M.length d]) rfl _ (hev _ _) ?_ w trivial (Nat.zero_le _)
    rw [decide_eq_false (fun h => hlm (congrArg List.length h))]
    rfl
  obtain ⟨n, hn⟩ : ∃ n, n = L.length := ⟨_, rfl⟩
  rw [← hlm, ← hn]
  have hk0 : @KnownOK (smC B L M a b ⟨0, 0, none⟩ ⟨0, 0, none⟩ n n c d 0 (0, 0) (0, 0) [] (smLen false)) Try.prog := known_toldK 0 _ _ _ _ _ _ _ (fun _ h => by cases h) (fun _ h => by cases h) (sm_len (by simp))
  have h20 : 3 ≤ 20 := by omega
  clear h20
  go_enter Try.func11, Try.ntmps11
  refine @code_TL (smC B L M a b ⟨0, 0, none⟩ ⟨0, 0, none⟩ n n c d 0 (0, 0) (0, 0) [] (smLen false)) Try.prog hmix hk0 rfl 300 [_, _] _ 26 [(0, .sy 0), (1, .sy 50)] [(0, .sy 0), (1, .sy 50)] [(0, .slice a n c), (1, .slice b n d)] [(0, .slice a n c), (1, .slice b n d)] _ w (fun u => by kernel_rfl) rfl rfl ⟨rfl, rfl, fun x hx => by simp at hx; rcases hx with rfl | rfl <;> rfl⟩ hP hB _ ?_
  intro a1 w1 hs1 hb1
  have hP1 := sm_kst _ _ hP (hb1.mono hB)
  have hB1 := Nat.le_trans hB hb1.size
  refine wp_seq ?_
  refine @code_TL (smC B L M a b ⟨0, 0, none⟩ ⟨0, 0, none⟩ n n c d 0 (0, 0) (0, 0) [] (smLen false)) Try.prog hmix hk0 rfl 300 [_] _ 26 [(0, .sy 0), (1, .sy 50)] [(0, .sy 0), (1, .sy 50), (5, .clo (iv 0))] [(0, .slice a n c), (1, .slice b n d)] [(0, .slice a n c), (1, .slice b n d), (5, iv 0)] _ w1 (fun u => by kernel_rfl) rfl rfl hs1 hP1 hB1 _ ?_
  intro a2 w2 hs2 hb2
  have hb2' := hb1.trans (hb2.mono hb1.size)
  clear hb2 hs1 hP1 hB1
  refine wp_block ?_
  refine wp_loop (fun x w' => ∃ k : Nat, k ≤ n ∧ Tmps 26 [(0, .slice a n c), (1, .slice b n d), (5, iv k)] x ∧ Below w.heap.size w w' ∧ ∀ i, i < k → L[i]? = M[i]?) (fun x _ => n - (intOf (x.tmps.getD 5 undef)).toNat) ⟨0, Nat.zero_le _, hs2, hb2', fun i hi => by omega⟩ ?_
  rintro a3 w3 ⟨k, hk, hs3, hb3, hal⟩
  have hP3 := sm_kst _ _ hP (hb3.mono hB)
  have hB3 := Nat.le_trans hB hb3.size
  by_cases hkn : k < n
  · obtain ⟨a', rfl⟩ := hP.1.ex (by omega)
    obtain ⟨b', rfl⟩ := hP.2.ex (by omega)
    obtain ⟨x, hx⟩ : ∃ x, L[k]? = some x := ⟨L[k]'(by omega), by simp [show k < L.length by omega]⟩
    obtain ⟨y, hy⟩ : ∃ y, M[k]? = some y := ⟨M[k]'(by omega), by simp [show k < M.length by omega]⟩
    have hk1 : @KnownOK (smC B L M (some a') (some b') a' b' n n c d k x y [(31, .agg [.sy 5, .sy 6], .agg [.sy 9, .sy 10], decide (x = y))] (smLss true ++ smAt)) Try.prog := known_toldK 0 _ _ _ _ _ _ _ (fun _ h => by cases h) (fun z hz => by
        simp only [List.mem_cons, List.not_mem_nil, or_false] at hz
        subst hz
        exact pt_eqIs (p := x) (q := y) rfl rfl rfl) (fun z hz => (List.mem_append.1 hz).elim (sm_lss (decide_eq_true hkn) z) (fun h => by
          have := sm_at (B := B) (a' := a') (b' := b') (c := c) (d := d) hx hy (by omega) z h
          rw [← hlm, ← hn] at this
          exact this))
    have h3 : a3.tmps.getD 5 undef = iv k := hs3.tmps (5, iv k) (by simp)
    by_cases hxy : x = y
    · rw [decide_eq_true hxy] at hk1
      refine @code_T (smC B L M (some a') (some b') a' b' n n c d k x y [(31, .agg [.sy 5, .sy 6], .agg [.sy 9, .sy 10], true)] (smLss true ++ smAt)) Try.prog hmix hk1 rfl 300 _ 26 [(0, .sy 0), (1, .sy 50), (5, .sy 1)] .normal [(0, .sy 0), (1, .sy 50), (5, .sy 2)] [(0, .slice (some a') n c), (1, .slice (some b') n d), (5, iv k)] [(0, .slice (some a') n c), (1, .slice (some b') n d), (5, iv (k + 1 : Nat))] _ w3 (fun u => by kernel_rfl) rfl rfl hs3 hP3 hB3 _ ?_
      intro a4 w4 hs4 hb4
      refine ⟨⟨k + 1, by omega, hs4, hb3.trans (hb4.mono hb3.size), fun i hi => ?_⟩, ?_⟩
      · by_cases hik : i = k
        · subst hik; rw [hx, hy, hxy]
        · exact hal i (by omega)
      · have h4 : a4.tmps.getD 5 undef = iv (k + 1 : Nat) := hs4.tmps (5, iv (k + 1 : Nat)) (by simp)
        rw [h3, h4]
        simp only [intOf]; omega
    · rw [decide_eq_false hxy] at hk1
      refine @code_T (smC B L M (some a') (some b') a' b' n n c d k x y [(31, .agg [.sy 5, .sy 6], .agg [.sy 9, .sy 10], false)] (smLss true ++ smAt)) Try.prog hmix hk1 rfl 300 _ 26 [(0, .sy 0), (1, .sy 50), (5, .sy 1)] .ret [(4, .clo (.bool false))] [(0, .slice (some a') n c), (1, .slice (some b') n d), (5, iv k)] [(4, .bool false)] _ w3 (fun u => by kernel_rfl) rfl rfl hs3 hP3 hB3 _ ?_
      intro a4 w4 hs4 hb4
      have h4 : a4.tmps.getD 4 undef = .bool false := hs4.tmps (4, .bool false) (by simp)
      have hr : decide (L = M) = false := decide_eq_false fun h => hxy (by
        rw [h, hy] at hx; exact (Option.some.inj hx).symm)
      rw [Array.getD_eq_getD_getElem?] at h4
      simp only [Ex.to, Exit.then, Exit.inBlock]
      rw [hr]
      simp [bodyPost, results, Try.results11, go_sem, h4]
      exact ⟨hs4.defers, hb3.trans (hb4.mono hb3.size)⟩
  · have hk1 : @KnownOK (smC B L M a b ⟨0, 0, none⟩ ⟨0, 0, none⟩ n n c d k (0, 0) (0, 0) [] (smLss false)) Try.prog := known_toldK 0 _ _ _ _ _ _ _ (fun _ h => by cases h) (fun _ h => by cases h) (sm_lss (decide_eq_false hkn))
    refine @code_T (smC B L M a b ⟨0, 0, none⟩ ⟨0, 0, none⟩ n n c d k (0, 0) (0, 0) [] (smLss false)) Try.prog hmix hk1 rfl 300 _ 26 [(0, .sy 0), (1, .sy 50), (5, .sy 1)] (.exit 0) [(0, .sy 0)] [(0, .slice a n c), (1, .slice b n d), (5, iv k)] [(0, .slice a n c)] _ w3 (fun u => by kernel_rfl) rfl rfl hs3 hP3 hB3 _ ?_
    intro a4 w4 hs4 hb4
    have hb4' := hb3.trans (hb4.mono hb3.size)
    have hP4 := sm_kst _ _ hP (hb4'.mono hB)
    have hB4 := Nat.le_trans hB hb4'.size
    simp only [Ex.to, Exit.then, Exit.inBlock, if_true]
    refine @code_T (smC B L M a b ⟨0, 0, none⟩ ⟨0, 0, none⟩ n n c d k (0, 0) (0, 0) [] (smLss false)) Try.prog hmix hk1 rfl 300 _ 26 [(0, .sy 0)] .ret [(4, .clo (.bool true))] [(0, .slice a n c)] [(4, .bool true)] _ w4 (fun u => by kernel_rfl) rfl rfl hs4 hP4 hB4 _ ?_
    intro a5 w5 hs5 hb5
    have h4 : a5.tmps.getD 4 undef = .bool true := hs5.tmps (4, .bool true) (by simp)
    have hr : decide (L = M) = true := decide_eq_true (List.ext_getElem? fun i => by
      by_cases hi : i < n
      · exact hal i (by omega)
      · rw [List.getElem?_eq_none (by omega), List.getElem?_eq_none (by omega)])
    rw [Array.getD_eq_getD_getElem?] at h4
    simp only [Ex.to]
    rw [hr]
    simp [bodyPost, results, Try.results11, go_sem, h4]
    exact ⟨hs5.defers, hb4'.trans (hb5.mono hb4'.size)⟩
end Go.Proofs.Ytbdlbcnjbafloaa
