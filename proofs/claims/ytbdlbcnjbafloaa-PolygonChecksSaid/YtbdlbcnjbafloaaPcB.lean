/- Layer 5 (polygon): Check of the reference. -/
import Derived.Test.YtbdlbcnjbafloaaPcA
import Derived.Test.YtbdlbcnjbafloaaTkE
namespace Go.Proofs.Ytbdlbcnjbafloaa
open Go.RowKit Go.Ev
set_option maxRecDepth 100000
theorem hmix : Try.prog.follows .mixedOrders = true := by kernel_rfl
abbrev intSym (k : IntKind) (n : Int) : Sym := ⟨.int k n, rfl, fun _ h => by cases h⟩
abbrev slSym (a : Option Addr) (n c : Nat) : Sym := ⟨.slice a n c, rfl, fun _ h => by cases h⟩
abbrev ptSym (a : Addr) : Sym := ⟨.pointer (some a), rfl, fun _ h => by cases h⟩
/-- An allowed point. -/
def alw (p : Pt) : Bool := decide (-1000000 ≤ p.1) && (decide (p.1 ≤ 1000000) && (decide (-1000000 ≤ p.2) && decide (p.2 ≤ 1000000)))
abbrev alSym (p : Pt) : Tm → Sym
  | .v 0 => intSym .i64 p.1
  | .v 1 => intSym .i64 p.2
  | _ => intSym .i64 0
abbrev alOps (a b c d : Bool) : List KOp := [(.bin .geq 3, [.sy 0, .clo (iv (-1000000))], .clo (.bool a)), (.bin .leq 3, [.sy 0, .clo (iv 1000000)], .clo (.bool b)), (.bin .geq 3, [.sy 1, .clo (iv (-1000000))], .clo (.bool c)), (.bin .leq 3, [.sy 1, .clo (iv 1000000)], .clo (.bool d))]
theorem evAl (p : Pt) (a b c d : Bool) : resC (evalFn0 Try.prog (@evalC (toldK 0 (alSym p) [] [] (alOps a b c d) (fun _ => True) 0 (fun _ _ _ _ => trivial)) Try.prog 300 true) 0 17 [.agg [.sy 0, .sy 1]] ⟨0, []⟩) = some (.clo (.bool (a && (b && (c && d))))) := by
  cases a
  · kernel_rfl
  · cases b
    · kernel_rfl
    · cases c
      · kernel_rfl
      · cases d <;> kernel_rfl
theorem allowed_any (p : Pt) (w : World) : Calls Try.prog 17 #[.agg #[iv p.1, iv p.2]] w fun e w' => e = .returned (.bool (alw p)) ∧ Below w.heap.size w w' := by
  refine calls_toldR hmix (alSym p) [] [] (alOps (decide (-1000000 ≤ p.1)) (decide (p.1 ≤ 1000000)) (decide (-1000000 ≤ p.2)) (decide (p.2 ≤ 1000000))) (fun _ => True) 0 (fun _ _ _ _ => trivial) (fun _ h => by cases h) (fun _ h => by cases h) ?_ (args := [.agg [.sy 0, .sy 1]]) (xs := [.agg #[iv p.1, iv p.2]]) rfl _ (evAl p _ _ _ _) rfl w trivial (Nat.zero_le _)
  intro z hz
  simp only [alOps, List.mem_cons, List.not_mem_nil, or_false] at hz
  rcases hz with rfl | rfl | rfl | rfl
  · exact ⟨[iv p.1, iv (-1000000)], _, rfl, rfl, tells_geq rfl⟩
  · exact ⟨[iv p.1, iv 1000000], _, rfl, rfl, tells_leq rfl⟩
  · exact ⟨[iv p.2, iv (-1000000)], _, rfl, rfl, tells_geq rfl⟩
  · exact ⟨[iv p.2, iv 1000000], _, rfl, rfl, tells_leq rfl⟩
/-- What Check answers. -/
noncomputable def checkF (L : List Pt) : Int :=
  if 64 < L.length then 7 else if L.length < 3 then 1 else if L.all alw = false then 6 else if ∃ k, k < L.length ∧ L[k]? = L[(k + 1) % L.length]? then 5 else 0
abbrev ckSym (a : Option Addr) (a' : Addr) (n c k j : Nat) (p q : Pt) : Tm → Sym
  | .v 0 => slSym a n c
  | .v 1 => intSym .i64 k
  | .v 2 => intSym .i64 (k + 1 : Nat)
  | .v 3 => intSym .i64 n
  | .v 4 => ptSym (a'.add (k * 2))
  | .v 5 => intSym .i64 p.1
  | .v 6 => intSym .i64 p.2
  | .v 7 => intSym .i64 j
  | .v 8 => ptSym (a'.add (j * 2))
  | .v 9 => intSym .i64 q.1
  | .v 10 => intSym .i64 q.2
  | _ => intSym .i64 0
abbrev ckLen (a b : Bool) : List KOp := [(.ln 23, [.sy 0], .sy 3), (.bin .gtr 3, [.sy 3, .clo (iv 64)], .clo (.bool a)), (.bin .lss 3, [.sy 3, .clo (iv 3)], .clo (.bool b))]
abbrev ckLss (m : Bool) : List KOp := [(.ln 23, [.sy 0], .sy 3), (.bin .lss 3, [.sy 1, .sy 3], .clo (.bool m))]
abbrev ckAt : List KOp := [(.ixa 23, [.sy 0, .sy 1], .sy 4), (.ld 31, [.sy 4], .agg [.sy 5, .sy 6]), (.bin .add 3, [.sy 1, .clo (iv 1)], .sy 2)]
theorem ck_len {a : Option Addr} {a' : Addr} {n c k j : Nat} {p q : Pt} {K : World → Prop} : ∀ r ∈ ckLen (decide (64 < n)) (decide (n < 3)), OpAt Try.prog (ckSym a a' n c k j p q) K r := by
  intro r hr
  simp only [ckLen, List.mem_cons, List.not_mem_nil, or_false] at hr
  rcases hr with rfl | rfl | rfl
  · exact OpIs.at ⟨[.slice a n c], iv n, rfl, rfl, tells_ln (e := 31) (by kernel_rfl)⟩ K
  · exact OpIs.at ⟨[iv n, iv 64], _, rfl, rfl, tells_gtr (by rw [decide_eq_decide]; omega)⟩ K
  · exact OpIs.at ⟨[iv n, iv 3], _, rfl, rfl, tells_lss (by rw [decide_eq_decide]; omega)⟩ K
theorem check_early (L : List Pt) (a : Option Addr) (c : Nat) (h : 64 < L.length ∨ L.length < 3) (w : World) : Calls Try.prog 7 #[.slice a L.length c] w fun e w' => e = .returned (iv (checkF L)) ∧ Below w.heap.size w w' := by
  have hev : ∀ (x y : Bool) (n : Nat), (x || y) = true → resC (evalFn0 Try.prog (@evalC (toldK 0 (ckSym a ⟨0, 0, none⟩ n c 0 0 (0, 0) (0, 0)) [] [] (ckLen x y) (fun _ => True) 0 (fun _ _ _ _ => trivial)) Try.prog 300 true) 0 7 [.sy 0] ⟨0, []⟩) = some (.clo (iv (cond x 7 1))) := by
    intro x y n hxy
    cases x
    · cases y
      · cases hxy
      · kernel_rfl
    · kernel_rfl
  refine calls_toldM hmix (ckSym a ⟨0, 0, none⟩ L.length c 0 0 (0, 0) (0, 0)) [] [] (ckLen (decide (64 < L.length)) (decide (L.length < 3))) (fun _ => True) 0 (fun _ _ _ _ => trivial) (fun _ h => by cases h) (fun _ h => by cases h) ck_len (args := [.sy 0]) (xs := [.slice a L.length c]) rfl _ (hev _ _ _ (by simpa using h)) ?_ w trivial (Nat.zero_le _)
  unfold checkF
  by_cases h1 : 64 < L.length
  · rw [if_pos h1, decide_eq_true h1]; rfl
  · rw [if_neg h1, decide_eq_false h1, if_pos (h.resolve_left h1)]; rfl

abbrev ptV (p : Pt) : Value := .agg #[iv p.1, iv p.2]
theorem eqPt0 (p q : Pt) (w : World) : (Op.equalIn 10000 31 (ptV p) (ptV q)).run Try.prog w = .ok (decide (p = q)) w := by
  obtain ⟨a, b⟩ := p
  obtain ⟨c, d⟩ := q
  have u4 := Try.underlying3
  have hS : Try.prog.underlying 31 = some (.struct (Try.prog.fieldsOf 31)) := by kernel_rfl
  have hp : Try.prog.stoodInHeld 31 = false := by kernel_rfl
  rw [show (10000 : Nat) = 9999 + 1 from rfl, run_equalIn_agg w 9999 31 _ _ hS hp]
  simp only [Program.fieldsOf, Try.underlying31]
  go_simp
  by_cases h1 : a = c <;> by_cases h2 : b = d <;> simp [h1, h2]
theorem pt_eqIs {sym : Tm → Sym} {x y : CV} {p q : Pt} (hx : @den (told sym [] []) (fun _ => none) x = some (ptV p)) (hy : @den (told sym [] []) (fun _ => none) y = some (ptV q)) {r : Bool} (hr : decide (p = q) = r) : EqIs Try.prog sym (31, x, y, r) := by
  subst hr
  exact ⟨ptV p, ptV q, hx, hy, fun w xo yo => ⟨run_eqGuard_agg _ _ _ _ _ _ _ (by kernel_rfl), run_eqGuard_agg _ _ _ _ _ _ _ (by kernel_rfl)⟩,
    fun w => ⟨by rw [run_eql_struct, eqPt0]; rfl, by rw [run_neq_struct, eqPt0]; rfl⟩⟩
abbrev nxOps : List KOp := [(.bin .add 3, [.sy 1, .clo (iv 1)], .sy 2), (.ln 23, [.sy 0], .sy 3), (.bin .rem 3, [.sy 2, .sy 3], .sy 7)]
theorem evNx (a : Option Addr) (a' : Addr) (n c k j : Nat) (p q : Pt) : resC (evalFn0 Try.prog (@evalC (toldK 0 (ckSym a a' n c k j p q) [] [] nxOps (fun _ => True) 0 (fun _ _ _ _ => trivial)) Try.prog 300 true) 0 23 [.sy 0, .sy 1] ⟨0, []⟩) = some (.sy 7) := by kernel_rfl
theorem next_any (a : Option Addr) (n c k : Nat) (h0 : 0 < n) (hk : k < 1000000) (hn : n < 1000000) (w : World) : Calls Try.prog 23 #[.slice a n c, iv k] w fun e w' => e = .returned (iv ((k + 1) % n : Nat)) ∧ Below w.heap.size w w' := by
  refine calls_toldR hmix (ckSym a ⟨0, 0, none⟩ n c k ((k + 1) % n) (0, 0) (0, 0)) [] [] nxOps (fun _ => True) 0 (fun _ _ _ _ => trivial) (fun _ h => by cases h) (fun _ h => by cases h) ?_ (args := [.sy 0, .sy 1]) (xs := [.slice a n c, iv k]) rfl _ (evNx _ _ _ _ _ _ _ _) rfl w trivial (Nat.zero_le _)
  intro z hz
  simp only [nxOps, List.mem_cons, List.not_mem_nil, or_false] at hz
  rcases hz with rfl | rfl | rfl
  · exact ⟨[iv k, iv 1], iv (k + 1 : Nat), rfl, rfl, tells_add (by rw [IntKind.wrap_i64]; omega)⟩
  · exact ⟨[.slice a n c], iv n, rfl, rfl, tells_ln (e := 31) (by kernel_rfl)⟩
  · exact ⟨[iv (k + 1 : Nat), iv n], iv ((k + 1) % n : Nat), rfl, rfl, tells_rem (by omega) (by rw [Int.tmod_eq_emod_of_nonneg (by omega)]; omega)⟩
/-- The worlds in which the points lie. -/
abbrev ptsK (B : Nat) (L : List Pt) (a : Option Addr) (w : World) : Prop := PtsAt B L a w
theorem pts_kst {B : Nat} {L : List Pt} {a : Option Addr} : ∀ w w', ptsK B L a w → Below B w w' → ptsK B L a w' := fun _ _ h hb => h.below hb (Nat.le_refl _)
abbrev ckC (B : Nat) (L : List Pt) (a : Option Addr) (a' : Addr) (n c k j : Nat) (p q : Pt) (lc : List KCall) (le : List KEq) (lv : List KOp) : Ctxt := toldK 0 (ckSym a a' n c k j p q) lc le lv (ptsK B L a) B pts_kst
theorem ck_at {B : Nat} {L : List Pt} {a' : Addr} {c k j : Nat} {p q : Pt} (hk : k < L.length) (hp : L[k]? = some p) (h64 : L.length ≤ 64) : ∀ r ∈ ckAt, OpAt Try.prog (ckSym (some a') a' L.length c k j p q) (ptsK B L (some a')) r := by
  intro r hr
  simp only [ckAt, List.mem_cons, List.not_mem_nil, or_false] at hr
  rcases hr with rfl | rfl | rfl
  · exact OpIs.at ⟨[.slice (some a') L.length c, iv k], .pointer (some (a'.add (k * 2))), rfl, rfl, tells_ixa (e := 31) (by kernel_rfl) (by kernel_rfl) hk⟩ _
  · exact ⟨[.pointer (some (a'.add (k * 2)))], .agg #[iv p.1, iv p.2], rfl, rfl, PtsAt.ld (by kernel_rfl) (by kernel_rfl) (fun w hw => hw) hp⟩
  · exact OpIs.at ⟨[iv k, iv 1], iv (k + 1 : Nat), rfl, rfl, tells_add (by rw [IntKind.wrap_i64]; omega)⟩ _
theorem ck_lss {B : Nat} {L : List Pt} {a' : Addr} {c k j : Nat} {p q : Pt} : ∀ r ∈ ckLss (decide (k < L.length)), OpAt Try.prog (ckSym (some a') a' L.length c k j p q) (ptsK B L (some a')) r := by
  intro r hr
  simp only [ckLss, List.mem_cons, List.not_mem_nil, or_false] at hr
  rcases hr with rfl | rfl
  · exact OpIs.at ⟨[.slice (some a') L.length c], iv L.length, rfl, rfl, tells_ln (e := 31) (by kernel_rfl)⟩ _
  · exact OpIs.at ⟨[iv k, iv L.length], _, rfl, rfl, tells_lss (by rw [decide_eq_decide]; omega)⟩ _
abbrev ckAtJ : List KOp := [(.ixa 23, [.sy 0, .sy 7], .sy 8), (.ld 31, [.sy 8], .agg [.sy 9, .sy 10])]
theorem ck_atJ {B : Nat} {L : List Pt} {a' : Addr} {c k j : Nat} {p q : Pt} (hk : j < L.length) (hp : L[j]? = some q) : ∀ r ∈ ckAtJ, OpAt Try.prog (ckSym (some a') a' L.length c k j p q) (ptsK B L (some a')) r := by
  intro r hr
  simp only [ckAtJ, List.mem_cons, List.not_mem_nil, or_false] at hr
  rcases hr with rfl | rfl
  · exact OpIs.at ⟨[.slice (some a') L.length c, iv j], .pointer (some (a'.add (j * 2))), rfl, rfl, tells_ixa (e := 31) (by kernel_rfl) (by kernel_rfl) hk⟩ _
  · exact ⟨[.pointer (some (a'.add (j * 2)))], .agg #[iv q.1, iv q.2], rfl, rfl, PtsAt.ld (by kernel_rfl) (by kernel_rfl) (fun w hw => hw) hp⟩
theorem rCheck_loops (B : Nat) (L : List Pt) (a' : Addr) (c : Nat) (h1 : L.length ≤ 64) (h2 : 3 ≤ L.length) (w : World) (hP : PtsAt B L (some a') w) (hB : B ≤ w.heap.size) :
    Calls Try.prog 7 #[.slice (some a') L.length c] w fun e w' => e = .returned (iv (checkF L)) ∧ Below w.heap.size w w' := by
  obtain ⟨n, hn⟩ : ∃ n, n = L.length := ⟨_, rfl⟩
  rw [← hn]
  have hkn0 : @KnownOK (ckC B L (some a') a' n c 0 0 (0, 0) (0, 0) [] [] (ckLen false false)) Try.prog := known_toldK 0 _ _ _ _ _ _ _ (fun _ h => by cases h) (fun _ h => by cases h) (by
    have := @ck_len (some a') a' n c 0 0 (0, 0) (0, 0) (ptsK B L (some a'))
    rw [decide_eq_false (by omega), decide_eq_false (by omega)] at this
    exact this)
  go_enter Try.func7, Try.ntmps7
  refine @code_TL (ckC B L (some a') a' n c 0 0 (0, 0) (0, 0) [] [] (ckLen false false)) Try.prog hmix hkn0 rfl 300 [_, _, _] _ 40 [(0, .sy 0)] [(0, .sy 0)] [(0, .slice (some a') n c)] [(0, .slice (some a') n c)] _ w (fun u => by kernel_rfl) rfl rfl ⟨rfl, rfl, fun x hx => by simp at hx; subst hx; rfl⟩ hP hB _ ?_
  intro a1 w1 hs1 hb1
  have hP1 := hP.below hb1 hB
  have hB1 := Nat.le_trans hB hb1.size
  refine wp_seq ?_
  refine @code_TL (ckC B L (some a') a' n c 0 0 (0, 0) (0, 0) [] [] (ckLen false false)) Try.prog hmix hkn0 rfl 300 [_] _ 40 [(0, .sy 0)] [(0, .sy 0), (3, .clo (iv 0))] [(0, .slice (some a') n c)] [(0, .slice (some a') n c), (3, iv 0)] _ w1 (fun u => by kernel_rfl) rfl rfl hs1 hP1 hB1 _ ?_
  intro a2 w2 hs2 hb2
  have hb2' := hb1.trans (hb2.mono hb1.size)
  clear hb2 hs1 hP1 hB1
  refine wp_block ?_
  refine wp_loop (fun a w' => ∃ k : Nat, k ≤ n ∧ Tmps 40 [(0, .slice (some a') n c), (3, iv k)] a ∧ Below w.heap.size w w' ∧ ∀ i p, i < k → L[i]? = some p → alw p = true) (fun a _ => n - (intOf (a.tmps.getD 3 undef)).toNat) ⟨0, Nat.zero_le _, hs2, hb2', fun i p hi => by omega⟩ ?_
  rintro a3 w3 ⟨k, hk, hs3, hb3, hal⟩
  have hP3 := hP.below hb3 hB
  have hB3 := Nat.le_trans hB hb3.size
  by_cases hkn : k < n
  · obtain ⟨p, hp⟩ : ∃ p, L[k]? = some p := ⟨L[k]'(by omega), by simp [show k < L.length by omega]⟩
    have hkn1 : @KnownOK (ckC B L (some a') a' n c k 0 p (0, 0) [(17, [.agg [.sy 5, .sy 6]], .clo (.bool (alw p)))] [] (ckLss true ++ ckAt)) Try.prog := known_toldK 0 _ _ _ _ _ _ _ (fun z hz => by
        simp only [List.mem_cons, List.not_mem_nil, or_false] at hz
        subst hz
        exact ⟨[.agg #[iv p.1, iv p.2]], _, rfl, rfl, fun w _ => allowed_any p w⟩) (fun _ h => by cases h) (fun z hz => (List.mem_append.1 hz).elim (fun h => by
          have := @ck_lss B L a' c k 0 p (0, 0) z
          rw [← hn, decide_eq_true hkn] at this
          exact this h) (fun h => by
          have := @ck_at B L a' c k 0 p (0, 0) (by omega) hp h1 z h
          rw [← hn] at this
          exact this))
    have h3 : a3.tmps.getD 3 undef = iv k := hs3.tmps (3, iv k) (by simp)
    cases hA : alw p
    · rw [hA] at hkn1
      refine @code_T (ckC B L (some a') a' n c k 0 p (0, 0) [(17, [.agg [.sy 5, .sy 6]], .clo (.bool false))] [] (ckLss true ++ ckAt)) Try.prog hmix hkn1 rfl 300 _ 40 [(0, .sy 0), (3, .sy 1)] .ret [(2, .clo (iv 6))] [(0, .slice (some a') n c), (3, iv k)] [(2, iv 6)] _ w3 (fun u => by kernel_rfl) rfl rfl hs3 hP3 hB3 _ ?_
      intro a4 w4 hs4 hb4
      have h4 : a4.tmps.getD 2 undef = iv 6 := hs4.tmps (2, iv 6) (by simp)
      have hr : checkF L = 6 := by
        unfold checkF
        rw [if_neg (by omega), if_neg (by omega), if_pos]
        rw [List.all_eq_false]
        exact ⟨p, List.mem_of_getElem? hp, by rw [hA]; decide⟩
      rw [Array.getD_eq_getD_getElem?] at h4
      simp only [Ex.to, Exit.then, Exit.inBlock]
      simp [bodyPost, results, Try.results7, go_sem, h4, hr]
      exact ⟨hs4.defers, hb3.trans (hb4.mono hb3.size)⟩
    · rw [hA] at hkn1
      refine @code_T (ckC B L (some a') a' n c k 0 p (0, 0) [(17, [.agg [.sy 5, .sy 6]], .clo (.bool true))] [] (ckLss true ++ ckAt)) Try.prog hmix hkn1 rfl 300 _ 40 [(0, .sy 0), (3, .sy 1)] .normal [(0, .sy 0), (3, .sy 2)] [(0, .slice (some a') n c), (3, iv k)] [(0, .slice (some a') n c), (3, iv (k + 1 : Nat))] _ w3 (fun u => by kernel_rfl) rfl rfl hs3 hP3 hB3 _ ?_
      intro a4 w4 hs4 hb4
      refine ⟨⟨k + 1, by omega, hs4, hb3.trans (hb4.mono hb3.size), fun i p' hi hp' => ?_⟩, ?_⟩
      · by_cases hik : i = k
        · subst hik; rw [hp] at hp'; cases hp'; exact hA
        · exact hal i p' (by omega) hp'
      · have h4 : a4.tmps.getD 3 undef = iv (k + 1 : Nat) := hs4.tmps (3, iv (k + 1 : Nat)) (by simp)
        rw [h3, h4]
        simp only [intOf]; omega
  · have hkn1 : @KnownOK (ckC B L (some a') a' n c k 0 (0, 0) (0, 0) [] [] (ckLss false)) Try.prog := known_toldK 0 _ _ _ _ _ _ _ (fun _ h => by cases h) (fun _ h => by cases h) (fun z hz => by
          have := @ck_lss B L a' c k 0 (0, 0) (0, 0) z
          rw [← hn, decide_eq_false hkn] at this
          exact this hz)
    refine @code_T (ckC B L (some a') a' n c k 0 (0, 0) (0, 0) [] [] (ckLss false)) Try.prog hmix hkn1 rfl 300 _ 40 [(0, .sy 0), (3, .sy 1)] (.exit 0) [(0, .sy 0)] [(0, .slice (some a') n c), (3, iv k)] [(0, .slice (some a') n c)] _ w3 (fun u => by kernel_rfl) rfl rfl hs3 hP3 hB3 _ ?_
    intro a4 w4 hs4 hb4
    have hall : ¬ L.all alw = false := by
      rw [Bool.not_eq_false, List.all_eq_true]
      intro p hp
      obtain ⟨i, hi⟩ := List.getElem?_of_mem hp
      have hlt := (List.getElem?_eq_some_iff.1 hi).1
      exact hal i p (by omega) hi
    have hb4' := hb3.trans (hb4.mono hb3.size)
    have hP4 := hP.below hb4' hB
    have hB4 := Nat.le_trans hB hb4'.size
    simp only [Ex.to, Exit.then, Exit.inBlock, if_true]
    clear hb4 hs3 hb3 hP3 hB3 hal hk hkn
    refine wp_seq ?_
    refine @code_TL (ckC B L (some a') a' n c 0 0 (0, 0) (0, 0) [] [] (ckLen false false)) Try.prog hmix hkn0 rfl 300 [_] _ 40 [(0, .sy 0)] [(0, .sy 0), (4, .clo (iv 0))] [(0, .slice (some a') n c)] [(0, .slice (some a') n c), (4, iv 0)] _ w4 (fun u => by kernel_rfl) rfl rfl hs4 hP4 hB4 _ ?_
    intro a5 w5 hs5 hb5
    have hb5' := hb4'.trans (hb5.mono hb4'.size)
    clear hb5 hs4 hP4 hB4 hb4'
    refine wp_block ?_
    refine wp_loop (fun a w' => ∃ k : Nat, k ≤ n ∧ Tmps 40 [(0, .slice (some a') n c), (4, iv k)] a ∧ Below w.heap.size w w' ∧ ∀ i, i < k → L[i]? ≠ L[(i + 1) % n]?) (fun a _ => n - (intOf (a.tmps.getD 4 undef)).toNat) ⟨0, Nat.zero_le _, hs5, hb5', fun i hi => by omega⟩ ?_
    rintro a6 w6 ⟨k, hk, hs6, hb6, hal⟩
    have hP6 := hP.below hb6 hB
    have hB6 := Nat.le_trans hB hb6.size
    by_cases hkn : k < n
    · have hj : (k + 1) % n < n := Nat.mod_lt _ (by omega)
      obtain ⟨p, hp⟩ : ∃ p, L[k]? = some p := ⟨L[k]'(by omega), by simp [show k < L.length by omega]⟩
      obtain ⟨q, hq⟩ : ∃ q, L[(k + 1) % n]? = some q := ⟨L[(k + 1) % n]'(by omega), by simp [show (k + 1) % n < L.length by omega]⟩
      obtain ⟨j, hjj⟩ : ∃ j, j = (k + 1) % n := ⟨_, rfl⟩
      have hkn1 : @KnownOK (ckC B L (some a') a' n c k j p q [(23, [.sy 0, .sy 1], .sy 7)] [(31, .agg [.sy 5, .sy 6], .agg [.sy 9, .sy 10], decide (p = q))] (ckLss true ++ (ckAt ++ ckAtJ))) Try.prog := known_toldK 0 _ _ _ _ _ _ _ (fun z hz => by
          simp only [List.mem_cons, List.not_mem_nil, or_false] at hz
          subst hz
          refine ⟨[.slice (some a') n c, iv k], iv j, rfl, rfl, fun w _ => ?_⟩
          rw [hjj]
          exact next_any (some a') n c k (by omega) (by omega) (by omega) w) (fun z hz => by
          simp only [List.mem_cons, List.not_mem_nil, or_false] at hz
          subst hz
          exact pt_eqIs (p := p) (q := q) rfl rfl rfl) (fun z hz => (List.mem_append.1 hz).elim (fun h => by
            have := @ck_lss B L a' c k j p q z
            rw [← hn, decide_eq_true hkn] at this
            exact this h) (fun h => (List.mem_append.1 h).elim (fun h => by
            have := @ck_at B L a' c k j p q (by omega) hp h1 z h
            rw [← hn] at this
            exact this) fun h => by
            have := @ck_atJ B L a' c k j p q (by omega) (by rw [hjj]; exact hq) z h
            rw [← hn] at this
            exact this))
      have h3 : a6.tmps.getD 4 undef = iv k := hs6.tmps (4, iv k) (by simp)
      by_cases hA : p = q
      · rw [decide_eq_true hA] at hkn1
        refine @code_T (ckC B L (some a') a' n c k j p q [(23, [.sy 0, .sy 1], .sy 7)] [(31, .agg [.sy 5, .sy 6], .agg [.sy 9, .sy 10], true)] (ckLss true ++ (ckAt ++ ckAtJ))) Try.prog hmix hkn1 rfl 300 _ 40 [(0, .sy 0), (4, .sy 1)] .ret [(2, .clo (iv 5))] [(0, .slice (some a') n c), (4, iv k)] [(2, iv 5)] _ w6 (fun u => by kernel_rfl) rfl rfl hs6 hP6 hB6 _ ?_
        intro a7 w7 hs7 hb7
        have h4 : a7.tmps.getD 2 undef = iv 5 := hs7.tmps (2, iv 5) (by simp)
        have hr : checkF L = 5 := by
          unfold checkF
          rw [if_neg (by omega), if_neg (by omega), if_neg hall, if_pos ⟨k, by omega, by rw [← hn, hp, hq, hA]⟩]
        rw [Array.getD_eq_getD_getElem?] at h4
        simp only [Ex.to, Exit.then, Exit.inBlock]
        simp [bodyPost, results, Try.results7, go_sem, h4, hr]
        exact ⟨hs7.defers, hb6.trans (hb7.mono hb6.size)⟩
      · rw [decide_eq_false hA] at hkn1
        refine @code_T (ckC B L (some a') a' n c k j p q [(23, [.sy 0, .sy 1], .sy 7)] [(31, .agg [.sy 5, .sy 6], .agg [.sy 9, .sy 10], false)] (ckLss true ++ (ckAt ++ ckAtJ))) Try.prog hmix hkn1 rfl 300 _ 40 [(0, .sy 0), (4, .sy 1)] .normal [(0, .sy 0), (4, .sy 2)] [(0, .slice (some a') n c), (4, iv k)] [(0, .slice (some a') n c), (4, iv (k + 1 : Nat))] _ w6 (fun u => by kernel_rfl) rfl rfl hs6 hP6 hB6 _ ?_
        intro a7 w7 hs7 hb7
        refine ⟨⟨k + 1, by omega, hs7, hb6.trans (hb7.mono hb6.size), fun i hi => ?_⟩, ?_⟩
        · by_cases hik : i = k
          · subst hik
            rw [hp, hq]
            exact fun h => hA (Option.some.inj h)
          · exact hal i (by omega)
        · have h4 : a7.tmps.getD 4 undef = iv (k + 1 : Nat) := hs7.tmps (4, iv (k + 1 : Nat)) (by simp)
          rw [h3, h4]
          simp only [intOf]; omega
    · have hkn1 : @KnownOK (ckC B L (some a') a' n c k 0 (0, 0) (0, 0) [] [] (ckLss false)) Try.prog := known_toldK 0 _ _ _ _ _ _ _ (fun _ h => by cases h) (fun _ h => by cases h) (fun z hz => by
            have := @ck_lss B L a' c k 0 (0, 0) (0, 0) z
            rw [← hn, decide_eq_false hkn] at this
            exact this hz)
      refine @code_T (ckC B L (some a') a' n c k 0 (0, 0) (0, 0) [] [] (ckLss false)) Try.prog hmix hkn1 rfl 300 _ 40 [(0, .sy 0), (4, .sy 1)] (.exit 2) [(0, .sy 0)] [(0, .slice (some a') n c), (4, iv k)] [(0, .slice (some a') n c)] _ w6 (fun u => by kernel_rfl) rfl rfl hs6 hP6 hB6 _ ?_
      intro a7 w7 hs7 hb7
      have hb7' := hb6.trans (hb7.mono hb6.size)
      have hP7 := hP.below hb7' hB
      have hB7 := Nat.le_trans hB hb7'.size
      simp only [Ex.to, Exit.then, Exit.inBlock, if_true]
      refine @code_T (ckC B L (some a') a' n c k 0 (0, 0) (0, 0) [] [] (ckLss false)) Try.prog hmix hkn1 rfl 300 _ 40 [(0, .sy 0)] .ret [(2, .clo (iv 0))] [(0, .slice (some a') n c)] [(2, iv 0)] _ w7 (fun u => by kernel_rfl) rfl rfl hs7 hP7 hB7 _ ?_
      intro a8 w8 hs8 hb8
      have h4 : a8.tmps.getD 2 undef = iv 0 := hs8.tmps (2, iv 0) (by simp)
      have hr : checkF L = 0 := by
        unfold checkF
        rw [if_neg (by omega), if_neg (by omega), if_neg hall, if_neg]
        rintro ⟨i, hi, he⟩
        exact hal i (by omega) (by rw [hn]; exact he)
      rw [Array.getD_eq_getD_getElem?] at h4
      simp only [Ex.to]
      simp [bodyPost, results, Try.results7, go_sem, h4, hr]
      exact ⟨hs8.defers, hb7'.trans (hb8.mono hb7'.size)⟩
end Go.Proofs.Ytbdlbcnjbafloaa
