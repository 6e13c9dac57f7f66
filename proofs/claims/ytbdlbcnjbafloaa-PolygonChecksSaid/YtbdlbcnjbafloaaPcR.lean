/- Layer 5 (polygon): the law PolygonChecks, for any list of points that it is given. -/
import Derived.Test.YtbdlbcnjbafloaaPcQ
namespace Go.Proofs.Ytbdlbcnjbafloaa
open Go.RowKit Go.Ev
set_option maxRecDepth 100000
/-- A row that a call has made, as a list that it is given. -/
theorem lsAt_pts {lst : Tm → List Value} {y : Tm} {M : List Pt} {p : Nat × Nat} {w : World} (hl : lst y = ptC M) (h : LsAt lst (y, tPt, 2) p w) : PtsAt (p.1 + 1) M (some ⟨p.1, 0, none⟩) w ∧ p.1 < w.heap.size := by
  obtain ⟨c, h1, h2, _⟩ := h
  simp only [hl] at h1 h2
  refine ⟨⟨fun _ => ⟨_, rfl⟩, fun b hb => ?_⟩, (Array.getElem?_eq_some_iff.1 h1).1⟩
  cases hb
  refine ⟨fun _ => Nat.lt_succ_self _, fun j x hx => ?_⟩
  have h4 : c.toList[j]? = some x := by
    rw [← h2, List.getElem?_take] at hx
    split at hx
    · exact hx
    · cases hx
  have h5 : c[j]? = some x := by simpa using h4
  rw [Addr.add_mid]
  simp [World.cell?, h1, h5]
/-- A maker of the points turned round. -/
theorem rv_cl {f : FuncId} {sym : Tm → Sym} {lst : Tm → List Value} {B : Nat} {L : List Pt} {a : Option Addr} {c : Nat} (hs : (sym (.v 0)).v = .slice a L.length c) (hn : asN (sym (.v 3)).v = some L.length) (hl : lst (.v 31) = ptC L.reverse)
    (hC : ∀ w, lwK B L a w → Calls Try.prog f #[.slice a L.length c] w fun e w' => Below w.heap.size w w' ∧ ∃ p : Nat × Nat, w.heap.size ≤ p.1 ∧ RowIs (ptC L.reverse) tPt 2 p w' ∧ e = .returned (.slice (some ⟨p.1, 0, none⟩) L.length p.2)) :
    ClIs Try.prog sym lst (lwK B L a) (f, [.sy 0], (fun b => .as b (.v 3)), [(.v 31, tPt, 2)]) := by
  refine ⟨rfl, fun w' xs hK hx => ?_⟩
  match xs, hx with
  | [x], hx =>
    obtain ⟨hx, _⟩ := hx
    have hx : x = (sym (.v 0)).v := hx
    rw [hs] at hx
    subst hx
    refine (hC w' hK).mono fun q w'' ⟨g1, p, g2, g3, g4⟩ => ⟨g1, [p], rfl, by simpa using g2, by simp, fun j p' b hp hb => ?_, .slice (some ⟨p.1, 0, none⟩) L.length p.2, fun e base => ?_, g4⟩
    · match j, hp, hb with
      | 0, hp, hb =>
        simp at hp hb; subst hp; subst hb
        show LsAt lst (.v 31, tPt, 2) p w''
        unfold LsAt
        simp only [hl]
        exact g3
    · have h5 : envL e base [p] base = some p := by
        unfold envL
        rw [if_pos (by simp)]; simp
      exact @den_asI (told sym [] []) (envL e base [p]) base (.v 3) p L.length h5 hn
theorem sm_cl {sym : Tm → Sym} {lst : Tm → List Value} {K : World → Prop} {L : List Pt} (h1 : L.length < 100000) (hn : asN (sym (.v 3)).v = some L.length) (hl : lst (.v 31) = ptC L.reverse) :
    ClIs Try.prog sym lst K (11, [.mo [.ab (.v 31) tPt 2] [.sy 3], .mo [.ab (.v 31) tPt 2] [.sy 3]], (fun _ => .clo (.bool true)), []) := by
  refine ⟨rfl, fun w' xs hK hx => ?_⟩
  match xs, hx with
  | [x, y], hx =>
    obtain ⟨⟨p, m, rfl, hm, hlp⟩, ⟨p', m', rfl, hm', hlp'⟩, _⟩ := hx
    have hm : m = L.length := by have := hn.symm.trans (hm : asN (sym (.v 3)).v = some m); cases this; rfl
    have hm' : m' = L.length := by have := hn.symm.trans (hm' : asN (sym (.v 3)).v = some m'); cases this; rfl
    subst hm; subst hm'
    obtain ⟨g1, g2⟩ := lsAt_pts hl hlp
    obtain ⟨g3, g4⟩ := lsAt_pts hl hlp'
    have := same_any w'.heap.size L.reverse L.reverse (some ⟨p.1, 0, none⟩) (some ⟨p'.1, 0, none⟩) p.2 p'.2 (by simpa using h1) w' ⟨⟨g1.ex, fun b hb => ⟨fun _ => by cases hb; exact g2, (g1.cell b hb).2⟩⟩, ⟨g3.ex, fun b hb => ⟨fun _ => by cases hb; exact g4, (g3.cell b hb).2⟩⟩⟩ (Nat.le_refl _)
    rw [List.length_reverse] at this
    refine this.mono fun q w'' ⟨e1, e2⟩ => ⟨e2, [], rfl, by simp, by simp, fun j p b hp => by simp at hp, .bool true, fun e base => rfl, by rw [e1]; simp⟩
theorem lw_few {n c : Nat} {a : Option Addr} {lo hi : Pt} {e s : Int} {K : World → Prop} {x y z : Bool} (hx : decide (n ≤ 16) = x) (hy : decide (64 < n) = y) (hz : decide (n ≤ 80) = z) : ∀ r ∈ lwFew x y z, OpAt Try.prog (lwSym a n c lo hi e s) K r := by
  intro r hr
  simp only [lwFew, List.mem_cons, List.not_mem_nil, or_false] at hr
  rcases hr with rfl | rfl | rfl | rfl
  · exact OpIs.at ⟨[.slice a n c], iv n, rfl, rfl, tells_ln (e := 31) (by kernel_rfl)⟩ K
  · exact OpIs.at ⟨[iv n, iv 16], _, rfl, rfl, tells_leq (by rw [← hx, decide_eq_decide]; omega)⟩ K
  · exact OpIs.at ⟨[iv n, iv 64], _, rfl, rfl, tells_gtr (by rw [← hy, decide_eq_decide]; omega)⟩ K
  · exact OpIs.at ⟨[iv n, iv 80], _, rfl, rfl, tells_leq (by rw [← hz, decide_eq_decide]; omega)⟩ K
theorem awk_at {sym : Tm → Sym} {K : World → Prop} : CallAt Try.prog sym K (5, [], .clo (.bool true)) := ⟨[], .bool true, rfl, rfl, fun w' _ => awake_any w'⟩
theorem lw_evFar (a : Option Addr) (n c : Nat) (x y z : Bool) (h : (x || y && z) = false) : resC (evalFn0 Try.prog (@evalC (toldK 0 (lwSym a n c (0, 0) (0, 0) 0 0) [(5, [], .clo (.bool true))] [] (lwFew x y z) (fun _ => True) 0 (fun _ _ _ _ => trivial)) Try.prog 300 true) 0 3 [.sy 0] ⟨0, []⟩) = some (.clo (.bool true)) := by
  cases x
  · cases y
    · cases z <;> kernel_rfl
    · cases z
      · kernel_rfl
      · cases h
  · cases h
/-- **The law PolygonChecks.** -/
theorem polygonChecks_any (B : Nat) (L : List Pt) (a : Option Addr) (c : Nat) (hnil : a = none → c = 0) (hi : inPts L) (w : World) (hP : PtsAt B L a w) (hB : B ≤ w.heap.size) :
    Calls Try.prog 3 #[.slice a L.length c] w fun e w' => e = .returned (.bool true) ∧ Below w.heap.size w w' := by
  match a, hnil, hP with
  | none, hnil, hP =>
    have hc := hnil rfl
    subst hc
    have hL : L.length = 0 := by
      rcases Nat.eq_zero_or_pos L.length with h | h
      · exact h
      · obtain ⟨_, h⟩ := hP.ex h
        cases h
    rw [hL]
    exact calls_toldM hmix (lwSym none 0 0 (0, 0) (0, 0) 0 0) [(5, [], .clo (.bool true))] [] [] (fun _ => True) 0 (fun _ _ _ _ => trivial) (fun z hz => by
      simp only [List.mem_cons, List.not_mem_nil, or_false] at hz
      subst hz
      exact awk_at) (fun _ h => by cases h) (fun _ h => by cases h) (args := [.clo (.slice none 0 0)]) (xs := [.slice none 0 0]) rfl _ lw_evNil rfl w trivial (Nat.zero_le _)
  | some a', _, hP =>
    by_cases hfew : (decide (L.length ≤ 16) || decide (64 < L.length) && decide (L.length ≤ 80)) = true
    case neg =>
      exact calls_toldM hmix (lwSym (some a') L.length c (0, 0) (0, 0) 0 0) [(5, [], .clo (.bool true))] [] (lwFew (decide (L.length ≤ 16)) (decide (64 < L.length)) (decide (L.length ≤ 80))) (fun _ => True) 0 (fun _ _ _ _ => trivial) (fun z hz => by
        simp only [List.mem_cons, List.not_mem_nil, or_false] at hz
        subst hz
        exact awk_at) (fun _ h => by cases h) (lw_few rfl rfl rfl) (args := [.sy 0]) (xs := [.slice (some a') L.length c]) rfl _ (lw_evFar _ _ _ _ _ _ (by simpa using hfew)) rfl w trivial (Nat.zero_le _)
    have h80 : L.length ≤ 80 := by
      simp only [Bool.or_eq_true, Bool.and_eq_true, decide_eq_true_eq] at hfew
      omega
    have hrC : ∀ w', lwK B L (some a') w' → Calls Try.prog 7 #[.slice (some a') L.length c] w' fun e w'' => e = .returned (iv (checkF L)) ∧ Below w'.heap.size w' w'' := fun w' hw => by
      by_cases he : 64 < L.length ∨ L.length < 3
      · exact check_early L (some a') c he w'
      · exact rCheck_loops B L a' c (by omega) (by omega) w' hw.1 hw.2
    have hvC : ∀ w', lwK B L (some a') w' → Calls Try.prog 24 #[.slice (some a') L.length c, .slice none 0 0] w' fun e w'' => e = .returned (iv (checkF L)) ∧ Below w'.heap.size w' w'' := fun w' hw => vcheck_all hi hw.1
    have hcl : ∀ (lo hi : Pt) (e s : Int), ∀ r ∈ (lwAbs L).cl, ClIs Try.prog (lwSym (some a') L.length c lo hi e s) (lwAbs L).lst (lwK B L (some a')) r := fun lo hi e s r hr => by
      simp only [List.mem_cons, List.not_mem_nil, or_false] at hr
      rcases hr with rfl | rfl | rfl
      · exact rv_cl rfl rfl rfl fun w' hw => prev_any B L a' c (by omega) w' hw.1
      · exact rv_cl rfl rfl rfl fun w' hw => rRev_any B L (some a') c (by omega) w' hw.1 hw.2
      · exact sm_cl (by omega) rfl rfl
    have hA : ∀ (lo hi : Pt) (e s : Int), (lwAbs L).OK Try.prog (lwSym (some a') L.length c lo hi e s) := fun lo hi e s => ⟨(fun _ h => by cases h), (fun _ h => by cases h), (fun _ h => by cases h), (fun _ h => by cases h), (fun _ h => by cases h)⟩
    by_cases h0 : checkF L = 0
    · have hr : ¬ 64 < L.length ∧ ¬ L.length < 3 := by
        unfold checkF at h0
        refine ⟨fun h => ?_, fun h => ?_⟩
        · rw [if_pos h] at h0; cases h0
        · rw [if_neg (by omega), if_pos h] at h0; cases h0
      rw [h0] at hrC hvC
      refine (calls_toldX hmix (lwSym (some a') L.length c (boS L L.length).1 (boS L L.length).2 0 (arS L L.length)) (lwAbs L) lwOK lwEq (lwFew (decide (L.length ≤ 16)) (decide (64 < L.length)) (decide (L.length ≤ 80)) ++ lwS) (lwK B L (some a')) B lw_kst (hA _ _ _ _) (hcl _ _ _ _) (fun z hz => ?_) (fun z hz => ?_) (fun z hz => ?_) (args := [.sy 0]) (xs := [.slice (some a') L.length c]) rfl _ [] [] (lw_evOK B L (some a') L.length c _ _ 0 _ _ _ _) w ⟨hP, hB⟩ hB).mono fun q w' ⟨hb, e', ⟨u, hu, hq⟩, _⟩ => ⟨?_, hb⟩
      · simp only [lwOK, List.mem_cons, List.not_mem_nil, or_false] at hz
        rcases hz with rfl | rfl | rfl | rfl | rfl | rfl | rfl
        · exact awk_at
        · exact ⟨[.slice (some a') L.length c], iv 0, rfl, rfl, hrC⟩
        · exact ⟨[.slice (some a') L.length c, .slice none 0 0], iv 0, rfl, rfl, hvC⟩
        · exact ⟨[.slice (some a') L.length c], iv (arS L L.length), rfl, rfl, fun w' hw => area2_any B L a' c (by omega) (by omega) w' hw.1 hw.2⟩
        · exact ⟨[.slice (some a') L.length c], iv (arS L L.length), rfl, rfl, fun w' hw => rArea2_any B L a' c (by omega) (by omega) w' hw.1 hw.2⟩
        · exact ⟨[.slice (some a') L.length c], _, rfl, rfl, fun w' hw => bounds_any B L a' c (by omega) (by omega) hi h0 w' hw.1 hw.2⟩
        · exact ⟨[.slice (some a') L.length c], _, rfl, rfl, fun w' hw => rBounds_any B L a' c (by omega) (by omega) w' hw.1 hw.2⟩
      · simp only [lwEq, List.mem_cons, List.not_mem_nil, or_false] at hz
        rcases hz with rfl | rfl
        · exact pt_eqIs (p := (boS L L.length).1) (q := (boS L L.length).1) rfl rfl (by simp)
        · exact pt_eqIs (p := (boS L L.length).2) (q := (boS L L.length).2) rfl rfl (by simp)
      · rcases List.mem_append.1 hz with hz | hz
        · exact lw_few rfl rfl rfl z hz
        · simp only [lwS, List.mem_cons, List.not_mem_nil, or_false] at hz
          subst hz
          exact OpIs.at ⟨[iv (arS L L.length), iv (arS L L.length)], _, rfl, rfl, tells_eql (by simp)⟩ _
      · subst hq
        cases hu
        rfl
    · refine (calls_toldX hmix (lwSym (some a') L.length c (0, 0) (0, 0) (checkF L) 0) (lwAbs L) lwEr [] (lwFew (decide (L.length ≤ 16)) (decide (64 < L.length)) (decide (L.length ≤ 80)) ++ lwN) (lwK B L (some a')) B lw_kst (hA _ _ _ _) (hcl _ _ _ _) (fun z hz => ?_) (fun _ h => by cases h) (fun z hz => ?_) (args := [.sy 0]) (xs := [.slice (some a') L.length c]) rfl _ [] [] (lw_evEr B L (some a') L.length c _ _ _ _ _ _ _) w ⟨hP, hB⟩ hB).mono fun q w' ⟨hb, e', ⟨u, hu, hq⟩, _⟩ => ⟨?_, hb⟩
      · simp only [lwEr, List.mem_cons, List.not_mem_nil, or_false] at hz
        rcases hz with rfl | rfl | rfl
        · exact awk_at
        · exact ⟨[.slice (some a') L.length c], iv (checkF L), rfl, rfl, hrC⟩
        · exact ⟨[.slice (some a') L.length c, .slice none 0 0], iv (checkF L), rfl, rfl, hvC⟩
      · rcases List.mem_append.1 hz with hz | hz
        · exact lw_few rfl rfl rfl z hz
        · simp only [lwN, List.mem_cons, List.not_mem_nil, or_false] at hz
          rcases hz with rfl | rfl
          · exact OpIs.at ⟨[iv (checkF L), iv 0], _, rfl, rfl, tells_neq (by simp [h0])⟩ _
          · exact OpIs.at ⟨[iv (checkF L), iv (checkF L)], _, rfl, rfl, tells_neq (by simp)⟩ _
      · subst hq
        cases hu
        rfl
end Go.Proofs.Ytbdlbcnjbafloaa
