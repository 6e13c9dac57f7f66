/- Layer 5 (polygon): Check of the program. -/
import Derived.Test.YtbdlbcnjbafloaaPcF
namespace Go.Proofs.Ytbdlbcnjbafloaa
open Go.RowKit Go.Ev
set_option maxRecDepth 100000
theorem pts_tight {B : Nat} {L : List Pt} {a' : Addr} {w : World} (h : PtsAt B L (some a') w) (h0 : 0 < L.length) : ∃ B', PtsAt B' L (some a') w ∧ B' ≤ w.heap.size := by
  refine ⟨a'.block + 1, ⟨h.ex, fun b hb => ?_⟩, ?_⟩
  · cases hb
    exact ⟨fun _ => Nat.lt_succ_self _, (h.cell a' rfl).2⟩
  · match L, h0 with
    | q :: L, _ =>
      have h2 := (h.cell a' rfl).2 0 (iv q.1) rfl
      have h3 : w.cell? a' = some (iv q.1) := by
        rw [show a'.add 0 = a' from rfl] at h2
        exact h2
      unfold World.cell? at h3
      split at h3
      · rename_i c t o g
        exact (Array.getElem?_eq_some_iff.1 g).1
      · cases h3
abbrev coOps (d : Bool) : List KOp := [(.bin .geq 3, [.sy 11, .clo (iv 0)], .clo (.bool d))]
abbrev coCall : KCall := (57, [.sy 0, .clo fEq], .sy 11)
theorem contains_any (B : Nat) (L : List Pt) (p : Nat × Nat) (hn0 : L.length ≤ 1000000) (w : World) (hP : SdK B L p w) (hB : B ≤ w.heap.size) :
    Calls Try.prog 44 #[.slice (some ⟨p.1, 0, none⟩) L.length p.2, fEq] w fun e w' => e = .returned (.bool (decide (0 ≤ dupIx L))) ∧ Below w.heap.size w w' := by
  have hev : ∀ (n : Nat) (r : Int) (d : Bool), resC (evalFn0 Try.prog (@evalC (toldK 0 (ixSym p n 0 r (0, 0) (0, 0)) [coCall] [] (coOps d) (SdK w.heap.size L p) w.heap.size sdK_kst) Try.prog 300 true) 0 44 [.sy 0, .clo fEq] ⟨0, []⟩) = some (.clo (.bool d)) := by
    intro n r d; cases d <;> kernel_rfl
  refine calls_toldM hmix (ixSym p L.length 0 (dupIx L) (0, 0) (0, 0)) [coCall] [] (coOps (decide (0 ≤ dupIx L))) (SdK w.heap.size L p) w.heap.size sdK_kst (fun z hz => ?_) (fun _ h => by cases h) (fun z hz => ?_) (args := [.sy 0, .clo fEq]) (xs := [.slice (some ⟨p.1, 0, none⟩) L.length p.2, fEq]) rfl _ (hev _ _ _) rfl w ⟨hP.row, Nat.lt_of_lt_of_le hP.lt hB⟩ (Nat.le_refl _)
  · simp only [List.mem_cons, List.not_mem_nil, or_false] at hz
    subst hz
    refine ⟨[.slice (some ⟨p.1, 0, none⟩) L.length p.2, fEq], iv (dupIx L), rfl, rfl, fun w' hw' => ?_⟩
    exact index_any (p.1 + 1) L p hn0 w' ⟨hw'.row, by omega⟩ (by
      obtain ⟨⟨c, h1, _⟩, _⟩ := hw'
      have := (Array.getElem?_eq_some_iff.1 h1).1
      omega)
  · simp only [List.mem_cons, List.not_mem_nil, or_false] at hz
    subst hz
    exact OpIs.at ⟨[iv (dupIx L), iv 0], _, rfl, rfl, tells_geq rfl⟩ _
theorem vcheck_early (L : List Pt) (a : Option Addr) (c : Nat) (h : 64 < L.length ∨ L.length < 3) (w : World) : Calls Try.prog 24 #[.slice a L.length c, .slice none 0 0] w fun e w' => e = .returned (iv (checkF L)) ∧ Below w.heap.size w w' := by
  have hev : ∀ (x y : Bool) (n : Nat), (x || y) = true → resC (evalFn0 Try.prog (@evalC (toldK 0 (ckSym a ⟨0, 0, none⟩ n c 0 0 (0, 0) (0, 0)) [] [] (ckLen x y) (fun _ => True) 0 (fun _ _ _ _ => trivial)) Try.prog 300 true) 0 24 [.sy 0, .clo (.slice none 0 0)] ⟨0, []⟩) = some (.clo (iv (cond x 7 1))) := by
    intro x y n hxy
    cases x
    · cases y
      · cases hxy
      · kernel_rfl
    · kernel_rfl
  refine calls_toldM hmix (ckSym a ⟨0, 0, none⟩ L.length c 0 0 (0, 0) (0, 0)) [] [] (ckLen (decide (64 < L.length)) (decide (L.length < 3))) (fun _ => True) 0 (fun _ _ _ _ => trivial) (fun _ h => by cases h) (fun _ h => by cases h) ck_len (args := [.sy 0, .clo (.slice none 0 0)]) (xs := [.slice a L.length c, .slice none 0 0]) rfl _ (hev _ _ _ (by simpa using h)) ?_ w trivial (Nat.zero_le _)
  unfold checkF
  by_cases h1 : 64 < L.length
  · rw [if_pos h1, decide_eq_true h1]; rfl
  · rw [if_neg h1, decide_eq_false h1, if_pos (h.resolve_left h1)]; rfl
/-- Whether some side has equal ends. -/
theorem dup_iff (L : List Pt) : 0 ≤ dupIx L ↔ ∃ k, k < L.length ∧ L[k]? = L[(k + 1) % L.length]? := by
  have hat : ∀ k, k < L.length → (dupAt L k = true ↔ L[k]? = L[(k + 1) % L.length]?) := fun k hk => by
    have hj : (k + 1) % L.length < L.length := Nat.mod_lt _ (by omega)
    unfold dupAt nth
    rw [decide_eq_true_iff, List.getD_eq_getElem?_getD, List.getD_eq_getElem?_getD, List.getElem?_eq_getElem hk, List.getElem?_eq_getElem hj]
    simp
  constructor
  · intro h
    unfold dupIx at h
    split at h
    · rename_i hlt
      refine ⟨_, hlt, (hat _ hlt).1 ?_⟩
      have := List.findIdx_getElem (p := dupAt L) (w := (by simpa using hlt : (List.range L.length).findIdx (dupAt L) < (List.range L.length).length))
      simpa using this
    · omega
  · rintro ⟨k, hk, he⟩
    unfold dupIx
    have : (List.range L.length).findIdx (dupAt L) < (List.range L.length).length := List.findIdx_lt_length_of_exists ⟨k, by simpa using hk, (hat k hk).2 he⟩
    rw [if_pos (by simpa using this)]
    omega
abbrev vkAbs (L : List Pt) (d : Bool) : Abs := { lst := fun _ => sdC L, cl := [(29, [.sy 0], (fun b => .as b (.v 3)), [(.v 30, tSide, 4)]), (44, [.mo [.ab (.v 30) tSide 4] [.sy 3], .clo fEq], (fun _ => .clo (.bool d)), [])] }
abbrev vkCalls (al : Bool) : List KCall := [(37, [.sy 0], .clo (.bool al)), (37, [.clo (.slice none 0 0)], .clo (.bool true))]
theorem ptsAt_nil (w : World) : PtsAt 0 [] none w := ⟨fun h => by simp at h, fun _ h => by cases h⟩
theorem vcheck_full (B : Nat) (L : List Pt) (a' : Addr) (c : Nat) (h1 : L.length ≤ 64) (h2 : 3 ≤ L.length) (hi : inPts L) (w : World) (hP : PtsAt B L (some a') w) (hB : B ≤ w.heap.size) :
    Calls Try.prog 24 #[.slice (some a') L.length c, .slice none 0 0] w fun e w' => e = .returned (iv (checkF L)) ∧ Below w.heap.size w w' := by
  have hev : ∀ (n : Nat) (al d : Bool), outF [] (evalFn0 Try.prog (@evalC (toldX (ckSym (some a') a' n c 0 0 (0, 0) (0, 0)) (vkAbs L d) (vkCalls al) [] (ckLen false false) (ptsK B L (some a')) B pts_kst) Try.prog 300 true) 0 24 [.sy 0, .clo (.slice none 0 0)] ⟨0, []⟩) = some (.clo (iv (cond al (cond d 5 0) 6)), []) := by
    intro n al d; cases al <;> cases d <;> kernel_rfl
  refine (calls_toldX hmix (ckSym (some a') a' L.length c 0 0 (0, 0) (0, 0)) (vkAbs L (decide (0 ≤ dupIx L))) (vkCalls (L.all alw)) [] (ckLen false false) (ptsK B L (some a')) B pts_kst ⟨(fun _ h => by cases h), (fun _ h => by cases h), (fun _ h => by cases h), (fun _ h => by cases h), (fun _ h => by cases h)⟩ (fun z hz => ?_) (fun z hz => ?_) (fun _ h => by cases h) ?_ (args := [.sy 0, .clo (.slice none 0 0)]) (xs := [.slice (some a') L.length c, .slice none 0 0]) rfl _ [] [] (hev _ _ _) w hP hB).mono fun q w' ⟨hb, e', ⟨u, hu, hq⟩, _⟩ => ⟨?_, hb⟩
  · simp only [List.mem_cons, List.not_mem_nil, or_false] at hz
    rcases hz with rfl | rfl
    · refine ⟨rfl, fun w' xs hK hx => ?_⟩
      match xs, hx with
      | [x], hx =>
        obtain ⟨rfl, _⟩ := hx
        obtain ⟨B', hK', hB'⟩ := pts_tight hK (by omega)
        refine (sides_any B' L a' c (by omega) (by omega) w' hK' hB').mono fun q w'' ⟨g1, p, g2, g3, g4⟩ => ⟨g1, [p], rfl, by simpa using g2, by simp, fun j p' b hp hb => ?_, .slice (some ⟨p.1, 0, none⟩) L.length p.2, fun e base => ?_, g4⟩
        · match j, hp, hb with
          | 0, hp, hb =>
            simp at hp hb; subst hp; subst hb
            exact g3
        · have h5 : envL e base [p] base = some p := by
            unfold envL
            rw [if_pos (by simp)]; simp
          exact @den_asI (told (ckSym (some a') a' L.length c 0 0 (0, 0) (0, 0)) [] []) (envL e base [p]) base (.v 3) p L.length h5 rfl
    · refine ⟨rfl, fun w' xs hK hx => ?_⟩
      match xs, hx with
      | [x, y], hx =>
        obtain ⟨⟨p, m, rfl, hm, hl⟩, rfl, _⟩ := hx
        have hm : m = L.length := by
          have : (some (L.length) : Option Nat) = some m := hm
          cases this; rfl
        subst hm
        have hlt : p.1 < w'.heap.size := by
          obtain ⟨c, g, _⟩ := hl
          exact (Array.getElem?_eq_some_iff.1 g).1
        refine (contains_any w'.heap.size L p (by omega) w' ⟨hl, hlt⟩ (Nat.le_refl _)).mono fun q w'' ⟨g1, g2⟩ => ⟨g2, [], rfl, by simp, by simp, fun j p b hp => by simp at hp, _, fun e base => rfl, g1⟩
  · simp only [List.mem_cons, List.not_mem_nil, or_false] at hz
    rcases hz with rfl | rfl
    · refine ⟨[.slice (some a') L.length c], _, rfl, rfl, fun w' hw' => ?_⟩
      obtain ⟨B', hK', hB'⟩ := pts_tight hw' (by omega)
      exact pAllowed_any B' L (some a') c (by omega) hi w' hK' hB'
    · refine ⟨[.slice none 0 0], _, rfl, rfl, fun w' _ => ?_⟩
      exact pAllowed_any 0 [] none 0 (by simp) (fun _ h => by cases h) w' (ptsAt_nil w') (Nat.zero_le _)
  · have := @ck_len (some a') a' L.length c 0 0 (0, 0) (0, 0) (ptsK B L (some a'))
    rw [decide_eq_false (by omega), decide_eq_false (by omega)] at this
    exact this
  · subst hq
    have hu : some (iv (cond (L.all alw) (cond (decide (0 ≤ dupIx L)) 5 0) 6)) = some u := hu
    cases hu
    unfold checkF
    rw [if_neg (by omega), if_neg (by omega)]
    cases hA : L.all alw
    · rfl
    · rw [if_neg (by simp)]
      by_cases hd : 0 ≤ dupIx L
      · rw [if_pos ((dup_iff L).1 hd), decide_eq_true hd]; rfl
      · rw [if_neg (fun h => hd ((dup_iff L).2 h)), decide_eq_false hd]; rfl
end Go.Proofs.Ytbdlbcnjbafloaa
