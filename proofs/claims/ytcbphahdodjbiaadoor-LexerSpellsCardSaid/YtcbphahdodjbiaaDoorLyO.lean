/- Layer 9 (lexer): both agree on which tokens are valid. -/
import Derived.Test.YtcbphahdodjbiaaDoorLyN
namespace Go.Proofs.YtcbphahdodjbiaaDoor
open Go.RowKit Go.Ev
set_option maxRecDepth 100000

theorem sg_both (c : UInt8) : isSg c = pSg c.toNat := by
  have h : ∀ i : Fin 256, isSg (UInt8.ofNat i.1) = pSg (UInt8.ofNat i.1).toNat := by decide
  have := h ⟨c.toNat, c.toNat_lt⟩
  simpa using this
/-- What makes a reading the whole token. -/
def Whole (F : FT) (k : Int) (t : List UInt8) (n : Int) (len : Nat) : Prop := F.e = 0 ∧ F.len = len ∧ F.k = k ∧ F.t = t ∧ F.n = n
theorem numF_k (l : List UInt8) (h : (numF l).e = 0) : (numF l).k = 2 := by
  unfold numF at h ⊢
  split at h
  · simp at h
  · rename_i h1
    rw [if_neg h1]
    split at h
    · simp at h
    · rename_i h2
      rw [if_neg h2]
theorem rNumF_k (l : List UInt8) (h : (rNumF l).e = 0) : (rNumF l).k = 2 := by
  unfold rNumF at h ⊢
  split at h
  · simp at h
  · rename_i h1
    rw [if_neg h1]
    split at h
    · simp at h
    · rename_i h2
      rw [if_neg h2]
      split at h
      · simp at h
      · rename_i h3
        rw [if_neg h3]
theorem word_both (l : List UInt8) (k : Int) (t : List UInt8) (n : Int) (len : Nat) : Whole (wordF l) k t n len ↔ Whole (rWordF l) k t n len := by
  unfold wordF rWordF Whole
  by_cases h : 40 < rn pWd l
  · rw [if_pos h, if_pos h]; simp
  · rw [if_neg h, if_neg h]
theorem text_both (c : UInt8) (r : List UInt8) (k : Int) (t : List UInt8) (n : Int) (len : Nat) : Whole (textF (c :: r)) k t n len ↔ Whole (rTextF r) k t n len := by
  unfold textF rTextF Whole
  rw [show (c :: r).drop 1 = r from rfl]
  have := sp_le 34 r
  by_cases h : sp 34 r = r.length
  · rw [if_pos h, if_neg (by omega)]; simp
  · rw [if_neg h, if_pos (by omega)]
    by_cases h2 : labelS ⟨(r.take (sp 34 r)).toArray⟩ = true
    · rw [if_pos h2, if_pos h2]
    · rw [if_neg h2, if_neg h2]; simp
theorem sign_both (c : UInt8) (k : Int) (t : List UInt8) (n : Int) (len : Nat) : Whole (if isSg c = true then ⟨4, [c], 0, 1, 0⟩ else ⟨0, [], 0, 0, 2⟩) k t n len ↔ Whole (rSignF c) k t n len := by
  unfold rSignF Whole
  rw [sg_both]
  by_cases h : pSg c.toNat = true
  · rw [if_pos h, if_pos h]
  · rw [if_neg h, if_neg h]; simp

/-! ### Numerals -/
theorem pDg_of {n : Nat} (h : 48 ≤ n ∧ n ≤ 57) : pDg n = true := by
  unfold pDg
  simp
  exact h
theorem num_both {n : Int} (h : In64 n) (k : Int) (t : List UInt8) (m : Int) (len : Nat) : Whole (numF (Lib.itoa n)) k t m len ↔ Whole (rNumF (Lib.itoa n)) k t m len := by
  obtain ⟨d, hd⟩ : ∃ d, d = Lib.decDigits n.natAbs := ⟨_, rfl⟩
  have hb := dec_bytes n.natAbs
  obtain ⟨c, r, hcr, hz⟩ := dec_head n.natAbs
  have hall : rn pDg (Lib.decDigits n.natAbs) = (Lib.decDigits n.natAbs).length := rn_all fun c hc => pDg_of (hb c hc)
  have hit : Lib.itoa n = if n < 0 then 45 :: Lib.decDigits n.natAbs else Lib.decDigits n.natAbs := by
    unfold Lib.itoa
    by_cases hn : n < 0
    · rw [if_pos hn, if_pos hn]
    · rw [if_neg hn, if_neg hn, show n.toNat = n.natAbs by omega]
  have hc := hb c (by rw [hcr]; simp)
  have hpi := pI_itoa h
  have h16 : 16 < (Lib.decDigits n.natAbs).length → 1000000000000000 < n ∨ n < -1000000000000000 := by
    intro hl
    rcases Nat.lt_or_ge n.natAbs (10 ^ (15 + 1)) with hlt | hge
    · have := dec_len 15 n.natAbs hlt
      omega
    · have : (10 : Nat) ^ 16 = 10000000000000000 := by decide
      omega
  have hsg : sg (Lib.itoa n) = if n < 0 then 1 else 0 := by
    rw [hit]
    by_cases hn : n < 0
    · rw [if_pos hn, if_pos hn]; rfl
    · rw [if_neg hn, if_neg hn, hcr]
      show (if c = 45 then 1 else 0) = 0
      rw [if_neg]
      rintro rfl
      simp at hc
  have hdr : (Lib.itoa n).drop (sg (Lib.itoa n)) = Lib.decDigits n.natAbs := by
    rw [hsg, hit]
    by_cases hn : n < 0
    · rw [if_pos hn, if_pos hn]; rfl
    · rw [if_neg hn, if_neg hn]; rfl
  have hlen : (Lib.itoa n).length = sg (Lib.itoa n) + (Lib.decDigits n.natAbs).length := by
    rw [hsg, hit]
    by_cases hn : n < 0
    · rw [if_pos hn, if_pos hn, List.length_cons]; omega
    · rw [if_neg hn, if_neg hn]; omega
  have hgD : (Lib.itoa n).getD (sg (Lib.itoa n)) 0 = c := by
    rw [hsg, hit, hcr]
    by_cases hn : n < 0
    · rw [if_pos hn, if_pos hn]; rfl
    · rw [if_neg hn, if_neg hn]; rfl
  have hs1 : sg (Lib.itoa n) = 1 ↔ n < 0 := by
    rw [hsg]
    by_cases hn : n < 0
    · simp [hn]
    · simp [hn]
  have hs2 : 0 < sg (Lib.itoa n) ↔ n < 0 := by
    rw [hsg]
    by_cases hn : n < 0
    · simp [hn]
    · simp [hn]
  have hdl : (Lib.decDigits n.natAbs).length = r.length + 1 := by rw [hcr]; rfl
  unfold numF rNumF
  rw [hdr, hall, List.take_length, ← hlen, List.take_length, hpi.1, hpi.2, hgD]
  have hw : wellF (Lib.decDigits n.natAbs) (decide (0 < sg (Lib.itoa n))) = true := by
    rw [hcr]
    show (c != 48 || (r.isEmpty && !decide (0 < sg (Lib.itoa n)))) = true
    by_cases h48 : c = 48
    · obtain ⟨hz1, hz2⟩ := hz (by rw [h48]; rfl)
      rw [hz2, h48, decide_eq_false (by rw [hs2]; omega)]
      rfl
    · have : (c != 48) = true := by simpa using h48
      rw [this]; rfl
  rw [hw]
  have hno1 : ¬ (true = false ∨ ∃ c_1, (Lib.decDigits n.natAbs)[(Lib.decDigits n.natAbs).length]? = some c_1 ∧ pWd c_1.toNat = true) := by
    rintro (h | ⟨x, h, _⟩)
    · cases h
    · rw [List.getElem?_eq_none (Nat.le_refl _)] at h; cases h
  rw [if_neg hno1]
  have hno2 : ¬ ((Lib.decDigits n.natAbs).length = 0 ∨ (Lib.itoa n).length < (Lib.itoa n).length ∧ pPt ((Lib.itoa n).getD (Lib.itoa n).length 0).toNat = true ∨ c.toNat = 48 ∧ (1 < (Lib.decDigits n.natAbs).length ∨ sg (Lib.itoa n) = 1)) := by
    rintro (h | ⟨h, _⟩ | ⟨h, h'⟩)
    · omega
    · omega
    · obtain ⟨hz1, hz2⟩ := hz h
      rcases h' with h' | h'
      · rw [hdl, hz2] at h'; simp at h'
      · rw [hs1] at h'; omega
  rw [if_neg hno2]
  by_cases hbig : 1000000000000000 < n ∨ n < -1000000000000000
  · have h1 : false = true ∨ n < -1000000000000000 ∨ 1000000000000000 < n := .inr (hbig.symm)
    rw [if_pos h1, if_pos hbig]
    split <;> simp [Whole]
  · have h1 : ¬ (false = true ∨ n < -1000000000000000 ∨ 1000000000000000 < n) := by
      rintro (h | h | h)
      · cases h
      · exact hbig (.inr h)
      · exact hbig (.inl h)
    rw [if_neg h1, if_neg hbig, if_neg (fun h => hbig (h16 h))]
theorem first_both (c : UInt8) (r : List UInt8) (k : Int) (t : List UInt8) (n : Int) (hn : In64 n) (hk : k = 2 → c :: r = Lib.itoa n) (len : Nat) : Whole (firstF (c :: r)) k t n len ↔ Whole (rFirstF (c :: r)) k t n len := by
  unfold firstF rFirstF
  dsimp only
  by_cases h1 : pLt c.toNat = true
  · rw [if_pos h1, if_pos h1]
    exact word_both _ _ _ _ _
  rw [if_neg h1, if_neg h1]
  by_cases h2 : pDg c.toNat = true ∨ c = 45
  · rw [if_pos h2, if_pos h2]
    by_cases h3 : k = 2
    · rw [hk h3]
      exact num_both hn _ _ _ _
    · constructor
      · rintro ⟨he, _, hk', _⟩
        exact absurd (hk'.symm.trans (numF_k _ he)) h3
      · rintro ⟨he, _, hk', _⟩
        exact absurd (hk'.symm.trans (rNumF_k _ he)) h3
  rw [if_neg h2, if_neg h2]
  by_cases h4 : c = 34
  · rw [if_pos h4, if_pos h4]
    exact text_both c r k t n len
  rw [if_neg h4, if_neg h4]
  exact sign_both c k t n len
theorem rFirst_k (c : UInt8) (r : List UInt8) (h : (rFirstF (c :: r)).e = 0) : (rFirstF (c :: r)).k = 1 ∨ (rFirstF (c :: r)).k = 2 ∨ (rFirstF (c :: r)).k = 3 ∨ (rFirstF (c :: r)).k = 4 := by
  unfold rFirstF at h ⊢
  dsimp only at h ⊢
  split at h
  · rename_i h1
    rw [if_pos h1]
    exact .inl rfl
  · rename_i h1
    rw [if_neg h1]
    split at h
    · rename_i h2
      rw [if_pos h2]
      exact .inr (.inl (rNumF_k _ h))
    · rename_i h2
      rw [if_neg h2]
      split at h
      · rename_i h3
        rw [if_pos h3]
        unfold rTextF at h ⊢
        split at h
        · simp at h
        · rename_i h4
          rw [if_neg h4]
          exact .inr (.inr (.inl rfl))
      · rename_i h3
        rw [if_neg h3]
        unfold rSignF at h ⊢
        split at h
        · rename_i h4
          rw [if_pos h4]
          exact .inr (.inr (.inr rfl))
        · simp at h
theorem rFirst_no (c : UInt8) (r : List UInt8) (h : c.toNat = 32 ∨ c.toNat = 35) : (rFirstF (c :: r)).e = 2 := by
  unfold rFirstF
  dsimp only
  have h1 : c = 32 ∨ c = 35 := h.elim (fun h => .inl (UInt8.toNat_inj.1 h)) fun h => .inr (UInt8.toNat_inj.1 h)
  rcases h1 with rfl | rfl <;> rfl
theorem valid_both (k : Int) (t : List UInt8) (n : Int) (hn : In64 n) : rValF k t n = valF k t n ∧ (valF k t n = true → rspF k t n = spellF k t n) := by
  by_cases hk : k = 1 ∨ k = 4 ∨ k = 2 ∨ k = 3
  · have hs : rspF k t n = spellF k t n := by
      unfold rspF spellF
      rcases hk with rfl | rfl | rfl | rfl <;> simp
    refine ⟨?_, fun _ => hs⟩
    unfold rValF valF
    rw [hs]
    rcases hsp : spellF k t n with _ | ⟨c, r⟩
    · rfl
    · have hb := first_both c r k t n hn (fun h2 => by rw [← hsp, h2]; unfold spellF; simp) (c :: r).length
      rw [Bool.eq_iff_iff]
      simp only [Bool.and_eq_true, decide_eq_true_eq, Bool.not_eq_true', Bool.or_eq_false_iff, decide_eq_false_iff_not]
      constructor
      · rintro ⟨_, he, hl, hq⟩
        obtain ⟨a, b, d⟩ := hb.2 ⟨he, hl, hq⟩
        exact ⟨by simp, a, b, d⟩
      · rintro ⟨_, he, hl, hq⟩
        obtain ⟨a, b, d⟩ := hb.1 ⟨he, hl, hq⟩
        refine ⟨⟨fun h => ?_, fun h => ?_⟩, a, b, d⟩
        · rw [rFirst_no c r (.inl h)] at a; cases a
        · rw [rFirst_no c r (.inr h)] at a; cases a
  · have h1 : spellF k t n = [] := by
      unfold spellF
      rw [if_neg (fun h => h.elim (fun h => hk (.inl h)) fun h => hk (.inr (.inl h))), if_neg (fun h => hk (.inr (.inr (.inl h)))), if_neg (fun h => hk (.inr (.inr (.inr h))))]
    have h2 : valF k t n = false := by unfold valF; rw [h1]; rfl
    refine ⟨?_, fun h => by rw [h2] at h; cases h⟩
    rw [h2]
    unfold rValF
    split
    · rfl
    · rename_i c r _
      rw [← Bool.not_eq_true]
      simp only [Bool.and_eq_true, decide_eq_true_eq]
      rintro ⟨_, he, _, hq, _⟩
      have := rFirst_k c r he
      rw [hq] at this
      apply hk
      rcases this with h | h | h | h
      · exact .inl h
      · exact .inr (.inr (.inl h))
      · exact .inr (.inr (.inr h))
      · exact .inr (.inl h)
end Go.Proofs.YtcbphahdodjbiaaDoor
