/- Layer 9 (lexer): names and labels of the reference. -/
import Derived.Test.YtcbphahdodjbiaaDoorLxB
namespace Go.Proofs.YtcbphahdodjbiaaDoor
open Go.RowKit

def nameP (s : ByteArray) : Prop := 1 ≤ s.size ∧ s.size ≤ 24 ∧ (∀ (i : Nat) (b : UInt8), s[i]? = some b → pNm b.toNat = true) ∧ ∀ b : UInt8, s[0]? = some b → pSm b.toNat = true
def labelP (s : ByteArray) : Prop := 1 ≤ s.size ∧ s.size ≤ 40 ∧ (∀ (i : Nat) (b : UInt8), s[i]? = some b → pLb b.toNat = true) ∧ (∀ b : UInt8, s[0]? = some b → b.toNat ≠ 32) ∧ ∀ b : UInt8, s[s.size - 1]? = some b → b.toNat ≠ 32
noncomputable def nameS (s : ByteArray) : Bool := @decide (nameP s) (Classical.propDecidable _)
noncomputable def labelS (s : ByteArray) : Bool := @decide (labelP s) (Classical.propDecidable _)
theorem nameS_t {s : ByteArray} (h : nameP s) : nameS s = true := by unfold nameS; exact @decide_eq_true _ (Classical.propDecidable _) h
theorem nameS_f {s : ByteArray} (h : ¬ nameP s) : nameS s = false := by unfold nameS; exact @decide_eq_false _ (Classical.propDecidable _) h
theorem labelS_t {s : ByteArray} (h : labelP s) : labelS s = true := by unfold labelS; exact @decide_eq_true _ (Classical.propDecidable _) h
theorem labelS_f {s : ByteArray} (h : ¬ labelP s) : labelS s = false := by unfold labelS; exact @decide_eq_false _ (Classical.propDecidable _) h

theorem get_lt {s : ByteArray} {i : Nat} {b : UInt8} (h : s[i]? = some b) : i < s.size := by
  rcases Nat.lt_or_ge i s.size with h1 | h1
  · exact h1
  · rw [getElem?_neg s i (by omega)] at h; cases h
theorem nm_iff (n : Nat) (hn : n < 256) : (pPt n && !pCap n) = pNm n := by
  have : (List.range 256).all (fun n => (pPt n && !pCap n) == pNm n) = true := by decide +kernel
  simpa using List.all_eq_true.1 this n (by simpa using hn)
theorem sm_iff (n : Nat) (hn : n < 256) : (pLt n && !pCap n) = pSm n := by
  have : (List.range 256).all (fun n => (pLt n && !pCap n) == pSm n) = true := by decide +kernel
  simpa using List.all_eq_true.1 this n (by simpa using hn)
theorem pCap_iff (n : Nat) : pCap n = true ↔ 65 ≤ n ∧ n ≤ 90 := by simp [pCap, Nat.ble_eq]
theorem pLb_iff (n : Nat) : pLb n = true ↔ (32 ≤ n ∧ n ≤ 126) ∧ n ≠ 34 := by
  unfold pLb
  rw [Bool.and_eq_true, Bool.and_eq_true, Nat.ble_eq, Nat.ble_eq]
  refine and_congr Iff.rfl ?_
  cases h : Nat.beq n 34 with
  | true => simp [Nat.eq_of_beq_eq_true h]
  | false => simp; intro h'; subst h'; simp at h

set_option maxRecDepth 20000 in
set_option maxHeartbeats 4000000 in
theorem rLabel_any (s : ByteArray) (hs : s.size ≤ 1000000000) (w : World) : Calls Tryd.prog 31 #[.string s] w fun e w' => e = .returned (.bool (labelS s)) ∧ Below w.heap.size w w' := by
  go_enter Tryd.func31, Tryd.ntmps31
  go_wp2_with fail
  go_loopw [3] (fun n wr => ∃ k : Nat, k ≤ s.size ∧ n = .int .i64 k ∧ Hid (preOK pLb s k) ∧ Below w.heap.size w wr) (fun n _ => s.size - (intOf n).toNat)
  case atStart => exact ⟨0, Nat.zero_le _, rfl, Lib.hid (fun j b h => by omega), Below.refl _ _⟩
  case round =>
    obtain ⟨k, hk, rfl, HQ, hbw⟩ := hrel
    by_cases hlt : k < s.size
    · have i0 : (0 : Int) ≤ (k : Int) := by omega
      have i1 : (k : Int) < (s.size : Int) := by omega
      have hidx : s[k]? = some (s[k]'hlt) := by simp [hlt]
      have i2 : IntKind.i64.wrap ((k : Int) + 1) = (k : Int) + 1 := by rw [IntKind.wrap_i64]; omega
      have HB := Lib.hid (pLb_iff (s[k]'hlt).toNat)
      have HF : Hid (pLb (s[k]'hlt).toNat = false → labelS s = false) := fun h => labelS_f (fun hp => by
        have := hp.2.2.1 k _ hidx
        rw [h] at this; cases this)
      have no : ∀ h : ¬ ((32 ≤ (s[k]'hlt).toNat ∧ (s[k]'hlt).toNat ≤ 126) ∧ (s[k]'hlt).toNat ≠ 34), labelS s = false := fun h => HF.out (by
        cases hc : pLb (s[k]'hlt).toNat with
        | false => rfl
        | true => exact absurd (HB.out.1 hc) h)
      by_cases c1 : ((s[k]'hlt).toNat : Int) < 32
      · have hr := no (by omega)
        clear no
        go_wp2_with fail
        go_ret
        exact ⟨by first | (rw [hr]; rfl) | rfl, hbw⟩
      · by_cases c2 : (126 : Int) < ((s[k]'hlt).toNat : Int)
        · have hr := no (by omega)
          clear no
          go_wp2_with fail
          go_ret
          exact ⟨by first | (rw [hr]; rfl) | rfl, hbw⟩
        · by_cases c3 : ((s[k]'hlt).toNat : Int) = 34
          · have hr := no (by omega)
            clear no
            go_wp2_with fail
            go_ret
            exact ⟨by first | (rw [hr]; rfl) | rfl, hbw⟩
          · have HQ' := Lib.hid (HQ.out.next hidx (HB.out.2 ⟨⟨by omega, by omega⟩, by omega⟩))
            clear no
            go_wp2_with fail
            refine ⟨⟨k + 1, by omega, by simp, HQ', hbw⟩, ?_⟩
            simp [intOf]
            omega
    · have hkn : k = s.size := by omega
      subst hkn
      have HR : Hid (labelS s = true ↔ (1 ≤ s.size ∧ s.size ≤ 40) ∧ (∀ b : UInt8, s[0]? = some b → b.toNat ≠ 32) ∧ ∀ b : UInt8, s[s.size - 1]? = some b → b.toNat ≠ 32) := by
        unfold Hid
        constructor
        · intro h
          have hp : labelP s := by
            apply Classical.byContradiction
            intro hn
            rw [labelS_f hn] at h; cases h
          exact ⟨⟨hp.1, hp.2.1⟩, hp.2.2.2.1, hp.2.2.2.2⟩
        · exact fun h => labelS_t ⟨h.1.1, h.1.2, fun i b hb => HQ.out i b (get_lt hb) hb, h.2.1, h.2.2⟩
      have hno : ∀ {P : Prop}, ¬ P → (labelS s = true → P) → labelS s = false := fun {P} hn h => by
        cases hl : labelS s with
        | false => rfl
        | true => exact absurd (h hl) hn
      by_cases h1 : (1 : Int) ≤ (s.size : Int)
      · by_cases h2 : (s.size : Int) ≤ 40
        · have z0 : s[0]? = some (s[0]'(by omega)) := getElem?_pos s 0 (by omega)
          have z1 : s[s.size - 1]? = some (s[s.size - 1]'(by omega)) := getElem?_pos s (s.size - 1) (by omega)
          have i3 : IntKind.i64.wrap ((s.size : Int) - 1) = ((s.size - 1 : Nat) : Int) := by rw [IntKind.wrap_i64]; omega
          have i4 : ((s.size - 1 : Nat) : Int) < (s.size : Int) := by omega
          have i5 : (0 : Int) ≤ ((s.size - 1 : Nat) : Int) := by omega
          have i6 : (0 : Int) < (s.size : Int) := by omega
          have HR2 : Hid (labelS s = ((((s[0]'(by omega)).toNat : Int) != 32) && (((s[s.size - 1]'(by omega)).toNat : Int) != 32))) := by
            unfold Hid
            by_cases e1 : ((s[0]'(by omega)).toNat : Int) = 32
            · rw [hno (P := ∀ b : UInt8, s[0]? = some b → b.toNat ≠ 32) (fun h => h _ z0 (by omega)) (fun h => (HR.out.1 h).2.1), e1]; rfl
            · by_cases e2 : ((s[s.size - 1]'(by omega)).toNat : Int) = 32
              · rw [hno (P := ∀ b : UInt8, s[s.size - 1]? = some b → b.toNat ≠ 32) (fun h => h _ z1 (by omega)) (fun h => (HR.out.1 h).2.2), e2]
                simp
              · have : labelS s = true := HR.out.2 ⟨⟨by omega, by omega⟩, fun b hb => by rw [z0] at hb; cases hb; omega, fun b hb => by rw [z1] at hb; cases hb; omega⟩
                rw [this]
                simp only [bne_iff_ne, ne_eq, Bool.true_eq, Bool.and_eq_true]
                exact ⟨e1, e2⟩
          clear hno
          go_wp2_with fail
          · rename_i e1
            go_ret
            refine ⟨?_, hbw⟩
            rw [HR2.out]
            simp [e1]
          · rename_i e1
            go_ret
            refine ⟨?_, hbw⟩
            rw [HR2.out]
            rfl
        · have hr := hno (P := s.size ≤ 40) (by omega) (fun h => (HR.out.1 h).1.2)
          clear hno
          go_wp2_with fail
          go_ret
          exact ⟨by first | (rw [hr]; rfl) | rfl, hbw⟩
      · have hr := hno (P := 1 ≤ s.size) (by omega) (fun h => (HR.out.1 h).1.1)
        clear hno
        go_wp2_with fail
        go_ret
        exact ⟨by first | (rw [hr]; rfl) | rfl, hbw⟩
end Go.Proofs.YtcbphahdodjbiaaDoor
