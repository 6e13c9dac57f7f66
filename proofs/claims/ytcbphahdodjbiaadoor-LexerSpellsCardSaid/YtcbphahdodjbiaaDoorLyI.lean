/- Layer 9 (lexer): runs of the reference. -/
import Derived.Test.YtcbphahdodjbiaaDoorLyH
namespace Go.Proofs.YtcbphahdodjbiaaDoor
open Go.RowKit Go.Ev
set_option maxRecDepth 100000

theorem tDgR : byteTab Tryd.prog 28 pDg = true := by kernel_rfl
theorem tSgR : byteTab Tryd.prog 32 (fun n => [40, 41, 44, 61, 58, 60, 62, 43, 47].any (Nat.beq n)) = true := by kernel_rfl
theorem rn_drop {p : Nat → Bool} {l : List UInt8} {a k : Nat} (ha : a ≤ k) (hk : k ≤ l.length) (h1 : ∀ j b, a ≤ j → j < k → l[j]? = some b → p b.toNat = true) (h2 : ∀ b, l[k]? = some b → p b.toNat = false) : k = a + rn p (l.drop a) := by
  have := rn_is (p := p) (l := l.drop a) (k := k - a) (by rw [List.length_drop]; omega) (fun j b hj hb => h1 (a + j) b (by omega) (by omega) (by rwa [List.getElem?_drop] at hb)) (fun b hb => h2 b (by rw [List.getElem?_drop, show a + (k - a) = k by omega] at hb; exact hb))
  omega
theorem pWd_of_dg {n : Nat} (h : pDg n = true) : pWd n = true := by unfold pWd; rw [h]; rfl
theorem wd_pt (n : Nat) : pPt n = pWd n := rfl
set_option maxHeartbeats 2000000 in
theorem rRun_any (l : List UInt8) (a : Nat) (wd : Bool) (ha : a ≤ l.length) (hl : l.length ≤ 1000) (w : World) : Calls Tryd.prog 27 #[strV l, iv a, .bool wd] w fun e w' => e = .returned (iv ((a + rn (cond wd pWd pDg) (l.drop a) : Nat))) ∧ Below w.heap.size w w' := by
  have HD := Lib.hid (fun c w => byte_calls mixed tDgR c w)
  have HP := Lib.hid (fun c w => byte_calls mixed tPt c w)
  obtain ⟨T, hT⟩ : ∃ T : ByteArray, T = ⟨l.toArray⟩ := ⟨_, rfl⟩
  have hsz : T.size = l.length := by rw [hT]; exact str_size l
  have hat : ∀ i : Nat, T[i]? = l[i]? := fun i => by rw [hT]; exact str_at l i
  show Calls Tryd.prog 27 #[.string ⟨l.toArray⟩, iv a, .bool wd] w _
  rw [← hT]
  clear hT
  obtain ⟨p, hp⟩ : ∃ p, p = cond wd pWd pDg := ⟨_, rfl⟩
  rw [← hp]
  have Hp := Lib.hid hp
  clear hp
  go_enter Tryd.func27, Tryd.ntmps27
  go_wp2_with fail
  go_loopw [1] (fun i wr => ∃ k : Nat, a ≤ k ∧ k ≤ l.length ∧ i = .int .i64 k ∧ Hid (∀ j b, a ≤ j → j < k → l[j]? = some b → p b.toNat = true) ∧ Below w.heap.size w wr) (fun i _ => l.length - (intOf i).toNat)
  case atStart => exact ⟨a, Nat.le_refl _, ha, rfl, Lib.hid (fun j b h1 h2 => by omega), Below.refl _ _⟩
  case round =>
    obtain ⟨k, hak, hk, rfl, HQ, hbw⟩ := hrel
    by_cases hlt : k < l.length
    · have i0 : (0 : Int) ≤ (k : Int) := by omega
      have i1 : (k : Int) < (l.length : Int) := by omega
      have i2 : IntKind.i64.wrap ((k : Int) + 1) = (k : Int) + 1 := by rw [IntKind.wrap_i64]; omega
      have hlt' : k < T.size := by omega
      have hidx : T[k]? = some (T[k]'hlt') := by simp [hlt']
      have HC : Hid (l[k]? = some (T[k]'hlt')) := Lib.hid ((hat k).symm.trans hidx)
      go_wp2_with fail
      refine Calls.mono (HD.out _ _) ?_
      rintro e W1 ⟨rfl, hb1⟩
      have hb1' := hbw.trans (hb1.mono hbw.size)
      cases hdg : pDg (T[k]'hlt').toNat
      · have HG := Lib.hid hdg
        clear hdg
        cases wd
        · have HN : Hid (p (T[k]'hlt').toNat = false) := Lib.hid (by rw [Hp.out]; exact HG.out)
          have hkr : k = a + rn p (l.drop a) := rn_drop hak hk HQ.out (fun b hb => by rw [HC.out] at hb; cases hb; exact HN.out)
          have HK := Lib.hid hkr
          clear hkr
          go_wp2_with fail
          go_ret
          rw [← HK.out]
          exact ⟨rfl, hb1'⟩
        · go_wp2_with fail
          refine Calls.mono (HP.out _ _) ?_
          rintro e W2 ⟨rfl, hb2⟩
          have hb2' := hb1'.trans (hb2.mono hb1'.size)
          cases hpt : pPt (T[k]'hlt').toNat
          · have HN : Hid (p (T[k]'hlt').toNat = false) := Lib.hid (by rw [Hp.out]; exact hpt)
            clear hpt
            have hkr : k = a + rn p (l.drop a) := rn_drop hak hk HQ.out (fun b hb => by rw [HC.out] at hb; cases hb; exact HN.out)
            have HK := Lib.hid hkr
            clear hkr
            go_wp2_with fail
            go_ret
            rw [← HK.out]
            exact ⟨rfl, hb2'⟩
          · have HN : Hid (p (T[k]'hlt').toNat = true) := Lib.hid (by rw [Hp.out]; exact hpt)
            clear hpt
            go_wp2_with fail
            refine ⟨⟨k + 1, by omega, by omega, by simp, Lib.hid (fun j b h1 h2 hb => ?_), hb2'⟩, ?_⟩
            · by_cases hj : j = k
              · subst hj; rw [HC.out] at hb; cases hb; exact HN.out
              · exact HQ.out j b h1 (by omega) hb
            · simp [intOf]
              omega
      · have HN : Hid (p (T[k]'hlt').toNat = true) := Lib.hid (by rw [Hp.out]; cases wd; exact hdg; exact pWd_of_dg hdg)
        have HG := Lib.hid hdg
        clear hdg
        go_wp2_with fail
        refine ⟨⟨k + 1, by omega, by omega, by simp, Lib.hid (fun j b h1 h2 hb => ?_), hb1'⟩, ?_⟩
        · by_cases hj : j = k
          · subst hj; rw [HC.out] at hb; cases hb; exact HN.out
          · exact HQ.out j b h1 (by omega) hb
        · simp [intOf]
          omega
    · have hkr : k = a + rn p (l.drop a) := rn_drop hak hk HQ.out (fun b hb => by rw [List.getElem?_eq_none (by omega)] at hb; cases hb)
      have HK := Lib.hid hkr
      clear hkr
      go_wp2_with fail
      go_ret
      rw [← HK.out]
      exact ⟨rfl, hbw⟩
end Go.Proofs.YtcbphahdodjbiaaDoor
