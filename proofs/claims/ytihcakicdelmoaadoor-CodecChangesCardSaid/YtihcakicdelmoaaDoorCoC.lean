/- Digest of the program. -/
import Derived.Test.YtihcakicdelmoaaDoorCoB
import Derived.Test.YtihcakicdelmoaaDoorSh
namespace Go.Proofs.YtihcakicdelmoaaDoor
open Go.RowKit

theorem repeat48 : ∀ n, Lib.repeatL [48] n = List.replicate n 48
  | 0 => rfl
  | n + 1 => by
    show [48] ++ Lib.repeatL [48] n = _
    rw [repeat48 n]
    rfl

set_option maxRecDepth 20000 in
set_option maxHeartbeats 2000000 in
theorem dig_any (s : ByteArray) (hs : s.size ≤ 1000000000) (w : World) (hT : HasTab w) : Calls Tryd.prog 26 #[.string s] w fun e w' => e = .returned (.string (strOf (hexN 16 (hashD s).toNat))) ∧ Below w.heap.size w w' := by
  have HR := Lib.hid (fun h W => rot_any h W)
  have hT0 := hT.lt
  have HT := Lib.hid hT
  clear hT
  go_enter Tryd.func26, Tryd.ntmps26
  go_wp2_with fail
  go_loopw [3, 8] (fun x i wr => ∃ k : Nat, k ≤ s.size ∧ i = .int .i64 k ∧ x = .int .u64 (digAt s k) ∧ Below w.heap.size w wr) (fun _ i _ => s.size - (intOf i).toNat)
  case atStart => exact ⟨0, Nat.zero_le _, rfl, rfl, Below.refl _ _⟩
  case round =>
    obtain ⟨k, hk, rfl, rfl, hbw⟩ := hrel
    by_cases hlt : k < s.size
    · have i0 : (0 : Int) ≤ (k : Int) := by omega
      have i1 : (k : Int) < (s.size : Int) := by omega
      have HN := Lib.hid (digAt_next s k hlt)
      generalize digAt s k = h at HN ⊢
      have hidx : s[k]? = some (s[k]'hlt) := by simp [hlt]
      go_wp2_with fail
      go_region_held3 (fun w' => Below w.heap.size w w') (first | exact hbw.drew | assumption | exact Below.trans (by assumption) (Below.mono hbb (Below.size (by assumption))) | exact Below.trans hbw (Below.mono hbb hbw.size)) (first | (go_at_call 48; refine (HR.out _ _).mono ?_; rintro e w' ⟨rfl, hbb⟩))
      all_goals rename_i hH
      all_goals clear hbb
      all_goals go_wp2
      all_goals refine ⟨⟨k + 1, by omega, by go_num, by rw [HN.out]; rfl, hH⟩, ?_⟩
      all_goals simp [intOf]
      all_goals omega
    · have hkn : k = s.size := by omega
      subst hkn
      have HH : Hid (hashD s = bits BinOp.xor IntKind.u64 (digAt s s.size) (digAt s s.size / 4294967296)) := rfl
      generalize digAt s s.size = h at HH ⊢
      go_wp2_with fail
      have HX := xor_range h (h / 4294967296)
      generalize bits BinOp.xor IntKind.u64 h (h / 4294967296) = H at HX HH ⊢
      refine (fmt_any H HX.1 HX.2 wr (HT.out.below hbw hT0)).mono ?_
      rintro e w1 ⟨⟨t, ht, hlt, rfl⟩, hb1⟩
      have HLT := Lib.hid hlt
      have hb1' := hbw.trans (hb1.mono hbw.size)
      have hsz : (strOf (hexN (t + 1) H.toNat)).size = t + 1 := by show (hexN (t + 1) _).toArray.size = _; simp [hexN_length]
      have HR1 := Lib.hid (fun W => Tryd.strings_Repeat { data := #[48] } (15 - t) W (by omega) (by show 1 * _ ≤ _; omega))
      have HE : Hid (hexN 16 H.toNat = List.replicate (15 - t) 48 ++ hexN (t + 1) H.toNat) := by
        have := hexN_pad (15 - t) (t + 1) H.toNat HLT.out
        rwa [show 15 - t + (t + 1) = 16 by omega] at this
      clear hlt
      have k1 : (16 : Int) - ((t + 1 : Nat) : Int) = ((15 - t : Nat) : Int) := by omega
      generalize hS : strOf (hexN (t + 1) H.toNat) = S at hsz ⊢
      have HS := Lib.hid hS
      clear hS
      go_wp2_with fail
      rw [show (16 : Int) - ((t : Int) + 1) = ((15 - t : Nat) : Int) by omega]
      refine (HR1.out _).mono ?_
      rintro e w2 ⟨rfl, hb2⟩
      have hrs : (ByteArray.mk (Lib.repeatL [48] (15 - t)).toArray).size = 15 - t := by show (Lib.repeatL [48] (15 - t)).toArray.size = _; rw [repeat48]; simp
      have HRS : Hid (ByteArray.mk (Lib.repeatL [48] (15 - t)).toArray ++ S = strOf (hexN 16 H.toNat)) := by
        unfold Hid
        rw [← HS.out, HE.out, repeat48]
        apply ByteArray.ext
        simp [strOf]
      change Hid (ByteArray.mk (Lib.repeatL (ByteArray.mk #[48]).data.toList (15 - t)).toArray ++ S = strOf (hexN 16 H.toNat)) at HRS
      change (ByteArray.mk (Lib.repeatL (ByteArray.mk #[48]).data.toList (15 - t)).toArray).size = 15 - t at hrs
      generalize ByteArray.mk (Lib.repeatL (ByteArray.mk #[48]).data.toList (15 - t)).toArray = R at hrs HRS ⊢
      go_wp2_with fail
      go_ret
      exact ⟨by rw [HRS.out, HH.out]; rfl, hb1'.trans (hb2.mono hb1'.size)⟩

end Go.Proofs.YtihcakicdelmoaaDoor
