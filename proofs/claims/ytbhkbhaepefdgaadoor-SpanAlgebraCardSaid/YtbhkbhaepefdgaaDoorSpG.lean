/- The sort of intervals by their beginnings. -/
import Derived.Test.YtbhkbhaepefdgaaDoorSpF
namespace Go.Proofs.YtbhkbhaepefdgaaDoor
open Go.RowKit Go.Sort

def cmpI (a b : Int) : Int := if a < b then -1 else if b < a then 1 else 0

set_option maxHeartbeats 400000 in
theorem isNaN_any (a : Int) (w : World) : Calls Tryd.prog 104 #[.int .i64 a] w fun e w' => e = .returned (.bool false) ∧ w = w' := by
  go_enter Tryd.func104, Tryd.ntmps104
  go_wp2
  go_ret
  exact ⟨by simp, rfl⟩

set_option maxHeartbeats 400000 in
theorem cmpCompare_any (a b : Int) (w : World) : Calls Tryd.prog 76 #[.int .i64 a, .int .i64 b] w fun e w' => e = .returned (.int .i64 (cmpI a b)) ∧ w = w' := by
  rcases Int.lt_trichotomy a b with h | h | h
  · have HR : Hid (cmpI a b = -1) := if_pos h
    go_enter Tryd.func76, Tryd.ntmps76
    go_wp2_with (go_at_call 104; refine (isNaN_any _ _).mono ?_; rintro e w' ⟨rfl, rfl⟩)
    go_ret
    exact ⟨by rw [HR.out]; rfl, rfl⟩
  · subst h
    have HR : Hid (cmpI a a = 0) := by unfold Hid cmpI; simp
    go_enter Tryd.func76, Tryd.ntmps76
    go_wp2_with (go_at_call 104; refine (isNaN_any _ _).mono ?_; rintro e w' ⟨rfl, rfl⟩)
    go_ret
    exact ⟨by rw [HR.out]; rfl, rfl⟩
  · have HR : Hid (cmpI a b = 1) := by unfold Hid cmpI; rw [if_neg (by omega), if_pos h]
    go_enter Tryd.func76, Tryd.ntmps76
    go_wp2_with (go_at_call 104; refine (isNaN_any _ _).mono ?_; rintro e w' ⟨rfl, rfl⟩)
    go_ret
    exact ⟨by rw [HR.out]; rfl, rfl⟩

set_option maxHeartbeats 400000 in
theorem closure_any (x y : Iv) (W : World) : Calls Tryd.prog 84 #[.agg #[.int .i64 x.1, .int .i64 x.2], .agg #[.int .i64 y.1, .int .i64 y.2]] W fun e w' => e = .returned (.int .i64 (cmpI x.1 y.1)) ∧ ∃ q os', w' = grow (W.drewN q) os' := by
  go_enter Tryd.func84, Tryd.ntmps84
  go_wp2_with (go_at_call 76; refine (cmpCompare_any _ _ _).mono ?_; rintro e w' ⟨rfl, rfl⟩)
  go_ret
  exact ⟨rfl, 0, _, by rw [alloc_eq_grow, alloc_eq_grow, grow_grow]; rfl⟩

theorem ltIv (x y : Iv) : ltOf (fun x y : Iv => cmpI x.1 y.1) x y = decide (x.1 < y.1) := by
  unfold ltOf cmpI
  by_cases h1 : x.1 < y.1
  · simp [h1]
  · by_cases h2 : y.1 < x.1 <;> simp [h1, h2]
theorem swoIv : SWO (ltOf fun x y : Iv => cmpI x.1 y.1) where
  irrefl x := by rw [ltIv]; simp
  trans x y z h1 h2 := by rw [ltIv] at *; simp at *; omega
  ntrans x y z h1 h2 := by rw [ltIv] at *; simp at *; omega

theorem below_sortWorld (enc : Iv → List Value) (k : Nat) (w : World) (blk off n : Nat) (d : Array Iv) (os : Array Obj) {B : Nat} (h : B ≤ blk) (hb : blk < w.heap.size) : Below B w (sortWorldK enc k w blk off n d os) := by
  refine ⟨rfl, rfl, rfl, ?_, fun j hj => ?_⟩
  · show w.heap.size ≤ (w.heap.modify blk _ ++ os).size
    simp
  · show (w.heap.modify blk _ ++ os)[j]? = _
    rw [Array.getElem?_append_left (by simp; omega), Array.getElem?_modify, if_neg (by omega)]

theorem holds_of_own {w : World} {g cap base : Nat} {xs : List Iv} (h : OwnIv w base (.slice (some ⟨g, 0, none⟩) xs.length cap) xs) : HoldsK encIv 2 w g 0 xs.toArray := by
  rcases h.2 with ⟨he, _⟩ | ⟨g', cap', cur, he, _, hg, _, _, _, ht⟩
  · cases he
  · injection he with he _ _
    injection he with he
    injection he with he _ _
    subst he
    intro j hj
    have hj' : j < xs.length * 2 := by simpa using hj
    rw [Nat.zero_add]
    refine ⟨?_, by simp [World.frozen?, hg]⟩
    rw [cell_of_row w g j cur _ _ hg]
    have hc : (cellsIv xs)[j]? = cur[j]? := by rw [← ht, List.getElem?_take, if_pos hj']; simp
    rw [← hc, get_flatK _ _ _ _ (by simpa using hj')]
    obtain ⟨k, hk | hk⟩ : ∃ k, j = k * 2 ∨ j = k * 2 + 1 := ⟨j / 2, by omega⟩
    · subst hk
      have hkx : k < xs.length := by omega
      rw [(cellsIv_get xs k hkx).1, show k * 2 / 2 = k by omega, show k * 2 % 2 = 0 by omega]
      simp [encIv, hkx, List.getD]
    · subst hk
      have hkx : k < xs.length := by omega
      rw [(cellsIv_get xs k hkx).2, show (k * 2 + 1) / 2 = k by omega, show (k * 2 + 1) % 2 = 1 by omega]
      simp [encIv, hkx, List.getD]

theorem lies_of_holds {w : World} {g : Nat} {d : Array Iv} (h : HoldsK encIv 2 w g 0 d) {B : Nat} (hg : g < B) : Lies w B (some ⟨g, 0, none⟩) d.toList := fun _ => by
  refine ⟨g, 0, rfl, hg, fun k hk => ?_⟩
  have hk' : k < d.size := by simpa using hk
  have h1 := (h (k * 2) (by simp; omega)).1
  have h2 := (h (k * 2 + 1) (by simp; omega)).1
  rw [get_flatK _ _ _ _ (by omega), show k * 2 / 2 = k by omega, show k * 2 % 2 = 0 by omega] at h1
  rw [get_flatK _ _ _ _ (by omega), show (k * 2 + 1) / 2 = k by omega, show (k * 2 + 1) % 2 = 1 by omega] at h2
  have e : d.toList.getD k (0, 0) = d[k]! := by simp [List.getD, hk']
  rw [e, Nat.zero_add]
  rw [Nat.zero_add] at h1 h2
  exact ⟨h1, h2⟩

theorem sort_own (xs : List Iv) (v : Value) (base : Nat) (w : World) (h : OwnIv w base v xs) (hbig : xs.length ≤ 1000000000000) :
    Calls Tryd.prog 83 #[v, .func (.func 84) #[] #[]] w fun e w' => e = .returned (.tuple #[]) ∧ ∃ ys, ys.Perm xs ∧ ys.Pairwise (fun x y => x.1 ≤ y.1) ∧ SliceIv w' w.heap.size v ys ∧ Below base w w' := by
  have hs := OwnIv.slice h
  by_cases h0 : xs.length = 0
  · obtain rfl := List.eq_nil_of_length_eq_zero h0
    obtain ⟨A, c, rfl, hA⟩ := hs
    have hc := AnyF.slices_SortFunc_none Tryd.sortIv A c (.func (.func 84) #[] #[]) w
    change Calls Tryd.prog 83 _ _ _ at hc
    refine hc.mono ?_
    rintro e w' ⟨rfl, rfl⟩
    exact ⟨rfl, [], List.Perm.refl _, List.Pairwise.nil, ⟨A, c, rfl, hA⟩, Below.refl _ _⟩
  · rcases h.2 with ⟨he, hn⟩ | ⟨g, cap, cur, rfl, hbg, hg, _⟩
    · exact absurd hn h0
    · have hH := holds_of_own h
      have hlt : g < w.heap.size := (Array.getElem?_eq_some_iff.1 hg).1
      have eg : ∀ args w, (callFunc 84 args).run Tryd.prog w = .ok (.enter 84 args) w := enters_of Tryd.func84 (by kernel_rfl) rfl
      have hc := AnyQ.slices_SortFunc Tryd.sortIv 2 Tryd.isAgg23 Tryd.sizeOf23 encIv (fun _ => rfl) (fun x v hv => by simp [encIv] at hv; rcases hv with rfl | rfl <;> rfl) (fun x y : Iv => cmpI x.1 y.1) swoIv 84 #[] g 0 cap xs.toArray w eg (fun _ _ _ _ x y => closure_any x y _) hH hlt (by simp; omega)
      change Calls Tryd.prog 83 _ _ _ at hc
      refine hc.mono ?_
      rintro e w' ⟨rfl, d', n, os, hp, hsd, rfl⟩
      have hsz : d'.size = xs.length := by simpa using hp.1
      have hperm : d'.toList.Perm xs := by
        have := hp.2.2
        rw [show (xs.toArray).size = d'.size by simpa using hsz.symm] at this
        rw [Array.extract_size] at this
        simpa [hsz] using this
      refine ⟨rfl, d'.toList, hperm, ?_, ⟨some ⟨g, 0, none⟩, cap, by simp [hsz], (fun h => by cases h), ?_⟩, below_sortWorld _ _ _ _ _ _ _ _ hbg hlt⟩
      · rw [List.pairwise_iff_getElem]
        intro i j hi hj hij
        have := hsd i j (Nat.zero_le _) hij (by simp at hj ⊢; omega)
        rw [ltIv] at this
        simp only [decide_eq_false_iff_not] at this
        have e1 : d'[i]! = d'.toList[i] := by simp at hi; simp [hi]
        have e2 : d'[j]! = d'.toList[j] := by simp at hj; simp [hj]
        rw [e1, e2] at this
        omega
      · refine lies_of_holds ?_ hlt
        exact holdsK_grow encIv 2 _ os g 0 d' (by show g < (w.heap.modify g _).size; simpa using hlt) (holdsK_putRowK encIv 2 _ g 0 xs.toArray d' (holdsK_ahead encIv 2 w n g 0 xs.toArray hH) (by simpa using hsz))
end Go.Proofs.YtbhkbhaepefdgaaDoor
