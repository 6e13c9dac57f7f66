/- Layer 5 (polygon): Reverse of the program. -/
import Derived.Test.YtbdlbcnjbafloaaPcN
import Derived.Test.YtbdlbcnjbafloaaPoS
import Derived.WalkKit
import Derived.Lib.Hide
import Derived.Laws.AppendOwn
import Derived.Lib.SliceRun
import Derived.Lib.Walk
namespace Go.Proofs.Ytbdlbcnjbafloaa
open Go.RowKit Go.Ev
open Go.Sort hiding Below ahead
set_option maxRecDepth 100000
def encP (x : Pt) : List Value := [iv x.1, iv x.2]
theorem ptC_flat (M : List Pt) (j : Nat) (hj : j < M.length * 2) : (ptC M)[j]? = some (flatK encP 2 M.toArray)[j]! := by
  rw [get_flatK _ _ _ _ (by simpa using hj)]
  obtain ⟨k, hk | hk⟩ : ∃ k, j = k * 2 ∨ j = k * 2 + 1 := ⟨j / 2, by omega⟩
  · subst hk
    have hkx : k < M.length := by omega
    rw [show k * 2 / 2 = k by omega, show k * 2 % 2 = 0 by omega, (ptC_get M k M[k] (by simp)).1]
    simp [encP, hkx]
  · subst hk
    have hkx : k < M.length := by omega
    rw [show (k * 2 + 1) / 2 = k by omega, show (k * 2 + 1) % 2 = 1 by omega, (ptC_get M k M[k] (by simp)).2]
    simp [encP, hkx]
theorem take_eq {cur : Array Value} {M : List Pt} (h : ∀ j, j < M.length * 2 → cur[j]? = some (flatK encP 2 M.toArray)[j]!) : cur.toList.take (M.length * 2) = ptC M := by
  apply List.ext_getElem?
  intro j
  by_cases hj : j < M.length * 2
  · rw [List.getElem?_take, if_pos hj, ptC_flat M j hj, ← h j hj]; simp
  · rw [List.getElem?_eq_none (by rw [List.length_take]; omega), List.getElem?_eq_none (by rw [ptC_len]; omega)]
theorem holds_pt {w : World} {g : Nat} {cur : Array Value} {e : TypeId} {L : List Pt} (hg : w.heap[g]? = some (.cells cur e (0, 0))) (ht : cur.toList.take (L.length * 2) = ptC L) : HoldsK encP 2 w g 0 L.toArray := by
  intro j hj
  have hj' : j < L.length * 2 := by simpa using hj
  rw [Nat.zero_add]
  refine ⟨?_, by simp [World.frozen?, hg]⟩
  rw [cell_of_row w g j cur _ _ hg]
  have := ptC_flat L j hj'
  rw [← ht, List.getElem?_take, if_pos hj'] at this
  simpa using this
/-- A row that a call owns, behind other points put there. -/
theorem put_pts {w : World} {g n : Nat} {cur : Array Value} {e : TypeId} {L M : List Pt} (hg : w.heap[g]? = some (.cells cur e (0, 0))) (ht : cur.toList.take (L.length * 2) = ptC L) (hl : M.length = L.length) :
    ∃ cur', (putRowK encP 2 (Go.Sort.ahead w n) g 0 M.toArray).heap[g]? = some (.cells cur' e (0, 0)) ∧ cur'.size = cur.size ∧ cur'.toList.take (M.length * 2) = ptC M := by
  have hh := holdsK_putRowK encP 2 (Go.Sort.ahead w n) g 0 L.toArray M.toArray (holdsK_ahead encP 2 w n g 0 L.toArray (holds_pt hg ht)) (by simpa using hl)
  have hp : (putRowK encP 2 (Go.Sort.ahead w n) g 0 M.toArray).heap[g]? = some (.cells (putCells id 0 (flatK encP 2 M.toArray) cur) e (0, 0)) := by
    show (w.heap.modify g _)[g]? = _
    rw [Array.getElem?_modify, if_pos rfl, hg]
    rfl
  refine ⟨_, hp, by unfold putCells; simp, take_eq fun j hj => ?_⟩
  have := (hh j (by simpa using hj)).1
  rw [Nat.zero_add, cell_of_row _ g j _ _ _ hp] at this
  exact this
theorem below_put {w0 w : World} {g n : Nat} {F : Array Pt} (h : Below w0.heap.size w0 w) (hg : w0.heap.size ≤ g) : Below w0.heap.size w0 (putRowK encP 2 (Go.Sort.ahead w n) g 0 F) := by
  refine h.trans ⟨rfl, rfl, rfl, by simp [putRowK, putRow, mapBlock, Go.Sort.ahead], fun k hk => ?_⟩
  show (w.heap.modify g _)[k]? = _
  rw [Array.getElem?_modify, if_neg (by omega)]
theorem clone_pts (B : Nat) (L : List Pt) (b off c : Nat) (hn : L.length ≤ 1000000) (w : World) (hP : PtsAt B L (some ⟨b, off, none⟩) w) :
    Calls Try.prog 26 #[.slice (some ⟨b, off, none⟩) L.length c] w fun e w' => ∃ g cap cur, e = .returned (.slice (some ⟨g, 0, none⟩) L.length cap) ∧ w.heap.size ≤ g ∧ w'.heap[g]? = some (.cells cur tPt (0, 0)) ∧ cap ≤ maxLen ∧ cur.size = cap * 2 ∧ cur.toList.take (L.length * 2) = ptC L ∧ Below w.heap.size w w' := by
  have h1 : (Try.prog.info? tPt).map (fun i => (i.size, i.bytes, i.zero)) = some (2, 16, some (.agg #[iv 0, iv 0])) := by kernel_rfl
  obtain ⟨i0, hi, h2⟩ := Option.map_eq_some_iff.1 h1
  simp only [Prod.mk.injEq] at h2
  refine (AnyE.slices_Clone Try.clonePt i0 (.agg #[iv 0, iv 0]) 2 16 hi h2.2.2 h2.1 h2.2.1 rfl (by decide) Try.sizeOf31 b off L.length c (ptC L) w (ptC_len L) (by unfold maxLen; omega) (by omega) (fun j u hu => ?_) (fun u hu => ?_)).mono fun e w' h => ?_
  · have := (hP.cell _ rfl).2 j u hu
    rwa [Addr.add_mid] at this
  · unfold ptC at hu
    simp only [List.mem_flatMap, List.mem_cons, List.not_mem_nil, or_false] at hu
    obtain ⟨p, _, rfl | rfl⟩ := hu <;> rfl
  · obtain ⟨v', rfl, ⟨hl, hh | hh⟩, hne, hb⟩ := h
    · exact absurd hh.1 hne
    · obtain ⟨g, cap, cur, rfl, g1, g2, g3, g4, g5, g6⟩ := hh
      exact ⟨g, cap, cur, rfl, g1, g2, g4, g5, g6, hb⟩
theorem rev_pts (L : List Pt) (g cap : Nat) (cur : Array Value) (hn : L.length ≤ 1000000) (w : World) (hg : w.heap[g]? = some (.cells cur tPt (0, 0))) (ht : cur.toList.take (L.length * 2) = ptC L) :
    Calls Try.prog 27 #[.slice (some ⟨g, 0, none⟩) L.length cap] w fun e w' => e = .returned (.tuple #[]) ∧ ∃ cur', w'.heap[g]? = some (.cells cur' tPt (0, 0)) ∧ cur'.size = cur.size ∧ cur'.toList.take (L.length * 2) = ptC L.reverse ∧ ∀ w0 : World, Below w0.heap.size w0 w → w0.heap.size ≤ g → Below w0.heap.size w0 w' := by
  refine (AnyQ.slices_Reverse Try.reversePt 2 Try.isAgg31 Try.sizeOf31 encP (fun _ => rfl) (fun x v hv => ?_) g 0 cap L.toArray w (holds_pt hg ht) (by simp; omega)).mono fun e w' h => ?_
  · simp only [encP, List.mem_cons, List.not_mem_nil, or_false] at hv
    rcases hv with rfl | rfl <;> rfl
  · obtain ⟨rfl, m, rfl⟩ := h
    obtain ⟨cur', q1, q2, q3⟩ := put_pts (n := m) (M := L.reverse) hg ht (by simp)
    rw [← List.reverse_toArray] at q1
    rw [List.length_reverse] at q3
    exact ⟨rfl, cur', q1, q2, q3, fun w0 hb hge => below_put hb hge⟩
/-- An empty slice at any address, cloned. -/
theorem clone_zero (ad : Addr) (c : Nat) (w : World) :
    Calls Try.prog 26 #[.slice (some ad) 0 c] w fun e w' => ∃ g cap cur, e = .returned (.slice (some ⟨g, 0, none⟩) 0 cap) ∧ w.heap.size ≤ g ∧ w'.heap[g]? = some (.cells cur tPt (0, 0)) ∧ cap ≤ maxLen ∧ cur.size = cap * 2 ∧ cur.toList.take (0 * 2) = ptC [] ∧ Below w.heap.size w w' := by
  have h1 : (Try.prog.info? tPt).map (fun i => (i.size, i.bytes, i.zero)) = some (2, 16, some (.agg #[iv 0, iv 0])) := by kernel_rfl
  obtain ⟨i0, hi, h2⟩ := Option.map_eq_some_iff.1 h1
  simp only [Prod.mk.injEq] at h2
  have q22 : ∀ (w : World) (a : Option Addr) (n c n' c' : Nat), (binOp .eql 23 (.slice a n c) (.slice none n' c')).run Try.prog w = .ok (.bool a.isNone) w := fun w a n c n' c' => Lib.run_eql_slice_nil w _ _ a n c n' c' Try.underlying23
  go_enter Try.func26, Try.ntmps26
  go_wp2_with (at_builtin; refine wpList_append_own _ rfl _ _ 23 rfl w.heap.size 31 i0 (.agg #[iv 0, iv 0]) 2 16 Try.underlying23 hi h2.2.2 h2.1 h2.2.1 rfl (by decide) _ _ _ rfl (World.ownsRow_made w #[] 0 (Nat.le_refl _) (Nat.zero_le _) (by simp)) ad 0 c [] rfl rfl (fun j u hu => by cases hu) (fun u hu => by cases hu) (by simp [maxLen]) (by omega) (by simp) ?_)
  intro v' w1 hown hgrow hnil
  go_wp2
  go_ret
  obtain ⟨hl, hh | hh⟩ := hown
  · exact absurd hh.1 hnil
  · obtain ⟨g, cap, cur, rfl, g1, g2, g3, g4, g5, g6⟩ := hh
    exact ⟨g, cap, cur, rfl, g1, g2, g4, g5, g6, ((Below.refl _ w).alloc (Nat.le_refl _) _).grown hgrow (by simp) (by intro k hk; simp [Value.ownBlock] at hk; omega)⟩
theorem clone_all (B : Nat) (L : List Pt) (ad : Addr) (c : Nat) (hn : L.length ≤ 1000000) (w : World) (hP : PtsAt B L (some ad) w) :
    Calls Try.prog 26 #[.slice (some ad) L.length c] w fun e w' => ∃ g cap cur, e = .returned (.slice (some ⟨g, 0, none⟩) L.length cap) ∧ w.heap.size ≤ g ∧ w'.heap[g]? = some (.cells cur tPt (0, 0)) ∧ cap ≤ maxLen ∧ cur.size = cap * 2 ∧ cur.toList.take (L.length * 2) = ptC L ∧ Below w.heap.size w w' := by
  match L, hn, hP with
  | [], _, _ => exact clone_zero ad c w
  | p :: L, hn, hP =>
    obtain ⟨b, off, spot⟩ := ad
    have h0 := (hP.cell _ rfl).2 0 (iv p.1) rfl
    have hs : spot = none := by
      have := World.cell?_spot h0
      simpa [Addr.add] using this
    subst hs
    exact clone_pts B (p :: L) b off c hn w hP
theorem prev_any (B : Nat) (L : List Pt) (ad : Addr) (c : Nat) (hn : L.length ≤ 1000000) (w : World) (hP : PtsAt B L (some ad) w) :
    Calls Try.prog 12 #[.slice (some ad) L.length c] w fun e w' => Below w.heap.size w w' ∧ ∃ p : Nat × Nat, w.heap.size ≤ p.1 ∧ RowIs (ptC L.reverse) tPt 2 p w' ∧ e = .returned (.slice (some ⟨p.1, 0, none⟩) L.length p.2) := by
  have HC := Lib.hid (clone_all B L ad c hn w hP)
  have HR := Lib.hid (fun g cap cur w => rev_pts L g cap cur hn w)
  have HL : Hid ((ptC L.reverse).length = L.length * 2) := Lib.hid (by rw [ptC_len, List.length_reverse])
  generalize L.length = n at *
  clear hP hn
  go_enter Try.func12, Try.ntmps12
  go_wp2_with (first | (go_at_call 26; refine HC.out.mono ?_; rintro e w1 ⟨g, cap, cur, rfl, hge, hg, hcap, hsz, ht, hb⟩) | (go_at_call 27; refine (HR.out g cap cur w1 hg ht).mono ?_; rintro e w2 ⟨rfl, cur', h1, h2, h3, h4⟩))
  simp [bodyPost, results, Try.results12, go_sem]
  exact ⟨h4 w hb hge, hge, cur', h1, by rw [HL.out]; exact h3, by rw [h2, hsz], hcap⟩
end Go.Proofs.Ytbdlbcnjbafloaa
