/- Pieces of code over blocks of known cells. -/
import Derived.Test.YtllnglofbhmcgaaGreatTkF
namespace Go.Ev
open Go.RowKit
/-- The blocks at these places hold exactly these cells. -/
structure Cs (pl : List (Nat × Nat)) (bv : List (TypeId × List Value)) (w : World) : Prop where
  len : pl.length = bv.length
  cells : ∀ (i : Nat) (p : Nat × Nat) (b : TypeId × List Value), pl[i]? = some p → bv[i]? = some b → w.heap[p.1]? = some (.cells b.2.toArray b.1 (0, 0))
theorem code_B [Ctxt] {P : Program} (hm : P.follows .mixedOrders = true) (hk : KnownOK P) (hpin : Ctxt.pin = 0) (fuel : Nat) {c : Code} {n : Nat} (tl : List (Nat × CV)) (bl : List Blk) (pl : List (Nat × Nat)) (ex : Ex) (want : List (Nat × CV)) (wb : List Blk) {tv : List (Nat × Value)} {bv : List (TypeId × List Value)}
    (tv' : List (Nat × Nat) → List (Nat × Value)) (bv' : List (Nat × Nat) → List (TypeId × List Value)) {a : Act} {w : World}
    (h : ∀ u, outC (want.map (·.1)) (List.range wb.length) (evalC P fuel true 0 c (frOf n tl u) ⟨bl.length, memOf 0 bl⟩) = some (ex, want.map (·.2), wb.map some, [], n))
    (hr : ∀ b ∈ bl, b.row = none) (hr' : ∀ b ∈ wb, b.row = none)
    (ht : tl.map (fun x => (den (plX pl) x.2).map fun v => (x.1, v)) = tv.map some) (hb : bl.map (fun b => (denL (plX pl) b.cs).map fun vs => (b.ty, vs)) = bv.map some)
    (ht' : ∀ pl', pl'.length = wb.length → want.map (fun x => (den (plX pl') x.2).map fun v => (x.1, v)) = (tv' pl').map some)
    (hb' : ∀ pl', pl'.length = wb.length → wb.map (fun b => (denL (plX pl') b.cs).map fun vs => (b.ty, vs)) = (bv' pl').map some)
    (hs : Tmps n tv a) (hc : Cs pl bv w) (hnd : (pl.map (·.1)).Nodup) (hKw : Ctxt.K w) (hBw : Ctxt.B ≤ w.heap.size) (hpl : ∀ p ∈ pl, Ctxt.B ≤ p.1)
    {Q : Exit → Act → World → Prop} (hQ : ∀ a' w' (pl' : List (Nat × Nat)), pl'.length = wb.length → (pl'.map (·.1)).Nodup → (∀ (i : Nat), i < wb.length → ∀ p, pl[i]? = some p → pl'[i]? = some p) → (∀ p ∈ pl', w.heap.size ≤ p.1 ∨ ∃ q ∈ pl, q.1 = p.1) →
      Tmps n (tv' pl') a' → Cs pl' (bv' pl') w' → Near (pl.map (·.1)) w w' → Q ex.to a' w') : c.wp P Q a w := by
  have hlb : bl.length = bv.length := by have := congrArg List.length hb; simpa using this
  refine code_X hm hk hpin fuel tl bl ex (want.map (·.1)) (List.range wb.length) (want.map (·.2)) (wb.map some) pl h hnd (hc.len.trans hlb.symm) hKw hBw hpl hs.size hs.defers (fun x hx => tmps_in hs ht x hx) (fun i b hi => ?_) fun e' a' w' h1 h2 h3 h4 h6 h7 h5 => ?_
  · have h8 : some ((denL (plX pl) b.cs).map fun vs => (b.ty, vs)) = (bv[i]?).map some := by
      have := congrArg (fun l => l[i]?) hb
      simpa [hi] using this
    cases hv : bv[i]? with
    | none => rw [hv] at h8; cases h8
    | some y =>
      rw [hv] at h8
      simp only [Option.map_some, Option.some.injEq] at h8
      obtain ⟨vs, g1, g2⟩ := Option.map_eq_some_iff.1 h8
      have hil : i < pl.length := by rw [hc.len]; exact (List.getElem?_eq_some_iff.1 hv).1
      have hcc := hc.cells i (pl[i]) y (by simp) hv
      refine ⟨pl[i], by simp, RepB.of vs.toArray vs ?_ g1 (by simp) ?_⟩
      · rw [hcc, ← g2]
      · rw [hr b (List.mem_of_getElem? hi)]; simp
  · have hex : ∀ i, i < wb.length → ∃ p, e' i = some p := fun i hi => by
      obtain ⟨p, g, _⟩ := h4 i i wb[i] (by simp [hi]) (by simp [hi])
      exact ⟨p, g⟩
    obtain ⟨pl', hpl'⟩ : ∃ pl', pl' = (List.range wb.length).map fun i => (e' i).getD (0, 0) := ⟨_, rfl⟩
    have hl' : pl'.length = wb.length := by rw [hpl']; simp
    have hget : ∀ i, i < wb.length → pl'[i]? = e' i := fun i hi => by
      obtain ⟨p, hp⟩ := hex i hi
      rw [hpl', hp]
      simp [hi, hp]
    have hle : ∀ i p, plX pl' i = some p → e' i = some p := fun i p hi => by
      have hi : pl'[i]? = some p := hi
      have hlt : i < wb.length := by rw [← hl']; exact (List.getElem?_eq_some_iff.1 hi).1
      rw [← hget i hlt]; exact hi
    have hbk : ∀ i, (hi : i < wb.length) → ∀ p, pl'[i]? = some p → RepB e' wb[i] p w' ∧ (w.heap.size ≤ p.1 ∨ ∃ q ∈ pl, q.1 = p.1) := fun i hi p hp => by
      obtain ⟨q, g1, g2, _, g3⟩ := h4 i i wb[i] (by simp [hi]) (by simp [hi])
      rw [hget i hi, g1] at hp
      cases hp
      exact ⟨g2, g3⟩
    refine hQ a' w' pl' hl' ?_ (fun i hi p hp => by rw [hget i hi]; exact h6 i p hp) (fun p hp => ?_) (tmps_of h1 h2 (e := e') (want := want) (fun x hx => ?_) ?_) ⟨?_, fun i p b hp hbv => ?_⟩ h5
    · rw [List.nodup_iff_pairwise_ne, List.pairwise_iff_getElem]
      intro i j hi hj hij heq
      simp only [List.length_map] at hi hj
      simp only [List.getElem_map] at heq
      have hi' : i < wb.length := by omega
      have hj' : j < wb.length := by omega
      have := h7 i j i j wb[i] wb[j] pl'[i] pl'[j] (by simp [hi']) (by simp [hj']) (by simp [hi']) (by simp [hj']) (by rw [← hget i hi']; simp) (by rw [← hget j hj']; simp) heq
      omega
    · obtain ⟨i, hi, rfl⟩ := List.getElem_of_mem hp
      exact (hbk i (by omega) _ (by simp)).2
    · obtain ⟨j, hj⟩ := List.getElem?_of_mem hx
      exact h3 j x.1 x.2 (by simp [hj]) (by simp [hj])
    · rw [← ht' pl' hl']
      apply List.map_congr_left
      intro x hx
      have h9 : (den (plX pl') x.2).map (fun v => (x.1, v)) ∈ (tv' pl').map some := by rw [← ht' pl' hl']; exact List.mem_map_of_mem (f := fun x => (den (plX pl') x.2).map fun v => (x.1, v)) hx
      obtain ⟨y, _, hy⟩ := List.mem_map.1 h9
      cases hv : den (plX pl') x.2 with
      | none => rw [hv] at hy; cases hy
      | some v => rw [den_mono hle _ _ hv]
    · have := congrArg List.length (hb' pl' hl')
      simp at this
      omega
    · have hi : i < wb.length := by rw [← hl']; exact (List.getElem?_eq_some_iff.1 hp).1
      obtain ⟨c, us, fz, g1, g2, g3, g4, g5⟩ := ((hbk i hi p hp).1).ofRow (by rw [hr' _ (List.getElem_mem hi)]; simp)
      have h8 : some ((denL (plX pl') wb[i].cs).map fun vs => (wb[i].ty, vs)) = ((bv' pl')[i]?).map some := by
        have := congrArg (fun l => l[i]?) (hb' pl' hl')
        simpa [hi] using this
      rw [hbv] at h8
      simp only [Option.map_some, Option.some.injEq] at h8
      obtain ⟨vs, g6, g7⟩ := Option.map_eq_some_iff.1 h8
      rw [denL_mono hle _ _ g6] at g2
      cases g2
      have gz : fz = (0, 0) := by
        rcases g4 with g4 | g4
        · rw [hr' _ (List.getElem_mem hi)] at g4; cases g4
        · exact g4
      rw [hr' _ (List.getElem_mem hi)] at g5
      have g5 : c.size = us.length := g5
      have e1 : c.toList = us := by rw [← g3, List.take_of_length_le (by simp; omega)]
      rw [g1, gz, ← g7, ← e1]
/-- The same for a row of statements. -/
theorem code_BL [Ctxt] {P : Program} (hm : P.follows .mixedOrders = true) (hk : KnownOK P) (hpin : Ctxt.pin = 0) (fuel : Nat) (cs : List Code) {y : Code} {n : Nat} (tl : List (Nat × CV)) (bl : List Blk) (pl : List (Nat × Nat)) (want : List (Nat × CV)) (wb : List Blk) {tv : List (Nat × Value)} {bv : List (TypeId × List Value)}
    (tv' : List (Nat × Nat) → List (Nat × Value)) (bv' : List (Nat × Nat) → List (TypeId × List Value)) {a : Act} {w : World}
    (h : ∀ u, outC (want.map (·.1)) (List.range wb.length) (evalL P fuel cs (frOf n tl u) ⟨bl.length, memOf 0 bl⟩) = some (.normal, want.map (·.2), wb.map some, [], n))
    (hr : ∀ b ∈ bl, b.row = none) (hr' : ∀ b ∈ wb, b.row = none)
    (ht : tl.map (fun x => (den (plX pl) x.2).map fun v => (x.1, v)) = tv.map some) (hb : bl.map (fun b => (denL (plX pl) b.cs).map fun vs => (b.ty, vs)) = bv.map some)
    (ht' : ∀ pl', pl'.length = wb.length → want.map (fun x => (den (plX pl') x.2).map fun v => (x.1, v)) = (tv' pl').map some)
    (hb' : ∀ pl', pl'.length = wb.length → wb.map (fun b => (denL (plX pl') b.cs).map fun vs => (b.ty, vs)) = (bv' pl').map some)
    (hs : Tmps n tv a) (hc : Cs pl bv w) (hnd : (pl.map (·.1)).Nodup) (hKw : Ctxt.K w) (hBw : Ctxt.B ≤ w.heap.size) (hpl : ∀ p ∈ pl, Ctxt.B ≤ p.1)
    {Q : Exit → Act → World → Prop} (hQ : ∀ a' w' (pl' : List (Nat × Nat)), pl'.length = wb.length → (pl'.map (·.1)).Nodup → (∀ (i : Nat), i < wb.length → ∀ p, pl[i]? = some p → pl'[i]? = some p) → (∀ p ∈ pl', w.heap.size ≤ p.1 ∨ ∃ q ∈ pl, q.1 = p.1) →
      Tmps n (tv' pl') a' → Cs pl' (bv' pl') w' → Near (pl.map (·.1)) w w' → y.wp P Q a' w') : (cs.foldr Code.seq y).wp P Q a w := by
  have hlb : bl.length = bv.length := by have := congrArg List.length hb; simpa using this
  refine code_XL hm hk hpin fuel cs tl bl (want.map (·.1)) (List.range wb.length) (want.map (·.2)) (wb.map some) pl h hnd (hc.len.trans hlb.symm) hKw hBw hpl hs.size hs.defers (fun x hx => tmps_in hs ht x hx) (fun i b hi => ?_) fun e' a' w' h1 h2 h3 h4 h6 h7 h5 => ?_
  · have h8 : some ((denL (plX pl) b.cs).map fun vs => (b.ty, vs)) = (bv[i]?).map some := by
      have := congrArg (fun l => l[i]?) hb
      simpa [hi] using this
    cases hv : bv[i]? with
    | none => rw [hv] at h8; cases h8
    | some y =>
      rw [hv] at h8
      simp only [Option.map_some, Option.some.injEq] at h8
      obtain ⟨vs, g1, g2⟩ := Option.map_eq_some_iff.1 h8
      have hil : i < pl.length := by rw [hc.len]; exact (List.getElem?_eq_some_iff.1 hv).1
      have hcc := hc.cells i (pl[i]) y (by simp) hv
      refine ⟨pl[i], by simp, RepB.of vs.toArray vs ?_ g1 (by simp) ?_⟩
      · rw [hcc, ← g2]
      · rw [hr b (List.mem_of_getElem? hi)]; simp
  · have hex : ∀ i, i < wb.length → ∃ p, e' i = some p := fun i hi => by
      obtain ⟨p, g, _⟩ := h4 i i wb[i] (by simp [hi]) (by simp [hi])
      exact ⟨p, g⟩
    obtain ⟨pl', hpl'⟩ : ∃ pl', pl' = (List.range wb.length).map fun i => (e' i).getD (0, 0) := ⟨_, rfl⟩
    have hl' : pl'.length = wb.length := by rw [hpl']; simp
    have hget : ∀ i, i < wb.length → pl'[i]? = e' i := fun i hi => by
      obtain ⟨p, hp⟩ := hex i hi
      rw [hpl', hp]
      simp [hi, hp]
    have hle : ∀ i p, plX pl' i = some p → e' i = some p := fun i p hi => by
      have hi : pl'[i]? = some p := hi
      have hlt : i < wb.length := by rw [← hl']; exact (List.getElem?_eq_some_iff.1 hi).1
      rw [← hget i hlt]; exact hi
    have hbk : ∀ i, (hi : i < wb.length) → ∀ p, pl'[i]? = some p → RepB e' wb[i] p w' ∧ (w.heap.size ≤ p.1 ∨ ∃ q ∈ pl, q.1 = p.1) := fun i hi p hp => by
      obtain ⟨q, g1, g2, _, g3⟩ := h4 i i wb[i] (by simp [hi]) (by simp [hi])
      rw [hget i hi, g1] at hp
      cases hp
      exact ⟨g2, g3⟩
    refine hQ a' w' pl' hl' ?_ (fun i hi p hp => by rw [hget i hi]; exact h6 i p hp) (fun p hp => ?_) (tmps_of h1 h2 (e := e') (want := want) (fun x hx => ?_) ?_) ⟨?_, fun i p b hp hbv => ?_⟩ h5
    · rw [List.nodup_iff_pairwise_ne, List.pairwise_iff_getElem]
      intro i j hi hj hij heq
      simp only [List.length_map] at hi hj
      simp only [List.getElem_map] at heq
      have hi' : i < wb.length := by omega
      have hj' : j < wb.length := by omega
      have := h7 i j i j wb[i] wb[j] pl'[i] pl'[j] (by simp [hi']) (by simp [hj']) (by simp [hi']) (by simp [hj']) (by rw [← hget i hi']; simp) (by rw [← hget j hj']; simp) heq
      omega
    · obtain ⟨i, hi, rfl⟩ := List.getElem_of_mem hp
      exact (hbk i (by omega) _ (by simp)).2
    · obtain ⟨j, hj⟩ := List.getElem?_of_mem hx
      exact h3 j x.1 x.2 (by simp [hj]) (by simp [hj])
    · rw [← ht' pl' hl']
      apply List.map_congr_left
      intro x hx
      have h9 : (den (plX pl') x.2).map (fun v => (x.1, v)) ∈ (tv' pl').map some := by rw [← ht' pl' hl']; exact List.mem_map_of_mem (f := fun x => (den (plX pl') x.2).map fun v => (x.1, v)) hx
      obtain ⟨y, _, hy⟩ := List.mem_map.1 h9
      cases hv : den (plX pl') x.2 with
      | none => rw [hv] at hy; cases hy
      | some v => rw [den_mono hle _ _ hv]
    · have := congrArg List.length (hb' pl' hl')
      simp at this
      omega
    · have hi : i < wb.length := by rw [← hl']; exact (List.getElem?_eq_some_iff.1 hp).1
      obtain ⟨c, us, fz, g1, g2, g3, g4, g5⟩ := ((hbk i hi p hp).1).ofRow (by rw [hr' _ (List.getElem_mem hi)]; simp)
      have h8 : some ((denL (plX pl') wb[i].cs).map fun vs => (wb[i].ty, vs)) = ((bv' pl')[i]?).map some := by
        have := congrArg (fun l => l[i]?) (hb' pl' hl')
        simpa [hi] using this
      rw [hbv] at h8
      simp only [Option.map_some, Option.some.injEq] at h8
      obtain ⟨vs, g6, g7⟩ := Option.map_eq_some_iff.1 h8
      rw [denL_mono hle _ _ g6] at g2
      cases g2
      have gz : fz = (0, 0) := by
        rcases g4 with g4 | g4
        · rw [hr' _ (List.getElem_mem hi)] at g4; cases g4
        · exact g4
      rw [hr' _ (List.getElem_mem hi)] at g5
      have g5 : c.size = us.length := g5
      have e1 : c.toList = us := by rw [← g3, List.take_of_length_le (by simp; omega)]
      rw [g1, gz, ← g7, ← e1]
end Go.Ev
