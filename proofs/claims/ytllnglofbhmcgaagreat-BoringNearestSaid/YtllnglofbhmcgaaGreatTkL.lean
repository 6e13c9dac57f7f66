/- An argument that is a list of elements made of integers. -/
import Derived.Test.YtllnglofbhmcgaaGreatTkH
import Derived.Test.YtllnglofbhmcgaaGreatEvV
import Derived.ProofKit
import Derived.OpenShut
import Derived.Deep.Slices
namespace Go.Ev
open Go.ChangeShapes Go.WideShapes Go.ChangeAt Go.RowKit Go.Deep
variable {P : Program} {H : Type} {enc : TypeId × Value → H}
/-- A list of elements of flat types, opened. -/
theorem open_els {α : Type} {ec : α → List Value} {z : Nat} (hz : ∀ x, (ec x).length = z) (h0 : 0 < z) {t e : TypeId} {ks : List IntKind} (ht : P.underlying t = some (.slice e)) (hk : flatT P 20 e = some ks) (hc : P.cellsOf e = z) (mk : List (IntKind × Int) → α)
    (hmk : ∀ l : KI, l.map (·.1) = ks → l.wf → ec (mk l) = l.V) {W : World} {v : Value} {d : DataW H} {ps : List MemPlace} {r : Reach} {b0 : Nat} (hv : Value.okWide P W r b0 t v) (h : DataW.Trod enc P W 0 (fun _ => true) true t v d ps) :
    ∃ L a c, v = .slice a L.length c ∧ (a = none → c = 0) ∧ (∀ x ∈ L, ∃ l : KI, l.map (·.1) = ks ∧ l.wf ∧ x = mk l) ∧ ElAt ec W.heap.size L a W := by
  obtain ⟨a0, len, cap, rfl⟩ := okWide_slice ht hv
  obtain ⟨fuel, hf⟩ := h
  rcases open_slice ht hf with ⟨hcs, _⟩ | ⟨a, len', cap', m, n, D, Pl, hcs, _, hlc, _, hm, _, hi⟩
  · simp [Value.cells] at hcs
    obtain ⟨rfl, rfl, rfl⟩ := hcs
    exact ⟨[], none, 0, rfl, fun _ => rfl, (fun x hx => by cases hx), elAt_nil _ _⟩
  · simp [Value.cells] at hcs
    obtain ⟨rfl, rfl, rfl⟩ := hcs
    simp only [if_true] at hm
    rw [hc] at hi
    have key : ∀ i, i < len → ∃ l : KI, l.map (·.1) = ks ∧ l.wf ∧ ∀ j x, (ec (mk l))[j]? = some x → W.cell? (a.add (i * z + j)) = some x := fun i hi' => by
      obtain ⟨cs', h1, h2⟩ := hi i (by omega)
      obtain ⟨_, hlen, hcell⟩ := World.cells?_some h1
      obtain ⟨l, l1, l2, l3, _⟩ := trod_flat 20 e ks hk n _ _ h2
      refine ⟨l, l1, l2, fun j x hx => ?_⟩
      rw [hmk l l1 l2, ← l3] at hx
      have hj : j < cs'.length := (List.getElem?_eq_some_iff.1 hx).1
      have := hcell j (by omega)
      rw [addA] at this
      rw [this]
      exact hx
    obtain ⟨f, hf'⟩ : ∃ f : Nat → KI, ∀ i, i < len → (f i).map (·.1) = ks ∧ (f i).wf ∧ ∀ j x, (ec (mk (f i)))[j]? = some x → W.cell? (a.add (i * z + j)) = some x := by
      refine ⟨fun i => if h : i < len then (key i h).choose else [], fun i hi' => ?_⟩
      simp only [hi', dif_pos]
      exact (key i hi').choose_spec
    refine ⟨(List.range len).map fun i => mk (f i), some a, cap, by simp, (fun h => by cases h), fun x hx => ?_, fun _ => ⟨a, rfl⟩, fun a' ha => ?_⟩
    · simp only [List.mem_map, List.mem_range] at hx
      obtain ⟨i, hi', rfl⟩ := hx
      exact ⟨f i, (hf' i hi').1, (hf' i hi').2.1, rfl⟩
    · cases ha
      refine ⟨fun hlen => ?_, fun j x hx => ?_⟩
      · have hlen : 0 < len := by simpa using hlen
        have := (hf' 0 hlen).2.2 0 ((ec (mk (f 0)))[0]'(by rw [hz]; exact h0)) (by simp)
        have := World.block_lt_of_cell? W _ this
        rwa [addB] at this
      · have hj := (List.getElem?_eq_some_iff.1 hx).1
        rw [elC_len hz, List.length_map, List.length_range] at hj
        have hq : j / z < len := Nat.div_lt_of_lt_mul (by rw [Nat.mul_comm]; exact hj)
        have hd : j = j / z * z + j % z := by rw [Nat.mul_comm]; exact (Nat.div_add_mod j z).symm
        have hr : j % z < z := Nat.mod_lt _ h0
        have hg := elC_get hz ((List.range len).map fun i => mk (f i)) (j / z) (mk (f (j / z))) (j % z) (by simp [hq]) hr
        rw [← hd, hx] at hg
        have := (hf' (j / z) hq).2.2 (j % z) x hg.symm
        rwa [← hd] at this
/-- A value of a flat type, opened. -/
theorem open_flat {t : TypeId} {ks : List IntKind} {fs : Array Field} (hu : P.underlying t = some (.struct fs)) (hk : flatT P 20 t = some ks) {W : World} {v : Value} {d : DataW H} {ps : List MemPlace} {b0 : Nat} (hv : Value.okWide P W .any b0 t v) (h : DataW.Trod enc P W 0 (fun _ => true) true t v d ps) :
    ∃ l : KI, l.map (·.1) = ks ∧ l.wf ∧ v = .agg l.V.toArray ∧ ps = [] := by
  obtain ⟨fuel, hf⟩ := h
  obtain ⟨cs, rfl, hsz⟩ := okWide_struct hu hv
  obtain ⟨l, l1, l2, l3, l4⟩ := trod_flat 20 t ks hk fuel _ _ hf
  refine ⟨l, l1, l2, ?_, l4⟩
  congr 1
  apply Array.ext'
  simpa [Value.cells] using l3
end Go.Ev
