/- Layer 14 (boring): lists of borings as arguments. -/
import Derived.Test.YtllnglofbhmcgaaGreatBnB
import Derived.Test.YtllnglofbhmcgaaGreatTkL
namespace Go.Proofs.YtllnglofbhmcgaaGreat
open Go.ChangeShapes Go.WideShapes Go.ChangeAt Go.RowKit Go.Deep Go.Ev
set_option maxRecDepth 100000
theorem poFlat : flatT Tryz.prog 20 tPo = some [.i64, .i64] := by kernel_rfl
theorem boCells : Tryz.prog.cellsOf tBo = 4 := by kernel_rfl
theorem cS : Tryz.prog.cellsOf 9 = 1 := by kernel_rfl
theorem cP : Tryz.prog.cellsOf tPo = 2 := by kernel_rfl
theorem cL : Tryz.prog.cellsOf 31 = 1 := by kernel_rfl
/-- The cells of one boring. -/
theorem open_bo {H : Type} {enc : TypeId × Value → H} {W : World} {spare : Nat → Bool} {held : Bool} {base n : Nat} {cs : List Value} {x : DataW H × List MemPlace} (hl : cs.length = 4) (h : DataW.trod enc Tryz.prog W base spare held n tBo cs = some x) : ∃ b : Bo, cs = encO b := by
  obtain ⟨xs, k, hk, hxy, _, hxl, hf⟩ := DataW.trod_struct Tryz.underlying33 h
  match cs, hl with
  | [v0, v1, v2, v3], _ =>
    have g0 := hf 0 _ rfl
    have g1 := hf 1 _ rfl
    have g2 := hf 2 _ rfl
    simp [cS, cP, cL] at g0 g1 g2
    match xs, hxl with
    | [x0, x1, x2], _ =>
      simp only [List.getElem?_cons_zero, List.getElem?_cons_succ] at g0 g1 g2
      obtain ⟨s, hs, _⟩ := DataW.trod_string Tryz.underlying9 g0
      obtain ⟨l, l1, l2, l3, _⟩ := trod_flat 20 tPo _ poFlat _ _ _ g1
      simp only [List.cons.injEq, and_true] at hs
      subst hs
      match l, l1 with
      | [(k0, a), (k1, b)], l1 =>
        simp only [List.map_cons, List.map_nil, List.cons.injEq, and_true] at l1
        obtain ⟨rfl, rfl⟩ := l1
        have l3 : [v1, v2] = [iv a, iv b] := l3
        simp only [List.cons.injEq, and_true] at l3
        obtain ⟨rfl, rfl⟩ := l3
        rcases open_slice Tryz.underlying31 g2 with ⟨hc, _⟩ | ⟨a0, len, cap, _, _, _, _, hc, _⟩
        · simp only [List.cons.injEq, and_true] at hc
          subst hc
          exact ⟨⟨⟨.string s, rfl, fun _ h => by cases h⟩, ⟨.slice none 0 0, rfl, fun _ h => by cases h⟩, a, b⟩, rfl⟩
        · simp only [List.cons.injEq, and_true] at hc
          subst hc
          exact ⟨⟨⟨.string s, rfl, fun _ h => by cases h⟩, ⟨.slice (some a0) len cap, rfl, fun _ h => by cases h⟩, a, b⟩, rfl⟩
theorem open_bos {H : Type} {enc : TypeId × Value → H} {W : World} {v : Value} {d : DataW H} {ps : List MemPlace} {r : Reach} {b0 : Nat} (hv : Value.okWide Tryz.prog W r b0 tBs v) (h : DataW.Trod enc Tryz.prog W 0 (fun _ => true) true tBs v d ps) :
    ∃ L a c, v = .slice a L.length c ∧ ElAt encO W.heap.size L a W := by
  obtain ⟨a0, len, cap, rfl⟩ := okWide_slice Tryz.underlying22 hv
  obtain ⟨fuel, hf⟩ := h
  rcases open_slice Tryz.underlying22 hf with ⟨hcs, _⟩ | ⟨a, len', cap', m, n, D, Pl, hcs, _, hlc, _, hm, _, hi⟩
  · simp [Value.cells] at hcs
    obtain ⟨rfl, rfl, rfl⟩ := hcs
    exact ⟨[], none, 0, rfl, elAt_nil _ _⟩
  · simp [Value.cells] at hcs
    obtain ⟨rfl, rfl, rfl⟩ := hcs
    simp only [if_true] at hm
    rw [boCells] at hi
    have key : ∀ i, i < len → ∃ b : Bo, ∀ j x, (encO b)[j]? = some x → W.cell? (a.add (i * 4 + j)) = some x := fun i hi' => by
      obtain ⟨cs', h1, h2⟩ := hi i (by omega)
      obtain ⟨_, hlen, hcell⟩ := World.cells?_some h1
      obtain ⟨b, hb⟩ := open_bo hlen h2
      refine ⟨b, fun j x hx => ?_⟩
      rw [← hb] at hx
      have hj : j < cs'.length := (List.getElem?_eq_some_iff.1 hx).1
      have := hcell j (by omega)
      rw [addA] at this
      rw [this]
      exact hx
    obtain ⟨f, hf'⟩ : ∃ f : Nat → Bo, ∀ i, i < len → ∀ j x, (encO (f i))[j]? = some x → W.cell? (a.add (i * 4 + j)) = some x := by
      refine ⟨fun i => if h : i < len then (key i h).choose else Go.Proofs.YtllnglofbhmcgaaGreat.b0, fun i hi' => ?_⟩
      simp only [hi', dif_pos]
      exact (key i hi').choose_spec
    refine ⟨(List.range len).map f, some a, cap, by simp, fun _ => ⟨a, rfl⟩, fun a' ha => ?_⟩
    cases ha
    refine ⟨fun hlen => ?_, fun j x hx => ?_⟩
    · have hlen : 0 < len := by simpa using hlen
      have := hf' 0 hlen 0 (f 0).nm.v rfl
      have := World.block_lt_of_cell? W _ this
      rwa [addB] at this
    · have hj := (List.getElem?_eq_some_iff.1 hx).1
      rw [elC_len encO_len, List.length_map, List.length_range] at hj
      have hq : j / 4 < len := Nat.div_lt_of_lt_mul (by rw [Nat.mul_comm]; exact hj)
      have hd : j = j / 4 * 4 + j % 4 := by omega
      have hr : j % 4 < 4 := Nat.mod_lt _ (by decide)
      have hg := elC_get encO_len ((List.range len).map f) (j / 4) (f (j / 4)) (j % 4) (by simp [hq]) hr
      rw [← hd, hx] at hg
      have := hf' (j / 4) hq (j % 4) x hg.symm
      rwa [← hd] at this
end Go.Proofs.YtllnglofbhmcgaaGreat
