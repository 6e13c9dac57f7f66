/- Layer 4 (fraction): the law FractionCompares. -/
import Derived.Test.YtdjnnbjpaohaiaaDoorFrH
namespace Go.Proofs.YtdjnnbjpaohaiaaDoor
open Go.RowKit Go.Ev
set_option maxRecDepth 100000

abbrev gPow : Nat := 5
theorem pow_kst (w w' : World) (h : HasPow w) (hb : Below (gPow + 1) w w') : HasPow w' := h.below hb (by show gPow < gPow + 1; omega)
theorem HasPow.lt' {w : World} (h : HasPow w) : gPow < w.heap.size := by
  obtain ⟨ty, h⟩ := h
  exact (Array.getElem?_eq_some_iff.1 h).1
abbrev fcSym (an ad bn bd c f r : Int) : Tm → Sym
  | .v 0 => intSym .i64 an
  | .v 1 => intSym .i64 ad
  | .v 2 => intSym .i64 bn
  | .v 3 => intSym .i64 bd
  | .v 10 => intSym .i64 c
  | .v 11 => intSym .i64 f
  | .v 12 => intSym .i64 r
  | _ => intSym .i64 0
abbrev fcBase (p q : Bool) : List KCall :=
  [(13, [], .clo (.bool true)), (15, [.agg [.sy 0, .sy 1]], .clo (.bool p)), (15, [.agg [.sy 2, .sy 3]], .clo (.bool q))]
abbrev fcCmp : Bool → List KCall
  | true => [(27, [.agg [.sy 0, .sy 1], .agg [.sy 2, .sy 3]], .sy 10), (28, [.agg [.sy 0, .sy 1], .agg [.sy 2, .sy 3]], .sy 10)]
  | false => [(27, [.agg [.sy 0, .sy 1], .agg [.sy 2, .sy 3]], .clo (.int .i64 0))]
abbrev fcFl : Bool → List KCall
  | true => [(29, [.agg [.sy 0, .sy 1]], .sy 11), (31, [.agg [.sy 0, .sy 1]], .sy 11), (30, [.agg [.sy 0, .sy 1]], .sy 12), (32, [.agg [.sy 0, .sy 1]], .sy 12)]
  | false => [(29, [.agg [.sy 0, .sy 1]], .clo (.int .i64 0)), (30, [.agg [.sy 0, .sy 1]], .clo (.int .i64 0))]
abbrev fcCalls (p q : Bool) : List KCall := fcBase p q ++ fcCmp (p && q) ++ fcFl p
abbrev fcOps : List KOp := [(.bin .neq 3, [.sy 10, .sy 10], .clo (.bool false)), (.bin .eql 2, [.sy 11, .sy 11], .clo (.bool true)), (.bin .eql 2, [.sy 12, .sy 12], .clo (.bool true))]
theorem evFc (an ad bn bd c f r : Int) (p q : Bool) : @evalBeside (toldK 0 (fcSym an ad bn bd c f r) (fcCalls p q) [] fcOps HasPow (gPow + 1) pow_kst) Tryd.prog 300 6 [.agg [.sy 0, .sy 1], .agg [.sy 2, .sy 3]] [] = some (.bool true) := by
  cases p <;> cases q <;> kernel_rfl

theorem compares_any (an ad bn bd : Int) (h1 : In64 an) (h2 : In64 ad) (h3 : In64 bn) (h4 : In64 bd) (w : World) (hT : HasPow w) :
    Calls Tryd.prog 6 #[.agg #[.int .i64 an, .int .i64 ad], .agg #[.int .i64 bn, .int .i64 bd]] w fun e w' => e = .returned (.bool true) ∧ Below w.heap.size w w' := by
  refine calls_toldK (by kernel_rfl) 0 (fcSym an ad bn bd (sgn (an * bd - bn * ad)) (floorF an ad) (roundF an ad)) (fcCalls (validF an ad) (validF bn bd)) [] fcOps HasPow (gPow + 1) pow_kst ?_ (fun _ h => by cases h) ?_
    (args := [.agg [.sy 0, .sy 1], .agg [.sy 2, .sy 3]]) (xs := [.agg #[.int .i64 an, .int .i64 ad], .agg #[.int .i64 bn, .int .i64 bd]]) rfl [] (evFc _ _ _ _ _ _ _ _ _) w hT hT.lt' (fun i b h => by simp [look_nil] at h)
  · generalize hp : validF an ad = p
    generalize hq : validF bn bd = q
    intro x hx
    rcases List.mem_append.1 hx with hx | hx
    · rcases List.mem_append.1 hx with hx | hx
      · simp only [fcBase, List.mem_cons, List.not_mem_nil, or_false] at hx
        rcases hx with rfl | rfl | rfl
        · exact ⟨[], .bool true, rfl, rfl, fun w hw => awake_any w hw⟩
        · exact ⟨[.agg #[.int .i64 an, .int .i64 ad]], .bool p, rfl, rfl, fun w _ => by rw [← hp]; exact rValid_any an ad h1.1 h1.2 h2.1 h2.2 w⟩
        · exact ⟨[.agg #[.int .i64 bn, .int .i64 bd]], .bool q, rfl, rfl, fun w _ => by rw [← hq]; exact rValid_any bn bd h3.1 h3.2 h4.1 h4.2 w⟩
      · have hc := fun w => cmp_any an ad bn bd h1 h2 h3 h4 w
        rw [hp, hq] at hc
        cases hpq : p && q with
        | true =>
          rw [hpq] at hx
          have hpt : p = true ∧ q = true := by simpa using hpq
          rw [if_pos hpt] at hc
          simp only [fcCmp, List.mem_cons, List.not_mem_nil, or_false] at hx
          rcases hx with rfl | rfl
          · exact ⟨[.agg #[.int .i64 an, .int .i64 ad], .agg #[.int .i64 bn, .int .i64 bd]], _, rfl, rfl, fun w _ => hc w⟩
          · exact ⟨[.agg #[.int .i64 an, .int .i64 ad], .agg #[.int .i64 bn, .int .i64 bd]], _, rfl, rfl, fun w _ => rCmp_any an ad bn bd h1 h2 h3 h4 (hp.trans hpt.1) (hq.trans hpt.2) w⟩
        | false =>
          rw [hpq] at hx
          rw [if_neg (fun h => by rw [h.1, h.2] at hpq; cases hpq)] at hc
          simp only [fcCmp, List.mem_cons, List.not_mem_nil, or_false] at hx
          subst hx
          exact ⟨[.agg #[.int .i64 an, .int .i64 ad], .agg #[.int .i64 bn, .int .i64 bd]], _, rfl, rfl, fun w _ => hc w⟩
    · have hf := fun w => floor_any an ad h1 h2 w
      have hr := fun w => round_any an ad h1 h2 w
      rw [hp] at hf hr
      cases p with
      | true =>
        simp only [fcFl, List.mem_cons, List.not_mem_nil, or_false] at hx
        rcases hx with rfl | rfl | rfl | rfl
        · exact ⟨[.agg #[.int .i64 an, .int .i64 ad]], _, rfl, rfl, fun w _ => hf w⟩
        · exact ⟨[.agg #[.int .i64 an, .int .i64 ad]], _, rfl, rfl, fun w _ => rFloor_any an ad hp w⟩
        · exact ⟨[.agg #[.int .i64 an, .int .i64 ad]], _, rfl, rfl, fun w _ => hr w⟩
        · exact ⟨[.agg #[.int .i64 an, .int .i64 ad]], _, rfl, rfl, fun w _ => rRound_any an ad hp w⟩
      | false =>
        simp only [fcFl, List.mem_cons, List.not_mem_nil, or_false] at hx
        rcases hx with rfl | rfl
        · exact ⟨[.agg #[.int .i64 an, .int .i64 ad]], _, rfl, rfl, fun w _ => hf w⟩
        · exact ⟨[.agg #[.int .i64 an, .int .i64 ad]], _, rfl, rfl, fun w _ => hr w⟩
  · intro x hx
    simp only [fcOps, List.mem_cons, List.not_mem_nil, or_false] at hx
    rcases hx with rfl | rfl | rfl
    · exact ⟨[.int .i64 (sgn (an * bd - bn * ad)), .int .i64 (sgn (an * bd - bn * ad))], .bool false, rfl, rfl, tells_neq (by simp)⟩
    · exact ⟨[.int .i64 (floorF an ad), .int .i64 (floorF an ad)], .bool true, rfl, rfl, tells_eql (by simp)⟩
    · exact ⟨[.int .i64 (roundF an ad), .int .i64 (roundF an ad)], .bool true, rfl, rfl, tells_eql (by simp)⟩
end Go.Proofs.YtdjnnbjpaohaiaaDoor
