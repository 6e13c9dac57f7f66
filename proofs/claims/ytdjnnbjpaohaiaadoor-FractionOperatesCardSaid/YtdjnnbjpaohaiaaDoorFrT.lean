/- Layer 4 (fraction): the law FractionOperates. -/
import Derived.Test.YtdjnnbjpaohaiaaDoorFrS
namespace Go.Proofs.YtdjnnbjpaohaiaaDoor
open Go.RowKit Go.Ev
set_option maxRecDepth 100000

abbrev opSym (an ad bn bd : Int) (u v w x : Int × Int × Int) : Tm → Sym
  | .v 0 => intSym .i64 an
  | .v 1 => intSym .i64 ad
  | .v 2 => intSym .i64 bn
  | .v 3 => intSym .i64 bd
  | .v 20 => intSym .i64 u.1
  | .v 21 => intSym .i64 u.2.1
  | .v 22 => intSym .i64 u.2.2
  | .v 30 => intSym .i64 v.1
  | .v 31 => intSym .i64 v.2.1
  | .v 32 => intSym .i64 v.2.2
  | .v 40 => intSym .i64 w.1
  | .v 41 => intSym .i64 w.2.1
  | .v 42 => intSym .i64 w.2.2
  | .v 50 => intSym .i64 x.1
  | .v 51 => intSym .i64 x.2.1
  | .v 52 => intSym .i64 x.2.2
  | _ => intSym .i64 0
abbrev abA : List CV := [.agg [.sy 0, .sy 1], .agg [.sy 2, .sy 3]]
abbrev rs (a b c : Nat) : CV := .tup [.agg [.sy (.v a), .sy (.v b)], .sy (.v c)]
abbrev opBase (p q : Bool) : List KCall := [(13, [], .clo (.bool true)), (15, [.agg [.sy 0, .sy 1]], .clo (.bool p)), (15, [.agg [.sy 2, .sy 3]], .clo (.bool q))]
abbrev opBad : List KCall := [(16, abA, errC 1), (17, abA, errC 1), (18, abA, errC 1), (19, abA, errC 1)]
abbrev opGood : List KCall :=
  [(16, abA, rs 20 21 22), (17, abA, rs 30 31 32), (18, abA, rs 40 41 42), (21, abA, rs 20 21 22), (22, abA, rs 30 31 32), (23, abA, rs 40 41 42)]
abbrev opDiv : Bool → List KCall
  | true => [(19, abA, errC 1)]
  | false => [(19, abA, rs 50 51 52), (24, abA, rs 50 51 52)]
abbrev erEq (a : Nat) : KOp := (.bin .eql 24, [.sy (.v a), .sy (.v a)], .clo (.bool true))
abbrev opOps (z : Bool) : List KOp := [(.bin .eql 2, [.sy 2, .clo (iv 0)], .clo (.bool z)), erEq 22, erEq 32, erEq 42, erEq 52]
abbrev frEq (a b : Nat) : KEq := (23, .agg [.sy (.v a), .sy (.v b)], .agg [.sy (.v a), .sy (.v b)], true)
abbrev opEqs : List KEq := [frEq 20 21, frEq 30 31, frEq 40 41, frEq 50 51]
theorem evOp0 (an ad bn bd : Int) (u v w x : Int × Int × Int) (p q : Bool) (h : (p && q) = false) : @evalBeside (toldK 0 (opSym an ad bn bd u v w x) (opBase p q ++ opBad) [] [] HasPow (gPow + 1) pow_kst) Tryd.prog 300 4 abA [] = some (.bool true) := by
  cases p <;> cases q <;> first | (cases h; done) | kernel_rfl
theorem evOp1 (an ad bn bd : Int) (u v w x : Int × Int × Int) (z : Bool) : @evalBeside (toldK 0 (opSym an ad bn bd u v w x) (opBase true true ++ opGood ++ opDiv z) opEqs (opOps z) HasPow (gPow + 1) pow_kst) Tryd.prog 300 4 abA [] = some (.bool true) := by
  cases z <;> kernel_rfl
theorem base_is {an ad bn bd : Int} (h1 : In64 an) (h2 : In64 ad) (h3 : In64 bn) (h4 : In64 bd) {sym : Tm → Sym} (e0 : @denL (told sym [] []) (fun _ => none) [.agg [.sy 0, .sy 1]] = some [frV an ad]) (e1 : @denL (told sym [] []) (fun _ => none) [.agg [.sy 2, .sy 3]] = some [frV bn bd]) : ∀ z ∈ opBase (validF an ad) (validF bn bd), CallAt Tryd.prog sym HasPow z := by
  intro z hz
  simp only [opBase, List.mem_cons, List.not_mem_nil, or_false] at hz
  rcases hz with rfl | rfl | rfl
  · exact ⟨[], .bool true, rfl, rfl, fun w hw => awake_any w hw⟩
  · exact ⟨[frV an ad], _, e0, rfl, fun w _ => rValid_any an ad h1.1 h1.2 h2.1 h2.2 w⟩
  · exact ⟨[frV bn bd], _, e1, rfl, fun w _ => rValid_any bn bd h3.1 h3.2 h4.1 h4.2 w⟩
theorem bad_all {an ad bn bd : Int} (h : (validF an ad && validF bn bd) = false) : addX an ad bn bd = (0, 0, 1) ∧ subX an ad bn bd = (0, 0, 1) ∧ mulX an ad bn bd = (0, 0, 1) ∧ divX an ad bn bd = (0, 0, 1) := by
  unfold subX addX mulX divX
  rw [validF_neg, h, Bool.false_and]
  exact ⟨rfl, rfl, rfl, rfl⟩
theorem operates_any (an ad bn bd : Int) (h1 : In64 an) (h2 : In64 ad) (h3 : In64 bn) (h4 : In64 bd) (w : World) (hT : HasPow w) :
    Calls Tryd.prog 4 #[frV an ad, frV bn bd] w fun e w' => e = .returned (.bool true) ∧ Below w.heap.size w w' := by
  have hbase := fun (sym : Tm → Sym) => @base_is an ad bn bd h1 h2 h3 h4 sym
  have pa := fun w => pAdd_any an ad bn bd h1 h2 h3 h4 w
  have ps := fun w => pSub_any an ad bn bd h1 h2 h3 h4 w
  have pm := fun w => pMul_any an ad bn bd h1 h2 h3 h4 w
  have pd := fun w => pDiv_any an ad bn bd h1 h2 h3 h4 w
  cases hv : (validF an ad && validF bn bd) with
  | false =>
    obtain ⟨e1, e2, e3, e4⟩ := bad_all hv
    rw [e1] at pa; rw [e2] at ps; rw [e3] at pm; rw [e4] at pd
    refine calls_toldK (by kernel_rfl) 0 (opSym an ad bn bd (0, 0, 0) (0, 0, 0) (0, 0, 0) (0, 0, 0)) (opBase (validF an ad) (validF bn bd) ++ opBad) [] [] HasPow (gPow + 1) pow_kst ?_ (fun _ h => by cases h) (fun _ h => by cases h)
      (args := abA) (xs := [frV an ad, frV bn bd]) rfl [] (evOp0 _ _ _ _ _ _ _ _ _ _ hv) w hT hT.lt' (fun i b h => by simp [look_nil] at h)
    intro z hz
    rcases List.mem_append.1 hz with hz | hz
    · exact hbase _ rfl rfl z hz
    · simp only [opBad, List.mem_cons, List.not_mem_nil, or_false] at hz
      rcases hz with rfl | rfl | rfl | rfl
      · exact ⟨[frV an ad, frV bn bd], tripV (0, 0, 1), rfl, rfl, fun w _ => pa w⟩
      · exact ⟨[frV an ad, frV bn bd], tripV (0, 0, 1), rfl, rfl, fun w _ => ps w⟩
      · exact ⟨[frV an ad, frV bn bd], tripV (0, 0, 1), rfl, rfl, fun w _ => pm w⟩
      · exact ⟨[frV an ad, frV bn bd], tripV (0, 0, 1), rfl, rfl, fun w _ => pd w⟩
  | true =>
    simp only [Bool.and_eq_true] at hv
    obtain ⟨hv1, hv2⟩ := hv
    rw [hv1, hv2] at hbase
    have ra := fun w => rAdd_any an ad bn bd hv1 hv2 w
    have rs := fun w => rSub_any an ad bn bd hv1 hv2 w
    have rm := fun w => rMul_any an ad bn bd hv1 hv2 w
    have rd := fun hn w => rDiv_any an ad bn bd hv1 hv2 hn w
    have hd0 : bn = 0 → divX an ad bn bd = (0, 0, 1) := fun h => by unfold divX; rw [h]; simp
    generalize addX an ad bn bd = U at *
    generalize subX an ad bn bd = V at *
    generalize mulX an ad bn bd = W at *
    generalize divX an ad bn bd = X at *
    refine calls_toldK (by kernel_rfl) 0 (opSym an ad bn bd U V W X) (opBase true true ++ opGood ++ opDiv (decide (bn = 0))) opEqs (opOps (decide (bn = 0))) HasPow (gPow + 1) pow_kst ?_ ?_ ?_
      (args := abA) (xs := [frV an ad, frV bn bd]) rfl [] (evOp1 _ _ _ _ _ _ _ _ _) w hT hT.lt' (fun i b h => by simp [look_nil] at h)
    · intro z hz
      rcases List.mem_append.1 hz with hz | hz
      · rcases List.mem_append.1 hz with hz | hz
        · exact hbase _ rfl rfl z hz
        · simp only [opGood, List.mem_cons, List.not_mem_nil, or_false] at hz
          rcases hz with rfl | rfl | rfl | rfl | rfl | rfl
          · exact ⟨[frV an ad, frV bn bd], tripV U, rfl, rfl, fun w _ => pa w⟩
          · exact ⟨[frV an ad, frV bn bd], tripV V, rfl, rfl, fun w _ => ps w⟩
          · exact ⟨[frV an ad, frV bn bd], tripV W, rfl, rfl, fun w _ => pm w⟩
          · exact ⟨[frV an ad, frV bn bd], tripV U, rfl, rfl, fun w _ => ra w⟩
          · exact ⟨[frV an ad, frV bn bd], tripV V, rfl, rfl, fun w _ => rs w⟩
          · exact ⟨[frV an ad, frV bn bd], tripV W, rfl, rfl, fun w _ => rm w⟩
      · by_cases hb : bn = 0
        · rw [decide_eq_true hb] at hz
          simp only [opDiv, List.mem_cons, List.not_mem_nil, or_false] at hz
          subst hz
          rw [hd0 hb] at pd
          exact ⟨[frV an ad, frV bn bd], tripV (0, 0, 1), rfl, rfl, fun w _ => pd w⟩
        · rw [decide_eq_false hb] at hz
          simp only [opDiv, List.mem_cons, List.not_mem_nil, or_false] at hz
          rcases hz with rfl | rfl
          · exact ⟨[frV an ad, frV bn bd], tripV X, rfl, rfl, fun w _ => pd w⟩
          · exact ⟨[frV an ad, frV bn bd], tripV X, rfl, rfl, fun w _ => rd hb w⟩
    · intro z hz
      simp only [opEqs, List.mem_cons, List.not_mem_nil, or_false] at hz
      rcases hz with rfl | rfl | rfl | rfl
      · exact fr_eq (a := U.1) (b := U.2.1) (c := U.1) (d := U.2.1) rfl rfl (by simp)
      · exact fr_eq (a := V.1) (b := V.2.1) (c := V.1) (d := V.2.1) rfl rfl (by simp)
      · exact fr_eq (a := W.1) (b := W.2.1) (c := W.1) (d := W.2.1) rfl rfl (by simp)
      · exact fr_eq (a := X.1) (b := X.2.1) (c := X.1) (d := X.2.1) rfl rfl (by simp)
    · intro z hz
      simp only [opOps, List.mem_cons, List.not_mem_nil, or_false] at hz
      rcases hz with rfl | rfl | rfl | rfl | rfl
      · exact ⟨[iv bn, iv 0], .bool (decide (bn = 0)), rfl, rfl, tells_eql rfl⟩
      · exact ⟨[iv U.2.2, iv U.2.2], .bool true, rfl, rfl, tells_eql (by simp)⟩
      · exact ⟨[iv V.2.2, iv V.2.2], .bool true, rfl, rfl, tells_eql (by simp)⟩
      · exact ⟨[iv W.2.2, iv W.2.2], .bool true, rfl, rfl, tells_eql (by simp)⟩
      · exact ⟨[iv X.2.2, iv X.2.2], .bool true, rfl, rfl, tells_eql (by simp)⟩
end Go.Proofs.YtdjnnbjpaohaiaaDoor
