/- VectorAdds by the evaluator, which is told what the calls of the law return. -/
import Derived.Test.YtdbcflgacjgdoaaVeI
import Derived.Test.YtdbcflgacjgdoaaVeY
import Derived.Test.YtdbcflgacjgdoaaVeZ
import Derived.Test.YtdbcflgacjgdoaaEvN
namespace Go.Proofs.Ytdbcflgacjgdoaa
open Go.RowKit Go.Ev

namespace Adds
def tv (i : Nat) : CV := .agg [.sy i, .sy (i+1), .sy (i+2)]
def e0 : CV := .clo (.int .i64 0)
def e6 : CV := .clo (.int .i64 6)
def bo (b : Bool) : CV := .clo (.bool b)
def z : CV := .agg [e0, e0, e0]
def A : CV := tv 0
def B : CV := tv 3
def C : CV := tv 6
def D : CV := tv 9
def cm : CV := .sy 12
/-- What the law calls first: Add, Sub, Check, In of the first, both Compare. -/
def base (ia ok ic id : Bool) : List KCall := [(5, [], bo true),
  (6, [A, B], .tup [cond (ok && ic) C z, cond (ok && ic) e0 e6]), (7, [A, B], .tup [cond (ok && id) D z, cond (ok && id) e0 e6]),
  (8, [A], cond ia e0 e6), (9, [A], bo ia), (10, [A, B], cm), (11, [A, B], cm)]
def inB (ib : Bool) : List KCall := [(9, [B], bo ib)]
def more (ic id : Bool) : List KCall := [(9, [C], bo ic), (9, [D], bo id), (13, [A, B], C), (14, [A, B], D)]
def le : List KEq := [(23, C, C, true), (23, D, D, true), (3, cm, cm, true)]

set_option maxRecDepth 100000
theorem ev1 (sym : Nat → IntKind × Int) : @evalBeside (told sym (base false false false false) le) Try.prog 300 3 [A, B] [] = some (.bool true) := by kernel_rfl
theorem ev2 (sym : Nat → IntKind × Int) : @evalBeside (told sym (base true false false false ++ inB false) le) Try.prog 300 3 [A, B] [] = some (.bool true) := by kernel_rfl
theorem ev3 (sym : Nat → IntKind × Int) : @evalBeside (told sym (base true true true true ++ inB true ++ more true true) le) Try.prog 300 3 [A, B] [] = some (.bool true) := by kernel_rfl
theorem ev4 (sym : Nat → IntKind × Int) : @evalBeside (told sym (base true true true false ++ inB true ++ more true false) le) Try.prog 300 3 [A, B] [] = some (.bool true) := by kernel_rfl
theorem ev5 (sym : Nat → IntKind × Int) : @evalBeside (told sym (base true true false true ++ inB true ++ more false true) le) Try.prog 300 3 [A, B] [] = some (.bool true) := by kernel_rfl
theorem ev6 (sym : Nat → IntKind × Int) : @evalBeside (told sym (base true true false false ++ inB true ++ more false false) le) Try.prog 300 3 [A, B] [] = some (.bool true) := by kernel_rfl

/-- The symbols: the two arguments, sum, difference, order. -/
def sy (a b : V3) (i : Nat) : IntKind × Int :=
  (.i64, [a.1, a.2.1, a.2.2, b.1, b.2.1, b.2.2, (addV a b).1, (addV a b).2.1, (addV a b).2.2, (subV a b).1, (subV a b).2.1, (subV a b).2.2, cmpV a b].getD i 0)

theorem told_of {f : FuncId} {a b : V3} {args : List CV} {v : CV} {xs : List Value} {u : Value} (h1 : @denL (told (sy a b) [] []) (fun _ => none) args = some xs) (h2 : @den (told (sy a b) [] []) (fun _ => none) v = some u)
    (h : ∀ w, Calls Try.prog f xs.toArray w fun q w' => q = .returned u ∧ Below w.heap.size w w') : CallIs Try.prog (sy a b) (f, args, v) := ⟨xs, u, h1, h2, h⟩

theorem base_is (a b : V3) : ∀ r ∈ base (inV a) (okV a b) (inV (addV a b)) (inV (subV a b)), CallIs Try.prog (sy a b) r := by
  intro r hr
  simp only [base, List.mem_cons, List.not_mem_nil, or_false] at hr
  rcases hr with rfl | rfl | rfl | rfl | rfl | rfl | rfl
  · exact told_of (xs := []) (u := .bool true) rfl rfl fun w => awake_any w
  · have h := add_any a b
    cases hh : okV a b && inV (addV a b) <;> simp only [resV, resE, hh, if_true, Bool.false_eq_true, if_false] at h
    · exact told_of (xs := [vecV a, vecV b]) rfl rfl fun w => h w
    · exact told_of (xs := [vecV a, vecV b]) rfl rfl fun w => h w
  · have h := sub_any a b
    cases hh : okV a b && inV (subV a b) <;> simp only [resV, resE, hh, if_true, Bool.false_eq_true, if_false] at h
    · exact told_of (xs := [vecV a, vecV b]) rfl rfl fun w => h w
    · exact told_of (xs := [vecV a, vecV b]) rfl rfl fun w => h w
  · have h := check_any a.1 a.2.1 a.2.2
    rw [errV_one] at h
    cases hh : inV a
    · rw [if_neg (by simp [hh])] at h
      exact told_of (xs := [vecV a]) rfl rfl fun w => h w
    · rw [if_pos hh] at h
      exact told_of (xs := [vecV a]) rfl rfl fun w => h w
  · exact told_of (xs := [vecV a]) rfl rfl fun w => rIn a w
  · exact told_of (xs := [vecV a, vecV b]) rfl rfl fun w => compare_any a b w
  · exact told_of (xs := [vecV a, vecV b]) rfl rfl fun w => rComp a b w

theorem inB_is (a b : V3) : ∀ r ∈ inB (inV b), CallIs Try.prog (sy a b) r := by
  intro r hr
  simp only [inB, List.mem_cons, List.not_mem_nil, or_false] at hr
  subst hr
  exact told_of (xs := [vecV b]) rfl rfl fun w => rIn b w

theorem more_is (a b : V3) (ok : okV a b = true) : ∀ r ∈ more (inV (addV a b)) (inV (subV a b)), CallIs Try.prog (sy a b) r := by
  intro r hr
  simp only [more, List.mem_cons, List.not_mem_nil, or_false] at hr
  rcases hr with rfl | rfl | rfl | rfl
  · exact told_of (xs := [vecV (addV a b)]) rfl rfl fun w => rIn (addV a b) w
  · exact told_of (xs := [vecV (subV a b)]) rfl rfl fun w => rIn (subV a b) w
  · exact told_of (xs := [vecV a, vecV b]) rfl rfl fun w => rAdd a b ok w
  · exact told_of (xs := [vecV a, vecV b]) rfl rfl fun w => rSub a b ok w

theorem vec_eq (a b : V3) (x : CV) (s : V3) (h : @den (told (sy a b) [] []) (fun _ => none) x = some (vecV s)) : EqIs Try.prog (sy a b) (23, x, x, true) := by
  refine ⟨vecV s, vecV s, h, h, fun w xo yo => ⟨run_eqGuard_agg _ _ _ _ _ _ _ (by kernel_rfl), run_eqGuard_agg _ _ _ _ _ _ _ (by kernel_rfl)⟩, fun w => ⟨?_, ?_⟩⟩
  · have h := eqlVec s.1 s.2.1 s.2.2 s.1 s.2.1 s.2.2 w
    rw [decide_eq_true ⟨rfl, rfl, rfl⟩] at h
    exact h
  · have h := neqVec s.1 s.2.1 s.2.2 s.1 s.2.1 s.2.2 w
    rw [decide_eq_true ⟨rfl, rfl, rfl⟩] at h
    exact h

theorem le_is (a b : V3) : ∀ r ∈ le, EqIs Try.prog (sy a b) r := by
  intro r hr
  simp only [le, List.mem_cons, List.not_mem_nil, or_false] at hr
  rcases hr with rfl | rfl | rfl
  · exact vec_eq a b C (addV a b) rfl
  · exact vec_eq a b D (subV a b) rfl
  · refine ⟨.int .i64 (cmpV a b), .int .i64 (cmpV a b), rfl, rfl, fun w xo yo => ⟨?_, ?_⟩, fun w => ⟨?_, ?_⟩⟩
    · simp [eqGuard]
    · simp [eqGuard]
    · simp [binOp, Op.intCmp]
    · simp [binOp, Op.intCmp]

theorem memApp {α : Type} {p : α → Prop} {l m : List α} (h1 : ∀ r ∈ l, p r) (h2 : ∀ r ∈ m, p r) : ∀ r ∈ l ++ m, p r := fun r hr => (List.mem_append.1 hr).elim (h1 r) (h2 r)

theorem mixed : Try.prog.follows .mixedOrders = true := by kernel_rfl

theorem adds (a b : V3) (w : World) : Calls Try.prog 3 #[vecV a, vecV b] w fun e w' => e = .returned (.bool true) ∧ Below w.heap.size w w' := by
  have hx : @denL (told (sy a b) [] []) (fun _ => none) [A, B] = some [vecV a, vecV b] := rfl
  have hB := base_is a b
  have hI := inB_is a b
  cases ha : inV a with
  | false =>
    rw [show okV a b = false by simp [okV, ha], ha] at hB
    have hB : ∀ r ∈ base false false false false, CallIs Try.prog (sy a b) r := hB
    exact calls_told mixed (sy a b) _ le hB (le_is a b) hx (ev1 _) w
  | true =>
    cases hb : inV b with
    | false =>
      rw [show okV a b = false by simp [okV, hb], ha] at hB
      rw [hb] at hI
      have hB : ∀ r ∈ base true false false false, CallIs Try.prog (sy a b) r := hB
      exact calls_told mixed (sy a b) _ le (memApp hB hI) (le_is a b) hx (ev2 _) w
    | true =>
      have ok : okV a b = true := by simp [okV, ha, hb]
      have hM := more_is a b ok
      rw [ok, ha] at hB
      rw [hb] at hI
      cases hs : inV (addV a b) <;> cases hd : inV (subV a b) <;> rw [hs, hd] at hB hM
      · exact calls_told mixed (sy a b) _ le (memApp (memApp hB hI) hM) (le_is a b) hx (ev6 _) w
      · exact calls_told mixed (sy a b) _ le (memApp (memApp hB hI) hM) (le_is a b) hx (ev5 _) w
      · exact calls_told mixed (sy a b) _ le (memApp (memApp hB hI) hM) (le_is a b) hx (ev4 _) w
      · exact calls_told mixed (sy a b) _ le (memApp (memApp hB hI) hM) (le_is a b) hx (ev3 _) w
end Adds

theorem vectorAdds_any (a1 a2 a3 b1 b2 b3 : Int) (w : World) : Calls Try.prog 3 #[.agg #[.int .i64 a1, .int .i64 a2, .int .i64 a3], .agg #[.int .i64 b1, .int .i64 b2, .int .i64 b3]] w fun e w' => e = .returned (.bool true) ∧ Below w.heap.size w w' :=
  Adds.adds (a1, a2, a3) (b1, b2, b3) w
end Go.Proofs.Ytdbcflgacjgdoaa
