/- Meet of the reference for any four points in range, by the evaluator; then VectorMeets. -/
import Derived.Test.YtdbcflgacjgdoaaVfP
import Derived.Test.YtdbcflgacjgdoaaVeI
import Derived.Test.YtdbcflgacjgdoaaVeZ
import Derived.Test.YtdbcflgacjgdoaaEvN
namespace Go.Proofs.Ytdbcflgacjgdoaa
open Go.RowKit Go.Ev

namespace Meets
def pv (i : Nat) : CV := .agg [.sy i, .sy (i+1)]
def A : CV := pv 0
def B : CV := pv 2
def C : CV := pv 4
def D : CV := pv 6
def P : CV := pv 8
def Q : CV := pv 10
def R : CV := pv 12
def S : CV := pv 14
def num (n : Int) : CV := .clo (.int .i64 n)
def bo (b : Bool) : CV := .clo (.bool b)
def turns (t1 t2 t3 t4 : Int) : List KCall := [(33, [A, B, C], num t1), (33, [A, B, D], num t2), (33, [C, D, A], num t3), (33, [C, D, B], num t4)]
def ne : List KEq := [(35, A, B, false), (35, C, D, false)]
def lo (b : Bool) : CV := cond b R P
def hi (b : Bool) : CV := cond b S Q
def line (b1 b2 b3 : Bool) : List KCall := [(34, [A, B], .tup [P, Q]), (34, [C, D], .tup [R, S]), (35, [P, R], bo b1), (35, [S, Q], bo b2), (35, [lo b1, hi b2], bo b3)]
def ends (b1 b2 e : Bool) : List KEq := [(35, lo b1, hi b2, e)]
def T3 (t : Int) : Prop := t = -1 ∨ t = 0 ∨ t = 1

set_option maxRecDepth 100000
theorem evLine (sym : Nat → IntKind × Int) (b1 b2 b3 e : Bool) : @evalBeside (told sym (turns 0 0 0 0 ++ line b1 b2 b3) (ne ++ ends b1 b2 e)) Try.prog 300 17 [A, B, C, D] [] = some (.int .i64 (cond b3 2 (cond e 1 0))) := by
  cases b1 <;> cases b2 <;> cases b3 <;> cases e <;> kernel_rfl

def nv (t1 t2 t3 t4 : Int) : Int := if t1 * t2 ≤ 0 ∧ t3 * t4 ≤ 0 then 1 else 0
theorem evTurn (sym : Nat → IntKind × Int) (t1 t2 t3 t4 : Int) (h1 : T3 t1) (h2 : T3 t2) (h3 : T3 t3) (h4 : T3 t4) (h : ¬ (t1 = 0 ∧ t2 = 0)) : @evalBeside (told sym (turns t1 t2 t3 t4) ne) Try.prog 300 17 [A, B, C, D] [] = some (.int .i64 (nv t1 t2 t3 t4)) := by
  rcases h1 with rfl | rfl | rfl <;> rcases h2 with rfl | rfl | rfl <;> first | (exact absurd ⟨rfl, rfl⟩ h) | (clear h; rcases h3 with rfl | rfl | rfl <;> rcases h4 with rfl | rfl | rfl <;> kernel_rfl)

/-- The symbols: the four points, then both pairs in their order. -/
def sy (a b c d : Pt) (i : Nat) : IntKind × Int :=
  (.i64, [a.1, a.2, b.1, b.2, c.1, c.2, d.1, d.2, (sortR a b).1.1, (sortR a b).1.2, (sortR a b).2.1, (sortR a b).2.2, (sortR c d).1.1, (sortR c d).1.2, (sortR c d).2.1, (sortR c d).2.2].getD i 0)

theorem told_of {sym : Nat → IntKind × Int} {f : FuncId} {args : List CV} {v : CV} {xs : List Value} {u : Value} (h1 : @denL (told sym [] []) (fun _ => none) args = some xs) (h2 : @den (told sym [] []) (fun _ => none) v = some u)
    (h : ∀ w, Calls Try.prog f xs.toArray w fun q w' => q = .returned u ∧ Below w.heap.size w w') : CallIs Try.prog sym (f, args, v) := ⟨xs, u, h1, h2, h⟩

theorem pt_eq {sym : Nat → IntKind × Int} {x y : CV} {s t : Pt} (hx : @den (told sym [] []) (fun _ => none) x = some (ptV s)) (hy : @den (told sym [] []) (fun _ => none) y = some (ptV t)) {r : Bool} (hr : decide (s.1 = t.1 ∧ s.2 = t.2) = r) : EqIs Try.prog sym (35, x, y, r) := by
  refine ⟨ptV s, ptV t, hx, hy, fun w xo yo => ⟨run_eqGuard_agg _ _ _ _ _ _ _ (by kernel_rfl), run_eqGuard_agg _ _ _ _ _ _ _ (by kernel_rfl)⟩, fun w => ⟨?_, ?_⟩⟩
  · have h := eqlPt s.1 s.2 t.1 t.2 w
    rw [hr] at h
    exact h
  · have h := neqPt s.1 s.2 t.1 t.2 w
    rw [hr] at h
    exact h

theorem int_eq {sym : Nat → IntKind × Int} (i : Nat) : EqIs Try.prog sym (3, .sy i, .sy i, true) := by
  refine ⟨.int (sym i).1 (sym i).2, .int (sym i).1 (sym i).2, rfl, rfl, fun w xo yo => ⟨?_, ?_⟩, fun w => ⟨?_, ?_⟩⟩
  · simp [eqGuard]
  · simp [eqGuard]
  · simp [binOp, Op.intCmp]
  · simp [binOp, Op.intCmp]

theorem memApp {α : Type} {p : α → Prop} {l m : List α} (h1 : ∀ r ∈ l, p r) (h2 : ∀ r ∈ m, p r) : ∀ r ∈ l ++ m, p r := fun r hr => (List.mem_append.1 hr).elim (h1 r) (h2 r)
theorem mixed : Try.prog.follows .mixedOrders = true := by kernel_rfl

theorem turns_is (a b c d : Pt) (ia : InP a) (ib : InP b) (ic : InP c) (id : InP d) : ∀ r ∈ turns (trn a b c) (trn a b d) (trn c d a) (trn c d b), CallIs Try.prog (sy a b c d) r := by
  intro r hr
  simp only [turns, List.mem_cons, List.not_mem_nil, or_false] at hr
  rcases hr with rfl | rfl | rfl | rfl
  · exact told_of (xs := [ptV a, ptV b, ptV c]) rfl rfl fun w => rTurn a b c ia ib ic w
  · exact told_of (xs := [ptV a, ptV b, ptV d]) rfl rfl fun w => rTurn a b d ia ib id w
  · exact told_of (xs := [ptV c, ptV d, ptV a]) rfl rfl fun w => rTurn c d a ic id ia w
  · exact told_of (xs := [ptV c, ptV d, ptV b]) rfl rfl fun w => rTurn c d b ic id ib w

theorem lo_is (a b c d : Pt) : @den (told (sy a b c d) [] []) (fun _ => none) (lo (beforeR (sortR a b).1 (sortR c d).1)) = some (ptV (loR (sortR a b).1 (sortR c d).1)) := by
  unfold loR
  cases beforeR (sortR a b).1 (sortR c d).1 <;> rfl
theorem hi_is (a b c d : Pt) : @den (told (sy a b c d) [] []) (fun _ => none) (hi (beforeR (sortR c d).2 (sortR a b).2)) = some (ptV (hiR (sortR a b).2 (sortR c d).2)) := by
  unfold hiR
  cases beforeR (sortR c d).2 (sortR a b).2 <;> rfl

theorem line_is (a b c d : Pt) : ∀ r ∈ line (beforeR (sortR a b).1 (sortR c d).1) (beforeR (sortR c d).2 (sortR a b).2) (beforeR (loR (sortR a b).1 (sortR c d).1) (hiR (sortR a b).2 (sortR c d).2)), CallIs Try.prog (sy a b c d) r := by
  intro r hr
  simp only [line, List.mem_cons, List.not_mem_nil, or_false] at hr
  rcases hr with rfl | rfl | rfl | rfl | rfl
  · exact told_of (xs := [ptV a, ptV b]) rfl rfl fun w => rSorted a b w
  · exact told_of (xs := [ptV c, ptV d]) rfl rfl fun w => rSorted c d w
  · exact told_of (xs := [ptV (sortR a b).1, ptV (sortR c d).1]) rfl rfl fun w => rBefore (sortR a b).1 (sortR c d).1 w
  · exact told_of (xs := [ptV (sortR c d).2, ptV (sortR a b).2]) rfl rfl fun w => rBefore (sortR c d).2 (sortR a b).2 w
  · refine told_of (xs := [ptV (loR (sortR a b).1 (sortR c d).1), ptV (hiR (sortR a b).2 (sortR c d).2)]) ?_ rfl fun w => rBefore (loR (sortR a b).1 (sortR c d).1) (hiR (sortR a b).2 (sortR c d).2) w
    simp only [denL, lo_is, hi_is]
    rfl

theorem ptEq {s t : Pt} : (s.1 = t.1 ∧ s.2 = t.2) ↔ s = t := ⟨fun h => Prod.ext h.1 h.2, fun h => h ▸ ⟨rfl, rfl⟩⟩

theorem rmeet (a b c d : Pt) (ia : InP a) (ib : InP b) (ic : InP c) (id : InP d) (w : World) : Calls Try.prog 17 #[ptV a, ptV b, ptV c, ptV d] w fun e w' => e = .returned (.int .i64 (meetR a b c d)) ∧ Below w.heap.size w w' := by
  by_cases hp : a = b ∨ c = d
  · exact rmeet_point a.1 a.2 b.1 b.2 c.1 c.2 d.1 d.2 (hp.imp (fun h => ptEq.2 h) fun h => ptEq.2 h) ia ib ic id w
  have hx : @denL (told (sy a b c d) [] []) (fun _ => none) [A, B, C, D] = some [ptV a, ptV b, ptV c, ptV d] := rfl
  have hne : ∀ r ∈ ne, EqIs Try.prog (sy a b c d) r := by
    intro r hr
    simp only [ne, List.mem_cons, List.not_mem_nil, or_false] at hr
    rcases hr with rfl | rfl
    · exact pt_eq (s := a) (t := b) rfl rfl (decide_eq_false fun h => hp (Or.inl (ptEq.1 h)))
    · exact pt_eq (s := c) (t := d) rfl rfl (decide_eq_false fun h => hp (Or.inr (ptEq.1 h)))
  have hT := turns_is a b c d ia ib ic id
  have t3 : ∀ p q r, T3 (trn p q r) := fun p q r => by have := trn_le p q r; unfold T3; omega
  unfold meetR
  rw [if_neg hp]
  by_cases hl : trn a b c = 0 ∧ trn a b d = 0
  · rw [if_pos hl]
    have hl' := line_both (fun h => hp (Or.inl h)) ((trn_zero _ _ _).1 hl.1) ((trn_zero _ _ _).1 hl.2)
    rw [hl.1, hl.2, (trn_zero _ _ _).2 hl'.1, (trn_zero _ _ _).2 hl'.2] at hT
    have hE : ∀ r ∈ ends (beforeR (sortR a b).1 (sortR c d).1) (beforeR (sortR c d).2 (sortR a b).2) (decide ((loR (sortR a b).1 (sortR c d).1) = (hiR (sortR a b).2 (sortR c d).2))), EqIs Try.prog (sy a b c d) r := by
      intro r hr
      simp only [ends, List.mem_cons, List.not_mem_nil, or_false] at hr
      subst hr
      exact pt_eq (lo_is a b c d) (hi_is a b c d) (decide_eq_decide.2 ptEq)
    have hv : ordR (loR (sortR a b).1 (sortR c d).1) (hiR (sortR a b).2 (sortR c d).2) = cond (beforeR (loR (sortR a b).1 (sortR c d).1) (hiR (sortR a b).2 (sortR c d).2)) 2 (cond (decide ((loR (sortR a b).1 (sortR c d).1) = (hiR (sortR a b).2 (sortR c d).2))) 1 0) := by
      unfold ordR
      simp [Bool.cond_eq_ite]
    rw [hv]
    exact calls_told mixed (sy a b c d) _ _ (memApp hT (line_is a b c d)) (memApp hne hE) hx (evLine _ _ _ _ _) w
  · rw [if_neg hl]
    exact calls_told mixed (sy a b c d) _ _ hT hne hx (evTurn _ _ _ _ _ (t3 _ _ _) (t3 _ _ _) (t3 _ _ _) (t3 _ _ _) hl) w

/-- What the law calls. -/
def base (ia ib ic id : Bool) : List KCall := [(5, [], bo true), (15, [A, B, C, D], .tup [cond (ia && ib && ic && id) (.sy 16) (num 0), cond (ia && ib && ic && id) (num 0) (num 6)]),
  (16, [A], bo ia), (16, [B], bo ib), (16, [C], bo ic), (16, [D], bo id)]
def theirs (ok : Bool) : List KCall := cond ok [(17, [A, B, C, D], .sy 16)] []
def same : List KEq := [(3, .sy 16, .sy 16, true)]
theorem evLaw (sym : Nat → IntKind × Int) (ia ib ic id : Bool) : @evalBeside (told sym (base ia ib ic id ++ theirs (ia && ib && ic && id)) same) Try.prog 300 4 [A, B, C, D] [] = some (.bool true) := by
  cases ia <;> cases ib <;> cases ic <;> cases id <;> kernel_rfl

def sy2 (a b c d : Pt) (i : Nat) : IntKind × Int := (.i64, [a.1, a.2, b.1, b.2, c.1, c.2, d.1, d.2, 0, 0, 0, 0, 0, 0, 0, 0, meetP a b c d].getD i 0)

theorem base_is (a b c d : Pt) : ∀ r ∈ base (inP a) (inP b) (inP c) (inP d), CallIs Try.prog (sy2 a b c d) r := by
  intro r hr
  simp only [base, List.mem_cons, List.not_mem_nil, or_false] at hr
  rcases hr with rfl | rfl | rfl | rfl | rfl | rfl
  · exact told_of (xs := []) (u := .bool true) rfl rfl fun w => awake_any w
  · have h := meet_all a b c d
    unfold meetV errOk ok4 at h
    cases hh : inP a && inP b && inP c && inP d <;> simp only [hh, if_true, Bool.false_eq_true, if_false] at h
    · exact told_of (xs := [ptV a, ptV b, ptV c, ptV d]) rfl rfl fun w => h w
    · exact told_of (xs := [ptV a, ptV b, ptV c, ptV d]) rfl rfl fun w => h w
  · exact told_of (xs := [ptV a]) rfl rfl fun w => rInP a w
  · exact told_of (xs := [ptV b]) rfl rfl fun w => rInP b w
  · exact told_of (xs := [ptV c]) rfl rfl fun w => rInP c w
  · exact told_of (xs := [ptV d]) rfl rfl fun w => rInP d w

theorem theirs_is (a b c d : Pt) : ∀ r ∈ theirs (inP a && inP b && inP c && inP d), CallIs Try.prog (sy2 a b c d) r := by
  intro r hr
  cases hh : inP a && inP b && inP c && inP d
  · rw [hh] at hr; cases hr
  · rw [hh] at hr
    simp only [theirs, cond_true, List.mem_cons, List.not_mem_nil, or_false] at hr
    subst hr
    simp only [Bool.and_eq_true] at hh
    obtain ⟨⟨⟨ha, hb⟩, hc⟩, hd⟩ := hh
    have h := rmeet a b c d ((inP_iff a).1 ha) ((inP_iff b).1 hb) ((inP_iff c).1 hc) ((inP_iff d).1 hd)
    rw [← meet_eq ((inP_iff a).1 ha) ((inP_iff b).1 hb) ((inP_iff c).1 hc) ((inP_iff d).1 hd)] at h
    exact told_of (xs := [ptV a, ptV b, ptV c, ptV d]) rfl rfl fun w => h w

theorem meets (a b c d : Pt) (w : World) : Calls Try.prog 4 #[ptV a, ptV b, ptV c, ptV d] w fun e w' => e = .returned (.bool true) ∧ Below w.heap.size w w' := by
  have hx : @denL (told (sy2 a b c d) [] []) (fun _ => none) [A, B, C, D] = some [ptV a, ptV b, ptV c, ptV d] := rfl
  refine calls_told mixed (sy2 a b c d) _ same (memApp (base_is a b c d) (theirs_is a b c d)) ?_ hx (evLaw _ _ _ _ _) w
  intro r hr
  simp only [same, List.mem_cons, List.not_mem_nil, or_false] at hr
  subst hr
  exact int_eq 16
end Meets

theorem vectorMeets_any (a1 a2 b1 b2 c1 c2 d1 d2 : Int) (w : World) : Calls Try.prog 4 #[.agg #[.int .i64 a1, .int .i64 a2], .agg #[.int .i64 b1, .int .i64 b2], .agg #[.int .i64 c1, .int .i64 c2], .agg #[.int .i64 d1, .int .i64 d2]] w fun e w' => e = .returned (.bool true) ∧ Below w.heap.size w w' :=
  Meets.meets (a1, a2) (b1, b2) (c1, c2) (d1, d2) w
end Go.Proofs.Ytdbcflgacjgdoaa
