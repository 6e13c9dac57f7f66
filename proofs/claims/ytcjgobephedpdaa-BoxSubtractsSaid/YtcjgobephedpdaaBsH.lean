/- Layer 6 (box): what is left of a box without another one: contracts. -/
import Derived.Test.YtcjgobephedpdaaBsE
import Derived.Test.YtcjgobephedpdaaBsF
import Derived.Test.YtcjgobephedpdaaBsG
namespace Go.Proofs.Ytcjgobephedpdaa
open Go.RowKit Go.Ev
set_option maxRecDepth 100000
theorem ownsRow_base {w : World} {b b' : Nat} {e : TypeId} {z : Nat} {v : Value} {n : Nat} {xs : List Value} (h : w.ownsRow b e z v n xs) (hb : b' ≤ b) : w.ownsRow b' e z v n xs := by
  refine ⟨h.1, h.2.imp id ?_⟩
  rintro ⟨g, cap, cur, rfl, g1, g2⟩
  exact ⟨g, cap, cur, rfl, Nat.le_trans hb g1, g2⟩
theorem cm_ops {p q : Bx} {n0 n1 n2 n3 n4 n5 n6 : Nat} {K : World → Prop} : ∀ r ∈ cmO, OpAt Try.prog (apSym p q n0 n1 n2 n3 n4 n5 n6) K r :=
  aC (OpIs.at ⟨[iv p.a, iv q.a], iv (mxZ p.a q.a), rfl, rfl, tells_mx rfl⟩ K) (aC (OpIs.at ⟨[iv p.b, iv q.b], iv (mxZ p.b q.b), rfl, rfl, tells_mx rfl⟩ K) (aC (OpIs.at ⟨[iv p.c, iv q.c], iv (mxZ p.c q.c), rfl, rfl, tells_mx rfl⟩ K)
    (aC (OpIs.at ⟨[iv p.d, iv q.d], iv (mnZ p.d q.d), rfl, rfl, tells_mn rfl⟩ K) (aC (OpIs.at ⟨[iv p.e, iv q.e], iv (mnZ p.e q.e), rfl, rfl, tells_mn rfl⟩ K) (aC (OpIs.at ⟨[iv p.f, iv q.f], iv (mnZ p.f q.f), rfl, rfl, tells_mn rfl⟩ K) aN)))))
theorem ov_ops {p q : Bx} {n0 n1 n2 n3 n4 n5 n6 : Nat} {K : World → Prop} {o1 o2 o3 : Bool} (h1 : decide (mxZ p.a q.a < mnZ p.d q.d) = o1) (h2 : decide (mxZ p.b q.b < mnZ p.e q.e) = o2) (h3 : decide (mxZ p.c q.c < mnZ p.f q.f) = o3) : ∀ r ∈ ovO o1 o2 o3, OpAt Try.prog (apSym p q n0 n1 n2 n3 n4 n5 n6) K r :=
  aC (OpIs.at ⟨[iv (mxZ p.a q.a), iv (mnZ p.d q.d)], .bool o1, rfl, rfl, tells_lss h1⟩ K) (aC (OpIs.at ⟨[iv (mxZ p.b q.b), iv (mnZ p.e q.e)], .bool o2, rfl, rfl, tells_lss h2⟩ K) (aC (OpIs.at ⟨[iv (mxZ p.c q.c), iv (mnZ p.f q.f)], .bool o3, rfl, rfl, tells_lss h3⟩ K) aN))
theorem pa_ops {p q : Bx} {n0 n1 n2 n3 n4 n5 n6 : Nat} {K : World → Prop} {t1 t2 t3 t4 t5 t6 : Bool} (hp : p.a < p.d ∧ p.b < p.e ∧ p.c < p.f) (h1 : decide (p.c < mxZ p.c q.c) = t1) (h2 : decide (mnZ p.f q.f < p.f) = t2) (h3 : decide (p.b < mxZ p.b q.b) = t3) (h4 : decide (mnZ p.e q.e < p.e) = t4) (h5 : decide (p.a < mxZ p.a q.a) = t5) (h6 : decide (mnZ p.d q.d < p.d) = t6) : ∀ r ∈ paO t1 t2 t3 t4 t5 t6, OpAt Try.prog (apSym p q n0 n1 n2 n3 n4 n5 n6) K r :=
  aC (OpIs.at ⟨[iv p.a, iv p.d], _, rfl, rfl, tells_lss (decide_eq_true hp.1)⟩ K) (aC (OpIs.at ⟨[iv p.b, iv p.e], _, rfl, rfl, tells_lss (decide_eq_true hp.2.1)⟩ K) (aC (OpIs.at ⟨[iv p.c, iv p.f], _, rfl, rfl, tells_lss (decide_eq_true hp.2.2)⟩ K)
    (aC (OpIs.at ⟨[iv p.c, iv (mxZ p.c q.c)], .bool t1, rfl, rfl, tells_lss h1⟩ K) (aC (OpIs.at ⟨[iv (mnZ p.f q.f), iv p.f], .bool t2, rfl, rfl, tells_lss h2⟩ K) (aC (OpIs.at ⟨[iv p.b, iv (mxZ p.b q.b)], .bool t3, rfl, rfl, tells_lss h3⟩ K)
    (aC (OpIs.at ⟨[iv (mnZ p.e q.e), iv p.e], .bool t4, rfl, rfl, tells_lss h4⟩ K) (aC (OpIs.at ⟨[iv p.a, iv (mxZ p.a q.a)], .bool t5, rfl, rfl, tells_lss h5⟩ K) (aC (OpIs.at ⟨[iv (mnZ p.d q.d), iv p.d], .bool t6, rfl, rfl, tells_lss h6⟩ K) aN))))))))
theorem evN0 (p q : Bx) (o1 o2 o3 : Bool) (h : (o1 && (o2 && o3)) = false) : outL (evalFn0 Try.prog (@evalC (apC p q (cmO ++ ovO o1 o2 o3)) Try.prog 300 true) 0 36 [.clo (.slice none 0 0), s6 0, s6 6] ⟨0, []⟩) = some (1, some ⟨sC 0 1 2 3 4 5, tBx, some 6⟩) := by
  cases o1
  · kernel_rfl
  · cases o2
    · kernel_rfl
    · cases o3
      · kernel_rfl
      · cases h
theorem evS0 (p q : Bx) (o1 o2 o3 : Bool) (h : (o1 && (o2 && o3)) = false) : outB (evalFn0 Try.prog (@evalC (apC p q (cmO ++ ovO o1 o2 o3)) Try.prog 300 true) 0 11 [s6 0, s6 6] ⟨0, []⟩) = some (1, 1, ⟨sC 0 1 2 3 4 5, tBx, none⟩) := by
  cases o1
  · kernel_rfl
  · cases o2
    · kernel_rfl
    · cases o3
      · kernel_rfl
      · cases h
theorem evR0 (p q : Bx) (n0 n1 n2 n3 n4 n5 n6 : Nat) (lst : Tm → List Value) (o1 o2 o3 : Bool) (h : (o1 && (o2 && o3)) = false) : outA (evalFn0 Try.prog (@evalC (toldX (apSym p q n0 n1 n2 n3 n4 n5 n6) { lst := lst, ap := [(.v 50, .v 60, 6, sC 0 1 2 3 4 5, .v 51, .v 61)] } [] [] (cmO ++ ovO o1 o2 o3) (fun _ => True) 0 (fun _ _ _ _ => trivial)) Try.prog 300 true) 0 36 [.as 0 (.v 60), s6 0, s6 6] ⟨1, memOf 0 [abB (.v 50) tBx 6]⟩) = some (.v 61, some (abB (.v 51) tBx 6)) := by
  cases o1
  · kernel_rfl
  · cases o2
    · kernel_rfl
    · cases o3
      · kernel_rfl
      · cases h
theorem paC_den (p q : Bx) (lv : List KOp) (t1 t2 t3 t4 t5 t6 : Bool) : @denL (apC p q lv) (fun _ => none) (paC t1 t2 t3 t4 t5 t6) = some (elC encB (paL p q t1 t2 t3 t4 t5 t6)) := by
  cases t1 <;> cases t2 <;> cases t3 <;> cases t4 <;> cases t5 <;> cases t6 <;> rfl
theorem paN_len (p q : Bx) (t1 t2 t3 t4 t5 t6 : Bool) : (paL p q t1 t2 t3 t4 t5 t6).length = paN t1 t2 t3 t4 t5 t6 := by
  cases t1 <;> cases t2 <;> cases t3 <;> cases t4 <;> cases t5 <;> cases t6 <;> rfl
theorem known_ap {p q : Bx} {lv : List KOp} (h : ∀ r ∈ lv, OpAt Try.prog (apSym p q 0 0 0 0 0 0 0) (fun _ => True) r) : @KnownOK (apC p q lv) Try.prog := known_toldK 0 _ _ _ _ _ _ _ aN aN h
theorem ovB_false {p q : Bx} (h : ovB p q = false) : (decide (mxZ p.a q.a < mnZ p.d q.d) && (decide (mxZ p.b q.b < mnZ p.e q.e) && decide (mxZ p.c q.c < mnZ p.f q.f))) = false := h
theorem ovB_true {p q : Bx} (h : ovB p q = true) : mxZ p.a q.a < mnZ p.d q.d ∧ mxZ p.b q.b < mnZ p.e q.e ∧ mxZ p.c q.c < mnZ p.f q.f := by
  unfold ovB at h
  simpa using h
/-- Into a new list. -/
theorem apN_any (p q : Bx) (hp : p.a < p.d ∧ p.b < p.e ∧ p.c < p.f) (w : World) :
    Calls Try.prog 36 #[.slice none 0 0, bxV p, bxV q] w fun e w' => ∃ v, e = .returned v ∧ OwnL encB tBx 6 w.heap.size (leftF p q) v w' ∧ (leftF p q = [] → v = .slice none 0 0) ∧ Below w.heap.size w w' := by
  cases ho : ovB p q with
  | false =>
    have := @calls_own (apC p q (cmO ++ ovO _ _ _)) Try.prog hmix (known_ap (aA cm_ops (ov_ops rfl rfl rfl))) rfl 300 36 [.clo (.slice none 0 0), s6 0, s6 6] [.slice none 0 0, bxV p, bxV q] 1 (sC 0 1 2 3 4 5) tBx 6 (by decide) (encB p) w (evN0 p q _ _ _ (ovB_false ho)) trivial (Nat.zero_le _) rfl rfl rfl
    unfold leftF
    rw [ho]
    exact this.mono fun e w' ⟨v, h1, h2, h3, h4⟩ => ⟨v, h1, h2, (fun h => by simp at h), h4⟩
  | true =>
    obtain ⟨o1, o2, o3⟩ := ovB_true ho
    have := @calls_own (apC p q (cmO ++ (ovO true true true ++ paO _ _ _ _ _ _))) Try.prog hmix (known_ap (aA cm_ops (aA (ov_ops (decide_eq_true o1) (decide_eq_true o2) (decide_eq_true o3)) (pa_ops hp rfl rfl rfl rfl rfl rfl)))) rfl 300 36 [.clo (.slice none 0 0), s6 0, s6 6] [.slice none 0 0, bxV p, bxV q] _ _ tBx 6 (by decide) _ w (evApN p q _ _ _ _ _ _) trivial (Nat.zero_le _) rfl (paC_den p q _ _ _ _ _ _ _) (by rw [elC_len encB_len, paN_len])
    unfold leftF
    rw [ho]
    simp only [cond_true, OwnL, paN_len]
    exact this.mono fun e w' ⟨v, h1, h2, h3, h4⟩ => ⟨v, h1, h2, fun h => h3 (by rw [← paN_len p q, h]; rfl), h4⟩
theorem rSub_any (p q : Bx) (hp : p.a < p.d ∧ p.b < p.e ∧ p.c < p.f) (w : World) :
    Calls Try.prog 11 #[bxV p, bxV q] w fun e w' => ∃ v, e = .returned v ∧ OwnL encB tBx 6 w.heap.size (leftF p q) v w' ∧ (leftF p q = [] → v = .slice none 0 0) ∧ Below w.heap.size w w' := by
  cases ho : ovB p q with
  | false =>
    have := @calls_ownB (apC p q (cmO ++ ovO _ _ _)) Try.prog hmix (known_ap (aA cm_ops (ov_ops rfl rfl rfl))) rfl 300 11 [s6 0, s6 6] [bxV p, bxV q] 1 (sC 0 1 2 3 4 5) tBx 6 (encB p) w (evS0 p q _ _ _ (ovB_false ho)) trivial (Nat.zero_le _) (by decide) rfl rfl rfl
    unfold leftF
    rw [ho]
    exact this.mono fun e w' ⟨v, h1, h2, h4⟩ => ⟨v, h1, h2, (fun h => by simp at h), h4⟩
  | true =>
    obtain ⟨o1, o2, o3⟩ := ovB_true ho
    have := @calls_own (apC p q (cmO ++ (ovO true true true ++ paO _ _ _ _ _ _))) Try.prog hmix (known_ap (aA cm_ops (aA (ov_ops (decide_eq_true o1) (decide_eq_true o2) (decide_eq_true o3)) (pa_ops hp rfl rfl rfl rfl rfl rfl)))) rfl 300 11 [s6 0, s6 6] [bxV p, bxV q] _ _ tBx 6 (by decide) _ w (evSb p q _ _ _ _ _ _) trivial (Nat.zero_le _) rfl (paC_den p q _ _ _ _ _ _ _) (by rw [elC_len encB_len, paN_len])
    unfold leftF
    rw [ho]
    simp only [cond_true, OwnL, paN_len]
    exact this.mono fun e w' ⟨v, h1, h2, h3, h4⟩ => ⟨v, h1, h2, fun h => h3 (by rw [← paN_len p q, h]; rfl), h4⟩
end Go.Proofs.Ytcjgobephedpdaa
