/- Layer 6 (box): what is left of a box without another one, put behind a list. -/
import Derived.Test.YtcjgobephedpdaaBsH
namespace Go.Proofs.Ytcjgobephedpdaa
open Go.RowKit Go.Ev
set_option maxRecDepth 100000
/-- The first parts of what is left. -/
def upT (p q : Bx) (t1 t2 t3 t4 t5 t6 : Bool) : Nat → List Bx
  | 1 => paL p q t1 false false false false false
  | 2 => paL p q t1 t2 false false false false
  | 3 => paL p q t1 t2 t3 false false false
  | 4 => paL p q t1 t2 t3 t4 false false
  | 5 => paL p q t1 t2 t3 t4 t5 false
  | 6 => paL p q t1 t2 t3 t4 t5 t6
  | _ => []
abbrev apLst (L : List Bx) (u : Nat → List Bx) : Tm → List Value
  | .v 50 => elC encB (L ++ u 0)
  | .v 51 => elC encB (L ++ u 1)
  | .v 52 => elC encB (L ++ u 2)
  | .v 53 => elC encB (L ++ u 3)
  | .v 54 => elC encB (L ++ u 4)
  | .v 55 => elC encB (L ++ u 5)
  | .v 56 => elC encB (L ++ u 6)
  | _ => []
abbrev apSymL (p q : Bx) (L : List Bx) (u : Nat → List Bx) : Tm → Sym := apSym p q (L ++ u 0).length (L ++ u 1).length (L ++ u 2).length (L ++ u 3).length (L ++ u 4).length (L ++ u 5).length (L ++ u 6).length
/-- One box put behind the list. -/
theorem ap_one {p q : Bx} {L : List Bx} {u : Nat → List Bx} {i j : Nat} {cs : List CV} {b : Bx} (hi : apLst L u (.v (50 + i)) = elC encB (L ++ u i)) (hj : apLst L u (.v (50 + j)) = elC encB (L ++ u j)) (ni : asN (apSymL p q L u (.v (60 + i))).v = some (L ++ u i).length) (nj : asN (apSymL p q L u (.v (60 + j))).v = some (L ++ u j).length)
    (hc : @denL (told (apSymL p q L u) [] []) (fun _ => none) cs = some (encB b)) (hu : u j = u i ++ [b]) (hn : (L ++ u j).length ≤ 1000000) :
    ∃ xs N m, @denL (told (apSymL p q L u) [] []) (fun _ => none) cs = some xs ∧ asN (apSymL p q L u (.v (60 + i))).v = some N ∧ (apLst L u (.v (50 + i))).length = N * 6 ∧ xs.length = m * 6 ∧ apLst L u (.v (50 + j)) = apLst L u (.v (50 + i)) ++ xs ∧ asN (apSymL p q L u (.v (60 + j))).v = some (N + m) ∧ N + m ≤ 1000000 := by
  have h1 : (L ++ u j).length = (L ++ u i).length + 1 := by rw [hu]; simp; omega
  refine ⟨encB b, (L ++ u i).length, 1, hc, ni, by rw [hi, elC_len encB_len], rfl, ?_, by rw [nj, h1], by omega⟩
  rw [hi, hj, hu, ← List.append_assoc, elC_append]
  rfl
set_option maxHeartbeats 4000000 in
theorem ap_ok {p q : Bx} {L : List Bx} (t1 t2 t3 t4 t5 t6 : Bool) (hn : L.length ≤ 900000) : ({ lst := apLst L (upT p q t1 t2 t3 t4 t5 t6), ap := apL 0 1 (paT t1 t2 t3 t4 t5 t6) } : Abs).OK Try.prog (apSymL p q L (upT p q t1 t2 t3 t4 t5 t6)) := by
  refine ⟨aN, aN, aN, ?_, aN⟩
  cases t1 <;> cases t2 <;> cases t3 <;> cases t4 <;> cases t5 <;> cases t6 <;> (simp only [apL, paT, cond_true, cond_false]; repeat (first | exact aN | refine aC (ap_one rfl rfl rfl rfl rfl rfl (by simp [upT, paL]; omega)) ?_))
theorem up_last (p q : Bx) (t1 t2 t3 t4 t5 t6 : Bool) : upT p q t1 t2 t3 t4 t5 t6 (laL 0 1 [t1, t2, t3, t4, t5, t6]) = paL p q t1 t2 t3 t4 t5 t6 := by
  cases t1 <;> cases t2 <;> cases t3 <;> cases t4 <;> cases t5 <;> cases t6 <;> rfl
theorem la_le (t1 t2 t3 t4 t5 t6 : Bool) : laL 0 1 [t1, t2, t3, t4, t5, t6] ≤ 6 := by
  cases t1 <;> cases t2 <;> cases t3 <;> cases t4 <;> cases t5 <;> cases t6 <;> decide
theorem lst_at (L : List Bx) (u : Nat → List Bx) : ∀ i, i ≤ 6 → apLst L u (.v (50 + i)) = elC encB (L ++ u i)
  | 0, _ => rfl
  | 1, _ => rfl
  | 2, _ => rfl
  | 3, _ => rfl
  | 4, _ => rfl
  | 5, _ => rfl
  | 6, _ => rfl
  | i + 7, h => by omega
theorem len_at (p q : Bx) (L : List Bx) (u : Nat → List Bx) : ∀ i, i ≤ 6 → asN (apSymL p q L u (.v (60 + i))).v = some (L ++ u i).length
  | 0, _ => rfl
  | 1, _ => rfl
  | 2, _ => rfl
  | 3, _ => rfl
  | 4, _ => rfl
  | 5, _ => rfl
  | 6, _ => rfl
  | i + 7, h => by omega
theorem known_apR {p q : Bx} {L : List Bx} {u : Nat → List Bx} {ap : List KAp} {lv : List KOp} (hA : ({ lst := apLst L u, ap := ap } : Abs).OK Try.prog (apSymL p q L u)) (h : ∀ r ∈ lv, OpAt Try.prog (apSymL p q L u) (fun _ => True) r) : @KnownOK (toldX (apSymL p q L u) { lst := apLst L u, ap := ap } [] [] lv (fun _ => True) 0 (fun _ _ _ _ => trivial)) Try.prog := known_toldX hA aN aN aN h
/-- Behind a list that the caller owns. -/
theorem appendLeft_any (p q : Bx) (hp : p.a < p.d ∧ p.b < p.e ∧ p.c < p.f) (L : List Bx) (hn : L.length ≤ 900000) (base : Nat) (v : Value) (w : World) (hbw : base ≤ w.heap.size) (hO : OwnL encB tBx 6 base L v w) :
    Calls Try.prog 36 #[v, bxV p, bxV q] w fun e w' => ∃ v', e = .returned v' ∧ OwnL encB tBx 6 base (L ++ leftF p q) v' w' ∧ Below base w w' := by
  rcases hO.2 with ⟨rfl, hl0⟩ | ⟨g, cap, cur, rfl, g1, g2, g3, g4, g5, g6⟩
  · have hL : L = [] := List.length_eq_zero_iff.1 hl0
    subst hL
    exact (apN_any p q hp w).mono fun e w' ⟨v', h1, h2, _, h3⟩ => ⟨v', h1, ownsRow_base h2 hbw, h3.mono hbw⟩
  · have hrow : ∀ u : Nat → List Bx, u 0 = [] → LsAt (apLst L u) (.v 50, tBx, 6) (g, cap) w := fun u hu => ⟨cur, g2, by
      show cur.toList.take (elC encB (L ++ u 0)).length = elC encB (L ++ u 0)
      rw [hu, List.append_nil, elC_len encB_len]; exact g6, g5, g4⟩
    have hx : ∀ (u : Nat → List Bx), u 0 = [] → ∀ (A : Abs) (lv : List KOp), @denL (toldX (apSymL p q L u) A [] [] lv (fun _ => True) 0 (fun _ _ _ _ => trivial)) (plX [(g, cap)]) [.as 0 (.v 60), s6 0, s6 6] = some [.slice (some ⟨g, 0, none⟩) L.length cap, bxV p, bxV q] := fun u hu A lv => by
      have h1 : @den (toldX (apSymL p q L u) A [] [] lv (fun _ => True) 0 (fun _ _ _ _ => trivial)) (plX [(g, cap)]) (.as 0 (.v 60)) = some (.slice (some ⟨g, 0, none⟩) L.length cap) := @den_asI (toldX (apSymL p q L u) A [] [] lv (fun _ => True) 0 (fun _ _ _ _ => trivial)) _ 0 (.v 60) (g, cap) L.length rfl (by show asN (intSym .i64 (L ++ u 0).length).v = _; rw [hu, List.append_nil]; rfl)
      simp only [denL, h1]
      rfl
    cases ho : ovB p q with
    | false =>
      let u : Nat → List Bx := fun i => if i = 0 then [] else [p]
      have hA : ({ lst := apLst L u, ap := [(.v 50, .v 60, 6, sC 0 1 2 3 4 5, .v 51, .v 61)] } : Abs).OK Try.prog (apSymL p q L u) := ⟨aN, aN, aN, aC (ap_one (i := 0) (j := 1) (b := p) rfl rfl rfl rfl rfl rfl (by simp [u]; omega)) aN, aN⟩
      have := @calls_ownR (toldX (apSymL p q L u) { lst := apLst L u, ap := [(.v 50, .v 60, 6, sC 0 1 2 3 4 5, .v 51, .v 61)] } [] [] (cmO ++ ovO _ _ _) (fun _ => True) 0 (fun _ _ _ _ => trivial)) Try.prog hmix (known_apR hA (aA cm_ops (ov_ops rfl rfl rfl))) rfl 300 36 [.as 0 (.v 60), s6 0, s6 6] _ (.v 50) (.v 51) tBx 6 (by decide) (.v 61) (L ++ u 1).length (g, cap) base w (evR0 p q _ _ _ _ _ _ _ _ _ _ _ (ovB_false ho)) trivial (Nat.zero_le _) (Nat.zero_le _) g1 hbw (hrow u rfl) (hx u rfl _ _) rfl (by show (elC encB (L ++ u 1)).length = _; rw [elC_len encB_len])
      unfold leftF
      rw [ho]
      exact this
    | true =>
      obtain ⟨o1, o2, o3⟩ := ovB_true ho
      obtain ⟨t1, h1⟩ : ∃ t, decide (p.c < mxZ p.c q.c) = t := ⟨_, rfl⟩
      obtain ⟨t2, h2⟩ : ∃ t, decide (mnZ p.f q.f < p.f) = t := ⟨_, rfl⟩
      obtain ⟨t3, h3⟩ : ∃ t, decide (p.b < mxZ p.b q.b) = t := ⟨_, rfl⟩
      obtain ⟨t4, h4⟩ : ∃ t, decide (mnZ p.e q.e < p.e) = t := ⟨_, rfl⟩
      obtain ⟨t5, h5⟩ : ∃ t, decide (p.a < mxZ p.a q.a) = t := ⟨_, rfl⟩
      obtain ⟨t6, h6⟩ : ∃ t, decide (mnZ p.d q.d < p.d) = t := ⟨_, rfl⟩
      have := @calls_ownR (toldX (apSymL p q L (upT p q t1 t2 t3 t4 t5 t6)) { lst := apLst L (upT p q t1 t2 t3 t4 t5 t6), ap := apL 0 1 (paT t1 t2 t3 t4 t5 t6) } [] [] (cmO ++ (ovO true true true ++ paO t1 t2 t3 t4 t5 t6)) (fun _ => True) 0 (fun _ _ _ _ => trivial)) Try.prog hmix (known_apR (ap_ok t1 t2 t3 t4 t5 t6 hn) (aA cm_ops (aA (ov_ops (decide_eq_true o1) (decide_eq_true o2) (decide_eq_true o3)) (pa_ops hp h1 h2 h3 h4 h5 h6)))) rfl 300 36 [.as 0 (.v 60), s6 0, s6 6] _ (.v 50) _ tBx 6 (by decide) _ _ (g, cap) base w (evApR p q _ _ _ _ _ _ _ _ t1 t2 t3 t4 t5 t6) trivial (Nat.zero_le _) (Nat.zero_le _) g1 hbw (hrow _ rfl) (hx _ rfl _ _) (len_at _ _ _ _ _ (la_le _ _ _ _ _ _)) (by rw [show (Ctxt.ab (self := toldX (apSymL p q L (upT p q t1 t2 t3 t4 t5 t6)) { lst := apLst L (upT p q t1 t2 t3 t4 t5 t6), ap := apL 0 1 (paT t1 t2 t3 t4 t5 t6) } [] [] (cmO ++ (ovO true true true ++ paO t1 t2 t3 t4 t5 t6)) (fun _ => True) 0 (fun _ _ _ _ => trivial))).lst = apLst L (upT p q t1 t2 t3 t4 t5 t6) from rfl, lst_at _ _ _ (la_le _ _ _ _ _ _), elC_len encB_len])
      unfold leftF
      rw [ho, h1, h2, h3, h4, h5, h6]
      simp only [cond_true]
      refine this.mono fun e w' ⟨v', r1, r2, r3⟩ => ⟨v', r1, ?_, r3⟩
      have r2 : w'.ownsRow base tBx 6 v' _ (apLst L (upT p q t1 t2 t3 t4 t5 t6) _) := r2
      rw [lst_at _ _ _ (la_le _ _ _ _ _ _), up_last] at r2
      exact r2
end Go.Proofs.Ytcjgobephedpdaa
