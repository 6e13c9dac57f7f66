/- Layer 6 (box): the loop that takes a box away from every box of a list. -/
import Derived.Test.YtcjgobephedpdaaBsI
import Derived.Test.YtcjgobephedpdaaTkK
namespace Go.Proofs.Ytcjgobephedpdaa
open Go.RowKit Go.Ev
set_option maxRecDepth 100000
abbrev riSym (b : Tm → Sym) (S : Nat → Sym) : Tm → Sym
  | .v 20 => S 20
  | .v 21 => S 21
  | .v 22 => S 22
  | .v 23 => S 23
  | .v 24 => S 24
  | .v 30 => S 30
  | .v 31 => S 31
  | .v 32 => S 32
  | .v 33 => S 33
  | .v 34 => S 34
  | .v 35 => S 35
  | .v 36 => S 36
  | .v 40 => S 40
  | x => b x
section
variable {p q : Bx} {n0 n1 n2 n3 n4 n5 n6 : Nat} {S : Nat → Sym} {K : World → Prop}
theorem cm_opsR : ∀ r ∈ cmO, OpAt Try.prog (riSym (apSym p q n0 n1 n2 n3 n4 n5 n6) S) K r :=
  aC (OpIs.at ⟨[iv p.a, iv q.a], iv (mxZ p.a q.a), rfl, rfl, tells_mx rfl⟩ K) (aC (OpIs.at ⟨[iv p.b, iv q.b], iv (mxZ p.b q.b), rfl, rfl, tells_mx rfl⟩ K) (aC (OpIs.at ⟨[iv p.c, iv q.c], iv (mxZ p.c q.c), rfl, rfl, tells_mx rfl⟩ K)
    (aC (OpIs.at ⟨[iv p.d, iv q.d], iv (mnZ p.d q.d), rfl, rfl, tells_mn rfl⟩ K) (aC (OpIs.at ⟨[iv p.e, iv q.e], iv (mnZ p.e q.e), rfl, rfl, tells_mn rfl⟩ K) (aC (OpIs.at ⟨[iv p.f, iv q.f], iv (mnZ p.f q.f), rfl, rfl, tells_mn rfl⟩ K) aN)))))
theorem ov_opsR {o1 o2 o3 : Bool} (h1 : decide (mxZ p.a q.a < mnZ p.d q.d) = o1) (h2 : decide (mxZ p.b q.b < mnZ p.e q.e) = o2) (h3 : decide (mxZ p.c q.c < mnZ p.f q.f) = o3) : ∀ r ∈ ovO o1 o2 o3, OpAt Try.prog (riSym (apSym p q n0 n1 n2 n3 n4 n5 n6) S) K r :=
  aC (OpIs.at ⟨[iv (mxZ p.a q.a), iv (mnZ p.d q.d)], .bool o1, rfl, rfl, tells_lss h1⟩ K) (aC (OpIs.at ⟨[iv (mxZ p.b q.b), iv (mnZ p.e q.e)], .bool o2, rfl, rfl, tells_lss h2⟩ K) (aC (OpIs.at ⟨[iv (mxZ p.c q.c), iv (mnZ p.f q.f)], .bool o3, rfl, rfl, tells_lss h3⟩ K) aN))
theorem pa_opsR {t1 t2 t3 t4 t5 t6 : Bool} (hp : p.a < p.d ∧ p.b < p.e ∧ p.c < p.f) (h1 : decide (p.c < mxZ p.c q.c) = t1) (h2 : decide (mnZ p.f q.f < p.f) = t2) (h3 : decide (p.b < mxZ p.b q.b) = t3) (h4 : decide (mnZ p.e q.e < p.e) = t4) (h5 : decide (p.a < mxZ p.a q.a) = t5) (h6 : decide (mnZ p.d q.d < p.d) = t6) : ∀ r ∈ paO t1 t2 t3 t4 t5 t6, OpAt Try.prog (riSym (apSym p q n0 n1 n2 n3 n4 n5 n6) S) K r :=
  aC (OpIs.at ⟨[iv p.a, iv p.d], _, rfl, rfl, tells_lss (decide_eq_true hp.1)⟩ K) (aC (OpIs.at ⟨[iv p.b, iv p.e], _, rfl, rfl, tells_lss (decide_eq_true hp.2.1)⟩ K) (aC (OpIs.at ⟨[iv p.c, iv p.f], _, rfl, rfl, tells_lss (decide_eq_true hp.2.2)⟩ K)
    (aC (OpIs.at ⟨[iv p.c, iv (mxZ p.c q.c)], .bool t1, rfl, rfl, tells_lss h1⟩ K) (aC (OpIs.at ⟨[iv (mnZ p.f q.f), iv p.f], .bool t2, rfl, rfl, tells_lss h2⟩ K) (aC (OpIs.at ⟨[iv p.b, iv (mxZ p.b q.b)], .bool t3, rfl, rfl, tells_lss h3⟩ K)
    (aC (OpIs.at ⟨[iv (mnZ p.e q.e), iv p.e], .bool t4, rfl, rfl, tells_lss h4⟩ K) (aC (OpIs.at ⟨[iv p.a, iv (mxZ p.a q.a)], .bool t5, rfl, rfl, tells_lss h5⟩ K) (aC (OpIs.at ⟨[iv (mnZ p.d q.d), iv p.d], .bool t6, rfl, rfl, tells_lss h6⟩ K) aN))))))))
end
theorem ap_oneR {p q : Bx} {L : List Bx} {u : Nat → List Bx} {S : Nat → Sym} {i j : Nat} {xs0 : List CV} {bs : List Bx} (hi : apLst L u (.v (50 + i)) = elC encB (L ++ u i)) (hj : apLst L u (.v (50 + j)) = elC encB (L ++ u j)) (ni : asN (riSym (apSymL p q L u) S (.v (60 + i))).v = some (L ++ u i).length) (nj : asN (riSym (apSymL p q L u) S (.v (60 + j))).v = some (L ++ u j).length)
    (hc : @denL (told (riSym (apSymL p q L u) S) [] []) (fun _ => none) xs0 = some (elC encB bs)) (hu : u j = u i ++ bs) (hn : (L ++ u j).length ≤ 1000000) :
    ∃ xs N m, @denL (told (riSym (apSymL p q L u) S) [] []) (fun _ => none) xs0 = some xs ∧ asN (riSym (apSymL p q L u) S (.v (60 + i))).v = some N ∧ (apLst L u (.v (50 + i))).length = N * 6 ∧ xs.length = m * 6 ∧ apLst L u (.v (50 + j)) = apLst L u (.v (50 + i)) ++ xs ∧ asN (riSym (apSymL p q L u) S (.v (60 + j))).v = some (N + m) ∧ N + m ≤ 1000000 := by
  have h1 : (L ++ u j).length = (L ++ u i).length + bs.length := by rw [hu]; simp; omega
  refine ⟨elC encB bs, (L ++ u i).length, bs.length, hc, ni, by rw [hi, elC_len encB_len], elC_len encB_len _, ?_, by rw [nj, h1], by omega⟩
  rw [hi, hj, hu, ← List.append_assoc, elC_append]
set_option maxHeartbeats 4000000 in
theorem ap_okR {p q : Bx} {L : List Bx} {S : Nat → Sym} (t1 t2 t3 t4 t5 t6 : Bool) (hn : L.length ≤ 900000) : ({ lst := apLst L (upT p q t1 t2 t3 t4 t5 t6), ap := apL 0 1 (paT t1 t2 t3 t4 t5 t6) } : Abs).OK Try.prog (riSym (apSymL p q L (upT p q t1 t2 t3 t4 t5 t6)) S) := by
  refine ⟨aN, aN, aN, ?_, aN⟩
  cases t1 <;> cases t2 <;> cases t3 <;> cases t4 <;> cases t5 <;> cases t6 <;> (simp only [apL, paT, cond_true, cond_false]; repeat (first | exact aN | refine aC (ap_oneR (bs := [_]) rfl rfl rfl rfl rfl rfl (by simp [upT, paL]; omega)) ?_))
theorem paC_denR (p q : Bx) (S : Nat → Sym) {A : Abs} {K : World → Prop} {B : Nat} {kst : ∀ w w', K w → Below B w w' → K w'} (lv : List KOp) (t1 t2 t3 t4 t5 t6 : Bool) : @denL (toldX (riSym (apSym p q 0 0 0 0 0 0 0) S) A [] [] lv K B kst) (fun _ => none) (paC t1 t2 t3 t4 t5 t6) = some (elC encB (paL p q t1 t2 t3 t4 t5 t6)) := by
  cases t1 <;> cases t2 <;> cases t3 <;> cases t4 <;> cases t5 <;> cases t6 <;> rfl
/-- The parts are boxes. -/
abbrev Full (p : Bx) : Prop := p.a < p.d ∧ p.b < p.e ∧ p.c < p.f
theorem mx_le (a b : Int) : a ≤ mxZ a b ∧ b ≤ mxZ a b := by unfold mxZ; split <;> omega
theorem mn_le (a b : Int) : mnZ a b ≤ a ∧ mnZ a b ≤ b := by unfold mnZ; split <;> omega
theorem mem_cond {b : Bool} {x y : Bx} (h : x ∈ cond b [y] []) : b = true ∧ x = y := by
  cases b
  · cases h
  · simpa using h
theorem leftF_full {p q : Bx} (hp : Full p) : ∀ x ∈ leftF p q, Full x := by
  intro x hx
  unfold leftF at hx
  cases ho : ovB p q with
  | false => rw [ho] at hx; simp at hx; subst hx; exact hp
  | true =>
    rw [ho] at hx
    obtain ⟨o1, o2, o3⟩ := ovB_true ho
    obtain ⟨p1, p2, p3⟩ := hp
    have m1 := mx_le p.a q.a; have m2 := mx_le p.b q.b; have m3 := mx_le p.c q.c
    have l1 := mn_le p.d q.d; have l2 := mn_le p.e q.e; have l3 := mn_le p.f q.f
    simp only [cond_true, paL, List.mem_append] at hx
    rcases hx with h | h | h | h | h | h <;> obtain ⟨ht, rfl⟩ := mem_cond h <;> simp only [decide_eq_true_eq] at ht <;> refine ⟨?_, ?_, ?_⟩ <;> simp only <;> omega
theorem cond_len {α : Type} (b : Bool) (x : α) : (cond b [x] []).length ≤ 1 := by cases b <;> simp
theorem leftF_len (p q : Bx) : (leftF p q).length ≤ 6 := by
  unfold leftF
  cases ovB p q
  · simp
  · simp only [cond_true, paL, List.length_append]
    have := fun b (x : Bx) => cond_len b x
    have h1 := this (decide (p.c < mxZ p.c q.c)) ⟨p.a, p.b, p.c, p.d, p.e, mxZ p.c q.c⟩
    have h2 := this (decide (mnZ p.f q.f < p.f)) ⟨p.a, p.b, mnZ p.f q.f, p.d, p.e, p.f⟩
    have h3 := this (decide (p.b < mxZ p.b q.b)) ⟨p.a, p.b, mxZ p.c q.c, p.d, mxZ p.b q.b, mnZ p.f q.f⟩
    have h4 := this (decide (mnZ p.e q.e < p.e)) ⟨p.a, mnZ p.e q.e, mxZ p.c q.c, p.d, p.e, mnZ p.f q.f⟩
    have h5 := this (decide (p.a < mxZ p.a q.a)) ⟨p.a, mxZ p.b q.b, mxZ p.c q.c, mxZ p.a q.a, mnZ p.e q.e, mnZ p.f q.f⟩
    have h6 := this (decide (mnZ p.d q.d < p.d)) ⟨mnZ p.d q.d, mxZ p.b q.b, mxZ p.c q.c, p.d, mnZ p.e q.e, mnZ p.f q.f⟩
    omega
theorem flat_len (q : Bx) : ∀ M : List Bx, (M.flatMap fun p => leftF p q).length ≤ M.length * 6
  | [] => by simp
  | p :: M => by
    have h1 := leftF_len p q
    have h2 := flat_len q M
    rw [List.flatMap_cons, List.length_append, List.length_cons]
    omega
theorem flat_take {q : Bx} {M : List Bx} {j : Nat} {p : Bx} (h : M[j]? = some p) : ((M.take (j + 1)).flatMap fun p => leftF p q) = ((M.take j).flatMap fun p => leftF p q) ++ leftF p q := by
  rw [List.take_add_one, h, List.flatMap_append]
  simp
end Go.Proofs.Ytcjgobephedpdaa
/- Layer 6 (box): the loop that takes a box away from every box of a list, in general. -/
namespace Go.Proofs.Ytcjgobephedpdaa
open Go.RowKit Go.Ev
set_option maxRecDepth 100000
/-- What the evaluations of a round must be. -/
structure EvIn (c : Code) (n r : Nat) (tl wt : List (Nat × CV)) (ro re : List KOp) (e : Nat) : Prop where
  n0 : ∀ (sym : Tm → Sym) (lst : Tm → List Value) (K : World → Prop) (B : Nat) (kst : ∀ w w', K w → Below B w w' → K w') (o1 o2 o3 : Bool), (o1 && (o2 && o3)) = false → ∀ u,
    outCL r (wt.map (·.1)) (@evalC (toldX sym { lst := lst } [] [] (ro ++ (cmO ++ ovO o1 o2 o3)) K B kst) Try.prog 300 true 0 c (frOf n ((r, .clo (.slice none 0 0)) :: tl) u) ⟨0, []⟩) = some (.normal, wt.map (·.2), (1, some ⟨sC 0 1 2 3 4 5, tBx, some 6⟩), [], n)
  nn : ∀ (sym : Tm → Sym) (lst : Tm → List Value) (K : World → Prop) (B : Nat) (kst : ∀ w w', K w → Below B w w' → K w') (t1 t2 t3 t4 t5 t6 : Bool), ∀ u,
    outCL r (wt.map (·.1)) (@evalC (toldX sym { lst := lst } [] [] (ro ++ (cmO ++ (ovO true true true ++ paO t1 t2 t3 t4 t5 t6))) K B kst) Try.prog 300 true 0 c (frOf n ((r, .clo (.slice none 0 0)) :: tl) u) ⟨0, []⟩) = some (.normal, wt.map (·.2), (paN t1 t2 t3 t4 t5 t6, match paN t1 t2 t3 t4 t5 t6 with | 0 => none | _ + 1 => some ⟨paC t1 t2 t3 t4 t5 t6, tBx, some 6⟩), [], n)
  r0 : ∀ (sym : Tm → Sym) (lst : Tm → List Value) (K : World → Prop) (B : Nat) (kst : ∀ w w', K w → Below B w w' → K w') (o1 o2 o3 : Bool), (o1 && (o2 && o3)) = false → ∀ u,
    outCA r (wt.map (·.1)) (@evalC (toldX sym { lst := lst, ap := [(.v 50, .v 60, 6, sC 0 1 2 3 4 5, .v 51, .v 61)] } [] [] (ro ++ (cmO ++ ovO o1 o2 o3)) K B kst) Try.prog 300 true 0 c (frOf n ((r, .as 0 (.v 60)) :: tl) u) ⟨1, memOf 0 [abB (.v 50) tBx 6]⟩) = some (.normal, wt.map (·.2), (.v 61, some (abB (.v 51) tBx 6)), [], n)
  end_ : ∀ (sym : Tm → Sym) (lst : Tm → List Value) (K : World → Prop) (B : Nat) (kst : ∀ w w', K w → Below B w w' → K w'), ∀ u,
    outC (((r, CV.sy 40) :: tl).map (·.1)) [] (@evalC (toldX sym { lst := lst } [] [] re K B kst) Try.prog 300 true 0 c (frOf n ((r, .sy 40) :: tl) u) ⟨0, []⟩) = some (.exit e, ((r, CV.sy 40) :: tl).map (·.2), [], [], n)
theorem inner_any {c : Code} {n r ix : Nat} {tl wt : List (Nat × CV)} {ro re : List KOp} {e : Nat} (hev : EvIn c n r tl wt ro re e) (apR : Bool → Bool → Bool → Bool → Bool → Bool → List KAp) (yR nR : Bool → Bool → Bool → Bool → Bool → Bool → Tm)
    (hR : ∀ (sym : Tm → Sym) (lst : Tm → List Value) (K : World → Prop) (B : Nat) (kst : ∀ w w', K w → Below B w w' → K w') (t1 t2 t3 t4 t5 t6 : Bool), ∀ u,
      outCA r (wt.map (·.1)) (@evalC (toldX sym { lst := lst, ap := apR t1 t2 t3 t4 t5 t6 } [] [] (ro ++ (cmO ++ (ovO true true true ++ paO t1 t2 t3 t4 t5 t6))) K B kst) Try.prog 300 true 0 c (frOf n ((r, .as 0 (.v 60)) :: tl) u) ⟨1, memOf 0 [abB (.v 50) tBx 6]⟩) = some (.normal, wt.map (·.2), (nR t1 t2 t3 t4 t5 t6, some (abB (yR t1 t2 t3 t4 t5 t6) tBx 6)), [], n))
    (hap : ∀ (p q : Bx) (L : List Bx) (S : Nat → Sym) (t1 t2 t3 t4 t5 t6 : Bool), L.length ≤ 900000 → ({ lst := apLst L (upT p q t1 t2 t3 t4 t5 t6), ap := apR t1 t2 t3 t4 t5 t6 } : Abs).OK Try.prog (riSym (apSymL p q L (upT p q t1 t2 t3 t4 t5 t6)) S))
    (hyR : ∀ (p q : Bx) (L : List Bx) (S : Nat → Sym) (t1 t2 t3 t4 t5 t6 : Bool), apLst L (upT p q t1 t2 t3 t4 t5 t6) (yR t1 t2 t3 t4 t5 t6) = elC encB (L ++ paL p q t1 t2 t3 t4 t5 t6) ∧ asN (riSym (apSymL p q L (upT p q t1 t2 t3 t4 t5 t6)) S (nR t1 t2 t3 t4 t5 t6)).v = some (L ++ paL p q t1 t2 t3 t4 t5 t6).length)
    (M : List Bx) (q : Bx) (hM : ∀ p ∈ M, Full p) (hMn : M.length ≤ 100000) (S : Nat → Nat → Sym) (tv : Nat → List (Nat × Value)) (K : World → Prop) (base : Nat) (kst : ∀ w w', K w → Below base w w' → K w')
    (hr : ∀ (j : Nat) (p : Bx), M[j]? = some p → ∀ (n0 n1 n2 n3 n4 n5 n6 : Nat), ∀ z ∈ ro, OpAt Try.prog (riSym (apSym p q n0 n1 n2 n3 n4 n5 n6) (S j)) K z)
    (hre : ∀ (b : Tm → Sym) (s : Sym), ∀ z ∈ re, OpAt Try.prog (riSym b (fun i => if i = 40 then s else S M.length i)) K z)
    (htl : ∀ (b : Tm → Sym) (j : Nat) (A : Abs) (lv : List KOp), @denTs (toldX (riSym b (S j)) A [] [] lv K base kst) tl = some (tv j)) (hwt : ∀ (b : Tm → Sym) (j : Nat) (A : Abs) (lv : List KOp), @denTs (toldX (riSym b (S j)) A [] [] lv K base kst) wt = some (tv (j + 1)))
    (htle : ∀ (b : Tm → Sym) (s : Sym) (A : Abs) (lv : List KOp), @denTs (toldX (riSym b (fun i => if i = 40 then s else S M.length i)) A [] [] lv K base kst) tl = some (tv M.length))
    (hix : ∀ k : Nat, (ix, ivZ k) ∈ tv k) {a : Act} {w : World} (hbase : base = w.heap.size) (hKw : K w) (hs : Tmps n ((r, .slice none 0 0) :: tv 0) a) {Q : Exit → Act → World → Prop}
    (hQ : ∀ a' w' v, Tmps n ((r, v) :: tv M.length) a' → OwnL encB tBx 6 base (M.flatMap fun p => leftF p q) v w' → ((M.flatMap fun p => leftF p q) = [] → v = .slice none 0 0) → Below base w w' → Q (.exit e) a' w') : (Code.loop c).wp Try.prog Q a w := by
  refine wp_upto2 n M.length ix (fun k (s : Value) => (r, s) :: tv k) (fun k s w' => OwnL encB tBx 6 base ((M.take k).flatMap fun p => leftF p q) s w' ∧ (((M.take k).flatMap fun p => leftF p q) = [] → s = .slice none 0 0) ∧ Below base w w') (fun k s => List.mem_cons_of_mem _ (hix k)) (.slice none 0 0) hs ⟨World.ownsRow_nil _ _ _ _, fun _ => rfl, hbase ▸ Below.refl _ _⟩ ?_
  rintro j s a1 w1 hj hs1 ⟨hO, hnil, hb1⟩
  have hB1 : base ≤ w1.heap.size := by rw [hbase]; exact hb1.size
  have hK1 : K w1 := kst w w1 hKw hb1
  have hLn : ((M.take j).flatMap fun p => leftF p q).length ≤ 600000 := by
    have h1 := flat_len q (M.take j)
    have h2 : (M.take j).length ≤ M.length := by rw [List.length_take]; omega
    omega
  by_cases hjM : j < M.length
  · obtain ⟨p, hp⟩ : ∃ p, M[j]? = some p := ⟨M[j], by simp [hjM]⟩
    have hpF := hM p (List.mem_of_getElem? hp)
    rw [flat_take hp]
    obtain ⟨L, hL⟩ : ∃ L, L = (M.take j).flatMap fun p => leftF p q := ⟨_, rfl⟩
    rw [← hL] at hO hLn hnil ⊢
    clear hL
    rcases hO.2 with ⟨rfl, hl0⟩ | ⟨g, cap, cur, rfl, g1, g2, g3, g4, g5, g6⟩
    · have hLe : L = [] := List.length_eq_zero_iff.1 hl0
      subst hLe
      rw [List.nil_append]
      have hin : ∀ (b : Tm → Sym) (A : Abs) (lv : List KOp), @denTs (toldX (riSym b (S j)) A [] [] lv K base kst) ((r, .clo (.slice none 0 0)) :: tl) = some ((r, .slice none 0 0) :: tv j) := fun b A lv => by
        simp only [denTs, htl b j A lv]; rfl
      cases ho : ovB p q with
      | false =>
        refine @code_own (toldX (riSym (apSym p q 0 0 0 0 0 0 0) (S j)) { lst := fun _ => [] } [] [] (ro ++ (cmO ++ ovO _ _ _)) K base kst) Try.prog hmix (known_toldX ⟨aN, aN, aN, aN, aN⟩ aN aN aN (aA (hr j p hp _ _ _ _ _ _ _) (aA cm_opsR (ov_opsR rfl rfl rfl)))) rfl 300 c n ((r, .clo (.slice none 0 0)) :: tl) r .normal wt 1 (sC 0 1 2 3 4 5) tBx 6 (by decide) (encB p) _ _ a1 w1 (hev.n0 _ _ _ _ _ _ _ _ (ovB_false ho)) (hin _ _ _) (hwt _ _ _ _) rfl rfl hs1 hK1 hB1 _ ?_
        intro a2 w2 v hs2 hO2 hv2 hb2
        refine ⟨hjM, v, hs2, ?_, ?_, hb1.trans (hb2.mono hB1)⟩
        · unfold leftF
          rw [ho]
          exact ownsRow_base hO2 hB1
        · unfold leftF
          rw [ho]
          exact fun h => by simp at h
      | true =>
        obtain ⟨o1, o2, o3⟩ := ovB_true ho
        refine @code_own (toldX (riSym (apSym p q 0 0 0 0 0 0 0) (S j)) { lst := fun _ => [] } [] [] (ro ++ (cmO ++ (ovO true true true ++ paO _ _ _ _ _ _))) K base kst) Try.prog hmix (known_toldX ⟨aN, aN, aN, aN, aN⟩ aN aN aN (aA (hr j p hp _ _ _ _ _ _ _) (aA cm_opsR (aA (ov_opsR (decide_eq_true o1) (decide_eq_true o2) (decide_eq_true o3)) (pa_opsR hpF rfl rfl rfl rfl rfl rfl))))) rfl 300 c n ((r, .clo (.slice none 0 0)) :: tl) r .normal wt _ _ tBx 6 (by decide) _ _ _ a1 w1 (hev.nn _ _ _ _ _ _ _ _ _ _ _) (hin _ _ _) (hwt _ _ _ _) (paC_denR p q (S j) _ _ _ _ _ _ _) (by rw [elC_len encB_len, paN_len]) hs1 hK1 hB1 _ ?_
        intro a2 w2 v hs2 hO2 hv2 hb2
        refine ⟨hjM, v, hs2, ?_, ?_, hb1.trans (hb2.mono hB1)⟩
        · unfold leftF
          rw [ho]
          simp only [cond_true, OwnL, paN_len]
          exact ownsRow_base hO2 hB1
        · unfold leftF
          rw [ho]
          simp only [cond_true]
          exact fun h => hv2 (by rw [← paN_len p q, h]; rfl)
    · have hLne : L ≠ [] := fun h => by have := hnil h; cases this
      have hrow : ∀ u : Nat → List Bx, u 0 = [] → LsAt (apLst L u) (.v 50, tBx, 6) (g, cap) w1 := fun u hu => ⟨cur, g2, by
        show cur.toList.take (elC encB (L ++ u 0)).length = elC encB (L ++ u 0)
        rw [hu, List.append_nil, elC_len encB_len]; exact g6, g5, g4⟩
      have hn0 : ∀ u : Nat → List Bx, u 0 = [] → asN (riSym (apSymL p q L u) (S j) (.v 60)).v = some L.length := fun u hu => by
        show asN (intSym .i64 (L ++ u 0).length).v = _
        rw [hu, List.append_nil]; rfl
      cases ho : ovB p q with
      | false =>
        let u : Nat → List Bx := fun i => if i = 0 then [] else [p]
        have hA : ({ lst := apLst L u, ap := [(.v 50, .v 60, 6, sC 0 1 2 3 4 5, .v 51, .v 61)] } : Abs).OK Try.prog (riSym (apSymL p q L u) (S j)) := ⟨aN, aN, aN, aC (ap_oneR (i := 0) (j := 1) (bs := [p]) rfl rfl rfl rfl rfl rfl (by simp [u]; omega)) aN, aN⟩
        refine @code_ownR (toldX (riSym (apSymL p q L u) (S j)) { lst := apLst L u, ap := [(.v 50, .v 60, 6, sC 0 1 2 3 4 5, .v 51, .v 61)] } [] [] (ro ++ (cmO ++ ovO _ _ _)) K base kst) Try.prog hmix (known_toldX hA aN aN aN (aA (hr j p hp _ _ _ _ _ _ _) (aA cm_opsR (ov_opsR rfl rfl rfl)))) rfl 300 c n tl r (.v 60) .normal wt (.v 50) (.v 51) tBx 6 (by decide) (.v 61) L.length (L ++ u 1).length (g, cap) base _ _ a1 w1 (hev.r0 _ _ _ _ _ _ _ _ (ovB_false ho)) (htl _ _ _ _) (hwt _ _ _ _) hs1 (hn0 u rfl) hK1 hB1 g1 g1 hB1 (hrow u rfl) rfl (by show (elC encB (L ++ u 1)).length = _; rw [elC_len encB_len]) _ ?_
        intro a2 w2 v hs2 hO2 hb2
        refine ⟨hjM, v, hs2, ?_, (fun h => absurd (List.append_eq_nil_iff.1 h).1 hLne), hb1.trans hb2⟩
        unfold leftF
        rw [ho]
        exact hO2
      | true =>
        obtain ⟨o1, o2, o3⟩ := ovB_true ho
        obtain ⟨t1, h1⟩ : ∃ t, decide (p.c < mxZ p.c q.c) = t := ⟨_, rfl⟩
        obtain ⟨t2, h2⟩ : ∃ t, decide (mnZ p.f q.f < p.f) = t := ⟨_, rfl⟩
        obtain ⟨t3, h3⟩ : ∃ t, decide (p.b < mxZ p.b q.b) = t := ⟨_, rfl⟩
        obtain ⟨t4, h4⟩ : ∃ t, decide (mnZ p.e q.e < p.e) = t := ⟨_, rfl⟩
        obtain ⟨t5, h5⟩ : ∃ t, decide (p.a < mxZ p.a q.a) = t := ⟨_, rfl⟩
        obtain ⟨t6, h6⟩ : ∃ t, decide (mnZ p.d q.d < p.d) = t := ⟨_, rfl⟩
        obtain ⟨hy, hn'⟩ := hyR p q L (S j) t1 t2 t3 t4 t5 t6
        refine @code_ownR (toldX (riSym (apSymL p q L (upT p q t1 t2 t3 t4 t5 t6)) (S j)) { lst := apLst L (upT p q t1 t2 t3 t4 t5 t6), ap := apR t1 t2 t3 t4 t5 t6 } [] [] (ro ++ (cmO ++ (ovO true true true ++ paO t1 t2 t3 t4 t5 t6))) K base kst) Try.prog hmix (known_toldX (hap p q L (S j) t1 t2 t3 t4 t5 t6 (by omega)) aN aN aN (aA (hr j p hp _ _ _ _ _ _ _) (aA cm_opsR (aA (ov_opsR (decide_eq_true o1) (decide_eq_true o2) (decide_eq_true o3)) (pa_opsR hpF h1 h2 h3 h4 h5 h6))))) rfl 300 c n tl r (.v 60) .normal wt (.v 50) _ tBx 6 (by decide) _ L.length _ (g, cap) base _ _ a1 w1 (hR _ _ _ _ _ t1 t2 t3 t4 t5 t6) (htl _ _ _ _) (hwt _ _ _ _) hs1 (hn0 _ rfl) hK1 hB1 g1 g1 hB1 (hrow _ rfl) hn' (by show (apLst L (upT p q t1 t2 t3 t4 t5 t6) _).length = _; rw [hy, elC_len encB_len]) _ ?_
        intro a2 w2 v hs2 hO2 hb2
        refine ⟨hjM, v, hs2, ?_, (fun h => absurd (List.append_eq_nil_iff.1 h).1 hLne), hb1.trans hb2⟩
        unfold leftF
        rw [ho, h1, h2, h3, h4, h5, h6]
        simp only [cond_true]
        have hO2 : w2.ownsRow base tBx 6 v _ (apLst L (upT p q t1 t2 t3 t4 t5 t6) _) := hO2
        rw [hy] at hO2
        exact hO2
  · have hjM : j = M.length := by omega
    subst hjM
    obtain ⟨b0, c0, hv, _, _⟩ := OwnL.slice hO encB_len
    subst hv
    refine @code_T (toldX (riSym (fun _ => intSym .i64 0) (fun i => if i = 40 then slSym b0 _ c0 else S M.length i)) { lst := fun _ => [] } [] [] re K base kst) Try.prog hmix (known_toldX ⟨aN, aN, aN, aN, aN⟩ aN aN aN (hre _ _)) rfl 300 c n ((r, .sy 40) :: tl) (.exit e) ((r, .sy 40) :: tl) ((r, .slice b0 _ c0) :: tv M.length) ((r, .slice b0 _ c0) :: tv M.length) a1 w1 (hev.end_ _ _ _ _ _) (by simp only [denTs, htle]; rfl) (by simp only [denTs, htle]; rfl) hs1 hK1 hB1 _ ?_
    intro a2 w2 hs2 hb2
    rw [List.take_length] at hO hs2 hnil
    refine hQ a2 w2 _ hs2 ?_ hnil (hb1.trans (hb2.mono hB1))
    exact hO.grow hb2 fun k hk => (World.ownsRow.lt hO k hk).2
end Go.Proofs.Ytcjgobephedpdaa
