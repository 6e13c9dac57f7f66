/- Layer 4 (fraction): the law FractionAlgebra. -/
import Derived.Test.YtdjnnbjpaohaiaaDoorFrU
namespace Go.Proofs.YtdjnnbjpaohaiaaDoor
open Go.RowKit Go.Ev
set_option maxRecDepth 100000

abbrev Tr3 : Type := Int × Int × Int
abbrev alSym (an ad bn bd cn cd : Int) (X P S T R U V W : Tr3) : Tm → Sym
  | .v 0 => intSym .i64 an
  | .v 1 => intSym .i64 ad
  | .v 2 => intSym .i64 bn
  | .v 3 => intSym .i64 bd
  | .v 4 => intSym .i64 cn
  | .v 5 => intSym .i64 cd
  | .v 20 => intSym .i64 X.1
  | .v 21 => intSym .i64 X.2.1
  | .v 22 => intSym .i64 X.2.2
  | .v 30 => intSym .i64 P.1
  | .v 31 => intSym .i64 P.2.1
  | .v 32 => intSym .i64 P.2.2
  | .v 40 => intSym .i64 S.1
  | .v 41 => intSym .i64 S.2.1
  | .v 42 => intSym .i64 S.2.2
  | .v 50 => intSym .i64 T.1
  | .v 51 => intSym .i64 T.2.1
  | .v 52 => intSym .i64 T.2.2
  | .v 60 => intSym .i64 R.1
  | .v 61 => intSym .i64 R.2.1
  | .v 62 => intSym .i64 R.2.2
  | .v 70 => intSym .i64 U.1
  | .v 71 => intSym .i64 U.2.1
  | .v 72 => intSym .i64 U.2.2
  | .v 80 => intSym .i64 V.1
  | .v 81 => intSym .i64 V.2.1
  | .v 82 => intSym .i64 V.2.2
  | .v 90 => intSym .i64 W.1
  | .v 91 => intSym .i64 W.2.1
  | .v 92 => intSym .i64 W.2.2
  | _ => intSym .i64 0
abbrev rsT (a b c : Nat) : CV := .tup [.agg [.sy (.v a), .sy (.v b)], .sy (.v c)]
abbrev fr2 (a b : Nat) : CV := .agg [.sy (.v a), .sy (.v b)]
abbrev fAdd : FuncId := 16
abbrev fMul : FuncId := 18
abbrev alCalls (s : Bool) : List KCall :=
  [(13, [], .clo (.bool true)), (fAdd, [fr2 0 1, fr2 2 3], rsT 20 21 22), (fAdd, [fr2 2 3, fr2 0 1], rsT 20 21 22), (fMul, [fr2 0 1, fr2 2 3], rsT 30 31 32), (fMul, [fr2 2 3, fr2 0 1], rsT 30 31 32),
   (fAdd, [fr2 2 3, fr2 4 5], rsT 40 41 42), (fMul, [fr2 0 1, fr2 40 41], rsT 50 51 52), (fMul, [fr2 0 1, fr2 4 5], rsT 60 61 62), (fAdd, [fr2 30 31, fr2 60 61], rsT 70 71 72),
   (fAdd, [fr2 20 21, fr2 4 5], rsT 80 81 82), (fAdd, [fr2 0 1, fr2 40 41], cond s (rsT 80 81 82) (rsT 90 91 92))]
abbrev alSub : Bool → List KCall
  | true => [(17, [fr2 20 21, fr2 2 3], .tup [fr2 0 1, .clo (iv 0)])]
  | false => []
abbrev alDiv : Bool → List KCall
  | true => [(19, [fr2 30 31, fr2 2 3], .tup [fr2 0 1, .clo (iv 0)])]
  | false => []
abbrev okQ (a : Nat) (b : Bool) : List KOp := [(.bin .eql 24, [.sy (.v a), .clo (iv 0)], .clo (.bool b)), (.bin .neq 24, [.sy (.v a), .clo (iv 0)], .clo (.bool (!b)))]
abbrev sameE (a : Nat) : List KOp := [(.bin .eql 24, [.sy (.v a), .sy (.v a)], .clo (.bool true)), (.bin .neq 24, [.sy (.v a), .sy (.v a)], .clo (.bool false))]
abbrev alOps (o1 o3 p1 p2 p3 p4 nb : Bool) : List KOp :=
  sameE 22 ++ (sameE 32 ++ (sameE 82 ++ (okQ 22 o1 ++ (okQ 32 o3 ++ (okQ 42 p1 ++ (okQ 52 p2 ++ (okQ 62 p3 ++ (okQ 72 p4 ++ [(.bin .neq 2, [.sy 2, .clo (iv 0)], .clo (.bool nb))]))))))))
abbrev frE (a b c d : Nat) : KEq := (23, fr2 a b, fr2 c d, true)
abbrev alEqs : Bool → List KEq
  | true => [frE 20 21 20 21, frE 30 31 30 31, frE 0 1 0 1, frE 80 81 80 81, frE 50 51 70 71]
  | false => [frE 20 21 20 21, frE 30 31 30 31, frE 0 1 0 1, frE 80 81 80 81]
theorem evAl (an ad bn bd cn cd : Int) (X P S T R U V W : Tr3) (o1 o3 p1 p2 p3 p4 nb : Bool) :
    @evalBeside (toldK 0 (alSym an ad bn bd cn cd X P S T R U V W) (alCalls (o1 && p1) ++ (alSub o1 ++ alDiv (o3 && nb))) (alEqs (o3 && p1 && p2 && p3 && p4)) (alOps o1 o3 p1 p2 p3 p4 nb) HasPow (gPow + 1) pow_kst) Tryd.prog 300 9 [fr2 0 1, fr2 2 3, fr2 4 5] [] = some (.bool true) := by
  cases o1 <;> cases o3 <;> cases p1 <;> cases p2 <;> cases p3 <;> cases p4 <;> cases nb <;> kernel_rfl
theorem okQ_is {sym : Tm → Sym} {a : Nat} {e : Int} (hs : @denL (told sym [] []) (fun _ => none) [.sy (.v a), .clo (iv 0)] = some [iv e, iv 0]) : ∀ z ∈ okQ a (decide (e = 0)), OpIs Tryd.prog sym z := by
  intro z hz
  simp only [okQ, List.mem_cons, List.not_mem_nil, or_false] at hz
  rcases hz with rfl | rfl
  · exact ⟨[iv e, iv 0], .bool (decide (e = 0)), hs, rfl, tells_eql rfl⟩
  · exact ⟨[iv e, iv 0], .bool (!decide (e = 0)), hs, rfl, tells_neq (by simp)⟩
theorem sameE_is {sym : Tm → Sym} {a : Nat} {e : Int} (hs : @denL (told sym [] []) (fun _ => none) [.sy (.v a), .sy (.v a)] = some [iv e, iv e]) : ∀ z ∈ sameE a, OpIs Tryd.prog sym z := by
  intro z hz
  simp only [sameE, List.mem_cons, List.not_mem_nil, or_false] at hz
  rcases hz with rfl | rfl
  · exact ⟨[iv e, iv e], .bool true, hs, rfl, tells_eql (by simp)⟩
  · exact ⟨[iv e, iv e], .bool false, hs, rfl, tells_neq (by simp)⟩
theorem app_is {α : Type} {p : α → Prop} {l m : List α} (h1 : ∀ r ∈ l, p r) (h2 : ∀ r ∈ m, p r) : ∀ r ∈ l ++ m, p r := fun r hr => (List.mem_append.1 hr).elim (h1 r) (h2 r)

theorem algebra_any (an ad bn bd cn cd : Int) (h1 : In64 an) (h2 : In64 ad) (h3 : In64 bn) (h4 : In64 bd) (h5 : In64 cn) (h6 : In64 cd) (w : World) (hT : HasPow w) :
    Calls Tryd.prog 9 #[frV an ad, frV bn bd, frV cn cd] w fun e w' => e = .returned (.bool true) ∧ Below w.heap.size w w' := by
  have b1 := fun h => sub_back (an := an) (ad := ad) (bn := bn) (bd := bd) h
  have b2 := fun h hb => div_back (an := an) (ad := ad) (bn := bn) (bd := bd) h hb
  have b3 := fun h h' => assoc_law (an := an) (ad := ad) (bn := bn) (bd := bd) (cn := cn) (cd := cd) h h'
  have b4 := fun h h' h'' => dist_law (an := an) (ad := ad) (bn := bn) (bd := bd) (cn := cn) (cd := cd) h h' h''
  have c1 := fun w => pAdd_any an ad bn bd h1 h2 h3 h4 w
  have c2 := fun w => pAdd_any bn bd an ad h3 h4 h1 h2 w
  have c3 := fun w => pMul_any an ad bn bd h1 h2 h3 h4 w
  have c4 := fun w => pMul_any bn bd an ad h3 h4 h1 h2 w
  have c5 := fun w => pAdd_any bn bd cn cd h3 h4 h5 h6 w
  have c7 := fun w => pMul_any an ad cn cd h1 h2 h5 h6 w
  rw [addX_comm bn bd an ad] at c2
  rw [mulX_comm bn bd an ad] at c4
  obtain ⟨x1, x2⟩ := add_in64 an ad bn bd
  obtain ⟨p1, p2⟩ := mul_in64 an ad bn bd
  obtain ⟨s1, s2⟩ := add_in64 bn bd cn cd
  obtain ⟨r1, r2⟩ := mul_in64 an ad cn cd
  generalize addX an ad bn bd = X at *
  generalize mulX an ad bn bd = P at *
  generalize addX bn bd cn cd = S at *
  generalize mulX an ad cn cd = R at *
  have c6 := fun w => pMul_any an ad S.1 S.2.1 h1 h2 s1 s2 w
  have c8 := fun w => pAdd_any P.1 P.2.1 R.1 R.2.1 p1 p2 r1 r2 w
  have c9 := fun w => pAdd_any X.1 X.2.1 cn cd x1 x2 h5 h6 w
  have c10 := fun w => pAdd_any an ad S.1 S.2.1 h1 h2 s1 s2 w
  have c11 := fun w => pSub_any X.1 X.2.1 bn bd x1 x2 h3 h4 w
  have c12 := fun w => pDiv_any P.1 P.2.1 bn bd p1 p2 h3 h4 w
  generalize mulX an ad S.1 S.2.1 = T at *
  generalize addX P.1 P.2.1 R.1 R.2.1 = U at *
  generalize addX X.1 X.2.1 cn cd = V at *
  generalize addX an ad S.1 S.2.1 = W at *
  refine calls_toldK (by kernel_rfl) 0 (alSym an ad bn bd cn cd X P S T R U V W) (alCalls (decide (X.2.2 = 0) && decide (S.2.2 = 0)) ++ (alSub (decide (X.2.2 = 0)) ++ alDiv (decide (P.2.2 = 0) && decide (bn ≠ 0)))) (alEqs (decide (P.2.2 = 0) && decide (S.2.2 = 0) && decide (T.2.2 = 0) && decide (R.2.2 = 0) && decide (U.2.2 = 0)))
    (alOps (decide (X.2.2 = 0)) (decide (P.2.2 = 0)) (decide (S.2.2 = 0)) (decide (T.2.2 = 0)) (decide (R.2.2 = 0)) (decide (U.2.2 = 0)) (decide (bn ≠ 0))) HasPow (gPow + 1) pow_kst ?_ ?_ ?_
    (args := [fr2 0 1, fr2 2 3, fr2 4 5]) (xs := [frV an ad, frV bn bd, frV cn cd]) rfl [] (evAl _ _ _ _ _ _ _ _ _ _ _ _ _ _ _ _ _ _ _ _ _) w hT hT.lt' (fun i b h => by simp [look_nil] at h)
  · refine app_is (fun z hz => ?_) (app_is (fun z hz => ?_) (fun z hz => ?_))
    · simp only [alCalls, List.mem_cons, List.not_mem_nil, or_false] at hz
      rcases hz with rfl | rfl | rfl | rfl | rfl | rfl | rfl | rfl | rfl | rfl | rfl
      · exact ⟨[], .bool true, rfl, rfl, fun w hw => awake_any w hw⟩
      · exact ⟨[frV an ad, frV bn bd], tripV X, rfl, rfl, fun w _ => c1 w⟩
      · exact ⟨[frV bn bd, frV an ad], tripV X, rfl, rfl, fun w _ => c2 w⟩
      · exact ⟨[frV an ad, frV bn bd], tripV P, rfl, rfl, fun w _ => c3 w⟩
      · exact ⟨[frV bn bd, frV an ad], tripV P, rfl, rfl, fun w _ => c4 w⟩
      · exact ⟨[frV bn bd, frV cn cd], tripV S, rfl, rfl, fun w _ => c5 w⟩
      · exact ⟨[frV an ad, frV S.1 S.2.1], tripV T, rfl, rfl, fun w _ => c6 w⟩
      · exact ⟨[frV an ad, frV cn cd], tripV R, rfl, rfl, fun w _ => c7 w⟩
      · exact ⟨[frV P.1 P.2.1, frV R.1 R.2.1], tripV U, rfl, rfl, fun w _ => c8 w⟩
      · exact ⟨[frV X.1 X.2.1, frV cn cd], tripV V, rfl, rfl, fun w _ => c9 w⟩
      · cases hs : (decide (X.2.2 = 0) && decide (S.2.2 = 0)) with
        | false => exact ⟨[frV an ad, frV S.1 S.2.1], tripV W, rfl, rfl, fun w _ => c10 w⟩
        | true =>
          simp only [Bool.and_eq_true, decide_eq_true_eq] at hs
          have := b3 hs.1 hs.2
          exact ⟨[frV an ad, frV S.1 S.2.1], tripV V, rfl, rfl, fun w _ => by rw [this]; exact c10 w⟩
    · by_cases hx : X.2.2 = 0
      · rw [decide_eq_true hx] at hz
        simp only [alSub, List.mem_cons, List.not_mem_nil, or_false] at hz
        subst hz
        rw [b1 hx] at c11
        exact ⟨[frV X.1 X.2.1, frV bn bd], tripV (an, ad, 0), rfl, rfl, fun w _ => c11 w⟩
      · rw [decide_eq_false hx] at hz; cases hz
    · cases hs : (decide (P.2.2 = 0) && decide (bn ≠ 0)) with
      | false => rw [hs] at hz; cases hz
      | true =>
        rw [hs] at hz
        simp only [Bool.and_eq_true, decide_eq_true_eq] at hs
        simp only [alDiv, List.mem_cons, List.not_mem_nil, or_false] at hz
        subst hz
        rw [b2 hs.1 hs.2] at c12
        exact ⟨[frV P.1 P.2.1, frV bn bd], tripV (an, ad, 0), rfl, rfl, fun w _ => c12 w⟩
  · have he : ∀ z ∈ alEqs false, EqIs Tryd.prog (alSym an ad bn bd cn cd X P S T R U V W) z := by
      intro z hz
      simp only [alEqs, List.mem_cons, List.not_mem_nil, or_false] at hz
      rcases hz with rfl | rfl | rfl | rfl
      · exact fr_eq (a := X.1) (b := X.2.1) (c := X.1) (d := X.2.1) rfl rfl (by simp)
      · exact fr_eq (a := P.1) (b := P.2.1) (c := P.1) (d := P.2.1) rfl rfl (by simp)
      · exact fr_eq (a := an) (b := ad) (c := an) (d := ad) rfl rfl (by simp)
      · exact fr_eq (a := V.1) (b := V.2.1) (c := V.1) (d := V.2.1) rfl rfl (by simp)
    intro z hz
    cases hs : (decide (P.2.2 = 0) && decide (S.2.2 = 0) && decide (T.2.2 = 0) && decide (R.2.2 = 0) && decide (U.2.2 = 0)) with
    | false => rw [hs] at hz; exact he z hz
    | true =>
      rw [hs] at hz
      simp only [Bool.and_eq_true, decide_eq_true_eq] at hs
      have hTU := b4 hs.1.1.1.1 hs.1.1.1.2 hs.1.2
      rcases List.mem_cons.1 hz with h | hz
      · exact he z (h ▸ List.mem_cons_self)
      rcases List.mem_cons.1 hz with h | hz
      · exact he z (h ▸ List.mem_cons_of_mem _ List.mem_cons_self)
      rcases List.mem_cons.1 hz with h | hz
      · exact he z (h ▸ List.mem_cons_of_mem _ (List.mem_cons_of_mem _ List.mem_cons_self))
      rcases List.mem_cons.1 hz with h | hz
      · exact he z (h ▸ List.mem_cons_of_mem _ (List.mem_cons_of_mem _ (List.mem_cons_of_mem _ List.mem_cons_self)))
      rcases List.mem_cons.1 hz with rfl | hz
      · exact fr_eq (a := T.1) (b := T.2.1) (c := U.1) (d := U.2.1) rfl rfl (by rw [hTU]; simp)
      · cases hz
  · refine app_is (sameE_is (e := X.2.2) rfl) (app_is (sameE_is (e := P.2.2) rfl) (app_is (sameE_is (e := V.2.2) rfl) (app_is (okQ_is rfl) (app_is (okQ_is rfl) (app_is (okQ_is rfl) (app_is (okQ_is rfl) (app_is (okQ_is rfl) (app_is (okQ_is rfl) (fun z hz => ?_)))))))))
    simp only [List.mem_cons, List.not_mem_nil, or_false] at hz
    subst hz
    exact ⟨[iv bn, iv 0], .bool (decide (bn ≠ 0)), rfl, rfl, tells_neq rfl⟩
end Go.Proofs.YtdjnnbjpaohaiaaDoor
