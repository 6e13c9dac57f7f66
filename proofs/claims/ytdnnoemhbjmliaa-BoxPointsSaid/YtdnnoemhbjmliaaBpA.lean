/- Layer 6 (box): the law BoxPoints. -/
import Derived.Test.YtdnnoemhbjmliaaLpA
import Derived.Test.YtdnnoemhbjmliaaTsA
import Derived.Test.YtdnnoemhbjmliaaProg
namespace Go.Proofs.Ytdnnoemhbjmliaa
open Go.RowKit Go.Ev
set_option maxRecDepth 100000

abbrev intSym (k : IntKind) (n : Int) : Sym := ⟨.int k n, rfl, fun _ h => by cases h⟩
abbrev iv (z : Int) : Value := .int .i64 z
abbrev b6 (a b c d e f : Int) : Value := .agg #[iv a, iv b, iv c, iv d, iv e, iv f]
abbrev v3 (a b c : Int) : Value := .agg #[iv a, iv b, iv c]
abbrev s6 (a b c d e f : Nat) : CV := .agg [.sy (.v a), .sy (.v b), .sy (.v c), .sy (.v d), .sy (.v e), .sy (.v f)]
abbrev s3 (a b c : Nat) : CV := .agg [.sy (.v a), .sy (.v b), .sy (.v c)]
abbrev ltO (i j : Nat) (p : Bool) : KOp := (.bin .lss 3, [.sy (.v i), .sy (.v j)], .clo (.bool p))
abbrev leO (i j : Nat) (p : Bool) : KOp := (.bin .leq 3, [.sy (.v i), .sy (.v j)], .clo (.bool p))

/-! ### Check -/
def chkB (x y z u v w : Int) : Int := if x < -1000000 ∨ 1000000 < x ∨ y < -1000000 ∨ 1000000 < y ∨ z < -1000000 ∨ 1000000 < z ∨ u < -1000000 ∨ 1000000 < u ∨ v < -1000000 ∨ 1000000 < v ∨ w < -1000000 ∨ 1000000 < w then 6 else if x < u ∧ y < v ∧ z < w then 0 else 1
abbrev ckSym (a b c d e f : Int) : Tm → Sym
  | .v 0 => intSym .i64 a
  | .v 1 => intSym .i64 b
  | .v 2 => intSym .i64 c
  | .v 3 => intSym .i64 d
  | .v 4 => intSym .i64 e
  | .v 5 => intSym .i64 f
  | _ => intSym .i64 0
abbrev ckO (i : Nat) (p q : Bool) : List KOp := [(.bin .lss 3, [.sy (.v i), .clo (iv (-1000000))], .clo (.bool p)), (.bin .gtr 3, [.sy (.v i), .clo (iv 1000000)], .clo (.bool q))]
abbrev ckOps (r1 r2 r3 r4 r5 r6 r7 r8 r9 r10 r11 r12 l1 l2 l3 : Bool) : List KOp := ckO 0 r1 r2 ++ (ckO 1 r3 r4 ++ (ckO 2 r5 r6 ++ (ckO 3 r7 r8 ++ (ckO 4 r9 r10 ++ (ckO 5 r11 r12 ++ [ltO 0 3 l1, ltO 1 4 l2, ltO 2 5 l3])))))
theorem evCk (a b c d e f : Int) (r1 r2 r3 r4 r5 r6 r7 r8 r9 r10 r11 r12 l1 l2 l3 : Bool) :
    resIs (.clo (iv (cond (r1 || (r2 || (r3 || (r4 || (r5 || (r6 || (r7 || (r8 || (r9 || (r10 || (r11 || r12))))))))))) 6 (cond (l1 && (l2 && l3)) 0 1)))) (evalFn0 Try.prog (@evalC (toldV (ckSym a b c d e f) [] [] (ckOps r1 r2 r3 r4 r5 r6 r7 r8 r9 r10 r11 r12 l1 l2 l3)) Try.prog 300 true) 0 19 [s6 0 1 2 3 4 5] ⟨0, []⟩) = true := by
  cases r1
  case true => kernel_rfl
  cases r2
  case true => kernel_rfl
  cases r3
  case true => kernel_rfl
  cases r4
  case true => kernel_rfl
  cases r5
  case true => kernel_rfl
  cases r6
  case true => kernel_rfl
  cases r7
  case true => kernel_rfl
  cases r8
  case true => kernel_rfl
  cases r9
  case true => kernel_rfl
  cases r10
  case true => kernel_rfl
  cases r11
  case true => kernel_rfl
  cases r12
  case true => kernel_rfl
  cases l1 <;> cases l2 <;> cases l3 <;> kernel_rfl
theorem check_any (a b c d e f : Int) (w : World) : Calls Try.prog 19 #[b6 a b c d e f] w fun q w' => q = .returned (iv (chkB a b c d e f)) ∧ Below w.heap.size w w' := by
  have hr : chkB a b c d e f = cond (decide (a < -1000000) || (decide (1000000 < a) || (decide (b < -1000000) || (decide (1000000 < b) || (decide (c < -1000000) || (decide (1000000 < c) || (decide (d < -1000000) || (decide (1000000 < d) || (decide (e < -1000000) || (decide (1000000 < e) || (decide (f < -1000000) || decide (1000000 < f)))))))))))) 6 (cond (decide (a < d) && (decide (b < e) && decide (c < f))) 0 1) := by
    unfold chkB
    simp only [Bool.cond_eq_ite, Bool.or_eq_true, Bool.and_eq_true, decide_eq_true_eq]
  rw [hr]
  refine calls_toldS (by kernel_rfl) (ckSym a b c d e f) [] _ (fun _ h => by cases h) ?_ (n := 300) (args := [s6 0 1 2 3 4 5]) (xs := [b6 a b c d e f]) rfl _ (evCk _ _ _ _ _ _ _ _ _ _ _ _ _ _ _ _ _ _ _ _ _) rfl w
  intro z hz
  simp only [ckOps, ckO, List.cons_append, List.nil_append, List.mem_cons, List.not_mem_nil, or_false] at hz
  rcases hz with rfl | rfl | rfl | rfl | rfl | rfl | rfl | rfl | rfl | rfl | rfl | rfl | rfl | rfl | rfl
  · exact ⟨[iv a, iv (-1000000)], .bool (decide (a < -1000000)), rfl, rfl, tells_lss rfl⟩
  · exact ⟨[iv a, iv 1000000], .bool (decide (1000000 < a)), rfl, rfl, tells_gtr rfl⟩
  · exact ⟨[iv b, iv (-1000000)], .bool (decide (b < -1000000)), rfl, rfl, tells_lss rfl⟩
  · exact ⟨[iv b, iv 1000000], .bool (decide (1000000 < b)), rfl, rfl, tells_gtr rfl⟩
  · exact ⟨[iv c, iv (-1000000)], .bool (decide (c < -1000000)), rfl, rfl, tells_lss rfl⟩
  · exact ⟨[iv c, iv 1000000], .bool (decide (1000000 < c)), rfl, rfl, tells_gtr rfl⟩
  · exact ⟨[iv d, iv (-1000000)], .bool (decide (d < -1000000)), rfl, rfl, tells_lss rfl⟩
  · exact ⟨[iv d, iv 1000000], .bool (decide (1000000 < d)), rfl, rfl, tells_gtr rfl⟩
  · exact ⟨[iv e, iv (-1000000)], .bool (decide (e < -1000000)), rfl, rfl, tells_lss rfl⟩
  · exact ⟨[iv e, iv 1000000], .bool (decide (1000000 < e)), rfl, rfl, tells_gtr rfl⟩
  · exact ⟨[iv f, iv (-1000000)], .bool (decide (f < -1000000)), rfl, rfl, tells_lss rfl⟩
  · exact ⟨[iv f, iv 1000000], .bool (decide (1000000 < f)), rfl, rfl, tells_gtr rfl⟩
  · exact ⟨[iv a, iv d], .bool (decide (a < d)), rfl, rfl, tells_lss rfl⟩
  · exact ⟨[iv b, iv e], .bool (decide (b < e)), rfl, rfl, tells_lss rfl⟩
  · exact ⟨[iv c, iv f], .bool (decide (c < f)), rfl, rfl, tells_lss rfl⟩

/-! ### Has -/
def hasB (a b c d e f x y z : Int) : Bool := decide (a ≤ x) && (decide (b ≤ y) && (decide (c ≤ z) && (decide (x < d) && (decide (y < e) && decide (z < f)))))
abbrev hsSym (a b c d e f x y z : Int) : Tm → Sym
  | .v 0 => intSym .i64 a
  | .v 1 => intSym .i64 b
  | .v 2 => intSym .i64 c
  | .v 3 => intSym .i64 d
  | .v 4 => intSym .i64 e
  | .v 5 => intSym .i64 f
  | .v 6 => intSym .i64 x
  | .v 7 => intSym .i64 y
  | .v 8 => intSym .i64 z
  | _ => intSym .i64 0
theorem evHs (a b c d e f x y z : Int) (p1 p2 p3 q1 q2 q3 : Bool) :
    resIs (.clo (.bool (p1 && (p2 && (p3 && (q1 && (q2 && q3))))))) (evalFn0 Try.prog (@evalC (toldV (hsSym a b c d e f x y z) [] [] [leO 0 6 p1, leO 1 7 p2, leO 2 8 p3, ltO 6 3 q1, ltO 7 4 q2, ltO 8 5 q3]) Try.prog 300 true) 0 7 [s6 0 1 2 3 4 5, s3 6 7 8] ⟨0, []⟩) = true := by
  cases p1 <;> cases p2 <;> cases p3 <;> cases q1 <;> cases q2 <;> cases q3 <;> kernel_rfl
theorem has_any (a b c d e f x y z : Int) (w : World) : Calls Try.prog 7 #[b6 a b c d e f, v3 x y z] w fun q w' => q = .returned (.bool (hasB a b c d e f x y z)) ∧ Below w.heap.size w w' := by
  unfold hasB
  refine calls_toldS (by kernel_rfl) (hsSym a b c d e f x y z) [] _ (fun _ h => by cases h) ?_ (n := 300) (args := [s6 0 1 2 3 4 5, s3 6 7 8]) (xs := [b6 a b c d e f, v3 x y z]) rfl _ (evHs _ _ _ _ _ _ _ _ _ _ _ _ _ _ _) rfl w
  intro k hk
  simp only [List.mem_cons, List.not_mem_nil, or_false] at hk
  rcases hk with rfl | rfl | rfl | rfl | rfl | rfl
  · exact ⟨[iv a, iv x], .bool (decide (a ≤ x)), rfl, rfl, tells_leq rfl⟩
  · exact ⟨[iv b, iv y], .bool (decide (b ≤ y)), rfl, rfl, tells_leq rfl⟩
  · exact ⟨[iv c, iv z], .bool (decide (c ≤ z)), rfl, rfl, tells_leq rfl⟩
  · exact ⟨[iv x, iv d], .bool (decide (x < d)), rfl, rfl, tells_lss rfl⟩
  · exact ⟨[iv y, iv e], .bool (decide (y < e)), rfl, rfl, tells_lss rfl⟩
  · exact ⟨[iv z, iv f], .bool (decide (z < f)), rfl, rfl, tells_lss rfl⟩
theorem evAwake : @evalBeside noVars Try.prog 300 4 [] [] = some (.bool true) := by kernel_rfl
theorem awake_any (w : World) : Calls Try.prog 4 #[] w fun e w' => e = .returned (.bool true) ∧ Below w.heap.size w w' :=
  calls_closed (by kernel_rfl) (n := 300) (args := []) evAwake w

/-! ### The law -/
abbrev bpSym (a b c d e f g h i j k l x y z : Int) (c0 c1 c2 c3 c4 c5 h0 h1 h2 h3 h4 h5 : Int) : Tm → Sym
  | .v 0 => intSym .i64 a
  | .v 1 => intSym .i64 b
  | .v 2 => intSym .i64 c
  | .v 3 => intSym .i64 d
  | .v 4 => intSym .i64 e
  | .v 5 => intSym .i64 f
  | .v 6 => intSym .i64 g
  | .v 7 => intSym .i64 h
  | .v 8 => intSym .i64 i
  | .v 9 => intSym .i64 j
  | .v 10 => intSym .i64 k
  | .v 11 => intSym .i64 l
  | .v 12 => intSym .i64 x
  | .v 13 => intSym .i64 y
  | .v 14 => intSym .i64 z
  | .v 20 => intSym .i64 c0
  | .v 21 => intSym .i64 c1
  | .v 22 => intSym .i64 c2
  | .v 23 => intSym .i64 c3
  | .v 24 => intSym .i64 c4
  | .v 25 => intSym .i64 c5
  | .v 26 => intSym .i64 h0
  | .v 27 => intSym .i64 h1
  | .v 28 => intSym .i64 h2
  | .v 29 => intSym .i64 h3
  | .v 30 => intSym .i64 h4
  | .v 31 => intSym .i64 h5
  | _ => intSym .i64 0
abbrev bpArgs : List CV := [s6 0 1 2 3 4 5, s6 6 7 8 9 10 11, s3 12 13 14]
abbrev pP : CV := s3 12 13 14
abbrev fHas : FuncId := 7
abbrev bpBase (e1 e2 : Int) : List KCall := [(4, [], .clo (.bool true)), (19, [s6 0 1 2 3 4 5], .clo (iv e1)), (19, [s6 6 7 8 9 10 11], .clo (iv e2))]
abbrev bpHas (inA inB hc hh : Bool) : List KCall := [(fHas, [s6 0 1 2 3 4 5, pP], .clo (.bool inA)), (fHas, [s6 6 7 8 9 10 11, pP], .clo (.bool inB)), (fHas, [s6 20 21 22 23 24 25, pP], .clo (.bool hc)), (fHas, [s6 26 27 28 29 30 31, pP], .clo (.bool hh))]
/-- The six parts: which of them has the point. -/
abbrev bpParts (k : Nat) : List KCall :=
  [(fHas, [s6 0 1 2 3 4 22, pP], .clo (.bool (Nat.beq k 1))), (fHas, [s6 0 1 25 3 4 5, pP], .clo (.bool (Nat.beq k 2))), (fHas, [s6 0 1 22 3 21 25, pP], .clo (.bool (Nat.beq k 3))),
   (fHas, [s6 0 24 22 3 4 25, pP], .clo (.bool (Nat.beq k 4))), (fHas, [s6 0 21 22 20 24 25, pP], .clo (.bool (Nat.beq k 5))), (fHas, [s6 23 21 22 3 24 25, pP], .clo (.bool (Nat.beq k 6)))]
abbrev mxO (i j r : Nat) : KOp := (.mx, [.sy (.v i), .sy (.v j)], .sy (.v r))
abbrev mnO (i j r : Nat) : KOp := (.mn, [.sy (.v i), .sy (.v j)], .sy (.v r))
abbrev bpMm : List KOp := [mxO 0 6 20, mxO 1 7 21, mxO 2 8 22, mnO 3 9 23, mnO 4 10 24, mnO 5 11 25, mnO 0 6 26, mnO 1 7 27, mnO 2 8 28, mxO 3 9 29, mxO 4 10 30, mxO 5 11 31]
abbrev bpOv (o1 o2 o3 : Bool) : List KOp := [ltO 20 23 o1, ltO 21 24 o2, ltO 22 25 o3]
abbrev bpT (t1 t2 t3 t4 t5 t6 : Bool) : List KOp := [ltO 0 3 true, ltO 1 4 true, ltO 2 22 t1, ltO 25 5 t2, ltO 1 21 t3, ltO 24 4 t4, ltO 0 20 t5, ltO 23 3 t6]
theorem evBp0 (a b c d e f g h i j k l x y z c0 c1 c2 c3 c4 c5 h0 h1 h2 h3 h4 h5 : Int) (e1 e2 : Int) (he : (e1 = 1 ∨ e1 = 6) ∨ (e1 = 0 ∧ (e2 = 1 ∨ e2 = 6))) :
    @evalBeside (toldV (bpSym a b c d e f g h i j k l x y z c0 c1 c2 c3 c4 c5 h0 h1 h2 h3 h4 h5) (bpBase e1 e2) [] []) Try.prog 300 3 bpArgs [] = some (.bool true) := by
  rcases he with (rfl | rfl) | ⟨rfl, rfl | rfl⟩ <;> kernel_rfl
/-- No common point: what is left is the first box. -/
theorem evBp1 (a b c d e f g h i j k l x y z c0 c1 c2 c3 c4 c5 h0 h1 h2 h3 h4 h5 : Int) (o1 o2 o3 inA inB hc hh : Bool) (ho : (o1 && o2 && o3) = false) (hi : (inA && inB) = false) (hx : ((inA || inB) && !hh) = false) :
    @evalBeside (toldV (bpSym a b c d e f g h i j k l x y z c0 c1 c2 c3 c4 c5 h0 h1 h2 h3 h4 h5) (bpBase 0 0 ++ bpHas inA inB hc hh) [] (bpMm ++ bpOv o1 o2 o3)) Try.prog 300 3 bpArgs [] = some (.bool true) := by
  cases o1 <;> cases o2 <;> cases o3 <;> cases inA <;> cases inB <;> cases hh <;> first | (cases ho; done) | (cases hi; done) | (cases hx; done) | kernel_rfl
end Go.Proofs.Ytdnnoemhbjmliaa
