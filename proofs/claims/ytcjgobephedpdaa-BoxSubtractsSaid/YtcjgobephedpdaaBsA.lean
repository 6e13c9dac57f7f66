/- Layer 6 (box): boxes in lists; checks. -/
import Derived.Test.YtcjgobephedpdaaTkI
import Derived.Test.YtcjgobephedpdaaTsA
import Derived.Test.YtcjgobephedpdaaProg
import Derived.Test.YtcjgobephedpdaaTkJ
namespace Go.Proofs.Ytcjgobephedpdaa
open Go.RowKit Go.Ev
set_option maxRecDepth 100000
theorem hmix : Try.prog.follows .mixedOrders = true := by kernel_rfl
structure Bx where
  (a b c d e f : Int)
  deriving DecidableEq
abbrev iv (z : Int) : Value := .int .i64 z
abbrev intSym (k : IntKind) (n : Int) : Sym := ⟨.int k n, rfl, fun _ h => by cases h⟩
abbrev slSym (a : Option Addr) (n c : Nat) : Sym := ⟨.slice a n c, rfl, fun _ h => by cases h⟩
abbrev ptSym (a : Addr) : Sym := ⟨.pointer (some a), rfl, fun _ h => by cases h⟩
abbrev encB (p : Bx) : List Value := [iv p.a, iv p.b, iv p.c, iv p.d, iv p.e, iv p.f]
abbrev bxV (p : Bx) : Value := .agg #[iv p.a, iv p.b, iv p.c, iv p.d, iv p.e, iv p.f]
theorem encB_len (p : Bx) : (encB p).length = 6 := rfl
theorem encB_inj (p q : Bx) (h : encB p = encB q) : p = q := by
  cases p; cases q
  simp only [encB, List.cons.injEq, Value.int.injEq, true_and, and_true] at h
  obtain ⟨rfl, rfl, rfl, rfl, rfl, rfl⟩ := h
  rfl
abbrev s6 (a : Nat) : CV := .agg [.sy (.v a), .sy (.v (a + 1)), .sy (.v (a + 2)), .sy (.v (a + 3)), .sy (.v (a + 4)), .sy (.v (a + 5))]
abbrev ltO (i j : Nat) (p : Bool) : KOp := (.bin .lss 3, [.sy (.v i), .sy (.v j)], .clo (.bool p))
abbrev geO (i j : Nat) (p : Bool) : KOp := (.bin .geq 3, [.sy (.v i), .sy (.v j)], .clo (.bool p))
abbrev tBx : TypeId := 25
/-- The first error of a box. -/
def chkB (p : Bx) : Int := if p.a < -1000000 ∨ 1000000 < p.a ∨ p.b < -1000000 ∨ 1000000 < p.b ∨ p.c < -1000000 ∨ 1000000 < p.c ∨ p.d < -1000000 ∨ 1000000 < p.d ∨ p.e < -1000000 ∨ 1000000 < p.e ∨ p.f < -1000000 ∨ 1000000 < p.f then 6 else if p.a < p.d ∧ p.b < p.e ∧ p.c < p.f then 0 else 1
theorem chk_ok {p : Bx} (h : chkB p = 0) : (p.a < p.d ∧ p.b < p.e ∧ p.c < p.f) ∧ -1000000 ≤ p.a ∧ p.d ≤ 1000000 ∧ -1000000 ≤ p.b ∧ p.e ≤ 1000000 ∧ -1000000 ≤ p.c ∧ p.f ≤ 1000000 := by
  unfold chkB at h
  split at h
  · cases h
  · split at h
    · rename_i h2
      exact ⟨h2, by omega⟩
    · cases h
abbrev ckSym (p : Bx) : Tm → Sym
  | .v 0 => intSym .i64 p.a
  | .v 1 => intSym .i64 p.b
  | .v 2 => intSym .i64 p.c
  | .v 3 => intSym .i64 p.d
  | .v 4 => intSym .i64 p.e
  | .v 5 => intSym .i64 p.f
  | _ => intSym .i64 0
abbrev ckO (i : Nat) (p q : Bool) : List KOp := [(.bin .lss 3, [.sy (.v i), .clo (iv (-1000000))], .clo (.bool p)), (.bin .gtr 3, [.sy (.v i), .clo (iv 1000000)], .clo (.bool q))]
abbrev ckOps (r1 r2 r3 r4 r5 r6 r7 r8 r9 r10 r11 r12 l1 l2 l3 : Bool) : List KOp := ckO 0 r1 r2 ++ (ckO 1 r3 r4 ++ (ckO 2 r5 r6 ++ (ckO 3 r7 r8 ++ (ckO 4 r9 r10 ++ (ckO 5 r11 r12 ++ [ltO 0 3 l1, ltO 1 4 l2, ltO 2 5 l3])))))
abbrev rkOps (r1 r2 r3 r4 r5 r6 r7 r8 r9 r10 r11 r12 l1 l2 l3 : Bool) : List KOp := ckO 0 r1 r2 ++ (ckO 1 r3 r4 ++ (ckO 2 r5 r6 ++ (ckO 3 r7 r8 ++ (ckO 4 r9 r10 ++ (ckO 5 r11 r12 ++ [geO 0 3 l1, geO 1 4 l2, geO 2 5 l3])))))
theorem evCk (p : Bx) (r1 r2 r3 r4 r5 r6 r7 r8 r9 r10 r11 r12 l1 l2 l3 : Bool) :
    resIs (.clo (iv (cond (r1 || (r2 || (r3 || (r4 || (r5 || (r6 || (r7 || (r8 || (r9 || (r10 || (r11 || r12))))))))))) 6 (cond (l1 && (l2 && l3)) 0 1)))) (evalFn0 Try.prog (@evalC (toldV (ckSym p) [] [] (ckOps r1 r2 r3 r4 r5 r6 r7 r8 r9 r10 r11 r12 l1 l2 l3)) Try.prog 300 true) 0 24 [s6 0] ⟨0, []⟩) = true := by
  cases r1
  case true => kernel_rfl
  cases r2
  case true => kernel_rfl
  cases r3
  case true => kernel_rfl
  cases r4
  case true => kernel_rfl
  cases r5
  case true => kernel_rfl
  cases r6
  case true => kernel_rfl
  cases r7
  case true => kernel_rfl
  cases r8
  case true => kernel_rfl
  cases r9
  case true => kernel_rfl
  cases r10
  case true => kernel_rfl
  cases r11
  case true => kernel_rfl
  cases r12
  case true => kernel_rfl
  cases l1 <;> cases l2 <;> cases l3 <;> kernel_rfl
theorem chk_cond (p : Bx) : chkB p = cond (decide (p.a < -1000000) || (decide (1000000 < p.a) || (decide (p.b < -1000000) || (decide (1000000 < p.b) || (decide (p.c < -1000000) || (decide (1000000 < p.c) || (decide (p.d < -1000000) || (decide (1000000 < p.d) || (decide (p.e < -1000000) || (decide (1000000 < p.e) || (decide (p.f < -1000000) || decide (1000000 < p.f)))))))))))) 6 (cond (decide (p.a < p.d) && (decide (p.b < p.e) && decide (p.c < p.f))) 0 1) := by
  unfold chkB
  simp only [Bool.cond_eq_ite, Bool.or_eq_true, Bool.and_eq_true, decide_eq_true_eq]
theorem check_any (p : Bx) (w : World) : Calls Try.prog 24 #[bxV p] w fun q w' => q = .returned (iv (chkB p)) ∧ Below w.heap.size w w' := by
  rw [chk_cond]
  refine calls_toldS (by kernel_rfl) (ckSym p) [] _ (fun _ h => by cases h) ?_ (n := 300) (args := [s6 0]) (xs := [bxV p]) rfl _ (evCk p _ _ _ _ _ _ _ _ _ _ _ _ _ _ _) rfl w
  intro z hz
  simp only [ckOps, ckO, List.cons_append, List.nil_append, List.mem_cons, List.not_mem_nil, or_false] at hz
  rcases hz with rfl | rfl | rfl | rfl | rfl | rfl | rfl | rfl | rfl | rfl | rfl | rfl | rfl | rfl | rfl
  · exact ⟨[iv p.a, iv (-1000000)], .bool (decide (p.a < -1000000)), rfl, rfl, tells_lss rfl⟩
  · exact ⟨[iv p.a, iv 1000000], .bool (decide (1000000 < p.a)), rfl, rfl, tells_gtr rfl⟩
  · exact ⟨[iv p.b, iv (-1000000)], .bool (decide (p.b < -1000000)), rfl, rfl, tells_lss rfl⟩
  · exact ⟨[iv p.b, iv 1000000], .bool (decide (1000000 < p.b)), rfl, rfl, tells_gtr rfl⟩
  · exact ⟨[iv p.c, iv (-1000000)], .bool (decide (p.c < -1000000)), rfl, rfl, tells_lss rfl⟩
  · exact ⟨[iv p.c, iv 1000000], .bool (decide (1000000 < p.c)), rfl, rfl, tells_gtr rfl⟩
  · exact ⟨[iv p.d, iv (-1000000)], .bool (decide (p.d < -1000000)), rfl, rfl, tells_lss rfl⟩
  · exact ⟨[iv p.d, iv 1000000], .bool (decide (1000000 < p.d)), rfl, rfl, tells_gtr rfl⟩
  · exact ⟨[iv p.e, iv (-1000000)], .bool (decide (p.e < -1000000)), rfl, rfl, tells_lss rfl⟩
  · exact ⟨[iv p.e, iv 1000000], .bool (decide (1000000 < p.e)), rfl, rfl, tells_gtr rfl⟩
  · exact ⟨[iv p.f, iv (-1000000)], .bool (decide (p.f < -1000000)), rfl, rfl, tells_lss rfl⟩
  · exact ⟨[iv p.f, iv 1000000], .bool (decide (1000000 < p.f)), rfl, rfl, tells_gtr rfl⟩
  · exact ⟨[iv p.a, iv p.d], .bool (decide (p.a < p.d)), rfl, rfl, tells_lss rfl⟩
  · exact ⟨[iv p.b, iv p.e], .bool (decide (p.b < p.e)), rfl, rfl, tells_lss rfl⟩
  · exact ⟨[iv p.c, iv p.f], .bool (decide (p.c < p.f)), rfl, rfl, tells_lss rfl⟩
theorem evRk (p : Bx) (r1 r2 r3 r4 r5 r6 r7 r8 r9 r10 r11 r12 l1 l2 l3 : Bool) :
    resIs (.clo (iv (cond (r1 || (r2 || (r7 || (r8 || (r3 || (r4 || (r9 || (r10 || (r5 || (r6 || (r11 || r12))))))))))) 6 (cond (l1 || (l2 || l3)) 1 0)))) (evalFn0 Try.prog (@evalC (toldV (ckSym p) [] [] (rkOps r1 r2 r3 r4 r5 r6 r7 r8 r9 r10 r11 r12 l1 l2 l3)) Try.prog 300 true) 0 13 [s6 0] ⟨0, []⟩) = true := by
  cases r1
  case true => kernel_rfl
  cases r2
  case true => kernel_rfl
  cases r7
  case true => kernel_rfl
  cases r8
  case true => kernel_rfl
  cases r3
  case true => kernel_rfl
  cases r4
  case true => kernel_rfl
  cases r9
  case true => kernel_rfl
  cases r10
  case true => kernel_rfl
  cases r5
  case true => kernel_rfl
  cases r6
  case true => kernel_rfl
  cases r11
  case true => kernel_rfl
  cases r12
  case true => kernel_rfl
  cases l1 <;> cases l2 <;> cases l3 <;> kernel_rfl
theorem chk_condR (p : Bx) : chkB p = cond (decide (p.a < -1000000) || (decide (1000000 < p.a) || (decide (p.d < -1000000) || (decide (1000000 < p.d) || (decide (p.b < -1000000) || (decide (1000000 < p.b) || (decide (p.e < -1000000) || (decide (1000000 < p.e) || (decide (p.c < -1000000) || (decide (1000000 < p.c) || (decide (p.f < -1000000) || decide (1000000 < p.f)))))))))))) 6 (cond (decide (p.d ≤ p.a) || (decide (p.e ≤ p.b) || decide (p.f ≤ p.c))) 1 0) := by
  unfold chkB
  simp only [Bool.cond_eq_ite, Bool.or_eq_true, decide_eq_true_eq]
  split <;> split <;> first | rfl | (split <;> first | rfl | omega) | omega
theorem rcheck_any (p : Bx) (w : World) : Calls Try.prog 13 #[bxV p] w fun q w' => q = .returned (iv (chkB p)) ∧ Below w.heap.size w w' := by
  rw [chk_condR]
  refine calls_toldS (by kernel_rfl) (ckSym p) [] _ (fun _ h => by cases h) ?_ (n := 300) (args := [s6 0]) (xs := [bxV p]) rfl _ (evRk p _ _ _ _ _ _ _ _ _ _ _ _ _ _ _) rfl w
  intro z hz
  simp only [rkOps, ckO, List.cons_append, List.nil_append, List.mem_cons, List.not_mem_nil, or_false] at hz
  rcases hz with rfl | rfl | rfl | rfl | rfl | rfl | rfl | rfl | rfl | rfl | rfl | rfl | rfl | rfl | rfl
  · exact ⟨[iv p.a, iv (-1000000)], .bool (decide (p.a < -1000000)), rfl, rfl, tells_lss rfl⟩
  · exact ⟨[iv p.a, iv 1000000], .bool (decide (1000000 < p.a)), rfl, rfl, tells_gtr rfl⟩
  · exact ⟨[iv p.b, iv (-1000000)], .bool (decide (p.b < -1000000)), rfl, rfl, tells_lss rfl⟩
  · exact ⟨[iv p.b, iv 1000000], .bool (decide (1000000 < p.b)), rfl, rfl, tells_gtr rfl⟩
  · exact ⟨[iv p.c, iv (-1000000)], .bool (decide (p.c < -1000000)), rfl, rfl, tells_lss rfl⟩
  · exact ⟨[iv p.c, iv 1000000], .bool (decide (1000000 < p.c)), rfl, rfl, tells_gtr rfl⟩
  · exact ⟨[iv p.d, iv (-1000000)], .bool (decide (p.d < -1000000)), rfl, rfl, tells_lss rfl⟩
  · exact ⟨[iv p.d, iv 1000000], .bool (decide (1000000 < p.d)), rfl, rfl, tells_gtr rfl⟩
  · exact ⟨[iv p.e, iv (-1000000)], .bool (decide (p.e < -1000000)), rfl, rfl, tells_lss rfl⟩
  · exact ⟨[iv p.e, iv 1000000], .bool (decide (1000000 < p.e)), rfl, rfl, tells_gtr rfl⟩
  · exact ⟨[iv p.f, iv (-1000000)], .bool (decide (p.f < -1000000)), rfl, rfl, tells_lss rfl⟩
  · exact ⟨[iv p.f, iv 1000000], .bool (decide (1000000 < p.f)), rfl, rfl, tells_gtr rfl⟩
  · exact ⟨[iv p.a, iv p.d], .bool (decide (p.d ≤ p.a)), rfl, rfl, tells_geq rfl⟩
  · exact ⟨[iv p.b, iv p.e], .bool (decide (p.e ≤ p.b)), rfl, rfl, tells_geq rfl⟩
  · exact ⟨[iv p.c, iv p.f], .bool (decide (p.f ≤ p.c)), rfl, rfl, tells_geq rfl⟩
theorem evAwake : @evalBeside noVars Try.prog 300 7 [] [] = some (.bool true) := by kernel_rfl
theorem awake_any (w : World) : Calls Try.prog 7 #[] w fun e w' => e = .returned (.bool true) ∧ Below w.heap.size w w' :=
  calls_closed (by kernel_rfl) (n := 300) (args := []) evAwake w
end Go.Proofs.Ytcjgobephedpdaa
/- Layer 6 (box): checks of lists. -/
namespace Go.Proofs.Ytcjgobephedpdaa
open Go.RowKit Go.Ev
set_option maxRecDepth 100000
/-- The first error of a list. -/
def chkL : List Bx → Int
  | [] => 0
  | p :: L => if chkB p = 0 then chkL L else chkB p
theorem chkL_zero : ∀ {L : List Bx}, (∀ p ∈ L, chkB p = 0) → chkL L = 0
  | [], _ => rfl
  | p :: L, h => by rw [chkL, if_pos (h p (by simp)), chkL_zero fun q hq => h q (by simp [hq])]
theorem chkL_first : ∀ {L : List Bx} {k : Nat} {p : Bx}, L[k]? = some p → (∀ q ∈ L.take k, chkB q = 0) → chkB p ≠ 0 → chkL L = chkB p
  | [], k, p, h, _, _ => by simp at h
  | q :: L, 0, p, h, _, h0 => by
    simp at h; subst h
    rw [chkL, if_neg h0]
  | q :: L, k + 1, p, h, ha, h0 => by
    rw [chkL, if_pos (ha q (by simp))]
    exact chkL_first (by simpa using h) (fun r hr => ha r (by simp [hr])) h0
theorem chkL_all : ∀ {L : List Bx}, chkL L = 0 → ∀ p ∈ L, chkB p = 0
  | [], _, p, hp => by cases hp
  | q :: L, h, p, hp => by
    rw [chkL] at h
    split at h
    · rename_i hq
      rcases List.mem_cons.1 hp with rfl | hp
      · exact hq
      · exact chkL_all h p hp
    · exact absurd h (by assumption)
theorem take_chk {L : List Bx} {k : Nat} {p : Bx} (hp : L[k]? = some p) (hal : ∀ q ∈ L.take k, chkB q = 0) (h : chkB p = 0) : ∀ q ∈ L.take (k + 1), chkB q = 0 := by
  intro q hq
  rw [List.take_add_one, hp] at hq
  rcases List.mem_append.1 hq with hq | hq
  · exact hal q hq
  · simp at hq; subst hq; exact h
/-- The symbols of a list of boxes that a call is given. -/
abbrev blSym (a : Option Addr) (a' : Addr) (n c k : Nat) (p : Bx) : Tm → Sym
  | .v 0 => intSym .i64 p.a
  | .v 1 => intSym .i64 p.b
  | .v 2 => intSym .i64 p.c
  | .v 3 => intSym .i64 p.d
  | .v 4 => intSym .i64 p.e
  | .v 5 => intSym .i64 p.f
  | .v 20 => slSym a n c
  | .v 21 => intSym .i64 n
  | .v 22 => intSym .i64 k
  | .v 23 => intSym .i64 (k + 1 : Nat)
  | .v 24 => ptSym (a'.add (k * 6))
  | .v 25 => intSym .i64 (chkB p)
  | _ => intSym .i64 0
abbrev bxK (B : Nat) (L : List Bx) (a : Option Addr) (w : World) : Prop := ElAt encB B L a w
abbrev blLen : KOp := (.ln 26, [.sy 20], .sy 21)
abbrev blLss (m : Bool) : KOp := (.bin .lss 3, [.sy 22, .sy 21], .clo (.bool m))
abbrev blIxa : KOp := (.ixa 26, [.sy 20, .sy 22], .sy 24)
abbrev blLd : KOp := (.ld tBx, [.sy 24], s6 0)
abbrev blInc : KOp := (.bin .add 3, [.sy 22, .clo (iv 1)], .sy 23)
theorem bl_len {a : Option Addr} {a' : Addr} {n c k : Nat} {p : Bx} {K : World → Prop} : OpAt Try.prog (blSym a a' n c k p) K blLen := OpIs.at ⟨[.slice a n c], iv n, rfl, rfl, tells_ln (e := tBx) (by kernel_rfl)⟩ K
theorem bl_lss {a : Option Addr} {a' : Addr} {n c k : Nat} {p : Bx} {K : World → Prop} {m : Bool} (h : decide (k < n) = m) : OpAt Try.prog (blSym a a' n c k p) K (blLss m) := OpIs.at ⟨[iv k, iv n], _, rfl, rfl, tells_lss (by rw [← h, decide_eq_decide]; omega)⟩ K
theorem bl_ixa {a' : Addr} {n c k : Nat} {p : Bx} {K : World → Prop} (hk : k < n) : OpAt Try.prog (blSym (some a') a' n c k p) K blIxa := OpIs.at ⟨[.slice (some a') n c, iv k], .pointer (some (a'.add (k * 6))), rfl, rfl, tells_ixaE (e := tBx) (by kernel_rfl) (by kernel_rfl) hk⟩ _
theorem bl_ld {B : Nat} {L : List Bx} {a' : Addr} {n c k : Nat} {p : Bx} {K : World → Prop} (hK : ∀ w, K w → bxK B L (some a') w) (hp : L[k]? = some p) : OpAt Try.prog (blSym (some a') a' n c k p) K blLd := ⟨[.pointer (some (a'.add (k * 6)))], bxV p, rfl, rfl, ElAt.ld (enc := encB) encB_len (by kernel_rfl) (by kernel_rfl) hK hp⟩
theorem bl_inc {a : Option Addr} {a' : Addr} {n c k : Nat} {p : Bx} {K : World → Prop} (hk : k < 1000000) : OpAt Try.prog (blSym a a' n c k p) K blInc := OpIs.at ⟨[iv k, iv 1], iv (k + 1 : Nat), rfl, rfl, tells_add (by rw [IntKind.wrap_i64]; omega)⟩ _
abbrev blC (B : Nat) (L : List Bx) (a : Option Addr) (a' : Addr) (n c k : Nat) (p : Bx) (lc : List KCall) (lv : List KOp) : Ctxt := toldK 0 (blSym a a' n c k p) lc [] lv (bxK B L a) B ElAt.kst
abbrev vcCall (e : CV) : KCall := (24, [s6 0], e)
abbrev rcCall (e : CV) : KCall := (13, [s6 0], e)
abbrev neZ (m : Bool) : KOp := (.bin .neq 28, [.sy 25, .clo (iv 0)], .clo (.bool m))
theorem ne_z {a : Option Addr} {a' : Addr} {n c k : Nat} {p : Bx} {K : World → Prop} {m : Bool} (h : decide (chkB p ≠ 0) = m) : OpAt Try.prog (blSym a a' n c k p) K (neZ m) := OpIs.at ⟨[iv (chkB p), iv 0], _, rfl, rfl, tells_neq h⟩ _
theorem checkAll_any (B : Nat) (L : List Bx) (a : Option Addr) (c : Nat) (hn0 : L.length ≤ 100000) (w : World) (hP : bxK B L a w) (hB : B ≤ w.heap.size) :
    Calls Try.prog 35 #[.slice a L.length c] w fun e w' => e = .returned (iv (chkL L)) ∧ Below w.heap.size w w' := by
  obtain ⟨n, hn⟩ : ∃ n, n = L.length := ⟨_, rfl⟩
  rw [← hn]
  have hk0 : @KnownOK (blC B L a ⟨0, 0, none⟩ n c 0 ⟨0, 0, 0, 0, 0, 0⟩ [] [blLen]) Try.prog := known_toldK 0 _ _ _ _ _ _ _ aN aN (aC bl_len aN)
  go_enter Try.func35, Try.ntmps35
  refine @code_TL (blC B L a ⟨0, 0, none⟩ n c 0 ⟨0, 0, 0, 0, 0, 0⟩ [] [blLen]) Try.prog hmix hk0 rfl 300 [_] _ 18 [(0, .sy 20)] [(0, .sy 20)] [(0, .slice a n c)] [(0, .slice a n c)] _ w (fun u => by kernel_rfl) rfl rfl ⟨rfl, rfl, fun x hx => by simp at hx; subst hx; rfl⟩ hP hB _ ?_
  intro a1 w1 hs1 hb1
  have hP1 := hP.below hb1 hB
  have hB1 := Nat.le_trans hB hb1.size
  refine wp_seq ?_
  refine @code_TL (blC B L a ⟨0, 0, none⟩ n c 0 ⟨0, 0, 0, 0, 0, 0⟩ [] [blLen]) Try.prog hmix hk0 rfl 300 [_] _ 18 [(0, .sy 20)] [(6, .sy 20), (7, .sy 21), (8, .clo (iv 0))] [(0, .slice a n c)] [(6, .slice a n c), (7, iv n), (8, iv 0)] _ w1 (fun u => by kernel_rfl) rfl rfl hs1 hP1 hB1 _ ?_
  intro a2 w2 hs2 hb2
  have hb2' := hb1.trans (hb2.mono hb1.size)
  clear hb2 hs1 hP1 hB1
  refine wp_block ?_
  refine wp_upto 18 n 8 (fun k => [(6, .slice a n c), (7, iv n), (8, iv k)]) (fun k w' => Below w.heap.size w w' ∧ ∀ q ∈ L.take k, chkB q = 0) (fun k => by simp) hs2 ⟨hb2', fun q hq => by simp at hq⟩ ?_
  rintro k a3 w3 hk hs3 ⟨hb3, hal⟩
  have hP3 := hP.below hb3 hB
  have hB3 := Nat.le_trans hB hb3.size
  by_cases hkn : k < n
  · obtain ⟨p, hp⟩ : ∃ p, L[k]? = some p := ⟨L[k]'(by omega), by simp [show k < L.length by omega]⟩
    obtain ⟨a', rfl⟩ := hP.ex (by omega)
    have hk1 : ∀ m, decide (chkB p ≠ 0) = m → @KnownOK (blC B L (some a') a' n c k p [vcCall (.sy 25)] [blLss true, blIxa, blLd, blInc, neZ m]) Try.prog := fun m hm => known_toldK 0 _ _ _ _ _ _ _ (aC ⟨[bxV p], iv (chkB p), rfl, rfl, fun w _ => check_any p w⟩ aN) aN
      (aC (bl_lss (decide_eq_true hkn)) (aC (bl_ixa hkn) (aC (bl_ld (fun w hw => hw) hp) (aC (bl_inc (by omega)) (aC (ne_z hm) aN)))))
    by_cases hA : chkB p = 0
    · refine @code_T (blC B L (some a') a' n c k p [vcCall (.sy 25)] [blLss true, blIxa, blLd, blInc, neZ false]) Try.prog hmix (hk1 false (by simp [hA])) rfl 300 _ 18 [(6, .sy 20), (7, .sy 21), (8, .sy 22)] .normal [(6, .sy 20), (7, .sy 21), (8, .sy 23)] [(6, .slice (some a') n c), (7, iv n), (8, iv k)] [(6, .slice (some a') n c), (7, iv n), (8, iv (k + 1 : Nat))] _ w3 (fun u => by kernel_rfl) rfl rfl hs3 hP3 hB3 _ ?_
      intro a4 w4 hs4 hb4
      exact ⟨hkn, hs4, hb3.trans (hb4.mono hb3.size), take_chk hp hal hA⟩
    · refine @code_T (blC B L (some a') a' n c k p [vcCall (.sy 25)] [blLss true, blIxa, blLd, blInc, neZ true]) Try.prog hmix (hk1 true (by simp [hA])) rfl 300 _ 18 [(6, .sy 20), (7, .sy 21), (8, .sy 22)] .ret [(2, .sy 25)] [(6, .slice (some a') n c), (7, iv n), (8, iv k)] [(2, iv (chkB p))] _ w3 (fun u => by kernel_rfl) rfl rfl hs3 hP3 hB3 _ ?_
      intro a4 w4 hs4 hb4
      have h4 : a4.tmps.getD 2 undef = iv (chkB p) := hs4.tmps (2, iv (chkB p)) (by simp)
      have hr : chkL L = chkB p := chkL_first hp hal hA
      rw [Array.getD_eq_getD_getElem?] at h4
      simp only [Ex.to, Exit.then, Exit.inBlock]
      simp [bodyPost, results, Try.results35, go_sem, h4, hr]
      exact ⟨hs4.defers, hb3.trans (hb4.mono hb3.size)⟩
  · have hk1 : @KnownOK (blC B L a ⟨0, 0, none⟩ n c k ⟨0, 0, 0, 0, 0, 0⟩ [] [blLss false]) Try.prog := known_toldK 0 _ _ _ _ _ _ _ aN aN (aC (bl_lss (decide_eq_false hkn)) aN)
    refine @code_T (blC B L a ⟨0, 0, none⟩ n c k ⟨0, 0, 0, 0, 0, 0⟩ [] [blLss false]) Try.prog hmix hk1 rfl 300 _ 18 [(6, .sy 20), (7, .sy 21), (8, .sy 22)] (.exit 0) [(6, .sy 20)] [(6, .slice a n c), (7, iv n), (8, iv k)] [(6, .slice a n c)] _ w3 (fun u => by kernel_rfl) rfl rfl hs3 hP3 hB3 _ ?_
    intro a4 w4 hs4 hb4
    simp only [Ex.to, Exit.then, Exit.inBlock, if_true]
    have hb4' := hb3.trans (hb4.mono hb3.size)
    have hr : chkL L = 0 := chkL_zero fun q hq => hal q (by rw [List.take_of_length_le (by omega)]; exact hq)
    refine @code_T (blC B L a ⟨0, 0, none⟩ n c k ⟨0, 0, 0, 0, 0, 0⟩ [] [blLss false]) Try.prog hmix hk1 rfl 300 _ 18 [(6, .sy 20)] .ret [(2, .clo (iv 0))] [(6, .slice a n c)] [(2, iv 0)] _ w4 (fun u => by kernel_rfl) rfl rfl hs4 (hP.below hb4' hB) (Nat.le_trans hB hb4'.size) _ ?_
    intro a5 w5 hs5 hb5
    have h4 : a5.tmps.getD 2 undef = iv 0 := hs5.tmps (2, iv 0) (by simp)
    rw [Array.getD_eq_getD_getElem?] at h4
    simp only [Ex.to]
    simp [bodyPost, results, Try.results35, go_sem, h4, hr]
    exact ⟨hs5.defers, hb4'.trans (hb5.mono hb4'.size)⟩
end Go.Proofs.Ytcjgobephedpdaa
/- Layer 6 (box): checks of lists, of the reference. -/
namespace Go.Proofs.Ytcjgobephedpdaa
open Go.RowKit Go.Ev
set_option maxRecDepth 100000
theorem rcheckAll_any (B : Nat) (L : List Bx) (a : Option Addr) (c : Nat) (hn0 : L.length ≤ 100000) (w : World) (hP : bxK B L a w) (hB : B ≤ w.heap.size) :
    Calls Try.prog 14 #[.slice a L.length c] w fun e w' => e = .returned (iv (chkL L)) ∧ Below w.heap.size w w' := by
  obtain ⟨n, hn⟩ : ∃ n, n = L.length := ⟨_, rfl⟩
  rw [← hn]
  have hk0 : @KnownOK (blC B L a ⟨0, 0, none⟩ n c 0 ⟨0, 0, 0, 0, 0, 0⟩ [] [blLen]) Try.prog := known_toldK 0 _ _ _ _ _ _ _ aN aN (aC bl_len aN)
  go_enter Try.func14, Try.ntmps14
  refine @code_TL (blC B L a ⟨0, 0, none⟩ n c 0 ⟨0, 0, 0, 0, 0, 0⟩ [] [blLen]) Try.prog hmix hk0 rfl 300 [_] _ 19 [(0, .sy 20)] [(0, .sy 20)] [(0, .slice a n c)] [(0, .slice a n c)] _ w (fun u => by kernel_rfl) rfl rfl ⟨rfl, rfl, fun x hx => by simp at hx; subst hx; rfl⟩ hP hB _ ?_
  intro a1 w1 hs1 hb1
  have hP1 := hP.below hb1 hB
  have hB1 := Nat.le_trans hB hb1.size
  refine wp_seq ?_
  refine @code_TL (blC B L a ⟨0, 0, none⟩ n c 0 ⟨0, 0, 0, 0, 0, 0⟩ [] [blLen]) Try.prog hmix hk0 rfl 300 [_] _ 19 [(0, .sy 20)] [(0, .sy 20), (3, .clo (iv 0))] [(0, .slice a n c)] [(0, .slice a n c), (3, iv 0)] _ w1 (fun u => by kernel_rfl) rfl rfl hs1 hP1 hB1 _ ?_
  intro a2 w2 hs2 hb2
  have hb2' := hb1.trans (hb2.mono hb1.size)
  clear hb2 hs1 hP1 hB1
  refine wp_block ?_
  refine wp_upto 19 n 3 (fun k => [(0, .slice a n c), (3, iv k)]) (fun k w' => Below w.heap.size w w' ∧ ∀ q ∈ L.take k, chkB q = 0) (fun k => by simp) hs2 ⟨hb2', fun q hq => by simp at hq⟩ ?_
  rintro k a3 w3 hk hs3 ⟨hb3, hal⟩
  have hP3 := hP.below hb3 hB
  have hB3 := Nat.le_trans hB hb3.size
  by_cases hkn : k < n
  · obtain ⟨p, hp⟩ : ∃ p, L[k]? = some p := ⟨L[k]'(by omega), by simp [show k < L.length by omega]⟩
    obtain ⟨a', rfl⟩ := hP.ex (by omega)
    have hk1 : ∀ m, decide (chkB p ≠ 0) = m → @KnownOK (blC B L (some a') a' n c k p [rcCall (.sy 25)] [blLen, blLss true, blIxa, blLd, blInc, neZ m]) Try.prog := fun m hm => known_toldK 0 _ _ _ _ _ _ _ (aC ⟨[bxV p], iv (chkB p), rfl, rfl, fun w _ => rcheck_any p w⟩ aN) aN
      (aC bl_len (aC (bl_lss (decide_eq_true hkn)) (aC (bl_ixa hkn) (aC (bl_ld (fun w hw => hw) hp) (aC (bl_inc (by omega)) (aC (ne_z hm) aN))))))
    by_cases hA : chkB p = 0
    · refine @code_T (blC B L (some a') a' n c k p [rcCall (.sy 25)] [blLen, blLss true, blIxa, blLd, blInc, neZ false]) Try.prog hmix (hk1 false (by simp [hA])) rfl 300 _ 19 [(0, .sy 20), (3, .sy 22)] .normal [(0, .sy 20), (3, .sy 23)] [(0, .slice (some a') n c), (3, iv k)] [(0, .slice (some a') n c), (3, iv (k + 1 : Nat))] _ w3 (fun u => by kernel_rfl) rfl rfl hs3 hP3 hB3 _ ?_
      intro a4 w4 hs4 hb4
      exact ⟨hkn, hs4, hb3.trans (hb4.mono hb3.size), take_chk hp hal hA⟩
    · refine @code_T (blC B L (some a') a' n c k p [rcCall (.sy 25)] [blLen, blLss true, blIxa, blLd, blInc, neZ true]) Try.prog hmix (hk1 true (by simp [hA])) rfl 300 _ 19 [(0, .sy 20), (3, .sy 22)] .ret [(2, .sy 25)] [(0, .slice (some a') n c), (3, iv k)] [(2, iv (chkB p))] _ w3 (fun u => by kernel_rfl) rfl rfl hs3 hP3 hB3 _ ?_
      intro a4 w4 hs4 hb4
      have h4 : a4.tmps.getD 2 undef = iv (chkB p) := hs4.tmps (2, iv (chkB p)) (by simp)
      have hr : chkL L = chkB p := chkL_first hp hal hA
      rw [Array.getD_eq_getD_getElem?] at h4
      simp only [Ex.to, Exit.then, Exit.inBlock]
      simp [bodyPost, results, Try.results14, go_sem, h4, hr]
      exact ⟨hs4.defers, hb3.trans (hb4.mono hb3.size)⟩
  · have hk1 : @KnownOK (blC B L a ⟨0, 0, none⟩ n c k ⟨0, 0, 0, 0, 0, 0⟩ [] [blLen, blLss false]) Try.prog := known_toldK 0 _ _ _ _ _ _ _ aN aN (aC bl_len (aC (bl_lss (decide_eq_false hkn)) aN))
    refine @code_T (blC B L a ⟨0, 0, none⟩ n c k ⟨0, 0, 0, 0, 0, 0⟩ [] [blLen, blLss false]) Try.prog hmix hk1 rfl 300 _ 19 [(0, .sy 20), (3, .sy 22)] (.exit 0) [(0, .sy 20)] [(0, .slice a n c), (3, iv k)] [(0, .slice a n c)] _ w3 (fun u => by kernel_rfl) rfl rfl hs3 hP3 hB3 _ ?_
    intro a4 w4 hs4 hb4
    simp only [Ex.to, Exit.then, Exit.inBlock, if_true]
    have hb4' := hb3.trans (hb4.mono hb3.size)
    have hr : chkL L = 0 := chkL_zero fun q hq => hal q (by rw [List.take_of_length_le (by omega)]; exact hq)
    refine @code_T (blC B L a ⟨0, 0, none⟩ n c k ⟨0, 0, 0, 0, 0, 0⟩ [] [blLen, blLss false]) Try.prog hmix hk1 rfl 300 _ 19 [(0, .sy 20)] .ret [(2, .clo (iv 0))] [(0, .slice a n c)] [(2, iv 0)] _ w4 (fun u => by kernel_rfl) rfl rfl hs4 (hP.below hb4' hB) (Nat.le_trans hB hb4'.size) _ ?_
    intro a5 w5 hs5 hb5
    have h4 : a5.tmps.getD 2 undef = iv 0 := hs5.tmps (2, iv 0) (by simp)
    rw [Array.getD_eq_getD_getElem?] at h4
    simp only [Ex.to]
    simp [bodyPost, results, Try.results14, go_sem, h4, hr]
    exact ⟨hs5.defers, hb4'.trans (hb5.mono hb4'.size)⟩
end Go.Proofs.Ytcjgobephedpdaa
/- Layer 6 (box): what is left of a box without another one. -/
namespace Go.Proofs.Ytcjgobephedpdaa
open Go.RowKit Go.Ev
set_option maxRecDepth 100000
def mxZ (a b : Int) : Int := if b > a then b else a
def mnZ (a b : Int) : Int := if b < a then b else a
/-- The symbols of two boxes and of what they have in common; a list that grows by up to six boxes. -/
abbrev apSym (p q : Bx) (n0 n1 n2 n3 n4 n5 n6 : Nat) : Tm → Sym
  | .v 0 => intSym .i64 p.a
  | .v 1 => intSym .i64 p.b
  | .v 2 => intSym .i64 p.c
  | .v 3 => intSym .i64 p.d
  | .v 4 => intSym .i64 p.e
  | .v 5 => intSym .i64 p.f
  | .v 6 => intSym .i64 q.a
  | .v 7 => intSym .i64 q.b
  | .v 8 => intSym .i64 q.c
  | .v 9 => intSym .i64 q.d
  | .v 10 => intSym .i64 q.e
  | .v 11 => intSym .i64 q.f
  | .v 12 => intSym .i64 (mxZ p.a q.a)
  | .v 13 => intSym .i64 (mxZ p.b q.b)
  | .v 14 => intSym .i64 (mxZ p.c q.c)
  | .v 15 => intSym .i64 (mnZ p.d q.d)
  | .v 16 => intSym .i64 (mnZ p.e q.e)
  | .v 17 => intSym .i64 (mnZ p.f q.f)
  | .v 60 => intSym .i64 n0
  | .v 61 => intSym .i64 n1
  | .v 62 => intSym .i64 n2
  | .v 63 => intSym .i64 n3
  | .v 64 => intSym .i64 n4
  | .v 65 => intSym .i64 n5
  | .v 66 => intSym .i64 n6
  | _ => intSym .i64 0
abbrev cmO : List KOp := [(.mx, [.sy 0, .sy 6], .sy 12), (.mx, [.sy 1, .sy 7], .sy 13), (.mx, [.sy 2, .sy 8], .sy 14), (.mn, [.sy 3, .sy 9], .sy 15), (.mn, [.sy 4, .sy 10], .sy 16), (.mn, [.sy 5, .sy 11], .sy 17)]
abbrev ovO (o1 o2 o3 : Bool) : List KOp := [ltO 12 15 o1, ltO 13 16 o2, ltO 14 17 o3]
abbrev paO (t1 t2 t3 t4 t5 t6 : Bool) : List KOp := [ltO 0 3 true, ltO 1 4 true, ltO 2 5 true, ltO 2 14 t1, ltO 17 5 t2, ltO 1 13 t3, ltO 16 4 t4, ltO 0 12 t5, ltO 15 3 t6]
abbrev sC (a b c d e f : Nat) : List CV := [.sy (.v a), .sy (.v b), .sy (.v c), .sy (.v d), .sy (.v e), .sy (.v f)]
def paC (t1 t2 t3 t4 t5 t6 : Bool) : List CV := cond t1 (sC 0 1 2 3 4 14) [] ++ (cond t2 (sC 0 1 17 3 4 5) [] ++ (cond t3 (sC 0 1 14 3 13 17) [] ++ (cond t4 (sC 0 16 14 3 4 17) [] ++ (cond t5 (sC 0 13 14 12 16 17) [] ++ cond t6 (sC 15 13 14 3 16 17) []))))
def paN (t1 t2 t3 t4 t5 t6 : Bool) : Nat := cond t1 1 0 + (cond t2 1 0 + (cond t3 1 0 + (cond t4 1 0 + (cond t5 1 0 + cond t6 1 0))))
def paL (p q : Bx) (t1 t2 t3 t4 t5 t6 : Bool) : List Bx :=
  cond t1 [⟨p.a, p.b, p.c, p.d, p.e, mxZ p.c q.c⟩] [] ++ (cond t2 [⟨p.a, p.b, mnZ p.f q.f, p.d, p.e, p.f⟩] [] ++ (cond t3 [⟨p.a, p.b, mxZ p.c q.c, p.d, mxZ p.b q.b, mnZ p.f q.f⟩] [] ++
    (cond t4 [⟨p.a, mnZ p.e q.e, mxZ p.c q.c, p.d, p.e, mnZ p.f q.f⟩] [] ++ (cond t5 [⟨p.a, mxZ p.b q.b, mxZ p.c q.c, mxZ p.a q.a, mnZ p.e q.e, mnZ p.f q.f⟩] [] ++ cond t6 [⟨mnZ p.d q.d, mxZ p.b q.b, mxZ p.c q.c, p.d, mnZ p.e q.e, mnZ p.f q.f⟩] []))))
/-- Two boxes have a common point. -/
def ovB (p q : Bx) : Bool := decide (mxZ p.a q.a < mnZ p.d q.d) && (decide (mxZ p.b q.b < mnZ p.e q.e) && decide (mxZ p.c q.c < mnZ p.f q.f))
/-- What is left of a box without another one. -/
def leftF (p q : Bx) : List Bx :=
  cond (ovB p q) (paL p q (decide (p.c < mxZ p.c q.c)) (decide (mnZ p.f q.f < p.f)) (decide (p.b < mxZ p.b q.b)) (decide (mnZ p.e q.e < p.e)) (decide (p.a < mxZ p.a q.a)) (decide (mnZ p.d q.d < p.d))) [p]
noncomputable abbrev apC (p q : Bx) (lv : List KOp) : Ctxt := toldK 0 (apSym p q 0 0 0 0 0 0 0) [] [] lv (fun _ => True) 0 (fun _ _ _ _ => trivial)
def apL : Nat → Nat → List (Bool × List CV) → List KAp
  | _, _, [] => []
  | i, j, (b, cs) :: r => cond b ((.v (50 + i), .v (60 + i), 6, cs, .v (50 + j), .v (60 + j)) :: apL j (j + 1) r) (apL i (j + 1) r)
def laL : Nat → Nat → List Bool → Nat
  | i, _, [] => i
  | i, j, b :: r => cond b (laL j (j + 1) r) (laL i (j + 1) r)
def paT (t1 t2 t3 t4 t5 t6 : Bool) : List (Bool × List CV) := [(t1, sC 0 1 2 3 4 14), (t2, sC 0 1 17 3 4 5), (t3, sC 0 1 14 3 13 17), (t4, sC 0 16 14 3 4 17), (t5, sC 0 13 14 12 16 17), (t6, sC 15 13 14 3 16 17)]
end Go.Proofs.Ytcjgobephedpdaa
