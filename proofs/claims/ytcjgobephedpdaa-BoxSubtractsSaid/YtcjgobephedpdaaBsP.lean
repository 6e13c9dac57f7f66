/- Layer 6 (box): the law BoxSubtracts. -/
import Derived.Test.YtcjgobephedpdaaBsN
namespace Go.Proofs.Ytcjgobephedpdaa
open Go.RowKit Go.Ev
set_option maxRecDepth 100000
/-- Rest where there is an error. -/
def rE (p : Bx) (L : List Bx) : Int := if 256 < L.length then 7 else if chkB p ≠ 0 then chkB p else chkL L
abbrev rnO (m : Bool) : List KOp := [(.ln 26, [.sy 20], .sy 21), (.bin .gtr 3, [.sy 21, .clo (iv 256)], .clo (.bool m))]
theorem rn_o {p q : Bx} {a : Option Addr} {n c l r : Nat} {x : Int} {K : World → Prop} {m : Bool} (h : decide (256 < n) = m) : ∀ z ∈ rnO m, OpAt Try.prog (suSym p q a n c l r x) K z :=
  aC (OpIs.at ⟨[.slice a n c], iv n, rfl, rfl, tells_ln (e := tBx) (by kernel_rfl)⟩ K) (aC (OpIs.at ⟨[iv n, iv 256], _, rfl, rfl, tells_gtr (by rw [← h, decide_eq_decide]; omega)⟩ K) aN)
theorem ca_at {B : Nat} {L : List Bx} {p q : Bx} {a : Option Addr} {c l r : Nat} {K : World → Prop} (hK : ∀ w, K w → bxK B L a w) (hn : L.length ≤ 100000) {u : CV} {e : Int} (he : chkL L = e) (hu : @den (told (suSym p q a L.length c l r (chkL L)) [] []) (fun _ => none) u = some (iv e)) : CallAt Try.prog (suSym p q a L.length c l r (chkL L)) K (35, [.sy 20], u) := ⟨[.slice a L.length c], iv e, rfl, hu, fun w hw => by
  obtain ⟨B', h1, h2⟩ := ElAt.tight (hK w hw) (fun x => by rw [encB_len]; decide)
  have := checkAll_any B' L a c hn w h1 h2
  rw [he] at this
  exact this⟩
theorem rca_at {B : Nat} {L : List Bx} {p q : Bx} {a : Option Addr} {c l r : Nat} {K : World → Prop} (hK : ∀ w, K w → bxK B L a w) (hn : L.length ≤ 100000) {u : CV} {e : Int} (he : chkL L = e) (hu : @den (told (suSym p q a L.length c l r (chkL L)) [] []) (fun _ => none) u = some (iv e)) : CallAt Try.prog (suSym p q a L.length c l r (chkL L)) K (14, [.sy 20], u) := ⟨[.slice a L.length c], iv e, rfl, hu, fun w hw => by
  obtain ⟨B', h1, h2⟩ := ElAt.tight (hK w hw) (fun x => by rw [encB_len]; decide)
  have := rcheckAll_any B' L a c hn w h1 h2
  rw [he] at this
  exact this⟩
theorem rest_err (B : Nat) (p : Bx) (L : List Bx) (a : Option Addr) (c : Nat) (hn : L.length ≤ 100000) (h : 256 < L.length ∨ chkB p ≠ 0 ∨ chkL L ≠ 0) (w : World) (hP : bxK B L a w) :
    Calls Try.prog 12 #[bxV p, .slice a L.length c] w fun e w' => e = .returned (.tuple #[.slice none 0 0, iv (rE p L)]) ∧ Below w.heap.size w w' := by
  obtain ⟨B', hP', hB'⟩ := ElAt.tight hP (fun x => by rw [encB_len]; decide)
  unfold rE
  by_cases h1 : 256 < L.length
  · rw [if_pos h1]
    exact calls_toldM hmix (suSym p p a L.length c 0 0 (chkL L)) [] [] (rnO true) (bxK B' L a) B' ElAt.kst aN aN (rn_o (decide_eq_true h1)) (n := 300) (args := [s6 0, .sy 20]) (xs := [bxV p, .slice a L.length c]) rfl (.clo (.tuple #[.slice none 0 0, iv 7])) (by kernel_rfl) rfl w hP' hB'
  rw [if_neg h1]
  by_cases h2 : chkB p = 0
  · have h3 : chkL L ≠ 0 := by
      rcases h with h | h | h
      · exact absurd h h1
      · exact absurd h2 h
      · exact h
    rw [if_neg (by simp [h2])]
    exact calls_toldM hmix (suSym p p a L.length c 0 0 (chkL L)) [(24, [s6 0], .clo (iv 0)), (35, [.sy 20], .sy 27)] [] (rnO false ++ neO 27) (bxK B' L a) B' ElAt.kst (aC (vc_at h2 rfl) (aC (ca_at (fun w hw => hw) hn rfl rfl) aN)) aN (aA (rn_o (decide_eq_false h1)) (aC (OpIs.at ⟨[iv (chkL L), iv 0], _, rfl, rfl, tells_neq (by simp [h3])⟩ _) aN)) (n := 300) (args := [s6 0, .sy 20]) (xs := [bxV p, .slice a L.length c]) rfl (.tup [.clo (.slice none 0 0), .sy 27]) (by kernel_rfl) rfl w hP' hB'
  · rw [if_pos h2]
    exact calls_toldM hmix (suSym p p a L.length c 0 0 (chkL L)) [(24, [s6 0], .sy 26), (35, [.sy 20], .sy 27)] [] (rnO false ++ neO 26) (bxK B' L a) B' ElAt.kst (aC (vc_at rfl rfl) (aC (ca_at (fun w hw => hw) hn rfl rfl) aN)) aN (aA (rn_o (decide_eq_false h1)) (aC (OpIs.at ⟨[iv (chkB p), iv 0], _, rfl, rfl, tells_neq (by simp [h2])⟩ _) aN)) (n := 300) (args := [s6 0, .sy 20]) (xs := [bxV p, .slice a L.length c]) rfl (.tup [.clo (.slice none 0 0), .sy 26]) (by kernel_rfl) rfl w hP' hB'
/-! ### The law, worked out -/
inductive PS | eP | eQ | nl | row
inductive PR | far | cP | cL | big | nl | row
abbrev nlC : CV := .clo (.slice none 0 0)
abbrev nT (x : CV) : CV := .tup [nlC, x]
def suC : PS → List KCall
  | .eP => [(13, [s6 0], .sy 26), (13, [s6 6], .sy 25), (8, [s6 0, s6 6], nT (.sy 26))]
  | .eQ => [(13, [s6 0], .clo (iv 0)), (13, [s6 6], .sy 25), (8, [s6 0, s6 6], nT (.sy 25))]
  | .nl => [(13, [s6 0], .clo (iv 0)), (13, [s6 6], .clo (iv 0)), (8, [s6 0, s6 6], nT (.clo (iv 0))), (11, [s6 0, s6 6], nlC)]
  | .row => [(13, [s6 0], .clo (iv 0)), (13, [s6 6], .clo (iv 0))]
def suR : PR → List KCall
  | .far => [(12, [s6 0, .sy 20], nT (.clo (iv 7)))]
  | .cP => [(12, [s6 0, .sy 20], nT (.sy 26))]
  | .cL => [(12, [s6 0, .sy 20], nT (.sy 27)), (14, [.sy 20], .sy 27)]
  | .big => [(12, [s6 0, .sy 20], nT (.clo (iv 7))), (14, [.sy 20], .clo (iv 0)), (15, [s6 0, .sy 20], nT (.clo (iv 7)))]
  | .nl => [(12, [s6 0, .sy 20], nT (.clo (iv 0))), (14, [.sy 20], .clo (iv 0)), (15, [s6 0, .sy 20], nT (.clo (iv 0)))]
  | .row => [(14, [.sy 20], .clo (iv 0))]
abbrev smCl (y n : Tm) : KCl := (10, [.mo [.ab y tBx 6] [.sy n], .mo [.ab y tBx 6] [.sy n]], (fun _ => .clo (.bool true)), [])
def suL : PS → List KCl
  | .row => [(8, [s6 0, s6 6], (fun b => .tup [.as b (.v 41), .clo (iv 0)]), [(.v 50, tBx, 6)]), (11, [s6 0, s6 6], (fun b => .as b (.v 41)), [(.v 50, tBx, 6)]), smCl (.v 50) (.v 41)]
  | _ => []
def suM : PR → List KCl
  | .row => [(12, [s6 0, .sy 20], (fun b => .tup [.as b (.v 42), .clo (iv 0)]), [(.v 52, tBx, 6)]), (15, [s6 0, .sy 20], (fun b => .tup [.as b (.v 42), .clo (iv 0)]), [(.v 52, tBx, 6)]), smCl (.v 52) (.v 42)]
  | _ => []
abbrev eqO (i : Nat) : List KOp := [(.bin .neq 28, [.sy (.v i), .clo (iv 0)], .clo (.bool true)), (.bin .neq 28, [.sy (.v i), .sy (.v i)], .clo (.bool false)), (.bin .eql 28, [.sy (.v i), .clo (iv 0)], .clo (.bool false)), (.bin .eql 28, [.sy (.v i), .sy (.v i)], .clo (.bool true))]
def suE : PS → List KOp
  | .eP => eqO 26
  | .eQ => eqO 25
  | _ => []
def suF : PR → List KOp
  | .cL => eqO 27
  | _ => []
abbrev lnOs (x y z : Bool) : List KOp := [(.ln 26, [.sy 20], .sy 21), (.bin .gtr 3, [.sy 21, .clo (iv 7)], .clo (.bool x)), (.bin .leq 3, [.sy 21, .clo (iv 256)], .clo (.bool y)), (.bin .gtr 3, [.sy 21, .clo (iv 1000)], .clo (.bool z)), (.bin .gtr 3, [.sy 21, .clo (iv 256)], .clo (.bool (!y)))]
def isFar : PR → Bool
  | .far => true
  | _ => false
def fits : PS → PR → Bool
  | .eP, .far => true
  | .eP, .cP => true
  | .eP, _ => false
  | _, .cP => false
  | _, _ => true
abbrev suAbs (L R : List Bx) (s : PS) (r : PR) : Abs := { lst := suLst L R, cl := suL s ++ suM r }
abbrev suCalls (s : PS) (r : PR) : List KCall := [(7, [], .clo (.bool true)), (10, [nlC, nlC], .clo (.bool true))] ++ (suC s ++ suR r)
abbrev suOps (s : PS) (r : PR) : List KOp := lnOs (isFar r) (!isFar r) false ++ (suE s ++ suF r)
theorem su_ev (p q : Bx) (a : Option Addr) (n c l r0 : Nat) (x : Int) (L R : List Bx) (K : World → Prop) (B : Nat) (kst : ∀ w w', K w → Below B w w' → K w') (s : PS) (r : PR) (h : fits s r = true) :
    outF [] (evalFn0 Try.prog (@evalC (toldX (suSym p q a n c l r0 x) (suAbs L R s r) (suCalls s r) [] (suOps s r) K B kst) Try.prog 300 true) 0 3 [s6 0, s6 6, .sy 20] ⟨0, []⟩) = some (.clo (.bool true), []) := by
  cases s <;> cases r <;> first | (cases h; done) | kernel_rfl
theorem su_evFar (p q : Bx) (a : Option Addr) (n c : Nat) (x y z : Bool) (h : (x && y || z) = true) : resC (evalFn0 Try.prog (@evalC (toldK 0 (suSym p q a n c 0 0 0) [(7, [], .clo (.bool true))] [] (lnOs x y z) (fun _ => True) 0 (fun _ _ _ _ => trivial)) Try.prog 300 true) 0 3 [s6 0, s6 6, .sy 20] ⟨0, []⟩) = some (.clo (.bool true)) := by
  cases x <;> cases y <;> cases z <;> first | (cases h; done) | kernel_rfl
end Go.Proofs.Ytcjgobephedpdaa
/- Layer 6 (box): the law BoxSubtracts, for all boxes and lists. -/
namespace Go.Proofs.Ytcjgobephedpdaa
open Go.RowKit Go.Ev
set_option maxRecDepth 100000
abbrev suS (p q : Bx) (L : List Bx) (a : Option Addr) (c : Nat) : Tm → Sym := suSym p q a L.length c (leftF p q).length ((restF [p] L).getD []).length (chkL L)
abbrev suLs (p q : Bx) (L : List Bx) : Tm → List Value := suLst (leftF p q) ((restF [p] L).getD [])
theorem sm_clB {sym : Tm → Sym} {lst : Tm → List Value} {K : World → Prop} {L : List Bx} {y n : Tm} (h1 : L.length ≤ 100000) (hn : asN (sym n).v = some L.length) (hl : lst y = elC encB L) : ClIs Try.prog sym lst K (smCl y n) := by
  refine ⟨rfl, fun w' xs hK hx => ?_⟩
  match xs, hx with
  | [x1, x2], hx =>
    obtain ⟨⟨p, m, rfl, hm, hlp⟩, ⟨p', m', rfl, hm', hlp'⟩, _⟩ := hx
    have hm : m = L.length := by have := hn.symm.trans hm; cases this; rfl
    have hm' : m' = L.length := by have := hn.symm.trans hm'; cases this; rfl
    subst hm; subst hm'
    obtain ⟨g1, g2⟩ := elAt_ls hl hlp
    obtain ⟨g3, g4⟩ := elAt_ls hl hlp'
    exact (same_eq w'.heap.size L (some ⟨p.1, 0, none⟩) (some ⟨p'.1, 0, none⟩) p.2 p'.2 h1 w' ⟨elAt_mono g1 g2, elAt_mono g3 g4⟩ (Nat.le_refl _)).mono fun q w'' ⟨e1, e2⟩ => ⟨e2, [], rfl, by simp, by simp, fun j p b hp => by simp at hp, .bool true, fun e base => rfl, e1⟩
theorem restF_le : ∀ {L R R' : List Bx}, R.length ≤ 100000 → restF R L = some R' → R'.length ≤ 100000
  | [], R, R', h, hr => by cases hr; exact h
  | t :: L, R, R', h, hr => by
    rw [restF] at hr
    split at hr
    · cases hr
    · exact restF_le (by omega) hr
theorem restF_len {p : Bx} {L R : List Bx} (h : restF [p] L = some R) : R.length ≤ 100000 := restF_le (by simp) h
section
variable {B : Nat} {p q : Bx} {L : List Bx} {a : Option Addr} {c : Nat}
theorem rc_at {K : World → Prop} {u : CV} {e : Int} (he : chkB p = e) (hu : @den (told (suS p q L a c) [] []) (fun _ => none) u = some (iv e)) : CallAt Try.prog (suS p q L a c) K (13, [s6 0], u) := ⟨[bxV p], iv e, rfl, hu, fun w _ => by have := rcheck_any p w; rw [he] at this; exact this⟩
theorem rc_at6 {K : World → Prop} {u : CV} {e : Int} (he : chkB q = e) (hu : @den (told (suS p q L a c) [] []) (fun _ => none) u = some (iv e)) : CallAt Try.prog (suS p q L a c) K (13, [s6 6], u) := ⟨[bxV q], iv e, rfl, hu, fun w _ => by have := rcheck_any q w; rw [he] at this; exact this⟩
theorem eq_o {K : World → Prop} {i : Nat} {e : Int} (hi : (suS p q L a c (.v i)).v = iv e) (h0 : e ≠ 0) : ∀ z ∈ eqO i, OpAt Try.prog (suS p q L a c) K z := by
  have hd : @den (told (suS p q L a c) [] []) (fun _ => none) (.sy (.v i)) = some (iv e) := by show some ((suS p q L a c (.v i)).v) = _; rw [hi]
  have h1 : @denL (told (suS p q L a c) [] []) (fun _ => none) [.sy (.v i), .clo (iv 0)] = some [iv e, iv 0] := by simp only [denL, hd]; rfl
  have h2 : @denL (told (suS p q L a c) [] []) (fun _ => none) [.sy (.v i), .sy (.v i)] = some [iv e, iv e] := by simp only [denL, hd]; rfl
  exact aC (OpIs.at ⟨[iv e, iv 0], _, h1, rfl, tells_neq (by simp [h0])⟩ K) (aC (OpIs.at ⟨[iv e, iv e], _, h2, rfl, tells_neq (by simp)⟩ K) (aC (OpIs.at ⟨[iv e, iv 0], _, h1, rfl, tells_eql (by simp [h0])⟩ K) (aC (OpIs.at ⟨[iv e, iv e], _, h2, rfl, tells_eql (by simp)⟩ K) aN)))
theorem su_fin (w : World) (hP : bxK B L a w) (hB : B ≤ w.heap.size) (s : PS) (r : PR) (hf : fits s r = true) (hn : decide (256 < L.length) = isFar r) (hfew : L.length ≤ 7 ∨ 256 < L.length ∧ L.length ≤ 1000)
    (h1 : ∀ z ∈ suC s, CallAt Try.prog (suS p q L a c) (bxK B L a) z) (h2 : ∀ z ∈ suL s, ClIs Try.prog (suS p q L a c) (suLs p q L) (bxK B L a) z) (h3 : ∀ z ∈ suE s, OpAt Try.prog (suS p q L a c) (bxK B L a) z)
    (h4 : ∀ z ∈ suR r, CallAt Try.prog (suS p q L a c) (bxK B L a) z) (h5 : ∀ z ∈ suM r, ClIs Try.prog (suS p q L a c) (suLs p q L) (bxK B L a) z) (h6 : ∀ z ∈ suF r, OpAt Try.prog (suS p q L a c) (bxK B L a) z) :
    Calls Try.prog 3 #[bxV p, bxV q, .slice a L.length c] w fun e w' => e = .returned (.bool true) ∧ Below w.heap.size w w' := by
  have hf1 : decide (7 < L.length) = isFar r := by rw [← hn, decide_eq_decide]; omega
  have hf2 : decide (L.length ≤ 256) = !isFar r := by rw [← hn, ← decide_not, decide_eq_decide]; omega
  have hf3 : decide (1000 < L.length) = false := decide_eq_false (by omega)
  refine (calls_toldX hmix (suS p q L a c) (suAbs (leftF p q) ((restF [p] L).getD []) s r) (suCalls s r) [] (suOps s r) (bxK B L a) B ElAt.kst ⟨aN, aN, aN, aN, aN⟩ (aA h2 h5)
    (aC ⟨[], .bool true, rfl, rfl, fun w' _ => awake_any w'⟩ (aC ⟨[.slice none 0 0, .slice none 0 0], .bool true, rfl, rfl, fun w' _ => same_eq 0 [] none none 0 0 (by simp) w' ⟨elAt_nil _ _, elAt_nil _ _⟩ (Nat.zero_le _)⟩ (aA aN (aA h1 h4)))) aN
    (aC (OpIs.at ⟨[.slice a L.length c], iv L.length, rfl, rfl, tells_ln (e := tBx) (by kernel_rfl)⟩ _) (aC (OpIs.at ⟨[iv L.length, iv 7], _, rfl, rfl, tells_gtr (by rw [← hf1, decide_eq_decide]; omega)⟩ _) (aC (OpIs.at ⟨[iv L.length, iv 256], _, rfl, rfl, tells_leq (by rw [← hf2, decide_eq_decide]; omega)⟩ _)
      (aC (OpIs.at ⟨[iv L.length, iv 1000], _, rfl, rfl, tells_gtr (by rw [← hf3, decide_eq_decide]; omega)⟩ _) (aC (OpIs.at ⟨[iv L.length, iv 256], _, rfl, rfl, tells_gtr (by rw [Bool.not_not, ← hn, decide_eq_decide]; omega)⟩ _) (aA aN (aA h3 h6))))))) (n := 300) (args := [s6 0, s6 6, .sy 20]) (xs := [bxV p, bxV q, .slice a L.length c]) rfl _ [] [] (su_ev _ _ _ _ _ _ _ _ _ _ _ _ _ s r hf) w hP hB).mono fun e w' ⟨hb, e', ⟨u, hu, he⟩, _⟩ => ⟨?_, hb⟩
  cases hu
  exact he
/-- **The law BoxSubtracts.** -/
theorem boxSubtracts_any (B : Nat) (p q : Bx) (L : List Bx) (a : Option Addr) (c : Nat) (w : World) (hP : bxK B L a w) (hB : B ≤ w.heap.size) :
    Calls Try.prog 3 #[bxV p, bxV q, .slice a L.length c] w fun e w' => e = .returned (.bool true) ∧ Below w.heap.size w w' := by
  by_cases hfar : (decide (7 < L.length) && decide (L.length ≤ 256) || decide (1000 < L.length)) = true
  · have hops : ∀ z ∈ lnOs (decide (7 < L.length)) (decide (L.length ≤ 256)) (decide (1000 < L.length)), OpAt Try.prog (suSym p q a L.length c 0 0 0) (fun _ => True) z :=
      aC (OpIs.at ⟨[.slice a L.length c], iv L.length, rfl, rfl, tells_ln (e := tBx) (by kernel_rfl)⟩ _) (aC (OpIs.at ⟨[iv L.length, iv 7], _, rfl, rfl, tells_gtr (by rw [decide_eq_decide]; omega)⟩ _) (aC (OpIs.at ⟨[iv L.length, iv 256], _, rfl, rfl, tells_leq (by rw [decide_eq_decide]; omega)⟩ _)
        (aC (OpIs.at ⟨[iv L.length, iv 1000], _, rfl, rfl, tells_gtr (by rw [decide_eq_decide]; omega)⟩ _) (aC (OpIs.at ⟨[iv L.length, iv 256], _, rfl, rfl, tells_gtr (by rw [← decide_not, decide_eq_decide]; omega)⟩ _) aN))))
    exact calls_toldM hmix (suSym p q a L.length c 0 0 0) [(7, [], .clo (.bool true))] [] (lnOs (decide (7 < L.length)) (decide (L.length ≤ 256)) (decide (1000 < L.length))) (fun _ => True) 0 (fun _ _ _ _ => trivial) (aC ⟨[], .bool true, rfl, rfl, fun w' _ => awake_any w'⟩ aN) aN hops (n := 300) (args := [s6 0, s6 6, .sy 20]) (xs := [bxV p, bxV q, .slice a L.length c]) rfl _ (su_evFar _ _ _ _ _ _ _ _ hfar) rfl w trivial (Nat.zero_le _)
  have hfew : L.length ≤ 7 ∨ 256 < L.length ∧ L.length ≤ 1000 := by
    simp only [Bool.or_eq_true, Bool.and_eq_true, decide_eq_true_eq] at hfar
    omega
  have hK : ∀ w', bxK B L a w' → ∃ B', bxK B' L a w' ∧ B' ≤ w'.heap.size := fun w' hw => ElAt.tight hw (fun x => by rw [encB_len]; decide)
  have far4 : 256 < L.length → ∀ z ∈ suR .far, CallAt Try.prog (suS p q L a c) (bxK B L a) z := fun h => aC ⟨[bxV p, .slice a L.length c], .tuple #[.slice none 0 0, iv 7], rfl, rfl, fun w' hw => by
    have := rest_err B p L a c (by omega) (.inl h) w' hw
    unfold rE at this
    rw [if_pos h] at this
    exact this⟩ aN
  by_cases hp : chkB p = 0
  case neg =>
    have s1 : ∀ z ∈ suC .eP, CallAt Try.prog (suS p q L a c) (bxK B L a) z := aC (rc_at rfl rfl) (aC (rc_at6 rfl rfl) (aC ⟨[bxV p, bxV q], .tuple #[.slice none 0 0, iv (chkB p)], rfl, rfl, fun w' _ => by have := sub_err p q (.inl hp) w'; rw [if_neg hp] at this; exact this⟩ aN))
    by_cases h256 : 256 < L.length
    · exact su_fin w hP hB .eP .far rfl (decide_eq_true h256) hfew s1 aN (eq_o (e := chkB p) rfl hp) (far4 h256) aN aN
    · exact su_fin w hP hB .eP .cP rfl (decide_eq_false h256) hfew s1 aN (eq_o (e := chkB p) rfl hp) (aC ⟨[bxV p, .slice a L.length c], .tuple #[.slice none 0 0, iv (chkB p)], rfl, rfl, fun w' hw => by
        have := rest_err B p L a c (by omega) (.inr (.inl hp)) w' hw
        unfold rE at this
        rw [if_neg h256, if_pos hp] at this
        exact this⟩ aN) aN aN
  -- the first part, by what Subtract answers
  have hS : ∃ s : PS, (∀ r, r ≠ .cP → fits s r = true) ∧ (∀ z ∈ suC s, CallAt Try.prog (suS p q L a c) (bxK B L a) z) ∧ (∀ z ∈ suL s, ClIs Try.prog (suS p q L a c) (suLs p q L) (bxK B L a) z) ∧ (∀ z ∈ suE s, OpAt Try.prog (suS p q L a c) (bxK B L a) z) := by
    by_cases hq : chkB q = 0
    · have hF := (chk_ok hp).1
      by_cases hl : leftF p q = []
      · refine ⟨.nl, fun r hr => by cases r <;> first | rfl | exact absurd rfl hr, aC (rc_at hp rfl) (aC (rc_at6 hq rfl) (aC ⟨[bxV p, bxV q], .tuple #[.slice none 0 0, iv 0], rfl, rfl, fun w' _ => sub_nil p q hp hq hl w'⟩ (aC ⟨[bxV p, bxV q], .slice none 0 0, rfl, rfl, fun w' _ => (rSub_any p q hF w').mono fun e w'' ⟨v, h1, _, h3, h4⟩ => ⟨by rw [h1, h3 hl], h4⟩⟩ aN))), aN, aN⟩
      · have hl6 := leftF_len p q
        exact ⟨.row, fun r hr => by cases r <;> first | rfl | exact absurd rfl hr, aC (rc_at hp rfl) (aC (rc_at6 hq rfl) aN),
          aC (own_clT hl rfl rfl rfl [bxV p, bxV q] lab2 fun w' _ => sub_row p q hp hq hl w') (aC (own_cl hl rfl rfl rfl [bxV p, bxV q] lab2 fun w' _ => (rSub_any p q hF w').mono fun e w'' ⟨v, h1, h2, _, h4⟩ => ⟨v, h1, h2, h4⟩) (aC (sm_clB (L := leftF p q) (by omega) rfl rfl) aN)), aN⟩
    · exact ⟨.eQ, fun r hr => by cases r <;> first | rfl | exact absurd rfl hr, aC (rc_at hp rfl) (aC (rc_at6 rfl rfl) (aC ⟨[bxV p, bxV q], .tuple #[.slice none 0 0, iv (chkB q)], rfl, rfl, fun w' _ => by have := sub_err p q (.inr hq) w'; rw [if_pos hp] at this; exact this⟩ aN)), aN, eq_o (e := chkB q) rfl hq⟩
  obtain ⟨s, hs, s1, s2, s3⟩ := hS
  by_cases h256 : 256 < L.length
  · exact su_fin w hP hB s .far (hs _ (fun h => by cases h)) (decide_eq_true h256) hfew s1 s2 s3 (far4 h256) aN aN
  by_cases hcl : chkL L = 0
  case neg =>
    refine su_fin w hP hB s .cL (hs _ (fun h => by cases h)) (decide_eq_false h256) hfew s1 s2 s3 (aC ⟨[bxV p, .slice a L.length c], .tuple #[.slice none 0 0, iv (chkL L)], rfl, rfl, fun w' hw => ?_⟩ (aC (rca_at (fun w hw => hw) (by omega) rfl rfl) aN)) aN (eq_o (e := chkL L) rfl hcl)
    have := rest_err B p L a c (by omega) (.inr (.inr hcl)) w' hw
    unfold rE at this
    rw [if_neg h256, if_neg (by simp [hp])] at this
    exact this
  have hra : CallAt Try.prog (suS p q L a c) (bxK B L a) (14, [.sy 20], .clo (iv 0)) := rca_at (fun w hw => hw) (by omega) hcl rfl
  have hv : ∀ w', bxK B L a w' → Calls Try.prog 12 #[bxV p, .slice a L.length c] w' fun e w'' => Below w'.heap.size w' w'' ∧ ((restF [p] L = none ∧ e = .returned (.tuple #[.slice none 0 0, iv 7])) ∨ ∃ R v, restF [p] L = some R ∧ e = .returned (.tuple #[v, iv 0]) ∧ OwnL encB tBx 6 w'.heap.size R v w'' ∧ (R = [] → v = .slice none 0 0)) := fun w' hw => by
    obtain ⟨B', h1, h2⟩ := hK w' hw
    exact rest_loops B' p L a c hp hcl (by omega) w' h1 h2
  have hr : ∀ w', bxK B L a w' → Calls Try.prog 15 #[bxV p, .slice a L.length c] w' fun e w'' => Below w'.heap.size w' w'' ∧ ((restF [p] L = none ∧ e = .returned (.tuple #[.slice none 0 0, iv 7])) ∨ ∃ R v, restF [p] L = some R ∧ e = .returned (.tuple #[v, iv 0]) ∧ OwnL encB tBx 6 w'.heap.size R v w'' ∧ (R = [] → v = .slice none 0 0)) := fun w' hw => by
    obtain ⟨B', h1, h2⟩ := hK w' hw
    exact rRest_loops B' p L a c hp hcl (by omega) w' h1 h2
  cases hR : restF [p] L with
  | none =>
    refine su_fin w hP hB s .big (hs _ (fun h => by cases h)) (decide_eq_false h256) hfew s1 s2 s3 (aC ⟨[bxV p, .slice a L.length c], .tuple #[.slice none 0 0, iv 7], rfl, rfl, fun w' hw => (hv w' hw).mono ?_⟩ (aC hra (aC ⟨[bxV p, .slice a L.length c], .tuple #[.slice none 0 0, iv 7], rfl, rfl, fun w' hw => (hr w' hw).mono ?_⟩ aN))) aN aN
    all_goals
      rintro e w'' ⟨hb, ⟨_, h⟩ | ⟨R, v, h, _⟩⟩
      · exact ⟨h, hb⟩
      · rw [hR] at h; cases h
  | some R =>
    by_cases hne : R = []
    · refine su_fin w hP hB s .nl (hs _ (fun h => by cases h)) (decide_eq_false h256) hfew s1 s2 s3 (aC ⟨[bxV p, .slice a L.length c], .tuple #[.slice none 0 0, iv 0], rfl, rfl, fun w' hw => (hv w' hw).mono ?_⟩ (aC hra (aC ⟨[bxV p, .slice a L.length c], .tuple #[.slice none 0 0, iv 0], rfl, rfl, fun w' hw => (hr w' hw).mono ?_⟩ aN))) aN aN
      all_goals
        rintro e w'' ⟨hb, ⟨h, _⟩ | ⟨R', v, h, h1, _, h3⟩⟩
        · rw [hR] at h; cases h
        · rw [hR] at h; cases h
          rw [h3 hne] at h1
          exact ⟨h1, hb⟩
    · have hlen : R.length ≤ 100000 := restF_len hR
      have hg : (restF [p] L).getD [] = R := by rw [hR]; rfl
      refine su_fin w hP hB s .row (hs _ (fun h => by cases h)) (decide_eq_false h256) hfew s1 s2 s3 (aC hra aN) (aC (own_clT (L := R) hne (by show elC encB ((restF [p] L).getD []) = _; rw [hg]) (by show asN (intSym .i64 ((restF [p] L).getD []).length).v = _; rw [hg]; rfl) rfl [bxV p, .slice a L.length c] labR fun w' hw => (hv w' hw).mono ?_) (aC (own_clT (L := R) hne (by show elC encB ((restF [p] L).getD []) = _; rw [hg]) (by show asN (intSym .i64 ((restF [p] L).getD []).length).v = _; rw [hg]; rfl) rfl [bxV p, .slice a L.length c] labR fun w' hw => (hr w' hw).mono ?_) (aC (sm_clB (L := R) hlen (by show asN (intSym .i64 ((restF [p] L).getD []).length).v = _; rw [hg]; rfl) (by show elC encB ((restF [p] L).getD []) = _; rw [hg])) aN))) aN
      all_goals
        rintro e w'' ⟨hb, ⟨h, _⟩ | ⟨R', v, h, h1, h2, _⟩⟩
        · rw [hR] at h; cases h
        · rw [hR] at h; cases h
          exact ⟨v, h1, h2, hb⟩
end
end Go.Proofs.Ytcjgobephedpdaa
