/- Layer 6 (box): the same boxes. -/
import Derived.Test.YtcjgobephedpdaaBsL
import Derived.WalkKit
import Derived.Test.YtcjgobephedpdaaBsM
namespace Go.Proofs.Ytcjgobephedpdaa
open Go.RowKit Go.Ev
set_option maxRecDepth 100000
theorem eqBx0 (p q : Bx) (w : World) : (Op.equalIn 10000 tBx (bxV p) (bxV q)).run Try.prog w = .ok (decide (p = q)) w := by
  obtain ⟨a, b, c, d, e, f⟩ := p
  obtain ⟨a', b', c', d', e', f'⟩ := q
  have uV := Try.underlying23
  have hS : Try.prog.underlying 25 = some (.struct (Try.prog.fieldsOf 25)) := by kernel_rfl
  have hp : Try.prog.stoodInHeld 25 = false := by kernel_rfl
  rw [show (10000 : Nat) = 9999 + 1 from rfl, run_equalIn_agg w 9999 25 _ _ hS hp]
  simp only [Program.fieldsOf, Try.underlying25]
  go_simp
  by_cases h1 : a = a' <;> by_cases h2 : b = b' <;> by_cases h3 : c = c' <;> by_cases h4 : d = d' <;> by_cases h5 : e = e' <;> by_cases h6 : f = f' <;> simp [h1, h2, h3, h4, h5, h6]
theorem bx_eqIs {sym : Tm → Sym} {x y : CV} {p q : Bx} (hx : @den (told sym [] []) (fun _ => none) x = some (bxV p)) (hy : @den (told sym [] []) (fun _ => none) y = some (bxV q)) {r : Bool} (hr : decide (p = q) = r) : EqIs Try.prog sym (tBx, x, y, r) := by
  subst hr
  exact ⟨bxV p, bxV q, hx, hy, fun w xo yo => ⟨run_eqGuard_agg _ _ _ _ _ _ _ (by kernel_rfl), run_eqGuard_agg _ _ _ _ _ _ _ (by kernel_rfl)⟩,
    fun w => ⟨by rw [run_eql_struct, eqBx0]; rfl, by rw [run_neq_struct, eqBx0]; rfl⟩⟩
abbrev smO (m : Bool) : List KOp := [(.ln 26, [.sy 20], .sy 21), (.ln 26, [.sy 30], .sy 21), (.bin .neq 3, [.sy 21, .sy 21], .clo (.bool false)), (.bin .lss 3, [.sy 22, .sy 21], .clo (.bool m))]
abbrev smA : List KOp := [(.ixa 26, [.sy 20, .sy 22], .sy 24), ldP, (.ixa 26, [.sy 30, .sy 22], .sy 35), (.ld tBx, [.sy 35], s6 0), (.bin .add 3, [.sy 22, .clo (iv 1)], .sy 23)]
theorem sm_o {b : Tm → Sym} {a a2 : Option Addr} {a' : Addr} {n c c2 j k : Nat} {g h : Addr} {l : Nat} {K : World → Prop} {m : Bool} (hm : decide (j < n) = m) : ∀ z ∈ smO m, OpAt Try.prog (riSym b (rS a n c j a' a2 n c2 k g h l)) K z :=
  aC (OpIs.at ⟨[.slice a n c], iv n, rfl, rfl, tells_ln (e := tBx) (by kernel_rfl)⟩ K) (aC (OpIs.at ⟨[.slice a2 n c2], iv n, rfl, rfl, tells_ln (e := tBx) (by kernel_rfl)⟩ K) (aC (OpIs.at ⟨[iv n, iv n], _, rfl, rfl, tells_neq (by simp)⟩ K) (aC (OpIs.at ⟨[iv j, iv n], _, rfl, rfl, tells_lss (by rw [← hm, decide_eq_decide]; omega)⟩ K) aN)))
/-- Two lists of the same boxes. -/
theorem same_eq (B : Nat) (L : List Bx) (a a2 : Option Addr) (c c2 : Nat) (hn0 : L.length ≤ 100000) (w : World) (hP : K2 B L L a a2 w) (hB : B ≤ w.heap.size) :
    Calls Try.prog 10 #[.slice a L.length c, .slice a2 L.length c2] w fun e w' => e = .returned (.bool true) ∧ Below w.heap.size w w' := by
  obtain ⟨n, hn⟩ : ∃ n, n = L.length := ⟨_, rfl⟩
  rw [← hn]
  have hk0 : ∀ (j : Nat) (m : Bool), decide (j < n) = m → @KnownOK (toldK 0 (riSym (fun _ => intSym .i64 0) (rS a n c j ⟨0, 0, none⟩ a2 n c2 0 ⟨0, 0, none⟩ ⟨0, 0, none⟩ 0)) [] [] (smO m) (K2 B L L a a2) B k2_kst) Try.prog := fun j m hm => known_toldK 0 _ _ _ _ _ _ _ aN aN (sm_o hm)
  obtain ⟨m0, hm0⟩ : ∃ m, decide (0 < n) = m := ⟨_, rfl⟩
  go_enter Try.func10, Try.ntmps10
  refine @code_TL (toldK 0 (riSym (fun _ => intSym .i64 0) (rS a n c 0 ⟨0, 0, none⟩ a2 n c2 0 ⟨0, 0, none⟩ ⟨0, 0, none⟩ 0)) [] [] (smO m0) (K2 B L L a a2) B k2_kst) Try.prog hmix (hk0 0 m0 hm0) rfl 300 [_, _] _ 26 [(0, .sy 20), (1, .sy 30)] [(0, .sy 20), (1, .sy 30)] [(0, .slice a n c), (1, .slice a2 n c2)] [(0, .slice a n c), (1, .slice a2 n c2)] _ w (fun u => by kernel_rfl) rfl rfl ⟨rfl, rfl, fun x hx => by simp at hx; rcases hx with rfl | rfl <;> rfl⟩ hP hB _ ?_
  intro a1 w1 hs1 hb1
  have hP1 := k2_kst _ _ hP (hb1.mono hB)
  have hB1 := Nat.le_trans hB hb1.size
  refine wp_seq ?_
  refine @code_TL (toldK 0 (riSym (fun _ => intSym .i64 0) (rS a n c 0 ⟨0, 0, none⟩ a2 n c2 0 ⟨0, 0, none⟩ ⟨0, 0, none⟩ 0)) [] [] (smO m0) (K2 B L L a a2) B k2_kst) Try.prog hmix (hk0 0 m0 hm0) rfl 300 [_] _ 26 [(0, .sy 20), (1, .sy 30)] [(0, .sy 20), (1, .sy 30), (5, .clo (iv 0))] [(0, .slice a n c), (1, .slice a2 n c2)] [(0, .slice a n c), (1, .slice a2 n c2), (5, iv 0)] _ w1 (fun u => by kernel_rfl) rfl rfl hs1 hP1 hB1 _ ?_
  intro a2' w2 hs2 hb2
  have hb2' := hb1.trans (hb2.mono hb1.size)
  clear hb2 hs1 hP1 hB1
  refine wp_block ?_
  refine wp_upto 26 n 5 (fun k => [(0, .slice a n c), (1, .slice a2 n c2), (5, iv k)]) (fun k w' => Below w.heap.size w w') (fun k => by simp) hs2 hb2' ?_
  rintro k a3 w3 hk hs3 hb3
  have hP3 := k2_kst _ _ hP (hb3.mono hB)
  have hB3 := Nat.le_trans hB hb3.size
  by_cases hkn : k < n
  · obtain ⟨p, hp⟩ : ∃ p, L[k]? = some p := ⟨L[k]'(by omega), by simp [show k < L.length by omega]⟩
    obtain ⟨x1, rfl⟩ := hP.1.ex (by omega)
    obtain ⟨x2, rfl⟩ := hP.2.ex (by omega)
    refine @code_T (toldK 0 (riSym (apSym p p 0 0 0 0 0 0 0) (rS (some x1) n c k x1 (some x2) n c2 0 ⟨0, 0, none⟩ (x2.add (k * 6)) 0)) [] [(tBx, s6 0, s6 0, true)] (smO true ++ smA) (K2 B L L (some x1) (some x2)) B k2_kst) Try.prog hmix (known_toldK 0 _ _ _ _ _ _ _ aN (aC (bx_eqIs (p := p) (q := p) rfl rfl (by simp)) aN) (aA (sm_o (decide_eq_true hkn)) (aC (OpIs.at ⟨[.slice (some x1) n c, iv k], .pointer (some (x1.add (k * 6))), rfl, rfl, tells_ixaE (e := tBx) (by kernel_rfl) (by kernel_rfl) hkn⟩ _) (aC ⟨[.pointer (some (x1.add (k * 6)))], bxV p, rfl, rfl, ElAt.ld (enc := encB) encB_len (by kernel_rfl) (by kernel_rfl) (fun w hw => hw.1) hp⟩
      (aC (OpIs.at ⟨[.slice (some x2) n c2, iv k], .pointer (some (x2.add (k * 6))), rfl, rfl, tells_ixaE (e := tBx) (by kernel_rfl) (by kernel_rfl) hkn⟩ _) (aC ⟨[.pointer (some (x2.add (k * 6)))], bxV p, rfl, rfl, ElAt.ld (enc := encB) encB_len (by kernel_rfl) (by kernel_rfl) (fun w hw => hw.2) hp⟩ (aC (OpIs.at ⟨[iv k, iv 1], iv (k + 1 : Nat), rfl, rfl, tells_add (by rw [IntKind.wrap_i64]; omega)⟩ _) aN))))))) rfl 300 _ 26 [(0, .sy 20), (1, .sy 30), (5, .sy 22)] .normal [(0, .sy 20), (1, .sy 30), (5, .sy 23)] [(0, .slice (some x1) n c), (1, .slice (some x2) n c2), (5, iv k)] [(0, .slice (some x1) n c), (1, .slice (some x2) n c2), (5, iv (k + 1 : Nat))] _ w3 (fun u => by kernel_rfl) rfl rfl hs3 hP3 hB3 _ ?_
    intro a4 w4 hs4 hb4
    exact ⟨hkn, hs4, hb3.trans (hb4.mono hb3.size)⟩
  · refine @code_T (toldK 0 (riSym (fun _ => intSym .i64 0) (rS a n c k ⟨0, 0, none⟩ a2 n c2 0 ⟨0, 0, none⟩ ⟨0, 0, none⟩ 0)) [] [] (smO false) (K2 B L L a a2) B k2_kst) Try.prog hmix (hk0 k false (decide_eq_false hkn)) rfl 300 _ 26 [(0, .sy 20), (1, .sy 30), (5, .sy 22)] (.exit 0) [(0, .sy 20), (1, .sy 30), (5, .sy 22)] [(0, .slice a n c), (1, .slice a2 n c2), (5, iv k)] [(0, .slice a n c), (1, .slice a2 n c2), (5, iv k)] _ w3 (fun u => by kernel_rfl) rfl rfl hs3 hP3 hB3 _ ?_
    intro a4 w4 hs4 hb4
    simp only [Ex.to, Exit.then, Exit.inBlock, if_true]
    have hb4' := hb3.trans (hb4.mono hb3.size)
    refine @code_T (toldK 0 (riSym (fun _ => intSym .i64 0) (rS a n c k ⟨0, 0, none⟩ a2 n c2 0 ⟨0, 0, none⟩ ⟨0, 0, none⟩ 0)) [] [] (smO false) (K2 B L L a a2) B k2_kst) Try.prog hmix (hk0 k false (decide_eq_false hkn)) rfl 300 _ 26 [(0, .sy 20)] .ret [(4, .clo (.bool true))] [(0, .slice a n c)] [(4, .bool true)] _ w4 (fun u => by kernel_rfl) rfl rfl ⟨hs4.size, hs4.defers, fun x hx => hs4.tmps _ (by simp at hx ⊢; rcases hx with rfl; simp)⟩ (k2_kst _ _ hP (hb4'.mono hB)) (Nat.le_trans hB hb4'.size) _ ?_
    intro a5 w5 hs5 hb5
    have h4 : a5.tmps.getD 4 undef = .bool true := hs5.tmps (4, .bool true) (by simp)
    rw [Array.getD_eq_getD_getElem?] at h4
    simp only [Ex.to]
    simp [bodyPost, results, Try.results10, go_sem, h4]
    exact ⟨hs5.defers, hb4'.trans (hb5.mono hb4'.size)⟩
end Go.Proofs.Ytcjgobephedpdaa
/- Layer 6 (box): Subtract of the program; contracts in the form of told calls. -/
namespace Go.Proofs.Ytcjgobephedpdaa
open Go.RowKit Go.Ev
set_option maxRecDepth 100000
theorem OwnL.row {base : Nat} {L : List Bx} {v : Value} {w : World} (h : OwnL encB tBx 6 base L v w) (hne : L ≠ []) (lst : Tm → List Value) (y : Tm) (hl : lst y = elC encB L) : ∃ p : Nat × Nat, v = .slice (some ⟨p.1, 0, none⟩) L.length p.2 ∧ base ≤ p.1 ∧ LsAt lst (y, tBx, 6) p w := by
  rcases h.2 with ⟨_, hn⟩ | ⟨g, cap, cur, rfl, g1, g2, g3, g4, g5, g6⟩
  · exact absurd (List.length_eq_zero_iff.1 hn) hne
  · refine ⟨(g, cap), rfl, g1, cur, g2, ?_, g5, g4⟩
    show cur.toList.take (lst y).length = lst y
    rw [hl, elC_len encB_len]
    exact g6
theorem den_tup2 {C : Ctxt} {e : Env} {x : CV} {v y : Value} (h : @den C e x = some y) : @den C e (.tup [x, .clo v]) = some (.tuple #[y, v]) := by
  simp only [den, denL, h]
  rfl
/-- A call that makes a list of boxes. -/
theorem own_cl {f : FuncId} {args : List CV} {sym : Tm → Sym} {lst : Tm → List Value} {K : World → Prop} {L : List Bx} {y n : Tm} (hne : L ≠ []) (hl : lst y = elC encB L) (hn : asN (sym n).v = some L.length) (hp : plainAL args = true) (xs : List Value)
    (hx : ∀ w ys, LabL lst sym w args ys → ys = xs) (hC : ∀ w, K w → Calls Try.prog f xs.toArray w fun e w' => ∃ v, e = .returned v ∧ OwnL encB tBx 6 w.heap.size L v w' ∧ Below w.heap.size w w') :
    ClIs Try.prog sym lst K (f, args, (fun b => .as b n), [(y, tBx, 6)]) := by
  refine ⟨hp, fun w ys hK hys => ?_⟩
  rw [hx w ys hys]
  refine (hC w hK).mono fun q w' ⟨v, hq, hO, hb⟩ => ?_
  obtain ⟨p, rfl, hg, hr⟩ := OwnL.row hO hne lst y hl
  refine ⟨hb, [p], rfl, by simpa using hg, by simp, fun j p' b hp' hb' => ?_, .slice (some ⟨p.1, 0, none⟩) L.length p.2, fun e base => ?_, hq⟩
  · match j, hp', hb' with
    | 0, hp', hb' => simp at hp' hb'; subst hp'; subst hb'; exact hr
  · have h5 : envL e base [p] base = some p := by
      unfold envL
      rw [if_pos (by simp)]; simp
    exact @den_asI (told sym [] []) (envL e base [p]) base n p L.length h5 hn
/-- The same beside a number. -/
theorem own_clT {f : FuncId} {args : List CV} {sym : Tm → Sym} {lst : Tm → List Value} {K : World → Prop} {L : List Bx} {y n : Tm} (hne : L ≠ []) (hl : lst y = elC encB L) (hn : asN (sym n).v = some L.length) (hp : plainAL args = true) (xs : List Value)
    (hx : ∀ w ys, LabL lst sym w args ys → ys = xs) (hC : ∀ w, K w → Calls Try.prog f xs.toArray w fun e w' => ∃ v, e = .returned (.tuple #[v, iv 0]) ∧ OwnL encB tBx 6 w.heap.size L v w' ∧ Below w.heap.size w w') :
    ClIs Try.prog sym lst K (f, args, (fun b => .tup [.as b n, .clo (iv 0)]), [(y, tBx, 6)]) := by
  refine ⟨hp, fun w ys hK hys => ?_⟩
  rw [hx w ys hys]
  refine (hC w hK).mono fun q w' ⟨v, hq, hO, hb⟩ => ?_
  obtain ⟨p, rfl, hg, hr⟩ := OwnL.row hO hne lst y hl
  refine ⟨hb, [p], rfl, by simpa using hg, by simp, fun j p' b hp' hb' => ?_, .tuple #[.slice (some ⟨p.1, 0, none⟩) L.length p.2, iv 0], fun e base => ?_, hq⟩
  · match j, hp', hb' with
    | 0, hp', hb' => simp at hp' hb'; subst hp'; subst hb'; exact hr
  · have h5 : envL e base [p] base = some p := by
      unfold envL
      rw [if_pos (by simp)]; simp
    have h6 := @den_asI (told sym [] []) (envL e base [p]) base n p L.length h5 hn
    exact den_tup2 h6
/-- The symbols of two boxes, a list and lengths. -/
abbrev suSym (p q : Bx) (a : Option Addr) (n c : Nat) (l r : Nat) (x : Int) : Tm → Sym
  | .v 0 => intSym .i64 p.a
  | .v 1 => intSym .i64 p.b
  | .v 2 => intSym .i64 p.c
  | .v 3 => intSym .i64 p.d
  | .v 4 => intSym .i64 p.e
  | .v 5 => intSym .i64 p.f
  | .v 6 => intSym .i64 q.a
  | .v 7 => intSym .i64 q.b
  | .v 8 => intSym .i64 q.c
  | .v 9 => intSym .i64 q.d
  | .v 10 => intSym .i64 q.e
  | .v 11 => intSym .i64 q.f
  | .v 20 => slSym a n c
  | .v 21 => intSym .i64 n
  | .v 25 => intSym .i64 (chkB q)
  | .v 26 => intSym .i64 (chkB p)
  | .v 27 => intSym .i64 x
  | .v 41 => intSym .i64 l
  | .v 42 => intSym .i64 r
  | _ => intSym .i64 0
abbrev suLst (L R : List Bx) : Tm → List Value
  | .v 50 => elC encB L
  | .v 52 => elC encB R
  | _ => []
theorem lab2 {lst : Tm → List Value} {p q : Bx} {a : Option Addr} {n c l r : Nat} {x : Int} : ∀ w ys, LabL lst (suSym p q a n c l r x) w [s6 0, s6 6] ys → ys = [bxV p, bxV q] := by
  intro w ys h
  match ys, h with
  | [y1, y2], h =>
    obtain ⟨⟨x1, h1, rfl⟩, ⟨x2, h2, rfl⟩, _⟩ := h
    match x1, h1, x2, h2 with
    | [_, _, _, _, _, _], h1, [_, _, _, _, _, _], h2 =>
      obtain ⟨rfl, rfl, rfl, rfl, rfl, rfl, _⟩ := h1
      obtain ⟨rfl, rfl, rfl, rfl, rfl, rfl, _⟩ := h2
      rfl
theorem lab3 {lst : Tm → List Value} {p q : Bx} {a : Option Addr} {n c l r : Nat} {x : Int} : ∀ w ys, LabL lst (suSym p q a n c l r x) w [.clo (.slice none 0 0), s6 0, s6 6] ys → ys = [.slice none 0 0, bxV p, bxV q] := by
  intro w ys h
  match ys, h with
  | y0 :: ys, h =>
    obtain ⟨rfl, h⟩ := h
    rw [lab2 w ys h]
theorem labR {lst : Tm → List Value} {p q : Bx} {a : Option Addr} {n c l r : Nat} {x : Int} : ∀ w ys, LabL lst (suSym p q a n c l r x) w [s6 0, .sy 20] ys → ys = [bxV p, .slice a n c] := by
  intro w ys h
  match ys, h with
  | [y1, y2], h =>
    obtain ⟨⟨x1, h1, rfl⟩, rfl, _⟩ := h
    match x1, h1 with
    | [_, _, _, _, _, _], h1 =>
      obtain ⟨rfl, rfl, rfl, rfl, rfl, rfl, _⟩ := h1
      rfl
abbrev vc2 (x y : CV) : List KCall := [(24, [s6 0], x), (24, [s6 6], y)]
abbrev neO (i : Nat) : List KOp := [(.bin .neq 28, [.sy (.v i), .clo (iv 0)], .clo (.bool true))]
theorem vc_at {p q : Bx} {a : Option Addr} {n c l r : Nat} {x : Int} {K : World → Prop} {u : CV} {e : Int} (he : chkB p = e) (hu : @den (told (suSym p q a n c l r x) [] []) (fun _ => none) u = some (iv e)) : CallAt Try.prog (suSym p q a n c l r x) K (24, [s6 0], u) := ⟨[bxV p], iv e, rfl, hu, fun w _ => by have := check_any p w; rw [he] at this; exact this⟩
theorem vc_at6 {p q : Bx} {a : Option Addr} {n c l r : Nat} {x : Int} {K : World → Prop} {u : CV} {e : Int} (he : chkB q = e) (hu : @den (told (suSym p q a n c l r x) [] []) (fun _ => none) u = some (iv e)) : CallAt Try.prog (suSym p q a n c l r x) K (24, [s6 6], u) := ⟨[bxV q], iv e, rfl, hu, fun w _ => by have := check_any q w; rw [he] at this; exact this⟩
/-- Subtract where a box has an error. -/
theorem sub_err (p q : Bx) (h : chkB p ≠ 0 ∨ chkB q ≠ 0) (w : World) :
    Calls Try.prog 8 #[bxV p, bxV q] w fun e w' => e = .returned (.tuple #[.slice none 0 0, iv (if chkB p = 0 then chkB q else chkB p)]) ∧ Below w.heap.size w w' := by
  by_cases hp : chkB p = 0
  · have hq : chkB q ≠ 0 := h.resolve_left fun h => h hp
    rw [if_pos hp]
    exact calls_toldR hmix (suSym p q none 0 0 0 0 0) (vc2 (.clo (iv 0)) (.sy 25)) [] (neO 25) (fun _ => True) 0 (fun _ _ _ _ => trivial) (aC (vc_at hp rfl) (aC (vc_at6 rfl rfl) aN)) aN (aC ⟨[iv (chkB q), iv 0], _, rfl, rfl, tells_neq (by simp [hq])⟩ aN) (n := 300) (args := [s6 0, s6 6]) (xs := [bxV p, bxV q]) rfl (.tup [.clo (.slice none 0 0), .sy 25]) (by kernel_rfl) rfl w trivial (Nat.zero_le _)
  · rw [if_neg hp]
    exact calls_toldR hmix (suSym p q none 0 0 0 0 0) (vc2 (.sy 26) (.sy 25)) [] (neO 26) (fun _ => True) 0 (fun _ _ _ _ => trivial) (aC (vc_at rfl rfl) (aC (vc_at6 rfl rfl) aN)) aN (aC ⟨[iv (chkB p), iv 0], _, rfl, rfl, tells_neq (by simp [hp])⟩ aN) (n := 300) (args := [s6 0, s6 6]) (xs := [bxV p, bxV q]) rfl (.tup [.clo (.slice none 0 0), .sy 26]) (by kernel_rfl) rfl w trivial (Nat.zero_le _)
theorem sub_nil (p q : Bx) (hp : chkB p = 0) (hq : chkB q = 0) (hl : leftF p q = []) (w : World) :
    Calls Try.prog 8 #[bxV p, bxV q] w fun e w' => e = .returned (.tuple #[.slice none 0 0, iv 0]) ∧ Below w.heap.size w w' :=
  calls_toldR hmix (suSym p q none 0 0 0 0 0) (vc2 (.clo (iv 0)) (.clo (iv 0)) ++ [(36, [.clo (.slice none 0 0), s6 0, s6 6], .clo (.slice none 0 0))]) [] [] (fun _ => True) 0 (fun _ _ _ _ => trivial) (aC (vc_at hp rfl) (aC (vc_at6 hq rfl) (aC ⟨[.slice none 0 0, bxV p, bxV q], .slice none 0 0, rfl, rfl, fun w _ => (apN_any p q (chk_ok hp).1 w).mono fun e w' ⟨v, h1, _, h3, h4⟩ => ⟨by rw [h1, h3 hl], h4⟩⟩ aN))) aN aN (n := 300) (args := [s6 0, s6 6]) (xs := [bxV p, bxV q]) rfl (.clo (.tuple #[.slice none 0 0, iv 0])) (by kernel_rfl) rfl w trivial (Nat.zero_le _)
theorem sub_row (p q : Bx) (hp : chkB p = 0) (hq : chkB q = 0) (hl : leftF p q ≠ []) (w : World) :
    Calls Try.prog 8 #[bxV p, bxV q] w fun e w' => ∃ v, e = .returned (.tuple #[v, iv 0]) ∧ OwnL encB tBx 6 w.heap.size (leftF p q) v w' ∧ Below w.heap.size w w' := by
  refine (calls_toldX hmix (suSym p q none 0 0 (leftF p q).length 0 0) { lst := suLst (leftF p q) [], cl := [(36, [.clo (.slice none 0 0), s6 0, s6 6], (fun b => .as b (.v 41)), [(.v 50, tBx, 6)])] } (vc2 (.clo (iv 0)) (.clo (iv 0))) [] [] (fun _ => True) 0 (fun _ _ _ _ => trivial) ⟨aN, aN, aN, aN, aN⟩
    (aC (own_cl hl rfl rfl rfl [.slice none 0 0, bxV p, bxV q] lab3 fun w _ => (apN_any p q (chk_ok hp).1 w).mono fun e w' ⟨v, h1, h2, _, h4⟩ => ⟨v, h1, h2, h4⟩) aN) (aC (vc_at hp rfl) (aC (vc_at6 hq rfl) aN)) aN aN (n := 300) (args := [s6 0, s6 6]) (xs := [bxV p, bxV q]) rfl (.tup [.as 5 (.v 41), .clo (iv 0)]) [5] [some (abB (.v 50) tBx 6)] ?_ w trivial (Nat.zero_le _)).mono fun e w' ⟨hb, e', ⟨u, hu, he⟩, hB, _⟩ => ?_
  · kernel_rfl
  · obtain ⟨p0, h5, hR, hg⟩ := hB 0 5 (abB (.v 50) tBx 6) rfl rfl
    have h6 := @den_asI (told (suSym p q none 0 0 (leftF p q).length 0 0) [] []) e' 5 (.v 41) p0 (leftF p q).length h5 rfl
    have hu : @den (told (suSym p q none 0 0 (leftF p q).length 0 0) [] []) e' (.tup [.as 5 (.v 41), .clo (iv 0)]) = some u := hu
    rw [den_tup2 h6] at hu
    cases hu
    obtain ⟨c, g1, g3, g6, g7⟩ := ls_of_rep hR
    have g3 : c.toList.take (elC encB (leftF p q)).length = elC encB (leftF p q) := g3
    have g6 : c.size = p0.2 * 6 := g6
    refine ⟨_, he, ⟨elC_len encB_len _, .inr ⟨p0.1, p0.2, c, rfl, hg, g1, ?_, g7, g6, ?_⟩⟩, hb⟩
    · have := congrArg List.length g3
      rw [List.length_take, elC_len encB_len] at this
      have h2 : (leftF p q).length * 6 ≤ p0.2 * 6 := by
        have : min ((leftF p q).length * 6) c.size = (leftF p q).length * 6 := by simpa using this
        omega
      omega
    · rw [← elC_len encB_len]; exact g3
end Go.Proofs.Ytcjgobephedpdaa
