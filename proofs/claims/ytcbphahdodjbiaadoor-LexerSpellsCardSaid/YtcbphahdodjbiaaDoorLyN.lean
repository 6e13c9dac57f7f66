/- Layer 9 (lexer): the reference's token, spelling, valid tokens, Spell. -/
import Derived.Test.YtcbphahdodjbiaaDoorLyM
namespace Go.Proofs.YtcbphahdodjbiaaDoor
open Go.RowKit Go.Ev
set_option maxRecDepth 100000

noncomputable def rFirstF : List UInt8 → FT
  | [] => ⟨0, [], 0, 0, 2⟩
  | c :: r => if pLt c.toNat = true then rWordF (c :: r) else if pDg c.toNat = true ∨ c = 45 then rNumF (c :: r) else if c = 34 then rTextF r else rSignF c
theorem rTok_any (c : UInt8) (r : List UInt8) (hl : (c :: r).length ≤ 1000) (w : World) (hw : LxW w) : Calls Tryd.prog 14 #[strV (c :: r), iv 0] w fun e w' => e = .returned (rtV (rFirstF (c :: r))) ∧ Below w.heap.size w w' := by
  unfold rFirstF
  dsimp only
  by_cases h1 : pLt c.toNat = true
  · rw [if_pos h1]
    exact rWord_any c r hl h1 w
  rw [if_neg h1]
  rw [Bool.not_eq_true] at h1
  by_cases h2 : pDg c.toNat = true
  · rw [if_pos (.inl h2)]
    have h45 : c ≠ 45 := by rintro rfl; cases h2
    exact rNum_any false c r hl h1 h2 (decide_eq_false h45) w hw
  by_cases h3 : c = 45
  · rw [if_pos (.inr h3)]
    exact rNum_any true c r hl h1 (by rw [Bool.not_eq_true] at h2; exact h2) (decide_eq_true h3) w hw
  rw [if_neg (fun h => h.elim h2 h3)]
  rw [Bool.not_eq_true] at h2
  by_cases h4 : c = 34
  · rw [if_pos h4]
    exact rText_any c r hl h1 h2 h3 h4 w
  · rw [if_neg h4]
    exact rSign_any c r h1 h2 h3 h4 w

/-! ### Spelling -/
def rspF (k : Int) (t : List UInt8) (n : Int) : List UInt8 := if k = 2 then Lib.itoa n else if k = 3 then 34 :: (t ++ [34]) else t
abbrev qS : CV := .clo (strV [34])
abbrev tokC (a b c d : Nat) : CV := .agg [.sy (.v a), .sy (.v b), .sy (.v c), .sy (.v d)]
abbrev spSym (k n a : Int) (t u x y : ByteArray) : Tm → Sym
  | .v 0 => intSym .i64 k
  | .v 1 => strSym t
  | .v 2 => intSym .i64 n
  | .v 3 => intSym .i64 a
  | .v 4 => strSym u
  | .v 5 => strSym x
  | .v 6 => strSym y
  | _ => intSym .i64 0
abbrev spCalls : List KCall := [(19, [.sy 2, .clo (iv 10)], .sy 4)]
abbrev spOps (A B : Bool) : List KOp := [(.bin .eql 3, [.sy 0, .clo (iv 2)], .clo (.bool A)), (.bin .eql 3, [.sy 0, .clo (iv 3)], .clo (.bool B)), (.bin .add 9, [qS, .sy 1], .sy 5), (.bin .add 9, [.sy 5, qS], .sy 6)]
theorem evSp (k n a : Int) (t u x y : ByteArray) (A B : Bool) :
    resC (evalFn0 Tryd.prog (@evalC (toldK 0 (spSym k n a t u x y) spCalls [] (spOps A B) LxW gTop lx_kst) Tryd.prog 300 true) 0 12 [tokC 0 1 2 3] ⟨0, []⟩) = some (cond A (.sy 4) (cond B (.sy 6) (.sy 1))) := by
  cases A
  · cases B <;> kernel_rfl
  · kernel_rfl
theorem rSpelling_any (k : Int) (t : List UInt8) (n a : Int) (ht : t.length ≤ 500) (hn : In64 n) (w : World) (hw : LxW w) : Calls Tryd.prog 12 #[tokV k t n a] w fun e w' => e = .returned (strV (rspF k t n)) ∧ Below w.heap.size w w' := by
  have e1 : (⟨[34].toArray⟩ : ByteArray) ++ ⟨t.toArray⟩ = ⟨(34 :: t).toArray⟩ := str_app [34] t
  have e2 : (⟨(34 :: t).toArray⟩ : ByteArray) ++ ⟨[34].toArray⟩ = ⟨(34 :: (t ++ [34])).toArray⟩ := str_app (34 :: t) [34]
  refine calls_toldR mixed (spSym k n a ⟨t.toArray⟩ ⟨(Lib.itoa n).toArray⟩ ⟨(34 :: t).toArray⟩ ⟨(34 :: (t ++ [34])).toArray⟩) spCalls [] (spOps (decide (k = 2)) (decide (k = 3))) LxW gTop lx_kst
    ?_ (fun _ h => by cases h) ?_ (args := [tokC 0 1 2 3]) (xs := [tokV k t n a]) rfl _ (evSp _ _ _ _ _ _ _ _ _) ?_ w hw hw.1
  · intro z hz
    simp only [spCalls, List.mem_cons, List.not_mem_nil, or_false] at hz
    subst hz
    exact ⟨[iv n, iv 10], strV (Lib.itoa n), rfl, rfl, fun w hw => fmt_any n hn w hw⟩
  · intro z hz
    simp only [spOps, List.mem_cons, List.not_mem_nil, or_false] at hz
    rcases hz with rfl | rfl | rfl | rfl
    · exact ⟨[iv k, iv 2], _, rfl, rfl, tells_eql rfl⟩
    · exact ⟨[iv k, iv 3], _, rfl, rfl, tells_eql rfl⟩
    · refine ⟨[strV [34], strV t], strV (34 :: t), rfl, rfl, ?_⟩
      have := tells_addS (P := Tryd.prog) (t := 9) (a := ⟨[34].toArray⟩) (b := ⟨t.toArray⟩) (by rw [str_size, str_size]; simp; omega)
      rw [e1] at this
      exact this
    · refine ⟨[strV (34 :: t), strV [34]], strV (34 :: (t ++ [34])), rfl, rfl, ?_⟩
      have := tells_addS (P := Tryd.prog) (t := 9) (a := ⟨(34 :: t).toArray⟩) (b := ⟨[34].toArray⟩) (by rw [str_size, str_size]; simp; omega)
      rw [e2] at this
      exact this
  · unfold rspF
    by_cases h2 : k = 2
    · rw [if_pos h2, decide_eq_true h2]; rfl
    · rw [if_neg h2, decide_eq_false h2]
      by_cases h3 : k = 3
      · rw [if_pos h3, decide_eq_true h3]; rfl
      · rw [if_neg h3, decide_eq_false h3]; rfl

/-! ### Valid -/
noncomputable def rValF (k : Int) (t : List UInt8) (n : Int) : Bool :=
  match rspF k t n with
  | [] => false
  | c :: r => !(decide (c.toNat = 32) || decide (c.toNat = 35)) && (decide ((rFirstF (c :: r)).e = 0) && (decide ((rFirstF (c :: r)).len = (c :: r).length) && decide ((rFirstF (c :: r)).k = k ∧ (rFirstF (c :: r)).t = t ∧ (rFirstF (c :: r)).n = n)))
abbrev vaSym (k n a tl : Int) (t s : ByteArray) (c : Nat) (k' n' en e sl : Int) (t' : ByteArray) : Tm → Sym
  | .v 0 => intSym .i64 k
  | .v 1 => strSym t
  | .v 2 => intSym .i64 n
  | .v 3 => intSym .i64 a
  | .v 4 => intSym .i64 tl
  | .v 5 => strSym s
  | .v 6 => intSym .u8 c
  | .v 7 => intSym .i64 k'
  | .v 8 => strSym t'
  | .v 9 => intSym .i64 n'
  | .v 10 => intSym .i64 en
  | .v 11 => intSym .i64 e
  | .v 12 => intSym .i64 sl
  | _ => intSym .i64 0
abbrev vaCalls (Z : Bool) : List KCall := (12, [tokC 0 1 2 3], .sy 5) :: cond Z [] [(14, [.sy 5, .clo (iv 0)], .tup [.agg [.sy 7, .sy 8, .sy 9, .clo (iv 1)], .sy 10, .sy 11])]
abbrev vaOps (Z S H E L : Bool) : List KOp :=
  [(.ln 9, [.sy 1], .sy 4), (.bin .gtr 3, [.sy 4, .clo (iv 100)], .clo (.bool false)), (.bin .eql 9, [.sy 5, .clo (strV [])], .clo (.bool Z)), (.bin .eql 25, [.sy 11, .clo (iv 0)], .clo (.bool E)),
   (.ln 9, [.sy 5], .sy 12), (.bin .eql 3, [.sy 10, .sy 12], .clo (.bool L)), (.bin .eql 5, [.sy 6, .clo (.int .u8 32)], .clo (.bool S)), (.bin .eql 5, [.sy 6, .clo (.int .u8 35)], .clo (.bool H))] ++
  cond Z [] [(.idx 9, [.sy 5, .clo (iv 0)], .sy 6)]
abbrev vaEqs (Q : Bool) : List KEq := [(23, tokC 7 8 9 3, tokC 0 1 2 3, Q)]
theorem evVa (k n a tl : Int) (t s : ByteArray) (c : Nat) (k' n' en e sl : Int) (t' : ByteArray) (Z S H E L Q : Bool) :
    resC (evalFn0 Tryd.prog (@evalC (toldK 0 (vaSym k n a tl t s c k' n' en e sl t') (vaCalls Z) (vaEqs Q) (vaOps Z S H E L) LxW gTop lx_kst) Tryd.prog 300 true) 0 8 [tokC 0 1 2 3] ⟨0, []⟩) = some (.clo (.bool (!Z && (!(S || H) && (E && (L && Q)))))) := by
  cases Z
  · cases S
    · cases H
      · cases E
        · kernel_rfl
        · cases L
          · kernel_rfl
          · cases Q <;> kernel_rfl
      · kernel_rfl
    · kernel_rfl
  · kernel_rfl
theorem tells_eqS2 {P : Program} {t : TypeId} {a b : ByteArray} {r : Bool} (h : decide (a = b) = r) : Tells P (.bin .eql t) [.string a, .string b] (.bool r) :=
  tells_bin (fun w xo yo => by simp [eqGuard]) fun w => by
    have h' : (a.toList == b.toList) = r := by
      rw [← h, Bool.eq_iff_iff, beq_iff_eq, decide_eq_true_eq, Lib.toList_data, Lib.toList_data]
      exact ⟨fun h => ByteArray.ext (Array.ext' h), fun h => by rw [h]⟩
    simp only [binOp, Op.stringOp]
    rw [h']
    simp
theorem tok_eqIs {sym : Tm → Sym} {x y : CV} {k n a k' n' a' : Int} {t t' : List UInt8} (hx : @den (told sym [] []) (fun _ => none) x = some (tokV k t n a)) (hy : @den (told sym [] []) (fun _ => none) y = some (tokV k' t' n' a')) {r : Bool} (hr : decide (k = k' ∧ t = t' ∧ n = n' ∧ a = a') = r) : EqIs Tryd.prog sym (23, x, y, r) := by
  subst hr
  exact ⟨tokV k t n a, tokV k' t' n' a', hx, hy, fun w xo yo => ⟨run_eqGuard_agg _ _ _ _ _ _ _ (by kernel_rfl), run_eqGuard_agg _ _ _ _ _ _ _ (by kernel_rfl)⟩,
    fun w => ⟨by rw [run_eql_struct, eqTok0]; rfl, by rw [run_neq_struct, eqTok0]; rfl⟩⟩
theorem ba_nil (s : List UInt8) : decide ((⟨s.toArray⟩ : ByteArray) = ⟨([] : List UInt8).toArray⟩) = decide (s = []) := by
  rw [decide_eq_decide]
  constructor
  · intro h
    have := congrArg ByteArray.size h
    rw [str_size, str_size] at this
    exact List.eq_nil_of_length_eq_zero this
  · rintro rfl; rfl
theorem rsp_len (k : Int) (t : List UInt8) {n : Int} (ht : t.length ≤ 500) (hn : In64 n) : (rspF k t n).length ≤ 502 := by
  have := itoa_len hn
  unfold rspF
  split
  · omega
  · split
    · simp; omega
    · omega
theorem rValid_any (k : Int) (t : List UInt8) (n a : Int) (ht : t.length ≤ 100) (hn : In64 n) (w : World) (hw : LxW w) : Calls Tryd.prog 8 #[tokV k t n a] w fun e w' => e = .returned (.bool (rValF k t n)) ∧ Below w.heap.size w w' := by
  have hS := fun w hw => rSpelling_any k t n a (by omega) hn w hw
  have hlen := rsp_len k t (by omega) hn
  have hV : rValF k t n = (!decide (rspF k t n = []) && (!(decide (((rspF k t n).headD 0).toNat = 32) || decide (((rspF k t n).headD 0).toNat = 35)) && (decide ((rFirstF (rspF k t n)).e = 0) && (decide ((rFirstF (rspF k t n)).len = (rspF k t n).length) && decide ((rFirstF (rspF k t n)).k = k ∧ (rFirstF (rspF k t n)).t = t ∧ (rFirstF (rspF k t n)).n = n ∧ a = a))))) := by
    unfold rValF
    split
    · rename_i h; rw [h]; rfl
    · rename_i h; rw [h]; simp
  generalize rspF k t n = s at hS hlen hV
  have hT : (⟨t.toArray⟩ : ByteArray).size = t.length := str_size t
  have hs2 : (⟨s.toArray⟩ : ByteArray).size = s.length := str_size s
  rw [hV]
  refine calls_toldR mixed (vaSym k n a t.length ⟨t.toArray⟩ ⟨s.toArray⟩ (s.headD 0).toNat (rFirstF s).k (rFirstF s).n (rFirstF s).len (rFirstF s).e s.length ⟨(rFirstF s).t.toArray⟩) (vaCalls (decide (s = []))) (vaEqs (decide ((rFirstF s).k = k ∧ (rFirstF s).t = t ∧ (rFirstF s).n = n ∧ a = a)))
    (vaOps (decide (s = [])) (decide ((s.headD 0).toNat = 32)) (decide ((s.headD 0).toNat = 35)) (decide ((rFirstF s).e = 0)) (decide ((rFirstF s).len = s.length))) LxW gTop lx_kst
    ?_ ?_ ?_ (args := [tokC 0 1 2 3]) (xs := [tokV k t n a]) rfl _ (evVa _ _ _ _ _ _ _ _ _ _ _ _ _ _ _ _ _ _ _) rfl w hw hw.1
  · intro z hz
    rcases List.mem_cons.1 hz with rfl | hz
    · exact ⟨[tokV k t n a], strV s, rfl, rfl, fun w hw => hS w hw⟩
    · cases s with
      | nil => rw [decide_eq_true rfl] at hz; cases hz
      | cons c r =>
        rw [decide_eq_false (by simp)] at hz
        simp only [cond_false, List.mem_cons, List.not_mem_nil, or_false] at hz
        subst hz
        exact ⟨[strV (c :: r), iv 0], rtV (rFirstF (c :: r)), rfl, rfl, fun w hw => rTok_any c r (by omega) w hw⟩
  · intro z hz
    simp only [vaEqs, List.mem_cons, List.not_mem_nil, or_false] at hz
    subst hz
    exact tok_eqIs (a := a) (a' := a) (t := (rFirstF s).t) (t' := t) rfl rfl (by simp)
  · intro z hz
    simp only [vaOps, List.mem_append, List.mem_cons, List.not_mem_nil, or_false] at hz
    rcases hz with (rfl | rfl | rfl | rfl | rfl | rfl | rfl | rfl) | hz
    · exact ⟨[strV t], iv t.length, rfl, rfl, by rw [← hT]; exact tells_lnS (by kernel_rfl)⟩
    · exact ⟨[iv t.length, iv 100], _, rfl, rfl, tells_gtr (decide_eq_false (by omega))⟩
    · exact ⟨[strV s, strV []], _, rfl, rfl, tells_eqS2 (ba_nil s)⟩
    · exact ⟨[iv (rFirstF s).e, iv 0], _, rfl, rfl, tells_eql rfl⟩
    · exact ⟨[strV s], iv s.length, rfl, rfl, by rw [← hs2]; exact tells_lnS (by kernel_rfl)⟩
    · exact ⟨[iv (rFirstF s).len, iv s.length], _, rfl, rfl, tells_eql (by rw [decide_eq_decide]; omega)⟩
    · exact ⟨[.int .u8 (s.headD 0).toNat, .int .u8 32], _, rfl, rfl, tells_eql (by rw [decide_eq_decide]; omega)⟩
    · exact ⟨[.int .u8 (s.headD 0).toNat, .int .u8 35], _, rfl, rfl, tells_eql (by rw [decide_eq_decide]; omega)⟩
    · cases s with
      | nil => rw [decide_eq_true rfl] at hz; cases hz
      | cons c r =>
        rw [decide_eq_false (by simp)] at hz
        simp only [cond_false, List.mem_cons, List.not_mem_nil, or_false] at hz
        subst hz
        exact ⟨[strV (c :: r), iv 0], .int .u8 c.toNat, rfl, rfl, tells_idxS (i := 0) (by kernel_rfl) (str_at (c :: r) 0)⟩

/-! ### Spell -/
noncomputable def rSpV (k : Int) (t : List UInt8) (n : Int) : Value := cond (rValF k t n) (.tuple #[strV (rspF k t n), iv 0]) (.tuple #[strV [], iv 2])
abbrev slCalls (V : Bool) : List KCall := [(8, [tokC 0 1 2 3], .clo (.bool V)), (12, [tokC 0 1 2 3], .sy 4)]
theorem evSl (k n a : Int) (t u x y : ByteArray) (V : Bool) :
    resC (evalFn0 Tryd.prog (@evalC (toldK 0 (spSym k n a t u x y) (slCalls V) [] [] LxW gTop lx_kst) Tryd.prog 300 true) 0 6 [tokC 0 1 2 3] ⟨0, []⟩) = some (cond V (.tup [.sy 4, .clo (iv 0)]) (.clo (.tuple #[strV [], iv 2]))) := by
  cases V <;> kernel_rfl
theorem rSpell_any (k : Int) (t : List UInt8) (n a : Int) (ht : t.length ≤ 100) (hn : In64 n) (w : World) (hw : LxW w) : Calls Tryd.prog 6 #[tokV k t n a] w fun e w' => e = .returned (rSpV k t n) ∧ Below w.heap.size w w' := by
  refine calls_toldR mixed (spSym k n a ⟨t.toArray⟩ ⟨(rspF k t n).toArray⟩ ⟨#[]⟩ ⟨#[]⟩) (slCalls (rValF k t n)) [] [] LxW gTop lx_kst
    ?_ (fun _ h => by cases h) (fun _ h => by cases h) (args := [tokC 0 1 2 3]) (xs := [tokV k t n a]) rfl _ (evSl _ _ _ _ _ _ _ _) ?_ w hw hw.1
  · intro z hz
    simp only [slCalls, List.mem_cons, List.not_mem_nil, or_false] at hz
    rcases hz with rfl | rfl
    · exact ⟨[tokV k t n a], _, rfl, rfl, fun w hw => rValid_any k t n a ht hn w hw⟩
    · exact ⟨[tokV k t n a], _, rfl, rfl, fun w hw => rSpelling_any k t n a (by omega) hn w hw⟩
  · unfold rSpV
    cases rValF k t n <;> rfl
end Go.Proofs.YtcbphahdodjbiaaDoor
