/- Layer 9 (lexer): numbers of the reference. -/
import Derived.Test.YtcbphahdodjbiaaDoorLyL
import Derived.Test.YtcbphahdodjbiaaDoorTkA
namespace Go.Proofs.YtcbphahdodjbiaaDoor
open Go.RowKit Go.Ev
set_option maxRecDepth 100000
def rNumF (l : List UInt8) : FT :=
  if rn pDg (l.drop (sg l)) = 0 ∨ (sg l + rn pDg (l.drop (sg l)) < l.length ∧ pPt (l.getD (sg l + rn pDg (l.drop (sg l))) 0).toNat = true) ∨ (l.getD (sg l) 0).toNat = 48 ∧ (1 < rn pDg (l.drop (sg l)) ∨ sg l = 1) then ⟨0, [], 0, sg l + rn pDg (l.drop (sg l)), 2⟩
  else if 16 < rn pDg (l.drop (sg l)) then ⟨0, [], 0, sg l + rn pDg (l.drop (sg l)), 6⟩
  else if 1000000000000000 < pI (l.take (sg l + rn pDg (l.drop (sg l)))) ∨ pI (l.take (sg l + rn pDg (l.drop (sg l)))) < -1000000000000000 then ⟨0, [], 0, sg l + rn pDg (l.drop (sg l)), 6⟩
  else ⟨2, [], pI (l.take (sg l + rn pDg (l.drop (sg l)))), sg l + rn pDg (l.drop (sg l)), 0⟩
theorem pum_ok : ∀ (l : List UInt8) (a M : Nat), (∀ c ∈ l, 48 ≤ c.toNat ∧ c.toNat ≤ 57) → (a + 1) * 10 ^ l.length ≤ M + 1 → M ≤ 9999999999999999 → ∃ v, Lib.parseUintM (2 ^ 64 - 1) a l = .ok v ∧ v ≤ M
  | [], a, M, _, h, _ => ⟨a, rfl, by simpa using h⟩
  | c :: r, a, M, hd, h, hM => by
    have hc := hd c (by simp)
    have h1 : (a + 1) * 10 * 10 ^ r.length ≤ M + 1 := by
      rw [List.length_cons, Nat.pow_succ, Nat.mul_comm (10 ^ r.length) 10, ← Nat.mul_assoc] at h
      exact h
    have h2 : (a * 10 + (c.toNat - 48) + 1) * 10 ^ r.length ≤ M + 1 := Nat.le_trans (Nat.mul_le_mul_right _ (by omega)) h1
    have h3 : (a + 1) * 10 ≤ M + 1 := Nat.le_trans (Nat.le_mul_of_pos_right _ (Nat.pow_pos (by decide))) h1
    rw [Lib.parseUintM, if_pos hc, if_neg (by omega), if_neg (by omega)]
    exact pum_ok r _ M (fun c hc => hd c (by simp [hc])) h2 hM
theorem pE_digits {x : Nat} {l : List UInt8} (hx : x = sg l) (hd : ∀ c ∈ l.drop x, 48 ≤ c.toNat ∧ c.toNat ≤ 57) (h1 : x < l.length) (h16 : l.length ≤ x + 16) : pE l = false := by
  unfold pE
  have hok : ∀ d : List UInt8, (∀ c ∈ d, 48 ≤ c.toNat ∧ c.toNat ≤ 57) → d ≠ [] → d.length ≤ 16 → ∃ v, Lib.parseUintB 64 d = .ok v ∧ v ≤ 9999999999999999 := by
    intro d hd hne hl
    unfold Lib.parseUintB
    rw [if_neg hne]
    refine pum_ok d 0 9999999999999999 hd ?_ (Nat.le_refl _)
    have : 10 ^ d.length ≤ 10 ^ 16 := Nat.pow_le_pow_right (by decide) hl
    omega
  cases l with
  | nil => simp at h1
  | cons c r =>
    have hx : x = if c = 45 then 1 else 0 := hx
    by_cases hc : c = 45
    · rw [if_pos hc] at hx
      subst hx
      obtain ⟨v, hv, hv2⟩ := hok r (by simpa using hd) (by intro h; rw [h] at h1; simp at h1) (by simp at h16; omega)
      unfold Lib.parseIntB
      have h45 : c.toNat = 45 := by rw [hc]; rfl
      simp only [h45, or_true, if_true, hv, not_true_eq_false, false_and, if_false, true_and]
      rw [if_neg (by omega)]
    · rw [if_neg hc] at hx
      subst hx
      obtain ⟨v, hv, hv2⟩ := hok (c :: r) (by simpa using hd) (by simp) (by simpa using h16)
      have := hd c (by simp)
      unfold Lib.parseIntB
      have h1 : ¬ (c.toNat = 43 ∨ c.toNat = 45) := by omega
      have h2 : ¬ c.toNat = 45 := by omega
      dsimp only
      rw [if_neg h1, hv]
      simp only [h2, if_false, not_false_eq_true, true_and, false_and]
      rw [if_neg (by omega)]
theorem rn_take (p : Nat → Bool) : ∀ l : List UInt8, ∀ c ∈ l.take (rn p l), p c.toNat = true
  | [], c, h => by simp [rn] at h
  | x :: r, c, h => by
    unfold rn at h
    by_cases hx : p x.toNat = true
    · rw [if_pos hx, List.take_succ_cons] at h
      rcases List.mem_cons.1 h with rfl | h
      · exact hx
      · exact rn_take p r c h
    · rw [if_neg hx] at h
      simp at h
theorem pDg_num {n : Nat} (h : pDg n = true) : 48 ≤ n ∧ n ≤ 57 := by
  unfold pDg at h
  simp at h
  omega
abbrev strSym (s : ByteArray) : Sym := ⟨.string s, rfl, fun _ h => by cases h⟩
abbrev intSym (k : IntKind) (n : Int) : Sym := ⟨.int k n, rfl, fun _ h => by cases h⟩
abbrev fr (g : Bool) : Nat := cond g 1 0
abbrev nuSym (s t : ByteArray) (c x d : Nat) (en n v len : Int) : Tm → Sym
  | .v 0 => strSym s
  | .v 1 => intSym .u8 c
  | .v 2 => intSym .i64 en
  | .v 3 => intSym .u8 x
  | .v 4 => intSym .u8 d
  | .v 5 => intSym .i64 n
  | .v 6 => strSym t
  | .v 7 => intSym .i64 v
  | .v 8 => intSym .i64 len
  | _ => intSym .i64 0
abbrev nuCalls (g C F : Bool) : List KCall :=
  [(26, [.sy 1], .clo (.bool false)), (28, [.sy 1], .clo (.bool (!g))), (27, [.sy 0, .clo (iv (fr g)), .clo (.bool false)], .sy 2), (29, [.sy 3], .clo (.bool C))] ++
  cond F [] [(30, [.sy 6, .clo (iv 10), .clo (iv 64)], .tup [.sy 7, .clo .nilIface])]
abbrev nuOps (g A B D E F G H : Bool) : List KOp :=
  [(.idx 9, [.sy 0, .clo (iv 0)], .sy 1), (.bin .eql 5, [.sy 1, .clo (.int .u8 45)], .clo (.bool g)), (.bin .eql 3, [.sy 2, .clo (iv (fr g))], .clo (.bool A)),
   (.ln 9, [.sy 0], .sy 8), (.bin .lss 3, [.sy 2, .sy 8], .clo (.bool B)), (.bin .gtr 3, [.sy 2, .clo (iv (fr g + 1 : Nat))], .clo (.bool E)),
   (.bin .sub 3, [.sy 2, .clo (iv (fr g))], .sy 5), (.bin .gtr 3, [.sy 5, .clo (iv 16)], .clo (.bool F)), (.slc 9 true true, [.sy 0, .clo (iv 0), .sy 2], .sy 6),
   (.bin .gtr 2, [.sy 7, .clo (iv 1000000000000000)], .clo (.bool G)), (.bin .lss 2, [.sy 7, .clo (iv (-1000000000000000))], .clo (.bool H))] ++
  (cond B [(.idx 9, [.sy 0, .sy 2], .sy 3)] [] ++
   (cond g (cond A [] [(.idx 9, [.sy 0, .clo (iv 1)], .sy 4), (.bin .eql 5, [.sy 4, .clo (.int .u8 48)], .clo (.bool D))]) [(.bin .eql 5, [.sy 1, .clo (.int .u8 48)], .clo (.bool D))]))
abbrev nuBad (e : Int) : CV := .tup [.clo (tokV 0 [] 0 1), .sy 2, .clo (iv e)]
abbrev nuGood : CV := .tup [.agg [.clo (iv 2), .clo (strV []), .sy 7, .clo (iv 1)], .sy 2, .clo (iv 0)]
abbrev nuW (g A B C D E F G H : Bool) : CV := cond (A || ((B && C) || (D && (E || g)))) (nuBad 2) (cond (F || (G || H)) (nuBad 6) nuGood)
theorem lx_kst : ∀ w w', LxW w → Below gTop w w' → LxW w' := fun _ _ h hb => h.below hb (Nat.le_refl _)
theorem evNu (g : Bool) (s t : ByteArray) (c x d : Nat) (en n v len : Int) (A B C D E F G H : Bool) :
    resC (evalFn0 Tryd.prog (@evalC (toldK 0 (nuSym s t c x d en n v len) (nuCalls g C (A || F)) [] (nuOps g A B D E F G H) LxW gTop lx_kst) Tryd.prog 300 true) 0 14 [.sy 0, .clo (iv 0)] ⟨0, []⟩) = some (nuW g A B C D E F G H) := by
  cases g
  · cases A
    · cases B
      · cases D
        · cases F
          · cases G
            · cases H
              · kernel_rfl
              · kernel_rfl
            · kernel_rfl
          · kernel_rfl
        · cases E
          · cases F
            · cases G
              · cases H
                · kernel_rfl
                · kernel_rfl
              · kernel_rfl
            · kernel_rfl
          · kernel_rfl
      · cases C
        · cases D
          · cases F
            · cases G
              · cases H
                · kernel_rfl
                · kernel_rfl
              · kernel_rfl
            · kernel_rfl
          · cases E
            · cases F
              · cases G
                · cases H
                  · kernel_rfl
                  · kernel_rfl
                · kernel_rfl
              · kernel_rfl
            · kernel_rfl
        · kernel_rfl
    · cases B <;> kernel_rfl
  · cases A
    · cases B
      · cases D
        · cases F
          · cases G
            · cases H
              · kernel_rfl
              · kernel_rfl
            · kernel_rfl
          · kernel_rfl
        · cases E <;> kernel_rfl
      · cases C
        · cases D
          · cases F
            · cases G
              · cases H
                · kernel_rfl
                · kernel_rfl
              · kernel_rfl
            · kernel_rfl
          · cases E <;> kernel_rfl
        · kernel_rfl
    · cases B <;> kernel_rfl

theorem getD_some {l : List UInt8} {i : Nat} (h : i < l.length) : l[i]? = some (l.getD i 0) := by
  rw [List.getD_eq_getElem?_getD, List.getElem?_eq_getElem h]
  rfl
theorem den_nuBad (s : ByteArray) (t : ByteArray) (c x d : Nat) (en n v len e : Int) : @den (told (nuSym s t c x d en n v len) [] []) (fun _ => none) (nuBad e) = some (.tuple #[tokV 0 [] 0 1, iv en, iv e]) := rfl
theorem den_nuGood (s : ByteArray) (t : ByteArray) (c x d : Nat) (en n v len : Int) : @den (told (nuSym s t c x d en n v len) [] []) (fun _ => none) nuGood = some (.tuple #[tokV 2 [] v 1, iv en, iv 0]) := rfl
theorem rNum_any (g : Bool) (c : UInt8) (r : List UInt8) (hl : (c :: r).length ≤ 1000) (hlt : pLt c.toNat = false) (hdg : pDg c.toNat = !g) (h45 : decide (c = 45) = g) (w : World) (hw : LxW w) :
    Calls Tryd.prog 14 #[strV (c :: r), iv 0] w fun e w' => e = .returned (rtV (rNumF (c :: r))) ∧ Below w.heap.size w w' := by
  have hL := fun w => byte_calls mixed tLt c w
  have hD := fun w => byte_calls mixed tDgR c w
  have hP := fun b w => byte_calls mixed tPt b w
  rw [hlt] at hL
  rw [hdg] at hD
  have h0 : (c :: r)[0]? = some c := rfl
  have hsg : sg (c :: r) = fr g := by
    show (if c = 45 then 1 else 0) = _
    by_cases h : c = 45
    · rw [if_pos h, ← h45, decide_eq_true h]; rfl
    · rw [if_neg h, ← h45, decide_eq_false h]; rfl
  have hg0 : g = false → c = (c :: r).getD (fr g) 0 := by rintro rfl; rfl
  have hc45 : decide ((c.toNat : Int) = 45) = g := by
    rw [← h45, decide_eq_decide, ← UInt8.toNat_inj]
    show _ ↔ c.toNat = 45
    omega
  have hpos : 0 < (c :: r).length := by simp
  generalize (c :: r) = l at hl h0 hsg hg0 hpos ⊢
  have hfg : fr g ≤ 1 := by cases g <;> simp
  have hfl : fr g ≤ l.length := by omega
  have hR := fun w => rRun_any l (fr g) false hfl hl w
  simp only [cond_false] at hR
  have hn := rn_le pDg (l.drop (fr g))
  rw [List.length_drop] at hn
  have hall := rn_take pDg (l.drop (fr g))
  obtain ⟨n, hne⟩ : ∃ n, n = rn pDg (l.drop (fr g)) := ⟨_, rfl⟩
  have hF : rNumF l = if n = 0 ∨ (fr g + n < l.length ∧ pPt (l.getD (fr g + n) 0).toNat = true) ∨ (l.getD (fr g) 0).toNat = 48 ∧ (1 < n ∨ fr g = 1) then ⟨0, [], 0, fr g + n, 2⟩
    else if 16 < n then ⟨0, [], 0, fr g + n, 6⟩
    else if 1000000000000000 < pI (l.take (fr g + n)) ∨ pI (l.take (fr g + n)) < -1000000000000000 then ⟨0, [], 0, fr g + n, 6⟩
    else ⟨2, [], pI (l.take (fr g + n)), fr g + n, 0⟩ := by
    unfold rNumF
    rw [hsg, ← hne]
  rw [← hne] at hR hn hall
  have hT : (⟨l.toArray⟩ : ByteArray).size = l.length := str_size l
  have hTa : ∀ i : Nat, (⟨l.toArray⟩ : ByteArray)[i]? = l[i]? := str_at l
  have hen : fr g + n ≤ l.length := by omega
  refine calls_toldR mixed (nuSym ⟨l.toArray⟩ ⟨(l.take (fr g + n)).toArray⟩ c.toNat (l.getD (fr g + n) 0).toNat (l.getD (fr g) 0).toNat (fr g + n : Nat) n (pI (l.take (fr g + n))) l.length)
    (nuCalls g (pPt (l.getD (fr g + n) 0).toNat) (decide (n = 0) || decide (16 < n))) [] (nuOps g (decide (n = 0)) (decide (fr g + n < l.length)) (decide ((l.getD (fr g) 0).toNat = 48)) (decide (1 < n)) (decide (16 < n)) (decide (1000000000000000 < pI (l.take (fr g + n)))) (decide (pI (l.take (fr g + n)) < -1000000000000000))) LxW gTop lx_kst
    ?_ (fun _ h => by cases h) ?_ (args := [.sy 0, .clo (iv 0)]) (xs := [strV l, iv 0]) rfl _ (evNu _ _ _ _ _ _ _ _ _ _ _ _ _ _ _ _ _ _) ?_ w hw hw.1
  · intro z hz
    simp only [nuCalls, List.mem_append, List.mem_cons, List.not_mem_nil, or_false] at hz
    rcases hz with (rfl | rfl | rfl | rfl) | hz
    · exact ⟨[.int .u8 c.toNat], .bool false, rfl, rfl, fun w _ => hL w⟩
    · exact ⟨[.int .u8 c.toNat], .bool (!g), rfl, rfl, fun w _ => hD w⟩
    · exact ⟨[strV l, iv (fr g), .bool false], iv (fr g + n : Nat), rfl, rfl, fun w _ => hR w⟩
    · exact ⟨[.int .u8 (l.getD (fr g + n) 0).toNat], .bool (pPt (l.getD (fr g + n) 0).toNat), rfl, rfl, fun w _ => hP _ w⟩
    · by_cases h16 : 16 < n
      · rw [decide_eq_true h16, Bool.or_true] at hz; cases hz
      · by_cases hn0 : n = 0
        · rw [decide_eq_true hn0, Bool.true_or] at hz; cases hz
        rw [decide_eq_false h16, decide_eq_false hn0] at hz
        simp only [Bool.or_false, cond_false, List.mem_cons, List.not_mem_nil, or_false] at hz
        subst hz
        refine ⟨[strV (l.take (fr g + n)), iv 10, iv 64], .tuple #[iv (pI (l.take (fr g + n))), .nilIface], rfl, rfl, fun w hw => ?_⟩
        have hlen : (l.take (fr g + n)).length = fr g + n := by rw [List.length_take]; omega
        have hp := pint_any (l.take (fr g + n)) (by omega) w hw
        have hsg2 : fr g = sg (l.take (fr g + n)) := by
          refine hsg.symm.trans ?_
          cases l with
          | nil => simp at hpos
          | cons x y => rw [show fr g + n = (fr g + n - 1) + 1 by omega, List.take_succ_cons]; rfl
        have hE : pE (l.take (fr g + n)) = false := by
          refine pE_digits hsg2 (fun b hb => ?_) (by omega) (by omega)
          rw [List.drop_take, show fr g + n - fr g = n by omega] at hb
          exact pDg_num (hall b hb)
        rw [hE] at hp
        refine hp.mono fun e w' ⟨⟨E, hE1, he⟩, hb⟩ => ⟨?_, hb⟩
        rw [he, show E = .nilIface from hE1]
  · intro z hz
    simp only [nuOps, List.mem_append, List.mem_cons, List.not_mem_nil, or_false] at hz
    rcases hz with (rfl | rfl | rfl | rfl | rfl | rfl | rfl | rfl | rfl | rfl | rfl) | hz | hz
    · exact ⟨[strV l, iv 0], .int .u8 c.toNat, rfl, rfl, tells_idxS (i := 0) (by kernel_rfl) ((hTa 0).trans h0)⟩
    · exact ⟨[.int .u8 c.toNat, .int .u8 45], .bool g, rfl, rfl, tells_eql hc45⟩
    · exact ⟨[iv (fr g + n : Nat), iv (fr g)], _, rfl, rfl, tells_eql (by rw [decide_eq_decide]; omega)⟩
    · exact ⟨[strV l], iv l.length, rfl, rfl, by rw [← hT]; exact tells_lnS (by kernel_rfl)⟩
    · exact ⟨[iv (fr g + n : Nat), iv l.length], _, rfl, rfl, tells_lss (by rw [decide_eq_decide]; omega)⟩
    · exact ⟨[iv (fr g + n : Nat), iv (fr g + 1 : Nat)], _, rfl, rfl, tells_gtr (by rw [decide_eq_decide]; omega)⟩
    · exact ⟨[iv (fr g + n : Nat), iv (fr g)], iv n, rfl, rfl, tells_sub (by rw [IntKind.wrap_i64]; omega)⟩
    · exact ⟨[iv n, iv 16], _, rfl, rfl, tells_gtr (by rw [decide_eq_decide]; omega)⟩
    · refine ⟨[strV l, iv 0, iv (fr g + n : Nat)], strV (l.take (fr g + n)), rfl, rfl, ?_⟩
      have := tells_slcBoth (P := Tryd.prog) (t := 9) (s := ⟨l.toArray⟩) (k := .i64) (k' := .i64) (i := 0) (j := fr g + n) (by kernel_rfl) (Nat.zero_le _) (by rw [hT]; exact hen)
      rw [str_hi] at this
      exact this
    · exact ⟨[iv (pI (l.take (fr g + n))), iv 1000000000000000], _, rfl, rfl, tells_gtr rfl⟩
    · exact ⟨[iv (pI (l.take (fr g + n))), iv (-1000000000000000)], _, rfl, rfl, tells_lss rfl⟩
    · by_cases hB : fr g + n < l.length
      · rw [decide_eq_true hB] at hz
        simp only [cond_true, List.mem_cons, List.not_mem_nil, or_false] at hz
        subst hz
        exact ⟨[strV l, iv (fr g + n : Nat)], .int .u8 (l.getD (fr g + n) 0).toNat, rfl, rfl, tells_idxS (by kernel_rfl) ((hTa _).trans (getD_some hB))⟩
      · rw [decide_eq_false hB] at hz; cases hz
    · cases g with
      | false =>
        simp only [cond_false, List.mem_cons, List.not_mem_nil, or_false] at hz
        subst hz
        refine ⟨[.int .u8 c.toNat, .int .u8 48], _, rfl, rfl, tells_eql ?_⟩
        have h : c = l.getD 0 0 := hg0 rfl
        rw [decide_eq_decide, ← h]
        omega
      | true =>
        by_cases hA : n = 0
        · rw [decide_eq_true hA] at hz; cases hz
        · rw [decide_eq_false hA] at hz
          simp only [cond_true, cond_false, List.mem_cons, List.not_mem_nil, or_false] at hz
          have hfl1 : 1 < l.length := by simp only [fr, cond_true] at hen; omega
          rcases hz with rfl | rfl
          · exact ⟨[strV l, iv 1], .int .u8 (l.getD 1 0).toNat, rfl, rfl, tells_idxS (i := 1) (by kernel_rfl) ((hTa _).trans (getD_some hfl1))⟩
          · exact ⟨[.int .u8 (l.getD 1 0).toNat, .int .u8 48], _, rfl, rfl, tells_eql (by rw [decide_eq_decide]; omega)⟩
  · rw [hF]
    unfold nuW
    by_cases h2 : n = 0 ∨ (fr g + n < l.length ∧ pPt (l.getD (fr g + n) 0).toNat = true) ∨ (l.getD (fr g) 0).toNat = 48 ∧ (1 < n ∨ fr g = 1)
    · have hb : (decide (n = 0) || ((decide (fr g + n < l.length) && pPt (l.getD (fr g + n) 0).toNat) || (decide ((l.getD (fr g) 0).toNat = 48) && (decide (1 < n) || g)))) = true := by
        simp only [Bool.or_eq_true, Bool.and_eq_true, decide_eq_true_eq]
        rcases h2 with h | h | ⟨h, h'⟩
        · exact .inl h
        · exact .inr (.inl h)
        · refine .inr (.inr ⟨h, h'.elim .inl fun h' => .inr ?_⟩)
          cases g
          · simp at h'
          · rfl
      rw [hb, if_pos h2]
      rfl
    · have hb : (decide (n = 0) || ((decide (fr g + n < l.length) && pPt (l.getD (fr g + n) 0).toNat) || (decide ((l.getD (fr g) 0).toNat = 48) && (decide (1 < n) || g)))) = false := by
        rw [← Bool.not_eq_true]
        simp only [Bool.or_eq_true, Bool.and_eq_true, decide_eq_true_eq]
        rintro (h | h | ⟨h, h'⟩)
        · exact h2 (.inl h)
        · exact h2 (.inr (.inl h))
        · exact h2 (.inr (.inr ⟨h, h'.elim .inl fun h' => .inr (by rw [h']; rfl)⟩))
      rw [hb, if_neg h2, cond_false]
      by_cases h16 : 16 < n
      · rw [if_pos h16, decide_eq_true h16]
        rfl
      · rw [if_neg h16, decide_eq_false h16, Bool.false_or]
        by_cases h3 : 1000000000000000 < pI (l.take (fr g + n)) ∨ pI (l.take (fr g + n)) < -1000000000000000
        · have hb3 : (decide (1000000000000000 < pI (l.take (fr g + n))) || decide (pI (l.take (fr g + n)) < -1000000000000000)) = true := by simpa using h3
          rw [if_pos h3, hb3]
          rfl
        · have hb3 : (decide (1000000000000000 < pI (l.take (fr g + n))) || decide (pI (l.take (fr g + n)) < -1000000000000000)) = false := by
            rw [← Bool.not_eq_true]
            simpa using h3
          rw [if_neg h3, hb3]
          rfl
end Go.Proofs.YtcbphahdodjbiaaDoor
