/- Calls worked out that return a slice of their own. -/
import Derived.Test.YtllnglofbhmcgaaGreatTkH
namespace Go.Ev
open Go.RowKit
/-- A slice that is returned: its length and its row. -/
noncomputable def outL : Option (CV × Mem) → Option (Nat × Option Blk)
  | some (.sl i 0 n none 0, M) => (M.at i).map fun b => (n, some b)
  | some (.clo (.slice none 0 0), _) => some (0, none)
  | _ => none
noncomputable def outA : Option (CV × Mem) → Option (Tm × Option Blk)
  | some (.as i n, M) => (M.at i).map fun b => (n, some b)
  | _ => none
theorem outL_spec {r : Option (CV × Mem)} {n : Nat} {o : Option Blk} (h : outL r = some (n, o)) : (∃ i M b, r = some (.sl i 0 n none 0, M) ∧ M.at i = some b ∧ o = some b) ∨ (∃ M, r = some (.clo (.slice none 0 0), M) ∧ n = 0 ∧ o = none) := by
  unfold outL at h
  split at h
  · rename_i i m M
    obtain ⟨b, hb, he⟩ := Option.map_eq_some_iff.1 h
    cases he
    exact .inl ⟨_, _, b, rfl, hb, rfl⟩
  · cases h
    exact .inr ⟨_, rfl, rfl, rfl⟩
  · cases h
theorem outA_spec {r : Option (CV × Mem)} {n : Tm} {o : Option Blk} (h : outA r = some (n, o)) : ∃ i M b, r = some (.as i n, M) ∧ M.at i = some b ∧ o = some b := by
  unfold outA at h
  split at h
  · obtain ⟨b, hb, he⟩ := Option.map_eq_some_iff.1 h
    cases he
    exact ⟨_, _, b, rfl, hb, rfl⟩
  · cases h
theorem outF_one {i : Nat} {v : CV} {M : Mem} : outF [i] (some (v, M)) = some (v, [M.at i]) := rfl
/-- The slice is nil, or its row is of known cells. -/
theorem calls_own [Ctxt] {P : Program} (hm : P.follows .mixedOrders = true) (hk : KnownOK P) (hpin : Ctxt.pin = 0) (fuel : Nat) {f : FuncId} {args : List CV} {xs : List Value} {n : Nat} {cs : List CV} {t : TypeId} {z : Nat} (hz : 0 < z) {vs : List Value} {w : World}
    (h : outL (evalFn0 P (@evalC _ P fuel true) 0 f args ⟨0, []⟩) = some (n, match n with | 0 => none | _ + 1 => some ⟨cs, t, some z⟩)) (hKw : Ctxt.K w) (hBw : Ctxt.B ≤ w.heap.size)
    (hx : denL (fun _ => none) args = some xs) (hv : denL (fun _ => none) cs = some vs) (hl : vs.length = n * z) :
    Calls P f xs.toArray w fun q w' => ∃ v, q = .returned v ∧ w'.ownsRow w.heap.size t z v n vs ∧ (n = 0 → v = .slice none 0 0) ∧ Below w.heap.size w w' := by
  have hpl : (plX [] : Env) = fun _ => none := by funext i; rfl
  rcases outL_spec h with ⟨i, M, b, hr, hb, ho⟩ | ⟨M, hr, hn, ho⟩
  · obtain ⟨k, rfl⟩ : ∃ k, n = k + 1 := by
      cases n with
      | zero => cases ho
      | succ k => exact ⟨k, rfl⟩
    simp only [Option.some.injEq] at ho
    subst ho
    refine (calls_X hm hk hpin fuel [] [] (.sl i 0 (k + 1) none 0) [i] [some ⟨cs, t, some z⟩] (by rw [show (⟨([] : List Blk).length, memOf 0 []⟩ : Mem) = ⟨0, []⟩ from rfl, hr, outF_one, hb]) (by simp) rfl hKw hBw (fun _ h => by cases h) (by rw [hpl]; exact hx) (fun i b h => by simp at h)).mono fun q w' ⟨hN, e', ⟨u, hu, hq⟩, hB⟩ => ?_
    obtain ⟨p, hp, hR, hf⟩ := hB 0 i _ rfl rfl
    have hf : w.heap.size ≤ p.1 := hf.elim id fun ⟨q, hq, _⟩ => by cases hq
    obtain ⟨c, us, fz, g1, g2, g3, g4, g5⟩ := hR.ofRow (by simp only [ne_eq, Option.some.injEq]; omega)
    rw [denL_mono (fun i p h => by cases h) _ _ hv] at g2
    cases g2
    have gz : fz = (0, 0) := by
      rcases g4 with g4 | g4
      · simp only [Option.some.injEq] at g4; omega
      · exact g4
    subst gz
    obtain ⟨g6, g7⟩ := g5 (by omega)
    have hu' : some (Value.slice (some ⟨p.1, 0, none⟩) (k + 1) p.2) = some u := by
      rw [← hu]
      simp [den, hp]
    cases hu'
    refine ⟨_, hq, ⟨hl, .inr ⟨p.1, p.2, c, rfl, hf, g1, ?_, g7, g6, ?_⟩⟩, (fun h => by cases h), hN.nil⟩
    · have := congrArg List.length g3
      rw [List.length_take, hl] at this
      have h2 : (k + 1) * z ≤ p.2 * z := by
        have : min ((k + 1) * z) c.size = (k + 1) * z := by simpa using this
        omega
      exact Nat.le_of_mul_le_mul_right h2 hz
    · rw [← hl]; exact g3
  · subst hn
    have hvs : vs = [] := List.length_eq_zero_iff.1 (by simpa using hl)
    subst hvs
    refine (calls_X hm hk hpin fuel [] [] (.clo (.slice none 0 0)) [] [] (by rw [show (⟨([] : List Blk).length, memOf 0 []⟩ : Mem) = ⟨0, []⟩ from rfl, hr]; rfl) (by simp) rfl hKw hBw (fun _ h => by cases h) (by rw [hpl]; exact hx) (fun i b h => by simp at h)).mono fun q w' ⟨hN, e', ⟨u, hu, hq⟩, hB⟩ => ?_
    cases hu
    exact ⟨_, hq, World.ownsRow_nil _ _ _ _, fun _ => rfl, hN.nil⟩
/-- The slice is the row that an argument leads to, longer perhaps. -/
theorem calls_ownR [Ctxt] {P : Program} (hm : P.follows .mixedOrders = true) (hk : KnownOK P) (hpin : Ctxt.pin = 0) (fuel : Nat) {f : FuncId} {args : List CV} {xs : List Value} {y y' : Tm} {t : TypeId} {z : Nat} (hz : 0 < z) {n' : Tm} {N' : Nat} {p : Nat × Nat} {base : Nat} {w : World}
    (h : outA (evalFn0 P (@evalC _ P fuel true) 0 f args ⟨1, memOf 0 [abB y t z]⟩) = some (n', some (abB y' t z))) (hKw : Ctxt.K w) (hBw : Ctxt.B ≤ w.heap.size) (hBp : Ctxt.B ≤ p.1) (hp : base ≤ p.1) (hbw : base ≤ w.heap.size)
    (hrow : LsAt Ctxt.ab.lst (y, t, z) p w) (hx : denL (plX [p]) args = some xs) (hn : asN (Ctxt.sym n').v = some N') (hl : (Ctxt.ab.lst y').length = N' * z) :
    Calls P f xs.toArray w fun q w' => ∃ v, q = .returned v ∧ w'.ownsRow base t z v N' (Ctxt.ab.lst y') ∧ Below base w w' := by
  obtain ⟨i, M, b, hr, hb, ho⟩ := outA_spec h
  cases ho
  refine (calls_X hm hk hpin fuel [abB y t z] [p] (.as i n') [i] [some (abB y' t z)] (by rw [show (⟨([abB y t z] : List Blk).length, memOf 0 [abB y t z]⟩ : Mem) = ⟨1, memOf 0 [abB y t z]⟩ from rfl, hr, outF_one, hb]) (by simp) rfl hKw hBw (fun q hq => by simp at hq; subst hq; exact hBp) hx (fun j b hb => by
    cases j with
    | zero => simp at hb; subst hb; exact ⟨p, rfl, rep_of_ls hrow⟩
    | succ j => simp at hb)).mono fun q w' ⟨hN, e', ⟨u, hu, hq⟩, hB⟩ => ?_
  obtain ⟨p', hp', hR, hf⟩ := hB 0 i _ rfl rfl
  have hf : base ≤ p'.1 := hf.elim (fun h => Nat.le_trans hbw h) fun ⟨q, hq, hqp⟩ => by simp at hq; subst hq; rw [← hqp]; exact hp
  obtain ⟨c, g1, g3, g6, g7⟩ := ls_of_rep hR
  rw [den_asI hp' hn] at hu
  cases hu
  refine ⟨_, hq, ⟨hl, .inr ⟨p'.1, p'.2, c, rfl, hf, g1, ?_, g7, g6, ?_⟩⟩, ⟨hN.os, hN.tape, hN.output, hN.size, fun b hb => hN.block b (Nat.lt_of_lt_of_le hb hbw) (by simp; omega)⟩⟩
  · have := congrArg List.length g3
    rw [List.length_take, hl] at this
    have h2 : N' * z ≤ p'.2 * z := by
      have : min (N' * z) c.size = N' * z := by simpa using this
      simp only at g6
      omega
    exact Nat.le_of_mul_le_mul_right h2 hz
  · rw [← hl]; exact g3
noncomputable def outB : Option (CV × Mem) → Option (Nat × Nat × Blk)
  | some (.sl i 0 n (some m) 0, M) => (M.at i).map fun b => (n, m, b)
  | _ => none
theorem outB_spec {r : Option (CV × Mem)} {n m : Nat} {b : Blk} (h : outB r = some (n, m, b)) : ∃ i M, r = some (.sl i 0 n (some m) 0, M) ∧ M.at i = some b := by
  unfold outB at h
  split at h
  · obtain ⟨b, hb, he⟩ := Option.map_eq_some_iff.1 h
    cases he
    exact ⟨_, _, rfl, hb⟩
  · cases h
/-- The slice is a row of exactly these cells. -/
theorem calls_ownB [Ctxt] {P : Program} (hm : P.follows .mixedOrders = true) (hk : KnownOK P) (hpin : Ctxt.pin = 0) (fuel : Nat) {f : FuncId} {args : List CV} {xs : List Value} {n : Nat} {cs : List CV} {t : TypeId} {z : Nat} {vs : List Value} {w : World}
    (h : outB (evalFn0 P (@evalC _ P fuel true) 0 f args ⟨0, []⟩) = some (n, n, ⟨cs, t, none⟩)) (hKw : Ctxt.K w) (hBw : Ctxt.B ≤ w.heap.size) (hn : n ≤ maxLen)
    (hx : denL (fun _ => none) args = some xs) (hv : denL (fun _ => none) cs = some vs) (hl : vs.length = n * z) :
    Calls P f xs.toArray w fun q w' => ∃ v, q = .returned v ∧ w'.ownsRow w.heap.size t z v n vs ∧ Below w.heap.size w w' := by
  have hpl : (plX [] : Env) = fun _ => none := by funext i; rfl
  obtain ⟨i, M, hr, hb⟩ := outB_spec h
  refine (calls_X hm hk hpin fuel [] [] (.sl i 0 n (some n) 0) [i] [some ⟨cs, t, none⟩] (by rw [show (⟨([] : List Blk).length, memOf 0 []⟩ : Mem) = ⟨0, []⟩ from rfl, hr, outF_one, hb]) (by simp) rfl hKw hBw (fun _ h => by cases h) (by rw [hpl]; exact hx) (fun i b h => by simp at h)).mono fun q w' ⟨hN, e', ⟨u, hu, hq⟩, hB⟩ => ?_
  obtain ⟨p, hp, hR, hf⟩ := hB 0 i _ rfl rfl
  have hf : w.heap.size ≤ p.1 := hf.elim id fun ⟨q, hq, _⟩ => by cases hq
  obtain ⟨c, us, fz, g1, g2, g3, g4, g5⟩ := hR.ofRow (by simp)
  rw [denL_mono (fun i p h => by cases h) _ _ hv] at g2
  cases g2
  have gz : fz = (0, 0) := by
    rcases g4 with g4 | g4
    · cases g4
    · exact g4
  subst gz
  have g5 : c.size = vs.length := g5
  have hu' : some (Value.slice (some ⟨p.1, 0, none⟩) n n) = some u := by
    rw [← hu]
    simp [den, hp]
  cases hu'
  exact ⟨_, hq, ⟨hl, .inr ⟨p.1, n, c, rfl, hf, g1, Nat.le_refl _, hn, by rw [g5, hl], by rw [← hl]; exact g3⟩⟩, hN.nil⟩
end Go.Ev
