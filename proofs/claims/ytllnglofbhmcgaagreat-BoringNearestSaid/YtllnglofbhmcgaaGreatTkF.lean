/- Pieces of code over one row whose list is a symbol. -/
import Derived.Test.YtllnglofbhmcgaaGreatTkE
namespace Go.Ev
open Go.RowKit
abbrev abB (y : Tm) (t : TypeId) (z : Nat) : Blk := ⟨[.ab y t z], 0, some 0⟩
theorem rep_of_ls {C : Ctxt} {b : Tm × TypeId × Nat} {p : Nat × Nat} {w : World} {e : Env} (h : LsAt C.ab.lst b p w) : @RepB C e (abB b.1 b.2.1 b.2.2) p w := by
  obtain ⟨c, h1, h2, h3, h4⟩ := h
  exact @ab_of C e b.1 0 b.2.1 b.2.2 p w c h1 h2 h3 h4
theorem ls_of_rep {C : Ctxt} {y : Tm} {t : TypeId} {z : Nat} {p : Nat × Nat} {w : World} {e : Env} (h : @RepB C e (abB y t z) p w) : LsAt C.ab.lst (y, t, z) p w := by
  rcases h with ⟨_, _, _, _, h2, _⟩ | ⟨_, c, h2, _, h3⟩
  · simp [denL, den] at h2
  · simp at h2; subst h2
    exact h3
theorem code_R [Ctxt] {P : Program} (hm : P.follows .mixedOrders = true) (hk : KnownOK P) (hpin : Ctxt.pin = 0) (fuel : Nat) {c : Code} {n : Nat} (tl : List (Nat × CV)) (y : Tm) (t : TypeId) (z : Nat) (ex : Ex) (want : List (Nat × CV)) (i' : Nat) (y' : Tm) {a : Act} {w : World} (p : Nat × Nat)
    (h : ∀ u, outC (want.map (·.1)) [i'] (evalC P fuel true 0 c (frOf n tl u) ⟨1, memOf 0 [abB y t z]⟩) = some (ex, want.map (·.2), [some (abB y' t z)], [], n))
    (hsz : a.tmps.size = n) (hdf : a.defers = []) (htl : ∀ x ∈ tl, den (plX [p]) x.2 = some (a.tmps.getD x.1 undef)) (hrow : LsAt Ctxt.ab.lst (y, t, z) p w) (hKw : Ctxt.K w) (hBw : Ctxt.B ≤ w.heap.size) (hpB : Ctxt.B ≤ p.1)
    {Q : Exit → Act → World → Prop} (hQ : ∀ e' a' w' p', a'.tmps.size = n → a'.defers = [] → (∀ x ∈ want, den e' x.2 = some (a'.tmps.getD x.1 undef)) → e' 0 = some p → e' i' = some p' → LsAt Ctxt.ab.lst (y', t, z) p' w' → Ctxt.B ≤ p'.1 → (w.heap.size ≤ p'.1 ∨ p'.1 = p.1) → Near [p.1] w w' → Q ex.to a' w') : c.wp P Q a w := by
  refine code_X hm hk hpin fuel tl [abB y t z] ex (want.map (·.1)) [i'] (want.map (·.2)) [some (abB y' t z)] [p] h (by simp) rfl hKw hBw (fun q hq => by simp at hq; subst hq; exact hpB) hsz hdf htl (fun i b hb => ?_) fun e' a' w' h1 h2 h3 h4 h6 _ h5 => ?_
  · cases i with
    | zero => simp at hb; subst hb; exact ⟨p, rfl, rep_of_ls hrow⟩
    | succ i => simp at hb
  · obtain ⟨p', g1, g2, g3, g4⟩ := h4 0 i' (abB y' t z) rfl rfl
    refine hQ e' a' w' p' h1 h2 (fun x hx => ?_) (h6 0 p rfl) g1 (ls_of_rep g2) g3 (g4.imp id fun ⟨q, hq, hqp⟩ => by simp at hq; subst hq; exact hqp.symm) h5
    obtain ⟨j, hj⟩ := List.getElem?_of_mem hx
    exact h3 j x.1 x.2 (by simp [hj]) (by simp [hj])
/-- A piece that makes the first row. -/
theorem code_M [Ctxt] {P : Program} (hm : P.follows .mixedOrders = true) (hk : KnownOK P) (hpin : Ctxt.pin = 0) (fuel : Nat) {c : Code} {n : Nat} (tl : List (Nat × CV)) (t : TypeId) (z : Nat) (ex : Ex) (want : List (Nat × CV)) (i' : Nat) (y' : Tm) {tv : List (Nat × Value)} {a : Act} {w : World}
    (h : ∀ u, outC (want.map (·.1)) [i'] (evalC P fuel true 0 c (frOf n tl u) ⟨0, []⟩) = some (ex, want.map (·.2), [some (abB y' t z)], [], n))
    (ht : denTs tl = some tv) (hs : Tmps n tv a) (hKw : Ctxt.K w) (hBw : Ctxt.B ≤ w.heap.size)
    {Q : Exit → Act → World → Prop} (hQ : ∀ e' a' w' p', a'.tmps.size = n → a'.defers = [] → (∀ x ∈ want, den e' x.2 = some (a'.tmps.getD x.1 undef)) → e' i' = some p' → LsAt Ctxt.ab.lst (y', t, z) p' w' → w.heap.size ≤ p'.1 → Below w.heap.size w w' → Q ex.to a' w') : c.wp P Q a w := by
  refine code_X hm hk hpin fuel tl [] ex (want.map (·.1)) [i'] (want.map (·.2)) [some (abB y' t z)] [] h List.nodup_nil rfl hKw hBw (fun _ h => by cases h) hs.size hs.defers (fun x hx => ?_) (fun i b h => by simp at h) fun e' a' w' h1 h2 h3 h4 _ _ h5 => ?_
  · obtain ⟨v, g1, g2⟩ := denTs_in ht x hx
    rw [hs.tmps _ g2]
    exact den_mono (fun i p h => by cases h) _ _ g1
  · obtain ⟨p', g1, g2, g3, g4⟩ := h4 0 i' (abB y' t z) rfl rfl
    refine hQ e' a' w' p' h1 h2 (fun x hx => ?_) g1 (ls_of_rep g2) (g4.elim id fun ⟨q, hq, _⟩ => by cases hq) h5.nil
    obtain ⟨j, hj⟩ := List.getElem?_of_mem hx
    exact h3 j x.1 x.2 (by simp [hj]) (by simp [hj])
theorem den_asI [Ctxt] {e : Env} {i : Nat} {n : Tm} {p : Nat × Nat} {m : Nat} (h : e i = some p) (hm : asN (Ctxt.sym n).v = some m) : den e (.as i n) = some (.slice (some ⟨p.1, 0, none⟩) m p.2) := by
  simp [den, h, hm]
/-- What a frame holds, where it is known what the wanted values denote. -/
theorem tmps_of [Ctxt] {e : Env} {n : Nat} {a : Act} {want : List (Nat × CV)} {tv : List (Nat × Value)} (h1 : a.tmps.size = n) (h2 : a.defers = []) (h3 : ∀ x ∈ want, den e x.2 = some (a.tmps.getD x.1 undef)) (h4 : want.map (fun x => (den e x.2).map fun v => (x.1, v)) = tv.map some) : Tmps n tv a := by
  refine ⟨h1, h2, fun x hx => ?_⟩
  have hm : some x ∈ want.map (fun x => (den e x.2).map fun v => (x.1, v)) := by rw [h4]; exact List.mem_map_of_mem hx
  obtain ⟨y, hy, hxy⟩ := List.mem_map.1 hm
  obtain ⟨v, hv, he⟩ := Option.map_eq_some_iff.1 hxy
  have := h3 y hy
  rw [hv] at this
  cases this
  cases he
  rfl
/-- The same, from a frame to values. -/
theorem tmps_in [Ctxt] {e : Env} {n : Nat} {a : Act} {tl : List (Nat × CV)} {tv : List (Nat × Value)} (h : Tmps n tv a) (h4 : tl.map (fun x => (den e x.2).map fun v => (x.1, v)) = tv.map some) : ∀ x ∈ tl, den e x.2 = some (a.tmps.getD x.1 undef) := by
  intro x hx
  have hm : (den e x.2).map (fun v => (x.1, v)) ∈ tv.map some := by rw [← h4]; exact List.mem_map_of_mem (f := fun x => (den e x.2).map fun v => (x.1, v)) hx
  obtain ⟨y, hy, hxy⟩ := List.mem_map.1 hm
  cases hv : den e x.2 with
  | none => rw [hv] at hxy; cases hxy
  | some v =>
    rw [hv] at hxy
    simp at hxy
    subst hxy
    rw [h.tmps _ hy]
end Go.Ev
