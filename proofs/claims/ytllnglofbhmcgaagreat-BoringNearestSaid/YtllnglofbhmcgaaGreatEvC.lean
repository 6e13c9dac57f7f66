/- A closed call is worked out by a program of its own: addresses, slices, new blocks. -/
import Derived.Test.YtllnglofbhmcgaaGreatEvB
namespace Go.Ev

theorem den_ptr [Ctxt] {e : Env} {i off : Nat} {v : Value} (h : den e (.ptr i off) = some v) : ∃ p, e i = some p ∧ v = .pointer (some ⟨p.1, off, none⟩) := by
  simp only [den, Option.map_eq_some_iff] at h
  obtain ⟨p, hp, rfl⟩ := h; exact ⟨p, hp, rfl⟩
theorem den_sl [Ctxt] {e : Env} {i off len : Nat} {cap : Option Nat} {sub : Nat} {v : Value} (h : den e (.sl i off len cap sub) = some v) : ∃ p, e i = some p ∧ v = .slice (some ⟨p.1, off, none⟩) len (cap.getD (p.2 - sub)) := by
  simp only [den, Option.map_eq_some_iff] at h
  obtain ⟨p, hp, rfl⟩ := h; exact ⟨p, hp, rfl⟩
theorem den_clo [Ctxt] {e : Env} {u v : Value} (h : den e (.clo u) = some v) : v = u := by simpa [den, eq_comm] using h

/-! ### Fields and elements -/
def evalField (P : Program) (s : TypeId) (f : Nat) (i off : Nat) : Option CV :=
  match P.underlying s with
  | some (.struct fields) =>
    match fields[f]? with
    | none => none
    | some fd =>
      match P.info? fd.type with
      | none => none
      | some inf => cond (Nat.beq inf.size 0) none (some (.ptr i (off + fd.offset)))
  | _ => none

theorem evalField_run [Ctxt] {P : Program} {s : TypeId} {f i off : Nat} {v : CV} (h : evalField P s f i off = some v) {e : Env} {p : Nat × Nat} (hp : e i = some p) (w : World) :
    ∃ u, den e v = some u ∧ (Instr.fieldAt s (.pointer (some ⟨p.1, off, none⟩)) f).run P w = .ok u w := by
  unfold evalField at h
  split at h
  · rename_i fields hu
    split at h
    · cases h
    · rename_i fd hf
      split at h
      · cases h
      · rename_i inf hi
        rcases beq_cases inf.size 0 with ⟨h1, h2⟩ | ⟨h1, h2⟩
        · rw [h1] at h; cases h
        · rw [h1] at h
          simp at h; subst h
          refine ⟨_, by simp [den, hp]; rfl, ?_⟩
          simp [Instr.fieldAt, run_underlying hu, hf, Instr.sureAddr, fieldPlace, sizeOf, typeInfo, hi, h2, Addr.add_mid]
  · cases h

def evalIndex (P : Program) (t : TypeId) (x : CV) (k : Value) : Option CV :=
  match k with
  | .int _ n =>
    match x, P.underlying t with
    | .ptr i off, some (.array len elem) =>
      match P.info? elem with
      | none => none
      | some inf => cond (decide (0 ≤ n) && decide (n < (len : Int))) (some (.ptr i (off + n.toNat * inf.size))) none
    | .sl i off len _ _, some (.slice elem) =>
      match P.info? elem with
      | none => none
      | some inf => cond (decide (0 ≤ n) && decide (n < (len : Int))) (some (.ptr i (off + n.toNat * inf.size))) none
    | _, _ => none
  | _ => none

theorem evalIndex_run [Ctxt] {P : Program} {t : TypeId} {x : CV} {k : Value} {v : CV} (h : evalIndex P t x k = some v) {e : Env} {xv : Value} (hx : den e x = some xv) (w : World) :
    ∃ u, den e v = some u ∧ (Instr.indexAt t xv k).run P w = .ok u w := by
  unfold evalIndex at h
  split at h
  · rename_i kk n
    split at h
    · rename_i i off len elem hu
      obtain ⟨p, hp, rfl⟩ := den_ptr hx
      split at h
      · cases h
      · rename_i inf hi
        cases hc : (decide (0 ≤ n) && decide (n < (len : Int))) with
        | false => rw [hc] at h; cases h
        | true =>
          rw [hc] at h; simp at h; subst h
          simp only [Bool.and_eq_true, decide_eq_true_eq] at hc
          refine ⟨_, by simp [den, hp]; rfl, ?_⟩
          simp [Instr.indexAt, asIntOf, run_underlying hu, Instr.sureAddr, hc, sizeOf, typeInfo, hi, Addr.add_mid]
    · rename_i i off len cap sub elem hu
      obtain ⟨p, hp, rfl⟩ := den_sl hx
      split at h
      · cases h
      · rename_i inf hi
        cases hc : (decide (0 ≤ n) && decide (n < (len : Int))) with
        | false => rw [hc] at h; cases h
        | true =>
          rw [hc] at h; simp at h; subst h
          simp only [Bool.and_eq_true, decide_eq_true_eq] at hc
          refine ⟨_, by simp [den, hp]; rfl, ?_⟩
          simp [Instr.indexAt, asIntOf, run_underlying hu, hc, sizeOf, typeInfo, hi, Addr.add_mid]
    · cases h
  · cases h

/-! ### Slices of slices and of arrays -/
/-- A bound: absent, or a number that is the same in every world. -/
def bnd : Option CV → Option (Option Nat)
  | none => some none
  | some (.clo (.int _ n)) => cond (decide (0 ≤ n)) (some (some n.toNat)) none
  | some _ => none

/-- The bounds, where at least `len` is known of the capacity; `cap`: the capacity, where it is known. -/
def evalBounds (len : Nat) (cap : Option Nat) (lo hi mx : Option Nat) : Option (Nat × Nat × Option Nat) :=
  let c := cap.getD len
  let m := mx.getD c
  let h := hi.getD len
  let l := lo.getD 0
  cond (Nat.ble m c && Nat.ble h m && Nat.ble l h && (mx.isNone || hi.isSome)) (some (l, h, mx.or cap)) none

theorem bnd_run [Ctxt] {x : Option CV} {n : Option Nat} (h : bnd x = some n) {e : Env} {xv : Option Value} (hx : ∀ c, x = some c → ∃ u, xv = some u ∧ den e c = some u) (hn : x = none → xv = none) :
    (n = none ∧ xv = none) ∨ ∃ k m, n = some m ∧ xv = some (.int k (m : Int)) := by
  unfold bnd at h
  split at h
  · simp at h; exact .inl ⟨h.symm, hn rfl⟩
  · rename_i k z
    obtain ⟨u, rfl, hu⟩ := hx _ rfl
    cases hz : decide (0 ≤ z) with
    | false => rw [hz] at h; cases h
    | true =>
      rw [hz] at h; simp at h; subst h
      simp at hz
      have := den_clo hu
      subst this
      exact .inr ⟨k, z.toNat, rfl, by rw [Int.toNat_of_nonneg hz]⟩
  · cases h

theorem sliceBound_run {P : Program} (w : World) (k : IntKind) (m y : Nat) (c : BoundsCode) (h : m ≤ y) : (Instr.sliceBound (.int k (m : Int)) y c).run P w = .ok m w := by
  have : (m : Int) ≤ (y : Int) := by omega
  simp [Instr.sliceBound, asIntOf, this]

theorem evalBounds_run [Ctxt] {P : Program} {len K : Nat} {cap lo hi mx : Option Nat} {l h : Nat} {m : Option Nat} (hb : evalBounds len cap lo hi mx = some (l, h, m)) (hK : len ≤ K) (hc : ∀ c, cap = some c → K = c)
    {lv hv mv : Option Value} (h1 : (lo = none ∧ lv = none) ∨ ∃ k n, lo = some n ∧ lv = some (.int k (n : Int))) (h2 : (hi = none ∧ hv = none) ∨ ∃ k n, hi = some n ∧ hv = some (.int k (n : Int)))
    (h3 : (mx = none ∧ mv = none) ∨ ∃ k n, mx = some n ∧ mv = some (.int k (n : Int))) (b : Bool) (w : World) :
    (Instr.sliceBounds b len K lv hv mv).run P w = .ok (l, h, m.getD K) w ∧ l ≤ h ∧ h ≤ m.getD K ∧ (m.getD K ≤ K) ∧ h ≤ max len (m.getD K) := by
  unfold evalBounds at hb
  cases hcnd : (Nat.ble (mx.getD (cap.getD len)) (cap.getD len) && Nat.ble (hi.getD len) (mx.getD (cap.getD len)) && Nat.ble (lo.getD 0) (hi.getD len) && (mx.isNone || hi.isSome)) with
  | false => simp only [hcnd, cond_false] at hb; cases hb
  | true =>
    simp only [hcnd, cond_true, Option.some.injEq, Prod.mk.injEq] at hb
    obtain ⟨rfl, rfl, rfl⟩ := hb
    simp only [Bool.and_eq_true] at hcnd
    obtain ⟨⟨⟨c1, c2⟩, c3⟩, c4⟩ := hcnd
    have c1 := Nat.le_of_ble_eq_true c1
    have c2 := Nat.le_of_ble_eq_true c2
    have c3 := Nat.le_of_ble_eq_true c3
    have hcK : cap.getD len ≤ K := by
      cases cap with
      | none => exact hK
      | some c => simp [hc c rfl]
    have hmK : (mx.or cap).getD K ≤ K ∧ mx.getD (cap.getD len) ≤ (mx.or cap).getD K := by
      cases mx with
      | none =>
        cases cap with
        | none => simpa using hK
        | some c => have := hc c rfl; subst this; simp
      | some m => simp at c1 ⊢; omega
    refine ⟨?_, c3, by omega, hmK.1, by omega⟩
    rcases h3 with ⟨rfl, rfl⟩ | ⟨k3, n3, rfl, rfl⟩
    · rcases h2 with ⟨rfl, rfl⟩ | ⟨k2, n2, rfl, rfl⟩
      · rcases h1 with ⟨rfl, rfl⟩ | ⟨k1, n1, rfl, rfl⟩
        · cases cap with
          | none => simp [Instr.sliceBounds]
          | some c => have := hc c rfl; subst this; simp [Instr.sliceBounds]
        · simp at c3
          cases cap with
          | none => simp [Instr.sliceBounds, sliceBound_run w k1 n1 len _ c3]
          | some c => have := hc c rfl; subst this; simp [Instr.sliceBounds, sliceBound_run w k1 n1 len _ c3]
      · simp at c2 c3
        have c2' : n2 ≤ K := by omega
        rcases h1 with ⟨rfl, rfl⟩ | ⟨k1, n1, rfl, rfl⟩
        · cases cap with
          | none => simp [Instr.sliceBounds, sliceBound_run w k2 n2 K _ c2']
          | some c => have := hc c rfl; subst this; simp [Instr.sliceBounds, sliceBound_run w k2 n2 K _ c2']
        · simp at c3
          cases cap with
          | none => simp [Instr.sliceBounds, sliceBound_run w k2 n2 K _ c2', sliceBound_run w k1 n1 n2 _ c3]
          | some c => have := hc c rfl; subst this; simp [Instr.sliceBounds, sliceBound_run w k2 n2 K _ c2', sliceBound_run w k1 n1 n2 _ c3]
    · rcases h2 with ⟨rfl, rfl⟩ | ⟨k2, n2, rfl, rfl⟩
      · simp at c4
      · simp at c1 c2 c3
        have c1' : n3 ≤ K := by omega
        rcases h1 with ⟨rfl, rfl⟩ | ⟨k1, n1, rfl, rfl⟩
        · simp [Instr.sliceBounds, sliceBound_run w k3 n3 K _ c1', sliceBound_run w k2 n2 n3 _ c2]
        · simp at c3
          simp [Instr.sliceBounds, sliceBound_run w k3 n3 K _ c1', sliceBound_run w k2 n2 n3 _ c2, sliceBound_run w k1 n1 n2 _ c3]

/-- Whether at least `len` elements of size `z` are known to fit into the block's capacity. -/
noncomputable def fitsCap (M : Mem) (i len : Nat) (sub : Nat) : Bool :=
  match M.at i with
  | none => false
  | some b =>
    match b.row with
    | none => false
    | some z => Nat.blt 0 z && Nat.ble ((len + sub) * z) b.cs.length

theorem fitsCap_spec [Ctxt] {M : Mem} {i len sub : Nat} (h : fitsCap M i len sub = true) {e : Env} {w : World} (hR : Rep e M w) {p : Nat × Nat} (hp : e i = some p) : len + sub ≤ p.2 := by
  unfold fitsCap at h
  split at h
  · cases h
  · rename_i b hb
    split at h
    · cases h
    · rename_i z hz
      simp only [Bool.and_eq_true] at h
      obtain ⟨h1, h2⟩ := h
      have h1 : 0 < z := Nat.le_of_ble_eq_true h1
      have h2 := Nat.le_of_ble_eq_true h2
      obtain ⟨q, hq, hB⟩ := hR.blk i b hb
      rw [hp] at hq; cases hq
      obtain ⟨c, vs, _, _, h3, _, h5, _, _, h6⟩ := (hB.ofRow (by rw [hz]; intro h0; simp at h0; omega)).cells
      rw [hz] at h6
      have h6 := h6 (by omega)
      have hl := denL_length h3
      have : (len + sub) * z ≤ p.2 * z := by omega
      exact Nat.le_of_mul_le_mul_right this h1

noncomputable def evalSlice (P : Program) (M : Mem) (t : TypeId) (x : CV) (lo hi mx : Option CV) : Option CV :=
  match bnd lo, bnd hi, bnd mx with
  | some lo, some hi, some mx =>
    match x, P.underlying t with
    | .sl i off len cap sub, some (.slice elem) =>
      match P.info? elem with
      | none => none
      | some inf =>
        match cap with
        | some c =>
          cond (Nat.ble len c)
            (match evalBounds len (some c) lo hi mx with
            | some (l, h, some m) => some (.sl i (cond (Nat.beq m l) off (off + l * inf.size)) (h - l) (some (m - l)) 0)
            | _ => none) none
        | none =>
          cond (fitsCap M i len sub)
            (match evalBounds len none lo hi mx with
            | some (l, h, some m) => some (.sl i (cond (Nat.beq m l) off (off + l * inf.size)) (h - l) (some (m - l)) 0)
            | some (l, h, none) => cond (Nat.beq l 0) (some (.sl i off h none sub)) (cond (Nat.blt l len) (some (.sl i (off + l * inf.size) (h - l) none (sub + l))) none)
            | none => none) none
    | .ptr i off, some (.array n elem) =>
      match P.info? elem with
      | none => none
      | some inf =>
        match mx, evalBounds n (some n) lo hi none with
        | none, some (l, h, some m) => some (.sl i (cond (Nat.beq m l) off (off + l * inf.size)) (h - l) (some (m - l)) 0)
        | _, _ => none
    | _, _ => none
  | _, _, _ => none

theorem cond_beq [Ctxt] (m l : Nat) {α : Type} (x y : α) : (cond (Nat.beq m l) x y) = if m = l then x else y := by
  rcases beq_cases m l with ⟨h, e⟩ | ⟨h, e⟩
  · rw [h, if_pos e]; rfl
  · rw [h, if_neg e]; rfl

theorem evalSlice_run [Ctxt] {P : Program} {M : Mem} {t : TypeId} {x : CV} {lo hi mx : Option CV} {v : CV} (h : evalSlice P M t x lo hi mx = some v) {e : Env} {w : World} (hR : Rep e M w) {xv : Value} (hx : den e x = some xv)
    {lv hv mv : Option Value} (hl : ∀ c, lo = some c → ∃ u, lv = some u ∧ den e c = some u) (hl' : lo = none → lv = none) (hh : ∀ c, hi = some c → ∃ u, hv = some u ∧ den e c = some u) (hh' : hi = none → hv = none)
    (hm : ∀ c, mx = some c → ∃ u, mv = some u ∧ den e c = some u) (hm' : mx = none → mv = none) :
    ∃ u, den e v = some u ∧ (Instr.sliceAt t xv lv hv mv).run P w = .ok u w := by
  unfold evalSlice at h
  split at h
  · rename_i lo' hi' mx' b1 b2 b3
    have d1 := bnd_run b1 hl hl'
    have d2 := bnd_run b2 hh hh'
    have d3 := bnd_run b3 hm hm'
    split at h
    · rename_i i off len cap sub elem hu
      obtain ⟨p, hp, rfl⟩ := den_sl hx
      split at h
      · cases h
      · rename_i inf hi
        split at h
        · rename_i c
          rcases Nat.lt_or_ge c len with hlc | hlc
          · have : Nat.ble len c = false := by cases hb : Nat.ble len c with | false => rfl | true => exact absurd (Nat.le_of_ble_eq_true hb) (by omega)
            rw [this] at h; cases h
          · rw [Nat.ble_eq_true_of_le hlc] at h
            simp only [cond_true] at h
            split at h
            · rename_i l hh m hb
              obtain ⟨r1, r2, r3, r4, _⟩ := evalBounds_run (P := P) hb hlc (fun c' hc' => by cases hc'; rfl) d1 d2 d3 true w
              simp at h; subst h
              simp only [Option.getD_some] at r1 r3
              refine ⟨_, by simp [den, hp]; rfl, ?_⟩
              simp only [Instr.sliceAt, Instr.slice, Sem.run_bind, run_underlying hu, Result.andThen_ok, Option.getD_some, r1, sizeOf, typeInfo]
              simp only [program, Sem.run, Result.andThen_ok, hi, Sem.run_pure, cond_beq]
              split <;> simp [Addr.add_mid]
            · cases h
        · cases hf : fitsCap M i len sub with
          | false => rw [hf] at h; cases h
          | true =>
            rw [hf] at h
            simp only [cond_true] at h
            have hcap := fitsCap_spec hf hR hp
            split at h
            · rename_i l hh m hb
              obtain ⟨r1, r2, r3, r4, _⟩ := evalBounds_run (P := P) (K := p.2 - sub) hb (by omega) (fun c' hc' => by cases hc') d1 d2 d3 true w
              simp at h; subst h
              simp only [Option.getD_some] at r1 r3
              refine ⟨_, by simp [den, hp]; rfl, ?_⟩
              simp only [Instr.sliceAt, Instr.slice, Sem.run_bind, run_underlying hu, Result.andThen_ok, Option.getD_none, r1, sizeOf, typeInfo]
              simp only [program, Sem.run, Result.andThen_ok, hi, Sem.run_pure, cond_beq]
              split <;> simp [Addr.add_mid]
            · rename_i l hh hb
              obtain ⟨r1, r2, r3, r4, r5⟩ := evalBounds_run (P := P) (K := p.2 - sub) hb (by omega) (fun c' hc' => by cases hc') d1 d2 d3 true w
              simp only [Option.getD_none] at r1 r3
              rcases beq_cases l 0 with ⟨h1, h2⟩ | ⟨h1, h2⟩
              · rw [h1] at h; simp at h; subst h; subst h2
                refine ⟨_, by simp [den, hp]; rfl, ?_⟩
                simp only [Instr.sliceAt, Instr.slice, Sem.run_bind, run_underlying hu, Result.andThen_ok, Option.getD_none, r1, sizeOf, typeInfo]
                simp only [program, Sem.run, Result.andThen_ok, hi, Sem.run_pure]
                split <;> simp [Addr.add_mid]
              · rw [h1] at h
                simp only [cond_false] at h
                cases hbl : Nat.blt l len with
                | false => rw [hbl] at h; cases h
                | true =>
                  rw [hbl] at h; simp at h; subst h
                  have hbl : l < len := Nat.le_of_ble_eq_true hbl
                  refine ⟨_, by simp [den, hp]; rfl, ?_⟩
                  simp only [Instr.sliceAt, Instr.slice, Sem.run_bind, run_underlying hu, Result.andThen_ok, Option.getD_none, r1, sizeOf, typeInfo]
                  simp only [program, Sem.run, Result.andThen_ok, hi, Sem.run_pure]
                  rw [if_neg (by omega)]
                  simp [Addr.add_mid, Nat.sub_sub]
            · cases h
    · rename_i i off n elem hu
      obtain ⟨p, hp, rfl⟩ := den_ptr hx
      split at h
      · cases h
      · rename_i inf hi
        split at h
        · rename_i l hh m hb
          have d4 : ((none : Option Nat) = none ∧ (none : Option Value) = none) ∨ ∃ (k : IntKind) (n : Nat), (none : Option Nat) = some n ∧ (none : Option Value) = some (.int k (n : Int)) := .inl ⟨rfl, rfl⟩
          have hmv : mv = none := by
            rcases d3 with ⟨_, h⟩ | ⟨_, _, h, _⟩
            · exact h
            · cases h
          subst hmv
          obtain ⟨r1, r2, r3, r4, _⟩ := evalBounds_run (P := P) hb (Nat.le_refl _) (fun c' hc' => by cases hc'; rfl) d1 d2 d4 false w
          simp at h; subst h
          simp only [Option.getD_some] at r1 r3
          refine ⟨_, by simp [den, hp]; rfl, ?_⟩
          simp only [Instr.sliceAt, Instr.sureAddr, Sem.run_bind, run_underlying hu, Result.andThen_ok, Sem.run_pure, r1, sizeOf, typeInfo]
          simp only [program, Sem.run, Result.andThen_ok, hi, Sem.run_pure, cond_beq]
          split <;> simp [Addr.add_mid]
        · cases h
    · cases h
  · cases h

end Go.Ev
