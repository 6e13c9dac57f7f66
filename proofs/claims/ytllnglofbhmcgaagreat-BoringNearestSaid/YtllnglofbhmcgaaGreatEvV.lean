/- Rows whose arguments are made of integers: opened, and read again behind the call. -/
import Derived.Test.YtllnglofbhmcgaaGreatEvU
import Derived.WideShapes
import Derived.Carry
namespace Go.Ev
open Go.RowKit Go.WideShapes Go.ChangeShapes
variable {P : Program} {H : Type} {enc : TypeId × Value → H}

/-- The shapes of parameters. -/
def parSh (P : Program) : List TypeId → Option (List Sh)
  | [] => some []
  | t :: r =>
    match P.underlying t with
    | some (.int k) => (parSh P r).map (.i k :: ·)
    | some (.struct _) => match flatT P 20 t with | some ks => cond (Nat.beq (P.cellsOf t) ks.length) ((parSh P r).map (.agg ks :: ·)) none | none => none
    | _ => none

theorem valK_of_map : ∀ {l : KI} {ks : List IntKind}, l.map (·.1) = ks → valK ks (l.map (·.2)) = l.V
  | [], _, h => by subst h; rfl
  | p :: r, _, h => by subst h; simp only [List.map_cons, valK, KI.V, valK_of_map (l := r) rfl]
theorem InRng_of_wf : ∀ {l : KI} {ks : List IntKind}, l.map (·.1) = ks → l.wf → InRng ks (l.map (·.2))
  | [], _, h, _ => by subst h; exact trivial
  | p :: r, _, h, hw => by subst h; exact ⟨wrap_of_wf (hw p (by simp)), InRng_of_wf rfl fun q hq => hw q (by simp [hq])⟩

theorem InRng_app : ∀ {ks ls : List IntKind} {xs ys : List Int}, InRng ks xs → InRng ls ys → InRng (ks ++ ls) (xs ++ ys) := InRng_append

/-- **Arguments of integers, opened.** -/
theorem open_all {W : World} {base b0 : Nat} {spare : Nat → Bool} {held : Bool} : ∀ {ts : List TypeId} {sh : List Sh} {vs : List Value} {ds : List (DataW H)} {p : List MemPlace}, parSh P ts = some sh →
    (∀ (j : Nat) t v, ts[j]? = some t → vs[j]? = some v → Value.okWide P W .any b0 t v) → DataW.TrodAll enc P W base spare held ts vs ds p → ∃ zs, vs = shV sh zs ∧ InRng (shK sh) zs ∧ p = []
  | [], sh, vs, ds, p, h, _, hA => by
    simp [parSh] at h; subst h
    cases vs with
    | nil => cases ds with
      | nil => exact ⟨[], rfl, trivial, hA⟩
      | cons _ _ => exact hA.elim
    | cons _ _ => exact hA.elim
  | t :: ts, sh, [], ds, p, h, _, hA => by exact hA.elim
  | t :: ts, sh, v :: vs, [], p, h, _, hA => by exact hA.elim
  | t :: ts, sh, v :: vs, d :: ds, p, h, hval, hA => by
    obtain ⟨p1, p2, h1, h2, rfl⟩ := hA
    obtain ⟨fuel, hf⟩ := h1
    have hv := hval 0 t v rfl rfl
    have hr := fun (j : Nat) t' v' (e1 : ts[j]? = some t') (e2 : vs[j]? = some v') => hval (j + 1) t' v' (by simpa using e1) (by simpa using e2)
    simp only [parSh] at h
    split at h
    · rename_i k hu
      obtain ⟨s, hs, rfl⟩ := Option.map_eq_some_iff.1 h
      obtain ⟨n, rfl⟩ := okWide_int hu hv
      obtain ⟨n', hc, hx, hn⟩ := DataW.trod_int hu hf
      simp [Value.cells] at hc
      subst hc
      simp only [Prod.mk.injEq] at hx
      obtain ⟨zs, i1, i2, i3⟩ := open_all hs hr h2
      refine ⟨n :: zs, by rw [shV, i1]; rfl, ⟨wrap_of_wf hn, i2⟩, by rw [hx.2, i3]; rfl⟩
    · rename_i fs hu
      split at h
      · rename_i ks hk
        rw [Bool.cond_eq_ite] at h
        split at h
        · obtain ⟨s, hs, rfl⟩ := Option.map_eq_some_iff.1 h
          obtain ⟨cs, rfl, hsz⟩ := okWide_struct hu hv
          obtain ⟨l, l1, l2, l3, l4⟩ := trod_flat 20 t ks hk fuel _ _ hf
          obtain ⟨zs, i1, i2, i3⟩ := open_all hs hr h2
          have hl : (l.map (·.2)).length = ks.length := by rw [← l1]; simp
          refine ⟨l.map (·.2) ++ zs, ?_, InRng_append (InRng_of_wf l1 l2) i2, ?_⟩
          · rw [shV, List.take_append_of_le_length (by omega), List.take_of_length_le (by omega), List.drop_append, List.drop_of_length_le (by omega), hl, Nat.sub_self]
            simp only [List.nil_append, List.drop_zero]
            rw [valK_of_map l1, i1]
            congr 2
            apply Array.ext'
            simpa [Value.cells] using l3
          · simp only at l4
            rw [l4, i3]; rfl
        · cases h
      · cases h
    · cases h

/-- Types that can be read again behind the call. -/
def readsAll (P : Program) (ts : List TypeId) : Bool := ts.all fun t => P.readableRec t && decide (t < P.types.size)

theorem trodAll_below (hl : laidOutB P = true) {W W' : World} (hb : Below W.heap.size W W') : ∀ {ts : List TypeId} {vs : List Value} {ds : List (DataW H)} {p : List MemPlace}, readsAll P ts = true → p = [] →
    DataW.TrodAll enc P W 0 (fun _ => true) true ts vs ds p → DataW.TrodAll enc P W' 0 (fun b => decide (b < W.heap.size)) true ts vs ds p
  | [], vs, ds, p, _, _, h => by
    cases vs with
    | nil => cases ds with
      | nil => exact h
      | cons _ _ => exact h.elim
    | cons _ _ => exact h.elim
  | t :: ts, [], _, _, _, _, h => h.elim
  | t :: ts, _ :: _, [], _, _, _, h => h.elim
  | t :: ts, v :: vs, d :: ds, p, hr, hp, h => by
    obtain ⟨p1, p2, h1, h2, rfl⟩ := h
    have hp1 : p1 = [] := (List.append_eq_nil_iff.1 hp).1
    have hp2 : p2 = [] := (List.append_eq_nil_iff.1 hp).2
    simp only [readsAll, List.all_cons, Bool.and_eq_true, decide_eq_true_eq] at hr
    refine ⟨p1, p2, Below.trod hl hr.1.1 hr.1.2 h1 hb (fun x hx => by rw [hp1] at hx; cases hx), trodAll_below hl hb (by simpa [readsAll] using hr.2) hp2 h2, rfl⟩

theorem trodAll_len {W : World} {base : Nat} {spare : Nat → Bool} {held : Bool} : ∀ {ts : List TypeId} {vs : List Value} {ds : List (DataW H)} {p : List MemPlace}, DataW.TrodAll enc P W base spare held ts vs ds p → ds.length = ts.length
  | [], vs, ds, p, h => by
    cases vs with
    | nil => cases ds with
      | nil => rfl
      | cons _ _ => exact h.elim
    | cons _ _ => exact h.elim
  | t :: ts, [], _, _, h => h.elim
  | t :: ts, _ :: _, [], _, h => h.elim
  | t :: ts, v :: vs, d :: ds, p, h => by
    obtain ⟨_, _, _, h2, _⟩ := h
    simp [trodAll_len h2]

theorem len1 {α : Type} {l : List α} (hl : l.length = 1) : ∃ x0, l = [x0] := by
  match l, hl with
  | [x0], _ => exact ⟨x0, rfl⟩
theorem len2 {α : Type} {l : List α} (hl : l.length = 2) : ∃ x0 x1, l = [x0, x1] := by
  match l, hl with
  | [x0, x1], _ => exact ⟨x0, x1, rfl⟩
theorem len3 {α : Type} {l : List α} (hl : l.length = 3) : ∃ x0 x1 x2, l = [x0, x1, x2] := by
  match l, hl with
  | [x0, x1, x2], _ => exact ⟨x0, x1, x2, rfl⟩
theorem len4 {α : Type} {l : List α} (hl : l.length = 4) : ∃ x0 x1 x2 x3, l = [x0, x1, x2, x3] := by
  match l, hl with
  | [x0, x1, x2, x3], _ => exact ⟨x0, x1, x2, x3, rfl⟩
theorem len5 {α : Type} {l : List α} (hl : l.length = 5) : ∃ x0 x1 x2 x3 x4, l = [x0, x1, x2, x3, x4] := by
  match l, hl with
  | [x0, x1, x2, x3, x4], _ => exact ⟨x0, x1, x2, x3, x4, rfl⟩
theorem len6 {α : Type} {l : List α} (hl : l.length = 6) : ∃ x0 x1 x2 x3 x4 x5, l = [x0, x1, x2, x3, x4, x5] := by
  match l, hl with
  | [x0, x1, x2, x3, x4, x5], _ => exact ⟨x0, x1, x2, x3, x4, x5, rfl⟩
theorem len7 {α : Type} {l : List α} (hl : l.length = 7) : ∃ x0 x1 x2 x3 x4 x5 x6, l = [x0, x1, x2, x3, x4, x5, x6] := by
  match l, hl with
  | [x0, x1, x2, x3, x4, x5, x6], _ => exact ⟨x0, x1, x2, x3, x4, x5, x6, rfl⟩
theorem len8 {α : Type} {l : List α} (hl : l.length = 8) : ∃ x0 x1 x2 x3 x4 x5 x6 x7, l = [x0, x1, x2, x3, x4, x5, x6, x7] := by
  match l, hl with
  | [x0, x1, x2, x3, x4, x5, x6, x7], _ => exact ⟨x0, x1, x2, x3, x4, x5, x6, x7, rfl⟩
theorem len9 {α : Type} {l : List α} (hl : l.length = 9) : ∃ x0 x1 x2 x3 x4 x5 x6 x7 x8, l = [x0, x1, x2, x3, x4, x5, x6, x7, x8] := by
  match l, hl with
  | [x0, x1, x2, x3, x4, x5, x6, x7, x8], _ => exact ⟨x0, x1, x2, x3, x4, x5, x6, x7, x8, rfl⟩
theorem len10 {α : Type} {l : List α} (hl : l.length = 10) : ∃ x0 x1 x2 x3 x4 x5 x6 x7 x8 x9, l = [x0, x1, x2, x3, x4, x5, x6, x7, x8, x9] := by
  match l, hl with
  | [x0, x1, x2, x3, x4, x5, x6, x7, x8, x9], _ => exact ⟨x0, x1, x2, x3, x4, x5, x6, x7, x8, x9, rfl⟩
theorem len11 {α : Type} {l : List α} (hl : l.length = 11) : ∃ x0 x1 x2 x3 x4 x5 x6 x7 x8 x9 x10, l = [x0, x1, x2, x3, x4, x5, x6, x7, x8, x9, x10] := by
  match l, hl with
  | [x0, x1, x2, x3, x4, x5, x6, x7, x8, x9, x10], _ => exact ⟨x0, x1, x2, x3, x4, x5, x6, x7, x8, x9, x10, rfl⟩
theorem len12 {α : Type} {l : List α} (hl : l.length = 12) : ∃ x0 x1 x2 x3 x4 x5 x6 x7 x8 x9 x10 x11, l = [x0, x1, x2, x3, x4, x5, x6, x7, x8, x9, x10, x11] := by
  match l, hl with
  | [x0, x1, x2, x3, x4, x5, x6, x7, x8, x9, x10, x11], _ => exact ⟨x0, x1, x2, x3, x4, x5, x6, x7, x8, x9, x10, x11, rfl⟩
theorem len13 {α : Type} {l : List α} (hl : l.length = 13) : ∃ x0 x1 x2 x3 x4 x5 x6 x7 x8 x9 x10 x11 x12, l = [x0, x1, x2, x3, x4, x5, x6, x7, x8, x9, x10, x11, x12] := by
  match l, hl with
  | [x0, x1, x2, x3, x4, x5, x6, x7, x8, x9, x10, x11, x12], _ => exact ⟨x0, x1, x2, x3, x4, x5, x6, x7, x8, x9, x10, x11, x12, rfl⟩
theorem len14 {α : Type} {l : List α} (hl : l.length = 14) : ∃ x0 x1 x2 x3 x4 x5 x6 x7 x8 x9 x10 x11 x12 x13, l = [x0, x1, x2, x3, x4, x5, x6, x7, x8, x9, x10, x11, x12, x13] := by
  match l, hl with
  | [x0, x1, x2, x3, x4, x5, x6, x7, x8, x9, x10, x11, x12, x13], _ => exact ⟨x0, x1, x2, x3, x4, x5, x6, x7, x8, x9, x10, x11, x12, x13, rfl⟩
theorem len15 {α : Type} {l : List α} (hl : l.length = 15) : ∃ x0 x1 x2 x3 x4 x5 x6 x7 x8 x9 x10 x11 x12 x13 x14, l = [x0, x1, x2, x3, x4, x5, x6, x7, x8, x9, x10, x11, x12, x13, x14] := by
  match l, hl with
  | [x0, x1, x2, x3, x4, x5, x6, x7, x8, x9, x10, x11, x12, x13, x14], _ => exact ⟨x0, x1, x2, x3, x4, x5, x6, x7, x8, x9, x10, x11, x12, x13, x14, rfl⟩
theorem len16 {α : Type} {l : List α} (hl : l.length = 16) : ∃ x0 x1 x2 x3 x4 x5 x6 x7 x8 x9 x10 x11 x12 x13 x14 x15, l = [x0, x1, x2, x3, x4, x5, x6, x7, x8, x9, x10, x11, x12, x13, x14, x15] := by
  match l, hl with
  | [x0, x1, x2, x3, x4, x5, x6, x7, x8, x9, x10, x11, x12, x13, x14, x15], _ => exact ⟨x0, x1, x2, x3, x4, x5, x6, x7, x8, x9, x10, x11, x12, x13, x14, x15, rfl⟩

end Go.Ev
