/- A closed call is worked out by a program of its own: equality by kind, keys of maps. -/
import Derived.Test.YtllnglofbhmcgaaGreatEvX
import Derived.LaidEql
import Derived.MapKept
set_option linter.unusedSimpArgs false
namespace Go.Ev
open Go.RowKit
variable {P : Program}

def aggL : CV → Option (List CV)
  | .agg l => some l
  | .clo (.agg vs) => some (vs.toList.map .clo)
  | _ => none

theorem aggL_den [Ctxt] {x : CV} {l : List CV} (h : aggL x = some l) {e : Env} {v : Value} (hv : den e x = some v) : ∃ xs : Array Value, v = .agg xs ∧ denL e l = some xs.toList := by
  unfold aggL at h
  split at h
  · simp at h; subst h
    simp only [den, Option.map_eq_some_iff] at hv
    obtain ⟨xs, hx, rfl⟩ := hv
    exact ⟨xs.toArray, rfl, by simpa using hx⟩
  · rename_i vs
    simp at h; subst h
    simp [den] at hv; subst hv
    exact ⟨vs, rfl, denL_clo e _⟩
  · cases h

/-- Equality, field by field. -/
noncomputable def eqFs (P : Program) (g : TypeId → CV → CV → Option Bool) (xs ys : List CV) (l : List Field) : Option Bool :=
  List.rec (some true) (fun f _ ih => cond (f.name != "_")
    (match partC P f.type xs f.offset, partC P f.type ys f.offset with
    | some a, some b => match g f.type a b with | some true => ih | some false => some false | none => none
    | _, _ => none) none) l
noncomputable def eqIs (P : Program) (g : TypeId → CV → CV → Option Bool) (e : TypeId) (n : Nat) (xs ys : List CV) (l : List Nat) : Option Bool :=
  List.rec (some true) (fun i _ ih =>
    match partC P e xs (i * n), partC P e ys (i * n) with
    | some a, some b => match g e a b with | some true => ih | some false => some false | none => none
    | _, _ => none) l

/-- A block of cells that nothing holds. -/
noncomputable def openB (M : Mem) (i : Nat) : Bool := match M.at i with | some b => rowOK b.row | none => false
noncomputable def eqPtr (P : Program) (M : Mem) (elem : TypeId) (i o j p : Nat) : Option Bool :=
  match P.info? elem with
  | none => none
  | some inf => cond (Nat.beq inf.size 0) none (cond (Nat.beq i j && Nat.beq o p) (some true) (cond (openB M i && openB M j) (some false) none))

noncomputable def eqStep (P : Program) (M : Mem) (g : TypeId → CV → CV → Option Bool) (t : TypeId) (x y : CV) : Option Bool :=
    match P.underlying t with
    | some .bool => match x, y with | .clo (.bool a), .clo (.bool b) => some (cond a b (!b)) | _, _ => none
    | some (.int _) => match x, y with | .clo (.int k a), .clo (.int k' b) => cond (Nat.beq (kindIx k) (kindIx k')) (some (intEq a b)) none | _, _ => none
    | some .string => match x, y with | .clo (.string a), .clo (.string b) => some (a == b) | _, _ => none
    | some (.pointer elem) =>
      match x, y with
      | .ptr i o, .ptr j p => eqPtr P M elem i o j p
      | .ptr _ _, .clo (.pointer none) => some false
      | .clo (.pointer none), .ptr _ _ => some false
      | .clo (.pointer none), .clo (.pointer none) => some true
      | _, _ => none
    | some (.struct fs) =>
      match aggL x, aggL y with
      | some xs, some ys => cond (P.stoodInHeld t) none (eqFs P g xs ys fs.toList)
      | _, _ => none
    | some (.array n e) =>
      match aggL x, aggL y, P.info? e with
      | some xs, some ys, some inf => eqIs P g e inf.size xs ys (List.range n)
      | _, _, _ => none
    | _ => none
noncomputable def eqK (P : Program) (M : Mem) (d : Nat) : TypeId → CV → CV → Option Bool := Nat.rec (fun _ _ _ => none) (fun _ g => eqStep P M g) d

theorem rowOK_ne' {r : Option Nat} (h : rowOK r = true) : r ≠ some 0 := rowOK_ne h

theorem openB_spec [Ctxt] {M : Mem} {i : Nat} (h : openB M i = true) {e : Env} {w : World} (hR : Rep e M w) {p : Nat × Nat} (hp : e i = some p) : (∃ b, M.at i = some b) ∧ ∃ c t, w.heap[p.1]? = some (.cells c t (0, 0)) := by
  unfold openB at h
  split at h
  · rename_i b hb
    obtain ⟨p', hp', hB⟩ := hR.blk i b hb
    rw [hp] at hp'; cases hp'
    obtain ⟨c, vs, fz, h1, _, _, h4, _⟩ := hB.ofRow (rowOK_ne h)
    rcases h4 with h4 | h4
    · exact absurd h4 (rowOK_ne h)
    · subst h4
      exact ⟨⟨b, hb⟩, c, b.ty, h1⟩
  · cases h

theorem eqK_run [Ctxt] {M : Mem} {e : Env} {w : World} (hR : Rep e M w) : ∀ (d : Nat) (t : TypeId) (x y : CV) (r : Bool), eqK P M d t x y = some r → ∀ (xv yv : Value), den e x = some xv → den e y = some yv → (Op.equalIn d t xv yv).run P w = .ok r w
  | 0, t, x, y, r, h, _, _, _, _ => by cases h
  | d + 1, t, x, y, r, h, xv, yv, hx, hy => by
    have IH := eqK_run hR d
    change eqStep P M (eqK P M d) t x y = some r at h
    unfold eqStep at h
    split at h
    · rename_i hu
      split at h
      · rename_i a b
        simp at h; subst h
        rw [den_clo hx, den_clo hy, run_equalIn_bool w d t a b hu]
        cases a <;> cases b <;> rfl
      · cases h
    · rename_i q hu
      split at h
      · rename_i k a k' b
        rw [Bool.cond_eq_ite] at h
        split at h
        · rename_i hk
          have := kindIx_inj hk; subst this
          simp at h; subst h
          rw [den_clo hx, den_clo hy, intEq_eq]
          simp [Op.equalIn, run_underlying hu]
        · cases h
      · cases h
    · rename_i hu
      split at h
      · rename_i a b
        simp at h; subst h
        rw [den_clo hx, den_clo hy]
        simp [Op.equalIn, run_underlying hu]
      · cases h
    · rename_i elem hu
      split at h
      · rename_i i o j p
        obtain ⟨q, hq, rfl⟩ := den_ptr hx
        obtain ⟨q', hq', rfl⟩ := den_ptr hy
        unfold eqPtr at h
        split at h
        · cases h
        · rename_i inf hi
          simp only [Bool.cond_eq_ite] at h
          split at h
          · cases h
          · rename_i hz
            have hz : inf.size ≠ 0 := fun hz' => hz (by rw [hz']; rfl)
            split at h
            · rename_i hs
              simp only [Bool.and_eq_true] at hs
              have h1 := Nat.eq_of_beq_eq_true hs.1
              have h2 := Nat.eq_of_beq_eq_true hs.2
              subst h1; subst h2
              rw [hq] at hq'; cases hq'
              simp at h; subst h
              simp [Op.equalIn, run_underlying hu, sizeOf, typeInfo, hi, hz, run_sameAddr_same]
            · rename_i hs
              split at h
              · rename_i ho
                simp only [Bool.and_eq_true] at ho
                simp at h; subst h
                obtain ⟨⟨b1, hb1⟩, c1, t1, hc1⟩ := openB_spec ho.1 hR hq
                obtain ⟨⟨b2, hb2⟩, c2, t2, hc2⟩ := openB_spec ho.2 hR hq'
                have hne : (⟨q.1, o, none⟩ : Addr) ≠ ⟨q'.1, p, none⟩ := by
                  intro hh
                  simp only [Addr.mk.injEq, and_true] at hh
                  have hij := hR.inj i j b1 b2 q q' hb1 hb2 hq hq' hh.1
                  exact hs (by rw [hij, hh.2]; simp)
                have := run_sameAddr_other (P := P) w hne hc1 hc2
                simp [Op.equalIn, run_underlying hu, sizeOf, typeInfo, hi, hz, this]
              · cases h
      · obtain ⟨q, hq, rfl⟩ := den_ptr hx
        rw [den_clo hy]
        simp at h; subst h
        simp [Op.equalIn, run_underlying hu]
      · obtain ⟨q, hq, rfl⟩ := den_ptr hy
        rw [den_clo hx]
        simp at h; subst h
        simp [Op.equalIn, run_underlying hu]
      · rw [den_clo hx, den_clo hy]
        simp at h; subst h
        simp [Op.equalIn, run_underlying hu]
      · cases h
    · rename_i fs hu
      split at h
      · rename_i xs ys hxa hya
        obtain ⟨xa, rfl, hxl⟩ := aggL_den hxa hx
        obtain ⟨ya, rfl, hyl⟩ := aggL_den hya hy
        rw [Bool.cond_eq_ite] at h
        split at h
        · cases h
        · rename_i hst
          have hfo : P.fieldsOf t = fs := by simp [Program.fieldsOf, hu]
          rw [run_equalIn_agg w d t xa ya (by rw [hfo]; exact hu) (by simpa using hst), hfo]
          generalize fs.toList = l at h
          induction l with
          | nil =>
            change some true = some r at h
            simp at h; subst h
            simp [Op.eqFields]
          | cons f l ih =>
            change cond (f.name != "_") (match partC P f.type xs f.offset, partC P f.type ys f.offset with
              | some a, some b => match eqK P M d f.type a b with | some true => eqFs P (eqK P M d) xs ys l | some false => some false | none => none
              | _, _ => none) none = some r at h
            rw [Bool.cond_eq_ite] at h
            split at h
            · rename_i hn
              have hn : f.name ≠ "_" := by simpa using hn
              split at h
              · rename_i a b ha hb
                obtain ⟨ua, da, ra⟩ := partC_run ha hxl w
                obtain ⟨ub, db, rb⟩ := partC_run hb hyl w
                split at h
                · rename_i hg
                  have := IH f.type a b true hg ua ub da db
                  simp [Op.eqFields, hn, ra, rb, this, ih h]
                · rename_i hg
                  simp at h; subst h
                  have := IH f.type a b false hg ua ub da db
                  simp [Op.eqFields, hn, ra, rb, this]
                · cases h
              · cases h
            · cases h
      · cases h
    · rename_i n el hu
      split at h
      · rename_i xs ys inf hxa hya hi
        obtain ⟨xa, rfl, hxl⟩ := aggL_den hxa hx
        obtain ⟨ya, rfl, hyl⟩ := aggL_den hya hy
        rw [run_equalIn_array w d xa ya hu hi]
        have hce : P.cellsOf el = inf.size := by simp [Program.cellsOf, hi]
        rw [hce]
        generalize List.range n = l at h
        induction l with
        | nil =>
          change some true = some r at h
          simp at h; subst h
          simp [Op.eqItems]
        | cons i l ih =>
          change (match partC P el xs (i * inf.size), partC P el ys (i * inf.size) with
            | some a, some b => match eqK P M d el a b with | some true => eqIs P (eqK P M d) el inf.size xs ys l | some false => some false | none => none
            | _, _ => none) = some r at h
          split at h
          · rename_i a b ha hb
            obtain ⟨ua, da, ra⟩ := partC_run ha hxl w
            obtain ⟨ub, db, rb⟩ := partC_run hb hyl w
            split at h
            · rename_i hg
              have := IH el a b true hg ua ub da db
              simp [Op.eqItems, ra, rb, this, ih h]
            · rename_i hg
              simp at h; subst h
              have := IH el a b false hg ua ub da db
              simp [Op.eqItems, ra, rb, this]
            · cases h
          · cases h
      · cases h
    · cases h

end Go.Ev
