/- A closed call is worked out by a program of its own: parts of aggregates. -/
import Derived.Test.YtllnglofbhmcgaaGreatEvD
import Derived.ChangeKeysEq
namespace Go.Ev
open Go.RowKit
variable {P : Program}

/-! ### Parts of aggregates -/
def partC (P : Program) (ty : TypeId) (l : List CV) (off : Nat) : Option CV :=
  match P.underlying ty with
  | none => none
  | some d =>
    cond d.isRow
      (match P.info? ty with
      | none => none
      | some inf => some (mkAgg ((l.drop off).take inf.size)))
      l[off]?

theorem partC_run [Ctxt] {ty : TypeId} {l : List CV} {off : Nat} {v : CV} (h : partC P ty l off = some v) {e : Env} {xs : Array Value} (hx : denL e l = some xs.toList) (w : World) :
    ∃ u, den e v = some u ∧ (part ty xs off).run P w = .ok u w := by
  unfold partC at h
  split at h
  · cases h
  · rename_i d hu
    cases hd : d.isRow with
    | true =>
      rw [hd] at h
      simp only [cond_true] at h
      split at h
      · cases h
      · rename_i inf hi
        simp at h; subst h
        refine ⟨_, den_mkAgg (denL_take inf.size (denL_drop off hx)), ?_⟩
        have hagg : (isAgg ty).run P w = .ok true w := by
          unfold isAgg
          rw [Sem.run_bind, run_underlying hu w]
          cases d <;> simp_all [TypeDesc.isRow]
        unfold part
        rw [Sem.run_bind, hagg]
        simp only [Result.andThen_ok, if_true, Sem.run_bind, sizeOf, typeInfo, run_program, hi, Sem.run_pure]
        congr 2
        apply Array.ext'
        simp [Array.toList_extract, List.extract]
    | false =>
      rw [hd] at h
      simp only [cond_false] at h
      obtain ⟨x, hx', hdx⟩ := denL_get hx h
      refine ⟨x, hdx, ?_⟩
      have hagg : (isAgg ty).run P w = .ok false w := by
        unfold isAgg
        rw [Sem.run_bind, run_underlying hu w]
        cases d <;> simp_all [TypeDesc.isRow]
      unfold part
      rw [Sem.run_bind, hagg]
      have : xs[off]? = some x := by rw [← Array.getElem?_toList]; exact hx'
      simp [this]

def fldV (P : Program) (t : TypeId) (f : Nat) (l : List CV) : Option CV :=
  match P.underlying t with
  | some (.struct fields) =>
    match fields[f]? with
    | none => none
    | some fd => partC P fd.type l fd.offset
  | _ => none

theorem fldV_run [Ctxt] {t : TypeId} {f : Nat} {l : List CV} {v : CV} (h : fldV P t f l = some v) {e : Env} {xs : Array Value} (hx : denL e l = some xs.toList) :
    ∃ u, den e v = some u ∧ ∀ w, (Instr.field t (.agg xs) f).run P w = .ok u w := by
  unfold fldV at h
  split at h
  · rename_i fields hu
    split at h
    · cases h
    · rename_i fd hf
      obtain ⟨u, h1, _⟩ := partC_run h hx default
      refine ⟨u, h1, fun w => ?_⟩
      obtain ⟨u', h1', h2⟩ := partC_run h hx w
      rw [h1] at h1'; cases h1'
      unfold Instr.field
      rw [Sem.run_bind, run_underlying hu]
      simp [hf, asAgg, h2]
  · cases h

def idxV (P : Program) (t : TypeId) (l : List CV) (n : Int) : Option CV :=
  match P.underlying t with
  | some (.array len elem) =>
    match P.info? elem with
    | none => none
    | some inf => cond (decide (0 ≤ n) && decide (n < (len : Int))) (partC P elem l (n.toNat * inf.size)) none
  | _ => none

theorem idxV_run [Ctxt] {t : TypeId} {n : Int} {k : IntKind} {l : List CV} {v : CV} (h : idxV P t l n = some v) {e : Env} {xs : Array Value} (hx : denL e l = some xs.toList) :
    ∃ u, den e v = some u ∧ ∀ w, (Instr.index t (.agg xs) (.int k n)).run P w = .ok u w := by
  unfold idxV at h
  split at h
  · rename_i len elem hu
    split at h
    · cases h
    · rename_i inf hi
      cases hc : (decide (0 ≤ n) && decide (n < (len : Int))) with
      | false => rw [hc] at h; cases h
      | true =>
        rw [hc] at h
        simp only [cond_true] at h
        simp only [Bool.and_eq_true, decide_eq_true_eq] at hc
        obtain ⟨u, h1, _⟩ := partC_run h hx default
        refine ⟨u, h1, fun w => ?_⟩
        obtain ⟨u', h1', h2⟩ := partC_run h hx w
        rw [h1] at h1'; cases h1'
        unfold Instr.index
        simp [asIntOf, run_underlying hu, hc, sizeOf, typeInfo, hi, h2]
  · cases h

def fillP (place : Nat → Option (Nat × Nat)) : List (Nat × CV) → List CV → Option (List CV)
  | [], cs => some cs
  | x :: r, cs =>
    match place x.1 with
    | none => none
    | some q => cond (Nat.beq x.2.cells.length q.2 && Nat.ble (q.1 + x.2.cells.length) cs.length) (fillP place r (cs.take q.1 ++ x.2.cells ++ cs.drop (q.1 + x.2.cells.length))) none

theorem fillP_run [Ctxt] {place place' : Nat → Option (Nat × Nat)} (hpl : ∀ i q, place i = some q → place' i = some q) {e : Env} : ∀ {l : List (Nat × CV)} {vals : List Value} {cs r : List CV} {c : Array Value}, fillP place l cs = some r → denL e cs = some c.toList → denL e (l.map (·.2)) = some vals →
    ∃ c', Instr.fill place' c ((l.map (·.1)).zip vals) = some c' ∧ denL e r = some c'.toList
  | [], vals, cs, r, c, h, hc, _ => by
    simp [fillP] at h; subst h
    exact ⟨c, rfl, hc⟩
  | x :: l, vals, cs, r, c, h, hc, hv => by
    obtain ⟨i, v⟩ := x
    obtain ⟨y, ys, rfl, hy, hys⟩ := denL_cons hv
    simp only [fillP] at h
    split at h
    · cases h
    · rename_i q hq
      rw [Bool.cond_eq_ite] at h
      split at h
      · rename_i hb
        simp only [Bool.and_eq_true] at hb
        have b1 := Nat.eq_of_beq_eq_true hb.1
        have b2 := Nat.le_of_ble_eq_true hb.2
        have hcells := den_cells hy
        have hlen := denL_length hcells
        have hclen := denL_length hc
        simp only [Array.length_toList] at hlen hclen
        have hset := foldl_set q.1 y.cells.toList 0 c (by simp; omega)
        simp only [Nat.add_zero] at hset
        have hz : y.cells.zipIdx.toList = y.cells.toList.zipIdx := by simp
        have hfold : (y.cells.zipIdx.foldl (fun cs (z, k) => cs.setIfInBounds (q.1 + k) z) c).toList = c.toList.take q.1 ++ y.cells.toList ++ c.toList.drop (q.1 + y.cells.toList.length) := by
          rw [← Array.foldl_toList, hz]; exact hset
        obtain ⟨c', h1, h2⟩ := fillP_run hpl (c := y.cells.zipIdx.foldl (fun cs (z, k) => cs.setIfInBounds (q.1 + k) z) c) h (by
          rw [hfold]
          have e1 := denL_append (denL_append (denL_take q.1 hc) hcells) (denL_drop (q.1 + v.cells.length) hc)
          rw [e1]; simp [hlen]) hys
        refine ⟨c', ?_, h2⟩
        simp only [List.map_cons, List.zip_cons_cons, Instr.fill, hpl _ _ hq]
        rw [if_neg (by simp; omega)]
        exact h1
      · cases h

def bldV (P : Program) (t : TypeId) (parts : List (Nat × CV)) : Option CV :=
  match (P.info? t).bind (·.zero) with
  | none => none
  | some z =>
    match P.underlying t with
    | some (.struct fields) =>
      cond (fields.toList.all fun f => (P.info? f.type).isSome)
        (match fillP (fun i => match fields[i]? with | some f => some (f.offset, P.cellsOf f.type) | none => none) parts (CV.clo z).cells with
        | some l => some (mkAgg l)
        | none => none) none
    | some (.array _ elem) =>
      match P.info? elem with
      | none => none
      | some inf =>
        match fillP (fun i => some (i * inf.size, inf.size)) parts (CV.clo z).cells with
        | some l => some (mkAgg l)
        | none => none
    | _ => none

theorem places_run (w : World) : ∀ (l : List Field), (l.all fun f => (P.info? f.type).isSome) = true → (l.mapM fun f => (do pure (f.offset, ← sizeOf f.type) : Sem (Nat × Nat))).run P w = .ok (l.map fun f => (f.offset, P.cellsOf f.type)) w
  | [], _ => by simp
  | f :: r, h => by
    simp only [List.all_cons, Bool.and_eq_true] at h
    obtain ⟨inf, hi⟩ := Option.isSome_iff_exists.1 h.1
    rw [List.mapM_cons, Sem.run_bind, Sem.run_bind, run_sizeOf w hi]
    simp only [Result.andThen_ok, Sem.run_pure, Sem.run_bind, places_run w r h.2, List.map_cons]

theorem bldV_run [Ctxt] {t : TypeId} {ix : List Nat} {cs : List CV} {v : CV} (hlen : ix.length = cs.length) (h : bldV P t (ix.zip cs) = some v) {e : Env} {vals : List Value} (hv : denL e cs = some vals) :
    ∃ u, den e v = some u ∧ ∀ parts : Array (Nat × Value), parts.toList = ix.zip vals → ∀ w, (Instr.build t parts).run P w = .ok u w := by
  have z1 : (ix.zip cs).map (·.1) = ix := List.map_fst_zip (by omega)
  have z2 : (ix.zip cs).map (·.2) = cs := List.map_snd_zip (by omega)
  unfold bldV at h
  split at h
  · cases h
  · rename_i z hz
    obtain ⟨inf0, hi0, hz0⟩ := Option.bind_eq_some_iff.1 hz
    have hzero : ∀ w, (zeroValue t).run P w = .ok z w := fun w => by simp [zeroValue, typeInfo, hi0, hz0]
    have hzc : denL e (CV.clo z).cells = some z.cells.toList := den_cells rfl
    split at h
    · rename_i fields hu
      rw [Bool.cond_eq_ite] at h
      split at h
      · rename_i hall
        split at h
        · rename_i l hl
          simp at h; subst h
          obtain ⟨c', h1, h2⟩ := fillP_run (place' := ((fields.map fun f => (f.offset, P.cellsOf f.type))[·]?)) (fun i q hq => by
            split at hq
            · rename_i f hf
              simp at hq; subst hq
              simp [hf]
            · cases hq) hl hzc (by rw [z2]; exact hv)
          rw [z1] at h1
          refine ⟨_, den_mkAgg h2, fun parts hp w => ?_⟩
          unfold Instr.build
          have hm : (fields.mapM fun f => (do pure (f.offset, ← sizeOf f.type) : Sem (Nat × Nat))).run P w = .ok (fields.map fun f => (f.offset, P.cellsOf f.type)) w := by
            rw [Array.mapM_eq_mapM_toList, Sem.run_map, places_run w _ hall]
            simp
            apply Array.ext'
            simp
          rw [Sem.run_bind, hzero]
          simp only [Result.andThen_ok]
          rw [Sem.run_bind, run_underlying hu]
          simp only [Result.andThen_ok]
          rw [Sem.run_bind, hm]
          simp only [Result.andThen_ok, hp, h1]
          simp
        · cases h
      · cases h
    · rename_i n elem hu
      split at h
      · cases h
      · rename_i inf hi
        split at h
        · rename_i l hl
          simp at h; subst h
          obtain ⟨c', h1, h2⟩ := fillP_run (place' := fun i => some (i * inf.size, inf.size)) (fun i q hq => hq) hl hzc (by rw [z2]; exact hv)
          rw [z1] at h1
          refine ⟨_, den_mkAgg h2, fun parts hp w => ?_⟩
          unfold Instr.build
          rw [Sem.run_bind, hzero]
          simp only [Result.andThen_ok]
          rw [Sem.run_bind, run_underlying hu]
          simp only [Result.andThen_ok]
          simp [sizeOf, typeInfo, hi, hp, h1]
        · cases h
    · cases h

/-! ### Integers -/
def kindIx : IntKind → Nat
  | .i8 => 0 | .i16 => 1 | .i32 => 2 | .i64 => 3 | .u8 => 4 | .u16 => 5 | .u32 => 6 | .u64 => 7

theorem kindIx_inj {a b : IntKind} (h : Nat.beq (kindIx a) (kindIx b) = true) : a = b := by
  have h := Nat.eq_of_beq_eq_true h
  cases a <;> cases b <;> first | rfl | (simp [kindIx] at h)

def intEq : Int → Int → Bool
  | .ofNat a, .ofNat b => Nat.beq a b
  | .negSucc a, .negSucc b => Nat.beq a b
  | _, _ => false
theorem intEq_eq [Ctxt] (a b : Int) : intEq a b = (a == b) := by
  cases a <;> cases b <;> rename_i m n
  · rcases beq_cases m n with ⟨h, e⟩ | ⟨h, e⟩ <;> simp [intEq, h, e] <;> omega
  · simp only [intEq]; symm; rw [beq_eq_false_iff_ne]; simp only [Int.ofNat_eq_natCast]; omega
  · simp only [intEq]; symm; rw [beq_eq_false_iff_ne]; simp only [Int.ofNat_eq_natCast]; omega
  · rcases beq_cases m n with ⟨h, e⟩ | ⟨h, e⟩ <;> simp [intEq, h, e] <;> omega

def withM (M : Mem) : Option CV → Option (CV × Mem)
  | none => none
  | some v => some (v, M)
theorem withM_some {M M' : Mem} {o : Option CV} {v : CV} (h : withM M o = some (v, M')) : o = some v ∧ M' = M := by
  cases o with
  | none => cases h
  | some x => simp [withM] at h; exact ⟨by rw [h.1], h.2.symm⟩
end Go.Ev
