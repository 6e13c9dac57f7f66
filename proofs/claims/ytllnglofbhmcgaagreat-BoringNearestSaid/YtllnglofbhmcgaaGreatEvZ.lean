/- A closed call is worked out by a program of its own: maps, and strings that are ranged over. -/
import Derived.Test.YtllnglofbhmcgaaGreatEvY
namespace Go.Ev
open Go.RowKit
set_option linter.unusedSimpArgs false
variable {P : Program}

/-! ### Keys that can be compared -/
noncomputable def ckFs (P : Program) (g : TypeId → CV → Bool) (xs : List CV) (l : List Field) : Bool :=
  List.rec true (fun f _ ih => (f.name != "_") && (match partC P f.type xs f.offset with | some a => g f.type a | none => false) && ih) l
noncomputable def ckIs (P : Program) (g : TypeId → CV → Bool) (e : TypeId) (n : Nat) (xs : List CV) (l : List Nat) : Bool :=
  List.rec true (fun i _ ih => (match partC P e xs (i * n) with | some a => g e a | none => false) && ih) l
noncomputable def ckStep (P : Program) (g : TypeId → CV → Bool) (t : TypeId) (x : CV) : Bool :=
  match P.underlying t with
  | none => false
  | some (.interface _) => false
  | some (.struct fs) => match aggL x with | some xs => ckFs P g xs fs.toList | none => false
  | some (.array n e) => match aggL x, P.info? e with | some xs, some inf => ckIs P g e inf.size xs (List.range n) | _, _ => false
  | some _ => true
noncomputable def ckC (P : Program) (d : Nat) : TypeId → CV → Bool := Nat.rec (fun _ _ => false) (fun _ g => ckStep P g) d

theorem ckC_run [Ctxt] {e : Env} {w : World} (em : Bool) : ∀ (d : Nat) (t : TypeId) (x : CV), ckC P d t x = true → ∀ (v : Value), den e x = some v → (Instr.checkKey em d t v).run P w = .ok () w
  | 0, t, x, h, _, _ => by cases h
  | d + 1, t, x, h, v, hx => by
    have IH := ckC_run (e := e) (w := w) em d
    change ckStep P (ckC P d) t x = true at h
    unfold ckStep at h
    split at h
    · cases h
    · cases h
    · rename_i fs hu
      split at h
      · rename_i xs hxa
        obtain ⟨xa, rfl, hxl⟩ := aggL_den hxa hx
        rw [Instr.checkKey]
        simp only [Sem.run_bind, run_underlying hu, Result.andThen_ok]
        rw [← Array.forIn_toList]
        generalize fs.toList = l at h
        induction l with
        | nil => simp
        | cons f l ih =>
          change ((f.name != "_") && (match partC P f.type xs f.offset with | some a => ckC P d f.type a | none => false) && ckFs P (ckC P d) xs l) = true at h
          simp only [Bool.and_eq_true] at h
          obtain ⟨⟨h1, h2⟩, h3⟩ := h
          have hn : f.name ≠ "_" := by simpa using h1
          split at h2
          · rename_i a ha
            obtain ⟨ua, da, ra⟩ := partC_run ha hxl w
            have p2 := IH f.type a h2 ua da
            simp only [List.forIn_cons, Sem.run_bind, hn, ne_eq, not_false_eq_true, if_true, Result.andThen_ok, ra, p2, Sem.run_pure]
            exact ih h3
          · cases h2
      · cases h
    · rename_i n el hu
      split at h
      · rename_i xs inf hxa hi
        obtain ⟨xa, rfl, hxl⟩ := aggL_den hxa hx
        have hce : P.cellsOf el = inf.size := by simp [Program.cellsOf, hi]
        rw [Instr.checkKey]
        simp only [Sem.run_bind, run_underlying hu, Result.andThen_ok]
        simp only [Std.Legacy.Range.forIn_eq_forIn_range', Std.Legacy.Range.size, Nat.sub_zero, Nat.add_one_sub_one, Nat.div_one]
        rw [List.range_eq_range'] at h
        generalize List.range' 0 n = l at h
        induction l with
        | nil => simp
        | cons i l ih =>
          change ((match partC P el xs (i * inf.size) with | some a => ckC P d el a | none => false) && ckIs P (ckC P d) el inf.size xs l) = true at h
          simp only [Bool.and_eq_true] at h
          obtain ⟨h2, h3⟩ := h
          split at h2
          · rename_i a ha
            obtain ⟨ua, da, ra⟩ := partC_run ha hxl w
            have p2 := IH el a h2 ua da
            simp only [List.forIn_cons, Sem.run_bind, run_sizeOf w hi, hce, Result.andThen_ok, ra, p2, Sem.run_pure]
            exact ih h3
          · cases h2
      · cases h
    · rename_i k h1 h2 h3 hu
      cases k <;> first | exact (h1 _ rfl).elim | exact (h2 _ rfl).elim | exact (h3 _ _ rfl).elim | (rw [Instr.checkKey]; simp only [Sem.run_bind, run_underlying hu, Result.andThen_ok]; first | rfl | (cases v <;> rfl))

/-! ### The entry of a key -/
noncomputable def findC (P : Program) (M : Mem) (kt : TypeId) (k : CV) : List CV → List CV → Nat → Option (Option (Nat × CV))
  | key :: ks, v :: vs, i => match eqK P M 10000 kt k key with | some true => some (some (i, v)) | some false => findC P M kt k ks vs (i + 1) | none => none
  | [], [], _ => some none
  | _, _, _ => none

def findDen [Ctxt] (e : Env) (r : Option (Nat × CV)) (r' : Option (Nat × Value)) : Prop :=
  match r, r' with
  | none, none => True
  | some (i, v), some (j, u) => i = j ∧ den e v = some u
  | _, _ => False

theorem sameNow_run {kt : TypeId} {d : TypeDesc} (hu : P.underlying kt = some d) {a b : Value} {c : Bool} (h : Instr.sameNow d a b = some c) (n : Nat) (w : World) : (Op.equalIn (n + 1) kt a b).run P w = .ok c w := by
  unfold Instr.sameNow at h
  split at h
  · rename_i k x k' y
    split at h
    · rename_i hk
      subst hk
      simp at h; subst h
      simp [Op.equalIn, run_underlying hu]
    · cases h
  · simp at h; subst h
    simp [Op.equalIn, run_underlying hu]
  · simp at h; subst h
    simp [Op.equalIn, run_underlying hu]
  · cases h

theorem findC_run [Ctxt] {M : Mem} {e : Env} {w : World} (hR : Rep e M w) {kt : TypeId} {d : TypeDesc} (hu : P.underlying kt = some d) {k : CV} {kv : Value} (hk : den e k = some kv) : ∀ (ks vs : List CV) (i n : Nat) (r : Option (Nat × CV)) (xs ys : List Value),
    findC P M kt k ks vs i = some r → denL e ks = some xs → denL e vs = some ys → ∃ r', findDen e r r' ∧ (Instr.findAsking kt kv (mkEnts n xs ys) i).run P w = .ok r' w ∧ (Instr.findNow d kv (mkEnts n xs ys) i = none ∨ Instr.findNow d kv (mkEnts n xs ys) i = some r')
  | [], [], i, n, r, xs, ys, h, hx, hy => by
    simp [findC] at h; subst h
    simp [denL] at hx hy; subst hx; subst hy
    exact ⟨none, trivial, by simp [mkEnts, Instr.findAsking], .inr rfl⟩
  | [], _ :: _, _, _, _, _, _, h, _, _ => by simp [findC] at h
  | _ :: _, [], _, _, _, _, _, h, _, _ => by simp [findC] at h
  | key :: ks, v :: vs, i, n, r, xs, ys, h, hx, hy => by
    obtain ⟨x, xs, rfl, hx1, hx2⟩ := denL_cons hx
    obtain ⟨y, ys, rfl, hy1, hy2⟩ := denL_cons hy
    simp only [findC] at h
    have det : ∀ {b : Bool}, eqK P M 10000 kt k key = some b → (Op.equal kt kv x).run P w = .ok b w ∧ (Instr.sameNow d kv x = none ∨ Instr.sameNow d kv x = some b) := fun {b} hb => by
      have h1 := eqK_run hR 10000 kt k key b hb kv x hk hx1
      refine ⟨h1, ?_⟩
      cases hs : Instr.sameNow d kv x with
      | none => exact .inl rfl
      | some c =>
        have h2 := sameNow_run hu hs 9999 w
        rw [h1] at h2
        cases h2
        exact .inr rfl
    split at h
    · rename_i hb
      simp at h; subst h
      obtain ⟨h1, h2⟩ := det hb
      refine ⟨some (i, y), ⟨rfl, hy1⟩, by simp [mkEnts, Instr.findAsking, h1], ?_⟩
      rcases h2 with h2 | h2
      · exact .inl (by simp [mkEnts, Instr.findNow, h2])
      · exact .inr (by simp [mkEnts, Instr.findNow, h2])
    · rename_i hb
      obtain ⟨h1, h2⟩ := det hb
      obtain ⟨r', g1, g2, g3⟩ := findC_run hR hu hk ks vs (i + 1) (n + 1) r xs ys h hx2 hy2
      refine ⟨r', g1, by simp [mkEnts, Instr.findAsking, h1, g2], ?_⟩
      rcases h2 with h2 | h2
      · exact .inl (by simp [mkEnts, Instr.findNow, h2])
      · rcases g3 with g3 | g3
        · exact .inl (by simp [mkEnts, Instr.findNow, h2, g3])
        · exact .inr (by simp [mkEnts, Instr.findNow, h2, g3])
    · cases h

theorem findKey_run [Ctxt] {M : Mem} {e : Env} {w : World} (hR : Rep e M w) {kt : TypeId} {k : CV} {kv : Value} (hk : den e k = some kv) (hc : ckC P 10000 kt k = true) {ks vs : List CV} {r : Option (Nat × CV)} {xs ys : List Value}
    (h : findC P M kt k ks vs 0 = some r) (hx : denL e ks = some xs) (hy : denL e vs = some ys) : ∃ r', findDen e r r' ∧ (Instr.findKey kt kv (mkEnts 0 xs ys)).run P w = .ok r' w := by
  have hu : ∃ d, P.underlying kt = some d := by
    change ckStep P (ckC P 9999) kt k = true at hc
    unfold ckStep at hc
    cases hu : P.underlying kt with
    | none => rw [hu] at hc; cases hc
    | some d => exact ⟨d, rfl⟩
  obtain ⟨d, hu⟩ := hu
  obtain ⟨r', g1, g2, g3⟩ := findC_run hR hu hk ks vs 0 0 r xs ys h hx hy
  refine ⟨r', g1, ?_⟩
  unfold Instr.findKey
  rw [Sem.run_bind, run_underlying hu, Result.andThen_ok]
  rcases g3 with g3 | g3
  · rw [g3]; exact g2
  · rw [g3]; rfl

theorem Rep.mo [Ctxt] {e : Env} {M : Mem} {w : World} (hR : Rep e M w) {i : Nat} {ks vs ty z} (h : M.at i = some ⟨[.mo ks vs], ty, z⟩) :
    ∃ p xs ys, e i = some p ∧ denL e ks = some xs ∧ denL e vs = some ys ∧ xs.length = ys.length ∧ w.heap[p.1]? = some (.map (mkEnts 0 xs ys).toArray xs.length) ∧ z = some 0 := by
  obtain ⟨p, hp, hB⟩ := hR.blk i _ h
  rcases hB with ⟨c, vs, fz, _, h2, _⟩ | ⟨hz, c, h1, _, h3⟩
  · simp [denL, den] at h2
  · simp only [List.cons.injEq, and_true] at h1
    subst h1
    obtain ⟨xs, ys, g1, g2, g3, g4⟩ := h3
    exact ⟨p, xs, ys, hp, g1, g2, g3, g4, hz⟩
theorem Rep.si [Ctxt] {e : Env} {M : Mem} {w : World} (hR : Rep e M w) {i : Nat} {s pos ty z} (h : M.at i = some ⟨[.si s pos], ty, z⟩) : ∃ p, e i = some p ∧ w.heap[p.1]? = some (.stringIter s pos) ∧ z = some 0 := by
  obtain ⟨p, hp, hB⟩ := hR.blk i _ h
  rcases hB with ⟨c, vs, fz, _, h2, _⟩ | ⟨hz, c, h1, _, h3⟩
  · simp [denL, den] at h2
  · simp only [List.cons.injEq, and_true] at h1
    subst h1
    exact ⟨p, hp, h3, hz⟩

/-! ### Look-up -/
noncomputable def zeroC (P : Program) (elem : TypeId) (ok : Bool) : Option CV :=
  match (P.info? elem).bind (·.zero) with
  | some z => some (cond ok (mkTup [.clo z, .clo (.bool false)]) (.clo z))
  | none => none
noncomputable def foundC (P : Program) (elem : TypeId) (ok : Bool) (r : Option (Option (Nat × CV))) : Option CV :=
  match r with
  | some (some q) => some (cond ok (mkTup [q.2, .clo (.bool true)]) q.2)
  | some none => zeroC P elem ok
  | none => none
noncomputable def lookC (P : Program) (M : Mem) (t : TypeId) (x k : CV) (ok : Bool) : Option CV :=
  match P.underlying t with
  | some (.map kt elem) =>
    cond (ckC P 10000 kt k)
      (match x with
      | .clo (.map none) => zeroC P elem ok
      | .mp i =>
        match M.at i with
        | some ⟨[.mo ks vs], _, _⟩ => foundC P elem ok (findC P M kt k ks vs 0)
        | _ => none
      | _ => none) none
  | _ => none

theorem zeroC_run [Ctxt] {elem : TypeId} {ok : Bool} {v : CV} (h : zeroC P elem ok = some v) (e : Env) (w : World) : ∃ u, den e v = some u ∧ ((do let (v, b) ← (do pure (← zeroValue elem, false) : Sem (Value × Bool)); pure (if ok then .tuple #[v, .bool b] else v)) : Sem Value).run P w = .ok u w := by
  unfold zeroC at h
  split at h
  · rename_i z hiz
    obtain ⟨inf, hi, hz⟩ := Option.bind_eq_some_iff.1 hiz
    have hzr : (zeroValue elem).run P w = .ok z w := by simp [zeroValue, typeInfo, hi, hz]
    simp at h; subst h
    cases ok with
    | false => exact ⟨z, rfl, by simp [hzr]⟩
    | true => exact ⟨.tuple #[z, .bool false], den_mkTup (l := [.clo z, .clo (.bool false)]) (xs := [z, .bool false]) rfl, by simp [hzr]⟩
  · cases h

theorem lookC_run [Ctxt] {M : Mem} {e : Env} {w : World} (hR : Rep e M w) {t : TypeId} {x k : CV} {ok : Bool} {v : CV} (h : lookC P M t x k ok = some v) {xv kv : Value} (hx : den e x = some xv) (hk : den e k = some kv) :
    ∃ u, den e v = some u ∧ (Instr.lookup t xv kv ok).run P w = .ok u w := by
  unfold lookC at h
  split at h
  · rename_i kt elem hu
    rw [Bool.cond_eq_ite] at h
    split at h
    · rename_i hc
      have hck := fun em => ckC_run (P := P) (e := e) (w := w) em 10000 kt k hc kv hk
      split at h
      · have := den_clo hx; subst this
        obtain ⟨u, h1, h2⟩ := zeroC_run h e w
        refine ⟨u, h1, ?_⟩
        have hud : ∃ d, P.underlying kt = some d := by
          change ckStep P (ckC P 9999) kt k = true at hc
          unfold ckStep at hc
          cases hu : P.underlying kt with
          | none => rw [hu] at hc; cases hc
          | some d => exact ⟨d, rfl⟩
        obtain ⟨d, hud⟩ := hud
        unfold Instr.lookup
        simp [run_underlying hu, run_underlying hud, hck, Instr.findKey, Instr.findNow] at h2 ⊢
        exact h2
      · rename_i i
        split at h
        · rename_i ks vs ty z hM
          obtain ⟨p, xs, ys, hp, h1, h2, _, h4, _⟩ := hR.mo hM
          simp only [den, hp, Option.map_some, Option.some.injEq] at hx
          subst hx
          unfold foundC at h
          split at h
          · rename_i q hq
            obtain ⟨r', g1, g2⟩ := findKey_run hR hk hc hq h1 h2
            cases r' with
            | none => exact g1.elim
            | some r' =>
              obtain ⟨j, u⟩ := r'
              obtain ⟨rfl, g3⟩ := g1
              simp at h; subst h
              cases ok with
              | false => exact ⟨u, g3, by simp [Instr.lookup, run_underlying hu, MapKept.run_getObj_map h4, hck, g2]⟩
              | true => exact ⟨.tuple #[u, .bool true], den_mkTup (l := [q.2, .clo (.bool true)]) (xs := [u, .bool true]) (by simp [denL, den, g3]), by simp [Instr.lookup, run_underlying hu, MapKept.run_getObj_map h4, hck, g2]⟩
          · rename_i hq
            obtain ⟨r', g1, g2⟩ := findKey_run hR hk hc hq h1 h2
            cases r' with
            | some r' => exact g1.elim
            | none =>
              obtain ⟨u, g3, g4⟩ := zeroC_run h e w
              refine ⟨u, g3, ?_⟩
              unfold Instr.lookup
              simp [run_underlying hu, MapKept.run_getObj_map h4, hck, g2] at g4 ⊢
              exact g4
          · cases h
        · cases h
      · cases h
    · cases h
  · cases h

/-! ### Update -/
noncomputable def sbL (g : CV → CV → Bool) : List CV → List CV → Bool
  | [], [] => true
  | x :: r, y :: s => g x y && sbL g r s
  | _, _ => false
noncomputable def sbStep (d : Nat) (g : CV → CV → Bool) (x y : CV) : Bool :=
  match x, y with
  | .clo a, .clo b => Instr.sameBits (d + 1) a b
  | .ptr i o, .ptr j p => Nat.beq i j && Nat.beq o p
  | .agg a, .agg b => sbL g a b
  | _, _ => false
noncomputable def sbC (d : Nat) : CV → CV → Bool := Nat.rec (fun _ _ => false) (fun d g => sbStep d g) d

theorem sbC_run [Ctxt] {e : Env} : ∀ (d : Nat) (x y : CV), sbC d x y = true → ∀ (a b : Value), den e x = some a → den e y = some b → Instr.sameBits d a b = true
  | 0, _, _, h, _, _, _, _ => by cases h
  | d + 1, x, y, h, a, b, hx, hy => by
    have IH := sbC_run (e := e) d
    change sbStep d (sbC d) x y = true at h
    unfold sbStep at h
    split at h
    · rw [den_clo hx, den_clo hy]; exact h
    · simp only [Bool.and_eq_true] at h
      have h1 := Nat.eq_of_beq_eq_true h.1
      have h2 := Nat.eq_of_beq_eq_true h.2
      subst h1; subst h2
      rw [hx] at hy; cases hy
      obtain ⟨p, _, rfl⟩ := den_ptr hx
      simp [Instr.sameBits]
    · rename_i l m
      simp only [den, Option.map_eq_some_iff] at hx hy
      obtain ⟨xs, hxs, rfl⟩ := hx
      obtain ⟨ys, hys, rfl⟩ := hy
      have key : ∀ (l m : List CV) (xs ys : List Value), sbL (sbC d) l m = true → denL e l = some xs → denL e m = some ys → xs.length = ys.length ∧ ∀ q ∈ xs.zip ys, Instr.sameBits d q.1 q.2 = true := by
        intro l
        induction l with
        | nil =>
          intro m xs ys h h1 h2
          cases m with
          | nil =>
            simp [denL] at h1 h2; subst h1; subst h2
            exact ⟨rfl, by simp⟩
          | cons y m => simp [sbL] at h
        | cons x l ih =>
          intro m xs ys h h1 h2
          cases m with
          | nil => simp [sbL] at h
          | cons y m =>
            obtain ⟨x', xs, rfl, hx1, hx2⟩ := denL_cons h1
            obtain ⟨y', ys, rfl, hy1, hy2⟩ := denL_cons h2
            simp only [sbL, Bool.and_eq_true] at h
            obtain ⟨g1, g2⟩ := ih m xs ys h.2 hx2 hy2
            refine ⟨by simp [g1], fun q hq => ?_⟩
            simp only [List.zip_cons_cons, List.mem_cons] at hq
            rcases hq with rfl | hq
            · exact IH x y h.1 x' y' hx1 hy1
            · exact g2 q hq
      obtain ⟨g1, g2⟩ := key l m xs ys h hxs hys
      simp only [Instr.sameBits, Bool.and_eq_true, List.all_eq_true]
      refine ⟨by simp [g1], fun q hq => ?_⟩
      exact g2 q (by simpa using hq)
    · cases h

theorem mkEnts_set (k v : Value) : ∀ (xs ys : List Value) (n j : Nat), (mkEnts n xs ys).modify j (fun e => { e with key := k, val := v }) = mkEnts n (xs.set j k) (ys.set j v)
  | [], ys, n, j => by cases ys <;> simp [mkEnts]
  | x :: xs, [], n, j => by
    cases j <;> simp [mkEnts]
  | x :: xs, y :: ys, n, j => by
    cases j with
    | zero => simp [mkEnts]
    | succ j => simp [mkEnts, mkEnts_set k v xs ys (n + 1) j]
theorem mkEnts_push (k v : Value) : ∀ (xs ys : List Value) (n : Nat), xs.length = ys.length → mkEnts n (xs ++ [k]) (ys ++ [v]) = mkEnts n xs ys ++ [{ key := k, val := v, born := n + xs.length }]
  | [], [], n, _ => by simp [mkEnts]
  | [], _ :: _, _, h => by simp at h
  | _ :: _, [], _, h => by simp at h
  | x :: xs, y :: ys, n, h => by
    have := mkEnts_push k v xs ys (n + 1) (by simpa using h)
    simp only [List.cons_append, mkEnts, this, List.length_cons, List.cons.injEq, true_and]
    rw [show n + 1 + xs.length = n + (xs.length + 1) by omega]
theorem mkEnts_key : ∀ (xs ys : List Value) (n j : Nat), xs.length = ys.length → ((mkEnts n xs ys)[j]?).map (·.key) = xs[j]?
  | [], [], n, j, _ => by simp [mkEnts]
  | [], _ :: _, _, _, h => by simp at h
  | _ :: _, [], _, _, h => by simp at h
  | x :: xs, y :: ys, n, j, h => by
    cases j with
    | zero => simp [mkEnts]
    | succ j => simpa [mkEnts] using mkEnts_key xs ys (n + 1) j (by simpa using h)

noncomputable def updM (M : Mem) (i : Nat) (ty : TypeId) (ks vs : List CV) (k v : CV) (r : Option (Option (Nat × CV))) : Option Mem :=
  match r with
  | some (some q) =>
    match ks[q.1]? with
    | some k0 => cond (sbC 10000 k0 k) (some (M.set i ⟨[.mo (ks.set q.1 k) (vs.set q.1 v)], ty, some 0⟩)) none
    | none => none
  | some none => some (M.set i ⟨[.mo (ks ++ [k]) (vs ++ [v])], ty, some 0⟩)
  | none => none
noncomputable def updC (P : Program) (lim : Nat) (M : Mem) (t : TypeId) (x k v : CV) : Option Mem :=
  match P.underlying t, x with
  | some (.map kt _), .mp i =>
    cond (Nat.ble lim i && ckC P 10000 kt k)
      (match M.at i with
      | some ⟨[.mo ks vs], ty, some 0⟩ => updM M i ty ks vs k v (findC P M kt k ks vs 0)
      | _ => none) none
  | _, _ => none

theorem updC_run [Ctxt] {lim : Nat} {M M' : Mem} {e : Env} {w : World} (hR : Rep e M w) (hpi : Ctxt.pin ≤ lim) {t : TypeId} {x k v : CV} (h : updC P lim M t x k v = some M') {xv kv vv : Value} (hx : den e x = some xv) (hk : den e k = some kv) (hv : den e v = some vv) :
    ∃ w', (Instr.mapUpdate t xv kv vv).run P w = .ok () w' ∧ Post lim e M w e M' w' := by
  unfold updC at h
  split at h
  · rename_i kt elem i hu
    rw [Bool.cond_eq_ite] at h
    split at h
    · rename_i hc
      simp only [Bool.and_eq_true] at hc
      have hl := Nat.le_of_ble_eq_true hc.1
      have hck := fun em => ckC_run (P := P) (e := e) (w := w) em 10000 kt k hc.2 kv hk
      split at h
      · rename_i ks vs ty hM
        obtain ⟨p, xs, ys, hp, h1, h2, h3, h4, _⟩ := hR.mo hM
        have hlt : p.1 < w.heap.size := (Array.getElem?_eq_some_iff.1 h4).1
        simp only [den, hp, Option.map_some, Option.some.injEq] at hx
        subst hx
        unfold updM at h
        split at h
        · rename_i q hq
          obtain ⟨r', g1, g2⟩ := findKey_run hR hk hc.2 hq h1 h2
          cases r' with
          | none => exact g1.elim
          | some r' =>
            obtain ⟨j, u⟩ := r'
            obtain ⟨hj, g3⟩ := g1
            subst hj
            split at h
            · rename_i k0 hk0
              rw [Bool.cond_eq_ite] at h
              split at h
              · rename_i hs
                simp at h; subst h
                obtain ⟨x0, hx0, hdx0⟩ := denL_get h1 hk0
                have hsb := sbC_run (e := e) 10000 k0 k hs x0 kv hdx0 hk
                have hkey := mkEnts_key xs ys 0 q.1 h3
                rw [hx0] at hkey
                refine ⟨{ w with heap := w.heap.setIfInBounds p.1 (.map (mkEnts 0 (xs.set q.1 kv) (ys.set q.1 vv)).toArray xs.length) }, ?_, post_set hR hpi hl hM hp (.inr ⟨rfl, _, rfl, rfl, xs.set q.1 kv, ys.set q.1 vv, denL_set hk _ h1, denL_set hv _ h2, by simp [h3], ?_⟩) (by simp) (fun b hb => ?_) rfl rfl rfl⟩
                · have hmod : ((mkEnts 0 xs ys).toArray.modify q.1 fun e => { e with key := kv, val := vv }) = (mkEnts 0 (xs.set q.1 kv) (ys.set q.1 vv)).toArray := by
                    apply Array.ext'
                    rw [← mkEnts_set]
                    simp
                  have hkt : (Instr.keyThatStays x0 kv).run P w = .ok kv w := by simp [Instr.keyThatStays, hsb]
                  have hold : ((((mkEnts 0 xs ys).toArray)[q.1]?.map (·.key)).getD kv) = x0 := by
                    rw [List.getElem?_toArray, hkey]; rfl
                  unfold Instr.mapUpdate
                  simp only [Sem.run_bind, run_underlying hu, Result.andThen_ok, MapKept.run_getObj_map h4, hck, g2, hold, hkt, hmod, MapKept.run_setObj_map _ h4]
                · simp [hlt]
                · simp only [Array.getElem?_setIfInBounds]
                  rw [if_neg (fun h => hb h.symm)]
              · cases h
            · cases h
        · rename_i hq
          obtain ⟨r', g1, g2⟩ := findKey_run hR hk hc.2 hq h1 h2
          cases r' with
          | some r' => exact g1.elim
          | none =>
            simp at h; subst h
            have hpush := mkEnts_push kv vv xs ys 0 h3
            refine ⟨{ w with heap := w.heap.setIfInBounds p.1 (.map (mkEnts 0 (xs ++ [kv]) (ys ++ [vv])).toArray (xs ++ [kv]).length) }, ?_, post_set hR hpi hl hM hp (.inr ⟨rfl, _, rfl, rfl, xs ++ [kv], ys ++ [vv], denL_append h1 (by simp [denL, hk]), denL_append h2 (by simp [denL, hv]), by simp [h3], ?_⟩) (by simp) (fun b hb => ?_) rfl rfl rfl⟩
            · have hps : ((mkEnts 0 xs ys).toArray.push { key := kv, val := vv, born := xs.length }) = (mkEnts 0 (xs ++ [kv]) (ys ++ [vv])).toArray := by
                rw [hpush, Nat.zero_add]; simp
              unfold Instr.mapUpdate
              simp only [Sem.run_bind, run_underlying hu, Result.andThen_ok, MapKept.run_getObj_map h4, hck, g2, hps, MapKept.run_setObj_map _ h4]
              simp
            · simp [hlt]
            · simp only [Array.getElem?_setIfInBounds]
              rw [if_neg (fun h => hb h.symm)]
        · cases h
      · cases h
    · cases h
  · cases h

/-! ### A new map; its size; strings -/
theorem run_newObj (o : Obj) (w : World) : (newObj o).run P w = .ok w.heap.size (w.alloc o) := by
  simp [newObj, Sem.run]
noncomputable def mkMapC (P : Program) (M : Mem) (t : TypeId) (r : Option CV) : Option (CV × Mem) :=
  match r with
  | none => some (.mp M.next, M.push ⟨[.mo [] []], 0, some 0⟩)
  | some (.clo (.int _ _)) => match P.underlying t with | some (.map _ _) => some (.mp M.next, M.push ⟨[.mo [] []], 0, some 0⟩) | _ => none
  | _ => none

theorem mkMapC_run [Ctxt] {lim : Nat} {M M' : Mem} {e : Env} {w : World} (hR : Rep e M w) (hl : Ctxt.pin ≤ lim ∧ lim ≤ M.next) (hn : M.next < M'.next → e M.next = none) {t : TypeId} {r : Option CV} {v : CV} (h : mkMapC P M t r = some (v, M')) {rv : Option Value} (hr : ∀ c, r = some c → ∃ u, rv = some u ∧ den e c = some u) (hr0 : r = none → rv = none) :
    ∃ e' w' u, den e' v = some u ∧ (Instr.makeMap t rv).run P w = .ok u w' ∧ Post lim e M w e' M' w' := by
  have fin : (v, M') = (.mp M.next, M.push ⟨[.mo [] []], 0, some 0⟩) → (Instr.makeMap t rv).run P w = .ok (.map (some w.heap.size)) (w.alloc (.map #[] 0)) → ∃ e' w' u, den e' v = some u ∧ (Instr.makeMap t rv).run P w = .ok u w' ∧ Post lim e M w e' M' w' := by
    intro hv hrun
    simp only [Prod.mk.injEq] at hv
    obtain ⟨rfl, rfl⟩ := hv
    have hp := post_newB (lim := lim) (w1 := w) hR hl (hn (by simp [Mem.push])) ⟨[.mo [] []], 0, some 0⟩ (.map #[] 0) 0 (fun _ hnew => .inr ⟨rfl, _, rfl, rfl, [], [], rfl, rfl, rfl, hnew⟩) rfl rfl rfl rfl
    exact ⟨_, _, _, by simp [den, Env.upd], hrun, hp⟩
  unfold mkMapC at h
  split at h
  · have h0 := hr0 rfl
    subst h0
    simp only [Option.some.injEq] at h
    exact fin h.symm (by simp [Instr.makeMap, run_newObj])
  · rename_i k n
    obtain ⟨u, rfl, hu⟩ := hr _ rfl
    have := den_clo hu; subst this
    split at h
    · rename_i kt el hut
      simp only [Option.some.injEq] at h
      exact fin h.symm (by simp [Instr.makeMap, run_newObj, run_underlying hut, asInt, asIntOf])
    · cases h
  · cases h

noncomputable def lenMapC (P : Program) (M : Mem) (t : TypeId) (x : CV) : Option CV :=
  match P.underlying t, x with
  | some (.map _ _), .mp i => match M.at i with | some ⟨[.mo ks _], _, _⟩ => some (.clo (.int .i64 (.ofNat ks.length))) | _ => none
  | some (.map _ _), .clo (.map none) => some (.clo (.int .i64 0))
  | _, _ => none
theorem mkEnts_length : ∀ (xs ys : List Value) (n : Nat), xs.length = ys.length → (mkEnts n xs ys).length = xs.length
  | [], [], n, _ => by simp [mkEnts]
  | [], _ :: _, _, h => by simp at h
  | _ :: _, [], _, h => by simp at h
  | x :: xs, y :: ys, n, h => by simp [mkEnts, mkEnts_length xs ys (n + 1) (by simpa using h)]
theorem lenMapC_run [Ctxt] {M : Mem} {e : Env} {w : World} (hR : Rep e M w) {t : TypeId} {x v : CV} (h : lenMapC P M t x = some v) {xv : Value} (hx : den e x = some xv) (ty : TypeId) : ∃ u, den e v = some u ∧ (Builtin.len_ #[t] ty #[xv]).run P w = .ok u w := by
  unfold lenMapC at h
  split at h
  · rename_i i hu
    split at h
    · rename_i ks vs ty' z hM
      obtain ⟨p, xs, ys, hp, h1, h2, h3, h4, _⟩ := hR.mo hM
      simp only [den, hp, Option.map_some, Option.some.injEq] at hx
      subst hx
      simp at h; subst h
      have hl := denL_length h1
      have hm := mkEnts_length xs ys 0 h3
      exact ⟨_, rfl, by simp [Builtin.len_, run_underlying hu, MapKept.run_getObj_map h4, goInt, hm, hl]⟩
    · cases h
  · rename_i hu
    have := den_clo hx; subst this
    simp at h; subst h
    exact ⟨_, rfl, by simp [Builtin.len_, run_underlying hu, goInt]⟩
  · cases h

noncomputable def rangeC (P : Program) (M : Mem) (t : TypeId) (x : CV) : Option (CV × Mem) :=
  match P.underlying t, x with
  | some .string, .clo (.string s) => some (.ptr M.next 0, M.push ⟨[.si s 0], 0, some 0⟩)
  | _, _ => none
theorem rangeC_run [Ctxt] {lim : Nat} {M M' : Mem} {e : Env} {w : World} (hR : Rep e M w) (hl : Ctxt.pin ≤ lim ∧ lim ≤ M.next) (hn : M.next < M'.next → e M.next = none) {t : TypeId} {x v : CV} (h : rangeC P M t x = some (v, M')) {xv : Value} (hx : den e x = some xv) :
    ∃ e' w' u, den e' v = some u ∧ (Instr.range t xv).run P w = .ok u w' ∧ Post lim e M w e' M' w' := by
  unfold rangeC at h
  split at h
  · rename_i s hu
    have := den_clo hx; subst this
    simp only [Option.some.injEq, Prod.mk.injEq] at h
    obtain ⟨rfl, rfl⟩ := h
    have hp := post_newB (lim := lim) (w1 := w) hR hl (hn (by simp [Mem.push])) ⟨[.si s 0], 0, some 0⟩ (.stringIter s 0) 0 (fun _ hnew => .inr ⟨rfl, _, rfl, rfl, hnew⟩) rfl rfl rfl rfl
    exact ⟨_, _, .pointer (some ⟨w.heap.size, 0, none⟩), by simp [den, Env.upd], by simp [Instr.range, run_underlying hu, run_newObj], hp⟩
  · cases h

noncomputable def nextC (lim : Nat) (M : Mem) (x : CV) (isString : Bool) : Option (CV × Mem) :=
  match x with
  | .ptr i 0 =>
    cond (isString && Nat.ble lim i)
      (match M.at i with
      | some ⟨[.si s pos], ty, some 0⟩ =>
        cond (Nat.blt pos s.size) (some (.clo (.tuple #[.bool true, .int .i64 (.ofNat pos), .int .i32 (.ofNat (Utf8.decode s pos).1)]), M.set i ⟨[.si s (pos + (Utf8.decode s pos).2)], ty, some 0⟩))
          (some (.clo (.tuple #[.bool false]), M))
      | _ => none) none
  | _ => none
theorem nextC_run [Ctxt] {lim : Nat} {M M' : Mem} {e : Env} {w : World} (hR : Rep e M w) (hpi : Ctxt.pin ≤ lim) {x v : CV} {b : Bool} (h : nextC lim M x b = some (v, M')) {xv : Value} (hx : den e x = some xv) (ty : TypeId) :
    ∃ w' u, den e v = some u ∧ (Instr.next xv b ty).run P w = .ok u w' ∧ Post lim e M w e M' w' := by
  unfold nextC at h
  split at h
  · rename_i i
    rw [Bool.cond_eq_ite] at h
    split at h
    · rename_i hc
      simp only [Bool.and_eq_true] at hc
      have hl := Nat.le_of_ble_eq_true hc.2
      have hb := hc.1
      subst hb
      split at h
      · rename_i s pos ty' hM
        obtain ⟨p, hp, h4, _⟩ := hR.si hM
        have hlt : p.1 < w.heap.size := (Array.getElem?_eq_some_iff.1 h4).1
        obtain ⟨p', hp', rfl⟩ := den_ptr hx
        rw [hp] at hp'; cases hp'
        have hg : (getObj p.1).run P w = .ok (.stringIter s pos) w := by simp [getObj, Sem.run, h4]
        rcases blt_cases pos s.size with ⟨h5, h6⟩ | ⟨h5, h6⟩
        · rw [h5, cond_true] at h
          simp only [Option.some.injEq, Prod.mk.injEq] at h
          obtain ⟨rfl, rfl⟩ := h
          refine ⟨{ w with heap := w.heap.setIfInBounds p.1 (.stringIter s (pos + (Utf8.decode s pos).2)) }, _, rfl, ?_, post_set hR hpi hl hM hp (.inr ⟨rfl, _, rfl, rfl, ?_⟩) (by simp) (fun b hb => ?_) rfl rfl rfl⟩
          · have hs : (setObj p.1 (.stringIter s (pos + (Utf8.decode s pos).2))).run P w = .ok () { w with heap := w.heap.setIfInBounds p.1 (.stringIter s (pos + (Utf8.decode s pos).2)) } := by simp [setObj, Sem.run, h4]
            simp [Instr.next, hg, h6, hs, goInt]
          · show (w.heap.setIfInBounds p.1 (.stringIter s (pos + (Utf8.decode s pos).2)))[p.1]? = some (.stringIter s (pos + (Utf8.decode s pos).2)); simp [hlt]
          · have := Array.getElem?_setIfInBounds (xs := w.heap) (i := p.1) (j := b) (a := .stringIter s (pos + (Utf8.decode s pos).2))
            rw [if_neg (fun h => hb h.symm)] at this
            exact this
        · rw [h5, cond_false] at h
          simp only [Option.some.injEq, Prod.mk.injEq] at h
          obtain ⟨rfl, rfl⟩ := h
          have h7 : ¬ pos < s.size := by omega
          exact ⟨w, _, rfl, by simp [Instr.next, hg, h7], .refl hR⟩
      · cases h
    · cases h
  · cases h

end Go.Ev
