/- Pieces of code that put something behind a slice of their own. -/
import Derived.Test.YtllnglofbhmcgaaGreatTkJ
namespace Go.Ev
open Go.RowKit
theorem code_X1 [Ctxt] {P : Program} (hm : P.follows .mixedOrders = true) (hk : KnownOK P) (hpin : Ctxt.pin = 0) (fuel : Nat) {c : Code} {n : Nat} (tl : List (Nat × CV)) (bl : List Blk) (ex : Ex) (ts ns : List Nat) (tc : List CV) (bc : List (Option Blk)) {a : Act} {w : World} (pl : List (Nat × Nat))
    (h : outC ts ns (evalC P fuel true 0 c (frOf n tl fun i => a.tmps.getD i undef) ⟨bl.length, memOf 0 bl⟩) = some (ex, tc, bc, [], n))
    (hnd : (pl.map (·.1)).Nodup) (hl : pl.length = bl.length) (hKw : Ctxt.K w) (hBw : Ctxt.B ≤ w.heap.size) (hpl : ∀ p ∈ pl, Ctxt.B ≤ p.1)
    (hsz : a.tmps.size = n) (hdf : a.defers = []) (htl : ∀ x ∈ tl, den (plX pl) x.2 = some (a.tmps.getD x.1 undef)) (hbl : ∀ (i : Nat) (b : Blk), bl[i]? = some b → ∃ p, pl[i]? = some p ∧ RepB (plX pl) b p w)
    {Q : Exit → Act → World → Prop} (hQ : ∀ e' a' w', a'.tmps.size = n → a'.defers = [] → (∀ (j t : Nat) (x : CV), ts[j]? = some t → tc[j]? = some x → den e' x = some (a'.tmps.getD t undef)) →
      (∀ (j i : Nat) (b : Blk), ns[j]? = some i → bc[j]? = some (some b) → ∃ p, e' i = some p ∧ RepB e' b p w' ∧ Ctxt.B ≤ p.1 ∧ (w.heap.size ≤ p.1 ∨ ∃ q ∈ pl, q.1 = p.1)) →
      (∀ (i : Nat) (p : Nat × Nat), pl[i]? = some p → e' i = some p) → (∀ (j k i i' : Nat) (b b' : Blk) (p p' : Nat × Nat), ns[j]? = some i → ns[k]? = some i' → bc[j]? = some (some b) → bc[k]? = some (some b') → e' i = some p → e' i' = some p' → p.1 = p'.1 → i = i') →
      Near (pl.map (·.1)) w w' → Q ex.to a' w') : c.wp P Q a w := by
  unfold outC at h
  split at h
  · rename_i ex' T' M' hev
    simp only [Option.some.injEq, Prod.mk.injEq] at h
    obtain ⟨rfl, rfl, rfl, hms, hn'⟩ := h
    obtain ⟨hnx, hok⟩ := evalC_ok hm hk fuel true 0 c _ _ _ _ _ hev
    have hT : DT (plX pl) (frOf n tl fun i => a.tmps.getD i undef) a := by
      refine ⟨hsz.symm, fun i => ?_⟩
      show den _ (lookF (tl ++ garb _ n) i) = _
      rcases lookF_app i tl (garb (fun i => a.tmps.getD i undef) n) with ⟨x, g1, g2, g3⟩ | g
      · rw [g3, htl x g1, g2]
      · rw [g, lookF_garb]
        split
        · rfl
        · rename_i hi
          have : a.tmps.getD i undef = undef := by
            rw [Array.getD_eq_getD_getElem?, Array.getElem?_eq_none (by rw [hsz]; omega)]; rfl
          rw [this]; rfl
    have hat : ∀ i, (⟨bl.length, memOf 0 bl⟩ : Mem).at i = bl[i]? := fun i => by
      show look (memOf 0 bl) i = _
      rw [look_memOf, if_pos (Nat.zero_le _)]; rfl
    have hR : Rep (plX pl) ⟨bl.length, memOf 0 bl⟩ w := by
      refine ⟨fun i b hb => ?_, fun i b hb => ?_, fun i j b c p q hb hc' hp hq hpq => ?_, fun i p hi => absurd hi (by rw [hpin]; exact Nat.not_lt_zero i), by rw [hpin]; exact Nat.zero_le _, ⟨hKw, hBw, fun i p _ hp => ?_⟩⟩
      · rw [hat] at hb
        exact (List.getElem?_eq_some_iff.1 hb).1
      · rw [hat] at hb
        exact hbl i b hb
      · obtain ⟨hi, hpi⟩ := List.getElem?_eq_some_iff.1 (show pl[i]? = some p from hp)
        obtain ⟨hj, hqj⟩ := List.getElem?_eq_some_iff.1 (show pl[j]? = some q from hq)
        have hh := List.pairwise_iff_getElem.1 hnd
        have e1 : (pl.map (·.1))[i]'(by simpa using hi) = p.1 := by simp [hpi]
        have e2 : (pl.map (·.1))[j]'(by simpa using hj) = q.1 := by simp [hqj]
        refine Classical.byContradiction fun hij => ?_
        rcases Nat.lt_or_gt_of_ne hij with hlt | hlt
        · exact hh i j (by simpa using hi) (by simpa using hj) hlt (e1.trans (hpq.trans e2.symm))
        · exact hh j i (by simpa using hj) (by simpa using hi) hlt (e2.trans (hpq.symm.trans e1.symm))
      · exact hpl p (List.mem_of_getElem? hp)
    refine (wpIn_wide (n := 0)).1 (hok none 0 (fun _ => rfl) (plX pl) a w hT (show DFs _ [] _ from hdf) hR ⟨by rw [hpin]; exact Nat.le_refl _, Nat.zero_le _⟩ (fun i hi _ => ?_) Q fun e' a' w' hT' hd' hp' => ?_)
    · exact List.getElem?_eq_none (by rw [hl]; exact hi)
    · refine hQ e' a' w' ?_ ?_ (fun j t x ht hx => ?_) (fun j i b hi hb => ?_) (fun i p hp => hp'.le i p hp) (fun j k i i' b b' p p' hi hi' hb hb' hp hp2 hpp => ?_) ⟨hp'.os, hp'.tape, hp'.output, hp'.size, fun b hb hn => hp'.kept b hb fun i c p hc' hp hpb => ?_⟩
      · rw [← hT'.n, hn']
      · have := hd'
        unfold DF at this
        rw [hms] at this
        exact this
      · have g := hT'.get t
        rw [List.getElem?_map, ht] at hx
        simp at hx
        rw [← hx]; exact g
      · have hM : M'.at i = some b := by
          rw [List.getElem?_map, hi] at hb
          simpa using hb
        obtain ⟨p, hp, hB⟩ := hp'.rep.blk i b hM
        refine ⟨p, hp, hB, hp'.rep.rest.new i p (by rw [hpin]; exact Nat.zero_le _) hp, ?_⟩
        by_cases hi2 : i < bl.length
        · right
          obtain ⟨q, hq⟩ : ∃ q, pl[i]? = some q := ⟨pl[i]'(by omega), by simp [hl, hi2]⟩
          have := hp'.le i q hq
          rw [hp] at this; cases this
          exact ⟨p, List.mem_of_getElem? hq, rfl⟩
        · rcases hp'.fresh i b p (by simp only; omega) hM hp with hf | ⟨j', d, q, _, hd, hq, hqp⟩
          · exact .inl hf
          · exact .inr ⟨q, List.mem_of_getElem? (show pl[j']? = some q from hq), hqp⟩
      · have hM : M'.at i = some b := by
          rw [List.getElem?_map, hi] at hb
          simpa using hb
        have hM' : M'.at i' = some b' := by
          rw [List.getElem?_map, hi'] at hb'
          simpa using hb'
        exact hp'.rep.inj i i' b b' p p' hM hM' hp hp2 hpp
      · exact hn (List.mem_map.2 ⟨p, List.mem_of_getElem? (show pl[i]? = some p from hp), hpb⟩)
  · cases h

/-- What a piece leaves: exit, some temporaries, and one that holds a slice. -/
noncomputable def outCL (r : Nat) (ts : List Nat) : Option (Ex × Fr × Mem) → Option (Ex × List CV × (Nat × Option Blk) × List Nat × Nat)
  | some (ex, T, M) => (outL (some (T.get r, M))).map fun q => (ex, ts.map T.get, q, T.ms, T.n)
  | none => none
noncomputable def outCA (r : Nat) (ts : List Nat) : Option (Ex × Fr × Mem) → Option (Ex × List CV × (Tm × Option Blk) × List Nat × Nat)
  | some (ex, T, M) => (outA (some (T.get r, M))).map fun q => (ex, ts.map T.get, q, T.ms, T.n)
  | none => none
theorem outCL_spec {r : Nat} {ts : List Nat} {x : Option (Ex × Fr × Mem)} {ex : Ex} {tc : List CV} {q : Nat × Option Blk} {ms : List Nat} {n : Nat} (h : outCL r ts x = some (ex, tc, q, ms, n)) : ∃ T M, x = some (ex, T, M) ∧ outL (some (T.get r, M)) = some q ∧ ts.map T.get = tc ∧ T.ms = ms ∧ T.n = n := by
  unfold outCL at h
  split at h
  · obtain ⟨q', hq, he⟩ := Option.map_eq_some_iff.1 h
    cases he
    exact ⟨_, _, rfl, hq, rfl, rfl, rfl⟩
  · cases h
theorem outCA_spec {r : Nat} {ts : List Nat} {x : Option (Ex × Fr × Mem)} {ex : Ex} {tc : List CV} {q : Tm × Option Blk} {ms : List Nat} {n : Nat} (h : outCA r ts x = some (ex, tc, q, ms, n)) : ∃ T M, x = some (ex, T, M) ∧ outA (some (T.get r, M)) = some q ∧ ts.map T.get = tc ∧ T.ms = ms ∧ T.n = n := by
  unfold outCA at h
  split at h
  · obtain ⟨q', hq, he⟩ := Option.map_eq_some_iff.1 h
    cases he
    exact ⟨_, _, rfl, hq, rfl, rfl, rfl⟩
  · cases h
theorem tmps_cons {n : Nat} {a : Act} {wv : List (Nat × Value)} {r : Nat} {v : Value} (h1 : a.tmps.size = n) (h2 : a.defers = []) (hr : a.tmps.getD r undef = v) (hw : ∀ x ∈ wv, a.tmps.getD x.1 undef = x.2) : Tmps n ((r, v) :: wv) a := ⟨h1, h2, fun x hx => by
  rcases List.mem_cons.1 hx with rfl | hx
  · exact hr
  · exact hw x hx⟩
/-- **A piece that makes a slice of its own**, or leaves it nil. -/
theorem code_own [Ctxt] {P : Program} (hm : P.follows .mixedOrders = true) (hk : KnownOK P) (hpin : Ctxt.pin = 0) (fuel : Nat) {c : Code} {n : Nat} (tl : List (Nat × CV)) (r : Nat) (ex : Ex) (want : List (Nat × CV)) {N : Nat} {cs : List CV} {t : TypeId} {z : Nat} (hz : 0 < z) {vs : List Value} {tv wv : List (Nat × Value)} {a : Act} {w : World}
    (h : ∀ u, outCL r (want.map (·.1)) (evalC P fuel true 0 c (frOf n tl u) ⟨0, []⟩) = some (ex, want.map (·.2), (N, match N with | 0 => none | _ + 1 => some ⟨cs, t, some z⟩), [], n)) (ht : denTs tl = some tv) (hw : denTs want = some wv)
    (hv : denL (fun _ => none) cs = some vs) (hl : vs.length = N * z) (hs : Tmps n tv a) (hKw : Ctxt.K w) (hBw : Ctxt.B ≤ w.heap.size)
    {Q : Exit → Act → World → Prop} (hQ : ∀ a' w' v, Tmps n ((r, v) :: wv) a' → w'.ownsRow w.heap.size t z v N vs → (N = 0 → v = .slice none 0 0) → Below w.heap.size w w' → Q ex.to a' w') : c.wp P Q a w := by
  obtain ⟨T, M, hev, hL, htc, hms, hTn⟩ := outCL_spec (h fun i => a.tmps.getD i undef)
  have hin : ∀ x ∈ tl, den (plX []) x.2 = some (a.tmps.getD x.1 undef) := fun x hx => by
    obtain ⟨v, g1, g2⟩ := denTs_in ht x hx
    rw [hs.tmps _ g2]
    exact den_mono (fun i p h => by cases h) _ _ g1
  have hout : ∀ (e' : Env) (a' : Act), (∀ (j t : Nat) (x : CV), (want.map (·.1))[j]? = some t → (want.map (·.2))[j]? = some x → den e' x = some (a'.tmps.getD t undef)) → ∀ x ∈ wv, a'.tmps.getD x.1 undef = x.2 := fun e' a' h3 x hx => by
    obtain ⟨j, c, g1, g2, g3⟩ := denTs_out hw x hx
    have := h3 j x.1 c g1 g2
    rw [den_mono (e := fun _ => none) (fun i p h => by cases h) c x.2 g3] at this
    exact (Option.some.inj this).symm
  rcases outL_spec hL with ⟨i, M', b, hr, hb, ho⟩ | ⟨M', hr, hn, ho⟩
  · simp only [Option.some.injEq, Prod.mk.injEq] at hr
    obtain ⟨hr, rfl⟩ := hr
    obtain ⟨k, rfl⟩ : ∃ k, N = k + 1 := by
      cases N with
      | zero => cases ho
      | succ k => exact ⟨k, rfl⟩
    simp only [Option.some.injEq] at ho
    subst ho
    refine code_X1 hm hk hpin fuel tl [] ex (r :: want.map (·.1)) [i] (.sl i 0 (k + 1) none 0 :: want.map (·.2)) [some ⟨cs, t, some z⟩] [] (by
      rw [show (⟨([] : List Blk).length, memOf 0 []⟩ : Mem) = ⟨0, []⟩ from rfl, hev]
      simp only [outC, List.map_cons, List.map_nil, hr, hb, htc, hms, hTn]) List.nodup_nil rfl hKw hBw (fun _ h => by cases h) hs.size hs.defers hin (fun i b h => by simp at h) fun e' a' w' h1 h2 h3 h4 _ _ h5 => ?_
    obtain ⟨p, hp, hR, hpB, hf⟩ := h4 0 i _ rfl rfl
    have hf : w.heap.size ≤ p.1 := hf.elim id fun ⟨q, hq, _⟩ => by cases hq
    obtain ⟨c', us, fz, g1, g2, g3, g4, g5⟩ := hR.ofRow (by simp only [ne_eq, Option.some.injEq]; omega)
    rw [denL_mono (fun i p h => by cases h) _ _ hv] at g2
    cases g2
    have gz : fz = (0, 0) := by
      rcases g4 with g4 | g4
      · simp only [Option.some.injEq] at g4; omega
      · exact g4
    subst gz
    obtain ⟨g6, g7⟩ := g5 (by omega)
    have hv' : a'.tmps.getD r undef = .slice (some ⟨p.1, 0, none⟩) (k + 1) p.2 := by
      have := h3 0 r _ rfl rfl
      simp [den, hp] at this
      simpa using this.symm
    refine hQ a' w' (.slice (some ⟨p.1, 0, none⟩) (k + 1) p.2) (tmps_cons h1 h2 hv' (hout e' a' fun j t x ht hx => h3 (j + 1) t x (by simpa using ht) (by simpa using hx))) ⟨hl, .inr ⟨p.1, p.2, c', rfl, hf, g1, ?_, g7, g6, ?_⟩⟩ (fun h => by cases h) h5.nil
    · have := congrArg List.length g3
      rw [List.length_take, hl] at this
      have h2 : (k + 1) * z ≤ p.2 * z := by
        have : min ((k + 1) * z) c'.size = (k + 1) * z := by simpa using this
        omega
      exact Nat.le_of_mul_le_mul_right h2 hz
    · rw [← hl]; exact g3
  · simp only [Option.some.injEq, Prod.mk.injEq] at hr
    obtain ⟨hr, rfl⟩ := hr
    subst hn
    have hvs : vs = [] := List.length_eq_zero_iff.1 (by simpa using hl)
    subst hvs
    refine code_X1 hm hk hpin fuel tl [] ex (r :: want.map (·.1)) [] (.clo (.slice none 0 0) :: want.map (·.2)) [] [] (by
      rw [show (⟨([] : List Blk).length, memOf 0 []⟩ : Mem) = ⟨0, []⟩ from rfl, hev]
      simp only [outC, List.map_cons, List.map_nil, hr, htc, hms, hTn]) List.nodup_nil rfl hKw hBw (fun _ h => by cases h) hs.size hs.defers hin (fun i b h => by simp at h) fun e' a' w' h1 h2 h3 h4 _ _ h5 => ?_
    have hv' : a'.tmps.getD r undef = .slice none 0 0 := by
      have := h3 0 r _ rfl rfl
      simp [den] at this
      simpa using this.symm
    exact hQ a' w' (.slice none 0 0) (tmps_cons h1 h2 hv' (hout e' a' fun j t x ht hx => h3 (j + 1) t x (by simpa using ht) (by simpa using hx))) (World.ownsRow_nil _ _ _ _) (fun _ => rfl) h5.nil
noncomputable def outCB (r : Nat) (ts : List Nat) : Option (Ex × Fr × Mem) → Option (Ex × List CV × (Nat × Nat × Blk) × List Nat × Nat)
  | some (ex, T, M) => (outB (some (T.get r, M))).map fun q => (ex, ts.map T.get, q, T.ms, T.n)
  | none => none
theorem outCB_spec {r : Nat} {ts : List Nat} {x : Option (Ex × Fr × Mem)} {ex : Ex} {tc : List CV} {q : Nat × Nat × Blk} {ms : List Nat} {n : Nat} (h : outCB r ts x = some (ex, tc, q, ms, n)) : ∃ T M, x = some (ex, T, M) ∧ outB (some (T.get r, M)) = some q ∧ ts.map T.get = tc ∧ T.ms = ms ∧ T.n = n := by
  unfold outCB at h
  split at h
  · obtain ⟨q', hq, he⟩ := Option.map_eq_some_iff.1 h
    cases he
    exact ⟨_, _, rfl, hq, rfl, rfl, rfl⟩
  · cases h
/-- A piece that makes a slice of exactly these cells. -/
theorem code_ownB [Ctxt] {P : Program} (hm : P.follows .mixedOrders = true) (hk : KnownOK P) (hpin : Ctxt.pin = 0) (fuel : Nat) {c : Code} {n : Nat} (tl : List (Nat × CV)) (r : Nat) (ex : Ex) (want : List (Nat × CV)) {N : Nat} {cs : List CV} {t : TypeId} {z : Nat} {vs : List Value} {tv wv : List (Nat × Value)} {a : Act} {w : World}
    (h : ∀ u, outCB r (want.map (·.1)) (evalC P fuel true 0 c (frOf n tl u) ⟨0, []⟩) = some (ex, want.map (·.2), (N, N, ⟨cs, t, none⟩), [], n)) (ht : denTs tl = some tv) (hw : denTs want = some wv)
    (hv : denL (fun _ => none) cs = some vs) (hl : vs.length = N * z) (hN : N ≤ maxLen) (hs : Tmps n tv a) (hKw : Ctxt.K w) (hBw : Ctxt.B ≤ w.heap.size)
    {Q : Exit → Act → World → Prop} (hQ : ∀ a' w' v, Tmps n ((r, v) :: wv) a' → w'.ownsRow w.heap.size t z v N vs → Below w.heap.size w w' → Q ex.to a' w') : c.wp P Q a w := by
  obtain ⟨T, M, hev, hL, htc, hms, hTn⟩ := outCB_spec (h fun i => a.tmps.getD i undef)
  have hin : ∀ x ∈ tl, den (plX []) x.2 = some (a.tmps.getD x.1 undef) := fun x hx => by
    obtain ⟨v, g1, g2⟩ := denTs_in ht x hx
    rw [hs.tmps _ g2]
    exact den_mono (fun i p h => by cases h) _ _ g1
  have hout : ∀ (e' : Env) (a' : Act), (∀ (j t : Nat) (x : CV), (want.map (·.1))[j]? = some t → (want.map (·.2))[j]? = some x → den e' x = some (a'.tmps.getD t undef)) → ∀ x ∈ wv, a'.tmps.getD x.1 undef = x.2 := fun e' a' h3 x hx => by
    obtain ⟨j, c, g1, g2, g3⟩ := denTs_out hw x hx
    have := h3 j x.1 c g1 g2
    rw [den_mono (e := fun _ => none) (fun i p h => by cases h) c x.2 g3] at this
    exact (Option.some.inj this).symm
  obtain ⟨i, M', hr, hb⟩ := outB_spec hL
  simp only [Option.some.injEq, Prod.mk.injEq] at hr
  obtain ⟨hr, rfl⟩ := hr
  refine code_X1 hm hk hpin fuel tl [] ex (r :: want.map (·.1)) [i] (.sl i 0 N (some N) 0 :: want.map (·.2)) [some ⟨cs, t, none⟩] [] (by
    rw [show (⟨([] : List Blk).length, memOf 0 []⟩ : Mem) = ⟨0, []⟩ from rfl, hev]
    simp only [outC, List.map_cons, List.map_nil, hr, hb, htc, hms, hTn]) List.nodup_nil rfl hKw hBw (fun _ h => by cases h) hs.size hs.defers hin (fun i b h => by simp at h) fun e' a' w' h1 h2 h3 h4 _ _ h5 => ?_
  obtain ⟨p, hp, hR, hpB, hf⟩ := h4 0 i _ rfl rfl
  have hf : w.heap.size ≤ p.1 := hf.elim id fun ⟨q, hq, _⟩ => by cases hq
  obtain ⟨c', us, fz, g1, g2, g3, g4, g5⟩ := hR.ofRow (by simp)
  rw [denL_mono (fun i p h => by cases h) _ _ hv] at g2
  cases g2
  have gz : fz = (0, 0) := by
    rcases g4 with g4 | g4
    · cases g4
    · exact g4
  subst gz
  have g5 : c'.size = vs.length := g5
  have hv' : a'.tmps.getD r undef = .slice (some ⟨p.1, 0, none⟩) N N := by
    have := h3 0 r _ rfl rfl
    simp [den, hp] at this
    simpa using this.symm
  exact hQ a' w' (.slice (some ⟨p.1, 0, none⟩) N N) (tmps_cons h1 h2 hv' (hout e' a' fun j t x ht hx => h3 (j + 1) t x (by simpa using ht) (by simpa using hx))) ⟨hl, .inr ⟨p.1, N, c', rfl, hf, g1, Nat.le_refl _, hN, by rw [g5, hl], by rw [← hl]; exact g3⟩⟩ h5.nil
/-- **A piece that makes the row longer** to which a temporary leads. -/
theorem code_ownR [Ctxt] {P : Program} (hm : P.follows .mixedOrders = true) (hk : KnownOK P) (hpin : Ctxt.pin = 0) (fuel : Nat) {c : Code} {n : Nat} (tl : List (Nat × CV)) (r : Nat) (n0 : Tm) (ex : Ex) (want : List (Nat × CV)) {y y' : Tm} {t : TypeId} {z : Nat} (hz : 0 < z) {n' : Tm} {N0 N' : Nat} {p : Nat × Nat} {base : Nat} {tv wv : List (Nat × Value)} {a : Act} {w : World}
    (h : ∀ u, outCA r (want.map (·.1)) (evalC P fuel true 0 c (frOf n ((r, .as 0 n0) :: tl) u) ⟨1, memOf 0 [abB y t z]⟩) = some (ex, want.map (·.2), (n', some (abB y' t z)), [], n)) (ht : denTs tl = some tv) (hw : denTs want = some wv)
    (hs : Tmps n ((r, .slice (some ⟨p.1, 0, none⟩) N0 p.2) :: tv) a) (hn0 : asN (Ctxt.sym n0).v = some N0) (hKw : Ctxt.K w) (hBw : Ctxt.B ≤ w.heap.size) (hBp : Ctxt.B ≤ p.1) (hp : base ≤ p.1) (hbw : base ≤ w.heap.size) (hrow : LsAt Ctxt.ab.lst (y, t, z) p w)
    (hn : asN (Ctxt.sym n').v = some N') (hl : (Ctxt.ab.lst y').length = N' * z)
    {Q : Exit → Act → World → Prop} (hQ : ∀ a' w' v, Tmps n ((r, v) :: wv) a' → w'.ownsRow base t z v N' (Ctxt.ab.lst y') → Below base w w' → Q ex.to a' w') : c.wp P Q a w := by
  obtain ⟨T, M, hev, hL, htc, hms, hTn⟩ := outCA_spec (h fun i => a.tmps.getD i undef)
  obtain ⟨i, M', b, hr, hb, ho⟩ := outA_spec hL
  simp only [Option.some.injEq, Prod.mk.injEq] at hr
  obtain ⟨hr, rfl⟩ := hr
  cases ho
  have hin : ∀ x ∈ (r, CV.as 0 n0) :: tl, den (plX [p]) x.2 = some (a.tmps.getD x.1 undef) := fun x hx => by
    rcases List.mem_cons.1 hx with rfl | hx
    · rw [hs.tmps _ (List.mem_cons_self)]
      exact den_asI rfl hn0
    · obtain ⟨v, g1, g2⟩ := denTs_in ht x hx
      rw [hs.tmps _ (List.mem_cons_of_mem _ g2)]
      exact den_mono (fun i p h => by cases h) _ _ g1
  have hout : ∀ (e' : Env) (a' : Act), (∀ (j t : Nat) (x : CV), (want.map (·.1))[j]? = some t → (want.map (·.2))[j]? = some x → den e' x = some (a'.tmps.getD t undef)) → ∀ x ∈ wv, a'.tmps.getD x.1 undef = x.2 := fun e' a' h3 x hx => by
    obtain ⟨j, c, g1, g2, g3⟩ := denTs_out hw x hx
    have := h3 j x.1 c g1 g2
    rw [den_mono (e := fun _ => none) (fun i p h => by cases h) c x.2 g3] at this
    exact (Option.some.inj this).symm
  refine code_X1 hm hk hpin fuel ((r, .as 0 n0) :: tl) [abB y t z] ex (r :: want.map (·.1)) [i] (.as i n' :: want.map (·.2)) [some (abB y' t z)] [p] (by
    rw [show (⟨([abB y t z] : List Blk).length, memOf 0 [abB y t z]⟩ : Mem) = ⟨1, memOf 0 [abB y t z]⟩ from rfl, hev]
    simp only [outC, List.map_cons, List.map_nil, hr, hb, htc, hms, hTn]) (by simp) rfl hKw hBw (fun q hq => by simp at hq; subst hq; exact hBp) hs.size hs.defers hin (fun j b hb => by
    cases j with
    | zero => simp at hb; subst hb; exact ⟨p, rfl, rep_of_ls hrow⟩
    | succ j => simp at hb) fun e' a' w' h1 h2 h3 h4 _ _ h5 => ?_
  obtain ⟨p', hp', hR, _, hf⟩ := h4 0 i _ rfl rfl
  have hf : base ≤ p'.1 := hf.elim (fun h => Nat.le_trans hbw h) fun ⟨q, hq, hqp⟩ => by simp at hq; subst hq; rw [← hqp]; exact hp
  obtain ⟨c', g1, g3, g6, g7⟩ := ls_of_rep hR
  have hv' : a'.tmps.getD r undef = .slice (some ⟨p'.1, 0, none⟩) N' p'.2 := by
    have := h3 0 r _ rfl rfl
    rw [den_asI hp' hn] at this
    exact (Option.some.inj this).symm
  refine hQ a' w' (.slice (some ⟨p'.1, 0, none⟩) N' p'.2) (tmps_cons h1 h2 hv' (hout e' a' fun j t x ht hx => h3 (j + 1) t x (by simpa using ht) (by simpa using hx))) ⟨hl, .inr ⟨p'.1, p'.2, c', rfl, hf, g1, ?_, g7, g6, ?_⟩⟩ ⟨h5.os, h5.tape, h5.output, h5.size, fun b hb => h5.block b (Nat.lt_of_lt_of_le hb hbw) (by simp; omega)⟩
  · have := congrArg List.length g3
    rw [List.length_take, hl] at this
    have h2 : N' * z ≤ p'.2 * z := by
      have : min (N' * z) c'.size = N' * z := by simpa using this
      simp only at g6
      omega
    exact Nat.le_of_mul_le_mul_right h2 hz
  · rw [← hl]; exact g3
/-- A loop that counts and carries something. -/
theorem wp_upto2 {σ : Type} {P : Program} {c : Code} {a : Act} {w : World} {Q : Exit → Act → World → Prop} (N n ix : Nat) (tv : Nat → σ → List (Nat × Value)) (J : Nat → σ → World → Prop) (hix : ∀ (k : Nat) (s : σ), (ix, ivZ k) ∈ tv k s) (s0 : σ) (h0 : Tmps N (tv 0 s0) a) (j0 : J 0 s0 w)
    (hs : ∀ (k : Nat) (s : σ) (a : Act) (w : World), k ≤ n → Tmps N (tv k s) a → J k s w → c.wp P (Exit.then (fun a' w' => k < n ∧ ∃ s', Tmps N (tv (k + 1) s') a' ∧ J (k + 1) s' w') Q) a w) : (Code.loop c).wp P Q a w := by
  refine wp_loop (fun x w' => ∃ (k : Nat) (s : σ), k ≤ n ∧ Tmps N (tv k s) x ∧ J k s w') (fun x _ => n - (intOfI (x.tmps.getD ix undef)).toNat) ⟨0, s0, Nat.zero_le _, h0, j0⟩ ?_
  rintro a1 w1 ⟨k, s, hk, hT, hJ⟩
  refine wp_mono (hs k s a1 w1 hk hT hJ) ?_
  intro e a' w' h
  cases e with
  | normal =>
    obtain ⟨g1, s', g2, g3⟩ := h
    refine ⟨⟨k + 1, s', g1, g2, g3⟩, ?_⟩
    have e1 : a1.tmps.getD ix undef = ivZ k := hT.tmps _ (hix k s)
    have e2 : a'.tmps.getD ix undef = ivZ (k + 1 : Nat) := g2.tmps _ (hix (k + 1) s')
    rw [e1, e2]
    simp only [intOfI]
    omega
  | _ => exact h
end Go.Ev
