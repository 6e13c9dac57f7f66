/- A row of statements, worked out, in front of one that is not. -/
import Derived.Test.YtllnglofbhmcgaaGreatTkD
namespace Go.Ev
open Go.RowKit
noncomputable def evalL [Ctxt] (P : Program) (fuel : Nat) : List Code → Fr → Mem → Option (Ex × Fr × Mem)
  | [], T, M => some (.normal, T, M)
  | c :: r, T, M =>
    match evalC P fuel true 0 c T M with
    | some (.normal, T', M') => evalL P fuel r T' M'
    | _ => none
theorem evalL_ok [Ctxt] {P : Program} (hm : P.follows .mixedOrders = true) (hk : KnownOK P) (hpin : Ctxt.pin = 0) {fuel : Nat} {y : Code} : ∀ (cs : List Code) (T : Fr) (M : Mem) (T' : Fr) (M' : Mem), evalL P fuel cs T M = some (.normal, T', M') → M.next ≤ M'.next ∧
    ∀ (e : Env) (a : Act) (w : World), DT e T a → DF e T a → Rep e M w → (∀ i, M.next ≤ i → i < M'.next → e i = none) → ∀ (Q : Exit → Act → World → Prop), (∀ e' a' w', DT e' T' a' → DF e' T' a' → Post 0 e M w e' M' w' → y.wpIn (FW none) 0 P Q a' w') → (cs.foldr Code.seq y).wpIn (FW none) 0 P Q a w
  | [], T, M, T', M', h => by
    simp only [evalL, Option.some.injEq, Prod.mk.injEq, true_and] at h
    obtain ⟨rfl, rfl⟩ := h
    exact ⟨Nat.le_refl _, fun e a w hT hd hR _ Q hQ => hQ e a w hT hd (.refl hR)⟩
  | c :: r, T, M, T', M', h => by
    simp only [evalL] at h
    split at h
    · rename_i T1 M1 hev
      obtain ⟨h1, h2⟩ := evalC_ok hm hk fuel true 0 c _ _ _ _ _ hev
      obtain ⟨k1, k2⟩ := evalL_ok hm hk hpin r T1 M1 T' M' h
      refine ⟨Nat.le_trans h1 k1, fun e a w hT hd hR hn Q hQ => ?_⟩
      refine wpIn_seq (h2 none 0 (fun _ => rfl) e a w hT hd hR ⟨by rw [hpin]; exact Nat.le_refl _, Nat.zero_le _⟩ (fun i g1 g2 => hn i g1 (by omega)) _ fun e1 a1 w1 hT1 hd1 hp1 => ?_)
      exact k2 e1 a1 w1 hT1 hd1 hp1.rep (fun i g1 g2 => by rw [hp1.env i (.inr g1)]; exact hn i (by omega) g2) Q fun e' a' w' hT' hd' hp' => hQ e' a' w' hT' hd' (hp1.trans hp')
    · cases h
/-- **A row of statements, worked out**, in front of one that is not. -/
theorem code_XL [Ctxt] {P : Program} (hm : P.follows .mixedOrders = true) (hk : KnownOK P) (hpin : Ctxt.pin = 0) (fuel : Nat) (cs : List Code) {y : Code} {n : Nat} (tl : List (Nat × CV)) (bl : List Blk) (ts ns : List Nat) (tc : List CV) (bc : List (Option Blk)) {a : Act} {w : World} (pl : List (Nat × Nat))
    (h : ∀ u, outC ts ns (evalL P fuel cs (frOf n tl u) ⟨bl.length, memOf 0 bl⟩) = some (.normal, tc, bc, [], n))
    (hnd : (pl.map (·.1)).Nodup) (hl : pl.length = bl.length) (hKw : Ctxt.K w) (hBw : Ctxt.B ≤ w.heap.size) (hpl : ∀ p ∈ pl, Ctxt.B ≤ p.1)
    (hsz : a.tmps.size = n) (hdf : a.defers = []) (htl : ∀ x ∈ tl, den (plX pl) x.2 = some (a.tmps.getD x.1 undef)) (hbl : ∀ (i : Nat) (b : Blk), bl[i]? = some b → ∃ p, pl[i]? = some p ∧ RepB (plX pl) b p w)
    {Q : Exit → Act → World → Prop} (hQ : ∀ e' a' w', a'.tmps.size = n → a'.defers = [] → (∀ (j t : Nat) (x : CV), ts[j]? = some t → tc[j]? = some x → den e' x = some (a'.tmps.getD t undef)) →
      (∀ (j i : Nat) (b : Blk), ns[j]? = some i → bc[j]? = some (some b) → ∃ p, e' i = some p ∧ RepB e' b p w' ∧ Ctxt.B ≤ p.1 ∧ (w.heap.size ≤ p.1 ∨ ∃ q ∈ pl, q.1 = p.1)) →
      (∀ (i : Nat) (p : Nat × Nat), pl[i]? = some p → e' i = some p) → (∀ (j k i i' : Nat) (b b' : Blk) (p p' : Nat × Nat), ns[j]? = some i → ns[k]? = some i' → bc[j]? = some (some b) → bc[k]? = some (some b') → e' i = some p → e' i' = some p' → p.1 = p'.1 → i = i') →
      Near (pl.map (·.1)) w w' → y.wp P Q a' w') : (cs.foldr Code.seq y).wp P Q a w := by
  have h := h fun i => a.tmps.getD i undef
  unfold outC at h
  split at h
  · rename_i ex' T' M' hev
    simp only [Option.some.injEq, Prod.mk.injEq] at h
    obtain ⟨rfl, rfl, rfl, hms, hn'⟩ := h
    obtain ⟨hnx, hok⟩ := evalL_ok hm hk hpin (y := y) cs _ _ _ _ hev
    have hT : DT (plX pl) (frOf n tl fun i => a.tmps.getD i undef) a := by
      refine ⟨hsz.symm, fun i => ?_⟩
      show den _ (lookF (tl ++ garb _ n) i) = _
      rcases lookF_app i tl (garb (fun i => a.tmps.getD i undef) n) with ⟨x, g1, g2, g3⟩ | g
      · rw [g3, htl x g1, g2]
      · rw [g, lookF_garb]
        split
        · rfl
        · rename_i hi
          have : a.tmps.getD i undef = undef := by
            rw [Array.getD_eq_getD_getElem?, Array.getElem?_eq_none (by rw [hsz]; omega)]; rfl
          rw [this]; rfl
    have hat : ∀ i, (⟨bl.length, memOf 0 bl⟩ : Mem).at i = bl[i]? := fun i => by
      show look (memOf 0 bl) i = _
      rw [look_memOf, if_pos (Nat.zero_le _)]; rfl
    have hR : Rep (plX pl) ⟨bl.length, memOf 0 bl⟩ w := by
      refine ⟨fun i b hb => ?_, fun i b hb => ?_, fun i j b c p q hb hc' hp hq hpq => ?_, fun i p hi => absurd hi (by rw [hpin]; exact Nat.not_lt_zero i), by rw [hpin]; exact Nat.zero_le _, ⟨hKw, hBw, fun i p _ hp => ?_⟩⟩
      · rw [hat] at hb
        exact (List.getElem?_eq_some_iff.1 hb).1
      · rw [hat] at hb
        exact hbl i b hb
      · obtain ⟨hi, hpi⟩ := List.getElem?_eq_some_iff.1 (show pl[i]? = some p from hp)
        obtain ⟨hj, hqj⟩ := List.getElem?_eq_some_iff.1 (show pl[j]? = some q from hq)
        have hh := List.pairwise_iff_getElem.1 hnd
        have e1 : (pl.map (·.1))[i]'(by simpa using hi) = p.1 := by simp [hpi]
        have e2 : (pl.map (·.1))[j]'(by simpa using hj) = q.1 := by simp [hqj]
        refine Classical.byContradiction fun hij => ?_
        rcases Nat.lt_or_gt_of_ne hij with hlt | hlt
        · exact hh i j (by simpa using hi) (by simpa using hj) hlt (e1.trans (hpq.trans e2.symm))
        · exact hh j i (by simpa using hj) (by simpa using hi) hlt (e2.trans (hpq.symm.trans e1.symm))
      · exact hpl p (List.mem_of_getElem? hp)
    refine (wpIn_wide (n := 0)).1 (hok (plX pl) a w hT (show DFs _ [] _ from hdf) hR (fun i hi _ => ?_) Q fun e' a' w' hT' hd' hp' => (wpIn_wide (n := 0)).2 ?_)
    · exact List.getElem?_eq_none (by rw [hl]; exact hi)
    · refine hQ e' a' w' ?_ ?_ (fun j t x ht hx => ?_) (fun j i b hi hb => ?_) (fun i p hp => hp'.le i p hp) (fun j k i i' b b' p p' hi hi' hb hb' hp hp2 hpp => ?_) ⟨hp'.os, hp'.tape, hp'.output, hp'.size, fun b hb hn => hp'.kept b hb fun i c p hc' hp hpb => ?_⟩
      · rw [← hT'.n, hn']
      · have := hd'
        unfold DF at this
        rw [hms] at this
        exact this
      · have g := hT'.get t
        rw [List.getElem?_map, ht] at hx
        simp at hx
        rw [← hx]; exact g
      · have hM : M'.at i = some b := by
          rw [List.getElem?_map, hi] at hb
          simpa using hb
        obtain ⟨p, hp, hB⟩ := hp'.rep.blk i b hM
        refine ⟨p, hp, hB, hp'.rep.rest.new i p (by rw [hpin]; exact Nat.zero_le _) hp, ?_⟩
        by_cases hi2 : i < bl.length
        · right
          obtain ⟨q, hq⟩ : ∃ q, pl[i]? = some q := ⟨pl[i]'(by omega), by simp [hl, hi2]⟩
          have := hp'.le i q hq
          rw [hp] at this; cases this
          exact ⟨p, List.mem_of_getElem? hq, rfl⟩
        · rcases hp'.fresh i b p (by simp only; omega) hM hp with hf | ⟨j', d, q, _, hd, hq, hqp⟩
          · exact .inl hf
          · exact .inr ⟨q, List.mem_of_getElem? (show pl[j']? = some q from hq), hqp⟩
      · have hM : M'.at i = some b := by
          rw [List.getElem?_map, hi] at hb
          simpa using hb
        have hM' : M'.at i' = some b' := by
          rw [List.getElem?_map, hi'] at hb'
          simpa using hb'
        exact hp'.rep.inj i i' b b' p p' hM hM' hp hp2 hpp
      · exact hn (List.mem_map.2 ⟨p, List.mem_of_getElem? (show pl[i]? = some p from hp), hpb⟩)
  · cases h
/-! ### Pieces that speak of temporaries only -/
/-- What is known of a frame. -/
structure Tmps (n : Nat) (tv : List (Nat × Value)) (a : Act) : Prop where
  size : a.tmps.size = n
  defers : a.defers = []
  tmps : ∀ x ∈ tv, a.tmps.getD x.1 undef = x.2
def denTs [Ctxt] : List (Nat × CV) → Option (List (Nat × Value))
  | [] => some []
  | x :: r => (den (fun _ => none) x.2).bind fun v => (denTs r).map ((x.1, v) :: ·)
theorem denTs_in [Ctxt] : ∀ {l : List (Nat × CV)} {tv : List (Nat × Value)}, denTs l = some tv → ∀ x ∈ l, ∃ v, den (fun _ => none) x.2 = some v ∧ (x.1, v) ∈ tv
  | [], tv, h, x, hx => by cases hx
  | y :: r, tv, h, x, hx => by
    simp only [denTs, Option.bind_eq_some_iff, Option.map_eq_some_iff] at h
    obtain ⟨v, hv, tr, hr, rfl⟩ := h
    rcases List.mem_cons.1 hx with rfl | hx
    · exact ⟨v, hv, List.mem_cons_self⟩
    · obtain ⟨u, h1, h2⟩ := denTs_in hr x hx
      exact ⟨u, h1, List.mem_cons_of_mem _ h2⟩
theorem denTs_out [Ctxt] : ∀ {l : List (Nat × CV)} {tv : List (Nat × Value)}, denTs l = some tv → ∀ x ∈ tv, ∃ (j : Nat) (c : CV), (l.map (·.1))[j]? = some x.1 ∧ (l.map (·.2))[j]? = some c ∧ den (fun _ => none) c = some x.2
  | [], tv, h, x, hx => by simp [denTs] at h; subst h; cases hx
  | y :: r, tv, h, x, hx => by
    simp only [denTs, Option.bind_eq_some_iff, Option.map_eq_some_iff] at h
    obtain ⟨v, hv, tr, hr, rfl⟩ := h
    rcases List.mem_cons.1 hx with rfl | hx
    · exact ⟨0, y.2, rfl, rfl, hv⟩
    · obtain ⟨j, c, h1, h2, h3⟩ := denTs_out hr x hx
      exact ⟨j + 1, c, h1, h2, h3⟩
theorem Near.nil {w w' : World} (h : Near [] w w') : Below w.heap.size w w' := ⟨h.os, h.tape, h.output, h.size, fun k hk => h.block k hk (by simp)⟩
theorem code_T [Ctxt] {P : Program} (hm : P.follows .mixedOrders = true) (hk : KnownOK P) (hpin : Ctxt.pin = 0) (fuel : Nat) {c : Code} {n : Nat} (tl : List (Nat × CV)) (ex : Ex) (want : List (Nat × CV)) {tv wv : List (Nat × Value)} {a : Act} {w : World}
    (h : ∀ u, outC (want.map (·.1)) [] (evalC P fuel true 0 c (frOf n tl u) ⟨0, []⟩) = some (ex, want.map (·.2), [], [], n)) (ht : denTs tl = some tv) (hw : denTs want = some wv) (hs : Tmps n tv a) (hKw : Ctxt.K w) (hBw : Ctxt.B ≤ w.heap.size)
    {Q : Exit → Act → World → Prop} (hQ : ∀ a' w', Tmps n wv a' → Below w.heap.size w w' → Q ex.to a' w') : c.wp P Q a w := by
  refine code_X hm hk hpin fuel tl [] ex (want.map (·.1)) [] (want.map (·.2)) [] [] h List.nodup_nil rfl hKw hBw (fun _ h => by cases h) hs.size hs.defers (fun x hx => ?_) (fun i b h => by simp at h) fun e' a' w' h1 h2 h3 _ _ _ h4 => hQ a' w' ⟨h1, h2, fun x hx => ?_⟩ h4.nil
  · obtain ⟨v, g1, g2⟩ := denTs_in ht x hx
    rw [hs.tmps _ g2]
    exact den_mono (fun i p h => by cases h) _ _ g1
  · obtain ⟨j, c, g1, g2, g3⟩ := denTs_out hw x hx
    have := h3 j x.1 c g1 g2
    rw [den_mono (e := fun _ => none) (fun i p h => by cases h) c x.2 g3] at this
    exact (Option.some.inj this).symm
theorem code_TL [Ctxt] {P : Program} (hm : P.follows .mixedOrders = true) (hk : KnownOK P) (hpin : Ctxt.pin = 0) (fuel : Nat) (cs : List Code) {y : Code} {n : Nat} (tl : List (Nat × CV)) (want : List (Nat × CV)) {tv wv : List (Nat × Value)} {a : Act} {w : World}
    (h : ∀ u, outC (want.map (·.1)) [] (evalL P fuel cs (frOf n tl u) ⟨0, []⟩) = some (.normal, want.map (·.2), [], [], n)) (ht : denTs tl = some tv) (hw : denTs want = some wv) (hs : Tmps n tv a) (hKw : Ctxt.K w) (hBw : Ctxt.B ≤ w.heap.size)
    {Q : Exit → Act → World → Prop} (hQ : ∀ a' w', Tmps n wv a' → Below w.heap.size w w' → y.wp P Q a' w') : (cs.foldr Code.seq y).wp P Q a w := by
  refine code_XL hm hk hpin fuel cs tl [] (want.map (·.1)) [] (want.map (·.2)) [] [] h List.nodup_nil rfl hKw hBw (fun _ h => by cases h) hs.size hs.defers (fun x hx => ?_) (fun i b h => by simp at h) fun e' a' w' h1 h2 h3 _ _ _ h4 => hQ a' w' ⟨h1, h2, fun x hx => ?_⟩ h4.nil
  · obtain ⟨v, g1, g2⟩ := denTs_in ht x hx
    rw [hs.tmps _ g2]
    exact den_mono (fun i p h => by cases h) _ _ g1
  · obtain ⟨j, c, g1, g2, g3⟩ := denTs_out hw x hx
    have := h3 j x.1 c g1 g2
    rw [den_mono (e := fun _ => none) (fun i p h => by cases h) c x.2 g3] at this
    exact (Option.some.inj this).symm
end Go.Ev
