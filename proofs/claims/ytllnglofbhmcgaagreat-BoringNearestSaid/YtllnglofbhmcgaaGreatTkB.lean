/- Pieces of code worked out in worlds that keep a condition. -/
import Derived.Test.YtllnglofbhmcgaaGreatTkA
namespace Go.Ev
open Go.RowKit
/-- **A piece of code, worked out**: what is known of the frame and the blocks behind it. -/
theorem code_toldK {P : Program} (hm : P.follows .mixedOrders = true) (sym : Tm → Sym) (lc : List KCall) (le : List KEq) (lv : List KOp) (K : World → Prop) (B : Nat) (kst : ∀ w w', K w → Below B w w' → K w') (hc : ∀ r ∈ lc, CallAt P sym K r) (he : ∀ r ∈ le, EqIs P sym r) (hv : ∀ r ∈ lv, OpAt P sym K r)
    (fuel : Nat) {c : Code} {n : Nat} (tl : List (Nat × CV)) (bl : List Blk) (ex : Ex) (want : List (Nat × CV)) (wantB : List (Nat × Blk)) {a : Act} {w : World} {pl : List Nat}
    (h : ∀ u, @checkC (toldK 0 sym lc le lv K B kst) P fuel c n tl u bl ex want wantB = true)
    (hrow : ∀ b ∈ bl, b.row = none) (hnd : pl.Nodup) (hl : pl.length = bl.length) (hKw : K w) (hBw : B ≤ w.heap.size) (hpl : ∀ p ∈ pl, B ≤ p) (hs : @StAt (toldK 0 sym lc le lv K B kst) n tl (memOf 0 bl) pl a w)
    {Q : Exit → Act → World → Prop} (hQ : ∀ a' w', a'.tmps.size = n → a'.defers = [] → (∀ x ∈ want, ∀ v, @den (toldK 0 sym lc le lv K B kst) (plE pl) x.2 = some v → a'.tmps.getD x.1 undef = v) →
      (∀ x ∈ wantB, ∀ p vs, pl[x.1]? = some p → @denL (toldK 0 sym lc le lv K B kst) (plE pl) x.2.cs = some vs → w'.heap[p]? = some (.cells vs.toArray x.2.ty (0, 0))) → Near pl w w' → Q ex.to a' w') : c.wp P Q a w := by
  letI : Ctxt := toldK 0 sym lc le lv K B kst
  have hk : KnownOK P := known_toldK 0 sym lc le lv K B kst hc he hv
  have h := h fun i => a.tmps.getD i undef
  unfold checkC at h
  split at h
  · rename_i ex' T' M' hev
    simp only [Bool.and_eq_true] at h
    obtain ⟨⟨⟨⟨h1, h2⟩, h3⟩, h4⟩, h5⟩ := h
    have hex := eqEx_eq h1
    subst hex
    obtain ⟨hnx, hok⟩ := evalC_ok hm hk fuel true 0 c _ _ _ _ _ hev
    have hT : DT (plE pl) (frOf n tl fun i => a.tmps.getD i undef) a := by
      refine ⟨hs.size.symm, fun i => ?_⟩
      show den _ (lookF (tl ++ garb _ n) i) = _
      rcases lookF_app i tl (garb (fun i => a.tmps.getD i undef) n) with ⟨x, g1, g2, g3⟩ | g
      · rw [g3, hs.tmps x g1, g2]
      · rw [g, lookF_garb]
        split
        · rfl
        · rename_i hi
          have : a.tmps.getD i undef = undef := by
            rw [Array.getD_eq_getD_getElem?, Array.getElem?_eq_none (by rw [hs.size]; omega)]; rfl
          rw [this]; rfl
    have hat : ∀ i, (⟨bl.length, memOf 0 bl⟩ : Mem).at i = bl[i]? := fun i => by
      show look (memOf 0 bl) i = _
      rw [look_memOf, if_pos (Nat.zero_le _)]; rfl
    have hmem : ∀ i b, bl[i]? = some b → (i, b) ∈ memOf 0 bl := by
      have : ∀ (l : List Blk) (k i : Nat) (b : Blk), l[i]? = some b → (k + i, b) ∈ memOf k l := by
        intro l
        induction l with
        | nil => intro k i b h; simp at h
        | cons c r ih =>
          intro k i b h
          cases i with
          | zero => simp at h; subst h; exact List.mem_cons_self
          | succ i =>
            rw [show k + (i + 1) = (k + 1) + i by omega]
            exact List.mem_cons_of_mem _ (ih (k + 1) i b (by simpa using h))
      intro i b h
      have := this bl 0 i b h
      rwa [Nat.zero_add] at this
    have hR : Rep (plE pl) ⟨bl.length, memOf 0 bl⟩ w := by
      refine ⟨fun i b hb => ?_, fun i b hb => ?_, fun i j b c p q hb hc' hp hq hpq => ?_, fun i p hi => absurd hi (Nat.not_lt_zero i), Nat.zero_le _, ⟨hKw, hBw, fun i p _ hp => ?_⟩⟩
      · rw [hat] at hb
        exact (List.getElem?_eq_some_iff.1 hb).1
      · rw [hat] at hb
        obtain ⟨p, vs, g1, g2, g3⟩ := hs.blks _ (hmem i b hb)
        have hr : b.row = none := hrow b (List.mem_of_getElem? hb)
        refine ⟨(p, 0), by simp [plE, g1], RepB.of vs.toArray vs g2 g3 (by simp) ?_⟩
        rw [hr]; simp
      · simp only [plE, Option.map_eq_some_iff] at hp hq
        obtain ⟨p', hp', rfl⟩ := hp
        obtain ⟨q', hq', rfl⟩ := hq
        simp only at hpq
        subst hpq
        have hh := List.pairwise_iff_getElem.1 hnd
        obtain ⟨hi, hpi⟩ := List.getElem?_eq_some_iff.1 hp'
        obtain ⟨hj, hqj⟩ := List.getElem?_eq_some_iff.1 hq'
        refine Classical.byContradiction fun hij => ?_
        rcases Nat.lt_or_gt_of_ne hij with hlt | hlt
        · exact hh i j hi hj hlt (hpi.trans hqj.symm)
        · exact hh j i hj hi hlt (hqj.trans hpi.symm)
      · simp only [plE, Option.map_eq_some_iff] at hp
        obtain ⟨p', hp', rfl⟩ := hp
        exact hpl p' (List.mem_of_getElem? hp')
    refine (wpIn_wide (n := 0)).1 (hok none 0 (fun _ => rfl) (plE pl) a w hT (show DFs _ [] _ from hs.defers) hR ⟨Nat.zero_le _, Nat.zero_le _⟩ (fun i hi _ => ?_) Q fun e' a' w' hT' hd' hp' => ?_)
    · simp only [plE, Option.map_eq_none_iff]
      exact List.getElem?_eq_none (by rw [hl]; exact hi)
    · have hms : T'.ms = [] := by
        cases hms : T'.ms with
        | nil => rfl
        | cons x r => rw [hms] at h4; cases h4
      refine hQ a' w' ?_ ?_ (fun x hx v hv => ?_) (fun x hx p vs hp hvs => ?_) ⟨hp'.os, hp'.tape, hp'.output, hp'.size, fun b hb hn => hp'.kept b hb fun i c p hc' hp hpb => ?_⟩
      · rw [← hT'.n, Nat.eq_of_beq_eq_true h5]
      · have := hd'
        unfold DF at this
        rw [hms] at this
        exact this
      · have g := hT'.get x.1
        rw [wantT_spec h2 x hx, den_mono hp'.le _ _ hv] at g
        exact (Option.some.inj g).symm
      · have hat' := wantM_spec h3 x hx
        obtain ⟨q, hq, hB⟩ := hp'.rep.blk _ _ hat'
        have hq0 : e' x.1 = some (p, 0) := hp'.le x.1 (p, 0) (by simp [plE, hp])
        rw [hq0] at hq; cases hq
        obtain ⟨c, us, fz, g1, g2, g3, g4, g5⟩ := hB.ofRow (by simp)
        rw [denL_mono hp'.le _ _ hvs] at g2
        cases g2
        have gz : fz = (0, 0) := g4.resolve_left fun h => by cases h
        have g5 : c.size = vs.length := g5
        have e1 : c.toList = vs := by rw [← g3, List.take_of_length_le (by simp; omega)]
        rw [g1, gz, ← e1]
      · rw [hat] at hc'
        simp only [plE, Option.map_eq_some_iff] at hp
        obtain ⟨p', hp', rfl⟩ := hp
        exact hn (hpb ▸ List.mem_of_getElem? hp')
  · cases h

theorem Near.belowB {pl : List Nat} {B : Nat} {w w' : World} (h : Near pl w w') (hB : B ≤ w.heap.size) (hp : ∀ p ∈ pl, B ≤ p) : Below B w w' :=
  ⟨h.os, h.tape, h.output, h.size, fun k hk => h.block k (by omega) (fun hm => by have := hp k hm; omega)⟩
/-- **A piece of code, worked out**, from and to plain values. -/
theorem code_fsK {P : Program} (hm : P.follows .mixedOrders = true) (sym : Tm → Sym) (lc : List KCall) (le : List KEq) (lv : List KOp) (K : World → Prop) (B : Nat) (kst : ∀ w w', K w → Below B w w' → K w') (hc : ∀ r ∈ lc, CallAt P sym K r) (he : ∀ r ∈ le, EqIs P sym r) (hv : ∀ r ∈ lv, OpAt P sym K r)
    (fuel : Nat) {c : Code} {n : Nat} (tl : List (Nat × CV)) (bl : List Blk) (ex : Ex) (want : List (Nat × CV)) (wantB : List (Nat × Blk)) {a : Act} {w : World} (pl : List Nat)
    (h : ∀ u, @checkC (toldK 0 sym lc le lv K B kst) P fuel c n tl u bl ex want wantB = true)
    (hrow : ∀ b ∈ bl, b.row = none) (hnd : pl.Nodup) (hl : pl.length = bl.length) (hKw : K w) (hBw : B ≤ w.heap.size) (hpl : ∀ p ∈ pl, B ≤ p)
    {tv tv' : List (Nat × Value)} {bv bv' : List (Nat × TypeId × List Value)} (ht : @denT (toldK 0 sym lc le lv K B kst) (plE pl) tl = some tv) (hb : @denB (toldK 0 sym lc le lv K B kst) pl (memOf 0 bl) = some bv)
    (ht' : @denT (toldK 0 sym lc le lv K B kst) (plE pl) want = some tv') (hb' : @denB (toldK 0 sym lc le lv K B kst) pl wantB = some bv') (hs : Fs n tv bv a w)
    {Q : Exit → Act → World → Prop} (hQ : ∀ a' w', Fs n tv' bv' a' w' → Near pl w w' → Q ex.to a' w') : c.wp P Q a w := by
  letI : Ctxt := toldK 0 sym lc le lv K B kst
  refine code_toldK hm sym lc le lv K B kst hc he hv fuel tl bl ex want wantB h hrow hnd hl hKw hBw hpl ⟨hs.size, hs.defers, fun x hx => ?_, fun x hx => ?_⟩ fun a' w' h1 h2 h3 h4 h5 => hQ a' w' ⟨h1, h2, fun y hy => ?_, fun y hy => ?_⟩ h5
  · obtain ⟨v, g1, g2⟩ := (denT_spec ht).1 x hx
    rw [g1, hs.tmps _ g2]
  · obtain ⟨p, vs, g1, g2, g3⟩ := (denB_spec hb).1 x hx
    exact ⟨p, vs, g1, hs.blks _ g3, g2⟩
  · obtain ⟨x, g1, g2, g3⟩ := (denT_spec ht').2 y hy
    rw [← g2]; exact h3 x g1 _ g3
  · obtain ⟨x, g1, g2, g3, g4⟩ := (denB_spec hb').2 y hy
    rw [← g3]; exact h4 x g1 _ _ g2 g4

end Go.Ev
