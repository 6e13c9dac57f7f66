/- A closed call is worked out by a program of its own: code and calls. -/
import Derived.Test.YtopjcpdhfohccaaEvK
namespace Go.Ev

/-! ### A region that draws its order, as a whole -/
def unl : List Bool → Nat
  | [] => 0
  | b :: r => cond b (unl r) (unl r + 1)

theorem unl_set : ∀ (l : List Bool) (i : Nat), l[i]? = some false → unl (l.set i true) + 1 = unl l
  | [], i, h => by simp at h
  | b :: r, 0, h => by simp at h; subst h; simp [unl]
  | b :: r, i + 1, h => by
    have := unl_set r i (by simpa using h)
    cases b <;> simp [unl] <;> omega

theorem unl_zero : ∀ (l : List Bool), unl l = 0 → ∀ (i : Nat), i < l.length → l[i]? = some true
  | [], _, i, h => by simp at h
  | b :: r, h, i, hi => by
    cases b with
    | false => simp [unl] at h
    | true =>
      cases i with
      | zero => rfl
      | succ i => simpa using unl_zero r (by simpa [unl] using h) i (by simpa using hi)

section
variable {P : Program} {call : CallFn} {lim : Nat} {ops : Array Oper} {cls : List (List Nat)} {T0 : Fr} {M0 MF : Mem} {recs : List Rec} {sts : List Sto} {e0 : Env} {w0 : World} {Q : Exit → Act → World → Prop}

theorem ons_mem {o : Oper} {j : Nat} : j ∈ ons o ↔ ∃ e ∈ o.after, Region.binds .any e = true ∧ e.on = j := by
  simp only [ons, List.mem_filterMap, Array.mem_toList_iff]
  constructor
  · rintro ⟨e, he, h⟩
    cases hb : Region.binds .any e with
    | false => rw [hb] at h; cases h
    | true => rw [hb] at h; simp at h; exact ⟨e, he, hb, h⟩
  · rintro ⟨e, he, hb, h⟩
    exact ⟨e, he, by rw [hb]; simp [h]⟩

theorem Inv.congr [Ctxt] {L L' : Nat → Bool} {a : Act} {w : World} (h : L = L') (hI : Inv lim ops T0 M0 MF recs sts e0 w0 L a w) : Inv lim ops T0 M0 MF recs sts e0 w0 L' a w := h ▸ hI

theorem region_any [Ctxt] (C : Ctx P call lim ops cls T0 M0 MF recs sts) (hcall : CallOK P call) (hpl : Ctxt.pin ≤ lim) (hlim : lim ≤ M0.next) (hpin : Ctxt.pin ≤ M0.next)
    (hQ : ∀ a w, (∃ L, (∀ i, i < ops.size → L i = true) ∧ Inv lim ops T0 M0 MF recs sts e0 w0 L a w) → Q .normal a w) :
    ∀ (fuel : Nat) (listed : Array Bool) (a : Act) (w : World), listed.size = ops.size → unl listed.toList ≤ fuel → (∀ i o, ops[i]? = some o → listed.getD i false = true → ∀ j ∈ ons o, listed.getD j false = true) →
      Inv lim ops T0 M0 MF recs sts e0 w0 (fun i => listed.getD i false) a w → wpAny P .any ops Q fuel listed a w := by
  intro fuel
  have ready_iff : ∀ (listed : Array Bool), listed.size = ops.size → ∀ i, i ∈ Region.ready .any ops listed ↔ ∃ o, ops[i]? = some o ∧ listed.getD i false = false ∧ ∀ j ∈ ons o, listed.getD j false = true := by
    intro listed hs i
    rw [mem_ready]
    constructor
    · rintro ⟨h1, o, ho, h2⟩
      have hi : i < listed.size := by rw [hs]; exact (Array.getElem?_eq_some_iff.1 ho).1
      refine ⟨o, ho, ?_, fun j hj => ?_⟩
      · simp only [Array.getD_eq_getD_getElem?, Array.getElem?_eq_getElem hi, Option.getD_some] at h1 ⊢; exact h1
      · obtain ⟨e, he, hb, rfl⟩ := ons_mem.1 hj
        exact h2 e he hb
    · rintro ⟨o, ho, h1, h2⟩
      have hi : i < listed.size := by rw [hs]; exact (Array.getElem?_eq_some_iff.1 ho).1
      refine ⟨?_, o, ho, fun e he hb => h2 e.on (ons_mem.2 ⟨e, he, hb, rfl⟩)⟩
      simp only [Array.getD_eq_getD_getElem?, Array.getElem?_eq_getElem hi, Option.getD_some] at h1 ⊢; exact h1
  have all : ∀ (listed : Array Bool), listed.size = ops.size → Region.ready .any ops listed = [] → ∀ i, i < ops.size → listed.getD i false = true := by
    intro listed hs hr i
    induction i using Nat.strongRecOn with
    | _ i ih =>
      intro hi
      cases h : listed.getD i false with
      | true => rfl
      | false =>
        have : i ∈ Region.ready .any ops listed := (ready_iff listed hs i).2 ⟨ops[i], by simp [hi], h, fun j hj => by
          have hji := C.c1 i ops[i] (by simp [hi]) j hj
          exact ih j hji (by omega)⟩
        rw [hr] at this; cases this
  have fin : ∀ (listed : Array Bool) (a : Act) (w : World), listed.size = ops.size → Inv lim ops T0 M0 MF recs sts e0 w0 (fun i => listed.getD i false) a w → Region.ready .any ops listed = [] → Q .normal a w := fun listed a w hs hI hr => hQ a w ⟨_, all listed hs hr, hI⟩
  induction fuel with
  | zero =>
    intro listed a w hs hu hdn hI
    have hall : ∀ i, i < ops.size → listed.getD i false = true := fun i hi => by
      have := unl_zero listed.toList (by omega) i (by simpa [hs] using hi)
      simp at this
      simp [Array.getD_eq_getD_getElem?, this]
    have hr : Region.ready .any ops listed = [] := by
      rw [List.eq_nil_iff_forall_not_mem]
      intro i hi
      obtain ⟨o, ho, h, _⟩ := (ready_iff listed hs i).1 hi
      rw [hall i (Array.getElem?_eq_some_iff.1 ho).1] at h; cases h
    exact ⟨hr, fin listed a w hs hI hr⟩
  | succ fuel ih =>
    intro listed a w hs hu hdn hI
    refine ⟨fin listed a w hs hI, fun i hi => ?_⟩
    obtain ⟨o, ho, hLi, hready⟩ := (ready_iff listed hs i).1 hi
    have hin : i < listed.size := by rw [hs]; exact (Array.getElem?_eq_some_iff.1 ho).1
    refine C.step hcall hpl hlim hpin ho (L := fun i => listed.getD i false) hLi hdn hready hI (fun a' w' hI' => ?_)
    have hupd : (fun j => (listed.setIfInBounds i true).getD j false) = updL (fun i => listed.getD i false) i := by
      funext j
      simp only [updL, Array.getD_eq_getD_getElem?, Array.getElem?_setIfInBounds]
      by_cases hji : i = j
      · subst hji; simp [hin]
      · rw [if_neg hji, if_neg (fun h => hji h.symm)]
    have hupd' : ∀ j, (listed.setIfInBounds i true).getD j false = if j = i then true else listed.getD j false := fun j => congrFun hupd j
    refine ih (listed.setIfInBounds i true) a' w' (by simp [hs]) ?_ ?_ (hI'.congr hupd.symm)
    · have := unl_set listed.toList i (by
        simp only [Array.getD_eq_getD_getElem?, Array.getElem?_eq_getElem hin, Option.getD_some] at hLi
        simp [hin, hLi])
      simp only [Array.toList_setIfInBounds]
      omega
    · intro j o' ho' hj j' hj'
      rw [hupd'] at hj ⊢
      split
      · rfl
      · split at hj
        · rename_i h1 h2
          subst h2
          rw [ho] at ho'; cases ho'
          exact hready j' hj'
        · exact hdn j o' ho' hj j' hj'
end

theorem evalDraw_next [Ctxt] {P : Program} {call : CallFn} {ops : Array Oper} {cls : List (List Nat)} {a0 : Nat} : ∀ (l : List Oper) (T : Fr) (M : Mem) (recs : List Rec) (sts : List Sto) (r : Fr × Mem × List Rec × List Sto), evalDraw P call ops cls a0 l T M recs sts = some r → M.next ≤ r.2.1.next
  | [], T, M, recs, sts, r, h => by simp [evalDraw] at h; subst h; exact Nat.le_refl _
  | o :: l, T, M, recs, sts, r, h => by
    simp only [evalDraw, Bool.cond_eq_ite] at h
    split at h
    · unfold drawOp at h
      split at h
      · unfold drawStore at h
        split at h
        · exact evalDraw_next l _ _ _ _ r h
        · cases h
      · unfold drawPut at h
        split at h
        · cases h
        · rw [Bool.cond_eq_ite] at h
          split at h
          · rename_i hle
            have h2 := evalDraw_next l _ _ _ _ r h
            have hle := Nat.le_of_ble_eq_true hle
            exact Nat.le_trans hle h2
          · cases h
    · exact evalDraw_next l _ _ _ _ r h

theorem evalRegion_ok [Ctxt] {P : Program} (hm : P.follows .mixedOrders = true) {call : CallFn} (hnext : CallNext call) (hcall : CallOK P call) {lim : Nat} {ops : Array Oper} {T T' : Fr} {M M' : Mem} (h : evalRegion P call lim ops T M = some (T', M')) :
    M.next ≤ M'.next ∧ ∀ (id : Nat) (e : Env) (a : Act) (w : World), DT e T a → a.defers = [] → Rep e M w → (Ctxt.pin ≤ lim ∧ lim ≤ M.next) → (∀ i, M.next ≤ i → i < M'.next → e i = none) →
    ∀ (Q : Exit → Act → World → Prop), (∀ e' a' w', DT e' T' a' → a'.defers = [] → Post lim e M w e' M' w' → Q .normal a' w') → (Code.region id ops true).wp P Q a w := by
  unfold evalRegion at h
  rw [Bool.cond_eq_ite] at h
  split at h
  case isFalse => cases h
  case isTrue hok =>
  unfold regionGo at h
  split at h
  · cases h
  · rename_i r hev
    obtain ⟨TF, MF, recs, sts⟩ := r
    have hdn := evalDraw_next _ _ _ _ _ _ hev
    unfold regionEnd at h
    simp only [Bool.cond_eq_ite] at h
    split at h
    · rename_i hgood
      simp only [Option.some.injEq, Prod.mk.injEq] at h
      obtain ⟨rfl, rfl⟩ := h
      have hMn : (stAll sts (MF.keep (maskAll M.next recs))).next = MF.next := by rw [stAll_eq, stSub_next]; rfl
      refine ⟨by rw [hMn]; exact hdn, fun id e a w hT hd hR hlim hn Q hQ => ?_⟩
      rw [hMn] at hn
      obtain ⟨⟨r2, s2, e1, e2, e3, e4, e5, e6, e7⟩, n1, n2, n3⟩ := evalDraw_spec hnext _ _ _ _ _ _ _ _ _ hev (fun k c hk => hR.wf k c hk)
      simp only [List.nil_append, List.length_nil, Nat.zero_add] at e1 e2 e4 e5 e7
      subst e1; subst e2
      have hdraw : ∀ i o, ops[i]? = some o → (i, o) ∈ indexed 0 ops.toList := fun i o ho => by
        have := indexed_mem ops.toList 0 i o (by simpa using ho)
        rwa [Nat.zero_add] at this
      simp only [drawOK, List.all_eq_true, Bool.and_eq_true] at hok
      have C : Ctx P call lim ops (closures ops.toList ++ [stNames T (indexed 0 ops.toList)]) T M MF recs sts := by
        refine ⟨fun i hi => closures_ext ops _ hi, fun i o ho j hj => ?_, fun i o j o' ho ho' hne h1 h2 d hdd => ?_, by rw [e3]; simp, fun i o ho => ?_, e6, fun s hs => ?_, n1, n2, n3, by simpa using hgood⟩
        · exact blt_iff.1 ((hok _ (hdraw i o ho)).1 j hj)
        · rw [closures_ext ops _ (Array.getElem?_eq_some_iff.1 ho).1] at h1
          rw [closures_ext ops _ (Array.getElem?_eq_some_iff.1 ho').1] at h2
          have := (hok _ (hdraw i o ho)).2 _ (hdraw j o' ho')
          simp only [apartOK, hdd, Bool.or_eq_true, Bool.and_eq_true, memN_iff] at this
          rcases this with ((h | h) | h) | h
          · exact absurd (Nat.eq_of_beq_eq_true h) hne
          · exact absurd h h1
          · exact absurd h h2
          · refine ⟨fun hm => ?_, fun hod => ?_⟩
            · have h3 := h.1
              rw [(memN_iff d _).2 hm] at h3; cases h3
            · have := h.2
              rw [hod] at this
              simp at this
        · obtain ⟨rc, g1, g2, g3, g4⟩ := e7 i o (by simpa using ho)
          exact ⟨rc, g1, g2, fun j rc' hj hr => g3 j rc' hj hr, g4 (by simp)⟩
        · have := (e5 s hs).2; simpa using this
      refine wp_region_any hm ?_
      have hat0 : ∀ k, (memL (fun _ => false) ops.size M.next recs sts MF).at k = M.at k := fun k => by
        rw [memL_at, subB_same sts _ (fun s _ h => by cases h)]
        by_cases hk : k < M.next
        · rw [if_pos (maskL_iff.2 (.inl hk)), n2 k hk]
        · rw [if_neg (fun h => by
            rcases maskL_iff.1 h with h | ⟨i, _, h, _⟩
            · exact hk h
            · cases h)]
          cases hmk : M.at k with
          | none => rfl
          | some c => exact absurd (hR.wf k c hmk) hk
      have hI0 : Inv lim ops T M MF recs sts e w (fun _ => false) a { w with drawn := w.drawn + 1 } := by
        refine ⟨e, by rw [puts_none _ _ _ _ (fun _ _ _ => rfl)]; exact hT, hd, ?_, fun i rc hrc _ k h1 h2 => ?_⟩
        · refine ⟨fun _ _ => rfl, .refl e, by rw [memL_next]; exact n1, fun i _ => hat0 i, ⟨fun i b hb => ?_, fun i b hb => ?_, fun i j b c p q hb hc => ?_, hR.pin, by rw [memL_next]; have := hR.pinN; omega, hR.rest.step ((RowKit.Below.refl _ w).drew)⟩, Nat.le_refl _, fun _ _ _ => rfl, fun i c p hi hc _ => ?_, fun i c _ hc => ⟨c, by rw [← hat0]; exact hc⟩, rfl, rfl, rfl⟩
          · rw [hat0] at hb; rw [memL_next]; have := hR.wf i b hb; omega
          · rw [hat0] at hb
            obtain ⟨p, hp, hB⟩ := hR.blk i b hb
            exact ⟨p, hp, hB.mono (.refl e) rfl⟩
          · rw [hat0] at hb hc
            exact hR.inj i j b c p q hb hc
          · rw [hat0] at hc
            exact absurd (hR.wf i c hc) (by omega)
        · have hin : i < ops.size := by rw [← C.len]; exact (List.getElem?_eq_some_iff.1 hrc).1
          obtain ⟨rc', g1, g2, _, g3⟩ := C.spec i ops[i] (by simp [hin])
          rw [hrc] at g1; cases g1
          have := g3.2.1
          exact hn k (by omega) (by omega)
      refine region_any C hcall hlim.1 hlim.2 hR.pinN ?_ ops.size (Array.replicate ops.size false) a _ (by simp) ?_ ?_ ?_ (e0 := e) (w0 := w)
      · rintro a' w' ⟨L, hL, e', hT', hd', hp', _⟩
        refine hQ e' a' w' ?_ hd' (hp'.congr (by rw [hMn, memL_next]) (fun k => ?_))
        · rw [e4, puts_congr (f := fun _ => true) (g := L) _ _ _ (fun k _ hk => ?_)]
          · exact hT'
          · have : k < ops.size := by
              simp only [dsts, List.length_zipWith, Array.length_toList] at hk; omega
            exact (hL k this).symm
        · rw [stAll_eq, stSub_at, memL_at, Mem.at_keep]
          rw [subB_congr (f := L) (g := fun _ => true) sts _ (fun s hs => hL s.ix (C.six s hs))]
          congr 1
          have : maskAll M.next recs k = maskL L ops.size M.next recs k := by
            rw [Bool.eq_iff_iff, maskL_iff]
            simp only [maskAll, Bool.or_eq_true, blt_iff, List.any_eq_true, List.mem_range, C.len]
            exact or_congr Iff.rfl ⟨fun ⟨i, h1, h2⟩ => ⟨i, h1, hL i h1, h2⟩, fun ⟨i, h1, _, h2⟩ => ⟨i, h1, h2⟩⟩
          rw [this]
      · have : ∀ (n : Nat), unl (List.replicate n false) = n := fun n => by
          induction n with
          | zero => rfl
          | succ n ih => simp [List.replicate_succ, unl, ih]
        simp [this]
      · intro i o ho hj
        have hin : i < ops.size := (Array.getElem?_eq_some_iff.1 ho).1
        simp [Array.getD_eq_getD_getElem?, hin] at hj
      · refine hI0.congr ?_
        funext i
        by_cases hi : i < ops.size <;> simp [Array.getD_eq_getD_getElem?, hi]
    · cases h

end Go.Ev
