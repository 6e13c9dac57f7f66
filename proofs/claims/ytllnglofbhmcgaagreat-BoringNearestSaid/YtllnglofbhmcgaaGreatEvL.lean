/- A closed call is worked out by a program of its own: code and calls. -/
import Derived.Test.YtllnglofbhmcgaaGreatEvW
namespace Go.Ev

/-! ### A region that draws its order, as a whole -/
def unl : List Bool → Nat
  | [] => 0
  | b :: r => cond b (unl r) (unl r + 1)

theorem unl_set : ∀ (l : List Bool) (i : Nat), l[i]? = some false → unl (l.set i true) + 1 = unl l
  | [], i, h => by simp at h
  | b :: r, 0, h => by simp at h; subst h; simp [unl]
  | b :: r, i + 1, h => by
    have := unl_set r i (by simpa using h)
    cases b <;> simp [unl] <;> omega

theorem unl_zero : ∀ (l : List Bool), unl l = 0 → ∀ (i : Nat), i < l.length → l[i]? = some true
  | [], _, i, h => by simp at h
  | b :: r, h, i, hi => by
    cases b with
    | false => simp [unl] at h
    | true =>
      cases i with
      | zero => rfl
      | succ i => simpa using unl_zero r (by simpa [unl] using h) i (by simpa using hi)

section
variable {P : Program} {call : CallFn} {lim : Nat} {ops : Array Oper} {cls : List (List Nat)} {T0 : Fr} {M0 MF : Mem} {recs : List Rec} {sts : List Sto} {e0 : Env} {w0 : World} {Q : Exit → Act → World → Prop}

theorem ons_mem {o : Oper} {j : Nat} : j ∈ ons o ↔ ∃ e ∈ o.after, Region.binds .any e = true ∧ e.on = j := by
  simp only [ons, List.mem_filterMap, Array.mem_toList_iff]
  constructor
  · rintro ⟨e, he, h⟩
    cases hb : Region.binds .any e with
    | false => rw [hb] at h; cases h
    | true => rw [hb] at h; simp at h; exact ⟨e, he, hb, h⟩
  · rintro ⟨e, he, hb, h⟩
    exact ⟨e, he, by rw [hb]; simp [h]⟩

theorem Inv.congr [Ctxt] {L L' : Nat → Bool} {a : Act} {w : World} (h : L = L') (hI : Inv lim ops T0 M0 MF recs sts e0 w0 L a w) : Inv lim ops T0 M0 MF recs sts e0 w0 L' a w := h ▸ hI

theorem region_any [Ctxt] (C : Ctx P call lim ops cls T0 M0 MF recs sts) (hcall : CallOK P call) (hpl : Ctxt.pin ≤ lim) (hlim : lim ≤ M0.next) (hpin : Ctxt.pin ≤ M0.next)
    (ro : Option Nat) (nn : Nat) (hQ : ∀ a w, (∃ L, (∀ i, i < ops.size → L i = true) ∧ Inv lim ops T0 M0 MF recs sts e0 w0 L a w) → Q .normal a w) :
    ∀ (fuel : Nat) (listed : Array Bool) (a : Act) (w : World), listed.size = ops.size → unl listed.toList ≤ fuel → (∀ i o, ops[i]? = some o → listed.getD i false = true → ∀ j ∈ ons o, listed.getD j false = true) →
      Inv lim ops T0 M0 MF recs sts e0 w0 (fun i => listed.getD i false) a w → wpAnyIn (FW ro) nn P .any ops Q fuel listed a w := by
  intro fuel
  have ready_iff : ∀ (listed : Array Bool), listed.size = ops.size → ∀ i, i ∈ Region.ready .any ops listed ↔ ∃ o, ops[i]? = some o ∧ listed.getD i false = false ∧ ∀ j ∈ ons o, listed.getD j false = true := by
    intro listed hs i
    rw [mem_ready]
    constructor
    · rintro ⟨h1, o, ho, h2⟩
      have hi : i < listed.size := by rw [hs]; exact (Array.getElem?_eq_some_iff.1 ho).1
      refine ⟨o, ho, ?_, fun j hj => ?_⟩
      · simp only [Array.getD_eq_getD_getElem?, Array.getElem?_eq_getElem hi, Option.getD_some] at h1 ⊢; exact h1
      · obtain ⟨e, he, hb, rfl⟩ := ons_mem.1 hj
        exact h2 e he hb
    · rintro ⟨o, ho, h1, h2⟩
      have hi : i < listed.size := by rw [hs]; exact (Array.getElem?_eq_some_iff.1 ho).1
      refine ⟨?_, o, ho, fun e he hb => h2 e.on (ons_mem.2 ⟨e, he, hb, rfl⟩)⟩
      simp only [Array.getD_eq_getD_getElem?, Array.getElem?_eq_getElem hi, Option.getD_some] at h1 ⊢; exact h1
  have all : ∀ (listed : Array Bool), listed.size = ops.size → Region.ready .any ops listed = [] → ∀ i, i < ops.size → listed.getD i false = true := by
    intro listed hs hr i
    induction i using Nat.strongRecOn with
    | _ i ih =>
      intro hi
      cases h : listed.getD i false with
      | true => rfl
      | false =>
        have : i ∈ Region.ready .any ops listed := (ready_iff listed hs i).2 ⟨ops[i], by simp [hi], h, fun j hj => by
          have hji := C.c1 i ops[i] (by simp [hi]) j hj
          exact ih j hji (by omega)⟩
        rw [hr] at this; cases this
  have fin : ∀ (listed : Array Bool) (a : Act) (w : World), listed.size = ops.size → Inv lim ops T0 M0 MF recs sts e0 w0 (fun i => listed.getD i false) a w → Region.ready .any ops listed = [] → Q .normal a w := fun listed a w hs hI hr => hQ a w ⟨_, all listed hs hr, hI⟩
  induction fuel with
  | zero =>
    intro listed a w hs hu hdn hI
    have hall : ∀ i, i < ops.size → listed.getD i false = true := fun i hi => by
      have := unl_zero listed.toList (by omega) i (by simpa [hs] using hi)
      simp at this
      simp [Array.getD_eq_getD_getElem?, this]
    have hr : Region.ready .any ops listed = [] := by
      rw [List.eq_nil_iff_forall_not_mem]
      intro i hi
      obtain ⟨o, ho, h, _⟩ := (ready_iff listed hs i).1 hi
      rw [hall i (Array.getElem?_eq_some_iff.1 ho).1] at h; cases h
    exact ⟨hr, fin listed a w hs hI hr⟩
  | succ fuel ih =>
    intro listed a w hs hu hdn hI
    refine ⟨fin listed a w hs hI, fun i hi => ?_⟩
    obtain ⟨o, ho, hLi, hready⟩ := (ready_iff listed hs i).1 hi
    have hin : i < listed.size := by rw [hs]; exact (Array.getElem?_eq_some_iff.1 ho).1
    refine C.step hcall hpl hlim hpin ho (L := fun i => listed.getD i false) hLi hdn hready hI (fun a' w' hI' => ?_) ro nn
    have hupd : (fun j => (listed.setIfInBounds i true).getD j false) = updL (fun i => listed.getD i false) i := by
      funext j
      simp only [updL, Array.getD_eq_getD_getElem?, Array.getElem?_setIfInBounds]
      by_cases hji : i = j
      · subst hji; simp [hin]
      · rw [if_neg hji, if_neg (fun h => hji h.symm)]
    have hupd' : ∀ j, (listed.setIfInBounds i true).getD j false = if j = i then true else listed.getD j false := fun j => congrFun hupd j
    refine ih (listed.setIfInBounds i true) a' w' (by simp [hs]) ?_ ?_ (hI'.congr hupd.symm)
    · have := unl_set listed.toList i (by
        simp only [Array.getD_eq_getD_getElem?, Array.getElem?_eq_getElem hin, Option.getD_some] at hLi
        simp [hin, hLi])
      simp only [Array.toList_setIfInBounds]
      omega
    · intro j o' ho' hj j' hj'
      rw [hupd'] at hj ⊢
      split
      · rfl
      · split at hj
        · rename_i h1 h2
          subst h2
          rw [ho] at ho'; cases ho'
          exact hready j' hj'
        · exact hdn j o' ho' hj j' hj'
theorem chain_any [Ctxt] {yld : YldFn} {cl : List Inf} {ds : List (Option Tmp × CV)} {ms : Nat → Mem} (C : CC P call yld lim ops cls cl T0 M0 MF ds ms sts) (hcall : CallOK P call) (hyl : YldOK P yld) (hpl : Ctxt.pin ≤ lim) (hlim : lim ≤ M0.next) (hnone : ∀ k, M0.next ≤ k → k < MF.next → e0 k = none)
    (ro : Option Nat) (nn : Nat) (hQ : ∀ a w, (∃ L, (∀ i, i < ops.size → L i = true) ∧ InvC lim ops cl T0 M0 ds ms sts e0 w0 L a w) → Q .normal a w) :
    ∀ (fuel : Nat) (listed : Array Bool) (a : Act) (w : World), listed.size = ops.size → unl listed.toList ≤ fuel → (∀ i o, ops[i]? = some o → listed.getD i false = true → ∀ j ∈ ons o, listed.getD j false = true) →
      InvC lim ops cl T0 M0 ds ms sts e0 w0 (fun i => listed.getD i false) a w → wpAnyIn (FW ro) nn P .any ops Q fuel listed a w := by
  intro fuel
  have ready_iff : ∀ (listed : Array Bool), listed.size = ops.size → ∀ i, i ∈ Region.ready .any ops listed ↔ ∃ o, ops[i]? = some o ∧ listed.getD i false = false ∧ ∀ j ∈ ons o, listed.getD j false = true := by
    intro listed hs i
    rw [mem_ready]
    constructor
    · rintro ⟨h1, o, ho, h2⟩
      have hi : i < listed.size := by rw [hs]; exact (Array.getElem?_eq_some_iff.1 ho).1
      refine ⟨o, ho, ?_, fun j hj => ?_⟩
      · simp only [Array.getD_eq_getD_getElem?, Array.getElem?_eq_getElem hi, Option.getD_some] at h1 ⊢; exact h1
      · obtain ⟨e, he, hb, rfl⟩ := ons_mem.1 hj
        exact h2 e he hb
    · rintro ⟨o, ho, h1, h2⟩
      have hi : i < listed.size := by rw [hs]; exact (Array.getElem?_eq_some_iff.1 ho).1
      refine ⟨?_, o, ho, fun e he hb => h2 e.on (ons_mem.2 ⟨e, he, hb, rfl⟩)⟩
      simp only [Array.getD_eq_getD_getElem?, Array.getElem?_eq_getElem hi, Option.getD_some] at h1 ⊢; exact h1
  have all : ∀ (listed : Array Bool), listed.size = ops.size → Region.ready .any ops listed = [] → ∀ i, i < ops.size → listed.getD i false = true := by
    intro listed hs hr i
    induction i using Nat.strongRecOn with
    | _ i ih =>
      intro hi
      cases h : listed.getD i false with
      | true => rfl
      | false =>
        have : i ∈ Region.ready .any ops listed := (ready_iff listed hs i).2 ⟨ops[i], by simp [hi], h, fun j hj => by
          have hji := C.c1 i ops[i] (by simp [hi]) j hj
          exact ih j hji (by omega)⟩
        rw [hr] at this; cases this
  have fin : ∀ (listed : Array Bool) (a : Act) (w : World), listed.size = ops.size → InvC lim ops cl T0 M0 ds ms sts e0 w0 (fun i => listed.getD i false) a w → Region.ready .any ops listed = [] → Q .normal a w := fun listed a w hs hI hr => hQ a w ⟨_, all listed hs hr, hI⟩
  induction fuel with
  | zero =>
    intro listed a w hs hu hdn hI
    have hall : ∀ i, i < ops.size → listed.getD i false = true := fun i hi => by
      have := unl_zero listed.toList (by omega) i (by simpa [hs] using hi)
      simp at this
      simp [Array.getD_eq_getD_getElem?, this]
    have hr : Region.ready .any ops listed = [] := by
      rw [List.eq_nil_iff_forall_not_mem]
      intro i hi
      obtain ⟨o, ho, h, _⟩ := (ready_iff listed hs i).1 hi
      rw [hall i (Array.getElem?_eq_some_iff.1 ho).1] at h; cases h
    exact ⟨hr, fin listed a w hs hI hr⟩
  | succ fuel ih =>
    intro listed a w hs hu hdn hI
    refine ⟨fin listed a w hs hI, fun i hi => ?_⟩
    obtain ⟨o, ho, hLi, hready⟩ := (ready_iff listed hs i).1 hi
    have hin : i < listed.size := by rw [hs]; exact (Array.getElem?_eq_some_iff.1 ho).1
    refine C.step hcall hyl hpl hlim hnone ho (L := fun i => listed.getD i false) hLi hdn hready hI (fun a' w' hI' => ?_) ro nn
    have hupd : (fun j => (listed.setIfInBounds i true).getD j false) = updL (fun i => listed.getD i false) i := by
      funext j
      simp only [updL, Array.getD_eq_getD_getElem?, Array.getElem?_setIfInBounds]
      by_cases hji : i = j
      · subst hji; simp [hin]
      · rw [if_neg hji, if_neg (fun h => hji h.symm)]
    have hupd' : ∀ j, (listed.setIfInBounds i true).getD j false = if j = i then true else listed.getD j false := fun j => congrFun hupd j
    refine ih (listed.setIfInBounds i true) a' w' (by simp [hs]) ?_ ?_ (hupd.symm ▸ hI')
    · have := unl_set listed.toList i (by
        simp only [Array.getD_eq_getD_getElem?, Array.getElem?_eq_getElem hin, Option.getD_some] at hLi
        simp [hin, hLi])
      simp only [Array.toList_setIfInBounds]
      omega
    · intro j o' ho' hj j' hj'
      rw [hupd'] at hj ⊢
      split
      · rfl
      · split at hj
        · rename_i h1 h2
          subst h2
          rw [ho] at ho'; cases ho'
          exact hready j' hj'
        · exact hdn j o' ho' hj j' hj'
end

theorem evalDraw_next [Ctxt] {P : Program} {call : CallFn} {ops : Array Oper} {cls : List (List Nat)} {a0 : Nat} : ∀ (l : List Oper) (T : Fr) (M : Mem) (recs : List Rec) (sts : List Sto) (r : Fr × Mem × List Rec × List Sto), evalDraw P call ops cls a0 l T M recs sts = some r → M.next ≤ r.2.1.next
  | [], T, M, recs, sts, r, h => by simp [evalDraw] at h; subst h; exact Nat.le_refl _
  | o :: l, T, M, recs, sts, r, h => by
    simp only [evalDraw, Bool.cond_eq_ite] at h
    split at h
    · unfold drawOp at h
      split at h
      · unfold drawStore at h
        split at h
        · exact evalDraw_next l _ _ _ _ r h
        · cases h
      · unfold drawPut at h
        split at h
        · cases h
        · rw [Bool.cond_eq_ite] at h
          split at h
          · rename_i hle
            have h2 := evalDraw_next l _ _ _ _ r h
            have hle := Nat.le_of_ble_eq_true hle
            exact Nat.le_trans hle h2
          · cases h
    · exact evalDraw_next l _ _ _ _ r h

/-! ### What the checks of a region say -/
theorem drawGo_spec {ops : Array Oper} : ∀ (l : List Oper) (i : Nat) (ms : List Nat) (acc : List (Nat × Oper)), drawGo ops i l ms acc = true → ∀ k o, l[k]? = some o →
    (∀ j ∈ ons o, j < i + k) ∧ (∀ y ∈ acc, bitOf (ms.getD k 0) y.1 = true ∨ apart2 ops o y.2 = true) ∧ (∀ k' o', k' < k → l[k']? = some o' → bitOf (ms.getD k 0) (i + k') = true ∨ apart2 ops o o' = true)
  | [], _, _, _, _, k, o, h => by simp at h
  | _ :: _, _, [], _, hg, _, _, _ => by simp [drawGo] at hg
  | x :: r, i, m :: ms, acc, hg, k, o, h => by
    simp only [drawGo, Bool.and_eq_true, List.all_eq_true, Bool.or_eq_true] at hg
    obtain ⟨⟨g1, g2⟩, g3⟩ := hg
    cases k with
    | zero =>
      simp at h; subst h
      exact ⟨fun j hj => blt_iff.1 (g1 j hj), fun y hy => g2 y hy, fun k' _ hk' => by omega⟩
    | succ k =>
      obtain ⟨f1, f2, f3⟩ := drawGo_spec r (i + 1) ms _ g3 k o (by simpa using h)
      refine ⟨fun j hj => by have := f1 j hj; omega, fun y hy => ?_, fun k' o' hk' ho' => ?_⟩
      · have := f2 y (List.mem_cons_of_mem _ hy)
        simpa using this
      · cases k' with
        | zero =>
          simp at ho'; subst ho'
          have := f2 (i, x) (List.mem_cons_self ..)
          simpa using this
        | succ k' =>
          have := f3 k' o' (by omega) (by simpa using ho')
          rw [show i + 1 + k' = i + (k' + 1) by omega] at this
          simpa using this

theorem apart2_spec {ops : Array Oper} {o o' : Oper} (h : apart2 ops o o' = true) : (∀ d, o'.dst = some d → d ∉ o.looksAt ops ∧ o.dst ≠ some d) ∧ (∀ d, o.dst = some d → d ∉ o'.looksAt ops ∧ o'.dst ≠ some d) := by
  simp only [apart2, Bool.and_eq_true] at h
  obtain ⟨⟨h1, h2⟩, h3⟩ := h
  have off : ∀ {a b : Oper}, dstOff ops a b = true → ∀ d, b.dst = some d → d ∉ a.looksAt ops := by
    intro a b hab d hd hm
    unfold dstOff at hab
    rw [hd] at hab
    simp only [Bool.not_eq_true'] at hab
    rw [(memN_iff d _).2 hm] at hab; cases hab
  have ne : ∀ d, o.dst = some d → o'.dst = some d → False := by
    intro d g1 g2
    unfold dstNe at h3
    rw [g1, g2] at h3
    simp at h3
  exact ⟨fun d hd => ⟨off h1 d hd, fun g => ne d g hd⟩, fun d hd => ⟨off h2 d hd, fun g => ne d hd g⟩⟩

theorem drawOK_spec {ops : Array Oper} (h : drawOK ops = true) : (∀ i o, ops[i]? = some o → ∀ j ∈ ons o, j < i) ∧
    (∀ i o j o', ops[i]? = some o → ops[j]? = some o' → i ≠ j → j ∉ (closures ops.toList).getD i [] → i ∉ (closures ops.toList).getD j [] → ∀ d, o'.dst = some d → d ∉ o.looksAt ops ∧ o.dst ≠ some d) := by
  have hs := drawGo_spec _ _ _ _ h
  refine ⟨fun i o ho j hj => ?_, fun i o j o' ho ho' hne h1 h2 d hd => ?_⟩
  · have := (hs i o (by simpa using ho)).1 j hj; omega
  · have hi : i < ops.toList.length := by simpa using (Array.getElem?_eq_some_iff.1 ho).1
    have hj : j < ops.toList.length := by simpa using (Array.getElem?_eq_some_iff.1 ho').1
    rcases Nat.lt_or_ge j i with hlt | hge
    · rcases (hs i o (by simpa using ho)).2.2 j o' hlt (by simpa using ho') with g | g
      · rw [Nat.zero_add] at g
        exact absurd (closures_mem.2 ⟨hj, hi, g⟩) h1
      · exact (apart2_spec g).1 d hd
    · rcases (hs j o' (by simpa using ho')).2.2 i o (by omega) (by simpa using ho) with g | g
      · rw [Nat.zero_add] at g
        exact absurd (closures_mem.2 ⟨hi, hj, g⟩) h2
      · exact (apart2_spec g).2 d hd

theorem rawI_get : ∀ (l : List Oper) (i : Nat) (ms : List Nat) (k : Nat) (x : Nat × Nat × Nat), (rawI i l ms)[k]? = some x → x.1 = i + k ∧ x.2.2 = ms.getD k 0
  | [], i, ms, k, x, h => by simp [rawI] at h
  | _ :: _, i, [], k, x, h => by simp [rawI] at h
  | o :: r, i, m :: ms, k, x, h => by
    cases k with
    | zero => simp [rawI] at h; subst h; exact ⟨rfl, rfl⟩
    | succ k =>
      have := rawI_get r (i + 1) ms k x (by simpa [rawI] using h)
      exact ⟨by omega, by simpa using this.2⟩

theorem refineI_same (l : List (Nat × Nat × Nat)) (x : Nat × Nat × Nat) : (refineI l x).1 = x.1 ∧ (refineI l x).2.2 = x.2.2 := by
  unfold refineI
  exact ⟨rfl, rfl⟩

theorem infos_get {l : List Oper} {k : Nat} {q : Inf} (h : (infos l)[k]? = some q) : ∃ x ∈ refines (rawI 0 l (masks l [])), q = flagI (refines (rawI 0 l (masks l []))) x ∧ x.1 = k ∧ x.2.2 = (masks l []).getD k 0 := by
  unfold infos flags at h
  rw [List.getElem?_map] at h
  obtain ⟨x, hx, rfl⟩ := Option.map_eq_some_iff.1 h
  refine ⟨x, List.mem_of_getElem? hx, rfl, ?_⟩
  unfold refines at hx
  rw [List.getElem?_map] at hx
  obtain ⟨y, hy, rfl⟩ := Option.map_eq_some_iff.1 hx
  have h1 := refineI_same (rawI 0 l (masks l [])) y
  have h2 := rawI_get l 0 _ k y hy
  exact ⟨by rw [h1.1]; omega, by rw [h1.2]; exact h2.2⟩

theorem chainGo_spec : ∀ (l acc : List Inf), chainGo l acc = true → ∀ (k : Nat) (x : Inf), l[k]? = some x → x.2.1 ≠ 0 → (∀ y ∈ acc, pairOK x y = true) ∧ ∀ (k' : Nat) (y : Inf), k' < k → l[k']? = some y → y.2.1 ≠ 0 → pairOK x y = true
  | [], _, _, k, x, h, _ => by simp at h
  | z :: r, acc, hg, k, x, h, h0 => by
    have tail : ∀ acc', chainGo r acc' = true → (∀ y ∈ acc, y ∈ acc') → (z.2.1 ≠ 0 → z ∈ acc') → ∀ k : Nat, r[k]? = some x → (∀ y ∈ acc, pairOK x y = true) ∧ ∀ (k' : Nat) (y : Inf), k' < k + 1 → (z :: r)[k']? = some y → y.2.1 ≠ 0 → pairOK x y = true := by
      intro acc' hg' ha hz k hk
      obtain ⟨f1, f2⟩ := chainGo_spec r acc' hg' k x hk h0
      refine ⟨fun y hy => f1 y (ha y hy), fun k' y hk' hy hy0 => ?_⟩
      cases k' with
      | zero => simp at hy; subst hy; exact f1 z (hz hy0)
      | succ k' => exact f2 k' y (by omega) (by simpa using hy) hy0
    simp only [chainGo, Bool.cond_eq_ite] at hg
    split at hg
    · rename_i hz
      have hz := Nat.eq_of_beq_eq_true hz
      cases k with
      | zero => simp at h; subst h; exact absurd hz h0
      | succ k => exact tail acc hg (fun _ h => h) (fun h => absurd hz h) k (by simpa using h)
    · simp only [Bool.and_eq_true, List.all_eq_true] at hg
      cases k with
      | zero =>
        simp at h; subst h
        exact ⟨hg.1, fun k' _ hk' => by omega⟩
      | succ k => exact tail (z :: acc) hg.2 (fun y hy => List.mem_cons_of_mem _ hy) (fun _ => List.mem_cons_self ..) k (by simpa using h)

theorem regionGo_ok [Ctxt] {P : Program} (hm : P.follows .mixedOrders = true) {call : CallFn} (hnext : CallNext call) (hcall : CallOK P call) {lim : Nat} {ops : Array Oper} {T T' : Fr} {M M' : Mem} (hok : drawOK ops = true) (h : regionGo P call lim ops (closures ops.toList ++ [stNames T (indexed 0 ops.toList)]) T M = some (T', M')) :
    M.next ≤ M'.next ∧ ∀ (id : Nat) (e : Env) (a : Act) (w : World), DT e T a → DF e T a → Rep e M w → (Ctxt.pin ≤ lim ∧ lim ≤ M.next) → (∀ i, M.next ≤ i → i < M'.next → e i = none) →
    ∀ (Q : Exit → Act → World → Prop), (∀ e' a' w', DT e' T' a' → DF e' T' a' → Post lim e M w e' M' w' → Q .normal a' w') → ∀ (ro : Option Nat) (nn : Nat), (Code.region id ops true).wpIn (FW ro) nn P Q a w := by
  unfold regionGo at h
  split at h
  · cases h
  · rename_i r hev
    obtain ⟨TF, MF, recs, sts⟩ := r
    have hdn := evalDraw_next _ _ _ _ _ _ hev
    unfold regionEnd at h
    simp only [Bool.cond_eq_ite] at h
    split at h
    · rename_i hgood
      simp only [Option.some.injEq, Prod.mk.injEq] at h
      obtain ⟨rfl, rfl⟩ := h
      have hMn : (stAll sts (MF.keep (maskAll M.next recs))).next = MF.next := by rw [stAll_eq, stSub_next]; rfl
      refine ⟨by rw [hMn]; exact hdn, fun id e a w hT hd hR hlim hn Q hQ ro nn => ?_⟩
      rw [hMn] at hn
      obtain ⟨⟨r2, s2, e1, e2, e3, e4, e5, e6, e7⟩, n1, n2, n3⟩ := evalDraw_spec hnext _ _ _ _ _ _ _ _ _ hev (fun k c hk => hR.wf k c hk)
      simp only [List.nil_append, List.length_nil, Nat.zero_add] at e1 e2 e4 e5 e7
      subst e1; subst e2
      have hdraw : ∀ i o, ops[i]? = some o → (i, o) ∈ indexed 0 ops.toList := fun i o ho => by
        have := indexed_mem ops.toList 0 i o (by simpa using ho)
        rwa [Nat.zero_add] at this
      obtain ⟨hc1, hc2⟩ := drawOK_spec hok
      have C : Ctx P call lim ops (closures ops.toList ++ [stNames T (indexed 0 ops.toList)]) T M MF recs sts := by
        refine ⟨fun i hi => closures_ext ops _ hi, hc1, fun i o j o' ho ho' hne h1 h2 d hdd => ?_, by rw [e3]; simp, fun i o ho => ?_, e6, fun s hs => ?_, n1, n2, n3, by simpa using hgood⟩
        · rw [closures_ext ops _ (Array.getElem?_eq_some_iff.1 ho).1] at h1
          rw [closures_ext ops _ (Array.getElem?_eq_some_iff.1 ho').1] at h2
          exact hc2 i o j o' ho ho' hne h1 h2 d hdd
        · obtain ⟨rc, g1, g2, g3, g4⟩ := e7 i o (by simpa using ho)
          exact ⟨rc, g1, g2, fun j rc' hj hr => g3 j rc' hj hr, g4 (by simp)⟩
        · have := (e5 s hs).2; simpa using this
      refine wpIn_region_any hm ?_
      have hat0 : ∀ k, (memL (fun _ => false) ops.size M.next recs sts MF).at k = M.at k := fun k => by
        rw [memL_at, subB_same sts _ (fun s _ h => by cases h)]
        by_cases hk : k < M.next
        · rw [if_pos (maskL_iff.2 (.inl hk)), n2 k hk]
        · rw [if_neg (fun h => by
            rcases maskL_iff.1 h with h | ⟨i, _, h, _⟩
            · exact hk h
            · cases h)]
          cases hmk : M.at k with
          | none => rfl
          | some c => exact absurd (hR.wf k c hmk) hk
      have hI0 : Inv lim ops T M MF recs sts e w (fun _ => false) a { w with drawn := w.drawn + 1 } := by
        refine ⟨e, by rw [puts_none _ _ _ _ (fun _ _ _ => rfl)]; exact hT, hd, ?_, fun i rc hrc _ k h1 h2 => ?_⟩
        · refine ⟨fun _ _ => rfl, .refl e, by rw [memL_next]; exact n1, fun i _ => hat0 i, ⟨fun i b hb => ?_, fun i b hb => ?_, fun i j b c p q hb hc => ?_, hR.pin, by rw [memL_next]; have := hR.pinN; omega, hR.rest.step ((RowKit.Below.refl _ w).drew)⟩, Nat.le_refl _, fun _ _ _ => rfl, fun i c p hi hc _ => ?_, fun i c _ hc => ⟨c, by rw [← hat0]; exact hc⟩, rfl, rfl, rfl⟩
          · rw [hat0] at hb; rw [memL_next]; have := hR.wf i b hb; omega
          · rw [hat0] at hb
            obtain ⟨p, hp, hB⟩ := hR.blk i b hb
            exact ⟨p, hp, hB.mono (.refl e) rfl⟩
          · rw [hat0] at hb hc
            exact hR.inj i j b c p q hb hc
          · rw [hat0] at hc
            exact absurd (hR.wf i c hc) (by omega)
        · have hin : i < ops.size := by rw [← C.len]; exact (List.getElem?_eq_some_iff.1 hrc).1
          obtain ⟨rc', g1, g2, _, g3⟩ := C.spec i ops[i] (by simp [hin])
          rw [hrc] at g1; cases g1
          have := g3.2.1
          exact hn k (by omega) (by omega)
      refine region_any C hcall hlim.1 hlim.2 hR.pinN ro nn ?_ ops.size (Array.replicate ops.size false) a _ (by simp) ?_ ?_ ?_ (e0 := e) (w0 := w)
      · rintro a' w' ⟨L, hL, e', hT', hd', hp', _⟩
        refine hQ e' a' w' ?_ (by unfold DF; rw [e4, puts_ms]; exact hd') (hp'.congr (by rw [hMn, memL_next]) (fun k => ?_))
        · rw [e4, puts_congr (f := fun _ => true) (g := L) _ _ _ (fun k _ hk => ?_)]
          · exact hT'
          · have : k < ops.size := by
              simp only [dsts, List.length_zipWith, Array.length_toList] at hk; omega
            exact (hL k this).symm
        · rw [stAll_eq, stSub_at, memL_at, Mem.at_keep]
          rw [subB_congr (f := L) (g := fun _ => true) sts _ (fun s hs => hL s.ix (C.six s hs))]
          congr 1
          have : maskAll M.next recs k = maskL L ops.size M.next recs k := by
            rw [Bool.eq_iff_iff, maskL_iff]
            simp only [maskAll, Bool.or_eq_true, blt_iff, List.any_eq_true, List.mem_range, C.len]
            exact or_congr Iff.rfl ⟨fun ⟨i, h1, h2⟩ => ⟨i, h1, hL i h1, h2⟩, fun ⟨i, h1, _, h2⟩ => ⟨i, h1, h2⟩⟩
          rw [this]
      · have : ∀ (n : Nat), unl (List.replicate n false) = n := fun n => by
          induction n with
          | zero => rfl
          | succ n ih => simp [List.replicate_succ, unl, ih]
        simp [this]
      · intro i o ho hj
        have hin : i < ops.size := (Array.getElem?_eq_some_iff.1 ho).1
        simp [Array.getD_eq_getD_getElem?, hin] at hj
      · refine hI0.congr ?_
        funext i
        by_cases hi : i < ops.size <;> simp [Array.getD_eq_getD_getElem?, hi]
    · cases h

theorem chain_ok [Ctxt] {P : Program} (hm : P.follows .mixedOrders = true) {call : CallFn} {yld : YldFn} (hnext : CallNext call) (hcall : CallOK P call) (hyl : YldOK P yld) {lim : Nat} {ops : Array Oper} {T T' : Fr} {M M' : Mem} (hok : drawOK ops = true)
    (hch : chainGo (infos ops.toList) [] = true) (h : chainEnd P lim (evalChain P call yld lim ops ops.toList (infos ops.toList) [] T M []) = some (T', M')) :
    M.next ≤ M'.next ∧ ∀ (id : Nat) (e : Env) (a : Act) (w : World), DT e T a → DF e T a → Rep e M w → (Ctxt.pin ≤ lim ∧ lim ≤ M.next) → (∀ i, M.next ≤ i → i < M'.next → e i = none) →
    ∀ (Q : Exit → Act → World → Prop), (∀ e' a' w', DT e' T' a' → DF e' T' a' → Post lim e M w e' M' w' → Q .normal a' w') → ∀ (ro : Option Nat) (nn : Nat), (Code.region id ops true).wpIn (FW ro) nn P Q a w := by
  unfold chainEnd at h
  split at h
  case h_2 => cases h
  case h_1 r hev =>
  obtain ⟨TF, MF, sts⟩ := r
  rw [Bool.cond_eq_ite] at h
  split at h
  case isFalse => cases h
  case isTrue hgood =>
  simp only [Option.some.injEq, Prod.mk.injEq] at h
  obtain ⟨rfl, rfl⟩ := h
  simp only [List.all_eq_true, Bool.and_eq_true] at hgood
  obtain ⟨ds, ms, s2, e1, e2, e3, e4, e6, e7, e8, e5⟩ := evalChain_spec _ _ 0 _ _ _ _ _ _ _ hev (fun j q hq => by obtain ⟨x, _, rfl, hx, _⟩ := infos_get hq; rw [Nat.zero_add]; exact hx)
  rw [List.nil_append] at e6
  subst e6
  have hMn : (stAll sts MF).next = MF.next := by rw [stAll_eq, stSub_next]
  obtain ⟨hc1, hc2⟩ := drawOK_spec hok
  have hgo := chainGo_spec _ _ hch
  have bit : ∀ {i q j}, (infos ops.toList)[i]? = some q → i < ops.size → j < ops.size → bitOf q.2.2.1 j = true → j ∈ (closures ops.toList).getD i [] := fun {i q j} hq hi hj hb => by
    obtain ⟨x, _, rfl, _, hx⟩ := infos_get hq
    exact closures_mem.2 ⟨by simpa using hj, by simpa using hi, by rw [← hx]; exact hb⟩
  have C : CC P call yld lim ops (closures ops.toList) (infos ops.toList) T M MF ds ms sts := by
    refine ⟨fun i hi => rfl, hc1, hc2, by simpa using e1, e2, by simpa using e3, fun i o ho => ?_, fun i q hq => ?_, fun i j oi oj hi hj hne g1 g2 g3 g4 h4 => ?_, fun i j q oj hq h1 h2 hj h3 => ?_, fun i hi => ?_, fun i j oj g1 hj g2 g3 => ?_, e8, fun s hs => ?_, fun s hs => (hgood s hs).1, fun s hs t ht => (hgood s hs).2 t ht⟩
    · obtain ⟨v, q, g1, g2, g3⟩ := e5 i o (by simpa using ho)
      rw [Nat.zero_add] at g3
      exact ⟨v, q, g1, g2, g3⟩
    · obtain ⟨x, hx, rfl, hx1, hx2⟩ := infos_get hq
      refine ⟨hx1, fun j hj hb => ?_⟩
      rcases Nat.lt_or_ge i ops.size with hi | hi
      · exact bit hq hi hj hb
      · have : (masks ops.toList []).length = ops.toList.length := by have := (masks_get ops.toList []).2.1; simpa using this
        have h0 : (flagI (refines (rawI 0 ops.toList (masks ops.toList []))) x).2.2.1 = 0 := by
          show x.2.2 = 0
          rw [hx2, List.getD, List.getElem?_eq_none (by rw [this]; simpa using hi)]; rfl
        rw [h0, bitOf_eq] at hb
        simp at hb
    · have hin := (Array.getElem?_eq_some_iff.1 hi).1
      have hjn := (Array.getElem?_eq_some_iff.1 hj).1
      have geti : ∃ q, (infos ops.toList)[i]? = some q := by
        unfold klOf at g1
        split at g1
        · rename_i q hq; exact ⟨q, hq⟩
        · omega
      have getj : ∃ q, (infos ops.toList)[j]? = some q := by
        unfold klOf at g2
        split at g2
        · rename_i q hq; exact ⟨q, hq⟩
        · omega
      obtain ⟨qi, hqi⟩ := geti
      obtain ⟨qj, hqj⟩ := getj
      rw [klOf_get hqi] at g1 g3 h4
      rw [klOf_get hqj] at g2 g4 h4
      have hix : qi.1 = i := by obtain ⟨x, _, rfl, hx, _⟩ := infos_get hqi; exact hx
      have hjx : qj.1 = j := by obtain ⟨x, _, rfl, hx, _⟩ := infos_get hqj; exact hx
      rcases Nat.lt_or_ge i j with hlt | hge
      · have := (hgo j qj hqj (by omega)).2 i qi hlt hqi (by omega)
        have hb : Nat.beq qi.2.1 5 = false := by cases hb : Nat.beq qi.2.1 5 with | false => rfl | true => exact absurd (Nat.eq_of_beq_eq_true hb) g3
        simp only [pairOK, hb, cond_false, Bool.or_eq_true] at this
        rcases this with h | h
        · have := Nat.le_of_ble_eq_true h; omega
        · rw [hix] at h; exact .inl (bit hqj hjn hin h)
      · have := (hgo i qi hqi (by omega)).2 j qj (by omega) hqj (by omega)
        have hb : Nat.beq qj.2.1 5 = false := by cases hb : Nat.beq qj.2.1 5 with | false => rfl | true => exact absurd (Nat.eq_of_beq_eq_true hb) g4
        simp only [pairOK, hb, cond_false, Bool.or_eq_true] at this
        rcases this with h | h
        · have := Nat.le_of_ble_eq_true h; omega
        · rw [hjx] at h; exact .inr (bit hqi hin hjn h)
    · have hjn := (Array.getElem?_eq_some_iff.1 hj).1
      have getj : ∃ q, (infos ops.toList)[j]? = some q := by
        unfold klOf at h3
        split at h3
        · rename_i q hq; exact ⟨q, hq⟩
        · omega
      obtain ⟨qj, hqj⟩ := getj
      rw [klOf_get hqj] at h3
      obtain ⟨x, hx, rfl, hx1, hx2⟩ := infos_get hq
      obtain ⟨y, hy, rfl, hy1, hy2⟩ := infos_get hqj
      have h1 : x.2.1 = 1 := h1
      have h3 : y.2.1 = 2 := h3
      have hf : cond (Nat.beq x.2.1 1) ((refines (rawI 0 ops.toList (masks ops.toList []))).any fun y => Nat.beq y.2.1 2 && unord x y) false = false := h2
      rw [h1, show Nat.beq 1 1 = true from rfl, cond_true] at hf
      have hu : unord x y = false := by
        cases hb : unord x y with
        | false => rfl
        | true =>
          have : ((refines (rawI 0 ops.toList (masks ops.toList []))).any fun y => Nat.beq y.2.1 2 && unord x y) = true := List.any_eq_true.2 ⟨y, hy, by rw [h3, hb]; rfl⟩
          rw [this] at hf; cases hf
      have hil : i < ops.size := by
        have h7 : (masks ops.toList []).length = ops.toList.length := by have := (masks_get ops.toList []).2.1; simpa using this
        have hlen : ∀ (l : List Oper) (i : Nat) (ms : List Nat), (rawI i l ms).length ≤ l.length := fun l => by
          induction l with
          | nil => intro i ms; simp [rawI]
          | cons o r ih => intro i ms; cases ms with
            | nil => simp [rawI]
            | cons m ms => simp [rawI]; exact ih _ _
        have := (List.getElem?_eq_some_iff.1 hq).1
        have h8 := hlen ops.toList 0 (masks ops.toList [])
        simp [infos, flags, refines] at this
        simp at h8; omega
      have hij : i ≠ j := fun h => by
        subst h
        rw [hq] at hqj
        have := congrArg (fun o => o.map fun q => q.2.1) hqj
        simp [flagI, h1, h3] at this
      simp only [unord, Bool.and_eq_false_iff, Bool.not_eq_false'] at hu
      rcases hu with (h | h) | h
      · exact absurd (by rw [← hx1, ← hy1]; exact Nat.eq_of_beq_eq_true h) hij
      · rw [hy1] at h; exact .inl (bit hq hil hjn h)
      · rw [hx1] at h; exact .inr (bit hqj hjn hil h)
    · obtain ⟨v, q, _, _, hs⟩ := e5 i ops[i] (by simp [hi])
      rcases hs with ⟨_, _, _, h⟩ | ⟨_, _, ⟨_, _, h, _⟩ | ⟨_, _, M1, _, h1, h⟩ | ⟨_, _, h⟩⟩ | ⟨_, _, _, h, _⟩
      · rw [h]; exact Nat.le_refl _
      · rw [h]; exact Nat.le_refl _
      · rw [h]; exact h1
      · exact evalOpY_next hnext hyl h
      · rw [h]; exact Nat.le_refl _
    · have hjn := (Array.getElem?_eq_some_iff.1 hj).1
      have geti : ∃ q, (infos ops.toList)[i]? = some q := by
        unfold klOf at g1
        split at g1
        · rename_i q hq; exact ⟨q, hq⟩
        · omega
      have getj : ∃ q, (infos ops.toList)[j]? = some q := by
        unfold klOf at g2
        split at g2
        · rename_i q hq; exact ⟨q, hq⟩
        · omega
      obtain ⟨qi, hqi⟩ := geti
      obtain ⟨qj, hqj⟩ := getj
      rw [klOf_get hqi] at g1
      rw [klOf_get hqj] at g2 g3
      have hjx : qj.1 = j := by obtain ⟨x, _, rfl, hx, _⟩ := infos_get hqj; exact hx
      have hij : i ≠ j := fun h => by subst h; rw [hqi] at hqj; cases hqj; omega
      have hb : Nat.beq qj.2.1 5 = false := by cases hb : Nat.beq qj.2.1 5 with | false => rfl | true => exact absurd (Nat.eq_of_beq_eq_true hb) g3
      have hil : i < ops.size := by
        have h7 : (masks ops.toList []).length = ops.toList.length := by have := (masks_get ops.toList []).2.1; simpa using this
        have hlen : ∀ (l : List Oper) (i : Nat) (ms : List Nat), (rawI i l ms).length ≤ l.length := fun l => by
          induction l with
          | nil => intro i ms; simp [rawI]
          | cons o r ih => intro i ms; cases ms with
            | nil => simp [rawI]
            | cons m ms => simp [rawI]; exact ih _ _
        have := (List.getElem?_eq_some_iff.1 hqi).1
        have h8 := hlen ops.toList 0 (masks ops.toList [])
        simp [infos, flags, refines] at this
        simp at h8; omega
      rcases Nat.lt_or_ge i j with hlt | hge
      · have := (hgo j qj hqj (by omega)).2 i qi hlt hqi (by omega)
        simp only [pairOK, g1, show Nat.beq 5 5 = true from rfl, cond_true, hb] at this
        cases this
      · have := (hgo i qi hqi (by omega)).2 j qj (by omega) hqj (by omega)
        simp only [pairOK, hb, cond_false, Bool.or_eq_true] at this
        rcases this with h | h
        · have := Nat.le_of_ble_eq_true h; omega
        · rw [hjx] at h; exact bit hqi hil hjn h
    · have h7 := e7 s hs
      have hin : s.ix < ops.size := by simpa using h7.2
      refine ⟨hin, ?_⟩
      obtain ⟨v, q, _, hq, hc⟩ := e5 s.ix ops[s.ix] (by simp [hin])
      rw [Nat.zero_add] at hc
      rw [klOf_get hq]
      rcases hc with ⟨h, _⟩ | ⟨h, _⟩ | ⟨_, h, _⟩
      · exact absurd rfl (h s hs)
      · exact absurd rfl (h s hs)
      · exact h
  have hnx : M.next ≤ MF.next := by
    have := C.next_le (Nat.zero_le ops.size) (Nat.le_refl _)
    rwa [C.m0, C.mF] at this
  refine ⟨by rw [hMn]; exact hnx, fun id e a w hT hd hR hlim hn Q hQ ro nn => ?_⟩
  rw [hMn] at hn
  refine wpIn_region_any hm ?_
  have hI0 : InvC lim ops (infos ops.toList) T M ds ms sts e w (fun _ => false) a { w with drawn := w.drawn + 1 } := by
    refine ⟨e, 0, by rw [puts_none _ _ _ _ (fun _ _ _ => rfl)]; exact hT, hd, Nat.zero_le _, fun j o _ _ _ => by simp, ?_⟩
    rw [e2]
    refine Post.congr (M' := M) ?_ (by rw [stSub_next]) (fun k => by rw [stSub_at]; exact subB_same sts _ (fun s _ h => by cases h))
    refine ⟨fun _ _ => rfl, .refl e, Nat.le_refl _, fun i _ => rfl, ⟨hR.wf, fun i b hb => ?_, hR.inj, hR.pin, hR.pinN, hR.rest.step ((RowKit.Below.refl _ w).drew)⟩, Nat.le_refl _, fun _ _ _ => rfl, fun i c p hi hc _ => ?_, fun i c _ hc => ⟨c, hc⟩, rfl, rfl, rfl⟩
    · obtain ⟨p, hp, hB⟩ := hR.blk i b hb
      exact ⟨p, hp, hB.mono (.refl e) rfl⟩
    · exact absurd (hR.wf i c hc) (by omega)
  refine chain_any C hcall hyl hlim.1 hlim.2 hn ro nn ?_ ops.size (Array.replicate ops.size false) a _ (by simp) ?_ ?_ ?_ (e0 := e) (w0 := w)
  · rintro a' w' ⟨L, hL, e', n, hT', hd', hn1, hn2, hp'⟩
    have hfin : ms n = MF := by
      rw [← C.mF]
      refine (C.still hn1 (Nat.le_refl _) (fun j o g1 g2 hj => ?_)).symm
      rcases Nat.lt_or_ge 1 (klOf (infos ops.toList) j) with h | h
      · by_cases h5 : klOf (infos ops.toList) j = 5
        · exact .inr h5
        · have := (hn2 j o hj h h5).1 (hL j g2); omega
      · exact .inl h
    rw [hfin] at hp'
    refine hQ e' a' w' ?_ (by unfold DF; rw [e4, puts_ms]; exact hd') (hp'.congr (by rw [hMn, stSub_next]) (fun k => by rw [stAll_eq, stSub_at, stSub_at]; exact subB_congr sts _ (fun s hs => (hL s.ix (C.six s hs).1).symm)))
    rw [e4, puts_congr (f := fun _ => true) (g := L) _ _ _ (fun k _ hk => ?_)]
    · exact hT'
    · exact (hL k (by simp at e1; omega)).symm
  · have : ∀ (n : Nat), unl (List.replicate n false) = n := fun n => by
      induction n with
      | zero => rfl
      | succ n ih => simp [List.replicate_succ, unl, ih]
    simp [this]
  · intro i o ho hj
    have hin : i < ops.size := (Array.getElem?_eq_some_iff.1 ho).1
    simp [Array.getD_eq_getD_getElem?, hin] at hj
  · have hf : (fun i => (Array.replicate ops.size false).getD i false) = fun _ => false := by
      funext i
      by_cases hi : i < ops.size <;> simp [Array.getD_eq_getD_getElem?, hi]
    exact hf ▸ hI0

theorem evalRegion_ok [Ctxt] {P : Program} (hm : P.follows .mixedOrders = true) {call : CallFn} {yld : YldFn} (hnext : CallNext call) (hcall : CallOK P call) (hyl : YldOK P yld) {lim : Nat} {ops : Array Oper} {T T' : Fr} {M M' : Mem} (h : evalRegion P call yld lim ops T M = some (T', M')) :
    M.next ≤ M'.next ∧ ∀ (id : Nat) (e : Env) (a : Act) (w : World), DT e T a → DF e T a → Rep e M w → (Ctxt.pin ≤ lim ∧ lim ≤ M.next) → (∀ i, M.next ≤ i → i < M'.next → e i = none) →
    ∀ (Q : Exit → Act → World → Prop), (∀ e' a' w', DT e' T' a' → DF e' T' a' → Post lim e M w e' M' w' → Q .normal a' w') → ∀ (ro : Option Nat) (nn : Nat), (Code.region id ops true).wpIn (FW ro) nn P Q a w := by
  unfold evalRegion at h
  rw [Bool.cond_eq_ite] at h
  split at h
  case isFalse => cases h
  case isTrue hok =>
  unfold regionBy at h
  rw [Bool.cond_eq_ite] at h
  split at h
  · rename_i hch
    exact chain_ok hm hnext hcall hyl hok hch h
  · exact regionGo_ok hm hnext hcall hok h

end Go.Ev
