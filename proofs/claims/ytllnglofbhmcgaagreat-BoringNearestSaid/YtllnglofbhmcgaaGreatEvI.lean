/- A closed call is worked out by a program of its own: what has been noted of a region that draws its order. -/
import Derived.Test.YtllnglofbhmcgaaGreatEvH
namespace Go.Ev

theorem memN_iff (x : Nat) (l : List Nat) : memN x l = true ↔ x ∈ l := by
  unfold memN
  rw [List.any_eq_true]
  exact ⟨fun ⟨y, hy, h⟩ => by rw [Nat.eq_of_beq_eq_true h]; exact hy, fun h => ⟨x, h, by simp⟩⟩

/-! ### What comes before an operation in every order -/
theorem bitOf_eq (m j : Nat) : bitOf m j = m.testBit j := by
  have e : Nat.land (Nat.shiftRight m j) 1 = (m >>> j) % 2 := Nat.and_one_is_mod (m >>> j)
  have h := Nat.testBit_eq_decide_div_mod_eq (x := m) (i := j)
  unfold bitOf
  rw [e, h, Nat.shiftRight_eq_div_pow]
  rcases beq_cases (m / 2 ^ j % 2) 1 with ⟨h1, h2⟩ | ⟨h1, h2⟩ <;> simp [h1, h2]

theorem maskOf_mem {acc : List Nat} {i : Nat} : ∀ {l : List Nat}, bitOf (maskOf acc l) i = true → ∃ k ∈ l, i = k ∨ bitOf (acc.getD k 0) i = true
  | [], h => by simp [maskOf, bitOf_eq] at h
  | k :: l, h => by
    have e : maskOf acc (k :: l) = (maskOf acc l) ||| (2 ^ k ||| acc.getD k 0) := rfl
    rw [bitOf_eq, e, Nat.testBit_or, Nat.testBit_or, Bool.or_eq_true, Bool.or_eq_true] at h
    rcases h with h | h | h
    · rw [← bitOf_eq] at h
      obtain ⟨k', h1, h2⟩ := maskOf_mem h
      exact ⟨k', List.mem_cons_of_mem _ h1, h2⟩
    · rw [Nat.testBit_two_pow, decide_eq_true_eq] at h
      exact ⟨k, List.mem_cons_self .., .inl h.symm⟩
    · rw [← bitOf_eq] at h
      exact ⟨k, List.mem_cons_self .., .inr h⟩

theorem masks_get : ∀ (l : List Oper) (acc : List Nat), (∀ j, j < acc.length → (masks l acc).getD j 0 = acc.getD j 0) ∧ (masks l acc).length = acc.length + l.length ∧
    ∀ (i : Nat) (o : Oper), l[i]? = some o → (∀ k ∈ ons o, k < acc.length + i) → ∀ j, bitOf ((masks l acc).getD (acc.length + i) 0) j = true → ∃ k ∈ ons o, j = k ∨ bitOf ((masks l acc).getD k 0) j = true
  | [], acc => ⟨fun j _ => rfl, rfl, fun i o h => by simp at h⟩
  | o :: r, acc => by
    obtain ⟨h1, h0, h2⟩ := masks_get r (acc ++ [maskOf acc (ons o)])
    simp only [masks]
    refine ⟨fun j hj => ?_, by rw [h0]; simp; omega, fun i o' ho hk j hj => ?_⟩
    · rw [h1 j (by simp; omega)]
      simp [List.getD, List.getElem?_append_left hj]
    · cases i with
      | zero =>
        simp at ho; subst ho
        rw [Nat.add_zero, h1 acc.length (by simp)] at hj
        simp only [List.getD, List.getElem?_append_right (Nat.le_refl _), Nat.sub_self, List.getElem?_cons_zero, Option.getD_some] at hj
        obtain ⟨k, g1, g2⟩ := maskOf_mem hj
        refine ⟨k, g1, g2.imp id fun g => ?_⟩
        have hka : k < acc.length := by have := hk k g1; omega
        rw [h1 k (by simp; omega)]
        simpa [List.getD, List.getElem?_append_left hka] using g
      | succ i =>
        have := h2 i o' (by simpa using ho) (by simpa [Nat.add_assoc, Nat.add_comm 1 i] using hk) j
        rw [List.length_append, List.length_singleton, Nat.add_assoc, Nat.add_comm 1 i] at this
        exact this hj

theorem closures_mem {l : List Oper} {i j : Nat} : j ∈ (closures l).getD i [] ↔ j < l.length ∧ i < l.length ∧ bitOf ((masks l []).getD i 0) j = true := by
  have hlen : (masks l []).length = l.length := by have := (masks_get l []).2.1; simpa using this
  unfold closures
  simp only [List.getD, List.getElem?_map]
  rcases Nat.lt_or_ge i l.length with h | h
  · rw [List.getElem?_eq_getElem (by omega)]
    simp [h]
  · rw [List.getElem?_eq_none (by omega)]
    simp; omega

theorem closures_ext (ops : Array Oper) (x : List Nat) {i : Nat} (h : i < ops.size) : (closures ops.toList ++ [x]).getD i [] = (closures ops.toList).getD i [] := by
  have hlen : (masks ops.toList []).length = ops.toList.length := by have := (masks_get ops.toList []).2.1; simpa using this
  have hl : (closures ops.toList).length = ops.size := by unfold closures; simp [hlen]
  simp only [List.getD, List.getElem?_append_left (show i < (closures ops.toList).length by omega)]

section
variable {ops : Array Oper} {cls : List (List Nat)} (hcls : ∀ i, i < ops.size → cls.getD i [] = (closures ops.toList).getD i []) (hC1 : ∀ i o, ops[i]? = some o → ∀ j ∈ ons o, j < i)

include hcls hC1 in
theorem cls_from [Ctxt] {i : Nat} {o : Oper} (ho : ops[i]? = some o) {j : Nat} (hj : j ∈ cls.getD i []) : ∃ k ∈ ons o, j = k ∨ j ∈ cls.getD k [] := by
  have hin : i < ops.size := (Array.getElem?_eq_some_iff.1 ho).1
  rw [hcls i hin, closures_mem] at hj
  obtain ⟨k, h1, h2⟩ := (masks_get ops.toList []).2.2 i o (by simpa using ho) (by simpa using hC1 i o ho) j (by simpa using hj.2.2)
  refine ⟨k, h1, h2.imp id fun h => ?_⟩
  have := hC1 i o ho k h1
  rw [hcls k (by omega), closures_mem]
  exact ⟨hj.1, by omega, h⟩

include hcls hC1 in
theorem cls_lt [Ctxt] : ∀ (i : Nat) (o : Oper), ops[i]? = some o → ∀ j ∈ cls.getD i [], j < i := by
  intro i
  induction i using Nat.strongRecOn with
  | _ i ih =>
    intro o ho j hj
    obtain ⟨k, hk, hj⟩ := cls_from hcls hC1 ho hj
    have hki := hC1 i o ho k hk
    rcases hj with rfl | hj
    · exact hki
    · have hkn : k < ops.size := by
        have := (Array.getElem?_eq_some_iff.1 ho).1; omega
      have := ih k hki ops[k] (by simp [hkn]) j hj
      omega

include hcls hC1 in
/-- What is listed with all that it waits for is listed with all that comes before. -/
theorem cls_listed [Ctxt] {L : Nat → Prop} (hL : ∀ i o, ops[i]? = some o → L i → ∀ j ∈ ons o, L j) : ∀ (i : Nat) (o : Oper), ops[i]? = some o → (∀ j ∈ ons o, L j) → ∀ j ∈ cls.getD i [], L j := by
  intro i
  induction i using Nat.strongRecOn with
  | _ i ih =>
    intro o ho hj j hm
    obtain ⟨k, hk, hm⟩ := cls_from hcls hC1 ho hm
    have hki := hC1 i o ho k hk
    rcases hm with rfl | hm
    · exact hj _ hk
    · have hkn : k < ops.size := by
        have := (Array.getElem?_eq_some_iff.1 ho).1; omega
      exact ih k hki ops[k] (by simp [hkn]) (hL k ops[k] (by simp [hkn]) (hj k hk)) j hm
end

/-! ### The frame behind some of the operations -/
noncomputable def puts (f : Nat → Bool) : Nat → List (Option Tmp × CV) → Fr → Fr
  | _, [], T => T
  | i, x :: r, T => puts f (i + 1) r (cond (f i) (putC T x.1 x.2) T)

theorem puts_ms (f : Nat → Bool) : ∀ (l : List (Option Tmp × CV)) (i : Nat) (T : Fr), (puts f i l T).ms = T.ms
  | [], _, _ => rfl
  | x :: r, i, T => by
    show (puts f (i + 1) r (cond (f i) (putC T x.1 x.2) T)).ms = T.ms
    rw [puts_ms f r]
    cases f i
    · rfl
    · exact putC_ms T x.1 x.2

theorem putC_n [Ctxt] (T : Fr) (d : Option Tmp) (v : CV) : (putC T d v).n = T.n := by
  cases d with
  | none => rfl
  | some d => exact Fr.put_n T d v

theorem putC_get [Ctxt] (T : Fr) (d : Option Tmp) (v : CV) (t : Nat) : (putC T d v).get t = if d = some t ∧ t < T.n then v else T.get t := by
  cases d with
  | none => simp [putC]
  | some d =>
    simp only [putC, Fr.get_put, Option.some.injEq]
    by_cases h : d = t
    · subst h; rfl
    · simp [h]

theorem puts_n [Ctxt] (f : Nat → Bool) : ∀ (l : List (Option Tmp × CV)) (i : Nat) (T : Fr), (puts f i l T).n = T.n
  | [], _, _ => rfl
  | x :: r, i, T => by
    rw [puts, puts_n f r]
    cases f i with
    | true => exact putC_n _ _ _
    | false => rfl

theorem puts_none (f : Nat → Bool) : ∀ (l : List (Option Tmp × CV)) (i : Nat) (T : Fr), (∀ k, i ≤ k → k < i + l.length → f k = false) → puts f i l T = T
  | [], _, _, _ => rfl
  | x :: r, i, T, h => by
    rw [puts, h i (Nat.le_refl _) (by simp)]
    exact puts_none f r (i + 1) T (fun k h1 h2 => h k (by omega) (by simp; omega))

theorem puts_congr {f g : Nat → Bool} : ∀ (l : List (Option Tmp × CV)) (i : Nat) (T : Fr), (∀ k, i ≤ k → k < i + l.length → f k = g k) → puts f i l T = puts g i l T
  | [], _, _, _ => rfl
  | x :: r, i, T, h => by
    rw [puts, puts, h i (Nat.le_refl _) (by simp)]
    exact puts_congr r (i + 1) _ (fun k h1 h2 => h k (by omega) (by simp; omega))

/-- A temporary that only operations write on which both agree. -/
theorem puts_get [Ctxt] {f g : Nat → Bool} {t : Nat} : ∀ (l : List (Option Tmp × CV)) (i : Nat) (T T' : Fr), T.n = T'.n → T.get t = T'.get t →
    (∀ k x, l[k]? = some x → f (i + k) ≠ g (i + k) → x.1 ≠ some t) → (puts f i l T).get t = (puts g i l T').get t
  | [], _, _, _, _, h, _ => h
  | x :: r, i, T, T', hn, h, hd => by
    rw [puts, puts]
    have h0 := hd 0 x (by simp)
    simp only [Nat.add_zero] at h0
    refine puts_get r (i + 1) _ _ ?_ ?_ (fun k y hy hne => hd (k + 1) y (by simpa using hy) (by rw [show i + (k + 1) = i + 1 + k by omega]; exact hne))
    · cases f i <;> cases g i <;> simp [putC_n, hn]
    · cases hf : f i <;> cases hg : g i
      · exact h
      · have h1 := h0 (by rw [hf, hg]; simp)
        simp only [cond_false, cond_true, putC_get]; rw [if_neg (fun hh => h1 hh.1)]; exact h
      · have h1 := h0 (by rw [hf, hg]; simp)
        simp only [cond_false, cond_true, putC_get]; rw [if_neg (fun hh => h1 hh.1)]; exact h
      · simp only [cond_true, putC_get, h, hn]

/-- The last writer's value. -/
theorem puts_last [Ctxt] {f : Nat → Bool} {t m : Nat} {v : CV} : ∀ (l : List (Option Tmp × CV)) (i : Nat) (T : Fr), l[m]? = some (some t, v) → f (i + m) = true → t < T.n →
    (∀ k x, m < k → l[k]? = some x → f (i + k) = true → x.1 ≠ some t) → (puts f i l T).get t = v := by
  induction m with
  | zero =>
    intro l i T hm hf ht hd
    cases l with
    | nil => simp at hm
    | cons x r =>
      simp at hm; subst hm
      rw [puts, Nat.add_zero] at *
      rw [hf, cond_true]
      have : ∀ (r : List (Option Tmp × CV)) (j : Nat) (T : Fr), (∀ k x, r[k]? = some x → f (j + k) = true → x.1 ≠ some t) → (puts f j r T).get t = T.get t := by
        intro r
        induction r with
        | nil => intro j T _; rfl
        | cons y r ih =>
          intro j T hh
          rw [puts, ih (j + 1) _ (fun k x hk hf => hh (k + 1) x (by simpa using hk) (by rw [show j + (k + 1) = j + 1 + k by omega]; exact hf))]
          cases hfj : f j with
          | false => rfl
          | true =>
            have := hh 0 y (by simp) (by simpa using hfj)
            rw [cond_true, putC_get, if_neg (fun h => this h.1)]
      rw [this r (i + 1) _ (fun k x hk hf => hd (k + 1) x (by omega) (by simpa using hk) (by rw [show i + (k + 1) = i + 1 + k by omega]; exact hf)), putC_get, if_pos ⟨rfl, ht⟩]
  | succ m ih =>
    intro l i T hm hf ht hd
    cases l with
    | nil => simp at hm
    | cons x r =>
      rw [puts]
      refine ih r (i + 1) _ (by simpa using hm) (by rw [show i + 1 + m = i + (m + 1) by omega]; exact hf) ?_ (fun k y h1 hy hf => hd (k + 1) y (by omega) (by simpa using hy) (by rw [show i + (k + 1) = i + 1 + k by omega]; exact hf))
      cases f i with
      | true => rw [cond_true, putC_n]; exact ht
      | false => exact ht

def dsts (l : List Oper) (recs : List Rec) : List (Option Tmp × CV) := List.zipWith (fun o r => (o.dst, r.1)) l recs

/-! ### The notes -/
theorem at_joinM [Ctxt] (M M' : Mem) (k : Nat) (hM : ∀ k c, M.at k = some c → k < M.next) : (joinM M M').at k = if M.next ≤ k ∧ k < M'.next then M'.at k else M.at k := by
  have happ : ∀ (l l' : List (Nat × Blk)), look (l ++ l') k = (look l k).or (look l' k) := by
    intro l l'
    induction l with
    | nil => simp [look_nil]
    | cons x r ih =>
      rw [List.cons_append, look_cons, look_cons, ih]
      cases Nat.beq x.1 k <;> simp
  have hM' := hM k
  simp only [Mem.at] at hM'
  have hj : (joinM M M').at k = (if (Nat.ble M.next k && Nat.blt k M'.next) = true then look M'.l k else none).or (if Nat.blt k M.next = true then look M.l k else none) := by
    simp only [joinM, Mem.at, happ, look_keepL]
  rw [hj]
  show _ = if M.next ≤ k ∧ k < M'.next then look M'.l k else look M.l k
  rcases Nat.lt_or_ge k M.next with h | h
  · have h1 : Nat.ble M.next k = false := by cases hb : Nat.ble M.next k with | false => rfl | true => exact absurd (Nat.le_of_ble_eq_true hb) (by omega)
    have h2 : Nat.blt k M.next = true := Nat.ble_eq_true_of_le h
    rw [if_neg (show ¬ (M.next ≤ k ∧ k < M'.next) by omega), h1, h2]
    rfl
  · have h1 : Nat.ble M.next k = true := Nat.ble_eq_true_of_le h
    have h2 : Nat.blt k M.next = false := by cases hb : Nat.blt k M.next with | false => rfl | true => exact absurd (Nat.le_of_ble_eq_true hb) (by omega)
    have h3 : look M.l k = none := by
      cases hl : look M.l k with
      | none => rfl
      | some c => exact absurd (hM' c hl) (by omega)
    rcases blt_cases k M'.next with ⟨h4, h5⟩ | ⟨h4, h5⟩
    · rw [if_pos (show M.next ≤ k ∧ k < M'.next from ⟨h, h5⟩), h1, h2, h4]; simp
    · rw [if_neg (show ¬ (M.next ≤ k ∧ k < M'.next) by omega), h3, h1, h2, h4]; rfl

/-- What has been noted of one operation. -/
def OpSpec [Ctxt] (P : Program) (call : CallFn) (ops : Array Oper) (cls : List (List Nat)) (a0 : Nat) (recsF : List Rec) (stsF : List Sto) (MF : Mem) (i : Nat) (o : Oper) (rc : Rec) (T : Fr) : Prop :=
  rc.2.1 ≤ rc.2.2 ∧ rc.2.2 ≤ MF.next ∧
  ((Region.wanted o (yieldC ops T) = false ∧ rc.1 = .clo undef ∧ rc.2.1 = rc.2.2 ∧ ∀ s ∈ stsF, s.ix ≠ i) ∨
   (Region.wanted o (yieldC ops T) = true ∧ rc.1 = .clo undef ∧ rc.2.1 = rc.2.2 ∧ ∃ s ∈ stsF, s.ix = i ∧ ∃ t x y, o.op = .store t x y ∧ s.ty = t ∧ opd T x = .ptr s.nm s.off ∧ s.cs = (opd T y).cells) ∨
   (Region.wanted o (yieldC ops T) = true ∧ isStore o.op = false ∧ (∀ s ∈ stsF, s.ix ≠ i) ∧ ∃ Mi Mi', evalOp P call rc.2.1 T Mi o = some (rc.1, Mi') ∧ Mi.next = rc.2.1 ∧ Mi'.next = rc.2.2 ∧
      (∀ k c, Mi.at k = some c → MF.at k = some c ∧ k < rc.2.1 ∧ noRead o.op = false ∧ maskX a0 rc.2.1 recsF cls i k = true) ∧ (∀ k, rc.2.1 ≤ k → k < rc.2.2 → MF.at k = Mi'.at k)))

theorem inIv_append {recs r2 : List Rec} {k j : Nat} (h : inIv recs k j = true) : inIv (recs ++ r2) k j = true := by
  unfold inIv at *
  cases hj : recs[j]? with
  | none => rw [hj] at h; cases h
  | some r =>
    rw [hj] at h
    rw [List.getElem?_append_left (List.getElem?_eq_some_iff.1 hj).1, hj]
    exact h

theorem maskI_append [Ctxt] {a0 a : Nat} {recs r2 : List Rec} {cl : List Nat} {k : Nat} (h : maskI a0 a recs cl k = true) : maskI a0 a (recs ++ r2) cl k = true := by
  simp only [maskI, Bool.and_eq_true, Bool.or_eq_true] at h ⊢
  refine ⟨h.1, h.2.imp id fun h => ?_⟩
  rw [List.any_eq_true] at h ⊢
  exact h.imp fun j hj => ⟨hj.1, inIv_append hj.2⟩

theorem maskX_append [Ctxt] {a0 a : Nat} {recs r2 : List Rec} {cls : List (List Nat)} {i k : Nat} (h : maskX a0 a recs cls i k = true) : maskX a0 a (recs ++ r2) cls i k = true := by
  simp only [maskX, Bool.and_eq_true] at h ⊢
  exact ⟨maskI_append h.1, h.2⟩

structure DrawSpec [Ctxt] (P : Program) (call : CallFn) (ops : Array Oper) (cls : List (List Nat)) (a0 : Nat) (rest : List Oper) (T : Fr) (M : Mem) (recs : List Rec) (sts : List Sto) (TF : Fr) (MF : Mem) (recsF : List Rec) (stsF : List Sto) : Prop where
  ex : ∃ r2 s2, recsF = recs ++ r2 ∧ stsF = sts ++ s2 ∧ r2.length = rest.length ∧ TF = puts (fun _ => true) recs.length (dsts rest r2) T ∧
    (∀ s ∈ s2, recs.length ≤ s.ix ∧ s.ix < recs.length + rest.length) ∧ s2.Pairwise (fun s t => s.ix < t.ix) ∧
    (∀ j o, rest[j]? = some o → ∃ rc, r2[j]? = some rc ∧ M.next ≤ rc.2.1 ∧ (∀ j' rc', j' < j → r2[j']? = some rc' → rc'.2.2 ≤ rc.2.1) ∧
      ((∀ s ∈ sts, s.ix < recs.length) → OpSpec P call ops cls a0 recsF stsF MF (recs.length + j) o rc (puts (fun k => decide (k < recs.length + j)) recs.length (dsts rest r2) T)))
  next : M.next ≤ MF.next
  same : ∀ k, k < M.next → MF.at k = M.at k
  wf : ∀ k c, MF.at k = some c → k < MF.next

theorem evalDraw_spec [Ctxt] {P : Program} {call : CallFn} {ops : Array Oper} {cls : List (List Nat)} {a0 : Nat} (hnext : CallNext call) : ∀ (rest : List Oper) (T : Fr) (M : Mem) (recs : List Rec) (sts : List Sto) (TF : Fr) (MF : Mem) (recsF : List Rec) (stsF : List Sto),
    evalDraw P call ops cls a0 rest T M recs sts = some (TF, MF, recsF, stsF) → (∀ k c, M.at k = some c → k < M.next) → DrawSpec P call ops cls a0 rest T M recs sts TF MF recsF stsF
  | [], T, M, recs, sts, TF, MF, recsF, stsF, h, hM => by
    simp [evalDraw] at h
    obtain ⟨rfl, rfl, rfl, rfl⟩ := h
    exact ⟨⟨[], [], by simp, by simp, rfl, rfl, by simp, List.Pairwise.nil, fun j o hj => by simp at hj⟩, Nat.le_refl _, fun _ _ => rfl, hM⟩
  | o :: r, T, M, recs, sts, TF, MF, recsF, stsF, h, hM => by
    -- what all three ways have in common: one note, then the rest
    have common : ∀ (rc : Rec) (M1 : Mem) (s1 : List Sto), evalDraw P call ops cls a0 r (putC T o.dst rc.1) M1 (recs ++ [rc]) (sts ++ s1) = some (TF, MF, recsF, stsF) → (∀ k c, M1.at k = some c → k < M1.next) →
        M.next ≤ rc.2.1 → rc.2.1 ≤ rc.2.2 → rc.2.2 = M1.next → (∀ k, k < M.next → M1.at k = M.at k) → (∀ s ∈ s1, s.ix = recs.length) → s1.length ≤ 1 →
        ((∀ s ∈ sts, s.ix < recs.length) → (∀ k, k < M1.next → MF.at k = M1.at k) → M1.next ≤ MF.next → (∃ r2, recsF = recs ++ r2) → (∃ s2, stsF = sts ++ s1 ++ s2 ∧ ∀ s ∈ s2, recs.length < s.ix) → OpSpec P call ops cls a0 recsF stsF MF recs.length o rc T) →
        DrawSpec P call ops cls a0 (o :: r) T M recs sts TF MF recsF stsF := by
      intro rc M1 s1 hev hM1 g1 g2 g3 g4 g5 g6 g7
      obtain ⟨⟨r2, s2, e1, e2, e3, e4, e5, e6, e7⟩, n1, n2, n3⟩ := evalDraw_spec hnext r _ M1 _ _ TF MF recsF stsF hev hM1
      rw [List.length_append, List.length_singleton] at e4 e5 e7
      refine ⟨⟨rc :: r2, s1 ++ s2, by rw [e1]; simp, by rw [e2]; simp, by simp [e3], ?_, ?_, ?_, ?_⟩, by omega, fun k hk => by rw [n2 k (by omega), g4 k hk], n3⟩
      · rw [e4]; rfl
      · intro s hs
        rcases List.mem_append.1 hs with hs | hs
        · have := g5 s hs; simp only [List.length_cons]; omega
        · have := e5 s hs; simp only [List.length_cons]; omega
      · rw [List.pairwise_append]
        refine ⟨?_, e6, fun s hs t ht => by have := g5 s hs; have := e5 t ht; omega⟩
        cases s1 with
        | nil => exact List.Pairwise.nil
        | cons x l =>
          cases l with
          | nil => simp
          | cons y l => simp at g6
      · intro j o' hj
        cases j with
        | zero =>
          simp at hj; subst hj
          refine ⟨rc, by simp, g1, fun j' rc' hj' => by omega, fun hst => ?_⟩
          rw [Nat.add_zero, puts_none _ _ _ _ (fun k h1 _ => by simp; omega)]
          exact g7 hst n2 n1 ⟨_, by rw [e1, List.append_assoc]⟩ ⟨s2, by rw [e2], fun s hs => by have := e5 s hs; omega⟩
        | succ j =>
          obtain ⟨rc', f1, f2, f3, f4⟩ := e7 j o' (by simpa using hj)
          refine ⟨rc', by simpa using f1, by omega, fun j' rc'' hj' hr => ?_, fun hst => ?_⟩
          · cases j' with
            | zero => simp at hr; subst hr; omega
            | succ j' => exact f3 j' rc'' (by omega) (by simpa using hr)
          · have := f4 (fun s hs => by
              rcases List.mem_append.1 hs with hs | hs
              · have := hst s hs; omega
              · have := g5 s hs; omega)
            rw [show recs.length + 1 + j = recs.length + (j + 1) by omega] at this
            have hp : puts (fun k => decide (k < recs.length + (j + 1))) recs.length (dsts (o :: r) (rc :: r2)) T = puts (fun k => decide (k < recs.length + (j + 1))) (recs.length + 1) (dsts r r2) (putC T o.dst rc.1) := by
              show puts _ (recs.length + 1) (dsts r r2) (cond (decide (recs.length < recs.length + (j + 1))) _ _) = _
              rw [show decide (recs.length < recs.length + (j + 1)) = true by simp, cond_true]
            rw [hp]; exact this
    simp only [evalDraw, Bool.cond_eq_ite] at h
    split at h
    · rename_i hw
      unfold drawOp at h
      split at h
      · rename_i t x y hop
        unfold drawStore at h
        split at h
        · rename_i p hp
          refine common (.clo undef, M.next, M.next) M [⟨recs.length, t, p.1, p.2, (opd T y).cells⟩] h hM (Nat.le_refl _) (Nat.le_refl _) rfl (fun _ _ => rfl) (by simp) (by simp) (fun _ _ hMF _ hs => ?_)
          obtain ⟨s2, hs, _⟩ := hs
          exact ⟨Nat.le_refl _, hMF, .inr (.inl ⟨hw, rfl, rfl, ⟨recs.length, t, p.1, p.2, (opd T y).cells⟩, by rw [hs]; simp, rfl, t, x, y, hop, rfl, asPtr_some hp, rfl⟩)⟩
        · cases h
      · rename_i hns
        unfold drawPut at h
        split at h
        · cases h
        · rename_i q hq
          rw [Bool.cond_eq_ite] at h
          split at h
          · rename_i hle
            have hle := Nat.le_of_ble_eq_true hle
            refine common (q.1, M.next, q.2.next) (joinM M q.2) [] (by rw [List.append_nil]; exact h) (fun k c hk => ?_) (Nat.le_refl _) hle rfl (fun k hk => ?_) (by simp) (by simp) (fun hst hMF hnx hrc hs => ?_)
            · rw [at_joinM M q.2 k hM] at hk
              show k < q.2.next
              split at hk
              · omega
              · have := hM k c hk; omega
            · rw [at_joinM M q.2 k hM, if_neg (by omega)]
            · obtain ⟨s2, hs, hs2⟩ := hs
              obtain ⟨r2, hr2⟩ := hrc
              have hnst : isStore o.op = false := by
                cases hop : o.op with
                | store t x y => exact absurd hop (hns t x y)
                | _ => rfl
              have hnext0 : (footM o.op a0 recs cls recs.length M).next = M.next := by
                unfold footM
                cases noRead o.op <;> rfl
              refine ⟨hle, hnx, .inr (.inr ⟨hw, hnst, fun s hs' => ?_, footM o.op a0 recs cls recs.length M, q.2, hq, hnext0, rfl, fun k c hk => ?_, fun k h1 h2 => ?_⟩)⟩
              · rw [hs] at hs'
                simp only [List.append_nil] at hs'
                rcases List.mem_append.1 hs' with h' | h'
                · have := hst s h'; omega
                · have := hs2 s h'; omega
              · unfold footM at hk
                cases hnr : noRead o.op with
                | true => rw [hnr] at hk; cases hk
                | false =>
                  rw [hnr, cond_false, Mem.at_keep] at hk
                  split at hk
                  · rename_i hm
                    have hkM := hM k c hk
                    refine ⟨?_, hkM, rfl, by rw [hr2]; exact maskX_append hm⟩
                    show MF.at k = some c
                    rw [hMF k (show k < q.2.next by omega), at_joinM M q.2 k hM, if_neg (by omega)]
                    exact hk
                  · cases hk
              · rw [hMF k (show k < q.2.next from h2), at_joinM M q.2 k hM, if_pos ⟨h1, h2⟩]
          · cases h
    · rename_i hw
      unfold drawSkip at h
      refine common (.clo undef, M.next, M.next) M [] (by rw [List.append_nil]; exact h) hM (Nat.le_refl _) (Nat.le_refl _) rfl (fun _ _ => rfl) (by simp) (by simp) (fun hst _ hMF _ hs => ?_)
      obtain ⟨s2, hs, hs2⟩ := hs
      refine ⟨Nat.le_refl _, hMF, .inl ⟨by simpa using hw, rfl, rfl, fun s hs' => ?_⟩⟩
      rw [hs] at hs'
      simp only [List.append_nil] at hs'
      rcases List.mem_append.1 hs' with h' | h'
      · have := hst s h'; omega
      · have := hs2 s h'; omega

end Go.Ev
