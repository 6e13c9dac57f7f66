/- A closed call is worked out by a program of its own: names only grow; a plain region. -/
import Derived.Test.YtopjcpdhfohccaaEvG
namespace Go.Ev

theorem evalStore_next {P : Program} {lim : Nat} {M M' : Mem} {t : TypeId} {i off : Nat} {v : CV} (h : evalStore P lim M t i off v = some M') : M'.next = M.next := by
  unfold evalStore at h
  split at h
  · cases h
  · split at h
    · cases h
    · dsimp only at h
      rw [Bool.cond_eq_ite] at h
      split at h
      · simp at h; subst h; rfl
      · cases h

theorem evalMake_next {P : Program} {M M' : Mem} {t : TypeId} {l c : Value} {v : CV} (h : evalMake P M t l c = some (v, M')) : M.next ≤ M'.next := by
  unfold evalMake at h
  simp only [Bool.cond_eq_ite] at h
  repeat' split at h
  all_goals first | (cases h; done) | (simp at h; obtain ⟨_, rfl⟩ := h; simp [Mem.push])

theorem evalBuildSlice_next {P : Program} {M M' : Mem} {t : TypeId} {n : Nat} {l : List (Nat × Value)} {v : CV} (h : evalBuildSlice P M t n l = some (v, M')) : M.next ≤ M'.next := by
  unfold evalBuildSlice at h
  simp only [Bool.cond_eq_ite] at h
  repeat' split at h
  all_goals first | (cases h; done) | (simp at h; obtain ⟨_, rfl⟩ := h; simp [Mem.push])

theorem evalBuildC_next {P : Program} {M M' : Mem} {t : TypeId} {n : Nat} {l : List (Nat × CV)} {v : CV} (h : evalBuildC P M t n l = some (v, M')) : M.next ≤ M'.next := by
  unfold evalBuildC at h
  simp only [Bool.cond_eq_ite] at h
  repeat' split at h
  all_goals first | (cases h; done) | (simp at h; obtain ⟨_, rfl⟩ := h; simp [Mem.push])

theorem evalAppend_next {P : Program} {lim : Nat} {M M' : Mem} {t : TypeId} {s : CV} {j o m : Nat} {v : CV} (h : evalAppend P lim M t s j o m = some (v, M')) : M.next ≤ M'.next := by
  unfold evalAppend at h
  simp only [Bool.cond_eq_ite] at h
  repeat' split at h
  all_goals first | (cases h; done) | (simp only [Option.some.injEq, Prod.mk.injEq] at h; obtain ⟨_, rfl⟩ := h; simp [Mem.push, Mem.set, Mem.keep])

theorem evalApp_next [Ctxt] {P : Program} {lim : Nat} {M M' : Mem} {t u : TypeId} {s x v : CV} (h : evalApp P lim M t u s x = some (v, M')) : M.next ≤ M'.next := by
  unfold evalApp at h
  simp only [Bool.cond_eq_ite] at h
  repeat' split at h
  all_goals first | (cases h; done) | (exact evalAppend_next h) | (simp only [Option.some.injEq, Prod.mk.injEq] at h; obtain ⟨_, rfl⟩ := h; simp [Mem.push])

def CallNext (call : CallFn) : Prop := ∀ lim f args M v M', call lim f args M = some (v, M') → M.next ≤ M'.next

theorem withM_next [Ctxt] {M M' : Mem} {o : Option CV} {v : CV} (h : withM M o = some (v, M')) : M.next ≤ M'.next := by
  rw [(withM_some h).2]; exact Nat.le_refl _

theorem evalMem_next [Ctxt] {P : Program} {call : CallFn} (hcall : CallNext call) {lim : Nat} {T : Fr} {M M' : Mem} {op : Op} {v : CV} (h : evalMem P call lim T M op = some (v, M')) : M.next ≤ M'.next := by
  unfold evalMem at h
  split at h
  · simp at h; rw [h.2]; exact Nat.le_refl _
  · simp at h; rw [h.2]; exact Nat.le_refl _
  · unfold evPick at h
    split at h
    · simp at h; rw [h.2]; exact Nat.le_refl _
    · cases h
  · unfold evAlloc at h
    split at h
    · cases h
    · simp at h; rw [← h.2]; simp [Mem.push]
  · simp at h; rw [← h.2]; simp [Mem.push]
  · unfold evLoad at h
    split at h
    · exact withM_next h
    · cases h
  · unfold evStore at h
    split at h
    · obtain ⟨M1, h1, h2⟩ := optMap_some h
      cases h2
      rw [evalStore_next h1]; exact Nat.le_refl _
    · cases h
  · unfold evNil at h
    split at h
    · simp at h; rw [h.2]; exact Nat.le_refl _
    · simp at h; rw [h.2]; exact Nat.le_refl _
    · cases h
  · simp at h; rw [h.2]; exact Nat.le_refl _
  · unfold evField at h
    split at h
    · exact withM_next h
    · cases h
  · unfold evIndexA at h
    split at h
    · exact withM_next h
    · cases h
  · exact withM_next h
  · unfold evMake at h
    split at h
    · exact evalMake_next h
    · cases h
  · unfold evBuildS at h
    split at h
    · rename_i r hr
      cases h; exact evalBuildC_next hr
    · unfold evBuildO at h
      rw [Bool.cond_eq_ite] at h
      split at h
      · exact evalBuildSlice_next h
      · cases h
  · unfold evExtract at h
    split at h
    · exact withM_next h
    · cases h
  · unfold evBin at h
    split at h
    · simp at h; rw [h.2]; exact Nat.le_refl _
    unfold evBin0 at h
    split at h
    · rw [Bool.cond_eq_ite] at h
      repeat' split at h
      all_goals first | (cases h; done) | (simp at h; rw [h.2]; exact Nat.le_refl _)
    · cases h
    · split at h
      · simp at h; rw [h.2]; exact Nat.le_refl _
      · cases h
    · cases h
  · unfold evConv at h
    repeat' split at h
    all_goals first | (cases h; done) | (simp at h; rw [h.2]; exact Nat.le_refl _) | (simp at h; rw [← h.2]; simp [Mem.push])
  · unfold evCallOp at h
    split at h
    · unfold evalCall at h
      simp only [Bool.cond_eq_ite] at h
      repeat' split at h
      all_goals first | (cases h; done) | exact hcall _ _ _ _ _ _ h
    · unfold evalBuiltin at h
      repeat' split at h
      all_goals first | (cases h; done) | (exact evalApp_next h) | (simp at h; rw [h.2]; exact Nat.le_refl _)
    · cases h
  · cases h

theorem evalOp_next [Ctxt] {P : Program} {call : CallFn} (hcall : CallNext call) {lim : Nat} {T : Fr} {M M' : Mem} {o : Oper} {v : CV} (h : evalOp P call lim T M o = some (v, M')) : M.next ≤ M'.next := by
  unfold evalOp at h
  split at h
  · rename_i r hr
    cases h; exact evalMem_next hcall hr
  · unfold evalSlow at h
    split at h
    · simp at h; rw [h.2]; exact Nat.le_refl _
    split at h
    · simp at h; rw [h.2]; exact Nat.le_refl _
    · cases h

/-! ### A plain region -/
theorem evalOps_next [Ctxt] {P : Program} {call : CallFn} (hcall : CallNext call) {lim : Nat} {ops : Array Oper} : ∀ (l : List Oper) (T T' : Fr) (M M' : Mem), evalOps P call lim ops l T M = some (T', M') → M.next ≤ M'.next
  | [], T, T', M, M', h => by simp [evalOps] at h; rw [h.2]; exact Nat.le_refl _
  | o :: r, T, T', M, M', h => by
    simp only [evalOps, Bool.cond_eq_ite] at h
    split at h
    · unfold opsPut at h
      split at h
      · cases h
      · rename_i q hq
        exact Nat.le_trans (evalOp_next hcall (v := q.1) (M' := q.2) hq) (evalOps_next hcall r _ _ _ _ h)
    · exact evalOps_next hcall r _ _ _ _ h

theorem evalOps_ok [Ctxt] {P : Program} {call : CallFn} (hnext : CallNext call) (hcall : CallOK P call) {lim : Nat} {ops : Array Oper} {Q : Exit → Act → World → Prop} : ∀ (l : List Oper) (T T' : Fr) (M M' : Mem), evalOps P call lim ops l T M = some (T', M') →
    ∀ (e : Env) (a : Act) (w : World), DT e T a → a.defers = [] → Rep e M w → (Ctxt.pin ≤ lim ∧ lim ≤ M.next) → (∀ i, M.next ≤ i → i < M'.next → e i = none) →
    (∀ e' a' w', DT e' T' a' → a'.defers = [] → Post lim e M w e' M' w' → Q .normal a' w') → wpList P ops Q l a w
  | [], T, T', M, M', h, e, a, w, hT, hd, hR, _, _, hQ => by
    simp [evalOps] at h
    obtain ⟨rfl, rfl⟩ := h
    exact hQ e a w hT hd (.refl hR)
  | o :: r, T, T', M, M', h, e, a, w, hT, hd, hR, hl, hn, hQ => by
    simp only [evalOps, Bool.cond_eq_ite] at h
    unfold wpList
    have hy : Region.wanted o (yieldC ops T) = Region.wanted o (yielded ops a.tmps) := by
      congr 1
      funext j
      exact yieldC_eq hT ops j
    rw [hy] at h
    split at h
    · rename_i hw
      rw [if_pos hw]
      unfold opsPut at h
      split at h
      · cases h
      · rename_i q hq
        have n1 := evalOp_next hnext (v := q.1) (M' := q.2) hq
        have n2 := evalOps_next hnext r _ _ _ _ h
        refine .inl (evalOp_ok hcall (v := q.1) (M' := q.2) hq hT hR hl (fun i h1 h2 => hn i h1 (by omega)) _ _ fun e1 w1 u hu hp => ?_)
        exact evalOps_ok hnext hcall r _ _ _ _ h e1 _ w1 ((hT.mono hp.le).putC hu o.dst) (by rw [put_defers]; exact hd) hp.rep (by omega)
          (fun i h1 h2 => by rw [hp.env i (.inr h1)]; exact hn i (by omega) h2) (fun e' a' w' hT' hd' hp' => hQ e' a' w' hT' hd' (hp.trans hp'))
    · rename_i hw
      rw [if_neg hw]
      exact evalOps_ok hnext hcall r _ _ _ _ h e _ w (hT.putC rfl o.dst) (by rw [put_defers]; exact hd) hR hl hn hQ

end Go.Ev
