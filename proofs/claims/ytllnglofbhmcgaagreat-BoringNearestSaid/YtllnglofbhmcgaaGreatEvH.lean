/- A closed call is worked out by a program of its own: names only grow; a plain region. -/
import Derived.Test.YtllnglofbhmcgaaGreatEvG
namespace Go.Ev
set_option linter.unusedSimpArgs false

theorem evalStore_next {P : Program} {lim : Nat} {M M' : Mem} {t : TypeId} {i off : Nat} {v : CV} (h : evalStore P lim M t i off v = some M') : M'.next = M.next := by
  unfold evalStore at h
  split at h
  · cases h
  · split at h
    · cases h
    · dsimp only at h
      rw [Bool.cond_eq_ite] at h
      split at h
      · simp at h; subst h; rfl
      · cases h

theorem evalMake_next {P : Program} {M M' : Mem} {t : TypeId} {l c : Value} {v : CV} (h : evalMake P M t l c = some (v, M')) : M.next ≤ M'.next := by
  unfold evalMake at h
  simp only [Bool.cond_eq_ite] at h
  repeat' split at h
  all_goals first | (cases h; done) | (simp at h; obtain ⟨_, rfl⟩ := h; simp [Mem.push])

theorem evalBuildSlice_next {P : Program} {M M' : Mem} {t : TypeId} {n : Nat} {l : List (Nat × Value)} {v : CV} (h : evalBuildSlice P M t n l = some (v, M')) : M.next ≤ M'.next := by
  unfold evalBuildSlice at h
  simp only [Bool.cond_eq_ite] at h
  repeat' split at h
  all_goals first | (cases h; done) | (simp at h; obtain ⟨_, rfl⟩ := h; simp [Mem.push])

theorem evalBuildC_next {P : Program} {M M' : Mem} {t : TypeId} {n : Nat} {l : List (Nat × CV)} {v : CV} (h : evalBuildC P M t n l = some (v, M')) : M.next ≤ M'.next := by
  unfold evalBuildC at h
  simp only [Bool.cond_eq_ite] at h
  repeat' split at h
  all_goals first | (cases h; done) | (simp at h; obtain ⟨_, rfl⟩ := h; simp [Mem.push])

theorem evalAppend_next {P : Program} {lim : Nat} {M M' : Mem} {t : TypeId} {s : CV} {src : Nat → Option (List CV)} {m : Nat} {v : CV} (h : evalAppend P lim M t s src m = some (v, M')) : M.next ≤ M'.next := by
  unfold evalAppend at h
  simp only [Bool.cond_eq_ite] at h
  repeat' split at h
  all_goals first | (cases h; done) | (simp only [Option.some.injEq, Prod.mk.injEq] at h; obtain ⟨_, rfl⟩ := h; simp [Mem.push, Mem.set, Mem.keep])

theorem evalApp_next [Ctxt] {P : Program} {lim : Nat} {M M' : Mem} {t u : TypeId} {s x v : CV} (h : evalApp P lim M t u s x = some (v, M')) : M.next ≤ M'.next := by
  unfold evalApp at h
  simp only [Bool.cond_eq_ite] at h
  repeat' split at h
  all_goals first | (cases h; done) | (exact evalAppend_next h) | (simp only [Option.some.injEq, Prod.mk.injEq] at h; obtain ⟨_, rfl⟩ := h; simp [Mem.push])

theorem evalClear_next {P : Program} {lim : Nat} {M M' : Mem} {t : TypeId} {x v : CV} (h : evalClear P lim M t x = some (v, M')) : M.next ≤ M'.next := by
  unfold evalClear at h
  repeat' split at h
  all_goals first | (cases h; done) | (simp at h; rw [h.2]; exact Nat.le_refl _) | (rw [evalWrite_next (wrote_some h).2]; exact Nat.le_refl _)
theorem evalUStr_next {P : Program} {lim : Nat} {M M' : Mem} {t : TypeId} {x n v : CV} (h : evalUStr P lim M t x n = some (v, M')) : M.next ≤ M'.next := by
  unfold evalUStr at h
  simp only [Bool.cond_eq_ite] at h
  repeat' split at h
  all_goals first | (cases h; done) | (simp at h; rw [← h.2]; exact Nat.le_refl _)
theorem evalCopy_next {P : Program} {lim : Nat} {M M' : Mem} {t : TypeId} {d s v : CV} (h : evalCopy P lim M t d s = some (v, M')) : M.next ≤ M'.next := by
  unfold evalCopy at h
  repeat' split at h
  all_goals first | (cases h; done) | (simp at h; rw [h.2]; exact Nat.le_refl _) | (rw [evalWrite_next (wrote_some h).2]; exact Nat.le_refl _) | skip
  have hw := (wrote_some h).2
  rw [Bool.cond_eq_ite] at hw
  split at hw
  · rw [evalWrite_next hw]; exact Nat.le_refl _
  · cases hw
theorem updC_next {P : Program} {lim : Nat} {M M' : Mem} {t : TypeId} {x k v : CV} (h : updC P lim M t x k v = some M') : M'.next = M.next := by
  unfold updC at h
  simp only [Bool.cond_eq_ite] at h
  repeat' split at h
  all_goals first | (cases h; done) | skip
  unfold updM at h
  simp only [Bool.cond_eq_ite] at h
  repeat' split at h
  all_goals first | (cases h; done) | (simp at h; rw [← h]; rfl)
def CallNext (call : CallFn) : Prop := ∀ lim f args M v M', call lim f args M = some (v, M') → M.next ≤ M'.next

theorem withM_next [Ctxt] {M M' : Mem} {o : Option CV} {v : CV} (h : withM M o = some (v, M')) : M.next ≤ M'.next := by
  rw [(withM_some h).2]; exact Nat.le_refl _

theorem evalMem_next [Ctxt] {P : Program} {call : CallFn} (hcall : CallNext call) {lim : Nat} {T : Fr} {M M' : Mem} {op : Op} {v : CV} (h : evalMem P call lim T M op = some (v, M')) : M.next ≤ M'.next := by
  unfold evalMem at h
  split at h
  · simp at h; rw [h.2]; exact Nat.le_refl _
  · simp at h; rw [h.2]; exact Nat.le_refl _
  · unfold evPick at h
    split at h
    · simp at h; rw [h.2]; exact Nat.le_refl _
    · cases h
  · unfold evAlloc at h
    split at h
    · cases h
    · simp at h; rw [← h.2]; simp [Mem.push]
  · simp at h; rw [← h.2]; simp [Mem.push]
  · unfold evLoad at h
    split at h
    · exact withM_next h
    · cases h
  · unfold evStore at h
    split at h
    · obtain ⟨M1, h1, h2⟩ := optMap_some h
      cases h2
      rw [evalStore_next h1]; exact Nat.le_refl _
    · cases h
  · unfold evNil at h
    split at h
    · simp at h; rw [h.2]; exact Nat.le_refl _
    · simp at h; rw [h.2]; exact Nat.le_refl _
    · cases h
  · simp at h; rw [h.2]; exact Nat.le_refl _
  · unfold evField at h
    split at h
    · exact withM_next h
    · cases h
  · unfold evIndexA at h
    split at h
    · exact withM_next h
    · cases h
  · exact withM_next h
  · unfold evMake at h
    split at h
    · exact evalMake_next h
    · cases h
  · unfold evBuildS at h
    split at h
    · rename_i r hr
      cases h; exact evalBuildC_next hr
    · unfold evBuildO at h
      rw [Bool.cond_eq_ite] at h
      split at h
      · exact evalBuildSlice_next h
      · cases h
  · unfold evExtract at h
    split at h
    · exact withM_next h
    · cases h
  · unfold evBin at h
    split at h
    · simp at h; rw [h.2]; exact Nat.le_refl _
    unfold evBin0 at h
    split at h
    · rw [Bool.cond_eq_ite] at h
      repeat' split at h
      all_goals first | (cases h; done) | (simp at h; rw [h.2]; exact Nat.le_refl _)
    · cases h
    · split at h
      · simp at h; rw [h.2]; exact Nat.le_refl _
      · cases h
    · cases h
  · unfold evConv at h
    repeat' split at h
    all_goals first | (exact withM_next h) | (cases h; done) | (simp at h; rw [h.2]; exact Nat.le_refl _) | (simp at h; rw [← h.2]; simp [Mem.push])
  · unfold evCallOp at h
    split at h
    · unfold evalCall at h
      simp only [Bool.cond_eq_ite] at h
      repeat' split at h
      all_goals first | (cases h; done) | exact hcall _ _ _ _ _ _ h
    · unfold evalBuiltin at h
      repeat' split at h
      all_goals first | (cases h; done) | (exact evalApp_next h) | (exact withM_next h) | (exact evalClear_next h) | (exact evalCopy_next h) | (exact evalUStr_next h) | (simp at h; rw [h.2]; exact Nat.le_refl _)
    · cases h
  · unfold evFld at h
    split at h
    · exact withM_next h
    · cases h
  · unfold evIdx at h
    split at h
    · exact withM_next h
    · cases h
  · unfold evBld at h
    rw [Bool.cond_eq_ite] at h
    split at h
    · cases h
    · exact withM_next h
  · unfold mkMapC at h
    repeat' split at h
    all_goals first | (cases h; done) | (simp at h; rw [← h.2]; simp [Mem.push])
  · exact withM_next h
  · rw [updC_next (wrote_some h).2]; exact Nat.le_refl _
  · rw [updC_next (wrote_some h).2]; exact Nat.le_refl _
  · unfold rangeC at h
    repeat' split at h
    all_goals first | (cases h; done) | (simp at h; rw [← h.2]; simp [Mem.push])
  · unfold nextC at h
    simp only [Bool.cond_eq_ite] at h
    repeat' split at h
    all_goals first | (cases h; done) | (simp at h; rw [← h.2]; exact Nat.le_refl _)
  · cases h

theorem evalOp_next [Ctxt] {P : Program} {call : CallFn} (hcall : CallNext call) {lim : Nat} {T : Fr} {M M' : Mem} {o : Oper} {v : CV} (h : evalOp P call lim T M o = some (v, M')) : M.next ≤ M'.next := by
  unfold evalOp at h
  split at h
  · rename_i r hr
    cases h; exact evalMem_next hcall hr
  split at h
  · rename_i r hr
    cases h; exact evalAbs_next hr
  · unfold evalSlow at h
    split at h
    · simp at h; rw [h.2]; exact Nat.le_refl _
    split at h
    · simp at h; rw [h.2]; exact Nat.le_refl _
    · cases h

/-! ### A plain region -/
/-- What a round must do. -/
def YldOK [Ctxt] (P : Program) (yld : YldFn) : Prop :=
  ∀ lim l args M v M', yld lim l args M = some (v, M') → M.next ≤ M'.next ∧ ∀ (e : Env) (w : World) (xs : List Value), denL e args = some xs → Rep e M w → (Ctxt.pin ≤ lim ∧ lim ≤ M.next) → (∀ i, M.next ≤ i → i < M'.next → e i = none) →
      ∃ p fn tmps assign body, e l = some p ∧ (Instr.yield p.1 xs.toArray).run P w = .ok (.round p.1 fn tmps assign body) w ∧
        ∀ (ro : Option Nat) (n : Nat) (R : Ending → World → Prop), (∀ e' w' u, den e' v = some u → Post lim e M w e' M' w' → R (.returned u) w') → RoundIn (FW ro) n P p.1 fn tmps assign body w R
theorem yieldOf_some {T : Fr} {o : Oper} {q : Nat × List Operand} (h : yieldOf T o = some q) : ∃ c f, o.op = .call c ∧ c.callee = .value f ∧ opd T f = .yl q.1 ∧ q.2 = c.args.toList := by
  unfold yieldOf at h
  split at h
  · rename_i c hc
    split at h
    · rename_i f hf
      split at h
      · rename_i l hl
        cases h
        exact ⟨c, f, hc, hf, hl, rfl⟩
      · cases h
    · cases h
  · cases h
theorem evalOpY_next [Ctxt] {P : Program} {call : CallFn} {yld : YldFn} (hcall : CallNext call) (hy : YldOK P yld) {lim : Nat} {T : Fr} {M M' : Mem} {o : Oper} {v : CV} (h : evalOpY P call yld lim T M o = some (v, M')) : M.next ≤ M'.next := by
  unfold evalOpY at h
  split at h
  · exact (hy _ _ _ _ _ _ h).1
  · exact evalOp_next hcall h
theorem evalOpY_ok [Ctxt] {P : Program} {call : CallFn} {yld : YldFn} (hcall : CallOK P call) (hy : YldOK P yld) {lim : Nat} {T : Fr} {M M' : Mem} {o : Oper} {v : CV} (h : evalOpY P call yld lim T M o = some (v, M')) {e : Env} {a : Act} {w : World} (hT : DT e T a) (hR : Rep e M w) (hl : Ctxt.pin ≤ lim ∧ lim ≤ M.next) (hn : ∀ i, M.next ≤ i → i < M'.next → e i = none) : OpOK P o lim e M w a v M' := by
  unfold evalOpY at h
  split at h
  · rename_i q hq
    obtain ⟨c, f, hc, hf, hl', hq2⟩ := yieldOf_some hq
    obtain ⟨p, fn, tmps, assign, body, hp, hrun, hround⟩ := (hy _ _ _ _ _ _ h).2 e w _ (denL_map_opd hT q.2) hR hl hn
    have hfv : a.eval f = .func (.yield p.1) #[] #[] := by
      have := den_opd hT f
      rw [hl'] at this
      simp only [den, hp, Option.map_some, Option.some.injEq] at this
      exact this.symm
    have hargs : (q.2.map a.eval).toArray = c.args.map a.eval := by rw [hq2]; apply Array.ext'; simp
    rw [hargs] at hrun
    have hx : (execOp a.eval o).run P w = .ok (.round p.1 fn tmps assign body) w := by
      unfold execOp
      rw [hc]
      simp [resolve, hf, hfv, Deferred.ofValue, invoke, callFunc, hrun, Sem.run_bind, Result.andThen]
    intro ro n K Q hK
    refine ⟨fun _ _ => trivial, ?_⟩
    show Oper.uponIn _ _ _ _ _ _ _ ((Oper.semAt ro a.eval _).run P w)
    rw [semAt_of hx (fun _ h => by cases h), hx]
    exact ⟨(fun h => by cases h), hround ro _ _ (fun e' w' u hu hpost => hK e' w' u hu hpost)⟩
  · exact evalOp_ok hcall h hT hR hl hn

theorem evalOps_next [Ctxt] {P : Program} {call : CallFn} {yld : YldFn} (hcall : CallNext call) (hyl : YldOK P yld) {lim : Nat} {ops : Array Oper} : ∀ (l : List Oper) (T T' : Fr) (M M' : Mem), evalOps P call yld lim ops l T M = some (T', M') → M.next ≤ M'.next
  | [], T, T', M, M', h => by simp [evalOps] at h; rw [h.2]; exact Nat.le_refl _
  | o :: r, T, T', M, M', h => by
    simp only [evalOps, Bool.cond_eq_ite] at h
    split at h
    · unfold opsPut at h
      split at h
      · cases h
      · rename_i q hq
        exact Nat.le_trans (evalOpY_next hcall hyl (v := q.1) (M' := q.2) hq) (evalOps_next hcall hyl r _ _ _ _ h)
    · exact evalOps_next hcall hyl r _ _ _ _ h

theorem evalOps_ok [Ctxt] {P : Program} {call : CallFn} {yld : YldFn} (hnext : CallNext call) (hcall : CallOK P call) (hyl : YldOK P yld) {lim : Nat} {ops : Array Oper} {Q : Exit → Act → World → Prop} : ∀ (l : List Oper) (T T' : Fr) (M M' : Mem), evalOps P call yld lim ops l T M = some (T', M') →
    ∀ (e : Env) (a : Act) (w : World), DT e T a → DF e T a → Rep e M w → (Ctxt.pin ≤ lim ∧ lim ≤ M.next) → (∀ i, M.next ≤ i → i < M'.next → e i = none) →
    (∀ e' a' w', DT e' T' a' → DF e' T' a' → Post lim e M w e' M' w' → Q .normal a' w') → ∀ (ro : Option Nat) (nn : Nat), wpListIn (FW ro) nn P ops Q l a w
  | [], T, T', M, M', h, e, a, w, hT, hd, hR, _, _, hQ, ro, nn => by
    simp [evalOps] at h
    obtain ⟨rfl, rfl⟩ := h
    exact hQ e a w hT hd (.refl hR)
  | o :: r, T, T', M, M', h, e, a, w, hT, hd, hR, hl, hn, hQ, ro, nn => by
    simp only [evalOps, Bool.cond_eq_ite] at h
    unfold wpListIn
    have hy : Region.wanted o (yieldC ops T) = Region.wanted o (yielded ops a.tmps) := by
      congr 1
      funext j
      exact yieldC_eq hT ops j
    rw [hy] at h
    split at h
    · rename_i hw
      rw [if_pos hw]
      unfold opsPut at h
      split at h
      · cases h
      · rename_i q hq
        have n1 := evalOpY_next hnext hyl (v := q.1) (M' := q.2) hq
        have n2 := evalOps_next hnext hyl r _ _ _ _ h
        refine (evalOpY_ok hcall hyl (v := q.1) (M' := q.2) hq hT hR hl (fun i h1 h2 => hn i h1 (by omega)) ro nn _ _ fun e1 w1 u hu hp => ?_)
        exact evalOps_ok hnext hcall hyl r _ _ _ _ h e1 _ w1 ((hT.mono hp.le).putC hu o.dst) (hd.putC hp.le o.dst u q.1) hp.rep (by omega)
          (fun i h1 h2 => by rw [hp.env i (.inr h1)]; exact hn i (by omega) h2) (fun e' a' w' hT' hd' hp' => hQ e' a' w' hT' hd' (hp.trans hp')) ro nn
    · rename_i hw
      rw [if_neg hw]
      exact ⟨fun _ _ => trivial, evalOps_ok hnext hcall hyl r _ _ _ _ h e _ w (hT.putC rfl o.dst) (hd.putC (.refl e) o.dst _ _) hR hl hn hQ ro nn⟩

end Go.Ev
